import PyProof.Rows.All
import Wide.All
import OpenK.AllK
import Wide.FinOn
import Lean
import PyProof.EqAt
import PyProof.EqKinds
import PyProof.TupleCall
import PyProof.AttrMissHeap
import KE.KEqDict
import KE.KItemsList
import PyProof.WalksMore
import PyProof.TupleOfStr
import PyProof.DictWalks
import PyProof.WalkInts
import PyProof.ExcClass3
import PyProof.StationsW
import OpenK.KCall
import PyProof.RulesAs
import PyProof.Ns1
import PyProof.InstStoreFacts
import PyProof.ExcBaseAll.ValueError
import PyProof.ExcArgs
import KE.KIsAll
import PyProof.Rows.CountFlat
import PyProof.StrBlockL
import OpenK.KTop
import PyProof.StrLawsTight
import PyProof.Rows.StrFin3
import KE.KUnpackStar
import PyProof.Conv_int_bool
import PySem.Challenge.RW_mergetree_k73_whole_sheets_walked
set_option maxHeartbeats 4000000
set_option maxRecDepth 100000
open PySem renaming Value->ae,Addr->aa,wpAny_bind->am,Shared->aj,sizeLine->aq,Str->ah,wpAny_pure->aB,PyData->aJ,wpAny->av,Program->aw,starEach->aE,mainGlobals->aM,model->aA,Heap->aI,Around->aD,World->aF,Expr->aK,NameKind->aT,Stmt->aL,Builtin->be,compareOp->aS,sliceBounds->dE,wpAny_holding->ba,PassesOwn->bj,Obj->aN,wpAny_seqItems->bi,wpAny_field->bb,sizeLine_eq->aP,assignEach->bV,compEnvC->bJ,attributeBase->bB,wpAny_setField_rec->bR,sysModules->bA,wpAny_passesOwn->bZ,wpAny_truthy_bool->bp,strIterType->bT,foldedSetIterable->b8,codeAny->bI,Scope->bn,backTo->bg,wpAny_getItem_str_slice->cu,FuncData->bx,wpAny_standAt->bC,wpAny_pyIter_list->b9,wpAny_newObj_type->bw,bootBuiltins->cV,wpAny_mono->aX,wpAny_Call_Name_kw->bh,tupleKind_room_in1->cy,wpAny_letGo->cP,wpAny_Call_method0_late->dP,keywordEach->bU,wpAny_tryCatch->cm,letOwnedTupleGo->dF
open Option renaming some->U,none->af
local macro_rules(kind:=Lean.Parser.Command.mutual)
|s=>if !s[1][0][1].getKind==``Lean.Parser.Command.example then Lean.Macro.throwUnsupported else
 let N:=fun k c=>Lean.Syntax.node .none k c
 let A:=fun v=>Lean.Syntax.atom .none v
 let L:=fun c=>N `null c
 let key:=fun (a:Array Lean.Syntax)=>let k:=a.getD 0 .missing;k.getId.toString++(if k.isIdent then "" else (k.isNatLit?.getD 0).repr)++"/"++a.size.repr
 let put:=fun (f:Lean.Syntax→Lean.Syntax) (s:Lean.Syntax)=>s.rewriteBottomUp f
 let par:=fun (c:Lean.Syntax)=>N ``Lean.Parser.Tactic.paren #[A "(",c[1],A ")"]
 let sub:=fun (t:Lean.Data.Trie (Array Lean.Name×Lean.Syntax))=>put fun s=>
  let look:=fun (a:Array Lean.Syntax)=>match t.find? (key a) with
   |some (p,b)=>if p.isEmpty then b else put (fun v=>match v with|.ident _ _ n _=>(match p.idxOf? n with|some i=>a[i+1]!|none=>v)|_=>v) b
   |none=>s
  match s with
  |.ident _ r n _=>if n.toString.front.toNat>191 then look #[s] else .ident .none r n []
  |.atom _ v=>A v
  |.node _ k c=>
   if k==`«term#[_,]» then look s[1].getSepArgs
   else if k==``Lean.Parser.Command.declaration&&(s[1].getKind==``Lean.Parser.Command.definition||s[1].getKind==``Lean.Parser.Command.abbrev||s[1].getKind==``Lean.Parser.Command.instance) then s.setArg 0 (s[0].setArg 4 (L #[N ``Lean.Parser.Command.noncomputable #[A "noncomputable"]]))
   else if k==``Lean.Parser.Tactic.rwSeq&&s[3].getNumArgs==0 then
    let a:=s[2][1].getSepArgs
    if a.any (·[0].getNumArgs>0) then s else
    let a:=a.map (·[1])
    let b:=if a.size==1&&(a.getD 0 s).getKind==``Lean.Parser.Term.byTactic then a.getD 0 s else look a
    if b.getKind==``Lean.Parser.Term.byTactic then par b else s
   else if k==``Lean.Parser.Tactic.show&&s[1].getKind==``Lean.Parser.Term.byTactic then par s[1]
   else if k==``Lean.Parser.Term.tuple&&s[1].getNumArgs>0&&s[1][2].getNumArgs%2==1 then
    N ``Lean.Parser.Term.anonymousCtor #[A "⟨",L (#[s[1][0],A ","]++s[1][2].getArgs),A "⟩"]
   else if k==``Lean.Parser.Tactic.obtain&&s[1][0][0].getNumArgs>1 then
    let lo:=fun q=>N ``Lean.Parser.Tactic.rcasesPatMed #[L #[q]]
    s.setArg 1 (L #[lo (N ``Lean.Parser.Tactic.rcasesPat.tuple #[A "⟨",Lean.Syntax.mkSep (s[1][0][0].getSepArgs.map fun q=>N ``Lean.Parser.Tactic.rcasesPatLo #[lo q,L #[]]) (A ","),A "⟩"])])
   else s
  |_=>s
 let x:=fun (c:Lean.Syntax)=>c[1][2][1][1].getSepArgs
 let t:=(x s[1][0]).foldl (fun t y=>
  let a:=y[1].getSepArgs
  t.insert (key a.pop) ((a.extract 1 (a.size-1)).map (·.getId),sub t a.back!)) {}
 let r:=s[1].getArgs.foldl (fun r c=>
  if c[1].getKind==``Lean.Parser.Command.example then (if r.isEmpty then r else (x c).foldl (fun q y=>q.push (r.back!.setArg 1 (r.back![1].setArg 1 (N ``Lean.Parser.Command.declId #[Lean.mkIdent (.mkSimple s!"tw{y.isNatLit?.getD 0}"),L #[]])))) r)
  else if c.getKind==``Lean.Parser.Command.universe then
   let n:=c[1][0].getId
   r.push (N ``Lean.Parser.Command.end #[A "end",L (if n==`E then #[] else #[Lean.mkIdent (n.replacePrefix `E .anonymous),L #[]])])
  else r.push (sub t c)) #[]
 return L r
mutual
example:=#[#[À,List],
#[Â,base],
#[Ã,Option],
#[Ä,V.str],
#[Æ,if_neg],
#[Ç,absurd],
#[È,if_pos],
#[É,SqL.of],
#[Ë,cons],
#[Î,X.env],
#[Ï,s.heap.objs.size],
#[Ð,s.heap],
#[Ñ,Bool],
#[Ò,data],
#[Ö,e.ss],
#[Ø,heap],
#[Ú,xs.length],
#[Û,outer],
#[Ý,Qe.mp],
#[Þ,h.get?],
#[ß,Qi.mp],
#[ã,T.cl_Merge],
#[ä,e.nm],
#[ç,X.xe],
#[è,ae.ref],
#[é,I.hok],
#[ì,s.heap.get?],
#[í,V.int],
#[ï,toks],
#[ò,X.prog],
#[õ,V.ref],
#[û,kvs.length],
#[ÿ,prog],
#[Ā,h'.get?],
#[ā,SqT.of],
#[ă,eval],
#[Ć,rest],
#[Ĉ,X.nb],
#[ĉ,Array],
#[Ċ,keep],
#[Č,D.nx],
#[č,ys.length],
#[đ,decide_eq_true],
#[Ē,False],
#[ē,PySem.W.kitOne],
#[Ĕ,ah.join],
#[ĕ,x.length],
#[ė,snoc],
#[ę,X.mg],
#[Ě,I.kIn],
#[Ĝ,sortedS],
#[ĝ,s.length],
#[ğ,X.li],
#[Ġ,X.lo],
#[ġ,Od.txt],
#[ģ,N.length],
#[ĥ,L.map],
#[ħ,QK.mp],
#[ĩ,ns.length],
#[Ī,of_decide_eq_true],
#[ī,PySem.W.nsIn],
#[Ĭ,small],
#[ĭ,take],
#[Į,Qh.mp],
#[ı,K.lookup],
#[Ĳ,PySem.W.findIn],
#[ĳ,a.length],
#[Ĵ,D.at'],
#[Ķ,X.rd],
#[ĸ,String],
#[ĺ,X.env.locals],
#[Ļ,iter],
#[ļ,a.map],
#[Ľ,Qn.mp],
#[ľ,Zt16],
#[Ł,kitOne],
#[ł,R.map],
#[Ń,decide_eq_false],
#[ń,h.objs.size],
#[Ņ,c.length],
#[ņ,d.length],
#[ŉ,Y7.k'],
#[Ŋ,more],
#[ŋ,s.toks],
#[ō,Txt.join],
#[Ŏ,T.cl_Row],
#[ŏ,M.rows],
#[Ő,grow],
#[ő,drop],
#[Œ,b.length],
#[œ,PW.pt],
#[ŕ,congrArg],
#[ŗ,True],
#[Ř,X.base],
#[ř,I.tok],
#[Ś,z.length],
#[Ŝ,e.ss.length],
#[ŝ,its.toArray],
#[š,c.map],
#[Ţ,Zt32],
#[Ť,I.loc],
#[ŧ,call],
#[ũ,T.na_Merge_rows],
#[Ū,o.txt],
#[ū,rawInt],
#[ŭ,c.names.lookup],
#[Ů,l.length],
#[ů,rows],
#[ű,M.nd],
#[Ŵ,K.In],
#[ŵ,X.s₀.heap.objs.size],
#[Ŷ,HT.sIx],
#[Ÿ,j.heap.objs.size],
#[Ż,X.sd],
#[ż,ws.length],
#[Ž,S.nm],
#[ž,T.cl_Desk],
#[Γ,bj.never],
#[Δ,S.li],
#[Ζ,o.data],
#[Η,free],
#[Θ,X.stack],
#[Ι,I.bare],
#[Κ,Ne.symm],
#[Λ,cont],
#[Μ,True.intro],
#[Ξ,dict],
#[Ο,ss.length],
#[Ρ,ks.map],
#[Τ,wpAny_loadPart_at],
#[Υ,x.nm],
#[Φ,us.length],
#[Χ,X.env.cells.lookup],
#[Ψ,I.free],
#[Ω,I.ok],
#[β,items],
#[γ,s.heap.push],
#[ζ,kindOf],
#[η,IsPair],
#[ι,y.length],
#[ν,kitCls],
#[ξ,coming],
#[ο,D.sep],
#[π,I.cell],
#[ρ,I.pin],
#[ς,value],
#[υ,a.heap.objs.size],
#[ω,h.elim],
#[Àd,I.src_off],
#[Àf,d.map],
#[Àg,L.length],
#[Àh,L2.St],
#[Ài,excClassObj],
#[Ào,counts],
#[Àp,os.length],
#[Àq,X.fs],
#[Àr,I.len],
#[Às,I.freeC],
#[Àu,ps.length],
#[Àx,P.map],
#[Àz,G.length],
#[ÀC,h.len],
#[ÀD,h.up],
#[ÀE,bump],
#[ÀF,many],
#[ÀI,I.hr],
#[ÀJ,I.hd],
#[ÀK,ae.none],
#[ÀL,s₀],
#[ÀO,c.heap.objs.size],
#[ÀQ,f.toks],
#[ÀS,b.map],
#[ÀW,M.each],
#[ÀX,M.length],
#[ÀY,h.key],
#[À0,Od.take],
#[À3,s'.heap],
#[À4,I.turned],
#[À5,List.lookup],
#[À6,PySem.W.keepIn],
#[À7,I.laid],
#[Áb,keys],
#[Ád,wpAny_isSubtype_exc],
#[Áe,T.b.n_len],
#[Ák,D.rows],
#[Ál,Sum.inr],
#[Ám,ae.str],
#[Áo,slots],
#[Áp,I.ok.kind],
#[Áq,Model],
#[Át,I.ok.hd],
#[Áv,r.length],
#[Áx,List.replicate],
#[Áz,z.cps.toList],
#[ÁB,ks.length],
#[ÁD,Txt.split],
#[ÁE,ws.map],
#[ÁG,kitAny],
#[ÁJ,h.few],
#[ÁK,j.rows],
#[ÁL,noRow],
#[ÁM,noGrow],
#[ÁN,noDrop],
#[ÁO,T.na_Desk_merge],
#[ÁP,h.nmz],
#[ÁQ,W.flatten],
#[ÁU,holding],
#[ÁW,I.list],
#[ÁY,ah.empty],
#[Á0,A.units],
#[Á2,names],
#[Á3,f.length],
#[Á4,f.heap.objs.size],
#[Á6,z.cps],
#[Á7,j.extBut],
#[Á9,h0.get?],
#[Âg,M.few],
#[Âi,comNo],
#[Âj,D.stay],
#[Âl,o.first],
#[Âm,o.sw.length],
#[Ân,R.length],
#[Âo,G.map],
#[Âp,List.find?_cons],
#[Âq,Sum.inl],
#[Âs,X.outer],
#[Ât,X.env.kindOf],
#[Âu,assign],
#[Âw,I.kept],
#[Âx,X.env.scope.names.lookup],
#[Âz,cLine],
#[ÂC,ZB.refl],
#[ÂD,c.names],
#[ÂE,List.range],
#[ÂF,compPost],
#[ÂG,IsZip],
#[ÂH,i.extBut],
#[ÂI,aJ.eqv],
#[ÂJ,Keyed],
#[ÂK,r.map],
#[ÂN,l.map],
#[ÂO,T.na_Merge_best],
#[ÂU,D.mg.M],
#[ÂW,os.map],
#[ÂX,List.mem_cons],
#[ÂY,ae.int],
#[ÂZ,ae.type],
#[Â1,AllBare],
#[Â3,False.elim],
#[Â4,pyNext],
#[Â5,binaryOp],
#[Ãc,its.toArray.size],
#[Ãd,k.toNat],
#[Ãh,C.length],
#[Ãi,a.take],
#[Ãj,kvs.map],
#[Ãk,atKey],
#[Ãn,B.get?],
#[Ão,i.objs.size],
#[Ãs,But.same],
#[Ãw,M.same],
#[ÃF,Z4.nd],
#[ÃG,IsTup],
#[ÃH,fs.length],
#[ÃI,a.names.lookup],
#[ÃJ,I.hok.fresh],
#[ÃK,standAt],
#[ÃM,o.cls],
#[ÃS,getMethod],
#[ÃV,vs.length],
#[ÃW,hr.mono],
#[Ã2,wpAny_call],
#[Ã4,I.ok.mod.kin],
#[Ã6,bindL],
#[Ã7,bindC],
#[Ã8,envOfC],
#[Ã9,a.get?],
#[Äa,ns.map],
#[Äc,aT.free],
#[Äe,f.heap.push],
#[Äf,z.cps.size],
#[Äg,S.raw],
#[Äh,d.objs.size],
#[Äj,d.extBut],
#[Äk,c.objs.size],
#[Äl,SeqAt.shaped],
#[Äm,z.symm],
#[Än,A.in1],
#[Äo,d.take],
#[Äq,valueAt],
#[Äv,f.objs.size],
#[Äx,Q5.mp],
#[ÄG,aJ.canLay0],
#[ÄH,Spec.ltCps],
#[ÄJ,T.na_Row_all_keys],
#[ÄN,h.num],
#[ÄO,nm.map],
#[ÄP,B.few],
#[ÄR,T.na_Desk_numbers],
#[ÄT,ok.ndP],
#[ÄU,D.tup],
#[ÄX,ae.bool],
#[ÄY,Paired],
#[Ä0,PySem.W.instObj],
#[Ä1,QV.mp],
#[Ä2,GenState],
#[Ä3,Drawn],
#[Ä4,I.base],
#[Ä5,e.symm],
#[Åa,c.toks],
#[Åb,pyIter],
#[Åc,j.length],
#[Åd,fs.lookup],
#[Åe,PySem.W.isFn],
#[Åg,I.write],
#[Åh,s.TypeIs],
#[Åi,s.heap.update],
#[Åj,if_false],
#[Åk,vs.toArray],
#[Ål,callerA],
#[Åm,PySem.W.fnOf],
#[Åo,env.cells],
#[År,List.not_mem_nil],
#[Ås,or_false],
#[Åu,aJ.layable0],
#[Åv,k.length],
#[Åx,aN.mapFields],
#[Åz,X.mkd],
#[ÅC,join_plain_closes],
#[ÅD,a.objs.size],
#[ÅM,T.b.n_range],
#[ÅO,aJ.depth],
#[ÅP,k.symm],
#[ÅQ,aJ.eqvAll],
#[ÅV,best'],
#[ÅY,T.na_Merge_stays],
#[Å0,C.map],
#[Å5,T.b.n_str],
#[Å6,boot_str],
#[Å9,D.ok.ndN],
#[Æa,VQ.nd],
#[Æc,I.same],
#[Æd,Qi.mpr],
#[Æf,WB.nd],
#[Æh,List.lookup_cons],
#[Æi,Sum.inl.inj],
#[Æl,g.get?],
#[Æm,env.kindOf],
#[Æn,s.gens],
#[Æo,I.ok.noex],
#[Æp,I.base.free],
#[Æq,s.heap.FunFrames],
#[Ær,d.trans],
#[Æt,aI.SameBut],
#[Æw,I.tuple],
#[Æx,wpAny_execs_nil],
#[Æz,c.heap.push],
#[ÆA,c.heap],
#[ÆE,PySem.W.emptyDict],
#[ÆG,A.deeper],
#[ÆH,a.toks],
#[ÆI,BindsTo],
#[ÆK,I.ok.frames],
#[ÆL,codeAny_mono],
#[ÆN,bu.atName],
#[ÆO,callWith],
#[ÆR,P.length],
#[ÆS,S.kind],
#[ÆT,IntsAre],
#[ÆU,typeLookup],
#[ÆV,getItem],
#[ÆW,aN.mapSeq],
#[ÆX,if_true],
#[ÆZ,I.lstM],
#[Æ1,noteFrame],
#[Æ2,j.heap],
#[Æ3,List.length_nil],
#[Æ4,be.SmallTypes.nextOf],
#[Æ5,f.extBut],
#[Æ6,S2.raw_keep],
#[Æ7,l.extBut],
#[Æ8,h.push],
#[Æ9,S1.its],
#[Ça,S2.its],
#[Çc,PyProof.Rows.KeyKind],
#[Çd,SortKind],
#[Çe,SortSt],
#[Çi,a.elim],
#[Çk,B.symm],
#[Çp,w.cps.toList],
#[Çr,d.getD],
#[Çy,But.trans],
#[ÇE,of_decide_eq_false],
#[ÇH,aJ.canLayAll0],
#[ÇI,aJ.str],
#[ÇK,risingS],
#[ÇL,decide_eq_decide.mpr],
#[ÇN,T.na_Row_gone],
#[ÇO,Btr.total],
#[ÇP,Win.both],
#[ÇQ,N.headD],
#[ÇR,N.getLastD],
#[ÇS,QaI.mpr],
#[ÇU,h.rows],
#[ÇV,h.stays],
#[ÇY,M.stays],
#[Ç0,M.ne_sd],
#[Èb,ah.ofString],
#[Èk,o.sing],
#[Èl,o.furt],
#[Èo,c.drop],
#[Èr,W.drop],
#[Ès,d.drop],
#[Èt,W.take],
#[Èw,List.length_cons],
#[Èx,beq_eq_false_iff_ne.mpr],
#[Èy,xs.map],
#[Èz,PySem.Within],
#[ÈA,g.trans],
#[ÈB,Un.kept],
#[ÈC,base.Ns],
#[ÈD,X.base.get?],
#[ÈE,X.H₀],
#[ÈF,I.base.keep],
#[ÈG,I.ok.above],
#[ÈH,I.base.slot],
#[ÈI,I.ok.bsz],
#[ÈJ,I.base.frzs],
#[ÈK,I.step],
#[ÈL,o.slots],
#[ÈO,its.toList],
#[ÈP,pos.line],
#[ÈR,Operator],
#[ÈT,wpAny_rule],
#[ÈU,h.IsListIter],
#[ÈV,T.keep],
#[ÈX,i.length],
#[ÈZ,setAttr],
#[È1,A.under],
#[È2,Yi.some_of],
#[È4,PySem.W.specialIn],
#[È6,Nat.le_of_eq],
#[È8,d.hok.fresh],
#[È9,Result],
#[Éa,ps.zip],
#[Éd,Keyword],
#[Ée,PySem.W.codeIn],
#[Ég,d.typeIs],
#[Éh,ah.length],
#[Éi,typeIs_str],
#[Éo,call_meets],
#[Ép,I.fresh],
#[Ér,d.name],
#[Éu,a.getD],
#[Év,Or.inr],
#[Éw,Decidable],
#[Éx,d.names],
#[Éy,Bool.false_eq_true],
#[ÉD,bs.all],
#[ÉE,Src.at_keep],
#[ÉF,wpAny_setField],
#[ÉG,aN.data_mapFields],
#[ÉH,h.extBut],
#[ÉK,I.reads],
#[ÉL,m.extBut],
#[ÉM,ns.take],
#[ÉO,items.size],
#[ÉP,wpAny_updateSeq],
#[ÉR,checkBuiltinCall],
#[ÉS,QaX.mpr],
#[ÉW,call_meetsIn],
#[ÉZ,decide_eq_true_eq],
#[É1,Qam.mp],
#[É3,OsState],
#[É4,excMatches],
#[É5,a.dict],
#[É9,PySem.W.subIn],
#[Êa,w.params],
#[Êb,z.elim],
#[Êc,Txt.startswith],
#[Êd,PySem.IsL],
#[Ên,lcp_nil'],
#[Êu,T.b.n_isinstance],
#[Êv,boot_isinstance],
#[Êw,T.b.n_list],
#[Êx,boot_list],
#[Êy,aJ.depthAll],
#[ÊC,Win.both'],
#[ÊD,Win.congr],
#[ÊG,YF.one],
#[ÊJ,R.at'.ob],
#[ÊL,M1.rows],
#[ÊP,hM.mem],
#[ÊU,Mg.stays],
#[ÊW,nm.length],
#[ÊX,nm.filter],
#[Ê0,D.same],
#[Ê5,o.fw.length],
#[Ê7,o.deed],
#[Ê8,w.length],
#[Ëe,I.D.at'],
#[Ëf,I.D.rows],
#[Ëi,a.flatten],
#[Ël,D.flatten.length],
#[Ëm,List.size_toArray],
#[Ën,Sum.inr.inj],
#[Ëo,ae.float],
#[Ëq,Paired.mapP],
#[Ës,a.slots],
#[Ët,I.ok.mod],
#[Ëv,I.base.tups],
#[Ëx,I.base.tbls],
#[Ëy,s.drawn],
#[ËB,N.Nodup],
#[ËC,I.ok.has],
#[ËG,swapsWith],
#[ËH,assignInOrder_cons],
#[ËN,PySem.W.lookIn],
#[ËQ,PySem.W.plainGet],
#[ËT,A.depth],
#[ËU,aD.under],
#[ËV,Code.isFrame],
#[ËW,Calls.spliced_cons],
#[ËX,r.append],
#[Ë4,subscriptTail],
#[Ë5,subscripted],
#[Ë6,its.length],
#[Ë8,Calls.callWith_builtin],
#[Ìb,l.row.toRowW],
#[Ìd,hr.units],
#[Ìe,ForInStep.yield],
#[Ìf,N'.length],
#[Ìg,aT.cell],
#[Ìi,comprehension],
#[Ìj,newList],
#[Ìk,sep.length],
#[Ìl,Txt.mul],
#[Ìm,n.toNat],
#[Ìn,Txt.slice],
#[Ìp,Src.at_obj],
#[Ìq,wpAny_callSpecial?_slot],
#[Ìs,b.typeIs],
#[Ìt,F.slot_tuple_iterator_next],
#[Ìu,wpAny_call_entry],
#[Ìw,F.slot_zip_next],
#[Ìy,S2.at_keep],
#[Ìz,N.extBut],
#[ÌA,t.extBut],
#[ÌB,S1.value],
#[ÌC,S2.value],
#[ÌK,X.A.units],
#[ÌL,Nat.lt_trans],
#[ÌM,pendingOf],
#[ÌP,o.isSome],
#[ÌV,p.typeIs],
#[ÌZ,a.toList],
#[Ì2,storeInDict],
#[Ì5,List.map],
#[Ì9,occurrences],
#[Íb,PySem.W.KeysLit],
#[Íe,items.toList.take],
#[Íf,items.toList.drop],
#[Íh,yss.length],
#[Íx,aJ.strOk],
#[Íz,T.b.n_int],
#[ÍA,boot_int],
#[ÍQ,Win.sing],
#[ÍR,Win.left],
#[ÍS,Win.right],
#[ÍW,r.at'.ks],
#[ÍX,r.at'.fs],
#[ÍZ,T.na_Merge_likened],
#[Í1,uc.symm],
#[Í2,M1.each],
#[Í6,Nat.min_eq_left],
#[Í8,T.na_Merge_next_number],
#[Îa,T.b.n_sum],
#[Îb,boot_sum],
#[Îf,Rd.mono],
#[Îg,T.b.n_min],
#[Îh,boot_min],
#[Îi,J.trans],
#[Îl,Function.comp],
#[Îx,ss.drop],
#[Îy,a.natAbs],
#[ÎA,strLen_append],
#[ÎC,n.natAbs],
#[ÎF,nm.find?],
#[ÎG,S.nm.map],
#[ÎH,S.P.length],
#[ÎL,D.nmlen],
#[ÎM,D.mg.M.each],
#[ÎN,D.ok.nd],
#[ÎT,o.fw.map],
#[ÎW,p.length],
#[Î3,G.trans],
#[Î5,I.D.keep],
#[Î7,W.flatten.length],
#[Î8,HT.sIx_nat],
#[Ïe,Int.toNat_natCast],
#[Ïg,DecidableEq],
#[Ïh,Paired.length],
#[Ïi,ZH.append],
#[Ïp,List.mem_range.mpr],
#[Ïq,builtinsNs],
#[Ïr,env.cells.lookup],
#[Ïs,X.env.scope.kind],
#[Ït,X.s₀.heap.get?],
#[Ïu,X.env.scope],
#[Ïv,I.ok.exfs],
#[ÏC,storeName],
#[ÏG,wpAny_Name],
#[ÏJ,wpAny_execs_cons],
#[ÏK,assignInOrder],
#[ÏL,inplaceOp],
#[ÏM,assignInOrder_nil],
#[ÏP,unpackItems],
#[ÏR,wpAny_pyNext_list_item],
#[ÏS,I.list_inj],
#[ÏT,wpAny_pyNext_list_end],
#[ÏV,j.unpinned],
#[ÏZ,behindInMarks],
#[Ï3,beq_iff_eq.mp],
#[Ï4,PySem.W.takerIn],
#[Ï7,wpAny_nsSet1],
#[Ï8,wpAny_lookBehind],
#[Ï9,pastItsLine_dict],
#[Ða,PySem.W.hasDictIn],
#[Ðf,plainObj_wpAny_Assign_Attribute],
#[Ðh,Code.frames],
#[Ði,I.stkFree],
#[Ðl,PySem.W.callWith_K0],
#[Ðo,List.of_mem_zip],
#[Ðq,cellsFrom],
#[Ðt,a.heap.push],
#[Ðu,seqIndex_of],
#[Ðv,seqIndex_neg],
#[Ðx,its'.toArray],
#[Ðy,SeqAt.EqAt],
#[Ðz,List.all_cons],
#[ÐA,PlainAttrs],
#[ÐF,zs.length],
#[ÐK,c.heap.Ns],
#[ÐL,c.heap.get?],
#[ÐM,DictEntry],
#[ÐP,closureFor],
#[ÐQ,List.forIn_cons],
#[ÐS,X.env.cells],
#[ÐT,env.scope.kind],
#[ÐV,I.ok.glob],
#[ÐY,Walks.list],
#[Ð0,a.cps.size],
#[Ð1,Array.size_append],
#[Ð2,Nat.succ_mul],
#[Ð3,h.IsStrIter],
#[Ð4,aN.isFreed_of_fields],
#[Ð5,z.cps.all],
#[Ð7,wpAny_of_eq],
#[Ð8,wpAny_attempt],
#[Ð9,wpAny_updateSeq_pair],
#[Ña,D.TOi2.symm],
#[Ñb,D.TOz.symm],
#[Ñc,D.i1z.symm],
#[Ñd,isInstance],
#[Ñe,wpAny_isInstance],
#[Ñf,Src.iter_at],
#[Ñg,Src.pyIter],
#[Ñn,Inv.readsAll],
#[Ñv,items.toList],
#[Ñy,codeAny_call_builtin_at],
#[ÑF,PySem.F.slot_dict_get],
#[ÑG,I.base.there],
#[ÑH,Array.getElem?_toList],
#[ÑR,h'.FunFrames],
#[ÑS,setFlight],
#[ÑY,bm.contains],
#[ÑZ,wpAny_madeBy_exc],
#[Ñ0,a.contains],
#[Ñ3,wpAny_onRaise],
#[Ñ7,i.heap.get?],
#[Ñ8,PySem.W.kitCls],
#[Òa,partsBetween],
#[Òb,F.slot_str_split],
#[Òc,F.entry_str_split],
#[Òe,a.cps.toList],
#[Òg,typeLookup_type],
#[Òh,builtinLookup_eq_fast],
#[Òj,F.plain_sum_loop],
#[Òr,Nat.succ_le_succ],
#[Òt,Int.emod_nonneg],
#[Òu,List.length],
#[Òx,Bool.eq_false_iff.mpr],
#[Òz,T.b.n_tuple],
#[ÒA,boot_tuple],
#[ÒG,List.map_drop],
#[ÒO,T.na_Row_fars],
#[ÒY,T.na_Merge_looked],
#[Ò9,Option.bind_some],
#[Ób,Nat.sub_self],
#[Ód,T.b.n_max],
#[Óh,ts.length],
#[Ól,PySem.F.type_dict_pop],
#[Óm,Re.at'.ob],
#[Óq,a.natAbs.log2],
#[Ós,List.pairwise_cons.mp],
#[Ót,ss.Pairwise],
#[Óx,X.L.length],
#[ÓA,List.filter],
#[ÓI,List.drop_left],
#[ÓT,left_none'],
#[ÓU,List.pairwise_map.mpr],
#[ÓX,List.drop_nil],
#[Ó0,HT.sIx_none],
#[Ôb,seqItems?],
#[Ôd,List.length_map],
#[Ôe,List.mem_cons_of_mem],
#[Ôf,Bool.and_eq_true],
#[Ôg,Array.length_toList],
#[Ôi,SeqAt.EqAt.int_str],
#[Ôj,SeqAt.EqAt.str_int],
#[Ôk,PySem.W.methodObj],
#[Ôn,X.s₀.heap.FunFrames],
#[Ôo,aI.get?_none_of_le],
#[Ôs,wpAny_loadName_local],
#[Ôt,wpAny_loadName_cell],
#[Ôu,Calls.Name_function_global],
#[ÔB,wpAny_assign_Name],
#[ÔG,List.mem_filterMap.mpr],
#[ÔH,List.mem_filterMap.mp],
#[ÔS,PySem.W.handedIn],
#[ÔT,PySem.W.plainGet_of],
#[ÔU,PySem.W.bind_fn],
#[ÔV,PySem.W.plainOver],
#[ÔX,aI.Ns1.of_empty],
#[Ô0,PySem.W.kitx_none],
#[Ô1,PySem.W.kitx_bool],
#[Ô2,PySem.W.kitx_int],
#[Ô3,PySem.W.kitx_str],
#[Ô4,PySem.W.kitx_float],
#[Ô6,PySem.W.kitx_tuple],
#[Ô8,PySem.W.kitx_own],
#[Õb,Calls.spliced_nil],
#[Õe,PySem.W.makesIn],
#[Õh,sc.names.lookup],
#[Õi,PySem.W.cellsFrom_some],
#[Õj,List.getElem?_replicate],
#[Õm,PyProof.Rows.callWith_builtin1],
#[Õp,subscriptTail_builtinR],
#[Õq,slot_list_getitem.lookup],
#[Õt,SeqAt.EqAt.int_int],
#[Õu,SeqAt.EqAt.str_str],
#[Õy,PySem.evalArgs_none],
#[ÕB,Calls.evalArgs_plain],
#[ÕC,PySem.P.add_list],
#[ÕD,Nat.le_of_not_lt],
#[ÕI,beq_self_eq_true],
#[ÕM,theTreesLotGoes],
#[ÕS,wpAny_newFunctionEnv],
#[Õ7,List.mem_iff_getElem.mp],
#[Õ8,List.mem_range.mp],
#[Öa,Int.toNat_of_nonneg],
#[Öb,Int.mul_le_mul_of_nonneg_left],
#[Ög,F.entry_tuple_iterator_next],
#[Öi,aI.SameBut.update],
#[Öj,aN.cls_mapFields],
#[Öq,F.entry_zip_next],
#[Ör,F.args_zip_next_1],
#[Ös,be.SmallTypes.ownedTupleHandOut],
#[Öw,wpAny_pyIter_zip],
#[Öz,wpAny_pyIter_enum],
#[ÖC,wpAny_Dict_empty],
#[ÖD,wpAny_loadPart'],
#[ÖE,List.zip_cons_cons],
#[ÖH,get?_update_seq],
#[ÖJ,Nat.succ_ne_self],
#[ÖK,List.filter_cons],
#[ÖL,Option.isSome_map],
#[ÖM,wpAny_getItem_of],
#[ÖO,PySem.F.entry_dict_get],
#[ÖR,List.mem_map.mpr],
#[ÖV,PySem.F.slot_dict_values],
#[ÖW,PySem.F.slot_dict_items],
#[ÖX,wpAny_specialOf],
#[ÖY,PySem.F.slot_dict_getitem.lookup],
#[Ö1,EntryCells.newEntry],
#[Øh,aI.get?_push_at],
#[Øi,codeAny_call_builtin],
#[Øl,PySem.wpAt_bind],
#[Øm,PySem.wpAt_of_wpAny],
#[Øn,codeAny_call_builtin_code],
#[Øt,wpAny_check_type_call_sub],
#[Øv,FormattedValue_plain],
#[Øx,PySem.W.readsIn],
#[Øy,PySem.W.findCls],
#[ØH,ne_true_of_eq_false],
#[ØJ,PySem.W.mapOf_K],
#[ØM,wpAny_Try_except],
#[ØQ,Classical.axiomOfChoice],
#[ØY,PySem.W.takesIn],
#[ØZ,z.cps.toList.length],
#[Ø0,Array.all_eq_true],
#[Ùi,List.replicate_succ'],
#[Ùp,List.range_succ],
#[Ùt,Nat.lt_trichotomy],
#[Ùx,List.cons_lt_cons_iff],
#[ÙA,List.find?_cons_of_pos],
#[Ù0,List.mem_reverse.mp],
#[Úe,List.pairwise_append.mpr],
#[Úi,PySem.ofString_length],
#[Új,T.xb_MergeError],
#[Úm,List.pairwise_cons],
#[Úy,Nat.not_lt_zero],
#[ÚC,List.map_singleton],
#[ÚH,List.lookup_cons_self],
#[ÚJ,T.t_OutOfOrder_init.cls],
#[ÚM,List.find?_eq_none.mp],
#[ÚY,T.b.n_enumerate],
#[ÚZ,List.getElem?_take],
#[Ûa,List.length_zip],
#[Ûb,List.nodup_cons.mpr],
#[Ûc,List.nil_append],
#[Ûy,ah.length_append],
#[ÛD,b.flatten.length],
#[ÛT,codeAny_builtin],
#[ÛU,be.SmallTypes.ownedTupleIsFree],
#[ÛV,I.mod.glob.keeps],
#[ÛW,Code.quiet_builtin],
#[μ,(rfl,rfl,by ac_rfl,by ac_rfl,by ac_rfl,by decide,by ac_rfl,by ac_rfl)],
#[Ù,(rfl,rfl,rfl,by ac_rfl,rfl,by ac_rfl,by ac_rfl)],
#[1,a_,(λ_ _ _ _ _ _ us hl=>by obtain _|h:=a_ us hl;subst h;exact rfl)],
#[2,a_,(λ_ _ _ _ _ _ us hl=>by obtain _|_|h:=a_ us hl;subst h;exact rfl)],
#[3,a_,(λ_ _ _ _ _ _ us hl=>by obtain _|_|_|h:=a_ us hl;subst h;exact rfl)],
#[ö,(by ac_rfl)],
#[Á,(by lia)],
#[â,(Or.inl rfl)],
#[Ó,(by simp)],
#[Í,(by rfl)],
#[Ì,(by decide)],
#[Å,PySem.W.Frag],
#[Ď,(.inl rfl)],
#[9,x_,PySem.wpAny (PySem.model (x_).prog (x_).w) (x_).A],
#[Xns,a_,b_,c_,ī a_ mainGlobals b_=some (some (.ref c_))],
#[Xfi,a_,b_,c_,d_,Ĳ a_ (.ref b_) c_=some (some (.ref d_))],
#[Xlk,z_,a_,b_,c_,d_,e_,f_,g_,h_,i_,j_,k_,l_,m_,(z_).lookup a_=some (b_,c_,.func (Åm d_ e_ (Wr f_) (XO f_) (Zh f_) .none g_ h_ i_ j_ k_ l_),m_)],
#[Xci,a_,b_,c_,Ée a_ b_ c_=true],
#[Xki,a_,b_,À6 a_ (.ref b_)=true],
#[Xif,a_,b_,Åe a_ (.ref b_)=true],
#[Zc,a_,b_,@Zc _ _ _ _ _ a_ b_],
#[Zu,a_,b_,c_,d_,@Zu _ _ a_ _ _ _ _ b_ rfl c_ d_ (by rfl) (by trivial)],
#[ZM,a_,b_,c_,@ZM _ _ _ _ _ _ _ _ a_ b_ c_],
#[Ü,@Zj _ _ _ _],
#[Zg,a_,@Zg _ _ _ a_],
#[Zl,a_,@Zl _ _ _ _ a_],
#[ZY,a_,b_,c_,@ZY _ _ _ _ _ _ _ _ a_ b_ c_],
#[Zk,a_,b_,c_,d_,@Zk _ _ _ _ _ _ _ _ a_ b_ c_ d_],
#[Zn,a_,b_,c_,d_,e_,@Zn _ _ _ _ _ _ _ _ _ a_ b_ c_ d_ e_ (by decide) (by decide) (by rfl) (by rfl)],
#[Za,a_,b_,@Za _ _ _ _ _ a_ b_ (by rfl)],
#[Èv,@Zd _],
#[Zd,a0_,#[Za,a0_,Èv]],
#[Zd,a0_,a1_,#[Za,a0_,#[Za,a1_,Èv]]],
#[Zd,a0_,a1_,a2_,#[Za,a0_,#[Za,a1_,#[Za,a2_,Èv]]]],
#[Zd,a0_,a1_,a2_,a3_,#[Za,a0_,#[Za,a1_,#[Za,a2_,#[Za,a3_,Èv]]]]],
#[Zd,a0_,a1_,a2_,a3_,a4_,#[Za,a0_,#[Za,a1_,#[Za,a2_,#[Za,a3_,#[Za,a4_,Èv]]]]]],
#[ZF,a_,b_,c_,@ZF _ _ _ _ _ _ _ a_ b_ c_ (λ_ _=>rfl)],
#[ZW,a_,@ZW _ _ _ _ a_],
#[WW,a_,b_,c_,d_,@WW _ _ _ _ _ _ _ _ _ a_ (by rfl) b_ c_ d_ (by decide) (by decide) (by rfl) (by rfl)],
#[XJ,a_,b_,c_,d_,@XJ _ _ _ _ _ _ _ _ a_ b_ c_ d_],
#[YD,a_,b_,@YD _ _ _ _ _ _ a_ b_ (by rfl) (by rfl) (by rfl)],
#[Xd,a_,b_,c_,@Xd _ _ _ _ _ _ _ a_ b_ c_ (by intro _;rfl)],
#[ZK,a_,b_,c_,@ZK _ _ _ _ _ _ _ _ a_ b_ c_],
#[ë,@Zv _],
#[Zy,a_,b_,c_,d_,@Zy _ _ _ _ _ _ _ _ _ _ _ a_ b_ c_ (by trivial) d_ (by decide) (by rfl) (by rfl)],
#[á,@Zp _ _ _ _],
#[W7,a_,b_,c_,d_,e_,@W7 _ _ _ _ _ _ _ _ _ _ _ _ _ _ a_ rfl rfl rfl b_ c_ d_ e_ (by intro _;rfl)],
#[V0,a_,b_,@V0 _ _ _ _ _ _ rfl a_ b_ (by rfl)],
#[pv,a_,b_,@pv _ a_ _ _ (by rfl) b_ (by decide) (by decide)],
#[cg,a_,b_,@cg _ _ _ _ _ _ _ _ _ _ _ a_ b_ rfl (by ac_rfl) (by rfl)],
#[cv,a_,b_,@cv _ _ _ _ _ _ _ _ _ _ _ a_ b_ rfl (by ac_rfl) (by rfl) (by decide) (by decide)],
#[ZZ,a_,b_,c_,d_,e_,f_,g_,@ZZ a_ _ _ _ _ _ _ _ _ _ _ _ _ b_ c_ d_ e_ f_ g_ (by rfl) (by rfl) (by rfl) (by rfl) (by rfl) (by rfl)],
#[Yb,a_,b_,@Yb _ _ _ _ _ _ _ a_ b_],
#[XS,a_,@XS _ _ _ _ a_],
#[XT,a_,@XT _ _ _ a_ (by intro _;rfl)],
#[Yq,a_,@Yq _ _ _ _ _ a_],
#[Xw,a_,b_,@Xw _ _ _ _ a_ b_ (by rfl) (by decide) (by decide)],
#[WI,a_,b_,@WI _ _ _ _ _ _ _ a_ b_],
#[WJ,a_,@WJ _ _ _ _ a_],
#[Üf,@Xn _ _ _ _],
#[iZ,a_,b_,c_,@iZ _ a_ _ _ _ _ _ _ _ _ b_ c_ (by rfl) (by rfl) (by rfl) (by rfl)],
#[gT,a_,b_,c_,@gT _ a_ _ _ _ b_ _ c_ (by rfl) (by rfl) (by rfl) (by rfl)],
#[Zo,a_,b_,@Zo _ _ _ _ _ a_ b_ (by rfl)],
#[Èm,@ZU _],
#[cw,a_,b_,@cw _ _ _ _ _ _ _ _ _ _ _ a_ b_ rfl (by ac_rfl) (by rfl) (by decide) (by decide)],
#[ţ,@ZT _ _ _],
#[XR,a_,b_,c_,d_,@XR _ _ _ _ _ _ _ _ a_ rfl b_ c_ d_ (by intro _;rfl)],
#[Zs,a_,b_,c_,@Zs _ _ a_ _ b_ rfl c_ (by trivial)],
#[ZL,a_,@ZL _ _ _ _ a_ (by rfl)],
#[iE,a_,b_,c_,@iE _ a_ _ _ _ _ _ _ _ b_ c_ (by rfl) (by rfl) (by rfl)],
#[W9,a_,b_,c_,d_,@W9 _ _ _ _ _ _ _ _ _ _ a_ b_ c_ d_],
#[Xy,a_,@Xy _ _ _ a_],
#[ZE,a_,@ZE _ _ _ _ _ a_ (by rfl)],
#[Ym,a_,b_,c_,d_,@Ym _ _ _ _ _ _ _ _ _ _ _ _ a_ b_ c_ d_ (by trivial) (by rfl)],
#[XQ,a_,b_,@XQ _ _ _ _ _ _ _ _ a_ b_ (by rfl)],
#[ÊV,@Xt _ _],
#[Vz,a_,b_,c_,@Vz _ _ _ _ _ _ _ _ _ _ a_ b_ c_],
#[Xu,a_,b_,c_,d_,e_,@Xu _ _ _ _ _ _ _ _ _ _ _ _ _ _ _ a_ b_ c_ d_ e_ (by trivial) (by rfl) (by rfl) (by rfl)],
#[T3,a_,b_,c_,@T3 _ _ _ _ _ _ _ _ _ _ _ _ a_ b_ c_ (by trivial) (by rfl) (by decide) (by rfl) (by rfl)],
#[iL,a_,b_,@iL _ a_ _ _ _ b_ (by rfl)],
#[VT,a_,@VT _ _ _ _ a_ (by rfl) (by decide)],
#[VS,a_,@VS _ _ _ _ _ _ a_],
#[XX,a_,b_,@XX _ _ _ _ _ a_ b_],
#[UM,a_,b_,c_,d_,e_,f_,@UM _ _ _ _ _ _ _ _ _ _ _ _ _ _ _ _ a_ b_ c_ d_ e_ f_ (by trivial) (by rfl) (by rfl) (by rfl)],
#[SA,a_,b_,c_,d_,@SA _ _ _ _ _ _ _ _ _ _ _ _ a_ b_ c_ d_ (by trivial) (by rfl) (by decide) (by rfl) (by rfl)],
#[UO,a_,@UO _ _ _ _ a_ (by rfl) (by decide)],
#[WC,a_,b_,@WC a_ _ _ _ _ _ b_ (by rfl) (by rfl)],
#[UW,a_,b_,c_,d_,e_,f_,g_,@UW _ _ _ _ _ a_ _ _ _ _ _ _ _ _ _ _ _ _ b_ rfl (Or.inl rfl) c_ rfl rfl rfl d_ e_ f_ g_ (by rfl) (by intro _;rfl) (by trivial)],
#[Õ,ZN K mg au ak ax ap aH ay ao ar],
#[ÇZ,(Zw "likened" (.int 0) (Zw "next_number" (.int (Ů:Int)) (Zw "rows" (.ref c) [])))],
#[Ŀ,["desk", "singles", "further"]],
#[Ν,aE (e::es) Î=(false,ă e Î,)::aE es Î],
#[İ,(x == ("__debug__" : ah))=false],
#[å,Inv X ai σ H s],
#[ÅA,Þ C=U (Ài nm q C N bs (.ref B::Ys) cB sn sub ab bQ dd k0 k1 k2 k3 k5 "ValueError.__new__")],
#[Àm,XF _ _ _ _ _ _ ö ö ö ö ö ö],
#[Äd,(Y4 ÐS ÂD [])],
#[Ôc,(λaO f A Û s H vs Q E hr h=>?_)],
#[Ãq,["_law_left_here", "_law_stems_here", "_law_most"]],
#[Ç9,(by nofun)],
#[à,(aA ÿ w)],
#[ÀB,(lcp (cds x) (cds y):Nat)],
#[Âb,#[.ref T,.none,.none,.none,.bool false,.none]],
#[Ĥ,#[ZE,‹0›]],
#[ÄF,Df P w K mg Â 2 "_law_pick" ["_law_left_here", "_law_many"] V5],
#[ÀV,(by show 0<=aq;decide)],
#[ËF,(ok.mod,ok.kind,ok.glob,ok.blt,ok.above,ok.inj,ok.has,ok.cab,ok.hd,ok.frames,ok.stk,ok.exf,ok.bs,ok.bsz,ok.noex,ok.exfs,ok.funs,ok.frf)],
#[z,by rintro i zs k a C F r L R ⟨⟨I,J,rfl⟩,rfl,d,l,S⟩ hr;have W:i<Ú:=(Į L).1;have X:D≠r:=Ze l hr;have M:ZB H (upd a r (.tup [C,F])):=Ær (Zi hr _);refine(r,_,rfl,ā Zb,rfl,_,_,rfl,_,_,rfl,rfl,_,rfl,_,rfl,C,F,rfl,(hi i C F L R).mono M,λY N=>?_);have Z:Y D=U (.lst (Áx i (.bl true))):=N _ _ (by rw[Zf X];exact l);refine(Z,(by rw[QaP];exact ZA Á),(_,_,rfl),?_,?_,Zb,W)],
#[ü,(_,rfl)],
#[Áw,(bg pos (aE es Î)).any (·.1)=false],
#[C,by subst m hw n;obtain q|t|Q|x|y|A:=j it Ó;obtain B|C:=p;obtain D|a|F:=I.dictF B hd;have l:û=D.length:=ĳ],
#[τ,(λz=>nomatch z)],
#[ÉJ,(YB X c N' C s H fp)],
#[Ô,À Int],
#[ø,ae->aj->Prop],
#[Ê,À ah],
#[Α,(Ï+1)],
#[ć,(rfl,rfl)],
#[Ă,ah->Ã ae],
#[Ò6,(upd (upd (upd Z B (.dT [])) m (.ins ak g (Zw "stays" (.ref B) (Zw "looked" (.int 0) ÇZ)))) m (.ins ak g (Zw "best" .non (Zw "stays" (.ref B) (Zw "looked" (.int 0) ÇZ)))))],
#[Ģ,(aA ò X.w)],
#[ÀA,(.type "BaseException")],
#[Àv,(.ref Á4)],
#[À8,(by with_unfolding_all rfl)],
#[Ãa,∀vs H Q E,sp vs H Q E->ÃV=Àu],
#[ċ,À (aa×aN)],
#[À1,(_,_,rfl,rfl)],
#[T,by refine(λi m ys a H=>m=û-i/\i<=û/\Pv i ys a H,(û,by simp,Qt _,h0),?_);rintro i m ys a H ⟨rfl,hi,p⟩;have q:=hl i ys a H p],
#[ÃY,YU ò X.w X.K ę Ř CX k f fd ps sp],
#[æ,(.ref C)],
#[ψ,(Äa í)],
#[È3,(U (.builtin "object.__setattr__"))],
#[Ź,(.lst [])],
#[Z,by have L:Inv X A B H { s with Ø:=f,ï:=ŋ+1 }:=À4 (t':=ŋ+1) (λb o a e=>(J.2 b a).trans e) n p q u x;obtain o|e|c|d:=id D;exact(_,rfl,U5 (s:={ s with Ø:=f,ï:=ŋ+1 }) e c d Ì (.str ⟨#[Á6[i]]⟩,H,L,ü,(rfl,_,C,rfl),D,λb a=>(g b a).1))],
#[Àw,(ss.map Ä)],
#[11,(mgF rd nb li lo sd a)],
#[Ŭ,ĉ (Ã ae)],
#[13,by have e1:=Qu (wa.one B);have e2:=Qu (wb.one u);subst e1;subst e2;have e3:=Qu (rP.symm.trans G);have e4:=Qu (rQ.symm.trans D);subst e3;subst e4],
#[14,by subst e;obtain o|e|c|d:=st;exact(o,e,λv z=>by rw[d]at z;cases z)],
#[ÁC,(by intro z;cases z)],
#[Ïw,∀b∈ch,(b∈X.ex\/ŵ<=b)/\b≠ĺ/\(∀x c,Χ x=U c->c≠b)/\∀p∈X.pn++ai,p.1≠b],
#[Ço,(.builtin "object.__class__")],
#[ÇT,(mgF rd nb li lo sd aG)],
#[ÅH,["_law_word", "_law_parts", "_law_keys_here"]],
#[ÇF,(upd H c (.tup (["list", "tuple"].map V.ty)))],
#[ÄS,(_,_,c,by assumption,by assumption)],
#[Èq,(upd I l (.lst (ÁE Ä++[Ä (thT ä z)])))],
#[ð,["self"]],
#[Àl,#[Zd,‹1›]],
#[Ĺ,.type "list"],
#[Àk,(λ_ _ _ _=>(@Xx _))],
#[ÅK,#[Zn,(Yu K),Í,Áe,Qy,#[Zd,‹0›]]],
#[ą,(.ref f)],
#[Îz,∀ {x y:ah} {n m:Nat},ĕ<=n->ι<=m->n+m<=10000->(x++y).length<=n+m],
#[Ác,(.frz o (.dK kvs))],
#[ÍP,(upd (upd H k (.lst (Àf Ä))) p (.ins au c (Zw "all_keys" (.ref k) [])))],
#[Æu,X.fn x=true\/Âx x=U .local],
#[Üg,(show false=true from c)],
#[Ó4,((Âo ġ).map Ä)],
#[ÎP,(rfl,rfl,rfl,λi k c v b=>(by have b:([]:À ah)[i]? = U k:=b;rw[Qbm]at b;cases b),.inl ć,Qt _)],
#[Üb,(Ìn V1 (U ((a:Int)+2*(k:Int))) (U ((a:Int)+2*(k:Int)+1+(k:Int) % 8)))],
#[Åy,((env::Û).filterMap (·.frame))],
#[ÁI,(by show 3<=aq;decide)],
#[ÄL,ZO cR cM H m rd sd L s nb li lo aG],
#[Ã3,(.Call (.Name x p) (e::es) [] pos)],
#[ÛH,(if (if (26:Int)<(((ĥ í).length:Nat):Int) then 26 else (((ĥ í).length:Nat):Int))>9 then (if (26:Int)<(((ĥ í).length:Nat):Int) then 26 else (((ĥ í).length:Nat):Int)) else 9)],
#[42,by refine ÛT F.entry_sum_loop ?_;rw[aD.under_plainId Òj _];show av _ Än (Ôb (.ref S) >>= _) _ _ s;refine am (bi p rfl ?_);show av _ Än (tryCatch (Â4 (.ref I)) _ >>= _) _ _ s],
#[ÄC,["desk", "singles", "keys"]],
#[Ïa,[.str "row",.str "row",.str "row",.str "grow",.str "grow",.str "drop"]],
#[Ái,(.lst (Ρ Ä))],
#[Âf,(".0",.«local»,)],
#[Äw,(.builtin "ValueError.__init__")],
#[θ,(h,g,d,t,os)],
#[ÇW,Mf P w K mg Â 2 au "head" ð (Vg au)],
#[ÆM,(.Call (.Attribute o m bu) (e::es) [] pos)],
#[ś,À (Key×V)],
#[52,by have G:ZB H ÇF:=Zi u _;refine SO (K:=K) (xs:=xs) (ys:=ys) (λi zs k a=>(X2 λI J=>k=[U (.ref p),U (.ref m),I,J])/\zs=Áx i (.bl true)/\ZB H a/\a D=U (.lst zs)/\i<=Ú) ?_ ?_ ?_ ?_],
#[Äz,["one", "other", "far"]],
#[ų,À (ah×Int)],
#[ÂP,((lcp (cds i) z:Nat):Int)],
#[ÇD,#[Zn,WH,Í,Áe,Qy,#[Zd,‹0›]]],
#[57,by simp only[ÂX,År,Ås]at d],
#[Áj,DOk cR cM H X nd nm],
#[ÉX,(upd B Á4 (.dK []))],
#[Ũ,(ZV I q Ó)],
#[ØD,(U (.builtin "BaseException.__getattribute__"))],
#[Òk,["row", "first", "others", "single_kinds", "further_kind", "many", "singles", "further"]],
#[63,by obtain _|q1|q2|q3|q4|_:=f3 b k;have z1:=I4.ok.exf b (by rw[<- w];exact k);refine(hn b k,z1.1,I4.ok.exfs b (by rw[<- w];exact k),.inl (by rw[<- w];exact k),z1.2,λp hp=>?_)],
#[Õa,(.builtin "type.__call__" (.ref C::us,kw))],
#[65,by refine am ?_;simp only[List.zipIdx_cons,List.zipIdx_nil,ÐQ,List.forIn_nil];refine am (am (Ñ3 ?_));show av _ _ (Æ4 (.ref i1) >>= _) _ _ _],
#[Í3,Df P w K mg Â 5 "refuse_break" ["number", "keys"] (To K)],
#[Í7,(Zw "rows" (.ref c) [])],
#[ÄV,AL H1 H d rd rl dl R c rs ds],
#[69,by refine(λi m zs a H=>m=min Ú č-i/\i<=min Ú č/\Pv i zs a H,(min Ú č,by simp,Qt _,h0),?_);rintro i m zs a H ⟨rfl,hi,p⟩],
#[70,by simp only[Îl]],
#[71,by show av _ _ (ÛU (.ref z) >>= _) _ _ _;unfold ÛU;refine am (am (bb hz rfl (x:=.none) rfl (aB ?_)));simp only[ÆX]],
#[ÅG,["_law_left_here", "_law_many"]],
#[Íu,["_law_desk", "_law_word", "_law_name", "_law_keys_here"]],
#[Ç4,((lcp (cds i) (cds l):Nat):Int)],
#[75,(γ { cls:=.type "range",Ò:=.fields #[.int lo t,.int hi u,.int 1 v] })],
#[Íw,["_law_left_here", "_law_names_here", "_law_stems_here"]],
#[Ây,(by show 2<=aq;decide)],
#[78,by have f1:=tc_lookup;have f2:=tc_bind æ;have hT:(θ:aj).TypeIs æ "type":=(_,a,rfl);refine Ã2 (codeAny_of_tree ?_);show av _ _ (callAny æ _) _ _ _],
#[Âc,(.type "ValueError")],
#[80,by show av _ _ (if (è t == ÀK)=true then _ else _) _ _ s;rw[Æ (show ¬ ((è t == ÀK)=true) from Qw)];show av _ _ (field (.ref it) 1 >>= _) _ _ s],
#[ÊM,(((kvM L).length:Nat):Int)],
#[82,(bJ c Äd Ï Î)],
#[ÊT,[.inl (ZX M).1,.inl (ZX M).2]],
#[ε,PA X (e::es) t],
#[85,(γ { cls:=.type "list_iterator",Ò:=.fields #[.ref p,.int 0 0] })],
#[86,(Íf 1)],
#[Èu,(by show 2<=100;decide)],
#[ÁH,#[Zg,#[Zl,Üf]]],
#[Ów,(_,rfl,rfl,_,rfl,Y1 (λd=>Ç (Ī d) ö) (λ_=>?_))],
#[Èh,(ÊX λe=>decide (e.1≠s))],
#[Ç1,(by rw[Qa];exact ZA Á)],
#[Ìo,(post_val_or_str (Qk (Txt.slice_le z _ _) c,a))],
#[Âk,#[ZW,Èv]],
#[ď,Ã aa],
#[Èc,(_,rfl,_,_,rfl,rfl,_,rfl,?_)],
#[Í4,Mf P w K mg Â 13 ak "play_all" ð (Th au ak)],
#[ÌU,(ÆG (Ã8 c (Zh st) Ï f a))],
#[ÃQ,(_,Qv _ rfl,rfl,rfl)],
#[99,by rw[show Zw f v ((k,x,)::r)=(if k=f then (k,v,)::r else (k,x,)::Zw f v r) from rfl]],
#[ÂL,["one", "other"]],
#[ÇG,["list", "tuple"]],
#[ÎO,Df P w K mg Â 1 "with_blanks" ["words"] (S9 K)],
#[ÂR,(e.n,(Ö,e.g,),)],
#[Ém,(bg bq (aE es Î)).any (·.1)=false],
#[ÅW,#[ZF,(ixL K),‹1›,Ü]],
#[ÅL,#[ZF,(ixL K),‹0›,Ü]],
#[ÎU,(ÂW ġ)],
#[Ãp,(ń+1)],
#[Ík,["_law_left_here", "_law_stems_here"]],
#[Ãv,Ã (aa×Int×Int)],
#[am,by rw[<- l]at G;have W:Inv X L M H { s with Ø:=g }:=À4 (t':=ŋ) (λb o f e=>(T.2 b f).trans e) q t x y A;obtain o1|Y|Z|d1:=id G],
#[ÅJ,["_law_some", "_law_told"]],
#[ť,X.calm=true],
#[Æe,#[Zd,‹0›,Ü]],
#[aq,by rintro zs k a ⟨_,rfl,d,l,_⟩;refine(D,Áx (min Ú č) true,rfl,É (by rw[List.map_replicate];exact l),?_)],
#[ÇC,(∀s∈ss,ĝ<=24/\AZ s)],
#[Ón,(upd (upd H c (.lst ((i++ks).map Ä))) p (.ins au d (YS c f g)))],
#[ØI,(Òa z (Ì9 z y 0 Ś (Ś+1)) ι)],
#[Ês,#[Zn,(Yu K),Í,Áe,Qy,Àl]],
#[Û0,(Æ8 { cls:=.type "dict",Ò:=.dict #[] })],
#[ÙF,(.tup [.int (ZS (cds x) (cds y)),.int ÀB,.int (ÀB-(u:Int)+1)])],
#[ÕL,∀ {j:Type} {t:Sem j} {Q:j->aj->Prop} {s:aj},av à A t Q E s->av à A t Q (notedBy à A env λe s'=>R (.error e) s') s ],
#[ÇB,(by decide,by decide)],
#[Ðd,ËG ς (U (.Attribute o f cZ)) ÈP Î=pure false],
#[Àc,Ïu=o],
#[Ãm,Çc],
#[ÉA,(upd G Á4 Ź)],
#[ÃD,(Yz X.L e.n ks k' a)],
#[ÊN,(.lst ((ZC L).map í))],
#[Âh,(.inr (.inl z))],
#[ÀZ,À (À ah)],
#[ÑE,(if ([]:À Éd).isEmpty then 0 else 1)],
#[ÅS,(đ z)],
#[Îr,#[Zn,(Yu K),Í,Áe,Qy,#[Zd,‹2›]]],
#[aM,by show av _ _ (field (.ref z) 2 >>= _) _ _ _;refine am (bb hz rfl (x:=.bool false) rfl ?_);show av _ _ (field (.ref z) 3 >>= _) _ _ _],
#[aN,by rintro r s6 ⟨u,hr,h6⟩;subst hr;refine thn h6 ?_;rintro _ s7 ⟨x,H7,I7,r7,y7,rn,Bu⟩;have Bv:=I7.pinned (il Bu) (T.obj _ _ rn)],
#[ÆQ,(backToKw pos (bU [] Î))],
#[Ôa,(.cons rfl (.cons rfl .nil))],
#[ÍO,Mf P w K mg Â 1 au "to_go" ð (Tp au)],
#[aR,by intro ai s σ H xs us Q I r h],
#[ÙO,(upd (upd (upd t m (.ins ak g (Zw "next_number" (.int (Ů:Int)) Í7))) m (.ins ak g ÇZ)) m (.ins ak g (Zw "looked" (.int 0) ÇZ)))],
#[Ãu,Ī d],
#[ÃE,OG H rl dl ol ga gs],
#[ÃC,(λ_ _ h=>h.unwish)],
#[Û3,(Åi T (Åx (·.setIfInBounds 3 ÀK)))],
#[ÊO,(ZO a b H m rd sd L s nb li lo c)],
#[Âd,(YX (YY ZI))],
#[Å8,(YR X.L e.n)],
#[ĵ,(.ref ao)],
#[Ãt,#[Zg,#[Zl,‹2›]]],
#[ŷ,⟨#[c]⟩],
#[ÆC,∀x,b8 Ļ Î x=pure x],
#[Áu,Ç Üg Qw],
#[ÂM,["self", "keys"]],
#[ê,À ae],
#[Ûx,(.lst [.str "coming",.str "left",.str "counts",.str "rows"])],
#[Õ2,∀ {rp:St} {V:Hp} {s9:aj},Inv Y ([]++U4 fp s7.heap) rp V s9->Inv Y [] rp V s9/\tn (i+1) s9.heap/\∀b∈fp,V b=af],
#[a9,by refine(_,rfl,rfl,_,rfl,YC τ ?_)],
#[ŀ,(.ref ar)],
#[É2,((X.pn++ai).map (·.1))],
#[bc,by subst j hw l;obtain n|p|G|q|u|x:=g it Ó],
#[bd,by refine wpAny_comprehension_free (use:=use) rfl hs rh ÆS S.loc (thn (hi Z s σ H _ I h) λv s1 h1=>thn h1 λyh f h2=>?_)],
#[Øj,(i.update e λo=>{ o with Ξ:=U Ão }).get? e=U { cls:=.ref C,Ξ:=U Ão,Ò:=.fields Âb }],
#[ÏU,aE [a,b] Î=[(false,ă a Î,),(false,ă b Î,)]],
#[ÎB,∀ {x:ah},ĕ<=10000->ĕ<=aq],
#[bh,by intro k' e i;obtain D|E|j|o:=i.last rfl;obtain l|m:=f j],
#[Çs,["_law_found", "_law_due"]],
#[Üc,(Ès n++Äo n)],
#[Ã5,(ÃJ (Qj _))],
#[Ún,#[Zg,#[ZK,(@œ _ _ _ #[WI,#[Zk,Rl,‹1›,á,(Zq _)],#[WJ,#[Zk,K2,‹1›,á,(Zq _)]]]),ÁH,ë]]],
#[Ñi,∀ {b:aa} {o:aN},ì b=U o->Ï≠b],
#[Íq,["self", "one", "other", "far"]],
#[ÁF,["self", "n"]],
#[Äy,["_law_left_here"]],
#[ÃA,(hdM (ÀE L e.n))],
#[ň,(.ref ay)],
#[Ň,(.ref aH)],
#[ÀN,(.Name x pos)],
#[Ö3,∀h',Xj B Åy h'->ÑR Â (env::Û)->Yk NB h' e cls dd (ū L)->Q () { s with Ø:=h' }],
#[Êg,["one", "other", "at"]],
#[Ë7,(by simp only[Ëm]<;>lia)],
#[ÓG,(.tail _ (.tail _ (.tail _ (.head _))))],
#[Đ,(.ref l)],
#[ÒF,((ÂE i).map λj=>.int (WV c j))],
#[Ôq,(λb o e n t hx=>?_,λb o e n t hx=>?_,Æp,λb o e hx=>?_,Ëv,ÈJ,Ëx)],
#[bC,by rw[Æ Qw];obtain b1|b2|b3:=qb I9;obtain m'|gP|w9:=va _ _ _ q9;exact(m',gP,i+1,ys,km,V,b1,b2,b3,w9)],
#[Èp,R.Pairwise λa b=>a.n<b.n],
#[þ,(cds x)],
#[Ç3,((lcp (cds l) z:Nat):Int)],
#[Ñ1,#[.ref ń,.none,.none,.none,.bool false,.none]],
#[Ïb,(upd e r (.tup [Ä Ū,Ä t]))],
#[ñ,À AR],
#[Ày,À (κ×V)],
#[Ãb,λ_ H'=>Q .non H'],
#[ÐC,typeOf (.builtin id)=pure (.type "method_descriptor")],
#[ó,À Zz],
#[ÍE,(.lst (Wn.map Ä))],
#[Ñ6,(.Raise (U (.Call (.Name x p) (e::es) [] bq)) af pos)],
#[ËZ,(.Call (.Attribute o m bu) [] [] pos)],
#[Ò2,#[Zn,T1,Í,Áe,Qy,#[Zd,Ĥ]]],
#[Áf,#[Zd,‹0›]],
#[Èe,(_,rfl,rfl,_,rfl,?_)],
#[Ç7,λe:Zz=>(e.n,(Ö,e.g,),)],
#[bU,by show (c+k-c).natAbs<=_/\(lo+q-lo).natAbs<=_],
#[Çt,["self", "row", "place"]],
#[Ö0,(a++Áx k af)],
#[ÎS,((o.sw++o.fw).map Ä)],
#[bY,(Xz CX0 P w K mg Â N c (Zh st) f a A Û s H E)],
#[Ø5,(_,rfl,_,_,rfl,rfl,.inr (JL _),_,rfl,_,rfl,_,_,rfl,rfl,.inl ÇB,_,_,rfl,rfl,ÁI,λp b=>?_)],
#[Ì4,(∀b o,Þ b=U o->Ā b=U o)],
#[ÒZ,Df P w K mg Â 1 "halves" ["numbers"] (RU K true)],
#[Êz,((∀s∈ss,ĝ<=1000))],
#[Ó3,((Âo ġ).map Ä++[Ä (À0 n).txt])],
#[ÓB,#[Zg,#[Zl,(WD T.g_REFUSED)]]],
#[b5,by intro b o e;have e1:=N b o (M b o e);rw[Zf (λz=>by subst z;exact nomatch (G b o e).symm.trans t)];exact e1],
#[Är,À (À Key×V)],
#[Ûh,[U (.ref d),U (.str l),U (.str i),U (.ref X),U (.ref m),U (.int n),U (.ref F),U (.int (g:Int))]],
#[Àb,Z2 N N' o c],
#[ÑU,Θ=Î::Âs/\X.env.frame=U ĺ],
#[ÁT,Unit->aj->Prop],
#[Β,Ã Int],
#[ÀT,(·.length)],
#[ËE,(x == ("__classdict__" : ah))=false],
#[ÅN,(ss.map ÇI)],
#[Øz,(Ài nm q C N bs (.ref B::Ys) true sn sub ab bQ dd k0 k1 k2 k3 k5 "ValueError.__new__")],
#[ÀH,(dsO X nm)],
#[Á5,(ĳ:Int)],
#[Ãl,(ZR ò X.w)],
#[Åp,(Ìf-ģ)],
#[É7,(.type "type")],
#[ÆB,(.ref Ï)],
#[Ĩ,(.ref a)],
#[Õ3,(I9.unpinned,ÈV _ _ _ rn λb k A e=>(I9.pin (b,A,) (QF _ (QF _ (U3 k e)))).1,λb k=>?_)],
#[cq,by intro ai s σ H x y v u Q I a b h],
#[ÄA,["numbers", "n"]],
#[Ð6,(∃o,Ā e=U o/\ÃM=.type "StopIteration")],
#[È5,(by rw[e];exact Μ)],
#[ÁA,(.type "str")],
#[ÅU,(.dK (kvM L))],
#[ÊS,#[ZF,(ixT K),‹2›,Ü]],
#[Ër,∀b u,Þ b=U u->Ā b=U u],
#[Üj,(bJ c Äd Ÿ Î)],
#[ÒV,Df P w K mg Â 4 "first_break" ["keys"] (RV K)],
#[Ė,(cds y)],
#[Ùd,#[Zn,(WP K),Í,Êu,Êv,#[Zd,‹0›,#[Xw,T.b.n_bool,boot_bool]]]],
#[ú,(Zq _)],
#[Î4,[.inr z,.inl n,.inr s]],
#[cG,(zH5 Ð S1 S2 a b)],
#[ÛS,((_,_,rfl,rfl),À1,À1,À1,À1,À1,À1,À1,À1,À1,À1,À1,Μ)],
#[ÔI,(λi m b H=>m=Ú-i/\i<=Ú/\Pv i b H,(Ú,by simp,Qt _,h0),?_)],
#[ÍI,(_,rfl,rfl,_,rfl,YC ÁC ?_)],
#[Úq,(_,rfl,_,rfl,_,_,rfl,rfl,_,rfl,YZ i (_,rfl,_,_,rfl,rfl,_,rfl,YZ j (_,rfl,q)))],
#[Ų,(Y8 M n)],
#[ÊA,(@Uh _ _ _ _ _ _ Ug Ü)],
#[Ó6,(.tup [.int (i:Int),Ä Ū])],
#[Š,(.ref e)],
#[Ùb,#[Zn,(WP K),Í,Êu,Êv,#[Zd,‹1›,#[Xw,Å5,Å6]]]],
#[Ùc,#[Zn,(WP K),Í,Êu,Êv,#[Zd,‹0›,#[Xw,Å5,Å6]]]],
#[ÚV,(rfl,rfl,(Áb ks h.2).2.2,f s h.1,.inr (rfl,(Áb ks h.2).1),(Áb ks h.2).2.1)],
#[cS,by simp only[ÂX,År,Ås]at A],
#[cT,by show Âx y.1=_\/Âx y.1=_;rw[ho];exact(S.free y hy hf).2],
#[ý,À ZG],
#[ÑQ,(show (è T != ÀK)=true from by simp)],
#[cW,by refine(_,rfl,ÀV,λz hz=>?_);have sz:=Zi hz Ź],
#[cX,by obtain m|b|c|L|s|d|e|lo|g|rfl|M|q:=h;refine(_,#[Zg,#[Zl,Ĥ]],?_);obtain i|j:=M.ob],
#[ÍL,(upd d p (.tup [.int i,.str y]))],
#[ÛQ,(_,rfl,b,_,_,Ä M.txt,rfl,rfl,É v,Ye (j:=0) rfl,rfl,_,_,rfl,rfl,_,rfl,?_)],
#[c0,by simp only[Éy,Åj]],
#[Çu,["self", "n", "keys"]],
#[Íj,["_law_script", "_law_k"]],
#[Óg,(∀b o,H b=U o->¬ Fp m rd sd L b->H' b=U o)],
#[ÌI,(min Ú č)],
#[Ðr,(Xz CX P w K mg Â N c a f d A Û s H E)],
#[Å7,(Ën z)],
#[ÓW,(.tup [.int g.n,.ref g.k,.int ((g.g:Int)+1)])],
#[ÛJ,(.lst ((([o]:À Od).map ġ).map Ä))],
#[ÄQ,#[WC,K,‹0›]],
#[da,((Û0).update x λo=>{ cls:=ÃM,Ξ:=U ń,Ò:=Ζ,Áo:=ÈL })],
#[ÑL,∀ys a H,Pv û ys a H->Q (.ref D) H],
#[dc,by intro X hP hw hK f i ai s σ H E I g st hg;subst hP hw hK;obtain J|L|⟨a,b',M⟩|N|O:=st],
#[Çv,["desk", "things"]],
#[Å4,Vk K w mg bL bc bf],
#[ÛX,(γ ÆE)],
#[dg,(f.2 b (QB (QG (Qs e) (I.ok.cab x c S hc))))],
#[ÑI,(.DictComp kx vx [(tg,Ļ,dH,0)] c pos)],
#[ÒD,#[Zn,(Yu K),Í,Áe,Qy,#[Zd,‹3›]]],
#[dj,by subst t hw y;obtain ⟨l,f⟩|g:=st;obtain M|p|B:=A;obtain its|C|D|_:=ÁW p],
#[dk,by obtain z|lo|i|l|g|B|C|j|m|n|D:=(show Y2 ò X.w k ÆA d (.dK f) from A.hok d _ hd)],
#[dl,by have A:=Qu (c.one v);have B:=Qu (d.one w);subst A;subst B;rw[s]at n;cases n;rw[t]at p;cases p],
#[dm,by exact .inl ((q,by lia),hd ys a H (e ▸ p))],
#[ÔY,È4 K Ço "__get__" = U (U (.builtin "getset_descriptor.__get__"))],
#[Ì3,(.type "object")],
#[dq,by rw[List.getElem?_set_ne (Κ w)]at l;obtain O|P|q:=W j y G g l J;refine(O,P,?_)],
#[ÐD,bB o name Î (ă o Î)=ă o Î],
#[ÕE,(λr g=>r=.ok (.ret (.bool true))/\OldK ÆA g.heap/\g.os=c.os/\Â1 g.gens)],
#[ź,(λd=>?_)],
#[Üh,(show false=true from f)],
#[Ğ,(hdM L)],
#[ÎV,(.lst ((ÎU).map Ä))],
#[Ù6,(.ins au dp (YS e.k e.f ((e.g+1:Nat):Int)))],
#[Áa,(.dK kvs)],
#[dz,by refine(c.typeIs,λb q=>?_,hd);cases q;obtain ob|_|_|g|h|_:=c;exact(ob,g,h.2.1)],
#[Ō,À Nat],
#[Ëk,(.lst (Å0 Ä))],
#[ÓJ,(.ins ax c [("merge",.ref m,)])],
#[dD,by refine am (am (Ñ3 ?_));show av _ _ (Æ4 (.ref i2) >>= _) _ _ _],
#[ÐW,Ç (QG (Qs e) (Qk ÈI z)) (Qal _)],
#[ÒM,Df P w K mg Â 3 "alikes" ["row"] (RZ K)],
#[Ò4,(upd (upd H7 G (.own u)) u (.ins au G []))],
#[ÚK,(Yv ax au ak λo=>X2 λs ks=>o=.grow s ks)],
#[ÛB,(.lst (((G.drop i).map ġ).map Ä))],
#[Øf,Þ C=U (Ài nm q C N bs bm true sn sub ab bQ dd k0 k1 k2 k3 k5 bF)],
#[Íi,["_law_cell", "_law_k"]],
#[Éf,V->À V->Hp->VK->Prop],
#[Ŗ,Int×Int],
#[À2,HOk P w H h],
#[É0,A.frames=U (env::Û)],
#[ÑP,(·.setIfInBounds 1 (è Äk))],
#[ÌO,(kvs.any λa=>decide (a.1=k))],
#[Ãg,(k == Äc)],
#[Îu,(by rw[ÄN];exact nd)],
#[Él,(bu.endLine == bq.line)],
#[În,(Z6 8 (ZC L) e.n)],
#[ÚI,(Yv ax au ak λo=>X2 λs ks=>o=.row s ks)],
#[Ãe,(.type "list")],
#[Æg,(.cons ü .nil)],
#[È7,(.builtin "isinstance")],
#[ÐX,(.ListComp iD [(tg,Ļ,dH,0)] c pos)],
#[ËY,(.Call (.Name x p) [] [] pos)],
#[Ãx,#[Zd,‹2›]],
#[d2,a_,b_,c_,d_,by refine a_ b_ Ç9 (λaO f A Û s H c_ Q E d_ h=>?_)],
#[d3,a_,b_,(λaO f A Û s H a_ Q E b_ h=>?_)],
#[d4,a_,b_,c_,#[Zo,#[Zs,a_,b_,â],#[Zo,#[Zs,c_,b_,â],Èm]]],
#[d5,a_,b_,c_,d_,#[gT,K,3,#[Zo,#[Zs,a_,b_,â],#[Zo,#[Zs,c_,b_,â],#[Zo,#[Zs,d_,b_,â],Èm]]]]],
#[d6,a_,b_,c_,d_,#[Zo,#[Zs,a_,b_,â],#[Zo,#[Zs,c_,b_,â],#[Zo,#[Zs,d_,b_,â],Èm]]]],
#[d7,a_,b_,c_,d_,by refine(_,rfl,_,rfl,d,ax,a_,_,_,rfl,hd,ž,ÄR,Wy ..,nd,_,rfl,ŉ (k:=.inr b_) Ĵ c_,_,rfl,d_ ?_)],
#[d8,a_,b_,c_,d_,(_,rfl,_,rfl,d,ax,a_,_,_,rfl,hd,ž,ÄR,Wy ..,nd,_,rfl,ŉ (k:=.inr b_) Ĵ c_,_,rfl,d_ ?_)],
#[d9,a_,b_,c_,by obtain a_|b_|rfl:=Ľ c_],
#[ea,a_,(by simpa using a_)],
#[eb,a_,b_,by have a_:=b_ T (P:=P) (w:=w) (Â:=Â)],
#[ec,a_,b_,c_,#[Zk,a_,‹b_›,c_,ú]],
#[ed,a_,b_,(by rw[a_];exact b_)],
#[ee,a_,a_ T (P:=P) (w:=w) (Â:=Â)],
#[ef,a_,b_,c_,d_,Df P w K mg Â a_ b_ c_ d_],
#[eg,a_,b_,c_,ī K a_ b_ = U (U (.ref c_))],
#[eh,a_,b_,c_,d_,by rw[a_]at b_;cases b_;have c_:i<d_:=(Į a_).1],
#[ei,a_,(.lst (a_ Ä))],
#[ej,a_,b_,c_,d_,∀ (kV a_ b:ae) (b_:Ã aa) (c_ ct:ae) (us:À ae),Φ=Àu->bindArgs (Åm x d_ (Wr st) (XO st) (Zh st) .none kV a_ b b_ c_ ct) (us,[])=pure (Éa us)],
#[ek,a_,b_,c_,(thn (a_ b_ s c_ H _ I h) ?_)],
#[el,a_,b_,c_,by obtain a_|b_:=c_],
#[em,a_,b_,c_,(λ_ _ _ _=>#[gT,K,2,#[Zo,#[cg,a_,b_],#[Zo,#[cg,c_,b_],Èm]]])],
#[en,a_,b_,c_,#[Zn,(WP K),Í,Êu,Êv,#[Zd,‹a_›,#[Xw,b_,c_]]]],
#[eo,a_,ī K aM a_ = U af],
#[ep,a_,b_,(by show a_<=b_;decide)],
#[eq,a_,b_,c_,d_,Mf P w K mg Â a_ ak b_ c_ (d_ au ak)],
#[er,a_,b_,by refine(a_,_,rfl,ā b_,rfl,_,_,rfl,_,_,rfl,_,_,rfl,rfl,?_)],
#[es,a_,b_,(λa_ b_=>by cases b_)],
#[et,a_,b_,Ĳ K (.ref a_) b_ = U af],
#[eu,a_,b_,(a_,_,rfl,ā b_,rfl,_,_,rfl,_,_,rfl,_,_,rfl,rfl,?_)],
#[ev,a_,b_,(by rw[<- a_];exact b_)],
#[ew,a_,(rfl,_,É a_)],
#[ex,a_,b_,#[Zd,‹a_›,‹b_›]],
#[ey,a_,b_,by obtain a_|rfl:=b_],
#[ez,a_,b_,É9 K a_ b_=U true],
#[eA,a_,by refine(λi m a H=>m=a_-i/\i<=a_/\Pv i a H,(a_,by simp,Qt _,h0),?_);rintro i m a H ⟨rfl,hi,p⟩],
#[eB,a_,b_,c_,d_,e_,∀ (a_:aI) (t:aa×À Key),(∀b o,b_ b=U o->c_ b=U o)->t∈d_->(∀u∈d_,Yt u.2 t.2=false)->R (.ok (.ret (.ref t.1))) { e_ with Ø:=a_ }],
#[eC,a_,b_,c_,∀b a_,b_ b=U a_->c_ b=U a_],
#[eD,a_,b_,c_,d_,(show ∃a_,u=b_ c_ a_ from d_)],
#[eE,a_,b_,#[Xns,K,a_,b_]],
#[eF,a_,b_,c_,d_,e_,ı a_=U (.type "tuple",b_,.seq #[.ref c_,.none] d_,e_)],
#[eG,a_,b_,(λa A Û s H vs Q E a_ h=>b_ a f A Û s H vs Q E a_ h)],
#[eH,a_,b_,c_,d_,#[Zy,a_,b_,#[Zd,‹c_›,‹d_›],Í]],
#[eI,a_,b_,c_,(ZO a_ b_ H m rd sd L s nb li lo c_)],
#[eJ,a_,b_,c_,d_,(upd (upd a_ b_ (.own c_)) c_ (.ins d_ b_ []))],
#[eK,a_,b_,É9 K a_ b_=U false],
#[eL,a_,b_,c_,by have:=a_;rw[<- b_,z,c_]at this;cases this],
#[eM,a_,b_,c_,by rw[a_,b_]at c_;cases c_],
#[eN,a_,b_,c_,(∀b a_,H b=U a_->b≠b_->c_ b=U a_)],
#[eO,a_,b_,c_,d_,e_,by have a_:=b_ Ÿ j c_ fp;have d_:=e_ Ÿ j c_ fp],
#[eP,a_,b_,c_,d_,∀b a_,b_ b=U a_->b≠c_->d_ b=U a_],
#[eQ,a_,(a_,.«local»,)],
#[eR,a_,b_,c_,by intro a_ s b_ H c_ I h],
#[eS,a_,b_,c_,d_,by have a_:(upd b_ c_ d_) c_=U d_:=Zb],
#[eT,a_,λc H R=>b c H λx a=>X2 λd kvs=>x=.ref d/\a d=U Áa/\∀o,R (a_ d o kvs) (upd a d Ác)],
#[eU,a_,b_,c_,∀C s H fp,a_ ÉJ b_ c_],
#[eV,a_,b_,(by rw[Qa,a_];exact b_ Á)],
#[eW,a_,b_,c_,d_,e_,by rw[Qf];refine QaT.mpr (a_,by simp,λa b_ b c_=>?_);rw[d9,d_,e_,b_]],
#[eX,a_,ŕ Òu a_],
#[eY,a_,by rw[Zf (λz=>by rw[z,a_]at this;cases this)];exact this],
#[eZ,a_,b_,c_,(∀a_ b_,N a_ b_->∃c_,c_<m/\W (i+1) c_ a_ b_)],
#[e0,a_,b_,c_,(∀b o,a_ b=U o->b≠m->b≠b_->c_ b=U o)],
#[e1,a_,b_,c_,by have:c∈(a_ : ah).cps.toList:=b_;rw[show (a_ : ah).cps.toList=[c_] from by ac_rfl]at this;rw[Ý this]],
#[e2,a_,b_,c_,(λa_ o b_ e=>c_ a_ o b_ e)],
#[e3,a_,b_,by refine(a_,_,rfl,ā b_,rfl,_,_,rfl,_,_,rfl,rfl,?_)],
#[e4,a_,b_,(a_,_,rfl,ā b_,rfl,_,_,rfl,_,_,rfl,rfl,?_)],
#[e5,a_,b_,c_,(by rw[a_];exact b_ c_)],
#[e6,a_,b_,c_,d_,Df P w K mg Â a_ b_ [c_] d_],
#[e7,a_,(λi m a H=>m=a_-i/\i<=a_/\Pv i a H,(a_,by simp,Qt _,h0),?_)],
#[e8,a_,Ða K a_=true],
#[e9,a_,b_,c_,d_,e_,by cases (show u=è b from a_);obtain z|hd|b_|c_|d_:=e_ é e],
#[fa,a_,b_,c_,#[Zd,‹a_›,‹b_›,‹c_›]],
#[fb,a_,(.builtin a_)],
#[fc,a_,b_,c_,by refine .inr ((q,a_),Pv (i+1),λjP aR b_ c_=>(û-(i+1),by lia,rfl,a_,c_),λx b_ y=>?_)],
#[fd,a_,#[Zn,(Yu K),Í,Áe,Qy,#[Zd,‹a_›]]],
#[fe,a_,(by rw[a_];lia)],
#[ff,a_,(vs=[.ref a_])],
#[fg,a_,#[Zg,#[Zl,‹a_›]]],
#[fh,a_,(false,ă a_ Î,)],
#[fi,a_,aE [a_] Î=[(false,ă a_ Î,)]],
#[fj,a_,∀a_ s',XE X E a_ s'->ç a_ s'],
#[fk,a_,b_,Ĳ K a_ "__init__" = U (U b_)],
#[fl,a_,b_,(a_ : ah).length=b_],
#[fm,a_,b_,c_,by exact(_,a_,λb_ c_=>by cases c_)],
#[fn,a_,b_,c_,(_,a_,λb_ c_=>by cases c_)],
#[fo,a_,b_,#[W9,(slL K),‹a_›,#[Xy,‹b_›],(@Ws _)]],
#[fp,a_,b_,c_,(a,b,by rw[Zf a_];exact b_,c_)],
#[fq,a_,b_,c_,ZO a_ b_ H m rd sd L s nb li lo c_],
#[fr,a_,(ÆG (Ã8 a_ (Zh st) Ï f a))],
#[fs,a_,(Æz { cls:=.type a_,Ò:=.fields #[.ref d] })],
#[ft,a_,b_,(a_ : ah)=⟨[b_].toArray⟩],
#[fu,a_,(λ_ _ _ _ h=>É (h.2.2.2.2 _ _ a_))],
#[fv,a_,b_,c_,(.tup [.int a_,.int (b_:Int),.str c_])],
#[fw,a_,by obtain u|rfl|a_:=Xb r;cases a_],
#[fx,a_,b_,(.lst ((a_ b_).map Ä))],
#[fy,a_,b_,c_,#[Zy,a_,b_,c_,Í]],
#[fz,a_,by refine Y1 (λa_=>?_) (λa_=>?_)],
#[fA,a_,((af,rfl),rfl,Qt _,Zb,Zi a_ _)],
#[fB,a_,(ă a_ Î)],
#[fC,a_,b_,bB a_ b_ Î (ă a_ Î)=ă a_ Î],
#[fD,a_,b_,a_ ò X.w X.K ę Ř k C b_ ps sp],
#[fE,a_,b_,Qg (f:=λy:AR=>(a_,y,)) b_],
#[fF,a_,by rw[Ń (no ö:¬ Ä a_ = Ä "row")]],
#[fG,a_,b_,∀a_ b_,H a_=U (.tup b_)->H' a_=U (.tup b_)],
#[fH,a_,b_,c_,#[Zk,(@a_ _ K _ b_ Í),‹c_›,Âk,ú]],
#[fI,a_,Ĳ K a_ "__getattribute__" = U ØD],
#[fJ,a_,b_,hdS (Zt64 (a_ (b_ ZI)))],
#[fK,a_,b_,c_,hdS (Zt64 (a_ (b_ (c_ ZI))))],
#[fL,a_,b_,c_,by rw[a_]at b_;cases c_],
#[fM,a_,b_,c_,(thn (a_ b_ s b H _ I h) λu g ⟨y,i,j,k,c_⟩=>thn (ha b_ g b i _ j c_) ?_)],
#[fN,a_,b_,∀t∈a_,∃its:À ae,ZH (t.2.map kV) its/\ÃG b_ t.1 ŝ],
#[fO,a_,((a_+1:Nat):Int)],
#[fP,a_,b_,c_,d_,by obtain⟨a_,rfl⟩:∃b_:Nat,c_=(b_:Int):=(d_,by lia)],
#[fQ,a_,["self", a_]],
#[fR,a_,b_,c_,by rw[a_,b_,mO]at c_;refine thn c_ ?_],
#[fS,a_,(a_,.globalImplicit,)],
#[fT,a_,b_,by refine(_,rfl,m,ak,a_,_,rfl,b_,ã,ÂO,V4 ..,?_);rw[RP]],
#[fU,a_,(QI X G a_).symm.trans h],
#[fV,a_,b_,(∀s∈a_,ĝ<=b_/\AZ s)],
#[fW,a_,b_,#[ZL,#[ZZ,K,QC,QD,QE,Z0,‹a_›,#[Zd,‹b_›]]]],
#[fX,a_,b_,by exact .inr (by rw[show b=a_ from z];exact b_)],
#[fY,a_,b_,c_,d_,by obtain a_|b_|rfl|c_|d_|q:=h],
#[fZ,a_,b_,(.inr (.inr (.inr (a_,b_,.inl z))))],
#[f0,a_,b_,c_,d_,by obtain d|a_|b_|c_|X|nd|d_|o|rfl|hd|iH|D|B|fo|gn|hw|rfl|q:=h],
#[f1,a_,Ĳ K a_ "__class__" = U (U Ço)],
#[f2,a_,b_,by refine a_ (am (am (Ñe (T := "list") (b:=false) O b_ ?_)));rw[c0]],
#[f3,a_,[(false,ă a_ Î,)]],
#[f4,a_,b_,c_,d_,by obtain a|b|a_|b_:=c_;exact(a,b,by rw[Zf d_];exact a_,b_)],
#[f5,a_,b_,c_,d_,by obtain its|a_|b_|c_:=ÁW d_],
#[f6,a_,b_,c_,(_,_,a_,XI b_ #[ep,0,100] .nil,XI c_ Èu Ôa)],
#[f7,a_,b_,c_,(a_ b_ s c_ H _ I h)],
#[f8,a_,b_,by exact(a_ e b_).keep (Zf a.symm) (Zf b.symm) (Zf c.symm)],
#[f9,a_,PySem.W.isClsIn K a_=true],
#[ga,a_,b_,c_,(∀b a_,b_ b=U a_->c_ b=U a_)],
#[gb,a_,b_,(upd a_ b_ Ź)],
#[gc,a_,b_,c_,(_,rfl,m,ak,dx,_,_,rfl,a_,ã,b_,c_ ..,_,_,rfl,rfl,dx,_,a_,V4 ..,?_)],
#[gd,a_,b_,(ha pos a_ s b_ H _ I h)],
#[ge,a_,Ĳ K a_ "__setattr__" = U È3],
#[gf,a_,b_,(H a_=U (.lst b_))],
#[gg,a_,b_,c_,d_,by refine(_,rfl,m,ak,dx,_,_,rfl,a_,ã,b_,c_ ..,_,_,rfl,rfl,dx,_,a_,V4 ..,?_);rw[d_]],
#[gh,a_,b_,c_,d_,#[ZF,(a_ b_),‹c_›,d_]],
#[gi,a_,b_,(_,rfl,m,ak,a_,_,rfl,b_,ã,ÂO,V4 ..,?_)],
#[gj,a_,b_,(∀H,SqT K H a_ [.ref b_,.non])],
#[gk,a_,b_,(λ_ _ _ _=>#[cg,a_,b_])],
#[gl,a_,b_,c_,by refine(_,rfl,m,ak,dx,_,_,rfl,a_,ã,b_,c_ ..,_,_,rfl,rfl,dx,_,a_,V4 ..,?_)],
#[gm,a_,(Ã8 a_ (Zh st) Ï f a)],
#[gn,a_,b_,by refine(_,rfl,m,ak,a_,_,rfl,b_,ã,ÂO,V4 ..,?_)],
#[go,a_,ZO cR cM H' X.m Ķ c a_ s' Ĉ (ğ+k) (Ġ+q) (Yx w)],
#[gp,a_,b_,(.str a_,H,ř _,ü,b_)],
#[gq,a_,b_,#[el,a_,b_,M.ob]],
#[gr,a_,b_,(vs=[.ref a_,.ref b_])],
#[gs,a_,b_,(vs=[.ref a_,.int b_])],
#[gt,a_,b_,c_,a_ λb_ c_=>h b_ (Qm _ c_)],
#[gu,a_,PySem.W.mroIn K a_ Ì3=U true],
#[gv,a_,b_,(a_,g,d,b_,os)],
#[gw,a_,b_,c_,(Åm x a_ (Wr st) (XO st) (Zh st) .none kV e g b_ c_ ct)],
#[gx,a_,by exact nomatch hw.one a_],
#[gy,a_,b_,(bP.elim (λz=>by rw[(z)];exact(a_ b_).1) ((a_ b_).2 b))],
#[gz,a_,Ĳ K a_ "__getattr__" = U af],
#[gA,a_,b_,c_,d_,by obtain a_|e|d:=T.obj _ _ b_ b c_;exact(d_ (b,a_,) (QF _ (QF _ (U3 c_ e)))).2.1],
#[gB,a_,b_,#[Zu,a_,b_,â,Âk]],
#[gC,a_,b_,c_,by refine(_,rfl,ÀV,λa_ b_=>?_);have c_:=Zi b_ Ź],
#[gD,a_,by exact Qaa a_ Ě Μ f e τ c],
#[gE,a_,(λz=>a_ (.inl z))],
#[gF,a_,b_,(∀x a_,Χ x=U a_->a_≠b_)],
#[gG,a_,b_,É9 K a_ (.ref b_)=U true],
#[gH,a_,b_,c_,d_,e_,(_,rfl,p,c,a_,rfl,b_,by lia,by decide,by decide,λr c_ r0 r1 d_ e_=>?_)],
#[gI,a_,b_,#[Ym,a_,ã,b_,‹0›]],
#[gJ,a_,b_,by rw[el,a_,b_,M.ob]],
#[gK,a_,(.tup [.int (ZX a_).1,.int (ZX a_).2])],
#[gL,a_,b_,c_,d_,e_,Inv X a_ b_ c_ { d_ with Ø:=e_ }],
#[gM,a_,b_,c_,d_,e_,by rintro u a_ ⟨x,b_,c_,d_,a,dx,fs,ex,e_,l,q⟩;subst ex;obtain rfl:u=è a:=d_],
#[gN,a_,b_,c_,d_,(.ListComp a_ [(b_,Ļ,c_,0)] d_ pos)],
#[gO,a_,b_,((lcp a_ b_:Nat):Int)],
#[gP,a_,by rw[z,a_]at this;cases this],
#[gQ,a_,Nat->À V->a_->Hp->Prop],
#[gR,a_,(by show a_<=_;rw[aP];decide)],
#[gS,a_,b_,#[Zk,a_,‹b_›,#[Zn,WH,Í,Áe,Qy,Àl],ú]],
#[gU,a_,b_,c_,ī K aM a_ = U (U (.int b_ c_))],
#[gV,a_,b_,c_,#[Zy,a_,b_,#[Zd,#[pv,0,(Év â)],c_],Í]],
#[gW,a_,b_,c_,d_,ı a_=U (.type "tuple",b_,.seq #[] c_,d_)],
#[gX,a_,b_,(ZO a_ b_ H m rd sd L s nb li lo (Yx w))],
#[gY,a_,b_,c_,d_,e_,by have a_:(ÁY++(b_ : ah)).length<=0+c_:=z Ì Ì Ì;have d_:=z a_ e_ Ì],
#[gZ,a_,b_,c_,d_,e_,by intro a_ b_;have c_:=Zi b_ (.dK []);have d_:(upd e_ a_ (.dK [])) a_=U (.dK []):=Zb],
#[g0,a_,#[ec,Xc,a_,ţ]],
#[g1,a_,nomatch hw.one a_],
#[g2,a_,b_,c_,d_,e_,by have a_:=Zi b_ Ź;have c_:#[gb,d_,e_] e_=U (.lst (([]:À ah).map Ä)):=Zb],
#[g3,a_,Ĳ K (.ref a_) "__setattr__" = U È3],
#[g4,a_,b_,c_,(show Y2 ò X.w H Ð a_ (.dK b_) from é a_ _ c_)],
#[g5,a_,#[Zg,#[Zl,a_]]],
#[g6,a_,b_,c_,d_,by obtain a_|b_|c_:=d_],
#[g7,a_,b_,(a_ b_=U .cell\/a_ b_=U .free)],
#[g8,a_,((a_:Nat):Int)],
#[g9,a_,b_,c_,d_,by rw[eR,a_,b_,Q];refine bh (WX I c_ hm ?_ d_)],
#[ha,a_,b_,#[ZM,a_,‹b_›,Ü]],
#[hb,a_,by exact Q8 a_ Ě Μ e τ h],
#[hc,a_,b_,(((a_ b_).length:Nat):Int)],
#[hd,a_,b_,#[Xfi,K,ak,a_,b_]],
#[he,a_,b_,by rw[a_]at this;exact Ç this (ÉS b_)],
#[hf,a_,À (À a_)],
#[hg,a_,b_,c_,(upd a_ D (.lst (b_++[c_])))],
#[hh,a_,#[cG].get? (a_ Ð S1 S2 a b).objs.size=U _],
#[hi,a_,#[ZZ,K,QO,Qad,Qae,(Vt K),á,a_]],
#[hj,a_,b_,(a_ Ð S1 S2 a b).objs.size=Ï+b_],
#[hk,a_,b_,[.ref a_,.ref b_]],
#[hl,a_,b_,c_,d_,∀a_ b_,a_≠c_->d_ a_=U b_->Ā a_=U b_],
#[hm,a_,b_,c_,by obtain a_|g|d|b_|os:=c_],
#[hn,a_,b_,c_,(∀ (s:aj) (a_:ae),ÆI s b_ ([a_],[]) [(c_,a_,)])],
#[ho,a_,b_,c_,(Xz (CX1 P w) P w K mg Â N a_ b_ f c_ A Û s H E)],
#[hp,a_,b_,(.type "dict",af,.dict a_ b_,#[])],
#[hq,a_,b_,c_,d_,e_,by have a_:atI [í b_,.int c_] d_=U (.int e_):=Ye (j:=d_) rfl],
#[hr,a_,Qg (f:=λt:aa×À Key=>t.2) a_],
#[hs,a_,b_,c_,by subst a_;rw[fL,b_,c_,c_]],
#[ht,a_,b_,(S1.at_keep (λo e=>a_ _ o D.i1z e) b_)],
#[hu,a_,b_,a_ l (b_ λt=>è t.1).toArray],
#[hv,a_,b_,(@a_ _ _ _ _ ‹b_›)],
#[hw,a_,b_,(SqL a_ H p b_\/SqT a_ H p b_)],
#[hx,a_,(.int (a_:Int))],
#[hy,a_,b_,((a_ : ah) = b_)],
#[hz,a_,À (ah×a_)],
#[hA,a_,by have hb:(g == a_)=false:=Èx h],
#[hB,a_,b_,(by rw[Qq,Qq,a_],by rw[Qq,Qq,b_])],
#[hC,a_,b_,by intro ai s σ H x y v u Q I a_ b_ h],
#[hD,a_,Õe K a_=true],
#[hE,a_,by rw[<- a_]at this;exact this],
#[hF,a_,(a_ λt=>è t.1)],
#[hG,a_,b_,#[ZL,#[Ym,a_,ã,b_,‹0›]]],
#[hH,a_,b_,#[XX,(@a_ _ _ _ _ ‹b_›),#[XX,á,(@UP _)]]],
#[hI,a_,b_,c_,d_,by rintro zs a_ b_ ⟨⟨v,rfl⟩,rfl,_,c_,d_⟩;rw[Qa,Qz (Qj _)]at c_],
#[hJ,a_,#[ZZ,K,QO,Qbn,Qbo,Pz,‹a_›,#[Zd,á]]],
#[hK,a_,b_,#[gb,a_,b_] b_=U (.lst (([]:À ah).map Ä))],
#[hL,a_,b_,#[fL,a_,b_,b_]],
#[hM,a_,b_,(.bl a_,H,I,rfl,b_)],
#[hN,a_,b_,{ a_ with Ø:=b_ }],
#[hO,a_,b_,[.int a_,.int b_]],
#[hP,a_,b_,∀a_ H,Pv b_ a_ H->Č a_ H],
#[hQ,a_,b_,[(a_,Ļ,b_,0)]],
#[hR,a_,b_,(by rw[Zf a_];exact b_)],
#[hS,a_,b_,c_,(.lst (a_ λb_=>õ c_))],
#[hT,a_,(∀b∈fp,a_ b=af)],
#[hU,a_,b_,c_,(upd a_ b_ (.lst c_))],
#[hV,a_,b_,c_,d_,(.DictComp a_ d [(b_,Ļ,c_,0)] d_ pos)],
#[hW,a_,#[gT,K,2,#[d4,2,a_,3]]],
#[hX,a_,[.int (ZX a_).1,.int (ZX a_).2]],
#[hY,a_,((af,af,rfl),rfl,Qt _,Zb,Zi a_ _)],
#[hZ,a_,(a_ (·.nm)).Nodup],
#[h0,a_,λ_ _ _ _ _ st h=>a_ st h],
#[h1,a_,b_,(.tup [.int a_,.int b_])],
#[h2,a_,b_,c_,d_,e_,(_,rfl,_,rfl,_,rfl,a_,_,rfl,É (b_ _ _ c_),λd_ e_=>?_)],
#[h3,a_,b_,c_,by have a_:#[gb,b_,c_] c_=U (.lst (([]:À ah).map Ä)):=Zb],
#[h4,a_,b_,#[Xfi,K,a_,"__init__",b_]],
#[h5,a_,b_,c_,d_,e_,ı a_=U (.type "tuple",b_,.seq #[.str "name" c_] d_,e_)],
#[h6,a_,Pv 0 [] Ö0 #[gb,a_,D]],
#[h7,a_,b_,c_,by subst a_;obtain z|hd|b_|c|c_:=VU é e],
#[h8,a_,(by show a_<1000;decide)],
#[h9,a_,a_ tm=U (.tup ((ÊT:À Key).map kV))],
#[ia,a_,by exact nomatch z.one a_],
#[ib,a_,nomatch z.one a_],
#[ic,a_,b_,#[el,a_,b_,D.mg.M.ob]],
#[id,a_,b_,a_ λ_ _ _ _ _ _ _ q=>b_ q],
#[ie,a_,(V9 a_ rfl ö)],
#[ig,a_,#[ec,YI,a_,á]],
#[ih,a_,b_,#[ZF,(ixG a_),Ĥ,‹b_›]],
#[ii,a_,b_,(.inr (.inr (.inr (a_,b_,z))))],
#[ij,a_,a_ Ïu x],
#[ik,a_,b_,c_,(λa_ b_ c_=>Qc _ c_)],
#[il,a_,(_,QI X G a_)],
#[im,a_,b_,(è a_::b_).contains ÀA=true],
#[io,a_,b_,c_,d_,by have a_:=z b_ (show (c_ : ah).length<=d_ by decide) Ì],
#[ip,a_,b_,(_,rfl,a_,_,_,_,rfl,rfl,É b_,rfl,?_)],
#[iq,a_,a_ ò X.w X.K ę Ř k x ps sp],
#[ir,a_,(Q (.int (a_ þ Ė)) H)],
#[it,a_,b_,c_,#[Zk,a_,#[fy,b_,c_,Æe],Ü,ú]],
#[iu,a_,b_,by rw[Æ a_,Æ b_]],
#[iv,a_,b_,by rw[Æ a_]at b_],
#[iw,a_,b_,c_,(λa_ b_ c_=>?_)],
#[ix,a_,b_,by rw[a_,b_]at this;exact this],
#[iy,a_,(by rw[Qr,Qb a_]<;>rfl)],
#[iz,a_,(λa_ H Q E h=>?_)],
#[iA,a_,b_,c_,by obtain m|⟨o,_,_,a_,_⟩|_:=b_;exact c_ _ _ a_ Äm],
#[iB,a_,b_,c_,by rw[show nd=a_ from z,b_]at c_;cases c_],
#[iC,a_,b_,by refine(_,rfl,a_,_,_,_,rfl,rfl,É b_,rfl,?_)],
#[iD,a_,b_,#[Ym,a_,ã,b_,Ĥ]],
#[iF,a_,b_,c_,d_,e_,by refine(_,rfl,_,rfl,_,rfl,a_,_,rfl,É b_,λc_ d_=>?_);rw[e_]],
#[iG,a_,b_,c_,d_,(_,rfl,_,rfl,_,rfl,a_,_,rfl,É b_,λc_ d_=>?_)],
#[iH,a_,b_,by rw[el,a_,b_,D.mg.M.ob]],
#[iI,a_,b_,c_,by obtain f|fd|F|a_|b_|c_:=F.ex],
#[iJ,a_,by obtain o|B|e|_:=Ìp a_],
#[iK,a_,b_,c_,∀a_ b_ H,Pv c_ a_ b_ H->Q (.ref D) H],
#[iM,a_,b_,(upd a_ e (exN e C (U b_)))],
#[iN,a_,b_,by refine a_ b_ Ç9 Ôc],
#[iO,a_,b_,#[Xd,Ĥ,‹a_›,(Wp b_)]],
#[iP,by refine ÛT F.entry_min_loop ?_;show av _ _ (Ôb (.ref S) >>= _) _ _ _],
#[iQ,by have q:=(c.val k).isSome_eq;rw[ÖL]at q;rw[<- q,<- l];exact h _ (ř _)],
#[iR,by rw[aR];obtain i|j|rfl|q:=h;obtain u|w'|rfl|⟨t,rfl⟩|⟨t',rfl⟩:=Ue r],
#[Äb,Zm N ps (Zh st)],
#[ÃZ,Yy X.K fd ps ds],
#[iU,(show Ē from r)],
#[ÙR,(by rcases bP with z|z|z<;>rw[(z)];exact n1.symm;exact n2.symm;exact n3.symm)],
#[Ét,(K Êa)],
#[ÇA,((ÇG).map ÂZ)],
#[Íp,["self", "meeting", "comer"]],
#[ÀG,(ZQ X.L)],
#[i1,by rw[el,A,B,y];obtain C|f|D:=I.dictF A hd;have p:û=Ãh:=Á3],
#[ÑO,e ∉ (env::Û).filterMap (·.frame)],
#[Ðs,V->Ã Int->Ã Int->Hp->VK->Prop],
#[Ðe,(.Assign [.Attribute o f cZ] ς pos)],
#[i5,by rw[Zf (Ze this hu),Zf (Ze this qx)];exact this],
#[ØV,["_law_left_here", "_law_some", "_law_first", "_law_letters", "_law_at"]],
#[Öt,(∀c o,c≠z->c≠TO->c≠i1->c≠i2->ì c=U o->Ā c=U o)],
#[ÖQ,(λxs H Q=>X2 λa kvs=>xs=[õ a]/\H a=U Áa/\Q (.int û) H)],
#[Øa,(λT=>NB ŵ H É2 T/\(hideAll Ð ch).get? T=af)],
#[ÛA,((_,_,rfl),by rw[R];show _=Ì5 Ä (_++[]);rw[QX],O,I,J)],
#[Úr,(_,rfl,rfl,_,rfl,Y1 (λd=>nomatch (Ī d)) (λ_=>?_))],
#[jc,by obtain gQ|r1|m1|f1:=I.src C;obtain ic|r2|m2|f2:=I.src F;have T:=g z Ó],
#[Ę,À Od],
#[je,(backToKw bq (bU [] Î))],
#[Òi,(ÆW λ_=>#[è ÅD])],
#[ş,(.ref p)],
#[ÍH,đ rfl],
#[Êi,["number", "keys"]],
#[ÆP,(aE (e::es) Î)],
#[Â2,X.N[i]? = U x],
#[ÊH,À (Int×Ã ah)],
#[Ú3,Df P w K mg Â 15 "ask_take" Ŀ (Yv ax au ak λo=>∃n,o=.take n)],
#[ÒJ,(upd (upd H f A) r B)],
#[δ,(U ą)],
#[Ó7,(.tup [.ref d,.ref n,.ref dl,.ref v])],
#[Ó9,(((u.take i).flatten.length:Nat):Int)],
#[Ív,["_law_desk", "_law_many"]],
#[Ú2,Df P w K mg Â 15 "do_drop" Ŀ (Yv ax au ak λo=>∃s,o=.drop s)],
#[Ù4,([("all_keys",.ref k,),("fars",.ref f,),("gone",.int g,)]:À (ah×V))],
#[ÂQ,(Z1 P).Nodup],
#[Âv,(Át hc)],
#[ÑK,∀i ys a H,Pv i ys a H->H d=U Ác],
#[ÏN,[.Tuple [.Name x g,.Name y k] kt pt]],
#[ØS,["_law_left_here", "_law_stems_here", "_law_letters", "_law_tail"]],
#[Ú4,Df P w K mg Â 15 "ask_counts" Ŀ (Yv ax au ak λo=>o=.counts)],
#[Ú5,Df P w K mg Â 15 "ask_coming" Ŀ (Yv ax au ak λo=>o=.coming)],
#[î,(Qj _)],
#[Îk,(rfl,rfl,rfl,rfl,rfl)],
#[ÓO,λe:AR=>((.inr ä:Key),õ e.t,)],
#[jE,by obtain g|d|r:=e.get b;rw[show its[k]? = U u from f]at d;cases d;exact r],
#[Éj,Ń Á],
#[Ís,["word", "least", "most"]],
#[ÅI,["_law_script"]],
#[ÆD,Nat->St->Hp->Prop],
#[Åw,ĉ ÐM],
#[Ï5,(λy=>if y=name then U v else mA y)],
#[Ïj,(tupleKind (ZR P w))],
#[jM,(f.2 b (QB (QG (Qs e) ÈG)))],
#[ÍN,(YS k f g)],
#[ÔJ,(Rp ha hb I h λv u f x y g i j k q=>c d f e g x y v u Q i j k q)],
#[ÊQ,(À Int×À Int)],
#[ÓS,(.tup [.int n,.ref B,.int (g:Int)])],
#[Àe,(.lst zs)],
#[ÙG,(.ins ak dx (mgF j l (p+1) lo C r))],
#[ÐI,(.call (.ref fa) ([.ref a],[]))],
#[Ór,#[Zc,ÊV,#[Zc,ÊV,#[Zg,ÊV]]]],
#[Ħ,#[1,YJ]],
#[Ùq,(_,rfl,_,rfl,y,rfl,Ĭ i,rfl,_,rfl,Y1 (λc=>?_) (λc=>?_))],
#[jX,by simp only[Ôd];rw[Æ Á]],
#[ÑN,Æq Â (env::Û)],
#[Ó8,(upd L r (.tup [õ b,Ä g]))],
#[ÚP,Df P w K mg Â 3 "written_heads" ["desk", "heads"] (MB K ax)],
#[Ú7,Df P w K mg Â 15 "ask_rows" Ŀ (Yv ax au ak λo=>o=.rows)],
#[Ú6,Df P w K mg Â 15 "ask_left" Ŀ (Yv ax au ak λo=>o=.left)],
#[Îs,(L++[(i,u,k,f,l,0)])],
#[j4,by rw[show its.toArray.any (eqU x)=its.any (eqU x) by simp,Rg r fs];exact q],
#[Ê4,[thT (Y0 nm e.n) z]],
#[į,À aK],
#[Â8,Â3 a],
#[Â9,A.handled=af],
#[Äi,.type "tuple"],
#[Õn,(thn #[gd,a,b] λj k ⟨l,m,n,o,q⟩=>hc a k b m l j Q n o q)],
#[Ðp,(Ã8 a b Ï f c)],
#[ÃR,(.type "int")],
#[ØA,(.Call (.Attribute (.Name x p) "__init__" bu) (e::es) [] pos)],
#[ķ,#[2,YE]],
#[kf,by obtain rfl|L:=d j;obtain rfl|m:=b.link L k l;exact(rfl,m)],
#[kg,(Äe { cls:=Ĺ,Ò:=.seq ([]:À ae).toArray })],
#[ÌJ,(o,k it Ó o e,r)],
#[Ûw,(k,ks,d,rfl,?_,f2,by lia,f5,S,by lia,by lia,D.trans B5)],
#[kj,by simp only[dE,Ŷ,Option.getD_none,show (1:Int)>0 by decide,ÆX]],
#[kk,by rintro v j ⟨x,g,i,k,d⟩;obtain c|rfl|d:=d;cases k;refine bp ?_],
#[ÖG,Æl S=U { cls:=Ĺ,Ò:=.seq #[.ref t.1,.ref t.1] c }],
#[Ød,YU ò X.w X.K ę Ř (CX1 ò X.w) k f fd ps sp],
#[ÍY,Tq _ _ _ ö ö ö],
#[ÌR,À (À Key×aa×ae)],
#[Îd,(λe=>(e.n,(Ö,e.g,),))],
#[ÄK,(ĥ toL)],
#[ÖF,(.builtin "min.loop" { pos:=[.ref I,.none,.ref S],kw:=kw })],
#[ÛO,#[XT,#[ZZ,K,QO,QaV,QaW,Pt,#[gh,ixL,K,7,Ü],#[Zd,á]]]],
#[Ö5,∀b o,ì b=U o->(∀g,Ζ≠.fields g)->b≠T],
#[ù,(·.1)],
#[Û4,(Xz (CX1 P w) P w K mg Â N b (Zh st) f a A Û s H E)],
#[Óe,(_,rfl,rfl,_,rfl,YZ rfl ?_)],
#[Ó5,(_,_,h,by ac_rfl,by ac_rfl)],
#[Êm,["_law_keys_here"]],
#[ÈQ,V->V->Hp->VK->Prop],
#[Ï1,Ĳ K æ name=U af],
#[Õd,(thn #[gd,g,i] λus s1 ⟨vs,H1,a,r,q⟩=>(a.kIn,?_))],
#[Òq,(if b=true then (1:Int) else 0)],
#[ÙI,(.tup [.int D,.int (ÀB:Int)])],
#[Ás,(.ref it)],
#[kF,by have:Âx x=U .free:=hk;rw[k]at this;cases this],
#[Ìr,Èb "__next__"],
#[Ìv,SQ z TI TO i1 i2 S1 S2],
#[Ùa,(.lst [.str "ababcz",.str "abcdefghijklmnopqrstuvwxyz"])],
#[ÓV,(.frz o (.dK (kvA R)))],
#[Íg,(#[86].length-(2-1-1))],
#[Ø9,(_,rfl,by unfold AZ cds;ac_rfl,by ac_rfl,by ac_rfl)],
#[Øc,(F,h,T,i,j,G,J,K,L,N,O,k,l,P,n,hideAll_none _ Ó)],
#[Çq,⟨#[(48)+n]⟩],
#[ÂS,Ĭ Á],
#[kP,by rw[cq];obtain i|j|rfl|rfl|q:=h;rw[ey,t,a];rw[ey,c,b]],
#[kQ,by refine((o,e,ex.1),λa f=>?_);cases f;exact(o,e,ex.2.1)],
#[Ì8,(Äv+1)],
#[kS,(Xo n ks k f x)],
#[ÙN,(.tup [.int (i:Int),.ref x.1])],
#[Ùn,(.lst ((ÂE Ο).map λj=>.int (WV ss j)))],
#[ÒB,#[XJ,YI,‹0›,‹1›,ú]],
#[ÄM,(λ_ _=>rfl)],
#[ÃN,(EP X a b Q)],
#[Öy,∀i zs a H,Pv i zs a H->Æ9 K H xs/\Ça K H ys],
#[kZ,by rw[Qa];exact ZA Á],
#[Ãr,["numbers"]],
#[ÕF,Y4 a ((n,k,)::r) b=Y4 a r ((n,(a.lookup n).getD 0,)::b)],
#[Ðk,À6 X.K ą=true],
#[Ãz,2<=ÀX],
#[Ê6,(∀o∈os,OdW o)],
#[ÍT,(λe=>decide (e.1=k))],
#[Ì0,(Æ1 Š env)],
#[Ãy,(ÂC H)],
#[ÌD,(Itz K S1 S2)],
#[ÉT,(.tup (k.map kV))],
#[Í5,(.ins ak g Í7)],
#[Ò7,((Ŝ:Int)-(e.g:Int))],
#[Òy,#[ef,1,"alike_from",Äz,R6]],
#[Ùf,(_,rfl,_, "bool",_,_,rfl,.bl b,Jy K,_,rfl,YH ?_)],
#[le,by obtain _|_|_|_|o|_|_|e|ex|_:=é p _ b;exact(o,e,ex)],
#[lf,(a.push { cls:=Ĺ,Ò:=.seq (Xs its i++its i) })],
#[ô,#[9,X]],
#[ÚD,(X.m,Ķ,f,X.L++[e],s',Ĉ+1,ğ+k,Ġ+q,w)],
#[Øe,∀self:ae,refuseLoop self "__setattr__" bm=pure ()],
#[Úk,M1f P w K mg Â 1 ak "row_of" ÁF (MK au ak ay)],
#[ÚS,Df P w K mg Â 4 "written_things" Çv (MA K ax)],
#[lm,(Äe { cls:=.type "dict",Ò:=.dict #[] })],
#[Ùh,((af,af,rfl),rfl,Î3 (Zi t _),Zb,Qt _)],
#[lo,by show av _ _ (ÆU æ _) _ _ _;refine(QaB X2 hi).at ?_],
#[lp,by rw[Br];obtain W|⟨m0,w0⟩|turn:=hR Á4 hD],
#[χ,Zt k X.A],
#[ËP,H a=U (.ins C dx fs)],
#[ls,(low n (Z6 8 N n) i)],
#[ÚU,(Ρ Ä)],
#[Èa,(Ö++ks)],
#[Ç8,(Ņ:Int)],
#[Áh,(Y5 M n)],
#[ÂT,(X.L++[e])],
#[Í9,(Win Ğ (ZC L) w)],
#[ÂA,(.inr rfl)],
#[Âr,(.frz o u)],
#[Õz,((e::es).length+([]:À Éd).length+ÑE<30)],
#[Ûm,(λc f=>Ī (Qag.mp b c f),d,e)],
#[ÈN,x ≠ "__name__"],
#[lE,by rintro _ s8 ⟨km,H8,I8,q8⟩;have P2:=fX _ s8 km H8 _ I8 q8],
#[ÔC,[λv=>bindName Î y v,λv=>bindName Î x v]],
#[Êk,["kind", "many"]],
#[È0,È9->aj->Prop],
#[Ár,PE X a ta],
#[Ş,À aa],
#[Êp,(ι<=1000)],
#[Êo,(ĕ<=1000)],
#[Ò1,(ZS þ Ė=0/\I.n<J.n)],
#[Áy,(Xk N vs)],
#[Ëd,(ł (XA e t))],
#[Ñ9,((ÁD z y).map Ä)],
#[ÒU,#[ef,4,"_law_keys",Ãq,R4]],
#[ÒI,#[ef,1,"order_at",Êg,RX]],
#[ÏB,#[eC,u,ì,Ā]],
#[Ñh,(zH1 c S1 a,g,d,tk,os)],
#[Íy,(by lia,by lia)],
#[lV,by refine Ë8 rfl (Õy ?_)],
#[lW,by obtain _|q1|_|q3|q4|q5:=f3 b k;exact(q3,q1,q4,q5)],
#[Òl,["desk", "heads", "names"]],
#[Òs,(by show (0:Int)<_;decide)],
#[Îm,(Z5 Ğ s (ZC L))],
#[l0,(S.lo-S.lo)],
#[Ån,(Év rfl)],
#[ÀR,(.ref b)],
#[ÀP,(.ref D)],
#[ÓR,(.lst ((p++ks).map Ä))],
#[Îj,#[gh,ixT,K,3,Ü]],
#[ÄB,#[fQ,"row"]],
#[Ûp,#[Za,á,#[Zd,á,á,á,á,á]]],
#[l8,by rw[hs,w,hi,g];rw[List.getElem?_set_self Y]at l;cases l],
#[ØB,YU ò X.w X.K ę Ř CX0 k f fd ps sp],
#[Ö7,(NB ŵ H' ((X.pn++b).map ù))],
#[Úl,D1f P w K mg Â 5 "refuse_break" Êi (ML K ao)],
#[ÎD,(đ rfl)],
#[Àt,.inr rfl],
#[Ç2,(_,_,rfl)],
#[Ï6,{ s with ï:=ŋ+1 }],
#[Ñl,i=min Ú č],
#[Çj,env.frame=U L],
#[Ñm,ŭ x=U .local],
#[Ék,Ç Üh Qw],
#[ÉI,[z,TI,TO,i1,i2]],
#[Êj,["name", "key"]],
#[Çw,["_law_desk"]],
#[Ï2,Åe K ą=true],
#[Çg,À (κ×ae)],
#[ÉV,Á0+1<Âz],
#[ÕO,(∀f h j,N f h j->∃l,l<m/\W (i+1) l f h j)],
#[ÐJ,(λf vs=>PySem.call f vs)],
#[ms,(ÄO (·.2))],
#[É8,(j.objs.size+1)],
#[ÏX,(f (.int i t) (.int j u))],
#[ÐG,(ah->Ã ae)->aI->Prop],
#[ÊF,(Ya s k v)],
#[ÃB,(YR L e.n)],
#[ÛY,(Xz CX P w K mg Â N o j f t A Û s H E)],
#[Êr,(.type "tuple")],
#[ÁR,(.tup xs)],
#[ÙJ,(.tup [.int (ÇQ 0),.int (ÇR 0)])],
#[Çx,(.ref ap::Ys)],
#[ÁV,(.lst xs)],
#[Çz,#[g8,Ãd]],
#[ÓC,#[Zg,#[Zl,(WD T.g_DONE)]]],
#[ÇX,#[Zd,‹3›]],
#[Ûr,#[ZM,Yf,#[cv,4,VO],#[ZM,VZ,Ü,#[cw,5,VO]]]],
#[ÎY,λe:AR=>(ä,e.n,)],
#[ÎZ,λe:AR=>(ÂR:ZG)],
#[mK,by rw[È d]at h2;rw[È (f.trans d)];exact ih h1 h2],
#[mL,by have c:=congrFun ih n;unfold hdL at c ⊢;rw[QaA,QaA,d]],
#[ÀM,.inl rfl],
#[Ía,(Éi _ _ _)],
#[Üa,(c.zip (Èo 1))],
#[Òf,(Ĕ ŷ ws)],
#[Ë3,([]:À (aa×aN))],
#[Îw,(Yz L e.n ks k' a)],
#[Íc,(A.mark (U Š))],
#[Ág,(.ref t)],
#[ÀU,(.ref r)],
#[ÕA,(.Call (.Attribute o name bu) (e::es) [] bq)],
#[Úh,#[Zd,‹1›,#[ZM,VX,#[ZE,‹3›],‹2›]]],
#[mX,by rw[Q7]at m;exact(ß m).elim (λz=>by cases z) (b w)],
#[mY,by obtain b|rfl|l:=p (λo h=>hw o (Qm _ h)) v Ć u],
#[mZ,by have qI:=qH.draw np r8 r9;have xg:=xa.but r9 op.1 op.2],
#[ÐU,ŭ x=U .free],
#[ÛE,Df P w K mg Â 1 "_law_left" Íj (NX K)],
#[Øg,(∀a dx,Þ x=U a->É5=U dx->b≠dx)],
#[Ûg,(l = "row"/\o=.row i ks/\∀e∈R,ä≠i)],
#[Óp,(e.g<Ŝ\/ks=[])],
#[Õl,(Åm name c C l a D kV F G L d ct)],
#[Òd,(F.args_str_split_2 _ _)],
#[Ûu,(.lst ((Üc).map Ä))],
#[ÒE,#[ef,2,"alike",ÂL,R7]],
#[ÕV,(λx=>([]:À (ah×ae)).reverse.lookup x)],
#[ÚE,(.inr (.inr (.inr (x,(Ä1 f).1,z))))],
#[ÛL,((ÎU).map Ä++[Ä (À0 m).txt])],
#[Ús,#[e6,1,"_law_key_text","_law_key_here",Ta]],
#[ÎR,(Xg [],Xg [])],
#[Õ1,(0,[],_,_,I4,u8,λb k=>(f3 b k).1,?_)],
#[ÓD,∀e∈nm,e.1.length<=8],
#[Å1,λx:ZG=>x.1],
#[nh,by rw[Zf (λz=>by rw[z,e]at q;cases q;exact a)];exact q],
#[ÈW,ae->ae->Sem ae],
#[Ít,["_law_key_here"]],
#[ÌX,List.find?_some a],
#[ſ,À aL],
#[Ą,À V],
#[À9,À Key],
#[ÙM,Cf P w K mg Â 4 au "Row" ÂM (NL au)],
#[ÅT,2<=ģ],
#[Ìa,(λx=>x.1.isSome)],
#[ÉB,(λ_ _=>Ē)],
#[ÉC,(ys.map Ä)],
#[Ëp,(fs.map ù)],
#[Ør,(è C::.ref B::Ys).contains æ=true],
#[Û7,(Z6 k Ų n)],
#[ÅR,(U (m:Int))],
#[ÍK,(SqL K H a Àw)],
#[Ïz,(Æp b o e n a)],
#[Êq,(.type "bool")],
#[ÅE,(.inr Ď)],
#[Îc,(.frz g ÅU)],
#[Ë2,((p,w,)::P.zip vs)],
#[Úb,(((š λu=>õ u.1).length:Nat):Int)],
#[Îo,#[gO,Ė,þ]],
#[nF,#[el,jW,dU,M2.ob]],
#[ÚL,#[Zd,#[ZF,(ixG m),ÄQ,‹3›],‹2›]],
#[Ε,#[3,XY]],
#[nI,by rw[<- (c.val k).isSome_eq,<- l];exact h _ (ř _)],
#[nJ,by refine YC (no λz=>?_) (Y9 ((_,_,_,rfl),g))],
#[nK,by obtain s|j:=D.ok.has (show x∈(ÀH).P from b)],
#[nL,by have p:c.heap.DictOf Ãl d i:=(g,B,C,j,m,n,D)],
#[nM,by have l:=one d;have m:=one g;subst j;subst l;subst m],
#[nN,by have e:=Áv;simp only[Ôg]at e],
#[ØW,["_law_some", "_law_told", "_law_parts"]],
#[Ö6,TY B Â NB env Û L e cls dd Ð],
#[Éz,(λ_ _ z=>z)],
#[ÙY,(upd f o (.lst (h.map õ++[.ref y])))],
#[Çl,(exN e C af)],
#[Ç6,(ÀE L e.n)],
#[ÄE,(Y6 H p c)],
#[nV,(Èr i)],
#[Öu,(S1.raw_keep #[e2,c,n,Äj] D.s1z H)],
#[Çb,(Qas Ì _)],
#[Çn,(.ref Ãp)],
#[ÖA,(.Call (.Name "enumerate" p) [l] [] pos)],
#[Úd,#[Zk,Rm,Ò2,#[VT,T.g_MOST_ROWS],ú]],
#[ÙK,#[WW,Ky,Êw,Êx,#[Zd,Ĥ]]],
#[n2,by rw[đ (rfl:Ä "row" = Ä "row")]],
#[Ö8,ŵ<=Ï],
#[Ñk,(upd H p (.tup [x,y]))],
#[ÙL,(upd G m (.ins ak z (mgF j p t i g u)))],
#[ÒH,(by rw[e];exact ÍH)],
#[Ű,(ZC L)],
#[Ùj,(Áx ÌI true).all id=true],
#[ÛI,(.lst ((ÎU).map Ä++[Ä Ū]))],
#[ÒX,#[Vz,‹0›,Ü,Ub]],
#[Ûf,∀ {a b:ah},a≠b->¬ Ä a=Ä b],
#[oc,by obtain o|p|q:=B d e m;exact(o,p,d,e,l,q)],
#[ÎQ,Áb ks h.2 z hz],
#[Ír,["kind", "word"]],
#[ÕY,Y.env=bJ c Äd Ÿ Î],
#[Õ6,Qaa Qbc Ě (o,j,m.1) f e τ c],
#[Õ5,Qaa Qbb Ě (_,j,rfl) f e τ c],
#[ËI,(∃m,W 0 m a H)],
#[Ìc,(λ_ _ _=>Ē)],
#[ÛC,(by injection z)],
#[Í0,(F,D,(ÀB:Int),)],
#[Án,(.ref x)],
#[ÌW,(.frz g (.dK f))],
#[Ø3,#[Zn,LK,Í,T.b.n_abs,boot_abs,Ãx]],
#[Ók,(rfl,rfl,rfl,rfl)],
#[ÊB,(_,rfl,q)],
#[Ùe,(_,rfl,_,rfl,rfl,_,rfl,YZ rfl ?_)],
#[ÙB,∀t,v=U t->H t.1=U #[h1,t.2.1,t.2.2]],
#[ow,by refine(_,rfl,rfl,_,_,rfl,rfl,_,rfl,?_);rw[Y]],
#[Êl,["_law_rows"]],
#[Â7,PE X o ta],
#[ÈM,Inv X a b H s],
#[ÓE,(∃s,(s,u.2.1,)∈nm)],
#[ÏA,(λz=>a (by simp[z]))],
#[Ôw,(thn (ha b s d H Q I h) λc s1 e=>?_)],
#[ÑT,(ū ĺ)],
#[Ïk,(Åd f)],
#[Ûi,(by rw[Qa,Qa];have:=dD.1;exact ÂS)],
#[oG,(è C::a)],
#[Â0,(a == bA)],
#[ÐN,(Wb ÆA H)],
#[ÊK,(N.map í)],
#[ÒT,(ĥ ù)],
#[Ðn,(ÃJ (Qac _))],
#[Ãf,(.lst ys)],
#[Ôv,#[e5,ÐV,ÛV,I.bk]],
#[oO,by subst f hw g;obtain m|p|D|q|r|u:=d it Ó],
#[oP,by rw[eR,a,b,Q];refine bh (VC I c hm d ?_ hn f)],
#[oQ,by rw[arm_exec_Raise];refine am (bC (Ki hr.hd ?_))],
#[oR,by obtain m|rd|sd|L|s|nb|li|lo|S|l|N|rfl|_:=h],
#[oS,by obtain F|h|T|i|j|G|J|K|L|N|O|k|l|P|n:=x.ex],
#[Öo,η Ð TI (.ref i1) (.ref i2)],
#[ÔW,(Ä0 C Ï)],
#[ÙU,(@KG _ _ _ _ _ _ _ _ Ĥ Í Í)],
#[Öx,(.Call (.Name "zip" p) [a,b] [] pos)],
#[Ø2,((a % 2147483629+k*k*7919+11)*48271)],
#[ÏI,(a,b,I.unwish,q)],
#[ÔK,(.int (g i j),H,ř _,ü,q)],
#[o0,by subst e;exact d.fpOk î (È8 î)],
#[o1,by rw[bc];have C:Á6[i]? = U Á6[i]:=Qa1 m],
#[Ø6,q p _ b (_,_,Zb,Qaj _) (Zi b _)],
#[ÕU,Ÿ=Á4+1],
#[o4,by have:=UB n _ k h;refine(λz=>?_,λm a=>?_)],
#[ÐH,d.params.defaults=[]],
#[Á1,[.ref p]],
#[ÁZ,[.ref a]],
#[Âe,["word"]],
#[ØU,["desk", "singles", "keys", "name"]],
#[Á8,Zt j X.A],
#[Àa,ZB H H'],
#[Ì1,Yy X.K fd ps []],
#[ÕX,ÈV 0 _ _ tJ λb _ A e=>p8 b A e],
#[Ô7,Q8 Qbc Ě (o,g,l.1) e τ h],
#[Ô5,Q8 Qbb Ě (_,g,rfl) e τ h],
#[ËL,OpR X (aS op) r],
#[Àn,À YO],
#[ÁS,À Env],
#[Ïx,HOk ò X.w H' h'],
#[Î6,(∀o∈G,Wc o)],
#[Ùz,(λe=>if e.1=k then (e.1,v,) else e)],
#[Ôp,(λb ps e=>(#[],by rw[e];simp))],
#[ÍD,(upd H l ÍE)],
#[Æj,(upd H a o)],
#[pp,(γ _)],
#[ÆJ,(Éa us)],
#[Èn,(os.take i)],
#[Çf,(Ρ kV)],
#[Àj,(ixL K)],
#[Ùy,(if (hd n).isSome then U n else af)],
#[ÑV,(hideAll_get _ f hc)],
#[Èi,(hdM Å8)],
#[Ç5,(ÀE L n)],
#[Óa,(Z6 k M n)],
#[ÅF,(YM Âd)],
#[ÛZ,(YB X c N' Ï s H fp)],
#[Î1,(X0 H d rd R c)],
#[ÍU,(Æi z)],
#[ÇJ,(É Zb)],
#[Åq,(Qv _ rfl)],
#[ÈS,(QB (Qs e))],
#[Óf,(ÀW e he).at'.ob],
#[Âa,(Key×V)],
#[pJ,(I.ok.bs b o e)],
#[Ô9,(È1 Õa)],
#[Æ0,(.ok .next)],
#[Æv,(.bl true)],
#[Ðc,(.Attribute e f pos)],
#[ÎE,#[iL,K,‹1›]],
#[Èd,#[g5,á]],
#[ÇM,#[g5,ţ]],
#[Èf,#[fl,":",1]],
#[Èg,#[fl," ",1]],
#[ÆY,#[fb,"len"]],
#[Ín,#[fQ,"numbers"]],
#[Ûl,#[e6,1,"_law_heads","_law_desk",Mq]],
#[ÛG,#[Zy,aQ,J,#[Zd,‹1›,Ü],Í]],
#[Ò3,ÊM=(Àg:Int)],
#[pY,by intro b hb;exact(List.eq_of_mem_replicate hb)],
#[ÙX,(Z3 s (ZX M)=af\/Z3 s (ZX M)=U af)],
#[Ôm,(Ôk ą (.ref y))],
#[Ö9,(NB ŵ H É2)],
#[ËR,Ï],
#[ě,(·.2)],
#[Ó2,(_,.inl rfl,rfl)],
#[ÉQ,(rfl,?_)],
#[ÑX,(a,b,I.unpnd,q)],
#[Üi,λb k=>QG (u6 b k) #[e5,p7,Qac,_]],
#[p8,by rw[È rfl]],
#[p9,by rw[e];exact r.fpOk î (r.hok.fresh î)],
#[qa,by rw[Qb l]at c;rw[Qb Á]at e;cases c;cases e],
#[Ïm,e=x\/H e=U (.own x)],
#[Ñs,đ Á],
#[ÒR,[.inl k.1,.inl k.2]],
#[Éc,Zt (k+1) X.A],
#[Ã0,ZH dvs ds],
#[Ã1,Wa CX X E],
#[Ï0,VA Ð x dx C mA],
#[ÃL,PE X b tb],
#[ÃT,Ã ae],
#[Äp,KV kvs vs],
#[ÃU,Cls X.K C],
#[ÃX,(vs++dvs)],
#[Û9,(o.kinds.map Ä)],
#[Ëb,(hdP (YV R))],
#[Êt,(by trivial)],
#[ÐZ,(by rw[Qa]at a;lia)],
#[Êe,(YM (YY ZI))],
#[Êf,(YM (YX ZI))],
#[qt,(WG (st:=st) l c k)],
#[ÒL,(Vh C H p k f ss g)],
#[Øw,(U #[fb,"type.__getattribute__"])],
#[ÄI,(Qb Á)],
#[ØK,(PySem.strKind_is ò X.w z t)],
#[ÄD,(.ref ap)],
#[É6,(.ref B::Ys)],
#[Û5,(.lst [.int a,.int b,.int (c+1)])],
#[Ëj,(.lst Ó4)],
#[Ê1,(.grow s ks)],
#[Éq,(.bool true)],
#[ØL,((X.pnd d).wish (XE (X.pnd d) E))],
#[ÓP,#[gh,ixG,I,0,á]],
#[Êh,#[fQ,"line"]],
#[ÒN,#[XQ,‹0›,Ü]],
#[qI,by simp only[Vv,↓reduceIte]],
#[qJ,by rw[Qbk];refine(by lia,by lia,by lia,?_)],
#[Ôh,Ń (λq=>nomatch q)],
#[ËJ,Int->Int->Prop],
#[Õv,(λw hw=>Rc b c r fs w #[ea,hw])],
#[ÍC,(Ο<=4)],
#[qO,(Æ (ØH a))],
#[qP,(ł (·.n))],
#[ÍF,(HO.lst.inj e)],
#[Öh,(F.args_tuple_iterator_next_1 _)],
#[ÍB,(1<=Ο)],
#[ÂV,(.ref d)],
#[ÍG,(.int #[fO,k])],
#[ÚG,(.inr (.inr (.inl (z.trans i))))],
#[Ío,#[fQ,"number"]],
#[Ïn,∃u,Ā e=U u],
#[qY,by unfold thT;rw[QL,QL]],
#[Ñq,[υ]],
#[ØR,["_law_left_here", "_law_some"]],
#[Ño,ÌK+64<Âz],
#[ÖS,PF a i kvs[i].1 kvs[i].2 (Qb C)],
#[Óz,(λz=>ο Âh)],
#[Ò8,(λe=>(e.1,e.2.2,))],
#[Ú8,(p.2.cps.toList<p.1.cps.toList)],
#[Ñx,(by show 0<=_;lia)],
#[Ñr,(by rw[aP];decide)],
#[Ök,(Æ4 (.ref i))],
#[ÛM,(W.map Ä++[Ä (blT ws)])],
#[ØE,(PySem.W.clsIn K D).isSome=true],
#[Øo,(ÛW _ FV.quiet)],
#[ÙV,(.tup [kV (.inl e.n),.ref e.p])],
#[ÏO,(.Tuple [a,b] l m)],
#[Øu,(.FormattedValue e (-1) af pos)],
#[Ôy,(.BoolOp .And (a::b::Ć) pos)],
#[Ðg,#[eD,t,ÂY,i,d]],
#[rh,(Ã8 o j Ï f t)],
#[ri,by subst a;rw[È rfl]at q],
#[rj,by have u7:∀b∈fp,b<Ÿ:=Üi],
#[rk,a_,PySem.W.typeIn K a_=U É7],
#[rl,a_,b_,c_,d_,by have a_:(upd b_ c_ d_) c_=U d_:=Zb],
#[rm,a_,b_,c_,#[ZF,a_,‹b_›,‹c_›]],
#[rn,a_,(Ï+a_)],
#[ro,a_,b_,c_,d_,∀b o,a_ b=U o->b≠b_->(upd c_ b_ d_) b=U o],
#[rp,a_,b_,#[Zk,a_,b_,Ü,ú]],
#[rq,a_,b_,c_,(λh z=>h (by show (a_ b_:Key)=_;rw[(z)]),λh z=>h c_)],
#[rr,a_,b_,c_,d_,(upd a_ b_ (.dK (c_ d_)))],
#[rs,a_,ÔV K a_=true],
#[rt,a_,(.inr (.inl (rfl,.inl (_,a_))))],
#[ru,a_,b_,(Ŷ a_ a_ b_-Ŷ a_ 0 lo)],
#[rv,a_,b_,hdS (Zt64 (a_ b_))],
#[rx,a_,b_,#[Zs,a_,b_,â]],
#[ry,a_,b_,c_,d_,e_,by have a_:=h a Ó;have b_:=#[gt,c_,d_,e_]],
#[rz,a_,(ZV I q (ŕ not a_))],
#[rA,a_,b_,c_,by rw[eR,a_,b_,Q];refine QaO (pl:=pl) #[ek,he,a_,b_] c_],
#[rB,a_,(_,É a_)],
#[rC,a_,ËQ K a_ ÁY=true],
#[rD,a_,b_,c_,d_,by rw[a_ (λb_=>by rw[b_,c_]at d_;cases d_)];exact d_],
#[rE,a_,b_,c_,(_,rfl,_, a_,_,_,rfl,.int i,b_ K,_,rfl,c_ ?_)],
#[rF,a_,b_,c_,d_,e_,by rw[Zf (Ze a_ b_)];exact c_ d_ e_ a_],
#[rG,a_,(.dK (kvN a_))],
#[rH,a_,b_,c_,(@a_ _ _ _ _ _ _ _ _ _ _ d.xc b_ ‹0› ‹c_› Í)],
#[rI,a_,b_,c_,d_,e_,by rintro i y zs a_ b_ c_ ⟨⟨v,rfl⟩,rfl,hi,d_,e_⟩;rw[Qr]at c_],
#[rJ,a_,by show (Z1 (ZQ a_)).Nodup;rw[<- XD];exact ű],
#[rK,a_,b_,by rw[È a_,È b_]],
#[rL,a_,b_,c_,#[Zy,a_,b_,#[Zd,‹0›,‹c_›,Ü],Í]],
#[rM,a_,b_,∀b∈fp,Xm X a_ b_ b],
#[rN,a_,b_,(ÀV,λa_ b_=>?_)],
#[rO,a_,b_,c_,by refine(_,rfl,_, a_,_,_,rfl,.int i,b_ K,_,rfl,c_ ?_)],
#[rP,a_,b_,c_,#[ZK,#[Zk,(a_ b_),‹3›,c_,À8],ÓB,ë]],
#[rQ,a_,b_,c_,by obtain a_|b_:=ÑG b o e c_],
#[rR,a_,b_,(É (a_ _ _ b_))],
#[rS,a_,by have hb:(g == a_)=true:=beq_iff_eq.mpr h],
#[rT,a_,b_,c_,#[ZM,a_,‹b_›,‹c_›]],
#[rU,a_,b_,#[Zd,‹a_›,‹b_›,Ü]],
#[rV,a_,b_,#[iZ,K,T.b.n_zip,#[ex,a_,b_]]],
#[rW,a_,b_,c_,(a_,b_,)∈ļ λy=>(c_,y,)],
#[rX,a_,b_,c_,by intro a_ s b_ H c_ us Q I r h],
#[rY,a_,b_,hdS (Zt64 (a_ (YW b_)))],
#[rZ,a_,b_,c_,∀a_∈b_,X3 λz n s=>c_=Î4/\AZ z/\AZ s],
#[r0,a_,(Ãs (Zi a_ _))],
#[r1,a_,by rw[a_,Ts,Ń Á]],
#[r2,a_,b_,c_,d_,(_,rfl,a_,rfl,(_,É b_),λc_ d_=>?_)],
#[r3,a_,b_,by rw[eR,a_,b_,R];refine thn #[f7,hl,a_,b_] ?_],
#[r4,a_,(show b∈([]:À aa) from a_)],
#[r5,a_,(∀H,SqT K H a_ [.str "name"])],
#[r6,a_,(.inr (.inl a_))],
#[r7,a_,b_,(.inr (a_,_,rfl,rfl,b_))],
#[r8,a_,b_,(.compLoop a_ 0 b_ Àv Üj)],
#[r9,a_,b_,by rw[<- z,a_]at b_;cases b_],
#[sa,a_,#[XQ,‹0›,(@a_ _ _)]],
#[sb,a_,b_,c_,d_,by refine(_,rfl,a_,rfl,(_,É b_),λc_ d_=>?_)],
#[sc,a_,b_,([],rfl,rfl,λa_ b_=>by cases b_)],
#[sd,a_,b_,#[Zu,3,a_,â,‹b_›]],
#[se,a_,b_,#[fy,a_,b_,Àl]],
#[sf,a_,by refine am (a_ ?_)],
#[sg,a_,b_,(by rw[a_,b_];lia)],
#[sh,a_,b_,(by rw[a_,b_];rfl)],
#[si,a_,by obtain f|a_|F|m|b:=T.ex],
#[sj,a_,a_ (t':=Åa) λb o e=>Qc _ e],
#[sk,a_,b_,c_,#[Xu,a_,ã,b_,‹0›,c_]],
#[sl,a_,((a_,rfl),rfl)],
#[sm,a_,(Ál a_:Key)],
#[sn,a_,(by rw[a_];simp)],
#[so,a_,#[eC,o,Þ,a_]],
#[sp,a_,(U (.ref a_))],
#[sq,a_,b_,by rw[eM,z,a_,b_]],
#[sr,a_,(vs=[.str x,.str y,.int a_])],
#[ss,a_,b_,c_,∀b o,H b=U o->b≠a_->b≠b_->c_ b=U o],
#[st,a_,b_,(Qg (f:=λx:Zz=>(a_,x,)) b_)],
#[su,a_,(ĩ<=a_)],
#[sv,a_,by have ex:=ok.row1 a_ w g1 i;subst ex],
#[sw,a_,b_,zsc [Âf,#[eQ,a_],#[eQ,b_]]],
#[sx,a_,b_,zsc [Âf,#[eQ,a_],#[fS,b_]]],
#[sy,a_,b_,c_,d_,e_,#[Zu,a_,b_,â,#[fy,c_,d_,e_]]],
#[sz,a_,b_,c_,d_,e_,by have a_:=ÀW e b_;rw[el,c_,d_,e_]],
#[sA,a_,b_,c_,d_,e_,by obtain a_|b_|c_:=d_ e_],
#[sB,a_,b_,c_,d_,by obtain its|a_|b_|c_:=Æw d_],
#[sC,a_,b_,(by rw[a_];exact Qt _,by rw[a_,b_])],
#[sD,a_,b_,c_,by rw[eR,e,f,a_];refine b_ #[ek,c_,e,f]],
#[sE,a_,b_,(a_++Áx b_ af)],
#[sF,a_,b_,a_ b_=U .cell\/a_ b_=U .free],
#[sG,a_,b_,c_,d_,e_,by obtain a_|b_|rfl|c_|d_|e_|q:=h],
#[sH,a_,b_,c_,by obtain a_|b_|rfl|c_|q:=h],
#[sI,a_,ÂG a_ z TI TO .ellipsis],
#[sJ,a_,λb a_=>QW _ _ (Κ a_)],
#[sK,a_,#[gf,a_,Àw]],
#[sL,a_,#[gh,ixG,a_,0,á]],
#[sM,a_,b_,by subst a_;rw[QY î,Ób]at b_],
#[sN,a_,(∀H,SqT K H a_ [])],
#[sO,a_,b_,(a_ b_).length<aq],
#[sP,a_,b_,c_,#[Ym,a_,Ŏ,b_,‹c_›]],
#[sQ,a_,Ĝ a_=true],
#[sR,a_,#[ed,a_,Μ]],
#[sS,a_,b_,(a_,_,_,rfl,rfl,b_,Ç1,?_)],
#[sT,a_,b_,c_,by obtain d|a_|e|hd|q:=b_;subst e;cases c_],
#[sU,a_,b_,c_,d_,(by rw[<- a_ b_ c_];exact d_)],
#[sV,a_,b_,c_,ī K aM a_ = U (U (.str b_ c_))],
#[sW,a_,by obtain r|a_|rfl|e:=y],
#[sX,a_,b_,T8 (X:=X) S a_ Äd b_ x],
#[sY,a_,#[el,a_,hd,h.ob]],
#[sZ,a_,(.lst (a_ õ))],
#[s0,a_,hdS (Ţ (ľ a_))],
#[s1,a_,#[iE,K,ÚY,a_]],
#[s2,a_,∀b∈a_ M n,b∈M],
#[s3,a_,Ç rfl (a_ _ c)],
#[s4,a_,b_,c_,((ÎM a_ b_).str _ (Qp c_))],
#[s5,a_,(_,a_,by lia,by lia)],
#[s6,a_,(Ο<=a_)],
#[Ö2,∀T,Ï<=T->NB T],
#[s8,by show av _ _ (Ôb Ág >>= _) _ _ s],
#[s9,by refine T.t_Merge_play.mf V6 #[iz,vs] Ôc],
#[ta,by obtain L|g:=ÈH b o e n t hx],
#[ÕK,Ç rfl (S.nocell _ (SR q))],
#[Úu,[U (.str d),U Ĩ,U ÀR,v]],
#[ÆF,Yr X.K C f],
#[Ù9,RI _ Îu s.1 (Į s.2.1).1],
#[ÔZ,ØY K Ço=U true],
#[ÔR,ËQ K C name=true],
#[Úg,(λe=>(e.1,e.2.2.1[e.2.2.2]?,))],
#[Õx,(λa c i e=>f its d g a c i e)],
#[Çh,(x=.ref a)],
#[ØG,(upd l Ì8 (exN Ì8 C af))],
#[Èj,(ZC Å8)],
#[ÊR,(Z6 8 N n)],
#[tn,(Ä1 hx)],
#[tp,(Áx Ìm a.cps)],
#[ØO,(BS e d _ _ _ _ (I4.mkd e) cq)],
#[Úv,(.lst ([.str d]++e.map Ä))],
#[ÔA,(.BoolOp .Or (a::b::Ć) pos)],
#[Ú1,#[ef,15,"do_grow",ÄC,ÚK]],
#[ÙC,(λz=>?_,λz=>?_,λz=>?_)],
#[ÚF,(λa z=>a ?_,λa z=>a ?_)],
#[Éb,(us,[])],
#[És,(t,rfl)],
#[ÓL,([],0,0,0,[])],
#[tz,by rw[iv,a,q];rw[Ń (HW a)]],
#[Ê3,ĝ<=8],
#[tB,by obtain m|hn|_:=id F.loc;rw[Yl]at hn],
#[tC,by obtain f0|f1|f2|f3|f4|f5:=n it Ó],
#[ËO,ĩ<=aq],
#[tE,by intro bs S g;generalize e:f++[o]=os at g],
#[Ë1,ah->Ã aT],
#[ØF,Ç this (ÉS (Qac _))],
#[Ëh,Ç h id],
#[Ît,Ç a Ó],
#[Û6,[.inl (ZX N).1,.inl (ZX N).2]],
#[ØT,["one", "other", "far", "at"]],
#[Òm,["desk", "heads"]],
#[ÕZ,Y.env.locals=Ÿ],
#[Ë0,ę x=U æ],
#[Ä6,X.N.Nodup],
#[ØN,X.A.frames=U (Î::Âs)],
#[Úz,Qbj _ (λa b c z=>c Å7) nd],
#[ËS,PE X ς tv],
#[Ä9,PE X e te],
#[ÌT,À (TE×TE)],
#[ÈY,Ŵ Ð],
#[ÐE,ÃJ î],
#[ÉU,H a=U Áa],
#[Ŕ,Gl X x],
#[ÉN,ĉ ÂJ],
#[Æb,ABd R c i],
#[Ëa,.inr "rows"],
#[ÒW,(∃xs,o=.tup xs)],
#[Ù3,(λj hj=>by rw[Wl,Æ hj])],
#[Å3,(λ_=>?_)],
#[ËK,(tOp r ta tb)],
#[ÔP,(p f D g E x y v u _ F B l G)],
#[ÓH,(Âm:Int)],
#[Ói,(low e.n În i)],
#[Ëz,(frs Θ)],
#[Åt,(e ▸ p)],
#[Óv,(by rw[k];decide)],
#[Õg,(è Α::us)],
#[Õ4,(aX lp Éz λ_ _ z=>Êb)],
#[Ðb,(Zw f y fs)],
#[ue,(Zw f v fs)],
#[Æk,(ZR P w)],
#[Ëc,(Z1 (YV R))],
#[Û8,(Ya s (ZX M) (U (S,R,Ç4,)))],
#[Õ9,(ō sep ys)],
#[ÖP,(PySem.F.args_dict_get_2 _ _)],
#[Û1,(Itk d o kvs)],
#[Åf,(ř _)],
#[um,(Âo tkN)],
#[ÍJ,(.list ÅN)],
#[ÔO,(.Compare a [op,i] [b,c] pos)],
#[ÊZ,((m:Int)+1)],
#[ÊI,(Ű).Nodup],
#[Én,#[ik,_,_,q]],
#[Â6,#[hz,ae]],
#[Óc,#[hc,Àf,í]],
#[Ê9,#[hZ,ł]],
#[uw,#[gJ,dx,hm]],
#[ÛF,#[ef,3,"_law_stems",Äy,NT]],
#[ÙE,#[ef,2,"liken_from",Äz,NN]],
#[Ú0,#[ef,15,"do_row",ÄC,ÚI]],
#[Î2,#[Zd,‹4›]],
#[Ûq,#[V0,ÅM,#[Zd,Ü]]],
#[Ûk,(s,t,e.n,k,Ö++ks,e.g)],
#[ÕJ,∀b∈fp,b<Ï],
#[ÕR,∀b∈fp,b<Á4],
#[Õr,ØZ=Ś],
#[uG,by show av _ _ (field Ás 0 >>= _) _ _ s],
#[uH,by obtain ⟨T,j⟩|_|_:=é e _ he],
#[ÕW,o5.extBut b A ÈS (Qc _ e)],
#[ÔN,lastMarks [op,i] [b,c]=false],
#[uK,by have e:=h.row1 f l c h5;rw[hs,e,d,j]],
#[uL,by have N:=C e he;rw[el,de,gb,N.at'.ob]],
#[ÕQ,ÐP c Î=pure Äd],
#[Õc,Vx P w K mg Â A Û s H],
#[ØC,(λv e8 dJ=>am (bC (aB dJ)))],
#[ÙD,(upd H sd (.dT (kvS ÊF)))],
#[Öf,(Æ4 Ás)],
#[Üd,(ō " " (w::ws)::Yd W)],
#[Üe,(ō " " #[nV].flatten)],
#[Öv,(Qc _ (Qc _ (Qv _ (l _ _))))],
#[ÙT,(.tup [.int t.2.1,oV t.2.2])],
#[Ôx,(.BoolOp .And (b::Ć) pos)],
#[Úp,#[XJ,WQ,‹0›,á,ú]],
#[ÚR,λu:aa×Int×Ã ah=>u.2],
#[Ùs,¬ lcp þ Ė=ι],
#[uZ,by rw[cq];obtain rfl|q:=h;cases b],
#[u0,by rw[e,a,Qbg,Nat.sub_zero,List.map_take]],
#[u1,by rintro rfl;have e:=Ã4 a o hk],
#[u2,by have:=RM h;refine(λz=>?_,λm=>?_)],
#[ÓF,Ö[e.g]? = U z],
#[Ñj,ÀO],
#[Öl,bT z = "str_ascii_iterator"],
#[Ûj,[.inr z,.inl e.n,.inr ä]],
#[ÖI,[(Èb "default",d,)]],
#[ÓN,Yh ok.nd r i rfl],
#[ÑB,À (Ã aK)],
#[ÚA,.inl λe a z=>h (e,a,z)],
#[Ø1,(∀H',ZB H H'->Q Æv H')],
#[Ò0,(λb o h _ _=>h)],
#[ÓM,(z.symm.trans y)],
#[Ùl,(vs=[.ref p,.ref l,.int a])],
#[ÚB,(nm++[(s,Ĉ,)])],
#[ÖB,(j.cps.toList<i.cps.toList)],
#[Ñt,(f.symm.trans e)],
#[Ñu,(e.trans d.symm)],
#[Ïo,(c b _ q λz=>z)],
#[Õs,(by rw[d];exact(_,l,q))],
#[ÁX,(ah×V)],
#[ÙP,(Zw "looked" (.int 0) ÇZ)],
#[Ùv,(Zw "all_keys" (.ref k) [])],
#[ÑC,(YT kvs p.1 p.2)],
#[Óu,(WD T.g_NOTHING)],
#[Òo,(SqL K H a ψ)],
#[Ùk,(Ôe _ hs)],
#[vs,(G++[À0 n])],
#[Øs,(ÛW _ ö)],
#[ÏD,(Ñ->Hp->Prop)],
#[Ðm,(.cons rfl .nil)],
#[Ôz,(.BoolOp .Or (b::Ć) pos)],
#[ÚN,((∀e∈nm,e.1.length<=8))],
#[Úa,#[fv,u.2.1,u.2.2.1,u.2.2.2]],
#[Ùm,#[ef,3,"_law_key",Ík,NS]],
#[Ø7,#[ef,1,"_law_mix",Íi,NY]],
#[Úo,#[e6,1,"is_key","thing",MH]],
#[Õw,(ŋ+1,by rw[QS,c])],
#[Ö4,∀b o,Ãn b=U o->b≠T],
#[ÍM,λz=>d ÅS],
#[ËD,λ_ _=>Ē],
#[vG,by refine T.t_l_same.df J2 #[iz,vs] Ôc],
#[ÌY,i=û],
#[Äu,aa->Prop],
#[Îq,YL P b a k q],
#[ÕG,Y4 a ((n,k,)::r) b=Y4 a r b],
#[Ön,ÂG Ð z TI TO .none],
#[Ëu,π x c e],
#[Ì7,Â3 l],
#[ÃP,ĉ ae],
#[ËA,(λ_ _ e=>e)],
#[ÖN,(upd H a (.dK (WE kvs k)))],
#[Ì6,(toString i)],
#[ÖT,(t.endLine == u.line)=true],
#[Ôl,(show Þ a=U _ from x)],
#[ÎK,(s,e.n,)∈nm],
#[ÚT,(o.sw++o.fw)],
#[Úx,(Ρ kT0)],
#[Ìx,(cP (aB ?_))],
#[ÕT,(by intro y hy;simp at hy)],
#[ÃO,(aA P w)],
#[ÑA,(YT kvs k v)],
#[ÙW,(Win hd A af\/Win hd B af)],
#[Íd,(St->XK)->TS],
#[Ôr,(ÈF b o e n t hx)],
#[v4,(ÄU e he)],
#[Ät,(.int n)],
#[Äs,(.dK [])],
#[ÛR,(([g]:À ah).map ÇI)],
#[ÄW,#[hf,Od]],
#[Íl,#[fQ,"rows"]],
#[Ím,#[fQ,"many"]],
#[Ó1,#[ei,Ww.map]],
#[Ûv,#[ef,5,"_law_row",Ãq,Nz]],
#[ÏF,(v,H,I,r,h)],
#[Ûn,∀x∈P,∀s∈x.2.1,p s],
#[Öe,s.heap.IsTupleIter it t i],
#[Ñ2,rest.length<=aq],
#[Ñ5,Àu<=1000],
#[Ëg,l v u Ć],
#[Ùr,inj (Ī c)],
#[Ûe,Ç rfl (d.mp h1 _ g1)],
#[ÏW,V->Hp->VK->Prop],
#[ÊY,Ľ this],
#[ÐO,PySem.W.OpenLaw],
#[Æy,PE X o to],
#[ÉY,À ÂJ],
#[Ñz,H a=U (.dT kvs)],
#[ÑM,ĉ (Int×ae)],
#[Ñw,Á0+4<Âz],
#[ÒS,(λz=>h (NJ z))],
#[ÖZ,(upd H p (.tup [kV k,x]))],
#[ÒK,(upd ÒJ t T)],
#[ÚO,(thO (Y0 nm h.2.1) h.2.2)],
#[Òp,(Ο:Int)],
#[Ñ4,(ne this ÁC)],
#[wA,(mem x l)],
#[ÎX,(dkR rd c)],
#[wC,(dE lo hi af n)],
#[ÊE,(by rw[h])],
#[ÏY,(Â5 .Add)],
#[Û2,(arrOf st)],
#[ÒP,(ZS x y=0/\a<b)],
#[Óo,(Yz L n ks k f)],
#[wI,(Yd (Èt i))],
#[ÌQ,(Y3 kvs k)],
#[ØP,(Xs its i)],
#[ÏH,(X.wish E)],
#[ÑW,(X.pnd ai)],
#[Ïf,(Âq a:Key)],
#[wO,(ł (·.nm))],
#[wP,(Ä1 he)],
#[wQ,(Nat.log2_lt z)],
#[ÔE,(Itr lo n)],
#[ÏQ,(Itl K a)],
#[Ïy,(Às x c e)],
#[Ñp,(DVs.mono s hs)],
#[ÑJ,(DHs.mono s hs)],
#[ÚW,(.tail _ (.tail _ ÓG))],
#[Út,(.lst [.str d])],
#[ÔM,(.Compare a [op] [b] pos)],
#[ÓK,((d+_:Nat):Int)],
#[ÔF,(((hi-lo).toNat:Nat):Int)],
#[Ê2,(" " : ah)],
#[w2,#[iv,e,h]],
#[Æs,#[ij,Loc]],
#[w4,#[g6,ok,j,a,st]],
#[w5,#[ey,t,d]],
#[Çm,#[es,_,z]],
#[Ù8,#[eq,3,"coming",ð,Nc]],
#[Úf,#[eq,1,"row_of",ÁF,RH]],
#[Ù2,#[ef,2,"way_up",ÄA,MW]],
#[Øb,(by simp,λT' d=>?_)],
#[Ùg,(_,rfl,_,rfl,rfl,?_)],
#[xc,by obtain i|w:=mem e h1;rw[m]at i],
#[Ŧ,ŋ],
#[xe,by obtain a|q:=Ñn I c f],
#[xf,by intro i s T c l hk hi B p C D E O G],
#[ÔL,ÏZ op b=false],
#[Ûd,Ç m (d.mpr g1 e h1)],
#[ÖU,A.freeze hd Μ j],
#[ÕP,(∀p∈X.pn++Z,p.1≠C)],
#[ÚQ,(λt=>(t.2.1,U t.2.2.2,))],
#[ÙQ,(upd H a (.frz j ÅU))],
#[Ù7,(by show ¬ 2<=1;decide)],
#[Õo,(by rw[d];simpa using k)],
#[Úw,(by rw[Qa,Qa,QA,aP];lia)],
#[Ùw,([]:À ÁX).length=0],
#[xq,(ÂE ń)],
#[Ø8,(Òt _ Á)],
#[Ûz,(Âo ġ).map Ä],
#[Øk,(.type "AttributeError")],
#[Ùo,(.lst (ÒF++[.int z]))],
#[ÛP,(((Ó4).length:Nat):Int)],
#[ØX,("_law_left_here",.free,)],
#[ÕH,#[g7,o.names.lookup,y.1]],
#[Ùu,#[ef,3,"liken",ÂL,NO]],
#[ÛN,#[ZM,Yf,‹6›,#[fd,7]]],
#[Î0,(rfl,L)],
#[ÙZ,(_,λaR H' h=>h,?_)],
#[Òw,(_,rfl,?_)],
#[ÛK,(_,_,_,_,_,_,_,rfl)],
#[Ìh,(?_,?_)],
#[Öd,(.str _,H,I,ü,q)],
#[Ûo,λs=>AZ s/\ĝ<=40],
#[ÓQ,λh z=>h ÛC],
#[Öp,Åh (.ref z) "zip"],
#[xJ,by rw[Æ (λz=>h Å7),Æ h]],
#[xK,by obtain y|A|S|B|C|D:=j it Ó],
#[xL,by injection this],
#[Ïl,ń<=a],
#[ÓY,Ç this id],
#[Øq,Øh rfl rfl],
#[Ðj,ę x=U ą],
#[Ù5,Win Ğ Ű (U e.n)],
#[ÐB,Slot T name id],
#[Ïc,Ã Ñ],
#[ÌS,KT H kvs xs],
#[Õ0,HOk ò X.w l t.heap],
#[Óy,ο (.inl z)],
#[ÏE,Ñ->Hp->Prop],
#[Îe,1<ĩ],
#[ÅX,.inl e.n],
#[ÔD,(∀b∈fp,Xm X ai H b)],
#[Ë9,(λx=>!x.1)],
#[Ðw,(Ś<=aq)],
#[x2,(ys.map ÀT)],
#[Òv,(ĕ:Int)],
#[ÐR,(x == n)=false],
#[Öc,(n == 1||ĳ == 0)],
#[Ò5,(Ů:Int)],
#[ÙS,(kvM L).length=Àg],
#[ÔQ,(if i<0 then -i else i)],
#[ÌH,(ÃW a)],
#[Ój,(hdM (L++[e]))],
#[ÌG,(g i2 Ó)],
#[ÌF,(g i1 Ó)],
#[ÌE,(g TO Ó)],
#[Øp,(by rw[QN,FV.hasB,Qav])],
#[ÒC,(Œ:Int)],
#[Õf,(è Α::(us++ds))],
#[ÒQ,(aa×Int×Int)],
#[ÑD,(aE [e] Î)],
#[Å2,(ZC X.L)],
#[ÂB,(XO st)],
#[yl,(Ud f y fs)],
#[Îv,(Qbt _ QaF)],
#[yn,(ÔT a)],
#[Õk,(List.take_sublist _ _)],
#[Ù1,(Ù0 j)],
#[yq,(ĥ (·.p))],
#[ÕN,(J.stop i c/\Q ÀP c)],
#[ys,(ÛV I.bk)],
#[Ëw,(G b o e a)],
#[yu,(ÄU y a)],
#[ÓZ,(A.length:Nat)],
#[Î9,(0+(j:Int))],
#[Öm,(.type "StopIteration")],
#[Ä8,(.str x)],
#[ÎI,(.row s ks)],
#[ÅZ,(.ref m)],
#[ÅB,(.ref c)],
#[ÄZ,(.own a)],
#[Ä7,(.int i)],
#[yE,((Z3 s (ZX M)).map stV)],
#[Ø4,(((ψ).length:Nat):Int)],
#[yG,#[ix,Qa,Qa]],
#[ÎJ,#[gE,ο]],
#[Ût,#[fx,Äo,n]],
#[Ûs,#[fx,Ès,n]],
#[Ú9,#[fx,Èo,1]],
#[ÌN,#[fb,"sum"]],
#[ËM,#[fb,"min"]],
#[ÙH,#[eq,3,"meet",Íq,Nf]],
#[Ïd,#[ep,1,100]],
#[ÚX,#[ei,ÎT]],
#[Îp,#[ed,Qo,nd]],
#[Òn,#[eQ,"_law_k"]],
#[Úc,#[Zu,2,Se.nd,â,Ĥ]],
#[ÍV,#[Zg,ÊV]],
#[yU,a_,b_,∀a_ s',Inv X ai σ b_ s'->ZJ v a_->Q a_ s'],
#[yV,a_,b_,c_,d_,by have a_:(upd b_ c_ d_) c_=U d_:=Zb],
#[yW,a_,(bV a_ Î)],
#[yX,a_,b_,c_,Æt a_ b_ c_],
#[yY,a_,b_,c_,by have r:=h.each e a_;rw[el,b_,c_,r.at'.ob]],
#[yZ,a_,by rw[this]at a_;cases a_],
#[y0,a_,b_,Qg (f:=λx:α×a=>a_) b_],
#[y1,a_,b_,c_,d_,e_,by rw[eb,a_,b_];have c_:=d_ T e_],
#[y2,a_,a_->aj->Prop],
#[y3,a_,b_,by rw[È a_]at b_],
#[y4,a_,(λz=>(a_ _ z).2.1 rfl)],
#[y5,a_,Ç rfl a_],
#[y6,a_,b_,(.Attribute o a_ b_)],
#[y7,a_,b_,c_,d_,e_,by obtain oc|od|kV|a_|b_|c_|d_|ct|mN|rfl|lk|e_:=F.ex],
#[y8,a_,Ζ=.dict a_ ep],
#[y9,a_,(λa_=>by cases a_)],
#[za,a_,(vs=[.str a_])],
#[zb,a_,b_,c_,d_,e_,by have a_:#[rW,b_,c_,d_]:=#[fE,d_,e_]],
#[zc,a_,b_,c_,d_,by generalize upd H l (.lst [])=a_ at b_ c_ d_ ⊢],
#[zd,a_,b_,c_,d_,(lcp x a_<=lcp b_ c_/\lcp d_ z=lcp x a_)],
#[ze,a_,b_,by have a_:=b_ h2;rw[z,a_]at this],
#[zf,a_,(∀f,Yi Ïk (a_ f))],
#[zg,a_,b_,c_,(a_,Á7 _ _ b_ c_)],
#[zh,a_,b_,by refine(a_,b_,?_)],
#[zi,a_,b_,by obtain e|n|ne|a_|d:=ρ p b_],
#[zj,a_,(by rw[a_];rfl)],
#[zk,a_,by rw[a_]at this;exact this],
#[zl,a_,b_,c_,(thn #[f7,he,a_,b_] λu c_ a=>?_)],
#[zm,a_,b_,c_,d_,e_,(_,rfl,m,ak,a_,_,_,rfl,b_,ã,c_,d_ ..,e_)],
#[zn,a_,b_,(.lst ((a_ b_ n).map í))],
#[zo,a_,b_,c_,(.ins a_ b_ (dkF c_ nd))]]
inductive X2 {t0 t1:Type} (p:t0->t1->Prop):Prop where
 | mk (a0:t0) (a1:t1) (h:p a0 a1)
inductive X3 {t0 t1 t2:Type} (p:t0->t1->t2->Prop):Prop where
 | mk (a0:t0) (a1:t1) (a2:t2) (h:p a0 a1 a2)
inductive X4 {t0 t1 t2 t3:Type} (p:t0->t1->t2->t3->Prop):Prop where
 | mk (a0:t0) (a1:t1) (a2:t2) (a3:t3) (h:p a0 a1 a2 a3)
inductive X5 {t0 t1 t2 t3 t4:Type} (p:t0->t1->t2->t3->t4->Prop):Prop where
 | mk (a0:t0) (a1:t1) (a2:t2) (a3:t3) (a4:t4) (h:p a0 a1 a2 a3 a4)
inductive X6 {t0 t1 t2 t3 t4 t5:Type} (p:t0->t1->t2->t3->t4->t5->Prop):Prop where
 | mk (a0:t0) (a1:t1) (a2:t2) (a3:t3) (a4:t4) (a5:t5) (h:p a0 a1 a2 a3 a4 a5)
inductive X7 {t0 t1 t2 t3 t4 t5 t6:Type} (p:t0->t1->t2->t3->t4->t5->t6->Prop):Prop where
 | mk (a0:t0) (a1:t1) (a2:t2) (a3:t3) (a4:t4) (a5:t5) (a6:t6) (h:p a0 a1 a2 a3 a4 a5 a6)
inductive X8 {t0 t1 t2 t3 t4 t5 t6 t7:Type} (p:t0->t1->t2->t3->t4->t5->t6->t7->Prop):Prop where
 | mk (a0:t0) (a1:t1) (a2:t2) (a3:t3) (a4:t4) (a5:t5) (a6:t6) (a7:t7) (h:p a0 a1 a2 a3 a4 a5 a6 a7)
inductive X9 {t0 t1 t2 t3 t4 t5 t6 t7 t8:Type} (p:t0->t1->t2->t3->t4->t5->t6->t7->t8->Prop):Prop where
 | mk (a0:t0) (a1:t1) (a2:t2) (a3:t3) (a4:t4) (a5:t5) (a6:t6) (a7:t7) (a8:t8) (h:p a0 a1 a2 a3 a4 a5 a6 a7 a8)
inductive X10 {t0 t1 t2 t3 t4 t5 t6 t7 t8 t9:Type} (p:t0->t1->t2->t3->t4->t5->t6->t7->t8->t9->Prop):Prop where
 | mk (a0:t0) (a1:t1) (a2:t2) (a3:t3) (a4:t4) (a5:t5) (a6:t6) (a7:t7) (a8:t8) (a9:t9) (h:p a0 a1 a2 a3 a4 a5 a6 a7 a8 a9)
inductive X11 {t0 t1 t2 t3 t4 t5 t6 t7 t8 t9 ik:Type} (p:t0->t1->t2->t3->t4->t5->t6->t7->t8->t9->ik->Prop):Prop where
 | mk (a0:t0) (a1:t1) (a2:t2) (a3:t3) (a4:t4) (a5:t5) (a6:t6) (a7:t7) (a8:t8) (a9:t9) (dR:ik) (h:p a0 a1 a2 a3 a4 a5 a6 a7 a8 a9 dR)
inductive X12 {t0 t1 t2 t3 t4 t5 t6 t7 t8 t9 ik jl:Type} (p:t0->t1->t2->t3->t4->t5->t6->t7->t8->t9->ik->jl->Prop):Prop where
 | mk (a0:t0) (a1:t1) (a2:t2) (a3:t3) (a4:t4) (a5:t5) (a6:t6) (a7:t7) (a8:t8) (a9:t9) (dR:ik) (jm:jl) (h:p a0 a1 a2 a3 a4 a5 a6 a7 a8 a9 dR jm)
inductive X13 {t0 t1 t2 t3 t4 t5 t6 t7 t8 t9 ik jl lN:Type} (p:t0->t1->t2->t3->t4->t5->t6->t7->t8->t9->ik->jl->lN->Prop):Prop where
 | mk (a0:t0) (a1:t1) (a2:t2) (a3:t3) (a4:t4) (a5:t5) (a6:t6) (a7:t7) (a8:t8) (a9:t9) (dR:ik) (jm:jl) (oQ:lN) (h:p a0 a1 a2 a3 a4 a5 a6 a7 a8 a9 dR jm oQ)
inductive X14 {t0 t1 t2 t3 t4 t5 t6 t7 t8 t9 ik jl lN pV:Type} (p:t0->t1->t2->t3->t4->t5->t6->t7->t8->t9->ik->jl->lN->pV->Prop):Prop where
 | mk (a0:t0) (a1:t1) (a2:t2) (a3:t3) (a4:t4) (a5:t5) (a6:t6) (a7:t7) (a8:t8) (a9:t9) (dR:ik) (jm:jl) (oQ:lN) (qW:pV) (h:p a0 a1 a2 a3 a4 a5 a6 a7 a8 a9 dR jm oQ qW)
inductive X15 {t0 t1 t2 t3 t4 t5 t6 t7 t8 t9 ik jl lN pV uN:Type} (p:t0->t1->t2->t3->t4->t5->t6->t7->t8->t9->ik->jl->lN->pV->uN->Prop):Prop where
 | mk (a0:t0) (a1:t1) (a2:t2) (a3:t3) (a4:t4) (a5:t5) (a6:t6) (a7:t7) (a8:t8) (a9:t9) (dR:ik) (jm:jl) (oQ:lN) (qW:pV) (uO:uN) (h:p a0 a1 a2 a3 a4 a5 a6 a7 a8 a9 dR jm oQ qW uO)
inductive X16 {t0 t1 t2 t3 t4 t5 t6 t7 t8 t9 ik jl lN pV uN Ew:Type} (p:t0->t1->t2->t3->t4->t5->t6->t7->t8->t9->ik->jl->lN->pV->uN->Ew->Prop):Prop where
 | mk (a0:t0) (a1:t1) (a2:t2) (a3:t3) (a4:t4) (a5:t5) (a6:t6) (a7:t7) (a8:t8) (a9:t9) (dR:ik) (jm:jl) (oQ:lN) (qW:pV) (uO:uN) (Bg:Ew) (h:p a0 a1 a2 a3 a4 a5 a6 a7 a8 a9 dR jm oQ qW uO Bg)
set_option Elab.async false
set_option linter.all false
inductive C3 (a0 a1 a2:Prop):Prop where
 | mk (h0:a0) (h1:a1) (h2:a2):C3 a0 a1 a2
inductive C4 (a0 a1 a2 a3:Prop):Prop where
 | mk (h0:a0) (h1:a1) (h2:a2) (h3:a3):C4 a0 a1 a2 a3
inductive C5 (a0 a1 a2 a3 a4:Prop):Prop where
 | mk (h0:a0) (h1:a1) (h2:a2) (h3:a3) (h4:a4):C5 a0 a1 a2 a3 a4
inductive C6 (a0 a1 a2 a3 a4 a5:Prop):Prop where
 | mk (h0:a0) (h1:a1) (h2:a2) (h3:a3) (h4:a4) (h5:a5):C6 a0 a1 a2 a3 a4 a5
inductive C7 (a0 a1 a2 a3 a4 a5 a6:Prop):Prop where
 | mk (h0:a0) (h1:a1) (h2:a2) (h3:a3) (h4:a4) (h5:a5) (h6:a6):C7 a0 a1 a2 a3 a4 a5 a6
inductive C8 (a0 a1 a2 a3 a4 a5 a6 a7:Prop):Prop where
 | mk (h0:a0) (h1:a1) (h2:a2) (h3:a3) (h4:a4) (h5:a5) (h6:a6) (h7:a7):C8 a0 a1 a2 a3 a4 a5 a6 a7
inductive C9 (a0 a1 a2 a3 a4 a5 a6 a7 a8:Prop):Prop where
 | mk (h0:a0) (h1:a1) (h2:a2) (h3:a3) (h4:a4) (h5:a5) (h6:a6) (h7:a7) (h8:a8):C9 a0 a1 a2 a3 a4 a5 a6 a7 a8
inductive C10 (a0 a1 a2 a3 a4 a5 a6 a7 a8 a9:Prop):Prop where
 | mk (h0:a0) (h1:a1) (h2:a2) (h3:a3) (h4:a4) (h5:a5) (h6:a6) (h7:a7) (h8:a8) (h9:a9):C10 a0 a1 a2 a3 a4 a5 a6 a7 a8 a9
inductive C11 (a0 a1 a2 a3 a4 a5 a6 a7 a8 a9 dR:Prop):Prop where
 | mk (h0:a0) (h1:a1) (h2:a2) (h3:a3) (h4:a4) (h5:a5) (h6:a6) (h7:a7) (h8:a8) (h9:a9) (Bh:dR):C11 a0 a1 a2 a3 a4 a5 a6 a7 a8 a9 dR
inductive C12 (a0 a1 a2 a3 a4 a5 a6 a7 a8 a9 dR jm:Prop):Prop where
 | mk (h0:a0) (h1:a1) (h2:a2) (h3:a3) (h4:a4) (h5:a5) (h6:a6) (h7:a7) (h8:a8) (h9:a9) (Bh:dR) (h11:jm):C12 a0 a1 a2 a3 a4 a5 a6 a7 a8 a9 dR jm
local macro_rules|`(tactic|nofun)=>`(tactic|(intro _ _ _ _ h;repeat(first|(obtain h|_:=h;subst h;rfl)|(cases h;rename_i h))))
local macro_rules|`(tactic|ac_rfl)=>`(tactic|decide +kernel)
def Qa:=@Ôd
def Qb:=@List.getElem?_eq_getElem
def Qc:=@PySem.Heap.get?_push_of_some
def Qd:=@List.length_append
def Qe:=@List.mem_singleton
def Qf:=@List.map_append
def Qg:=@List.mem_map_of_mem
def Qh:=@List.getElem?_eq_some_iff
def Qi:=@List.mem_append
def Qj:=@Nat.le_refl
def Qk:=@Nat.le_trans
def Ql:=@List.map_cons
def Qm:=@Ôe
def Qn:=@List.mem_map
def Qo:=@List.map_map
def Qp:=@List.mem_of_getElem?
def Qq:=@Èw
def Qr:=@List.getElem?_map
def Qs:=@PySem.Heap.lt_size
def Qt:=@Nat.zero_le
def Qu:=@Option.some.inj
def Qv:=@PySem.Heap.get?_push_size
def Qw:=@Bool.false_ne_true
def Qx:=@List.length_singleton
def Qy:=@PySem.boot_len
def Qz:=@List.take_of_length_le
def QA:=@List.length_take
def QB:=@Nat.ne_of_lt
def QC:=@PySem.F.plainAttrs_list
def QD:=@PySem.F.slot_list_append
def QE:=@PySem.F.type_list_append
def QF:=@List.mem_append_right
def QG:=@Nat.lt_of_lt_of_le
def QH:=@List.take_add_one
def QI:=@PySem.W.mg_of
def QJ:=@List.map_congr_left
def QK:=@ÂX
def QL:=@PySem.Str.length_append
def QM:=@List.getD_eq_getElem?_getD
def QN:=@List.contains_cons
def QO:=@PySem.F.plainAttrs_str
def QP:=@PySem.W.mg_none_of
def QR:=@List.sum_cons
def QS:=@Ëm
def QT:=@List.getElem?_append_left
def QU:=@List.mem_cons_self
def QV:=@List.mem_filter
def QW:=@PySem.Heap.get?_update_other
def QX:=@List.append_nil
def QY:=@List.getElem?_append_right
def QZ:=@PySem.Heap.get?_update_self
def Q0:=@List.mem_append_left
def Q1:=@List.getElem?_eq_none
def Q2:=@Nat.ne_of_gt
def Q3:=@PySem.Heap.size_push
def Q4:=@List.length_drop
def Q5:=@List.length_eq_zero_iff
def Q6:=@Ôf
def Q7:=@List.flatten_cons
def Q8:=@PySem.W.kia_one
def Q9:=@List.nodup_cons
def Qaa:=@PySem.W.kia_tup
def Qab:=@List.mem_of_find?_eq_some
def Qac:=@Nat.le_succ
def Qad:=@PySem.F.slot_str_join
def Qae:=@PySem.F.type_str_join
def Qaf:=@PySem.W.callWith_K
def Qag:=@List.all_eq_true
def Qah:=@List.getElem_mem
def Qai:=@PySem.F.plainAttrs_dict
def Qaj:=@Int.le_refl
def Qak:=@PyProof.Rows.callWith_type1
def Qal:=@Nat.lt_irrefl
def Qam:=@Array.getElem?_eq_some_iff
def Qan:=@Int.add_zero
def Qao:=@List.sum_append
def Qap:=@List.append_assoc
def Qaq:=@List.filter_map
def Qar:=@PySem.mem_of_lookup
def Qas:=@Nat.add_lt_add_left
def Qat:=@List.flatten_append
def Qau:=@PySem.Heap.get?_update_of_ne
def Qav:=@Bool.or_true
def Qaw:=@List.exists_cons_of_ne_nil
def Qax:=@List.getElem?_toArray
def Qay:=@List.length_filter_le
def Qaz:=@List.getLastD_eq_getLast?
def QaA:=@Âp
def QaB:=@PySem.W.looks_findIn
def QaC:=@List.mem_of_mem_take
def QaD:=@List.mem_of_mem_drop
def QaE:=@Ôg
def QaF:=@List.filter_sublist
def QaG:=@Æh
def QaH:=@Nat.lt_add_of_pos_right
def QaI:=@List.any_eq_true
def QaJ:=@Nat.lt_of_le_of_lt
def QaK:=@List.find?_cons_of_neg
def QaL:=@Nat.add_sub_cancel
def QaM:=@List.length_eq_one_iff
def QaN:=@Bool.eq_iff_iff
def QaO:=@PySem.W.methodCall_KW
def QaP:=@List.length_replicate
def QaQ:=@PySem.F.slot_dict_pop
def QaR:=@List.take_append_drop
def QaS:=@List.reverse_cons
def QaT:=@List.nodup_append
def QaU:=@List.filter_congr
def QaV:=@PySem.F.slot_str_startswith
def QaW:=@PySem.F.type_str_startswith
def QaX:=@Nat.not_lt
def QaY:=@List.map_nil
def QaZ:=@Nat.le_add_right
def Qa0:=@Nat.zero_add
def Qa1:=@Array.getElem?_eq_getElem
def Qa2:=@List.getElem?_eq_none_iff
def Qa3:=@List.drop_eq_getElem_cons
def Qa4:=@List.filterMap_cons
def Qa5:=@PySem.Heap.get?_update_ne
def Qa6:=@List.any_cons
def Qa7:=@List.getLast?_eq_getLast
def Qa8:=@Int.emod_lt_of_pos
def Qa9:=@List.pairwise_singleton
def Qba:=@Nat.le_of_lt
def Qbb:=@PySem.W.kitx_list
def Qbc:=@PySem.W.kitx_dict
def Qbd:=@Ïe
def Qbe:=@Array.getElem?_eq_none
def Qbf:=@Option.map_eq_some_iff
def Qbg:=@List.drop_zero
def Qbh:=@List.drop_of_length_le
def Qbi:=@Nat.lt_succ_of_lt
def Qbj:=@List.Pairwise.map
def Qbk:=@Nat.pow_succ
def Qbl:=@List.length_pos_of_mem
def Qbm:=@List.getElem?_nil
def Qbn:=@PySem.F.slot_str_split
def Qbo:=@PySem.F.type_str_split
def Qbs:=@Nat.lt_succ_self
def Qbt:=@List.Sublist.map
def Qbu:=@List.map_flatten
def Qbv:=@Int.add_mul
namespace L2
open PySem PySem.Spec PyProof.Rows
abbrev Key:=Sum Int ah
def VD:Key->ae->Ñ
 | .inl k,v=>ae.isInt k v
 | .inr x,v=>ae.isStrOf x v
def Me(w:aF):Key->Int
 | .inl k=>hashInt k
 | .inr x=>hashStr w x
theorem Wv:∀ {k:Key} {v:ae},VD k v=true->(X2 λi t=>k=Âq i/\v=ÂY i t)\/(X2 λx t=>k=Ál x/\v=Ám x t)
 | .inl i,v,h=>by obtain t|e:=ae.isInt_shape (k:=i) (v:=v) h;exact .inl (i,t,rfl,e)
 | .inr x,v,h=>by obtain t|e:=ae.isStrOf_shape (x:=x) (v:=v) h;exact .inr (x,t,rfl,e)
theorem Zn9(i:Int)(t:Tok):VD (.inl i) (.int i t)=true:=by simp[VD,ae.isInt]
theorem Zn3(x:ah)(t:Tok):VD (.inr x) (.str x t)=true:=by simp[VD,ae.isStrOf]
theorem Zun(a b:Int):decide (Ïf=Âq b)=(a == b):=by
 by_cases e:a=b
 ·subst e;simp
 ·have h:¬ Ïf=Âq b:=λq=>e (Æi q);rw[Ń h];exact(Èx e).symm
theorem Zu8(a b:ah):decide (#[sm,a]=Ál b)=decide (a=b):=by
 by_cases e:a=b
 ·subst e;simp
 ·have h:¬ #[sm,a]=Ál b:=λq=>e (Ën q);rw[Ń h,Ń e]
theorem ZtU(a:Int)(b:ah):decide (Ïf=Ál b)=false:=Ôh
theorem ZuC(a:ah)(b:Int):decide (#[sm,a]=Âq b)=false:=Ôh
def ZR(ÿ:aw)(w:aF):PySem.KeyKind ÿ w Key where
 is:=VD
 hash:=Me w
 inj:=λv a b g f=>by
  rcases Wv g with⟨i,t,rfl,rfl⟩|⟨x,t,rfl,rfl⟩
  ·rcases Wv f with⟨j,u,rfl,e⟩|⟨y,u,rfl,e⟩
   ·injection e with c _;rw[c]
   ·exact nomatch e
  ·rcases Wv f with⟨j,u,rfl,e⟩|⟨y,u,rfl,e⟩
   ·exact nomatch e
   ·injection e with c _;rw[c]
 byValue:=λk v h=>by rcases Wv h with⟨i,t,rfl,rfl⟩|⟨x,t,rfl,rfl⟩<;>rfl
 pyHash:=λd h=>by
  rcases Wv d with⟨i,t,rfl,rfl⟩|⟨x,t,rfl,rfl⟩
  ·exact wpAny_pyHash_int h
  ·exact wpAny_pyHash_str h
 eqBool:=λl d h=>by
  rcases Wv l with⟨i,t,rfl,rfl⟩|⟨x,t,rfl,rfl⟩
  ·rcases Wv d with⟨j,u,rfl,rfl⟩|⟨y,u,rfl,rfl⟩
   ·rw[Zun]at h;exact wpAny_eqBool_int h
   ·rw[ZtU]at h;exact Ôi i t y u _ _ _ _ h
  ·rcases Wv d with⟨j,u,rfl,rfl⟩|⟨y,u,rfl,rfl⟩
   ·rw[ZuC]at h;exact Ôj x t j u _ _ _ _ h
   ·rw[Zu8]at h;exact wpAny_eqBool_str h
 «strs»:=λk x t v h=>by
  rcases Wv h with⟨i,u,rfl,e⟩|⟨y,u,rfl,e⟩
  ·exact nomatch e
  ·injection e with c _;subst c;cases v<;>rfl
theorem Zl6(ÿ:aw)(w:aF)(k:Key)(v:ae):(ZR ÿ w).is k v=VD k v:=rfl
theorem ZkO(ÿ:aw)(w:aF)(i:Int)(t:Tok):(ZR ÿ w).is (.inl i) (.int i t)=true:=Zn9 i t
theorem Zk9(ÿ:aw)(w:aF)(x:ah)(t:Tok):(ZR ÿ w).is (.inr x) (.str x t)=true:=Zn3 x t
inductive V where
 | non|bl (b:Ñ)|int (i:Int)|str (x:ah)|byt (b:ĉ UInt8)|flt (b:UInt64)|ref (a:aa)|ty (n:ĸ)
 deriving Ïg
def ZJ:V->ae->Prop
 | .non,u=>u=ÀK
 | .bl b,u=>u=ÄX b
 | .int i,u=>∃t,u=ÂY i t
 | .str x,u=>∃t,u=Ám x t
 | .byt b,u=>∃t,u=ae.bytes b t
 | .flt b,u=>∃t,u=Ëo b t
 | .ref a,u=>u=è a
 | .ty n,u=>u=ÂZ n
abbrev ZH:À V->À ae->Prop:=ÄY ZJ
theorem ZH.length{xs:Ą}{us:ê}(r:ZH xs us):Ú=Φ:=Ïh r
theorem ZH.get:∀ {xs:À V} {us:À ae} {i:Nat} {x:V},ZH xs us->xs[i]? = U x->∃u,us[i]? = U u/\ZJ x u
 | _,_,_,_,.nil,e=>by simp at e
 | _,_,0,_,.cons r _,e=>by simp at e;subst e;exact(_,rfl,r)
 | _,_,i+1,x,.cons _ t,e=>by obtain u|h1|h2:=ZH.get (i:=i) (x:=x) t #[ea,e];exact(u,by simpa using h1,h2)
theorem ZH.set{x:V}{u:ae}(r:ZJ x u):∀ {xs:À V} {us:À ae} (i:Nat),ZH xs us->ZH (xs.set i x) (us.set i u)
 | _,_,_,.nil=>.nil
 | _,_,0,.cons _ t=>.cons r t
 | _,_,i+1,.cons q t=>.cons q (ZH.set r i t)
theorem Ïi:∀ {xs ys:À V} {us ws:À ae},ZH xs us->ZH ys ws->ZH (xs++ys) (us++ws)
 | _,_,_,_,.nil,s=>s
 | _,_,_,_,.cons r t,s=>.cons r (Ïi t s)
theorem ZH.take:∀ {xs:À V} {us:À ae} (n:Nat),ZH xs us->ZH (xs.take n) (us.take n)
 | _,_,0,_=>.nil
 | _,_,_+1,.nil=>.nil
 | _,_,n+1,.cons r t=>.cons r (ZH.take n t)
theorem ZH.drop:∀ {xs:À V} {us:À ae} (n:Nat),ZH xs us->ZH (xs.drop n) (us.drop n)
 | _,_,0,r=>r
 | _,_,_+1,.nil=>.nil
 | _,_,n+1,.cons _ t=>ZH.drop n t
def Yi:Ã V->Ã ae->Prop
 | some v,U u=>ZJ v u
 | none,af=>ŗ
 | _,_=>Ē
def KV{a:Type}:À (a×V)->À (a×ae)->Prop:=ÄY λ(p:a×V) (q:a×ae)=>p.1=q.1/\ZJ p.2 q.2
def kV:Key->V
 | .inl i=>.int i
 | .inr x=>.str x
inductive HO where
  | lst (xs:À V)
  | tup (xs:À V)
  | dK (kvs:À (Key×V))|dT (kvs:À (À Key×V))
  | set (S:Int->Ñ) (n:Nat)
  | ins (C dx:aa) (fs:À (ah×V))
  | own (x:aa)
  | xd (fs:À (ah×V))
  | met (f x:aa)
  | rng (lo hi:Int)
  | frz (o:aN) (u:HO)
  | tbl (ps:ĉ ae)
  | ext (φ:aI->Prop)
abbrev Hp:=aa->Ã HO
def upd(H:Hp)(a:aa)(o:HO):Hp:=λb=>if b=a then U o else H b
theorem Zb{H:Hp}{a:aa}{o:HO}:upd H a o a=U o:=by unfold upd;rw[È rfl]
theorem Zf{H:Hp}{a b:aa}{o:HO}(h:b≠a):upd H a o b=H b:=by unfold upd;rw[Æ h]
theorem ZsJ{H:Hp}{a:aa}{o u:HO}:upd Æj a u=upd H a u:=by funext b;unfold upd;split<;>rfl
theorem Rv{H:Hp}{a b:aa}{o u:HO}(h:H a=U o)(h':H b=U u)(d:o≠u):a≠b:=by intro e;subst e;rw[h]at h';exact d (Qu h')
theorem Ze{H:Hp}{a b:aa}{o:HO}(h:H a=U o)(h':H b=af):a≠b:=by intro e;subst e;rw[h]at h';cases h'
section
variable (P:aw) (w:aF)
def Y2(H:Hp)(h:aI)(a:aa):HO->Prop
 | .lst xs=>Ú<=aq/\X2 λ(its:À ae) (n:Nat)=>ZH xs its/\Þ a=U { cls:=Ĺ,Ò:=.seq ŝ n }
 | .tup xs=>Ú<=aq/\∃its:À ae,ZH xs its/\ÃG h a ŝ
 | .dK b=>Œ<=aq/\Â0=false/\∃g,KV b g/\h.DictOf Æk a g
 | .dT b=>Œ<=aq/\Â0=false/\∃xs:À (À Key×aa×ae),
   ÄY (λ(p:À Key×V) (q:À Key×aa×ae)=>p.1=q.1/\H q.2.1=U (.tup (p.1.map kV))/\ZJ p.2 q.2.2) b xs /\
   X3 λo i l=>Þ a=U o/\o.ExactDict/\Ζ=.dict i l/\i.toList=Èy (entryOfKey Ïj)/\(Èy ù).Nodup
 | .set S n=>h.SetOf (intKind P w) a S n
 | .ins C d fs=>H d=U ÄZ/\ÃH<=1000/\d≠a/\Þ a=U (Ä0 C d) /\
   ∃c,h.Ns1 d c/\#[zf,c]/\Èz c Ëp
 | .own _=>∃o,Þ a=U o
 | .xd fs=>∃c,h.Ns1 a c/\∀f,Yi Ïk (c f)
 | .rng lo m=>X3 λt u v=>Þ a=U { cls:=.type "range",Ò:=.fields #[.int lo t,.int m u,.int 1 v] }
 | .frz o u=>Þ a=U o/\Y2 H h a u
 | .tbl r=>Þ a=U { cls:=.none,Ò:=.fields r }
 | .met f x=>Þ a=U (Ôk ą Án)
 | .ext e=>e h/\(∃o,Þ a=U o)/\∀j k:aI,e j->(∀o,j.get? a=U o->k.get? a=U o)->e k
def HOk(H:Hp)(h:aI):Prop:=∀a o,H a=U o->Y2 P w H h a o
universe E
section
variable {P:aw} {w:aF} {H H':Hp} {h h':aI} {a:aa} {o:HO}
theorem Y2.lt(x:Y2 P w H h a o):a<ń:=by
 cases o with
 | lst c=>obtain _|_|_|_|e:=x;exact Qs e
 | tup c=>obtain _|_|_|p:=x;exact p.lt
 | dK b=>obtain _|_|_|_|o|_|_|e|_:=x;exact Qs e
 | dT b=>obtain _|_|_|_|o|_|_|e|_:=x;exact Qs e
 | set S n=>obtain o|_|_|_|e|_:=x;exact Qs e
 | ins C dx fs=>obtain _|_|_|e|_:=x;exact Qs e
 | own y=>obtain _|e:=x;exact Qs e
 | xd fs=>obtain _|⟨_,_,_,e,_⟩|_:=x;exact Qs e
 | rng lo hi=>obtain _|_|_|e:=x;exact Qs e
 | frz ob u=>obtain e|_:=x;exact Qs e
 | tbl ps=>exact Qs Ôl
 | met f y=>exact Qs Ôl
 | ext φ=>obtain _|⟨_,e⟩|_:=x;exact Qs e
theorem Ëq{α c:Type}{F G:α->c->Prop}:∀ {d:À α} {e:À c},ÄY F d e->(∀a b,F a b->G a b)->ÄY G d e
 | _,_,.nil,_=>.nil
 | _,_,.cons r t,f=>.cons (f _ _ r) (Ëq t f)
theorem Y2.stay(x:Y2 P w H h a o)(k:∀b u,(b=a\/H b=U ÄZ)->Þ b=U u->Ā b=U u)
  (B:∀b,H b=U ÄZ->H' b=U ÄZ) (ht:#[fG,b,xs]):Y2 P w H' h' a o:=by
 induction o with
 | lst xs=>obtain z|its|n|r|e:=x;exact(z,its,n,r,k _ _ Ď e)
 | tup xs=>obtain z|its|r|g|e|c:=x;exact(z,its,r,g,k _ _ Ď e,c)
 | dK l=>obtain z|y|D|r|g|i|j|e|c:=x;exact(z,y,D,r,g,i,j,k _ _ Ď e,c)
 | dT l=>obtain z|y|xs|r|g|i|j|e|c:=x;exact(z,y,xs,Ëq r λp q z=>(z.1,ht _ _ z.2.1,z.2.2),g,i,j,k _ _ Ď e,c)
 | set S n=>obtain g|i|j|t|e|c:=x;exact(g,i,j,t,k _ _ Ď e,c)
 | ins C dx fs=>obtain d|z|ne|e|m|⟨s,i,j,E,c⟩|r:=x;exact(B _ d,z,ne,k _ _ Ď e,m,(s,i,j,k _ _ (.inr d) E,c),r)
 | own y=>obtain g|e:=x;exact(g,k _ _ Ď e)
 | xd fs=>obtain m|⟨s,i,j,e,c⟩|r:=x;exact(m,(s,i,j,k _ _ Ď e,c),r)
 | rng lo hi=>obtain t|u|v|e:=x;exact(t,u,v,k _ _ Ď e)
 | frz g u F=>obtain e|q:=x;exact(k _ _ Ď e,F q)
 | tbl A=>have e:Þ a=U { cls:=.none,Ò:=.fields A }:=x;show Ā a=U { cls:=.none,Ò:=.fields A };exact k a _ Ď e
 | met f y=>have e:Þ a=U Ôm:=x;show Ā a=U Ôm;exact k a _ Ď e
 | ext φ=>obtain p|⟨o,e⟩|st:=x;exact(st _ _ p λo q=>k _ _ Ď q,(o,k _ _ Ď e),st)
theorem HOk.lt(x:À2)(e:H a=U o):a<ń:=(x a o e).lt
theorem HOk.fresh(x:À2)(e:Ïl):H a=af:=by
 cases q:H a with
 | none=>rfl
 | some u=>exact Ç (QG (x.lt q) e) (Qal _)
theorem HOk.kept(x:À2)(k:Ër):HOk P w H h':=λa o e =>
 (x a o e).stay (λb u _ q=>k b u q) (λ_ q=>q) λ_ _ q=>q
theorem HOk.laid(x:À2)(k:Ër)(hp:Ïl)(new:Y2 P w Æj h' a o):HOk P w Æj h':=λb u e=>by
 have d:=x.fresh hp;by_cases f:b=a
 ·rw[hs,f,Zb,e];exact new
 ·rw[Zf f]at e;exact(x b u e).stay (λc v _ q=>k c v q) (λc q=>by rw[Zf (Ze q d)];exact q) λc xs q=>by rw[Zf (Ze q d)];exact q
universe E
def Rd(H:Hp)(a:aa)(u:HO):Prop:=H a=U u\/∃o,H a=U Âr
theorem Rd.ok{P:aw}{w:aF}{H:Hp}{h:aI}{a:aa}{u:HO}(r:Rd H a u)(x:À2):Y2 P w H h a u:=by
 rcases r with r|⟨o,r⟩
 ·exact x a u r
 ·obtain _|q:=x a _ r;exact q
def Mut:Ã HO->Prop
 | some (.lst _)=>ŗ
 | some (.dK _)=>ŗ
 | some (.dT _)=>ŗ
 | some (.set _ _)=>ŗ
 | some (.ins _ _ _)=>ŗ
 | some (.ext _)=>ŗ
 | _=>Ē
section
variable {P:aw} {w:aF} {H:Hp} {h h':aI} {x e:aa} {o':HO}
theorem HOk.write(ok:À2)(a:Mut (H x))(he:Ïm)(k:#[hl,b,u,e,Þ])(l:Ïn)
  (new:Y2 P w (upd H x o') h' x o'):HOk P w (upd H x o') h':=λb u q=>by
 have i:∀c y,H c=U (.own y)->c≠x:=λc y r z=>by subst z;rw[r]at a;exact a
 have m:∀c d,H c=U (.tup d)->c≠x:=λc d r z=>by subst z;rw[r]at a;exact a
 by_cases f:b=x
 ·rw[hs,f,Zb,q];exact new
 ·rw[Zf f]at q;by_cases g:b=e
  ·have j:H b=U (.own x):=by
    rcases he with z|z
    ·exact Ç (ÈA z) f
    ·rw[g];exact z
   rw[fL,q,j,j];rw[el,v,n,l];exact(v,by rw[g];exact n)
  ·refine(ok b u q).stay (λc v hc r=>k c v ?_ r) (λc r=>by rw[Zf (i c b r)];exact r) λc d r=>by rw[Zf (m c d r)];exact r
   rcases hc with rfl|hc
   ·exact g
   ·rintro rfl;rcases he with z|z
    ·exact i c b hc z
    ·rw[hL,hc,z];exact f rfl
universe E
structure Un (fs ex:Ş) (H H':Hp) (h h':aI):Prop where
 Ċ:∀b o,Þ b=U o->H b=af->b ∉ fs->b ∉ ex->Ā b=U o
 slot:∀b o,Þ b=U o->H b=af->b∈fs->b ∉ ex->∃sl,Ā b=U { o with Áo:=sl }
 Η:∀b o,Þ b=U o->H b=af->b ∉ ex->H' b=af
 there:∀b o,Þ b=U o->b ∉ ex->∃o',Ā b=U o'
 tups:∀b xs,H b=U ÁR->H' b=U ÁR
 frzs:∀b o u,H b=U Âr->H' b=U Âr
 tbls:∀b ps,H b=U (.tbl ps)->∃Ŋ,H' b=U (.tbl (ps++Ŋ))
section
variable {fs tI ex ex':À aa} {H H1 H2:Hp} {h h1 h2 h':aI} {a x e:aa} {o:HO}
theorem Un.any(u:Un fs ex H H1 h h1){b:aa}{ob:aN}(q:Þ b=U ob)(n:H b=af)(hx:b ∉ ex):∃sl,h1.get? b=U { ob with Áo:=sl }:=by
 by_cases a:b∈fs
 ·exact u.slot b ob q n a hx
 ·exact(ob.slots,u.keep b ob q n a hx)
theorem ÈB(k:Ër):Un fs ex H H h h' :=
 (λb a q _ _ _=>k b a q,λb a q _ _ _=>(Ës,k b a q),λ_ _ _ n _=>n,λb a q _=>(a,k b a q),λ_ _ q=>q,λ_ _ _ q=>q,λ_ ps q=>(#[],by rw[q];simp))
theorem Un.refl:Un fs ex H H h h:=ÈB λ_ _ q=>q
theorem Un.laid(k:Ër)(hp:Ïl)(hn:H a=af):Un fs ex H Æj h h' where
 Ċ:=λb u q _ _ _=>k b u q
 slot:=λb u q _ _ _=>(u.slots,k b u q)
 Η:=λb u q n _=>by rw[Zf (QB (QG (Qs q) hp))];exact n
 there:=λb u q _=>(u,k b u q)
 tups:=λb c q=>by rw[Zf (Ze q hn)];exact q
 frzs:=λb u c q=>by rw[Zf (Ze q hn)];exact q
 tbls:=λb ps q=>(#[],by rw[Zf (Ze q hn),q];simp)
theorem Un.write(a:Mut (H x))(he:Ïm)(k:#[hl,b,u,e,Þ])(i:Ïn):Un fs ex H (upd H x o) h h':=by
 have d:∀b,H b=af->b≠x:=λb n z=>by subst z;rw[n]at a;exact a
 have f:∀b,H b=af->b≠e:=λb n z=>by
  subst z;rcases he with r|r
  ·exact d b n r
  ·rw[fL,n,r,r]
 have c:∀b u,H b=U u->¬ Mut (U u)->b≠x:=λb u q j z=>by subst z;rw[q]at a;exact j a
 refine⟨λb u q n _ _=>k b u (f b n) q,λb u q n _ _=>(u.slots,k b u (f b n) q),λb u q n _=>by rw[Zf (d b n)];exact n,λb u q _=>?_,
  λb l q=>by rw[Zf Ïo];exact q,λb u l q=>by rw[Zf Ïo];exact q,λb ps q=>(#[],by rw[Zf Ïo,q];simp)⟩
 by_cases g:b=e
 ·subst g;exact i
 ·exact(u,k b u g q)
universe E
def trk(h:aI)(H:Hp):À aa:=#[xq].filter λa=>(H a).isSome
def Wb(h:aI)(H:Hp):aI:=PySem.W.hideAll h (trk h H)
theorem ZoP(h:aI)(H:Hp):(Wb h H).objs.size=ń:=PySem.W.hideAll_size _ _
theorem Zp8{h:aI}{H:Hp}{b:aa}{o:aN}(e:Þ b=U o)(n:H b=af):(Wb h H).get? b=U o :=
 PySem.W.hideAll_get _ e λa=>by have q:(H b).isSome=true:=(Ä1 a).2;rw[n]at q;simp at q
theorem Ztk{h:aI}{H:Hp}{b:aa}{o:aN}(e:(Wb h H).get? b=U o):Þ b=U o/\H b=af:=by
 have a:Þ b=U o:=PySem.W.of_hideAll (trk h H) e;refine(a,?_);cases q:H b with
 | none=>rfl
 | some x=>have c:b∈trk h H:=List.mem_filter.mpr (Ïp (Qs a),by simp[q]);have z:(Wb h H).get? b=af:=PySem.W.hideAll_none (trk h H) c;rw[fL,z,e,e]
def ZrW(g h:aI)(L:aa):À (aa×aN):=#[xq].filterMap λa=>if a=L\/(Æl a).isSome=true then af else (Þ a).map λo=>(a,o,)
def Ć(g h:aI)(L d:aa):À (aa×aN):=(ZrW g h L).filter λp=>decide (p.1≠d)
structure Mod (K:Å) (mg:Ă) (Â:aI):Prop where
 kin:Ŵ Â
 glob:ÈC aM mg
 blt:∃mb,ÈC Ïq mb/\∀x:ah,x ≠ "__name__"->mb x=cV x
 nolimit:base.NoLimit
structure Cx where
 ÿ:aw
 w:aF
 K:Å
 mg:ah->Ã ae
 Â:aI
 A:aD
 N:À ah
 ÀL:aj
 H₀:Hp
 env:Env
 Û:À Env
 stack:À Env
 ex:À aa
 fn:ah->Ñ
 calm:Ñ
 pn:À (aa×aN)
 xe:ae->aj->Prop
def frs(l:ÁS):À aa:=l.filterMap (·.frame)
abbrev Cx.fs(X:Cx):À aa:=frs Âs
def Vis(a:bn)(x:ah):Prop:=ÃI x=U .local\/ÃI x=U .cell\/ÃI x=U .free
def Loc(a:bn)(x:ah):Prop:=ÃI x=U .local\/ÃI x=U .cell
def ZwG(env:Env)(h:aI)(m:Ă)(x:ah)(u:ae):Prop :=
 (Æm x=U .local/\m x=U u)\/(#[g7,Æm,x]/\∃c,Ïr x=U c/\h.IsCell c (U u))
structure Cx.Ok (X:Cx):Prop where
 mod:Mod X.K ę Ř
 kind:Ïs=.function
 glob:X.env.globals=aM
 blt:X.env.builtins=Ïq
 above:ŵ<=ĺ
 inj:∀x y c,Χ x=U c->Χ y=U c->x=y
 has:∀x,#[g7,Ât,x]->∃c,Χ x=U c
 cab:∀x c,X.fn x=true->Χ x=U c->ŵ<=c
 hd:X.calm=true->X.A.handled=af
 frames:X.A.frames=U Θ
 stk:Θ=Âs\/(Θ=Î::Âs/\X.env.frame=U ĺ)
 exf:∀b∈X.ex,b≠ĺ/\∀x c,Χ x=U c->c≠b
 bs:∀b o,ÈD b=U o->Ït b=U o/\ÈE b=af
 bsz:X.base.objs.size<=ŵ
 noex:∀b o,ÈD b=U o->b ∉ X.ex
 exfs:∀b∈X.ex,b ∉ Àq
 funs:Ôn Ř Âs
 frf:∀b∈Àq,ÈE b=af
structure Inv (X:Cx) (ai:ċ) (σ:À (Ã V)) (H:Hp) (s:aj):Prop where
 ok:X.Ok
 os:s.os=X.s₀.os
 bare:Â1 Æn
 Â:Un Àq X.ex ÈE H X.s₀.heap Ð
 loc:∃m,s.heap.Ns ĺ m/\∀ (i:Nat) (x:ah) (v:V),X.N[i]? = U x->σ[i]? = U (U v)->Vis Ïu x->∃u,ZJ v u/\ZwG Î Ð m x u
 cell:∀x c,Χ x=U c->∃v,s.heap.IsCell c v
 Η:H ĺ=af
 freeC:∀x c,Χ x=U c->H c=af
 pin:∀p∈X.pn++ai,ì p.1=U p.2/\H p.1=af/\p.1≠ĺ/\p.1 ∉ Àq/\∀v,p.2.data≠.cell v
 hok:HOk ò X.w H Ð
 len:σ.length=X.N.length
section
variable {X:Cx} {ai:À (aa×aN)} {σ:À (Ã V)} {H H':Hp} {s:aj} {h':aI}
theorem Cx.Ok.nofr(ok:X.Ok){b:aa}{o:aN}(e:ÈD b=U o):b ∉ Àq:=λhb=>by have:=(ok.funs.mem hb).1;rw[e]at this;cases this
theorem Inv.bs(I:å):∀b o,ÈD b=U o->ì b=U o/\H b=af:=λb o e =>
 (ÈF b o #[pJ].1 #[pJ].2 (I.ok.nofr e) (Æo b o e),Æp b o #[pJ].1 #[pJ].2 (Æo b o e))
theorem Inv.bk(I:å):∀b o,ÈD b=U o->ì b=U o:=λb o e=>(I.bs b o e).1
theorem Inv.mod(I:å):Mod X.K ę Ř:=Ët
theorem Inv.kIn(I:å):X.K.In Ð:=I.ok.mod.kin.keeps I.bk
theorem Inv.lt(I:å):ĺ<Ï:=let ⟨_,hn,_⟩:=Ť;hn.lt
theorem Inv.sz(I:å):ŵ<=Ï:=Qk ÈG (Qba I.lt)
theorem Inv.nofs(I:å){a:aa}(h:Ï<=a):a ∉ Àq:=λhb=>by obtain _|o|b|_:=I.ok.funs.mem hb;exact Ç (QG (Qs b) (Qk I.sz h)) (Qal _)
theorem Inv.cne(I:å):∀x c,Χ x=U c->c≠ĺ:=λx c e z=>by obtain v|o|a|hd:=Ëu;obtain m|⟨o',es,ep,b,d,_⟩|_:=Ť;rw[z,b]at a;cases a;rw[d]at hd;cases hd
theorem Inv.funs(I:å):Æq Ř Âs:=by
 have all:∀ (l:À Env),(∀b∈frs l,b∈Àq)->Ôn Ř l->Æq Ř l:=by
  intro l;induction l with
  | nil=>intro _ _;trivial
  | Ë env r g=>intro f h;obtain i|⟨L,o,a,j,k,hd⟩|m:=h;have c:L∈Àq:=f L (by unfold frs;rw[Qa4,a];exact QU);obtain sl|e:=ÈH L o k (I.ok.frf L c) c λz=>Ïv L z c;exact(i,(L,_,a,j,e,hd),g (λb d=>f b (by unfold frs;rw[Qa4,a];exact Qm _ d)) m)
 exact all Âs (λ_ d=>d) I.ok.funs
theorem Inv.stack(I:å):Æq Ř Θ:=by
 rcases I.ok.stk with e|⟨e,a⟩
 ·rw[e];exact I.funs
 ·rw[e];obtain m|b|_:=Ť;refine .cons (by rw[Áp];decide) a b ?_ I.funs;exact Ôo (Qk ÈI ÈG)
theorem Inv.stkSub(I:å):∀b∈frs Θ,b∈ĺ::Àq:=λb hb=>by
 rcases I.ok.stk with e|⟨e,a⟩
 ·rw[e]at hb;exact Qm _ hb
 ·rw[e]at hb;unfold frs at hb;rw[Qa4,a]at hb;exact hb
theorem Inv.stkFree(I:å):∀b∈frs Θ,H b=af:=λb hb=>by
 rcases ħ (I.stkSub b hb) with e|hb
 ·rw[e];exact Ψ
 ·obtain _|o|a|_:=I.ok.funs.mem hb;exact Æp b o a (I.ok.frf b hb) λz=>Ïv b z hb
theorem Inv.step{g':ĉ Ä2}{t':Nat}{d':Ä3}{ch:Ş}(I:å)
  (w:Ïw)
  (Ċ:∀b o,b≠ĺ->b ∉ Àq->b ∉ ch->ì b=U o->H b=af->Ā b=U o)
  (slot:∀b o,b≠ĺ->b∈Àq->b ∉ ch->ì b=U o->H b=af->∃sl,Ā b=U { o with Áo:=sl }) (Η:∀b o,b ∉ ch->ì b=U o->H b=af->H' b=af)
  (h:∀b o,b ∉ ch->ì b=U o->∃y,Ā b=U y)
  (A:#[fG,b,g]) (B:∀b o u,H b=U Âr->H' b=U Âr) (C:∀b F,H b=U (.tbl F)->∃Ŋ,H' b=U (.tbl (F++Ŋ)))
  (Q:∀m,s.heap.Ns ĺ m->h'.Ns ĺ m) (J:Ïx) (R:Â1 g') :
  Inv X ai σ H' { s with Ø:=h',gens:=g',drawn:=d',ï:=t' }:=by
 have L:∀b o,Ït b=U o->b≠ĺ:=λb o e=>QB (QG (Qs e) ÈG);have G:∀b o,Ït b=U o->b ∉ X.ex->b ∉ ch:=λb o e a j=>by
  rcases(w b j).1 with z|z
  ·exact a z
  ·exact Ç (QG (Qs e) z) (Qal _)
 have M:∀x c,Χ x=U c->∀v,s.heap.IsCell c v->h'.IsCell c v:=λx c e v ⟨o,t,hd⟩=>by
  have D:c ∉ ch:=λz=>(w c z).2.2.1 x c e rfl;by_cases N:c∈Àq
  ·obtain sl|q:=slot c o (I.cne x c e) N D t Ïy;exact(_,q,hd)
  ·exact(o,Ċ c o (I.cne x c e) N D t Ïy,hd)
 refine(Ω,I.os,R,(λb o e n j a=>?_,λb o e n j a=>?_,λb o e n a=>?_,λb o e a=>?_,λb g e=>A b g (Ëv b g e),λb o g e=>B b o g (ÈJ b o g e),λb F e=>?_),?_,λx c e=>?_,?_,λx c e=>?_,λp O=>?_,J,Àr)
 ·exact Ċ b o (L b o e) j Ëw (ÈF b o e n j a) Ïz
 ·obtain sl|f:=ÈH b o e n j a;obtain K|E:=slot b _ (L b o e) j Ëw f Ïz;exact(K,E)
 ·rw[rQ,y,f,a];exact Η b y Ëw f Ïz
 ·rw[rQ,y,f,a];exact h b y Ëw f
 ·obtain S|f:=Ëx b F e;obtain T|E:=C b _ f;exact(S++T,by rw[E,Array.append_assoc])
 ·rw[g6,m,V,W,Ť];refine(m,Q m V,λi x v f E Y=>?_);obtain u|r|l:=W i x v f E Y;rw[zh,u,r];rcases l with l|⟨k,c,e,z⟩
  ·exact .inl l
  ·exact .inr (k,c,e,M x c e _ z)
 ·obtain v|z:=Ëu;exact(v,M x c e v z)
 ·obtain m|⟨o,_,_,t,_⟩|_:=Ť;exact Η _ o #[y4,w] t Ψ
 ·obtain v|o|t|hd:=Ëu;exact Η c o (λz=>(w c z).2.2.1 x c e rfl) t Ïy
 ·rw[zi,P,O];have D:p.1 ∉ ch:=λz=>(w p.1 z).2.2.2 p O rfl;exact(Ċ p.1 p.2 ne P D e n,Η p.1 p.2 D e n,ne,P,d)
theorem Inv.un{t':Nat}(I:å)(u:Un Àq [] H H' Ð h')(hok:Ïx):Inv X ai σ H' { s with Ø:=h',ï:=t' }:=by obtain m|⟨o,es,ep,c,r⟩|_:=id Ť;obtain sl|f:=u.any c Ψ Ó;exact ÈK (g':=Æn) (d':=Ëy) (ch:=[]) (λ_ z=>nomatch z) (λb o _ a _ e n=>u.keep b o e n a Ó) (λb o _ a _ e n=>u.slot b o e n a Ó) (λb o _ e n=>u.free b o e n Ó) (λb o _ e=>u.there b o e Ó) u.tups u.frzs u.tbls (λm' g=>by obtain o'|h|i|d|j:=g;rw[c]at d;cases d;exact(_,h,i,f,j)) hok Ι
theorem Inv.call{g':ĉ Ä2}{t':Nat}{d':Ä3}{ch:Ş}(I:å)(u:Un Ëz ch H H' Ð h')(hok:Ïx)(i:Â1 g')
  (f:Ïw) :
  Inv X ai σ H' { s with Ø:=h',gens:=g',drawn:=d',ï:=t' }:=by
 obtain m|⟨o,es,ep,g,r⟩|_:=id Ť;obtain sl|d:=u.any g Ψ λz=>(f _ z).2.1 rfl;exact ÈK (ch:=ch) f (λb o d j a e n=>u.keep b o e n (λz=>(ħ (I.stkSub b z)).elim d j) a) (λb o _ _ a e n=>u.any e n a) (λb o a e n=>u.free b o e n a) (λb o a e=>u.there b o e a) u.tups u.frzs u.tbls (λm' k=>by obtain o'|l|q|h|t:=k;rw[g]at h;cases h;exact(_,l,q,d,t)) hok i
theorem Inv.turned{t':Nat}{it:aa}(I:å)(k:#[hl,b,o,it,ì])(hn:H it=af)(d:it≠ĺ)
  (h1:it∈X.ex\/ŵ<=it) (h2:∀x c,Χ x=U c->c≠it) (g:∀p∈X.pn++ai,p.1≠it):Inv X ai σ H { s with Ø:=h',ï:=t' }:=by
 have f:∀b u,H b=U u->b≠it:=λb u e z=>by rw[z,hn]at e;cases e
 refine ÈK (g':=Æn) (d':=Ëy) (ch:=[it]) (λb h=>?_) (λb o _ _ a e _=>k b o ÏA e) (λb o _ _ a e _=>(ÈL,k b o ÏA e)) (λ_ _ _ _ n=>n)
  (λb o a e=>(o,k b o ÏA e)) ËA (λ_ _ _ e=>e) Ôp (λm i=>?_) #[iw,b,u,e] Ι
 ·have e:b=it:=by simpa using h
  subst e;exact(h1,d,h2,g)
 ·obtain o|j|l|t|r:=i;exact(o,j,l,k _ o (Κ d) t,r)
 ·refine(é b u e).stay (λc v a q=>k c v ?_ q) (λ_ q=>q) λ_ _ q=>q;rcases a with z|z
  ·rw[(z)];exact f b u e
  ·exact f c _ z
theorem Inv.tok(I:å)(t:Nat):Inv X ai σ H { s with ï:=t }:=I.un (h':=Ð) (t':=t) Un.refl é
theorem Inv.kept{t':Nat}(I:å)(k:ÏB):Inv X ai σ H { s with Ø:=h',ï:=t' }:=I.un (ÈB k) (I.hok.kept k)
theorem Inv.laid{a:aa}{o:HO}{t':Nat}(I:å)(k:ÏB)(hp:Ï<=a)(new:Y2 ò X.w Æj h' a o) :
  Inv X ai σ Æj { s with Ø:=h',ï:=t' }:=I.un (Un.laid k hp (ÃJ hp)) (I.hok.laid k hp new)
theorem Inv.write{x e:aa}{o:HO}{t':Nat}(I:å)(a:Mut (H x))(he:Ïm)(k:#[hl,b,u,e,ì])(c:Ïn)
  (new:Y2 ò X.w (upd H x o) h' x o):Inv X ai σ (upd H x o) { s with Ø:=h',ï:=t' }:=I.un (Un.write a he k c) (I.hok.write a he k c new)
theorem Inv.pins_of{a:ċ}(I:å)(h:∀p∈a,ì p.1=U p.2/\H p.1=af/\p.1≠ĺ/\p.1 ∉ Àq/\∀v,p.2.data≠.cell v):Inv X a σ H s :=
 (Ω,I.os,Ι,Ä4,Ť,π,Ψ,Às,λp b=>(ß b).elim (λz=>ρ p (Q0 _ z)) (h p),é,Àr)
theorem Md{N:Ê}(c:ËB){i j:Nat}{x:ah}(a:N[i]? = U x)(b:N[j]? = U x):i=j:=by obtain h1|d:=Į a;obtain h2|e:=Į b;exact(List.getElem_inj c).mp (Ær Ä5)
theorem Mc{M:Áq}{A:aD}{E:ø}{i:Nat}{x:ah}{v:V}{u:ae}{Q:ÁT}(I:å)(T:Ä6)(hi:Â2)(hx:Æs)(r:ZJ v u)
  (h:∀s',Inv X ai (σ.set i (U v)) H s'->(∃a,Æt a Ð À3/\(a=ĺ\/Χ x=U a))->Q () s') (hf:Æu:=by first|exact ÀM|exact Àt|assumption):av M A (ÏC Î x u) Q E s:=by
 rw[sA,m,D,W,id,Ť];have lO:(Ïs == .class||(Ïs == .module&&ĺ != X.env.globals))=false:=by rw[Áp];rfl
 have Y:i<σ.length:=by rw[Àr];exact(Į hi).1
 have cne:=I.cne;have Z:∀ {a:aa} {h':aI},(∃o,ì a=U o/\H a=af)->Æt a Ð h'->HOk ò X.w H h':=λ{a h'} ha f b ob e=>by
  obtain _|_|gg:=ha;refine(é b ob e).stay (λc B hc q=>(f.2 c ?_).trans q) (λ_ q=>q) λ_ _ q=>q;rintro rfl;rcases hc with rfl|hc
  ·rw[hL,gg,e]
  ·rw[hL,gg,hc]
 rcases hx with hk|hk
 ·refine wpAny_storeName_local hk D #[iw,h',qX,f] lO;obtain oL|_|_|F|_:=id D;refine h _ (Ω,I.os,Ι,Ôq,(_,qX,λj y G g l J=>?_),λy c e=>?_,Ψ,Às,λp K=>?_,Z (oL,F,Ψ) f,by simpa using Àr) (_,f,.inl rfl)
  ·exact#[jM].trans Ôr
  ·rw[ta];exact(L,#[jM].trans g)
  ·rw[rQ,N,g,hx];exact(N,#[jM].trans g)
  ·by_cases w:j=i
   ·rw[l8];exact(u,r,.inl (hk,by simp))
   ·rw[dq];rcases q with⟨k,e⟩|⟨k,c,e,z⟩
    ·refine .inl (k,?_);have:y≠x:=λe=>w (Md T g (e ▸ hi));simp[this,e]
    ·exact .inr (k,c,e,z.sameBut f (cne y c e))
  ·obtain B|z:=π y c e;exact(B,z.sameBut f (cne y c e))
  ·rw[zi,R,K];exact((f.2 p.1 ne).trans e,n,ne,R,d)
 ·have S:X.fn x=true:=by
   rcases hf with z|z
   ·exact z
   ·rw[hL,z,hk]
  obtain c|hc:=ËC x (.inl hk);obtain B|z:=π x c hc;refine wpAny_storeName_cell Áp hk hc z #[iw,h',uR,f];rw[sA,oc,EB,EC,id,z];refine h { s with Ø:=h' } (Ω,I.os,Ι,Ôq,(m,D.sameBut f (Κ (cne x c hc)),λj y G g l J=>?_),λy C e=>?_,Ψ,Às,λp K=>?_,Z (oc,EB,Às x c hc) f,by simpa using Àr) (c,f,.inr hc)
  ·exact#[dg].trans Ôr
  ·rw[ta];exact(L,#[dg].trans g)
  ·rw[rQ,N,g,hx];exact(N,#[dg].trans g)
  ·by_cases w:j=i
   ·rw[l8];exact(u,r,.inr (.inl hk,c,hc,uR))
   ·rw[dq];rcases q with q|⟨k,C,e,z'⟩
    ·exact .inl q
    ·refine .inr (k,C,e,z'.sameBut f ?_);rintro rfl;exact w (Md T g (I.ok.inj _ _ _ e hc ▸ hi))
  ·by_cases ED:C=c
   ·subst ED;exact(_,uR)
   ·obtain w2|z2:=π y C e;exact(w2,z2.sameBut f ED)
  ·rw[zi,R,K];refine((f.2 p.1 ?_).trans e,n,ne,R,d);intro q;rw[q,EB]at e;have q':oc=p.2:=Qu e;exact d B #[ev,q',EC]
theorem Uo{M:Áq}{A:aD}{E:ø}{i:Nat}{x:ah}{v:V}{u:ae}{Q:ÁT}(I:å)(a:Ä6)(hi:Â2)(hx:Æs)(r:ZJ v u)
  (h:∀s',Inv X ai (σ.set i (U v)) H s'->Q () s') (b:Æu:=by first|exact ÀM|exact Àt|assumption):av M A (ÏC Î x u) Q E s :=
 Mc I a hi hx r (λs' c _=>h s' c) b
theorem Inv.call'{s':aj}{ch:Ş}(I:å)(a:s'.os=s.os)(u:Un Ëz ch H H' Ð À3)(hok:HOk ò X.w H' À3)(d:Â1 s'.gens)
  (f:Ïw):Inv X ai σ H' s':=by
 obtain h'|g'|d'|t'|g:=s';have e:g=s.os:=a;subst e;exact I.call (g':=g') (t':=t') (d':=d') u hok d f
universe E
abbrev XK:=ae->Ã aa->Hp->Prop
abbrev St:=À (Ã V)
abbrev VK:=V->Hp->Prop
abbrev TE:=St->Hp->VK->Prop
abbrev TT:=St->Hp->ÏD->Prop
abbrev TA:=St->Hp->(À V->Hp->Prop)->Prop
structure XU where
 nx:St->Hp->Prop
 rt:VK
 bk:St->Hp->Prop:=ËD
 ct:St->Hp->Prop:=ËD
abbrev TS:=XU->St->Hp->Prop
def EP(X:Cx)(a:ċ)(b:St)(Q:VK)(u:ae)(s':aj):Prop:=X2 λv H'=>Inv X a b H' s'/\ZJ v u/\Q v H'
def TP(X:Cx)(a:ċ)(c:St)(Q:ÏE)(b:Ñ)(s':aj):Prop:=∃H',Inv X a c H' s'/\Q b H'
def AP(X:Cx)(a:ċ)(b:St)(Q:À V->Hp->Prop)(us:ê)(s':aj):Prop:=X2 λvs H'=>Inv X a b H' s'/\ZH vs us/\Q vs H'
def SP(X:Cx)(c:ċ)(D:XU)(f:Flow)(s':aj):Prop :=
 match f with
 | .next=>X2 λb a=>Inv X c b a s'/\Č b a
 | .brk=>X2 λb a=>Inv X c b a s'/\D.bk b a
 | .cont=>X2 λb a=>Inv X c b a s'/\D.ct b a
 | .ret u=>X3 λv b a=>Inv X c b a s'/\ZJ v u/\D.rt v a
def PE(X:Cx)(e:aK)(t:TE):Prop :=
 ∀ (b:À (aa×aN)) (s:aj) (a:St) (H:Hp) (Q:VK),Inv X b a H s->t a H Q->ô #[fB,e] (EP X b a Q) ç s
def PT(X:Cx)(e:aK)(t:TT):Prop :=
 ∀ (b:À (aa×aN)) (s:aj) (a:St) (H:Hp) (Q:Ñ->Hp->Prop),Inv X b a H s->t a H Q->ô (isTrue e Î #[fB,e]) (TP X b a Q) ç s
def PW(X:Cx)(e:aK)(t:TT):Prop :=
 ∀ (c:Sem ae) (b:À (aa×aN)) (s:aj) (a:St) (H:Hp) (Q:Ñ->Hp->Prop),Inv X b a H s->t a H Q->ô (isTrue e Î c) (TP X b a Q) ç s
theorem œ{X:Cx}{e:aK}{t:TT}(h:PW X e t):PT X e t:=h _
def PA(X:Cx)(d:į)(t:TA):Prop :=
 ∀ (a:Pos) (c:À (aa×aN)) (s:aj) (b:St) (H:Hp) (Q:À V->Hp->Prop),Inv X c b H s->t b H Q->ô (spliced (bg a (aE d Î))) (AP X c b Q) ç s
def PS(X:Cx)(st:aL)(t:TS):Prop :=
 ∀ (a:À (aa×aN)) (s:aj) (b:St) (H:Hp) (D:XU),Inv X a b H s->t D b H->ô (exec st Î) (SP X a D) ç s
def PSs(X:Cx)(st:ſ)(t:TS):Prop :=
 ∀ (a:À (aa×aN)) (s:aj) (b:St) (H:Hp) (D:XU),Inv X a b H s->t D b H->ô (execs st Î) (SP X a D) ç s
theorem thn{α:Type}{t:Sem α}{Q b:α->aj->Prop}{M:Áq}{A:aD}{E:ø}{s:aj}(h:av M A t Q E s)(c:∀a s,Q a s->b a s):av M A t b E s:=aX h c λ_ _ x=>x
section
variable {X:Cx}
inductive EA {α:Type} (A B:α->Prop):Prop where
 | mk (v:α) (a:A v) (b:B v)
def S4(i:Nat):TE:=λa H Q=>EA (λv=>a[i]? = U (U v)) (λv=>Q v H)
def tC(v:V):TE:=λ_ H Q=>Q v H
theorem Ru{i:Nat}{x:ah}{pos:Pos}(f:Â2)(g:#[ij,Vis])(hd:İ:=by decide)(j:ËE:=by decide):PE X ÀN (S4 i):=by
 rw[eR,k,n,Q];rw[g6,v,e,h,h];rw[g6,m,o,p,Ť];obtain u|r|l:=p i x v f e g;have a:EP X k n Q u s:=ÏF;rcases l with⟨hk,q⟩|⟨hk,c,b,d⟩
 ·exact ÏG (Ôs Áp hk o q a) hd
 ·rcases hk with hk|hk
  ·exact ÏG (Ôt Áp hk b d a) hd
  ·exact ÏG (wpAny_loadName_free Áp hk b d a j) hd
theorem Zj{i j pos}:PE X (.Constant Ä7 j pos) (tC Ä7):=λ_ _ _ H _ I h=>wpAny_Constant_int (.int i,H,ř _,ü,h)
theorem Xn{b j pos}:PE X (.Constant (.bool b) j pos) (tC (.bl b)):=λ_ _ _ H _ I h=>Constant_bool #[hM,b,h]
theorem ZT{j pos}:PE X (.Constant .none j pos) (tC .non):=λ_ _ _ H _ I h=>Constant_none (.non,H,I,rfl,h)
theorem Zp{x j pos}:PE X (.Constant Ä8 j pos) (tC Ä8):=λ_ _ _ H _ I h=>Calls.Constant_str #[gp,x,h]
def Gl(X:Cx)(x:ah):Prop:=Ât x=U .globalImplicit
theorem WX{E:ø}{a:ċ}{s:aj}{b:St}{H:Hp}{x:ah}{u:ae}{pos:Pos}{Q:ø}(I:ÈM)(c:Ŕ)(hm:ę x=U u)(h:Q u s)
  (hd:İ:=by decide):ô #[fB,ÀN] Q E s :=
 Ôu Áp c (Calls.loadGlobal_global Ôv hm h) hd
theorem VC{E:ø}{a:ċ}{s:aj}{b:St}{H:Hp}{x:ah}{u:ae}{pos:Pos}{Q:ø}(I:ÈM)(c:Ŕ)(hm:ę x=af)(d:cV x=U u)(h:Q u s)
  (hn:ÈN:=by decide) (hd:İ:=by decide):ô #[fB,ÀN] Q E s:=by
 rw[g6,mb,e,f,I.mod.blt];exact Ôu Áp c (Calls.loadGlobal_builtin Ôv hm #[e5,I.ok.blt,e.keeps,I.bk] ((f x hn).trans d) h) hd
theorem Mb{x:ah}{v:V}{u:ae}{pos:Pos}(a:Ŕ)(hm:ę x=U u)(r:ZJ v u)(hd:İ:=by decide):PE X ÀN (tC v) :=
 λ_ _ _ H _ I h=>WX I a hm ÏF hd
theorem ZrP{x:ah}{v:V}{u:ae}{pos:Pos}(a:Ŕ)(hm:ę x=af)(b:cV x=U u)(r:ZJ v u)(hn:ÈN:=by decide)(hd:İ:=by decide):PE X ÀN (tC v) :=
 λ_ _ _ H _ I h=>VC I a hm b ÏF hn hd
variable {a b:aK} {ta tb:TE} {pos:Pos}
def tB(t:TE):TT:=λa H Q=>t a H λx b=>EA (λc=>x=.bl c) (λc=>Q c b)
theorem XT{e:aK}{t:TE}(h:PE X e t)(he:∀a,isTrue e Î a=(do let v <- a;ÃK e.pos;ÁU [v] (truthy v)):=by intro _;rfl):PT X e (tB t):=by intro b s c H Q I hw;refine isTrue_plain (thn (h b s c H _ I hw) ?_) (he _);rintro v s1 ⟨x,f,g,i,j⟩;obtain d|rfl|q:=j;cases i;exact bp (f,g,q)
variable {tA yg:TT} {Ć:À aK}
def Zw0(t u:TT):TT:=λa H Q=>t a H λc b=>if c=true then u a b Q else Q false b
def tOr(t u:TT):TT:=λa H Q=>t a H λc b=>if c=true then Q true b else u a b Q
def ZwE(t:TT):TT:=λa H Q=>t a H λc b=>Q (!c) b
theorem XS(ha:PT X a tA):PW X (.BoolOp .And [a] pos) tA:=by
 intro wh b s d H Q I h;refine isTrue_and Ôw;cases c with
 | true=>exact isTrue_and_nil e
 | false=>exact e
theorem WJ(ha:PT X a tA):PW X (.BoolOp .Or [a] pos) tA:=by
 intro wh b s d H Q I h;refine isTrue_or Ôw;cases c with
 | false=>exact isTrue_or_nil e
 | true=>exact e
theorem Yb(ha:PT X a tA)(hb:PW X Ôx yg):PW X Ôy (Zw0 tA yg):=by
 intro j d s e H Q I h;refine isTrue_and #[ek,ha,d,e];rintro c k ⟨f,g,i⟩;cases c with
 | true=>exact hb j d k e f Q g i
 | false=>exact(f,g,i)
theorem WI(ha:PT X a tA)(hb:PW X Ôz yg):PW X ÔA (tOr tA yg):=by
 intro j d s e H Q I h;refine isTrue_or #[ek,ha,d,e];rintro c k ⟨f,g,i⟩;cases c with
 | true=>exact(f,g,i)
 | false=>exact hb j d k e f Q g i
theorem VB(ha:PT X a tA):PT X (.UnaryOp .Not a pos) (ZwE tA):=by intro b s d H Q I h;exact isTrue_not (ha b s d H (λc e=>Q (!c) e) I h)
def Zv7(ta tb:TE):TE:=λa H Q=>ta a H λx b=>∃c,x=.bl c/\if c=true then tb a b Q else Q (.bl false) b
def ZwK(ta tb:TE):TE:=λa H Q=>ta a H λx b=>∃c,x=.bl c/\if c=true then Q Æv b else tb a b Q
def ZvF(ta:TE):TE:=λa H Q=>ta a H λx b=>∃c,x=.bl c/\Q (.bl (!c)) b
theorem Um{op}{t:TE}(h:PE X a t):PE X (.BoolOp op [a] pos) t:=λb s c H Q I hw=>BoolOp_one (h b s c H Q I hw)
theorem Ul(ha:Ár)(hb:PE X Ôx tb):PE X Ôy (Zv7 ta tb):=by
 rw[sD,Q,BoolOp_and,ha];rw[kk];cases c with
 | true=>exact hb e j f g Q i d
 | false=>exact(.bl false,g,i,rfl,d)
theorem Zvw(ha:Ár)(hb:PE X Ôz tb):PE X ÔA (ZwK ta tb):=by
 rw[sD,Q,BoolOp_or,ha];rw[kk];cases c with
 | false=>exact hb e j f g Q i d
 | true=>exact(.bl true,g,i,rfl,d)
theorem Zu4(ha:Ár):PE X (.UnaryOp .Not a pos) (ZvF ta):=by intro d s e H Q I h;refine UnaryOp_ #[ek,ha,d,e];rintro v s1 ⟨x,f,g,i,b⟩;obtain c|rfl|b:=b;cases i;exact not_of (bp (.bl (!c),f,g,rfl,b))
def tIf(t:TT)(ta tb:TE):TE:=λa H Q=>t a H λc b=>if c=true then ta a b Q else tb a b Q
theorem ZY{c:aK}(hc:PT X c tA)(ha:Ár)(hb:ÃL):PE X (.IfExp c a b pos) (tIf tA ta tb):=by
 rw[sD,Q,wpAny_IfExp,hc];rintro d g ⟨i,j,k⟩;cases d with
 | true=>exact ha e g f i Q j k
 | false=>exact hb e g f i Q j k
universe E
def SqL(K:Å)(H:Hp)(a:aa)(xs:Ą):Prop :=
 Rd H a ÁV \/
  X3 λ(o:aN) (its:ĉ ae) (n:Nat)=>ı a=U o/\ÃM=.type "list"/\o.dict=af/\Ζ=.seq its n/\its.size<=aq/\ZH xs ÈO
def SqT(K:Å)(H:Hp)(a:aa)(xs:Ą):Prop :=
 Rd H a ÁR \/
  X3 λ(o:aN) (its:ĉ ae) (n:Nat)=>ı a=U o/\ÃM=.type "tuple"/\Ζ=.seq its n/\its.size<=aq/\ZH xs ÈO
def ZwF:ae->Ã V
 | .none=>U .non
 | .bool b=>U (.bl b)
 | .int i _=>U Ä7
 | .str x _=>U Ä8
 | .bytes b _=>U (.byt b)
 | .float b _=>U (.flt b)
 | .ref a=>U Ĩ
 | .type n=>U (.ty n)
 | _=>af
theorem ZJ.abs{x:V}{u:ae}(r:ZJ x u):ZwF u=U x:=by
 cases x with
 | non=>cases r;rfl
 | bl _=>cases r;rfl
 | int _=>obtain t|rfl:=r;rfl
 | str _=>obtain t|rfl:=r;rfl
 | byt _=>obtain t|rfl:=r;rfl
 | flt _=>obtain t|rfl:=r;rfl
 | ref _=>cases r;rfl
 | ty _=>cases r;rfl
theorem ZJ.inj{x y:V}{u:ae}(r:ZJ x u)(q:ZJ y u):x=y:=Qu (r.abs.symm.trans q.abs)
theorem ZH.inj:∀ {xs ys:À V} {us:À ae},ZH xs us->ZH ys us->xs=ys
 | _,_,_,.nil,.nil=>rfl
 | _,_,_,.cons r t,.cons a t'=>by rw[r.inj a,ZH.inj t t']
section
variable {X:Cx} {ai:À (aa×aN)} {σ:St} {H:Hp} {s:aj} {a:aa} {xs ys:À V}
theorem É{K:Å}(h:H a=U ÁV):SqL K H a xs:=.inl (.inl h)
theorem ā{K:Å}(h:H a=U ÁR):SqT K H a xs:=.inl (.inl h)
theorem Inv.list(I:å)(h:SqL X.K H a xs):∃its:À ae,ZH xs its/\PlainL Ð a ŝ/\Ú<=aq:=by
 rcases h with h|⟨o,its,n,b,c,hd,d,hz,r⟩
 ·obtain z|its|n|r|e:=h.ok é;exact(its,r,(_,n,e,rfl,rfl,rfl),z)
 ·refine(ÈO,r,(o,n,Ě a o b,c,hd,by simpa using d),?_);rw[nN];lia
theorem Inv.tuple(I:å)(h:SqT X.K H a xs):∃its:À ae,ZH xs its/\ÃG Ð a ŝ/\Ú<=aq:=by
 rcases h with h|⟨o,its,n,b,c,d,hz,r⟩
 ·obtain z|its|r|p:=h.ok é;exact(its,r,p,z)
 ·refine(ÈO,r,(o,Ě a o b,c,n,by simpa using d),?_);rw[nN];lia
theorem Inv.list_inj(I:å)(h:SqL X.K H a xs)(h':SqL X.K H a ys):xs=ys:=by
 obtain its|r|⟨o,n,e,_,_,d⟩|_:=ÁW h;obtain b|g|⟨o',n',c,_,_,f⟩|_:=ÁW h';rw[fL,e,c,c];rw[d]at f;injection f with i _;have:its=b:=by simpa using ŕ Array.toList i
 subst this;exact r.inj g
theorem Inv.tuple_inj(I:å)(h:SqT X.K H a xs)(h':SqT X.K H a ys):xs=ys:=by
 obtain its|r|⟨o,e,_,n,d⟩|_:=Æw h;obtain b|g|⟨o',c,_,n',f⟩|_:=Æw h';rw[fL,e,c,c];rw[d]at f;injection f with i _;have:its=b:=by simpa using ŕ Array.toList i
 subst this;exact r.inj g
universe E
abbrev Cx.wish(X:Cx)(E:ø):Cx:={ X with xe:=E }
abbrev Cx.nox(X:Cx):Cx:=X.wish λ_ _=>Ē
theorem Cx.Ok.wish{X:Cx}(ok:X.Ok)(E:ø):(ÏH).Ok :=
 ËF
theorem Cx.Ok.unwish{X:Cx}{E:ø}(ok:(ÏH).Ok):X.Ok :=
 ËF
section
variable {X:Cx} {ai:À (aa×aN)} {σ:St} {H:Hp} {s:aj} {E:ae->aj->Prop}
theorem Inv.wish(I:å)(E:ø):Inv ÏH ai σ H s:=(I.ok.wish E,I.os,Ι,Ä4,Ť,π,Ψ,Às,ρ,é,Àr)
theorem Inv.unwish(I:Inv ÏH ai σ H s):Inv X ai σ H s:=(I.ok.unwish,I.os,Ι,Ä4,Ť,π,Ψ,Às,ρ,é,Àr)
theorem SP.unwish{D:XU}{f:Flow}{s':aj}(h:SP ÏH ai D f s'):SP X ai D f s':=by
 cases f with
 | next=>obtain a|b|I|q:=h;exact ÏI
 | brk=>obtain a|b|I|q:=h;exact ÏI
 | Λ=>obtain a|b|I|q:=h;exact ÏI
 | ret u=>obtain v|a|b|I|r|q:=h;exact(v,a,b,I.unwish,r,q)
theorem PSs.nox{st:ſ}{t:TS}(h:PSs X.nox st t):PSs X st t:=λai s σ H D I hw =>
 aX (h ai s σ H D (I.wish _) hw) (λ_ _ q=>q.unwish) λ_ _ z=>Â3 z
universe E
section
variable {X:Cx} {st:aL} {Ć:À aL} {t u:TS} {e:aK} {te:TE} {pos:Pos}
def Zvo:TS:=λD a H=>Č a H
def Uk(t u:TS):TS:=λD a H=>t { D with nx:=u D } a H
theorem Zv:PSs X [] Zvo:=λ_ _ a H _ I h=>Æx (a,H,I,h)
theorem Zc(h1:PS X st t)(h2:PSs X Ć u):PSs X (st::Ć) (Uk t u):=by
 rw[eR,a,b,D];refine ÏJ (thn (h1 a s b H { D with nx:=u D } I h) λf c q=>?_);cases f with
 | next=>obtain d|e|g|q:=q;exact h2 a c d e D g q
 | ret v=>exact q
 | brk=>exact q
 | Λ=>exact q
theorem Zg(h1:PS X st t):PSs X [st] t:=by
 rw[eR,a,b,D];refine ÏJ (thn (h1 a s b H D I h) λf s1 q=>?_);cases f with
 | next=>exact Æx q
 | ret v=>exact q
 | brk=>exact q
 | Λ=>exact q
theorem Inv.quiet{a:ċ}{b:St}{H:Hp}{s:aj}(I:ÈM):interactive Î=false:=by simp[interactive,Áp]
def ZvZ(te:TE):TS:=λD a H=>te a H λ_ b=>Č a b
theorem ZL(he:Ä9)(hs:ËG e af ÈP Î=pure false:=by rfl):PS X (.Expr e pos) (ZvZ te):=by intro b s a H D I h;exact wpAny_Expr_any (thn #[f7,he,b,a] λv s1 ⟨x,c,d,r1,f⟩=>(a,c,d,f)) I.quiet hs
def Zwz(te:TE):TS:=λD a H=>te a H D.rt
theorem Zl(he:Ä9):PS X (.Return (U e) pos) (Zwz te):=by intro b s a H D I h;exact wpAny_Return_some (thn #[f7,he,b,a] λv s1 ⟨x,c,d,f,g⟩=>(x,a,c,d,f,g))
def ZwC(c:TT)(t u:TS):TS:=λD a H=>c a H λb d=>if b=true then t D a d else u D a d
theorem ZK{c:aK}{a b:ſ}{g:TT}(hc:PT X c g)(ha:PSs X a t)(hb:PSs X b u):PS X (.If c a b pos) (ZwC g t u):=by
 rw[sD,D,wpAny_If,hc];rintro d i ⟨j,k,l⟩;cases d with
 | true=>exact ha e i f j D k l
 | false=>exact hb e i f j D k l
universe E
abbrev TG:=V->St->Hp->(St->Hp->Prop)->Prop
abbrev TGs:=À V->St->Hp->(St->Hp->Prop)->Prop
def PG(X:Cx)(e:aK)(t:TG):Prop :=
 ∀ (a:À (aa×aN)) (s:aj) (b:St) (H:Hp) (v:V) (u:ae) (Q:St->Hp->Prop),Inv X a b H s->ZJ v u->t v b H Q ->
  ô (Âu e Î u) (λ_ f=>X2 λc d=>Inv X a c d f/\Q c d) ç s
def PGs(X:Cx)(g:į)(t:TGs):Prop :=
 ∀ (a:À (aa×aN)) (s:aj) (b:St) (H:Hp) (c:À V) (d:À ae) (Q:St->Hp->Prop),Inv X a b H s->ZH c d->t c b H Q ->
  ô (ÏK (#[yW,g].map ě) d) (λ_ h=>X2 λe f=>Inv X a e f h/\Q e f) ç s
abbrev S0:=V->V->V->Hp->(Hp->Prop)->Prop
def Rt(X:Cx)(t:S0):Prop :=
 ∀ (a:À (aa×aN)) (s:aj) (b:St) (H:Hp) (o i v:V) (c d u:ae) (Q:Hp->Prop),Inv X a b H s->ZJ o c->ZJ i d->ZJ v u->t o i v H Q ->
  ô (setItem c d u) (λ_ f=>∃e,Inv X a b e f/\Q e) ç s
abbrev TIp:=ÈQ
def PIp(X:Cx)(op:ÈR)(t:TIp):Prop :=
 ∀ (a:À (aa×aN)) (s:aj) (b:St) (H:Hp) (x y:V) (v u:ae) (Q:VK),Inv X a b H s->ZJ x v->ZJ y u->t x y H Q ->
  ô (ÏL op v u) ÃN ç s
section
variable {X:Cx} {pos:Pos}
def U6(i:Nat):TG:=λv a H Q=>Q (a.set i (U v)) H
theorem Zs{i:Nat}{x:ah}(a:Ä6)(hi:Â2)(hx:Æs)(b:Æu:=by first|exact ÀM|exact Àt|assumption):PG X ÀN (U6 i):=by intro ai s σ H v u Q I r h;exact ÔB (Uo I a hi hx r (λs' c=>(_,H,c,h)) b)
def Ma:TGs:=λvs a H Q=>vs=[]/\Q a H
inductive RGc (vs:Ą) (B:V->À V->Prop):Prop where
 | mk (v:V) (r:À V) (e:vs=v::r) (q:B v r)
def LZ(t:TG)(u:TGs):TGs:=λvs a H Q=>RGc vs λv r=>t v a H λb H'=>u r b H' Q
theorem ZU:PGs X [] Ma:=by intro ai s a H vs us Q I r h;obtain e|h:=h;subst e;cases r;exact ÏM (a,H,I,h)
theorem Zo{e:aK}{a:į}{t:TG}{u:TGs}(h1:PG X e t)(h2:PGs X a u)
  (hs:(bV (e::a) Î).map ě=Âu e Î::#[yW,a].map ě:=by rfl):PGs X (e::a) (LZ t u):=by
 rw[rX,b,c,vs];obtain v|vr|d|h:=h;subst d;cases r with
 | Ë r f=>rw[hs];refine ËH (thn (h1 b s c H _ _ _ I r h) ?_);rintro _ g ⟨i,j,k,l⟩;exact h2 b g i j _ _ Q k f l
inductive RGt (K:Å) (H:Hp) (n:Nat) (v:V) (B:À V->Prop):Prop where
 | mk (a:aa) (xs:À V) (e:v=.ref a) (s:SqT K H a xs) (l:Ú=n) (q:B xs)
def Uj(K:Å)(n:Nat)(t:TGs):TG:=λv a H Q=>RGt K H n v λxs=>t xs a H Q
theorem ZtP{c:į}{k:Nat}{t:TGs}{n:Nat}(hc:ť)(h:PGs X c t)
  (hn:#[yW,c].length=n:=by rfl) (i:#[yW,c].findIdx? ù=af:=by rfl):PG X (.Tuple c k pos) (Uj X.K n t):=by
 intro d s f H v u Q I r hw;obtain a|j|l|m|p|hw:=hw;subst l;cases r;rw[sB,g,q,hz,m];refine assign_Tuple_tuple Âv q (by simp[hn,<- p,g.length]) i λw x=>?_;have y:#[gL,d,f,H,s,w]:=Âw (t':=Ŧ) λb o e=>x b o ÈS e;exact h d _ f H j _ Q y #[ea,g] hw
def Zw1(to b:TE)(t:S0):TG:=λv a H Q=>to a H λo c=>b a c λi d=>t o i v d λe=>Q a e
theorem Xd{o i:aK}{to e:TE}{t:S0}(f:Æy)(hi:PE X i e)(hs:Rt X t)
  (ha:∀v,Âu (.Subscript o i pos) Î v=(do
   let a <- ÁU [v] (ă o Î);let b <- ÁU [v,a] (ă i Î)
   ÃK pos
   ÁU [v,a,b] (setItem a b v)
   release [v,a,b] []):=by intro _;rfl):PG X (.Subscript o i pos) (Zw1 to e t):=by
 intro d s c H v u Q I r h;rw[ha];refine am (ba #[ek,f,d,c]);rintro a g ⟨x,j,k,l,m⟩;refine am (ba (thn (hi d g c j _ k m) ?_));rintro b n ⟨y,p,q,w,z⟩;refine am (bC (am (ba (thn (hs d n c p x y v a b u _ q l w r z) ?_))));rintro _ s3 ⟨A,B,C⟩;exact wpAny_release (c,A,B,C)
def Rs(b:TE)(g:TG):TS:=λD a H=>b a H λx c=>g x a c Č
theorem YD{a e:aK}{b:TE}{g:TG}(he:PE X e b)(f:PG X a g)(hs:swapsWithSole [a] e ÈP Î=pure false:=by rfl)(hw:swappedStores [a] e Î=pure af:=by rfl)
  (i:(bV [a] Î).map ě=[Âu a Î]:=by rfl):PS X (.Assign [a] e pos) (Rs b g):=by
 rw[eR,c,d,D];refine wpAny_Assign_stores #[ek,he,c,d] hs hw;rintro v j ⟨x,k,l,m,n⟩;rw[i];exact thn (f c j d k x v _ l m n) λ_ s2 q=>q
theorem Zu{i:Nat}{x:ah}{e:aK}{a:TE}{b:Pos}(c:Ä6)(hi:Â2)(hx:Æs)(he:PE X e a)(hs:ËG e (U (.Name x b)) ÈP Î=pure false:=by rfl)(d:Æu:=by first|exact ÀM|exact Àt|assumption) :
  PS X (.Assign [.Name x b] e pos) (Rs a (U6 i)):=by
 rw[eR,f,g,D];refine wpAny_Assign_Name #[ek,he,f,g] hs;rintro v s1 ⟨y,j,k,l,m⟩;exact Uo k c hi hx l (λs2 n=>(_,j,n,m)) d
def Zw7(i j:Nat)(b:TA):TS:=λD a H=>b a H λvs c=>X2 λv w=>vs=[v,w]/\Č ((a.set i (U v)).set j (U w)) c
theorem Zuh{i j:Nat}{x y:ah}{a b:aK}{t:TA}{g k pt:Pos}{kt l m}(hc:ť)(u:Ä6)(hi:Â2)(E:X.N[j]? = U y)(n:i≠j)
  (hx:Âx x=U .local) (hy:Âx y=U .local) (ha:PA X [a,b] t)
  (hw:swappedStores ÏN ÏO Î=pure (U [x,y]))
  (hs:swapsWithSole ÏN ÏO ÈP Î=pure false:=by rfl) :
  PS X (.Assign ÏN ÏO pos) (Zw7 i j t):=by
 rw[eR,z,A,D];rw[exec_Assign_arm];rw[sf,bC];rw[hs];rw[sf,aB];rw[Æ Ì];refine am (Tuple_ (thn (ha _ z s A H _ I h) ?_));rintro F c ⟨vs,B,G,J,r⟩;obtain v|w|K|r:=r;subst K;obtain⟨d,f,rfl,L,M⟩:X2 λd f=>F=[d,f]/\ZJ v d/\ZJ w f:=by
  cases J with
  | Ë p q =>
   cases q with
   | Ë N O=>cases O;exact(_,_,rfl,p,N)
 refine bw ?_ Ây;have P:Inv X z A B { c with Ø:=Æz { cls:=.type "tuple",Ò:=.seq [d,f].toArray } }:=#[sj,G.kept];rw[hw];rw[sf,aB];show ô (do rule "assign.swapped-stores";let β <- ÏP (.ref ÀO) 2 af;ÏK ÔC items.reverse;pure Flow.next) _ _ _;refine am (ÈT (am (unpackItems_tuple (β:=#[d,f]) Âv (IsTup.new ÆA _) λh' Q=>?_)));have R:=P.kept (h':=h') (t':=Åa) λb o e=>Q b o ÈS e;show av _ _ (ÏK ÔC [f,d] >>= λ_=>pure Flow.next) _ _ _;refine am (ËH (wpAny_bindName (Uo R u E (.inl hy) M (λs2 S=>?_) (.inr hy))));refine ËH (wpAny_bindName (Uo S u hi (.inl hx) L (λs3 C=>ÏM (aB ?_)) (.inr hx)));rw[List.set_comm _ _ (Κ n)]at C;exact(_,B,C,r)
def ZwR(i:Nat)(b:TE)(c:TIp):TS:=λD a H=>∃x,a[i]? = U (U x)/\b a H λy d=>c x y d λz e=>Č (a.set i (U z)) e
theorem Zvd{i:Nat}{x:ah}{e:aK}{b:TE}{op:ÈR}{d:TIp}{g:Pos}(j:Ä6)(hi:Â2)(hx:Æs)(he:PE X e b)(n:PIp X op d)(o:Æu:=by first|exact ÀM|exact Àt|assumption) :
  PS X (.AugAssign (.Name x g) op e pos) (ZwR i b d):=by
 rw[eR,a,f,D];rw[g6,v,p,h,h];rw[g6,m,q,t,Ť];have A:#[ij,Vis]:=by rcases hx with k|k;exact .inl k;exact .inr (.inl k)
 obtain u|r|l:=t i x v hi p A;refine wpAny_AugAssign_Name ?_;have go:ô #[fB,e] (λw B=>ô (ÏL op u w) (λr C=>ô (ÏC Î x r) (λ_=>SP X a D .next) ç C) ç B) ç s:=by refine thn #[f7,he,a,f] ?_;rintro w E ⟨y,F,G,J,K⟩;refine thn (n a E f F v y u w _ G r J K) ?_;rintro z s2 ⟨zv,L,M,N,O⟩;exact Uo M j hi hx N (λs3 P=>(_,L,P,O)) o
 rcases l with⟨hk,Q⟩|⟨hk,c,R,S⟩
 ·exact Ôs Áp hk q Q go
 ·rcases hk with hk|hk
  ·exact Ôt Áp hk R S go
  ·rcases hx with k|k
   ·rw[kF]
   ·rw[kF]
def ipI(f:Int->Int->Int):TIp:=λx y H Q=>X2 λi j=>C3 (x=.int i) (y=.int j) (Q (.int (f i j)) H)
theorem Zut:PIp X .Add (ipI λi j=>i+j):=by intro ai s σ H x y v u Q I a b h;obtain i|j|c|d|q:=h;subst c;subst d;obtain t|rfl:=a;obtain t'|rfl:=b;exact iadd_int (.int _,H,ř _,ü,q)
universe E
section
variable {X:Cx} {pos:Pos}
def ZuX(c:TT)(h:TS):TS:=λD a H=>∃W:Nat->St->Hp->Prop,(∃m,W m a H)/\∀m a H,W m a H ->
 c a H λb d=>if b=true then ∃N:St->Hp->Prop,(∀e f,N e f->∃g,g<m/\W g e f)/\h { D with nx:=N,ct:=N,bk:=Č } a d else Č a d
theorem Rr{c:aK}{r:ſ}{t:TT}{u:TS}(hp:bj Ģ X.A Î ç)(hc:PT X c t)(hb:PSs X r u):PS X (.While c r [] pos) (ZuX t u):=by
 rw[eR,k,C,D];obtain W|⟨E,F⟩|a:=h;refine wpAny_While (codeAny_whileLoop (λn G=>X2 λw x=>Inv X k w x G/\W n w x) ?_ E (C,H,I,F));rintro n J ⟨g,y,K,L⟩;refine bZ hp (thn (hc k J g y _ K (a n g y L)) ?_);rintro b M ⟨z,A,i⟩;cases b with
 | true =>
  rw[g6,N,B,i,i];rw[p8];refine bZ hp (thn (hb k M g z _ A i) λf s3 j=>?_);cases f with
  | next=>obtain d|e|l|m:=j;rw[oc]
  | Λ=>obtain d|e|l|m:=j;rw[oc]
  | brk=>exact j
  | ret v=>exact j
 | false=>rw[Æ Qw];exact Æx (g,z,A,i)
universe E
structure It where
 go:Nat->Hp->Prop
 yld:Nat->Hp->V->Hp->Prop
 stop:Nat->Hp->Prop
def Xm(X:Cx)(a:ċ)(H:Hp)(b:aa):Prop :=
 H b=af/\b≠ĺ/\b ∉ Àq/\(b∈X.ex\/ŵ<=b)/\#[gF,c,b]/\∀p∈X.pn++a,p.1≠b
theorem Inv.fpOk{X:Cx}{a:ċ}{d:St}{H H':Hp}{s:aj}{b:aa}(I:Inv X a d H s)(hb:Ï<=b)(hn:H' b=af):Xm X a H' b:=by
 refine(hn,Q2 (QG I.lt hb),I.nofs hb,.inr (Qk I.sz hb),λx c e z=>?_,λp f z=>?_)
 ·obtain v|q:=Ëu;exact Ç (QG q.lt #[ed,z,hb]) (Qal _)
 ·exact Ç (QG (Qs (ρ p f).1) #[ed,z,hb]) (Qal _)
structure Wu (P:aw) (w:aF) (K:Å) (tg:aK) (J:It) (fp:Ş) (it:aa) (tn:Nat->aI->Prop):Prop where
 mem:it∈fp
 obj:∀i h,tn i h->∀b∈fp,∃o,Þ b=U o/\∀v,Ζ≠.cell v
 Ċ:∀i h h',tn i h->(∀b∈fp,∀o,Þ b=U o->Ā b=U o)->tn i h'
 item:∀ (X:Cx),ò=P->X.w=w->X.K=K->X.calm=true->∀ (i:Nat) (ai:À (aa×aN)) (s:aj) (σ:St) (H:Hp) (E:ae->aj->Prop),Inv X ai σ H s->ÔD->tn i Ð->J.go i H ->
  av ÃO X.A (Â4 Ás) (λr s1=>∃u,r=U u /\
   av ÃO X.A (dF tg Ás u) (λ_ s2=>X2 λx H'=>Inv X ai σ H' s2/\ZJ x u/\J.yld i H x H'/\tn (i+1) s2.heap/\∀b∈fp,H' b=af) E s1) E s
 done:∀ (X:Cx),ò=P->X.w=w->X.K=K->X.calm=true->∀ (i:Nat) (ai:À (aa×aN)) (s:aj) (σ:St) (H:Hp) (E:ae->aj->Prop),Inv X ai σ H s->ÔD->tn i Ð->J.stop i H ->
  av ÃO X.A (Â4 Ás) (λr s1=>r=af/\Inv X ai σ H s1) E s
 self:∀ (A:aD) (i:Nat) (s:aj) (Q:ae->aj->Prop) (E:ae->aj->Prop),tn i Ð->Q Ás s->av ÃO A (Åb Ás) Q E s
abbrev TI:=St->Hp->(It->Hp->Prop)->Prop
def PIE(X:Cx)(c:ċ)(g:St)(h:aK)(R:It->Hp->Prop)(i:ae)(d:aj):Prop :=
 X5 λ(e:aa) (fp:À aa) (f:Nat->aI->Prop) (J:It) (a:Hp)=>i=.ref e/\Inv X c g a d/\Wu ò X.w X.K h J fp e f/\f 0 d.heap/\(∀b∈fp,Xm X c a b)/\R J a
def PI(X:Cx)(c Ļ:aK)(d:TI):Prop :=
 ∀ (b:À (aa×aN)) (s:aj) (a:St) (H:Hp) (R:It->Hp->Prop),Inv X b a H s->d a H R ->
  ô #[fB,Ļ] (λv e=>ô (Åb v) (PIE X b a c R) ç e) ç s
theorem U5{M:Áq}{A:aD}{E:ø}{s:aj}{b:aK}{it:aa}{u:ae}{o:aN}{n:ĸ}{vs:ÃP}{Q:ÁT}(c:ì it=U o)(hc:ÃM=.type n)(hd:Ζ=.fields vs)
  (hn:["enumerate", "zip", "dict_itemiterator", "dict_reverseitemiterator", "odict_iterator", "itertools.zip_longest", "itertools.pairwise"].contains n=false) (a:Q () s):av M A (dF b Ás u) Q E s:=by
 unfold dF;cases b<;>first
  | exact aB a
  | (cases u<;>first
    | exact aB a
    | (refine am (wpAny_load c ?_);rw[hc,hd];show av M A (if (["enumerate", "zip", "dict_itemiterator", "dict_reverseitemiterator", "odict_iterator", "itertools.zip_longest", "itertools.pairwise"].contains n&&vs[0]? == U (ū _))=true then _ else _) Q E s;rw[Æ (by intro h;rw[hn,Bool.false_and]at h;cases h)];exact aB a))
def Itl(K:Å)(a:aa):It :=
 (λi H=>X2 λb x=>SqL K H a b/\b[i]? = U x,λi H x c=>c=H/\∀b,SqL K H a b->b[i]? = U x,λi H=>∃b,SqL K H a b/\Œ<=i)
def Itr(lo:Int)(n:Nat):It:=(λi _=>i<n,λi H x H'=>H'=H/\x=.int (lo+i),λi _=>n<=i)
theorem ZoH{P:aw}{w:aF}{K:Å}{M:aK}(a it:aa):Wu P w K M ÏQ [it] it (λi h=>ÈU it a i) where
 mem:=by simp
 obj:=λi h st b f=>by
  have e:b=it:=by simpa using f
  rw[14]
 Ċ:=λi h g st k=>st.at λo e=>k it Ó o e
 item:=by intro X m hw n F i G s J H E I j st q;subst m hw n;obtain N|x|l|r:=q;rw[f5,t,p,O,l];rw[sA,u,Q,R,t.get,r];rw[xK];refine ÏR st p.isList (x:=u) #[ea,Q] λg L T=>?_;have V:#[gL,G,J,H,s,g]:=À4 (t':=Ŧ) (λb o f e=>(T.2 b f).trans e) y A B C D;obtain o|e|c|d:=id L;exact(u,rfl,U5 (s:=#[hN,s,g]) e c d Ì (x,H,V,R,(rfl,λys W=>by rw[ÏS W l];exact r),L,λb f=>(j b f).1))
 done:=by intro X m hw n F i G s J H E I j st q;subst m hw n;rw[g6,N,l,r,q];rw[f5,t,p,O,l];rw[xK];have hl:=t.length;exact ÏT (Át F) st p.isList (by simp;lia) λg Y=>(rfl,À4 (t':=Ŧ) #[e2,b,f,Y] y A B C D)
 self:=#[h0,wpAny_pyIter_listiter]
theorem Zmb{P:aw}{w:aF}{K:Å}{B:aK}(it:aa)(lo:Int)(n:Nat):Wu P w K B ÔE [it] it (λi h=>IsRangeIter h it (lo+(i:Nat)*1) ((n:Int)-(i:Nat)) 1) where
 mem:=by simp
 obj:=λi h st b a=>by
  have e:b=it:=by simpa using a
  subst e;exact(_,st,λv z=>by have C:Data.fields _=Data.cell v:=z;cases C)
 Ċ:=λi h c st k=>k it Ó _ st
 item:=by intro X f hw g j i x s y H E I d st l;rw[oO];have W:=Walks.range (ÿ:=ò) (w:=X.w) (Át j) it lo 1 n;refine W.item i s _ _ l st λv c tk F A kk=>?_;rw[ey,t,F];have G:Inv X x y H { s with Ø:=c,ï:=tk }:=À4 (λb o a e=>kk b o #[ea,a] e) m p q r u;refine(_,rfl,U5 (s:={ s with Ø:=c,ï:=tk }) (n := "range_iterator") A rfl rfl Ì (.int (lo+i),H,G,(t,?_),ć,A,λb a=>(d b a).1));rw[Int.mul_one]
 done:=by intro X f hw g j i x s y H E I d st l;rw[oO];exact wpAny_pyNext_range_end (Át j) st (by have:n<=i:=l;lia) λc J=>(rfl,À4 (t':=Ŧ) #[e2,b,a,J] m p q r u)
 self:=#[h0,wpAny_pyIter_rangeiter]
section
variable {X:Cx} {tg:aK}
def LY(K:Å)(c:TE):TI:=λd H R=>c d H λx b=>∃a,x=.ref a/\(∃xs,SqL K b a xs)/\R ÏQ b
theorem ZrL{l:aK}{f:TE}(hl:PE X l f):PI X tg l (LY X.K f):=by
 rw[r3,g,i];rintro v c ⟨x,j,d,k,m⟩;obtain a|e|⟨xs,n⟩|q:=m;subst e;cases k;obtain its|rv|p|hz:=d.list n;refine b9 p.isList ?_;refine(ÀO,[ÀO],_,_,j,rfl,d.kept (t':=Åa) λb o e=>Qc _ e,ZoH a _,ÃQ,λb r=>?_,q);have e:b=ÀO:=by simpa using r
 rw[o0]
theorem LX{a:ċ}{c:St}{H:Hp}{s:aj}{R:It->Hp->Prop}{E:ø}{lo hi:Int}{t u v:Tok}{tk:Nat}(I:Inv X a c H s)(h1:-(2 ^ 62)<=lo)(h2:lo<2 ^ 62)(f:-(2 ^ 62)<=hi)(g:hi<2 ^ 62)
  (q:R (Itr lo (hi-lo).toNat) H):ô (Åb ÆB) (PIE X a c tg R) E { s with Ø:=γ { cls:=.type "range",Ò:=.fields #[.int lo t,.int hi u,.int 1 v] },ï:=tk }:=by
 refine wpAny_pyIter_range (IsRange.new ..) (small_one h1 h2 f g) ?_;have d:Inv X a c H { s with Ø:=γ { cls:=.type "range",Ò:=.fields #[.int lo t,.int hi u,.int 1 v] },ï:=tk }:=Âw λb o e=>Qc _ e;refine⟨#[75].objs.size,[#[75].objs.size],_,_,H,rfl,
  d.kept (t':=tk) λb o e=>Qc _ e,Zmb _ lo (hi-lo).toNat,?_,λb h=>?_,q⟩
 ·have i:lo+#[g8,0]*1=lo:=by simp
  have j:ÔF-#[g8,0]=be.Range.rangeSize lo hi 1:=by rw[rangeSize_one];split<;>lia
  show IsRangeIter _ _ (lo+#[g8,0]*1) (ÔF-#[g8,0]) 1;rw[i,j];exact Qv _ rfl
 ·have e:b=#[75].objs.size:=by simpa using h
  rw[o0]
def Zvq(a:TA):TI:=λb H R=>a b H λvs c=>∃j:Int,vs=[.int j] /\ -(2 ^ 62)<=j/\j<2 ^ 62/\R (Itr 0 j.toNat) c
def ZvO(a:TA):TI:=λb H R=>a b H λvs c=>X2 λi j:Int=>vs=#[hO,i,j]/\(-(2 ^ 62)<=i/\i<2 ^ 62 /\ -(2 ^ 62)<=j/\j<2 ^ 62)/\R (Itr i (j-i).toNat) c
theorem V0{a:aK}{c:TA}{p pos:Pos}(d:Gl X "range")(hm:ę "range" = af)(ha:PA X [a] c)(hs:#[fi,a]:=by rfl):PI X tg (.Call (.Name "range" p) [a] [] pos) (Zvq c):=by
 rw[eR,f,g,R];refine Call_ (VC I d hm boot_range (Qak (thn #[gd,f,g] ?_) hs rfl));rintro us s1 ⟨vs,H1,i,k,b⟩;obtain j|e|b|l|q:=b;subst e;cases k with
 | Ë r m=>cases m;rw[ey,t,r];exact call_range_1 (LX i Á Á b l #[ea,q])
theorem LW{a b:aK}{f:TA}{p pos:Pos}(k:Gl X "range")(hm:ę "range" = af)(ha:PA X [a,b] f)(hs:ÏU:=by rfl)(g:#[fi,b]:=by rfl) :
  PI X tg (.Call (.Name "range" p) [a,b] [] pos) (ZvO f):=by
 rw[eR,l,m,R];refine Call_ (VC I k hm boot_range (Qak (thn #[gd,l,m] ?_) (by rw[hs,g]) #[zj,g]));rintro us s1 ⟨vs,H1,n,o,c⟩;obtain i|j|e|⟨c,u,v,w⟩|q:=c;subst e;cases o with
 | Ë r d =>
  cases d with
  | Ë x d=>cases d;rw[ey,t,r];rw[ey,t',x];exact call_range_2 (LX n c u v w q)
def ZwX(e:TI)(g:TG)(f:TS):TS:=λD a H=>e a H λJ h=>∃W:Nat->Nat->St->Hp->Prop,(∃m,W 0 m a h)/\∀i m a H,W i m a H ->
 (J.stop i H/\Č a H)\/(J.go i H/\∃N:St->Hp->Prop,#[eZ,c,b,d]/\∀x b,J.yld i H x b->g x a b λj k=>f { D with nx:=N,ct:=N,bk:=Č } j k)
def U4(fp:Ş)(h:aI):À (aa×aN):=fp.filterMap λb=>(Þ b).map λo=>(b,o,)
theorem U3{fp:Ş}{h:aI}{b:aa}{o:aN}(hb:b∈fp)(e:Þ b=U o):(b,o,)∈U4 fp h:=ÔG (b,hb,by rw[e];rfl)
theorem Zoa{fp:Ş}{h:aI}{p:aa×aN}(hp:p∈U4 fp h):p.1∈fp/\Þ p.1=U p.2:=by
 rw[sA,b,a,e,ÔH,hp];cases q:Þ b with
 | none=>rw[q]at e;cases e
 | some o=>rw[q]at e;have c:(b,o,)=p:=Qu e;subst c;exact(a,q)
theorem Inv.pinned{a:ċ}{c:St}{H:Hp}{s:aj}{fp:Ş}(I:Inv X a c H s)(h:#[rM,a,H])(i:∀b∈fp,∃o,ì b=U o/\∀v,Ζ≠.cell v):Inv X (a++U4 fp Ð) c H s :=
 I.pins_of λp j=>(ß j).elim (λz=>ρ p (QF _ z)) λz=>by obtain f|e:=Zoa z;obtain k|l|m|_:=h p.1 f;obtain o|g|d:=i p.1 f;rw[fL,e,g,g];exact(e,k,l,m,d)
theorem Inv.unpinned{a pl:ċ}{b:St}{H:Hp}{s:aj}(I:Inv X (a++pl) b H s):Inv X a b H s:=I.pins_of λp hp=>ρ p (QF _ (Q0 _ hp))
theorem XR{Ļ:aK}{K:ſ}{L:TI}{g:TG}{M:TS}{pos:Pos}(hp:bj Ģ X.A Î ç)(hc:ť)(hi:PI X tg Ļ L)(hg:PG X tg g)(hb:PSs X K M)
  (hs:ÆC:=by intro _;rfl):PS X (.For tg Ļ K [] pos) (ZwX L g M):=by
 rw[eR,p,O,D];refine wpAny_For (thn #[f7,hi,p,O] λv s1 h1=>thn h1 λyh s2 h2=>?_) hs;obtain it|fp|P|J|H2|e|I2|T|lQ|Q|W|⟨m0,w0⟩|q:=h2;subst e;have A:∀ {k:Hp},#[hT,k]->∀b∈fp,Xm X p k b:=λhn b hb=>(hn b hb,(Q b hb).2);refine codeAny_forLoop_any (λn R=>X3 λi t k=>Inv X p t k R/\P i R.heap/\#[hT,k]/\W i n t k) ?_ m0 (0,O,H2,I2,lQ,λb hb=>(Q b hb).1,w0);rintro n S ⟨i,w,z,V,Y,Z,w3⟩;rcases q i n w z w3 with⟨stop,qn⟩|⟨go,N,hN,step⟩
 ·refine bZ hp (thn (T.done X rfl rfl rfl hc i p S w z ç V (A Z) Y stop) ?_);rintro r s4 ⟨B,I4⟩;subst B;exact Æx (w,z,I4,qn)
 ·refine bZ hp (thn (T.item X rfl rfl rfl hc i p S w z ç V (A Z) Y go) ?_);rintro r s4 ⟨u,B,h4⟩;subst B;refine bZ hp (thn h4 ?_);rintro _ s5 ⟨x,H5,I5,r5,y5,C,qZ⟩;have E:=I5.pinned (A qZ) (T.obj _ _ C);refine bZ hp (thn (hg _ s5 w H5 x u _ E r5 (step x H5 y5)) ?_);rintro _ s6 ⟨F,H6,I6,q6⟩;refine bZ hp (thn (hb _ s6 F H6 _ I6 q6) λf G l=>?_);have again:∀ {a:St} {c:Hp},Inv X (p++U4 fp s5.heap) a c G->N a c->∃m,m<n/\X3 λi t k=>Inv X p t k G/\P i G.heap/\#[hT,k]/\W i m t k:=λ{a c} j y=>by obtain m'|hm|w7:=hN a c y;refine(m',hm,i+1,a,c,ÏV,ÈV _ _ _ C λb hb o e=>(j.pin (b,o,) (QF _ (QF _ (U3 hb e)))).1,λb hb=>?_,w7);rw[gA,o,C,hb,j.pin]
  cases f with
  | next=>obtain a|c|j|y:=l;exact again j y
  | Λ=>obtain a|c|j|y:=l;exact again j y
  | brk=>obtain a|c|j|l:=l;exact(a,c,ÏV,l)
  | ret v=>obtain x7|a|c|j|r7|l:=l;exact(x7,a,c,ÏV,r7,l)
universe E
theorem Rq{K:Å}{a:aa}{xs:Ą}{g:TG}{j:TS}{D:XU}{b:St}{H:Hp}(Pv:ÆD)(h0:Pv 0 b H)(hl:∀i b H,i<=Ú->Pv i b H->SqL K H a xs)
  (hs:∀i x b H,xs[i]? = U x->Pv i b H->g x b H λd f=>j { D with nx:=Pv (i+1),ct:=Pv (i+1),bk:=Č } d f) (hd:#[hP,b,Ú]) :
  ∃W:Nat->Nat->St->Hp->Prop,(∃m,W 0 m b H)/\∀i m b H,W i m b H ->
   ((ÏQ).stop i H/\Č b H)\/((ÏQ).go i H/\∃N:St->Hp->Prop,#[eZ,h,c,k]/\∀x c,(ÏQ).yld i H x c->g x b c λd f=>j { D with nx:=N,ct:=N,bk:=Č } d f):=by
 refine ÔI;rintro i m b H ⟨rfl,n,p⟩;have q:=hl i b H n p;by_cases l:i<Ú
 ·refine .inr ((xs,xs[i],q,by simp[l]),Pv (i+1),λh c o=>(Ú-(i+1),by lia,rfl,l,o),λx c y=>?_);rw[el,e,y,y];subst e;exact hs i x b _ (y xs q) p
 ·have e:i=Ú:=by lia
  subst e;exact .inl ((xs,q,Qj _),hd b H p)
theorem Ui{lo:Int}{n:Nat}{g:TG}{j:TS}{D:XU}{a:St}{H:Hp}(Pv:ÆD)(h0:Pv 0 a H)
  (hs:∀i a H,i<n->Pv i a H->g (.int (lo+i)) a H λc d=>j { D with nx:=Pv (i+1),ct:=Pv (i+1),bk:=Č } c d) (hd:#[hP,a,n]) :
  ∃W:Nat->Nat->St->Hp->Prop,ËI/\∀i m a H,W i m a H ->
   ((ÔE).stop i H/\Č a H)\/((ÔE).go i H/\∃N:St->Hp->Prop,#[eZ,f,b,k]/\∀x b,(ÔE).yld i H x b->g x a b λc d=>j { D with nx:=N,ct:=N,bk:=Č } c d):=by
 rw[eA,n];by_cases h:i<n
 ·refine .inr (h,Pv (i+1),λf b l=>(n-(i+1),by lia,rfl,h,l),λx b y=>?_);rw[el,e,y,y];subst e y;exact hs i a _ h p
 ·have e:i=n:=by lia
  subst e;exact .inl (Qj _,hd a H p)
abbrev R2:=ÈQ
def OpR(X:Cx)(f:ÈW)(r:R2):Prop :=
 ∀ (a:À (aa×aN)) (s:aj) (b:St) (H:Hp) (x y:V) (v u:ae) (Q:VK),Inv X a b H s->ZJ x v->ZJ y u->r x y H Q ->
  ô (f v u) ÃN ç s
def UnR(X:Cx)(f:ae->Sem ae)(r:ÏW):Prop :=
 ∀ (a:À (aa×aN)) (s:aj) (b:St) (H:Hp) (x:V) (v:ae) (Q:VK),Inv X a b H s->ZJ x v->r x H Q ->
  ô (f v) ÃN ç s
def YN(X:Cx)(f:ae)(r:À V->Hp->VK->Prop):Prop :=
 ∀ (a:À (aa×aN)) (s:aj) (b:St) (H:Hp) (c:À V) (d:À ae) (Q:VK),Inv X a b H s->ZH c d->r c H Q ->
  ô (ŧ f d) ÃN ç s
def tOp(r:R2)(b c:TE):TE:=λa H Q=>b a H λx d=>c a d λy e=>r x y e Q
def tUn(r:ÏW)(a:TE):TE:=λb H Q=>a b H λx c=>r x c Q
inductive RI2 (x y:V) (B:ËJ):Prop where
 | mk (i j:Int) (a:x=.int i) (b:y=.int j) (q:B i j)
inductive RI3 (x y:V) (C B:ËJ):Prop where
 | mk (i j:Int) (a:x=.int i) (b:y=.int j) (c:C i j) (q:B i j)
def rI(C:ËJ)(g:Int->Int->V):R2:=λx y H Q=>RI3 x y C (λi j=>Q (g i j) H)
def rI0(g:Int->Int->V):R2:=λx y H Q=>RI2 x y (λi j=>Q (g i j) H)
def rU(g:Int->V):V->Hp->VK->Prop:=λx H Q=>EA (λi=>x=.int i) (λi=>Q (g i) H)
section
variable {X:Cx} {a b c:aK} {ta tb tc:TE} {pos:Pos}
theorem Rp(ha:Ár)(hb:ÃL){e:ċ}{s:aj}{c:St}{H:Hp}{R:V->V->Hp->Prop}(I:Inv X e c H s)
  (h:ta c H λx i=>tb c i λy d=>R x y d) {Q:ø} {f:ÈW}
  (j:∀v u g x y d,Inv X e c d g->ZJ x v->ZJ y u->R x y d->ô (f v u) Q ç g) :
  ô #[fB,a] (λv k=>ô #[fB,b] (λu l=>ô (f v u) Q ç l) ç k) ç s:=by
 refine thn #[f7,ha,e,c] ?_;rintro v m ⟨x,i,n,o,p⟩;refine thn (hb e m c i _ n p) ?_;rintro u g ⟨y,d,q,r,t⟩;exact j v u g x y d q o r t
theorem ZM{op:ÈR}{r:R2}(c:OpR X (Â5 op) r)(ha:Ár)(hb:ÃL):PE X (.BinOp a op b pos) ËK:=by intro d s e H Q I h;exact wpAny_BinOp ÔJ
theorem Uh{op:UnaryOp}{r:ÏW}(d:UnR X (unaryOp op) r)(ha:Ár):PE X (.UnaryOp op a pos) (tUn r ta):=by intro b s c H Q I h;exact UnaryOp_ (thn #[f7,ha,b,c] λv e ⟨x,f,g,i,j⟩=>d b e c f x v Q g i j)
theorem opI{f:ÈW}{C:ËJ}{g:Int->Int->Int}
  (rule:∀ (i j:Int) (t u:Tok) (s:aj) (Q:ae->aj->Prop) (E:ae->aj->Prop),C i j->Q (.int (g i j) ŋ) { s with ï:=ŋ+1 }->ô ÏX Q E s) :
  OpR X f (rI C λi j=>.int (g i j)):=by
 rw[cq];obtain i|j|rfl|rfl|c|q:=h;rw[ey,t,a];rw[ey,d,b];exact rule i j t d s _ _ c ÔK
theorem LV{f:ÈW}{g:Int->Int->Int}
  (rule:∀ (i j:Int) (t u:Tok) (s:aj) (Q:ae->aj->Prop) (E:ae->aj->Prop),Q (.int (g i j) ŋ) { s with ï:=ŋ+1 }->ô ÏX Q E s) :
  OpR X f (rI0 λi j=>.int (g i j)):=by
 rw[kP];exact rule i j t c s _ _ ÔK
theorem SY{f:ÈW}{g:Int->Int->Ñ}
  (rule:∀ (i j:Int) (t u:Tok) (s:aj) (Q:ae->aj->Prop) (E:ae->aj->Prop),Q (.bool (g i j)) s->ô ÏX Q E s) :
  OpR X f (rI0 λi j=>.bl (g i j)):=by
 rw[kP];exact rule i j t c s _ _ (.bl (g i j),H,I,rfl,q)
def Zw6(i j:Int):Prop:=0<j/\j<1073741824
def LU(i j:Int):Prop:=0<=j/\j<=1000000/\i.natAbs<2 ^ 64
def SX(i j:Int):Prop:=(-(2 ^ 64)<i/\i<2 ^ 64)\/(-(2 ^ 64)<j/\j<2 ^ 64)
theorem SX.ok{i j:Int}(h:SX i j):IntMulOk i j:=by
 rcases h with⟨a,b⟩|⟨a,b⟩
 ·exact .of_left (intBits_le_64 a b)
 ·exact .of_right (intBits_le_64 a b)
theorem Yf:OpR X ÏY (rI0 λi j=>.int (i+j)):=#[id,LV,add_int]
theorem U2:OpR X (Â5 .Sub) (rI0 λi j=>.int (i-j)):=#[id,LV,sub_int]
theorem VZ:OpR X (Â5 .Mult) (rI SX λi j=>.int (i*j)):=opI λ_ _ _ _ _ _ _ hc q=>mul_int q hc.ok
theorem Ro:OpR X (Â5 .FloorDiv) (rI Zw6 λi j=>.int (i / j)):=opI λi j _ _ _ _ _ hc q=>by have h1:(0:Int)<j:=hc.1;have h2:j<1073741824:=hc.2;exact floordiv_int Á (by rw[Int.fdiv_eq_ediv_of_nonneg i Á];exact q) (.inl (PyProof.noPylong_small Á))
theorem U1:OpR X (Â5 .Mod) (rI (λ_ j=>0<j) λi j=>.int (i % j)):=opI λi j _ _ _ _ _ hc q=>by have h1:(0:Int)<j:=hc;exact mod_int' Á (by rw[Int.fmod_eq_emod_of_nonneg i Á];exact q)
theorem Zu9:OpR X (Â5 .Pow) (rI LU λi j=>.int (i ^ j.toNat)):=opI λ_ _ _ _ _ _ _ hc q=>pow_int_small hc.1 hc.2.1 hc.2.2 q
theorem unI{f:ae->Sem ae}{g:Int->Int}
  (rule:∀ (i:Int) (t:Tok) (s:aj) (Q:ae->aj->Prop) (E:ae->aj->Prop),Q (.int (g i) ŋ) { s with ï:=ŋ+1 }->ô (f (.int i t)) Q E s) :
  UnR X f (rU λi=>.int (g i)):=by
 intro ai s σ H x v Q I a h;obtain i|rfl|q:=h;rw[ey,t,a];exact rule i t s _ _ (.int (g i),H,ř _,ü,q)
theorem Ug:UnR X (unaryOp .USub) (rU λi=>.int (-i)):=unI λ_ _ _ _ _ q=>neg_int q
universe E
def LS:V->V->Ñ
 | .non,.non=>true|.non,.int _=>true|.int _,.non=>true|.non,.bl _=>true|.bl _,.non=>true|.non,.str _=>true|.str _,.non=>true
 | .int _,.int _=>true|.bl _,.bl _=>true|.str _,.str _=>true|.byt _,.byt _=>true
 | .int _,.str _=>true|.str _,.int _=>true|.bl _,.str _=>true|.str _,.bl _=>true
 | _,_=>false
def rEq:R2:=λx y H Q=>LS x y=true/\Q (.bl (decide (x=y))) H
def rNe:R2:=λx y H Q=>LS x y=true/\Q (.bl (!decide (x=y))) H
theorem LR{i j:Int}:decide (í i=í j)=(i == j):=by rw[QaN];simp
theorem LQ{i j:Ñ}:decide (V.bl i=V.bl j)=(i == j):=by rw[QaN];simp
theorem LO{i j:ah}:decide (Ä i=Ä j)=(i == j):=by rw[QaN];simp
theorem LN{i j:ĉ UInt8}:decide (V.byt i=V.byt j)=(i.toList == j.toList):=by rw[QaN];cases i;cases j;simp
section
variable {X:Cx} {a b c:aK} {ta tb tc:TE} {pos:Pos}
theorem ZV{a:ċ}{b:St}{H:Hp}{s:aj}{Q:VK}{k k':Ñ}(I:ÈM)(q:Q (.bl k) H)(e:k=k'):EP X a b Q (.bool k') s:=by subst e;exact#[hM,k,q]
theorem YI:OpR X (aS .Eq) rEq:=by
 rw[hC,d,a];rw[el,c,q,h];cases x with
 | non =>
  cases d;cases y with
  | non=>cases a;exact PySem.EqNone.eq_none_none Ũ
  | bl j=>cases a;exact PySem.EqNone.eq_none_bool Ũ
  | int j=>obtain b|rfl:=a;exact PySem.EqNone.eq_none_int Ũ
  | str j=>obtain b|rfl:=a;exact PySem.EqNone.eq_none_str Ũ
  | _=>exact Áu
 | bl i =>
  cases d;cases y with
  | non=>cases a;exact PySem.EqNone.eq_bool_none Ũ
  | bl j=>cases a;exact eq_bool (ZV I q LQ)
  | str j=>obtain b|rfl:=a;exact PySem.EqMixed.eq_bool_str Ũ
  | _=>exact Áu
 | int i =>
  rw[w5];cases y with
  | non=>cases a;exact PySem.EqNone.eq_int_none Ũ
  | int j=>obtain b|rfl:=a;exact eq_int (ZV I q LR)
  | str j=>obtain b|rfl:=a;exact PySem.EqMixed.eq_int_str Ũ
  | _=>exact Áu
 | str i =>
  rw[w5];cases y with
  | non=>cases a;exact PySem.EqNone.eq_str_none Ũ
  | bl j=>cases a;exact PySem.EqMixed.eq_str_bool Ũ
  | int j=>obtain b|rfl:=a;exact PySem.EqMixed.eq_str_int Ũ
  | str j=>obtain b|rfl:=a;exact eq_str (ZV I q LO)
  | _=>exact Áu
 | byt i =>
  rw[w5];cases y with
  | byt j=>obtain b|rfl:=a;exact PySem.W.eq_bytes (ZV I q LN)
  | _=>exact Áu
 | _=>cases y<;>exact Áu
theorem WQ:OpR X (aS .NotEq) rNe:=by
 rw[hC,d,a];rw[el,c,q,h];cases x with
 | non =>
  cases d;cases y with
  | non=>cases a;exact PySem.EqNone.ne_none_none Ũ
  | bl j=>cases a;exact PySem.EqNone.ne_none_bool Ũ
  | int j=>obtain b|rfl:=a;exact PySem.EqNone.ne_none_int Ũ
  | str j=>obtain b|rfl:=a;exact PySem.EqNone.ne_none_str Ũ
  | _=>exact Áu
 | bl i =>
  cases d;cases y with
  | non=>cases a;exact PySem.EqNone.ne_bool_none Ũ
  | bl j=>cases a;exact ne_bool #[rz,LQ]
  | str j=>obtain b|rfl:=a;exact PySem.EqMixed.ne_bool_str Ũ
  | _=>exact Áu
 | int i =>
  rw[w5];cases y with
  | non=>cases a;exact PySem.EqNone.ne_int_none Ũ
  | int j=>obtain b|rfl:=a;exact ne_int #[rz,LR]
  | str j=>obtain b|rfl:=a;exact PySem.EqMixed.ne_int_str Ũ
  | _=>exact Áu
 | str i =>
  rw[w5];cases y with
  | non=>cases a;exact PySem.EqNone.ne_str_none Ũ
  | bl j=>cases a;exact PySem.EqMixed.ne_str_bool Ũ
  | int j=>obtain b|rfl:=a;exact PySem.EqMixed.ne_str_int Ũ
  | str j=>obtain b|rfl:=a;exact ne_str #[rz,LO]
  | _=>exact Áu
 | byt i =>
  rw[w5];cases y with
  | byt j=>obtain b|rfl:=a;exact PySem.W.ne_bytes #[rz,LN]
  | _=>exact Áu
 | _=>cases y<;>exact Áu
theorem Xl:OpR X (aS .Lt) (rI0 λi j=>.bl (decide (i<j))):=#[id,SY,lt_int]
theorem VY:OpR X (aS .LtE) (rI0 λi j=>.bl (decide (i<=j))):=#[id,SY,le_int]
theorem Wt:OpR X (aS .Gt) (rI0 λi j=>.bl (decide (j<i))):=#[id,SY,gt_int]
theorem Rm:OpR X (aS .GtE) (rI0 λi j=>.bl (decide (j<=i))):=#[id,SY,ge_int]
theorem Rl:OpR X (aS .Lt) (λx y H Q=>X2 λi j=>x=.str i/\y=.str j/\Q (.bl (decide (i.cps.toList<j.cps.toList))) H):=by intro ai s σ H x y v u Q I a b h;obtain i|j|rfl|rfl|q:=h;obtain t|rfl:=a;obtain t'|rfl:=b;exact lt_str (ZV I q rfl)
theorem Xc:OpR X (aS .Is) (λx y H Q=>y=.non/\Q (.bl (decide (x=.non))) H):=by
 rw[uZ];refine is_none_gen (ZV I q ?_);cases x<;>first
  | (cases a;rfl)
  | (obtain t|rfl:=a;rfl)
theorem SW:OpR X (aS .IsNot) (λx y H Q=>y=.non/\Q (.bl (!decide (x=.non))) H):=by
 rw[uZ];refine isnot_none_gen (ZV I q ?_);cases x<;>first
  | (cases a;rfl)
  | (obtain t|rfl:=a;rfl)
theorem Zq(b:aK){op:CmpOp}(h:op≠.In:=by decide)(h2:op≠.NotIn:=by decide):ÏZ op b=false:=by
 have a:(op == CmpOp.In)=false:=by cases op<;>first|rfl|exact #[y5,h]
 have c:(op == CmpOp.NotIn)=false:=by cases op<;>first|rfl|exact #[y5,h2]
 cases b<;>simp[ÏZ,a,c]
theorem XJ{op:CmpOp}{r:R2}(c:ËL)(ha:Ár)(hb:ÃL)(hm:ÔL):PE X ÔM ËK:=by intro d s e H Q I h;exact wpAny_Compare1 ÔJ hm
def LM(t:TE):TT:=λa H Q=>t a H λx H'=>EA (λk=>x=.bl k) (λk=>Q k H')
theorem Zk{op:CmpOp}{r:R2}(g:ËL)(ha:Ár)(hb:ÃL)(hm:ÔL):PT X ÔM (LM ËK):=by
 rw[eR,d,f,Q];refine wpAny_isTrue_Compare1 (thn #[f7,ha,d,f] λv i ⟨x,j,l,m,n⟩=>thn (hb d i f j _ l n) λu o ⟨y,p,q,t,w⟩=>
  thn (g d o f p x y v u _ q m t w) λc s3 ⟨z,A,B,C,k,e,D⟩=>?_) hm
 subst e;cases C;exact bp (A,B,D)
def LL(r c:R2)(ta tb tc:TE):TE:=λa H Q=>ta a H λx d=>tb a d λy e=>r x y e λz b=>∃k,z=.bl k /\
 (if k=true then tc a b λf g=>c y f g Q else Q (.bl false) b)
theorem Zps{op i:CmpOp}{r j:R2}(p:ËL)(q:OpR X (aS i) j)(ha:Ár)(hb:ÃL)(hc:PE X c tc)
  (hm:ÔN:=by with_unfolding_all rfl):PE X ÔO (LL r j ta tb tc):=by
 rw[eR,f,g,Q];refine Compare_chain (thn #[f7,ha,f,g] λv t ⟨x,w,A,B,C⟩=>chain_link (thn (hb f t g w _ A C) λu D ⟨y,E,F,l,G⟩=>
  thn ÔP λd J ⟨z,m,n,K,k,e,o⟩=>?_)) hm
 subst e;cases K;refine bp ?_;cases k with
 | false=>exact ite_ff (.bl false,m,n,rfl,o)
 | true=>exact ite_tt (chain_last (thn (hc f J g m _ n o) λL M ⟨N,O,P,R,S⟩=>q f M g O y N u L Q P l R S))
theorem Rk{op i:CmpOp}{r j:R2}(p:ËL)(q:OpR X (aS i) j)(ha:Ár)(hb:ÃL)(hc:PE X c tc)
  (hm:ÔN:=by with_unfolding_all rfl):PT X ÔO (LM (LL r j ta tb tc)):=by
 rw[eR,f,g,Q];refine isTrue_chain (thn #[f7,ha,f,g] λv t ⟨x,w,A,B,C⟩=>test_link (thn (hb f t g w _ A C) λu D ⟨y,E,F,l,G⟩=>
  thn ÔP λd J ⟨z,m,n,K,k,e,o⟩=>?_)) hm
 subst e;cases K;refine bp ?_;cases k with
 | false=>obtain k'|L|M:=o;cases L;exact ite_ff (m,n,M)
 | true=>refine ite_tt (test_last (thn (hc f J g m _ n o) λN O ⟨P,R,S,T,V⟩=>thn (q f O g R y P u N _ S l T V) ?_));rintro d' s5 ⟨z2,W,Y,Z,k2,e2,q5⟩;subst e2;cases Z;exact bp (W,Y,q5)
theorem U0:(aq:Nat)<2 ^ 63:=by rw[aP];decide
theorem Uf:OpR X ÏY (λx y H Q=>X2 λi j=>x=.str i/\y=.str j/\ÈX+Åc<=aq/\Q (.str (i++j)) H):=by intro ai s σ H x y v u Q I a b h;obtain i|j|rfl|rfl|c|q:=h;obtain t|rfl:=a;obtain d|rfl:=b;exact add_str (λd tk=>(.str (i++j),H,ř _,ü,q)) c
theorem Xb{x:V}{us:ê}(r:ZH [x] us):∃u,us=[u]/\ZJ x u:=by
 cases r with
 | Ë a b=>cases b;exact(_,rfl,a)
theorem Ue{x y:V}{us:ê}(r:ZH [x,y] us):X2 λu a=>us=[u,a]/\ZJ x u/\ZJ y a:=by
 cases r with
 | Ë b c =>
  cases c with
  | Ë d e=>cases e;exact(_,_,rfl,b,d)
theorem LK:YN X #[fb,"abs"] (λxs H Q=>∃i,xs=[.int i]/\Q (.int ÔQ) H):=by intro ai s σ H xs us Q I r h;obtain i|rfl|q:=h;obtain u|rfl|t|rfl:=Xb r;exact call_abs_int λu tk=>(.int ÔQ,H,ř _,ü,q)
theorem Rj(hc:ť):YN X #[fb,"max"] (λxs H Q=>X2 λi j=>xs=#[hO,i,j]/\Q (.int (if j>i then j else i)) H):=by
 rw[iR];refine max_two_ints Âv λh' tk k=>(_,H,Âw k,?_,q);by_cases a:j>i
 ·rw[rK,a,a];exact ü
 ·rw[iu,a,a];exact ü
theorem LJ(hc:ť):YN X ËM (λxs H Q=>X2 λi j=>xs=#[hO,i,j]/\Q (.int (if j<i then j else i)) H):=by
 rw[iR];refine min_two_ints Âv λh' tk k=>(_,H,Âw k,?_,q);by_cases a:j<i
 ·rw[rK,a,a];exact ü
 ·rw[iu,a,a];exact ü
theorem LI:YN X ÃR (λxs H Q=>(∃i,xs=[.int i]/\Q Ä7 H)\/∃k,xs=[.bl k]/\Q (.int (if k then 1 else 0)) H):=by
 rw[aR];rcases h with⟨i,rfl,q⟩|⟨k,rfl,q⟩
 ·obtain u|rfl|t|rfl:=Xb r;exact call_int_int (.int i,H,I,ü,q)
 ·rw[fw,a];exact call_int_bool (.int (if k then 1 else 0),H,ř _,ü,q)
universe E
structure VA (h:aI) (x dx C:aa) (mA:Ă):Prop where
 obj:Þ x=U (Ä0 C dx)
 ns:h.Ns1 dx mA
 ne:dx≠x
theorem Zn7{h:aI}{dx:aa}{mA:Ă}(n:h.Ns1 dx mA):∃b,Þ dx=U b/\∀name,ËN name b=U (mA name):=by
 obtain o|c|ep|d|hd|f|_|g:=n;refine(o,d,λname=>?_);have e:=g name;unfold nsFind findBy at e;rw[<- Array.find?_toList]at e;unfold ËN;rw[hd];dsimp only;split
 ·rename_i y q;rw[q]at e;exact ŕ U e
 ·rename_i q;rw[q]at e;have a:c.toList.any (·.refKey)=false:=by rw[List.any_eq_false];intro y i;obtain z|t|j:=f y (Array.mem_toList_iff.mp i);simp[DictEntry.refKey,j]
  have k:¬ c.toList.any (·.refKey)=true:=by rw[a];exact Qw
  rw[Æ k];exact ŕ U e
theorem VA.look{h:aI}{x dx C:aa}{mA:Ă}(I:VA h x dx C mA):∃a,PySem.W.InstAt h x (Ä0 C dx) C (U a)/\∀name,ËN name a=U (mA name) :=
 let ⟨a,b,c⟩:=Zn7 I.ns
 (a,(I.obj,rfl,rfl,b),c)
section
variable {ÿ:aw} {w:aF} {A:aD} {E:ae->aj->Prop} {s:aj} {K:Å} {x dx C f:aa} {mA:ah->Ã ae} {name:ah} {v:ae}
theorem Zsn{a:Ñ}{Q:ø}(X:ÈY)(I:Ï0)(b:ÔR)(c:#[e8,C])
  (ha:Ï1) (d:mA name=U v) (e:ÔS v=true) (h:Q v { s with ï:=ŋ+1 }) :
  av à A (getAttr Án name a) Q E s:=by
 rw[g6,od,J,f,I.look];exact PySem.W.get_value X J (ÔT b).1 (PySem.W.findObj_own c ha rfl (by rw[f,d])) e h
theorem ZpD{pl:Sem Ñ}{Q:ae×À ae->aj->Prop}(X:ÈY)(I:Ï0)(a:ÔR)
  (b:Ĳ K æ name=U δ) (ht:Ï2) (c:mA name=af) (h:Q (.ref f,[.ref x],) s) :
  av à A (ÃS Án name pl) Q E s:=by
 rw[g6,d,J,e,I.look];exact PySem.W.method_fn X J #[yn].1 #[yn].2 b (Ï3 ht) (by show (ËN name d).map (·.isSome)=U false;rw[e,c];rfl) h
theorem Zs7{ns:Ê}{Q:ÁT}(X:ÈY)(I:Ï0)
  (hs:#[ge,æ]) (hp:#[rs,C]) (ht:Ï4 K C name=U af) (e:#[e8,C])
  (hw:Èz mA ns) (hsz:ËO)
  (h:∀h',VA h' x dx C Ï5->Æt dx Ð h'->Q () { s with Ø:=h',ï:=ŋ+2 }) :
  av à A (ÈZ Án name v) Q E s:=by
 rw[g6,od,J,hl,I.look];refine PySem.W.set_plain X J hs (PySem.W.osa_open (s:=Ï6) (r:=af) X J hp ht λb=>?_);rw[sA,cd,f,g,PySem.W.any_some,e];have i:ì x=U (.ref C,U dx,.plain,#[]):=I.obj;refine am (aB (am (am (wpAny_loadPart i (am (PySem.W.Looks.here (s:=Ï6) (PySem.W.looks_clsIn X f) ?_))))));rw[g];refine aB (a:=U dx) (am (aB (am ?_)));refine Ï7 (s:=Ï6) I.ns λh' c d=>?_;obtain oD|EG|EH|j|k|l:=c.count (PySem.Within.cons name v hw);refine am (Ï8 j (by rw[k];exact Ï9 (Qk l #[fe,Qq])) ?_);exact aB (h _ ((d.2 _ (Κ I.ne)).trans I.obj,c,I.ne) d)
theorem Zry{R:È0}{vs:ê}{kw:Â6}(X:ÈY)(hm:#[hD,C])
  (hi:#[fk,æ,ą]) (a:PySem.W.typeIn K ą=U (.type "function"))
  (h:bI à (È1 (.builtin "type.__call__" (.ref C::vs,kw))) (.call ą (.ref Α::vs,kw)) (PySem.W.InitBack Α R)
   { s with Ø:=(γ ÆE).push (Ä0 C Ï) }) :
  bI à A (.call æ (vs,kw)) R s:=by
 rw[hm,hh,t,s];exact PySem.W.make_core (PySem.W.makes_of X hm) (QaB X hi) (λself=>ÔU X self a) Ď h
universe E
def Zw(f:ah)(v:V):À ÁX->À ÁX
 | []=>[(f,v,)]
 | (g,x,)::r=>if g=f then (g,v,)::r else (g,x,)::Zw f v r
theorem Zr(f g:ah)(v:V):∀fs:À (ah×V),#[ue].lookup g=if g=f then U v else Åd g
 | []=>by
  show À5 g [(f,v,)]=_;by_cases h:g=f
  ·rw[rS,f];simp only[À5,hb,È h]
  ·rw[hA,f];simp only[À5,hb,Æ h]
 | (k,x,)::r=>by
  have b:=Zr f g v r;rw[99];by_cases a:k=f
  ·rw[È a];by_cases h:g=k
   ·rw[rS,k];simp only[À5,hb,È (h.trans a)]
   ·rw[hA,k];simp only[À5,hb,Æ (λe:g=f=>h (e.trans a.symm))]
  ·rw[Æ a];by_cases h:g=k
   ·rw[rS,k];simp only[À5,hb,Æ (λe:g=f=>a (h.symm.trans e))]
   ·rw[hA,k];simp only[À5,hb];exact b
theorem Ud(f:ah)(v:V):∀fs:À (ah×V),f∈#[ue].map ù/\∀g,g∈fs.map ù->g∈#[ue].map ù
 | []=>(by simp[Zw],λg h=>by simp at h)
 | (k,x,)::r=>by
  obtain i1|i2:=Ud f v r;rw[99];by_cases a:k=f
  ·rw[È a];subst a;exact(by simp,λg h=>by simpa using h)
  ·rw[Æ a];refine(?_,λg h=>?_)
   ·rw[Ql];exact Qm _ i1
   ·rw[Ql]at h ⊢;rcases ħ h with e|e
    ·exact List.mem_cons.mpr (.inl e)
    ·exact Qm _ (i2 g e)
theorem LH(f:ah)(v:V):∀fs:À (ah×V),#[ue].length<=ÃH+1
 | []=>by simp[Zw]
 | (k,x,)::r=>by
  have ih:=LH f v r;rw[99];by_cases a:k=f
  ·rw[È a,Qq,Qq];lia
  ·rw[Æ a,Qq,Qq];lia
theorem È2{v:V}{o:ÃT}(r:Yi (U v) o):∃u,o=U u/\ZJ v u:=by
 cases o with
 | none=>exact#[iU].elim
 | some u=>exact(u,rfl,r)
theorem Yi.none_of{o:ÃT}(r:Yi af o):o=af:=by
 cases o with
 | none=>rfl
 | some u=>exact#[iU].elim
theorem Zo8{v:V}{u:ae}(r:ZJ v u):ÔS u=true:=by
 cases v with
 | non=>cases (show u=ÀK from r);rfl
 | bl b=>cases (show u=ÄX b from r);rfl
 | int i=>obtain t|e:=#[eD,t,ÂY,i,r];cases e;rfl
 | str x=>obtain t|e:=#[eD,t,Ám,x,r];cases e;rfl
 | byt b=>obtain t|e:=#[eD,t,ae.bytes,b,r];cases e;rfl
 | flt b=>obtain t|e:=#[eD,t,Ëo,b,r];cases e;rfl
 | ref a=>cases (show u=è a from r);rfl
 | ty n=>cases (show u=ÂZ n from r);rfl
section
variable {P:aw} {w:aF} {H H':Hp} {h h':aI} {a C dx:aa} {fs tI:À (ah×V)}
theorem Uc(hok:À2)(e:ËP):∃mA,VA h a dx C mA/\#[zf,mA]/\Èz mA Ëp/\ÃH<=1000/\H dx=U ÄZ:=by obtain d|z|ne|b|mA|n|r|q:=(show Y2 P w H h a (.ins C dx fs) from hok a _ e);exact(mA,(b,n,ne),r,q,z,d)
universe E
structure Cls (K:Å) (C:aa):Prop where
 pg:ËQ K C ÁY=true
 hd:Ða K C=true
 po:ÔV K C=true
 sa:Ĳ K æ "__setattr__" = U È3
theorem Cls.get{K:Å}{C:aa}(c:Cls K C)(f:ah):ËQ K C f=true:=c.pg
def Yr(K:Å)(C:aa)(f:ah):Prop:=Ĳ K æ f=U af
theorem Yr.taker{K:Å}{C:aa}{f:ah}(n:Yr K C f):Ï4 K C f=U af:=by unfold Ï4;rw[show Ĳ K æ f=U af from n];rfl
structure Con (K:Å) (C:aa) (f:ah) (v:V) (u:ae):Prop where
 at_:Ĳ K æ f=U (U u)
 rel:ZJ v u
 get:È4 K u "__get__" = U af
 cp:PySem.W.copiedNames.contains f=false
structure UZ (K:Å) (C:aa) (m:ah) (f:aa):Prop where
 at_:Ĳ K æ m=U δ
 fn:Åe K ą=true
 kp:À6 K ą=true
section
variable {X:Cx} {ai:À (aa×aN)} {σ:St} {H:Hp} {s:aj} {a C dx:aa} {fs:À (ah×V)} {f:ah} {v:V} {A:aD} {E:ae->aj->Prop}
theorem LG{b:Ñ}{Q:ø}(I:å)(e:ËP)(c:ÃU)(n:ÆF)(l:Åd f=U v)
  (h:#[yU,u,H]):av Ģ A (getAttr Ĩ f b) Q E s:=by
 obtain g|O|r|_|_|_:=Uc é e;obtain u|i|d:=È2 (v:=v) (o:=g f) (by rw[<- l];exact r f);exact Zsn Ě O (c.get f) c.hd n i (Zo8 d) (h u _ Åf d)
theorem Ri{m:ah}{g:aa}{pl:Sem Ñ}{Q:ae×À ae->aj->Prop}(I:å)(e:ËP)(c:ÃU)(k:UZ X.K C m g)(l:Åd m=af)
  (h:Q (.ref g,ÁZ,) s):av Ģ A (ÃS Ĩ m pl) Q E s:=by
 obtain b|O|r|_|_|_:=Uc é e;have d:b m=af:=Yi.none_of (by rw[<- l];exact r m);exact ZpD Ě O (c.get m) k.at_ k.fn d h
theorem LF{y:V}{u:ae}{Q:ÁT}(I:å)(e:ËP)(c:ÃU)(n:ÆF)(hl:ÃH<1000)(l:ZJ y u)
  (h:∀s',Inv X ai σ (upd H a (.ins C dx Ðb)) s'->Q () s'):av Ģ A (ÈZ Ĩ f u) Q E s:=by
 obtain i|O|r|j|_|k:=Uc é e;have m:(Ëp).length<=aq:=by rw[Qa,aP];lia
 refine Zs7 Ě O c.sa c.po n.taker c.hd j m λp d t=>h _ ?_;have hd:∃o,p.get? dx=U o:=let ⟨o,_,_,v,_⟩:=d.ns;(o,v);refine Åg (x:=a) (e:=dx) È5 (.inr k) (λb q w z=>(t.2 b w).trans z) hd ?_;refine(by rw[Zf O.ne];exact k,?_,O.ne,d.obj,_,d.ns,λg=>?_,λg B=>?_)
 ·have:=LH f y fs;lia
 ·show Yi ((Ðb).lookup g) (if g=f then U u else i g);rw[Zr];by_cases q:g=f
  ·rw[rK,q,q];exact l
  ·rw[iu,q,q];exact r g
 ·by_cases q:g=f
  ·rw[q];exact#[yl].1
  ·refine#[yl].2 g (j g λz=>B ?_);show (if g=f then U u else i g)=af;rw[Æ q];exact z
theorem Inv.made(I:å):Inv X ai σ #[eJ,H,Ï,Α,C]
  { s with Ø:=(γ ÆE).push (Ä0 C Ï) }:=by
 have c:(ÛX).get? Ï=U ÆE:=Qv Ð rfl;have d:((ÛX).push ÔW).get? Α=U ÔW:=by have:=Qv ÛX (o:=Ä0 C Ï) rfl;rwa [Q3]at this
 have f:(ÛX).Ns Ï (λ_=>af):=(ÆE,#[],_,c,rfl,(λe g=>Ç g Ó),λ_=>rfl);have h:=À7 (a:=ËR) (o:=.own Α) (h':=γ ÆE) (t':=Ŧ) #[ik,b,u,q] î (_,c);refine h.laid (a:=Ï+1) (o:=.ins C Ï []) (t':=Ŧ) #[ik,b,u,q] (È6 (Q3 _ _)) ?_;have ne:Ï≠Ï+1:=QB (Qbs _);refine(by rw[Zf ne,Zb],Qt _,ne,d,λ_=>af,(ÔX f).at λo q=>Qc _ q,λ_=>Μ,λy i=>Ç rfl i)
theorem Zr8{ÿ:aw}{w:aF}{env:Env}{e:aK}{f:ah}{pos:Pos}{s:aj}{Q:ø}(hb:bB e f env (ă e env)=ă e env)
  (h:av à A (ă e env) (λo a=>av à A (getAttr o f true) Q E a) E s):av à A (ă Ðc env) Q E s :=
 Attribute_any_ h (by rw[arm_eval_Attribute,hb])
universe E
inductive ZwB (K:Å) (f:ah) (x:V) (H:Hp) (B:V->Prop):Prop where
 | mk (a C dx:aa) (fs:À (ah×V)) (v:V) (e:x=.ref a) (g:H a=U (.ins C dx fs)) (c:Cls K C) (n:Yr K C f) (l:Åd f=U v) (q:B v)
def LD(K:Å)(b:TE)(f:ah):TE:=λc H Q=>b c H λx a=>ZwB K f x a (λv=>Q v a)
inductive RSF (K:Å) (f:ah) (x:V) (H:Hp) (B:aa->HO->Prop) (y:V):Prop where
 | mk (a C dx:aa) (fs:À (ah×V)) (e:x=.ref a) (g:H a=U (.ins C dx fs)) (c:Cls K C) (n:Yr K C f) (l:ÃH<1000) (q:B a (.ins C dx (Zw f y fs)))
def ZwT(K:Å)(d e:TE)(f:ah):TS:=λD b H=>e b H λy g=>d b g λx c=>RSF K f x c (λa o=>Č b (upd c a o)) y
def LC(X:Cx)(op:ÈR)(rd:ÈQ):Prop :=
 ∀ (a:À (aa×aN)) (s:aj) (b:St) (H:Hp) (x y:V) (u v:ae) (Q:VK),Inv X a b H s->ZJ x u->ZJ y v->rd x y H Q->ô (ÏL op u v) ÃN ç s
def ZrN(K:Å)(h i:TE)(rd:ÈQ)(f:ah):TS:=λD b H=>h b H λx d=>X5 λa C dx fs v=>x=.ref a/\d a=U (.ins C dx fs)/\Cls K C/\Yr K C f/\Åd f=U v /\
 i b d λy j=>rd v y j λz e=>X2 λg c=>e a=U (.ins C g c)/\Ņ<1000/\Č b (upd e a (.ins C g (Zw f z c)))
section
variable {X:Cx} {o e ς:aK} {f:ah} {pos cZ eU:Pos} {ta tv:TE}
theorem ZE(he:PE X e ta)(hb:#[fC,e,f]):PE X Ðc (LD X.K ta f):=by intro b s d H Q I h;refine Zr8 hb #[ek,he,b,d];rintro u s1 ⟨x,g,i,j,a,C,dx,fs,v,ex,k,c,n,l,q⟩;subst ex;obtain rfl:u=è a:=j;exact LG i k c n l λu' s2 m o=>(v,g,m,o,q)
theorem XQ(ha:Â7)(e:ËS)(hs:Ðd):PS X Ðe (ZwT X.K ta tv f):=by intro d s b H D I h;refine Ðf #[fM,e,d,q] hs;rintro m s2 ⟨x,H2,p,r,a,C,dx,fs,ex,t,c,n,l,v⟩;subst ex;obtain rfl:m=è a:=r;exact LF p t c n l k λs3 w=>(b,_,w,v)
theorem Vz{op:ÈR}{rd:ÈQ}(ha:Â7)(g:ËS)(d:LC X op rd):PS X (.AugAssign #[y6,f,eU] op ς pos) (ZrN X.K ta tv rd f):=by intro e s b H D I h;refine wpAny_AugAssign_AttributeAny #[ek,ha,e,b];rintro i s1 ⟨x,j,k,m,a,C,dx,fs,v,ex,p,c,n,l,q⟩;subst ex;obtain rfl:i=è a:=m;refine LG k p c n l λu r t w=>thn (g e r b j _ t q) λA B ⟨y,E,F,G,J⟩=>thn (d e B b E v y u A _ F w G J) ?_;rintro w4 s4 ⟨z,H3,K,L,uV,tI,M,N,O⟩;exact LF K M c n N L λs5 P=>(b,_,P,O)
def ZwW:V->V->Hp->VK->Prop:=λx y H Q=>RI2 x y (λi j=>Q (.int (i+j)) H)
theorem Ub:LC X .Add ZwW:=by rintro ai s σ H x y u v Q I b c ⟨i,j,rfl,rfl,q⟩;obtain t|rfl:=#[eD,t,ÂY,i,b];obtain a|rfl:=(show ∃a,v=ÂY j a from c);exact PyProof.Rows.iadd_int (.int (i+j),H,ř _,ü,q)
universe E
section
variable {X:Cx} {ai:À (aa×aN)} {σ:St} {H:Hp} {s:aj} {A:aD} {E:ae->aj->Prop} {Q:ae->aj->Prop} {c:ae} {b:Ñ}
inductive Xa (K:Å) (H:Hp):V->ae->Prop where
 | non:Xa K H .non (.type "NoneType")
 | bl (x:Ñ):Xa K H (.bl x) (.type "bool")
 | int (i:Int):Xa K H (.int i) (.type "int")
 | str (x:ah):Xa K H (.str x) (.type "str")
 | flt (x:UInt64):Xa K H (.flt x) (.type "float")
 | lst {a:aa} {xs:À V} (e:H a=U (.lst xs)):Xa K H (.ref a) (.type "list")
 | frz {a:aa} {o:aN} {xs:À V} (e:H a=U (.frz o (.lst xs))):Xa K H (.ref a) (.type "list")
 | tup {a:aa} {xs:À V} (e:H a=U (.tup xs)):Xa K H (.ref a) (.type "tuple")
 | dK {a:aa} {kvs:À (Key×V)} (e:H a=U (.dK kvs)):Xa K H (.ref a) (.type "dict")
 | dT {a:aa} {kvs:À (À Key×V)} (e:H a=U (.dT kvs)):Xa K H (.ref a) (.type "dict")
 | ins {a C dx:aa} {fs:À (ah×V)} (e:H a=U (.ins C dx fs)) (cl:Cls K C) (ha:Ĳ K (.ref C) "__class__" = U (U (.builtin "object.__class__")))
   (hn:ÔY) (fH:ÔZ)
   (hm:#[gu,C]):Xa K H Ĩ æ
theorem Zol{x:V}{u t:ae}(I:å)(d:ZJ x u)(ty:Xa X.K H x t)(e:ē X.K t c=U b)(h:∀tk,Q (.bool b) { s with ï:=tk }) :
  av Ģ A (ŧ È7 [u,c]) Q E s:=by
 cases ty with
 | non=>cases (show u=ÀK from d);rw[hb,Ô0]
 | bl y=>cases (show u=ÄX y from d);rw[hb,Ô1]
 | int i=>obtain t|q:=Ðg;cases q;rw[hb,Ô2]
 | str y=>obtain t|q:=#[eD,t,Ám,y,d];cases q;rw[hb,Ô3]
 | flt y=>obtain t|q:=#[eD,t,Ëo,y,d];cases q;rw[hb,Ô4]
 | @lst a k f=>cases (show u=è a from d);obtain _|_|n|_|g:=(show Y2 ò X.w H Ð a (.lst k) from é a _ f);exact Ô5
 | @frz a r k f=>cases (show u=è a from d);obtain _|_|_|n|_|g:=(show Y2 ò X.w H Ð a (.frz r (.lst k)) from é a _ f);exact Ô5
 | @tup a k f=>cases (show u=è a from d);obtain _|_|_|p:=(show Y2 ò X.w H Ð a (.tup k) from é a _ f);obtain o|g|l|_:=p;exact Q8 Ô6 Ě (o,g,l) e τ h
 | @dK a j f=>cases (show u=è a from d);obtain _|_|vs|_|p:=#[g4,a,j,f];obtain o|v|w|g|l|_:=p;exact Ô7
 | @dT a j f=>cases (show u=è a from d);obtain _|_|k|_|o|v|w|g|l|_:=(show Y2 ò X.w H Ð a (.dT j) from é a _ f);exact Ô7
 | @ins a C dx fs f m B D F G=>cases (show u=è a from d);obtain mA|O|_:=Uc é f;obtain od|J|_:=O.look;exact Q8 (Ô8 (m.get _) m.hd B D F G) Ě J e τ h
universe E
structure Zt (k:Nat) (A:aD):Prop where
 hd:A.handled=af
 dp:ËT+3*k+5<recursionLimit
 un:Á0+16*k+200<Âz
 gd:A.guards=U []
theorem Zt.mono{j k:Nat}{A:aD}(r:Zt k A)(h:j<=k):Zt j A:=(r.hd,by have:=r.dp;lia,by have:=r.un;lia,r.gd)
theorem Zt.deeper{k:Nat}{A:aD}(r:Zt (k+1) A)(env:Env):Zt k (ÆG env) :=
 (r.hd,by have:=r.dp;show ËT+1+3*k+5<_;lia,by have:=r.un;show Á0+3+16*k+200<_;lia,r.gd)
theorem ZmA{A:aD}{C:aa}{us:ê}{kw:Â6}:(Ô9).depth=ËT+1:=by first|rfl|simp[ËU,Code.weight,Code.isCreation,Code.isGuard,Code.isCaller,Ðh,ËV,guardIds]
theorem Zmx{A:aD}{C:aa}{us:ê}{kw:Â6}:(Ô9).units=Á0+1:=by first|rfl|simp[ËU,Code.cUnits,Ðh,ËV]
theorem Zt.make{k:Nat}{A:aD}(r:Zt (k+1) A)(C:aa)(us:ê)(kw:Â6):Zt k Ô9 :=
 (r.hd,by have:=r.dp;rw[ZmA];lia,by have:=r.un;rw[Zmx];lia,by rw[show (È1 Õa).guards=A.guards from by first|rfl|simp[ËU,pushGuards,Code.guards,Code.isGuard,guardIds]];exact r.gd)
theorem Zt.depth{k:Nat}{A:aD}(r:Zt k A):ËT<recursionLimit:=by have:=r.dp;lia
theorem Zt.units{k:Nat}{A:aD}(r:Zt k A):Á0+64<Âz:=by have:=r.un;lia
def Vy:TA:=λ_ H Q=>Q [] H
def Zvn(b:TE)(c:TA):TA:=λa H Q=>b a H λx d=>c a d λxs e=>Q (x::xs) e
section
variable {X:Cx} {e:aK} {es:À aK} {te:TE} {t:TA} {pos:Pos}
theorem Zd:PA X [] Vy:=λ_ _ _ _ H Q I h=>Õb ([],H,I,.nil,h)
theorem Za(ha:Ä9)(hr:PA X es t)(hs:Ν:=by rfl):PA X (e::es) (Zvn te t):=by intro pos a s b H Q I h;rw[hs];show av _ _ (spliced (#[fh,e]::bg pos (aE es Î))) _ _ s;refine ËW #[ek,ha,a,b];rintro u c ⟨x,d,f,g,i⟩;exact thn (hr pos a c b d _ f i) λus s2 ⟨j,k,l,m,n⟩=>(x::j,k,l,.cons g m,n)
def Zw3(t:TA):TE:=λb H Q=>t b H λxs a=>Ú<=aq/\∀p,a p=af->Q ş (upd a p ÁR)
def ZwH(t:TA):TE:=λb H Q=>t b H λxs a=>Ú<=aq/\∀p,a p=af->Q ş #[hU,a,p,xs]
theorem Yq{f}(h:PA X es t):PE X (.Tuple es f pos) (Zw3 t):=by intro g s i H Q I j;refine wpAny_Tuple_spliced (thn (h pos g s i H _ I j) λk a ⟨l,c,d,r,z,q⟩=>(by rw[<- Áv];exact z,?_));have m:c υ=af:=È8 î;refine(.ref υ,upd c υ (.tup l),d.laid (t':=ÆH) #[ik,b,u,e] î ?_,rfl,q _ m);exact(z,k,r,(_,Qv _ rfl,rfl,_,rfl))
theorem ZW(h:PA X es t):PE X (.List es pos) (ZwH t):=by intro f s g H Q I i;refine wpAny_List_spliced (thn (h pos f s g H _ I i) λj a ⟨k,c,d,r,z,q⟩=>(by rw[<- Áv];exact z,?_));have l:c υ=af:=È8 î;refine(.ref υ,upd c υ (.lst k),d.laid (t':=ÆH) #[ik,b,u,e] î ?_,rfl,q _ l);exact(z,j,0,r,Qv _ rfl)
universe E
abbrev Sp:=À V->Hp->VK->XK->Prop
abbrev CXT:=À Env->Hp->aj->XK->ae->aj->Prop
structure Vx (P:aw) (w:aF) (K:Å) (mg:Ă) (Â:aI) (A:aD) (Û:ÁS) (s:aj) (H:Hp):Prop where
 frames:A.frames=U Û
 mod:Mod K mg Â
 bs:∀b o,base.get? b=U o->ì b=U o/\H b=af
 bsz:base.objs.size<=Ï
 funs:Æq Â Û
 frf:∀b∈frs Û,H b=af
 hok:HOk P w H Ð
 bare:Â1 Æn
def CE(Û:ÁS)(P:aw)(w:aF)(H:Hp)(s:aj)(Q:VK)(u:ae)(s':aj):Prop :=
 X2 λv a=>s'.os=s.os/\Â1 s'.gens/\Un (frs Û) [] H a Ð À3/\HOk P w a À3/\ZJ v u/\Q v a
def CR(CX:CXT)(Û:ÁS)(P:aw)(w:aF)(H:Hp)(s:aj)(Q:VK)(E:XK)(r:È9)(s':aj):Prop :=
 match r with
 | .ok (.ret u)=>CE Û P w H s Q u s'
 | .ok _=>Ē
 | .error e=>CX Û H s E e s'
structure YU (P:aw) (w:aF) (K:Å) (mg:Ă) (Â:aI) (CX:CXT) (k:Nat) (f:aa) (fd:bx) (ps:Ê) (sp:Sp):Prop where
 len:∀vs H Q E,sp vs H Q E->ÃV=Àu
 run:∀ (A:aD) (Û:À Env) (s:aj) (H:Hp) (args:Args) (us:À ae) (vs:À V) (Q:VK) (E:XK),Zt k A->Vx P w K mg Â A Û s H->ÆI s fd args ÆJ->ZH vs us->sp vs H Q E ->
  bI ÃO A (.call ą args) (CR CX Û P w H s Q E) s
theorem YU.mono{P:aw}{w:aF}{K:Å}{mg:Ă}{Â:aI}{CX:CXT}{j k:Nat}{f:aa}{a:bx}{ps:Ê}{sp:Sp}(F:YU P w K mg Â CX j f a ps sp)(h:j<=k) :
  YU P w K mg Â CX k f a ps sp:=(F.len,λA Û s H args us vs Q E hr=>F.run A Û s H args us vs Q E (ÃW h))
theorem YU.imp{P:aw}{w:aF}{K:Å}{mg:Ă}{Â:aI}{CX:CXT}{k:Nat}{f:aa}{b:bx}{ps:Ê}{sp c:Sp}(F:YU P w K mg Â CX k f b ps sp)
  (h:∀vs H Q E,c vs H Q E->sp vs H Q E):YU P w K mg Â CX k f b ps c :=
 (λvs H Q E q=>F.len vs H Q E (h _ _ _ _ q),λA a s H args d vs Q E e g i j l=>F.run A a s H args d vs Q E e g i j (h _ _ _ _ l))
theorem Vx.make{P:aw}{w:aF}{K:Å}{mg:Ă}{Â:aI}{A:aD}{Û:ÁS}{s:aj}{H:Hp}(e:Õc)(C:aa)(us:ê)(kw:Â6) :
  Vx P w K mg Â Ô9 Û s H:=(by first|exact e.frames|(simpa [ËU,Code.envs,ËV,pushEnvs] using e.frames),e.mod,e.bs,e.bsz,e.funs,e.frf,e.hok,e.bare)
section
variable {X:Cx} {ai:À (aa×aN)} {σ:St} {H:Hp} {s s':aj}
theorem Inv.env0(I:å):Vx ò X.w X.K ę Ř X.A Θ s H :=
 (ÆK,Ët,I.bs,Qk ÈI I.sz,I.stack,Ði,é,Ι)
theorem Inv.after{Q:VK}{u:ae}(I:å)(h:CE Θ ò X.w H s Q u s'):EP X ai σ Q u s':=by obtain v|e|os|a|un|c|r|q:=h;obtain f|g|d|t|i:=s';obtain rfl:i=s.os:=os;exact(v,e,I.call (h':=f) (g':=g) (d':=d) (t':=t) (ch:=[]) un c a (λb z=>Ç z Ó),r,q)
universe E
def SV(sp:Sp)(dvs:Ą)(E:XK)(t:TA):TE:=λa H Q=>t a H λvs b=>sp ÃX b Q E
inductive RMt (C:aa) (m:ah) (x:V) (H:Hp) (B:Prop):Prop where
 | mk (a dx:aa) (fs:À (ah×V)) (e:x=.ref a) (g:H a=U (.ins C dx fs)) (l:Åd m=af) (q:B)
def SU(C:aa)(m:ah)(sp:Sp)(dvs:Ą)(E:XK)(c:TE)(t:TA):TE:=λa H Q=>c a H λx b=>RMt C m x b (t a b λvs d=>sp (x::ÃX) d Q E)
def SS(C:aa)(sp:Sp)(dvs:Ą)(E:XK)(t:TA):TE:=λb H Q=>t b H λvs a=>∀x dx,a x=af->a dx=af->dx≠x ->
 sp (.ref x::ÃX) #[eJ,a,dx,x,C] (λv c=>v=.non/\Q Án c) E
def Yy(K:Å)(b:bx)(ps:Ê)(ds:ê):Prop :=
 ∀ (s:aj) (a:À ae),Ŵ Ð->(a++ds).length=Àu->ÆI s b (a,[]) (Éa (a++ds))
theorem Yy.all{K:Å}{a:bx}{ps:Ê}(h:∀us:À ae,Φ=Àu->bindArgs a Éb=pure ÆJ):Yy K a ps []:=λs us _ hl=>by rw[QX]at hl ⊢;exact .of_eq (h us hl)
def Wa(CX:CXT)(X:Cx)(E:XK):Prop:=∀ (a:À (aa×aN)) (b:St) (H:Hp) (s:aj) (e:ae) (s':aj),Inv X a b H s->CX Θ H s E e s'->ç e s'
section
variable {X:Cx} {CX:CXT} {k:Nat} {f C:aa} {fd:bx} {ps:À ah} {sp:Sp} {dvs:À V} {ds:À ae} {E:XK} {x m:ah} {p pos bu:Pos} {e o:aK} {es:À aK} {ta:TE} {t:TA}
theorem Ua{b:ċ}{c:St}{H:Hp}{s:aj}{Q:VK}{us:ê}{vs:Ą}(F:ÃY)(hr:χ)(hb:ÃZ)(hd:Ã0)(hx:Ã1)
  (I:Inv X b c H s) (r:ZH vs us) (h:sp ÃX H Q E):ô (ŧ ą us) (EP X b c Q) ç s:=by
 have d:ZH ÃX (us++ds):=ËX hd;have g:(us++ds).length=Àu:=by rw[<- ņ];exact F.len _ _ _ _ h
 refine Ã2 (ÆL (F.run X.A Θ s H Éb (us++ds) ÃX Q E hr I.env0 (hb s us Ě g) d h) λr i a=>?_);cases r with
 | error e=>exact hx b c H s e i I a
 | ok j =>
  cases j with
  | ret u=>exact I.after a
  | next=>exact Â8
  | brk=>exact Â8
  | Λ=>exact Â8
theorem ZrO(F:ÃY)(hr:χ)(b:Ŕ)(hm:Ðj)(hk:Ðk)(hb:ÃZ)(hd:Ã0)(hx:Ã1)
  (ha:ε) (c:İ:=by decide) (he:Ν:=by rfl) (d:Áw:=by rfl) :
  PE X Ã3 (SV sp dvs E t):=by
 rw[g9,g,i,b,c];refine Qaf (h₀:=Ř) Ã4 hk Õd he d;exact Ua F hr hb hd hx a r q
theorem Zql(F:ÃY)(hr:χ)(a:Ŕ)(hm:Ðj)(hk:Ðk)(hb:ÃZ)(hd:Ã0)(hx:Ã1)
  (b:İ:=by decide):PE X ËY (SV sp dvs E Vy):=by
 rw[g9,ai,σ,a,b];exact Ðl Ě hk (Ua (us:=[]) F hr hb hd hx I .nil h)
theorem Zst{pl:Sem Ñ}(he:Â7)(c:ÃU)(hm:UZ X.K C m f)(F:ÃY)(hr:χ)(hb:ÃZ)(hd:Ã0)(hx:Ã1)(ha:ε)
  (n:Ν:=by rfl) (p:Áw:=by rfl)
  (v:ă ÆM Î=(do
   let b <- ă o Î
   ÃK ÆN
   let (f,first) <- ÁU [b] (ÃS b m pl)
   ÆO pos f first (bg pos ÆP) ÆQ):=by rfl) :
  PE X ÆM (SU C m sp dvs E ta t):=by
 rw[rA,d,g,v];rw[gM,w,y,i,z,A];refine Ri i A c hm l ?_;refine Qaf (first:=ÁZ) (h₀:=Ř) Ã4 hm.kp (thn (ha pos d w g y _ i q) λus s2 ⟨vs,H2,j,r,B⟩=>(j.kIn,?_)) n p;exact Ua (us:=.ref a::us) (vs:=.ref a::vs) F hr hb hd hx j (.cons rfl r) B
theorem ZpS{pl:Sem Ñ}(he:Â7)(c:ÃU)(hm:UZ X.K C m f)(F:ÃY)(hr:χ)(hb:ÃZ)(hd:Ã0)(hx:Ã1)
  (ht:ă ËZ Î=(do
   let d <- ă o Î
   ÃK ÆN
   let (f,first) <- ÁU [d] (ÃS d m pl)
   ÆO pos f first (bg pos (aE [] Î)) ÆQ):=by rfl) :
  PE X ËZ (SU C m sp dvs E ta Vy):=by
 rw[rA,e,g,ht];rw[gM,s1,H1,b,i,j];refine Ri b j c hm l ?_;exact Ðl (first:=ÁZ) b.kIn hm.kp (Ua (us:=ÁZ) (vs:=ÁZ) F hr hb hd hx b Ðm q)
structure Mk (K:Å) (C f:aa):Prop where
 makes:Õe K C=true
 init:Ĳ K æ "__init__" = U δ
 fn:Åe K ą=true
 kp:À6 K æ=true
theorem LB{c:ċ}{d:St}{H:Hp}{s:aj}{Q:VK}{us:ê}{vs:Ą}(M:Mk X.K C f)(F:ÃY)(hr:Éc)(hb:ÃZ)(hd:Ã0)
  (hx:Ã1) (I:Inv X c d H s) (r:ZH vs us)
  (h:∀x dx,H x=af->H dx=af->dx≠x->sp (.ref x::ÃX) #[eJ,H,dx,x,C] (λv j=>v=.non/\Q Án j) E) :
  ô (ŧ æ us) (EP X c d Q) ç s:=by
 have g:=h Α Ï Ðn Ã5 (QB (Qbs _));have b:=Inv.made (C:=C) I;have i:ZH (õ Α::ÃX) Õf:=.cons rfl (ËX hd);have l:(è Α::us++ds).length=Àu:=by have e:=ÈX;rw[F.len _ _ _ _ g]at e;exact Ä5
 refine Ã2 (Zry (f:=f) Ě M.makes M.init (Ï3 M.fn) (ÆL (F.run _ Θ _ _ (è Α::us,[]) Õf _ _ E (hr.make C us [])
  (b.env0.make C us []) (hb _ Õg b.kIn l) i g) λr m a=>?_))
 cases r with
 | error e=>exact hx c d _ _ e m b a
 | ok n =>
  cases n with
  | ret u=>obtain v|o|p|q|t|w:=b.after a;subst t;exact(q,(õ Α,o,p,rfl,w))
  | next=>exact Â8
  | brk=>exact Â8
  | Λ=>exact Â8
theorem ZsW(M:Mk X.K C f)(F:ÃY)(hr:Éc)(b:Ŕ)(hm:Ë0)(hb:ÃZ)(hd:Ã0)(hx:Ã1)
  (ha:ε) (c:İ:=by decide) (he:Ν:=by rfl) (d:Áw:=by rfl) :
  PE X Ã3 (SS C sp dvs E t):=by
 rw[g9,g,i,b,c];refine Qaf (h₀:=Ř) Ã4 M.kp Õd he d;exact LB M F hr hb hd hx a r q
theorem Zro(M:Mk X.K C f)(F:ÃY)(hr:Éc)(a:Ŕ)(hm:Ë0)(hb:ÃZ)(hd:Ã0)(hx:Ã1)
  (b:İ:=by decide):PE X ËY (SS C sp dvs E Vy):=by
 rw[g9,ai,σ,a,b];exact Ðl Ě M.kp (LB (us:=[]) M F hr hb hd hx I .nil h)
universe E
section
variable {X:Cx} {CX:CXT} {k:Nat} {f C:aa} {fd:bx} {ps ks:À ah} {sp:Sp} {E:XK} {x m:ah} {p pos bu kpos:Pos} {e o:aK} {es:À aK} {kws:À Éd} {te ta:TE} {t tk:TA} {nm:Ã ah}
structure KBinds (K:Å) (fd:bx) (ps ks:Ê) (g:À ae->À ae->À ae) (gV:À V->À V->À V):Prop where
 to:∀ (s:aj) (us ws:À ae),Ŵ Ð->(g us ws).length=Àu->ÆI s fd (us,ks.zip ws) (Éa (g us ws))
 rel:∀ {vs:À V} {us:À ae} {zs:À V} {ws:À ae},ZH vs us->ZH zs ws->ZH (gV vs zs) (g us ws)
variable {g:À ae->À ae->À ae} {gV:À V->À V->À V}
universe E
structure Zm (N P:Ê) (sc:bn):Prop where
 kind:sc.kind=.function
 co:sc.isCoroutine=false
 gen:sc.isGenerator=false
 nd:ËB
 pre:N.take ÆR=P
 par:∀x∈P,Õh x=U .local\/Õh x=U .cell
 nofree:∀y∈sc.names,y.2≠.free
theorem LA{ζ:Ë1}{x:ah}:∀ {binds:À (ah×ae)} {m:ah->Ã ae},(∀v,(x,v,) ∉ binds)->Ã6 ζ binds m x=m x
 | [],_,_=>rfl
 | (n,v,)::r,m,h=>by
  unfold Ã6;rw[LA λw hw=>h w (Qm _ hw)];split
  ·have:x≠n:=by rintro rfl;exact h v QU
   simp[this]
  ·rfl
theorem Lz{ζ:Ë1}{x:ah}:∀ {binds:À (ah×ae)} {m:ah->Ã ae},(∀v,(x,v,) ∉ binds)->Ã7 ζ binds m x=m x
 | [],_,_=>rfl
 | (n,v,)::r,m,h=>by
  unfold Ã7;rw[Lz λw hw=>h w (Qm _ hw)];split
  ·rfl
  ·have:x≠n:=by rintro rfl;exact h v QU
   simp[this]
theorem Ly{ζ:Ë1}{x:ah}{v:ae}:∀ {P:À ah} {vs:À ae} {i:Nat} {m:ah->Ã ae},P.Nodup->P[i]? = U x->vs[i]? = U v->ζ x=U .local ->
  Ã6 ζ (P.zip vs) m x=U v
 | [],_,_,_,_,h,_,_=>by simp at h
 | _::_,[],_,_,_,_,h,_=>by simp at h
 | p::P,w::vs,0,m,nd,h1,h2,hk=>by simp at h1 h2;subst h1;subst h2;show Ã6 ζ Ë2 m p=_;unfold Ã6;rw[LA λv a=>(Q9.mp nd).1 (Ðo a).1,È hk];simp
 | p::P,w::vs,i+1,m,nd,h1,h2,hk=>by show Ã6 ζ Ë2 m x=_;unfold Ã6;exact Ly (i:=i) (Q9.mp nd).2 #[ea,h1] #[ea,h2] hk
theorem Lx{ζ:Ë1}{x:ah}{v:ae}:∀ {P:À ah} {vs:À ae} {i:Nat} {m:ah->Ã ae},P.Nodup->P[i]? = U x->vs[i]? = U v->ζ x≠U .local ->
  Ã7 ζ (P.zip vs) m x=U v
 | [],_,_,_,_,h,_,_=>by simp at h
 | _::_,[],_,_,_,_,h,_=>by simp at h
 | p::P,w::vs,0,m,nd,h1,h2,hk=>by simp at h1 h2;subst h1;subst h2;show Ã7 ζ Ë2 m p=_;unfold Ã7;rw[Lz λv a=>(Q9.mp nd).1 (Ðo a).1,Æ hk];simp
 | p::P,w::vs,i+1,m,nd,h1,h2,hk=>by show Ã7 ζ Ë2 m x=_;unfold Ã7;exact Lx (i:=i) (Q9.mp nd).2 #[ea,h1] #[ea,h2] hk
def Xk(N:Ê)(vs:Ą):St:=vs.map U++Áx (ģ-ÃV) af
def Xz(CX:CXT)(P:aw)(w:aF)(K:Å)(mg:Ă)(Â:aI)(N:Ê)(a:ah)(b:bn)(f:aa)(c:ae)(A:aD)(Û:ÁS)(s:aj)(H:Hp)(E:XK):Cx where
 ÿ:=P
 w:=w
 K:=K
 mg:=mg
 Â:=Â
 A:=ÆG Ðp
 N:=N
 ÀL:=s
 H₀:=H
 env:=Ã8 a b Ï f c
 Û:=Û
 stack:=Ã8 a b Ï f c::Û
 ex:=[]
 calm:=true
 fn:=λ_=>true
 pn:=[]
 xe:=λe g=>av ÃO (ÆG Ðp) (leaving Ðp e) (λ_ d=>CX Û H s E e d) (λh d=>CX Û H s E h d) g
theorem Lw{a:bn}{n:Nat}{x:ah}(h:ÃI x=U .cell):∃c,(Ðq n a.names []).lookup x=U c:=by have q:=Õi a.names n [] (.inl h);exact Option.isSome_iff_exists.mp q
theorem Zoo{CX:CXT}{P:aw}{w:aF}{K:Å}{mg:Ă}{Â:aI}{N ps:Ê}{o:ah}{j:bn}{f:aa}{t:ae}{A:aD}{Û:ÁS}{s F:aj}{H:Hp}{E:XK}{us:ê}{vs:Ą}
  (S:Zm N ps j) (hd:Â9) (g:Õc) (hl:ÃV=Àu) (r:ZH vs us)
  (x:InCallC s Ï (Ã6 #[rh].kindOf ÆJ λ_=>af) (Ðq Α j.names []) (Ã7 #[rh].kindOf ÆJ λ_=>af) F) :
  Inv ÛY [] Áy H F:=by
 have cI:Àu<=ģ:=by have:=#[eX,S.pre];rw[QA]at this;lia
 obtain B|tk|rfl|G:=x.done;have D:∀b:aa,b ∉ (ÛY).ex:=λb z=>Ç #[r4,z] Ó;refine⟨(g.mod,ÆS,rfl,rfl,Qj _,λy z c B d=>?_,λy hy=>?_,λy c _ h=>?_,λ_=>hd,aD.frames_deeper g.frames,.inr ć,λb z=>Ç z (D b),g.bs,g.bsz,λb _ _=>D b,λb z=>Ç z (D b),g.funs,g.frf),
  rfl,g.bare,ÈB G,(_,x.toInCall.ns,λi y v B d h3=>?_),λy c h=>(_,x.cell y c h),g.hok.fresh î,λy c h=>?_,λp l=>Ç (show p∈Ë3 from l) Ó,g.hok.kept G,?_⟩
 ·exact name_of_addr x.apart (Qar B) (Qar d)
 ·have hy:#[sF,j.names.lookup,y]:=hy;rcases hy with hy|hy
  ·exact Lw hy
  ·exact Ç rfl (S.nofree _ (Qar hy))
 ·exact Qba (x.above y c (Qar h))
 ·have C:i<ÃV:=by
   unfold Xk at d;by_cases C:i<ÃV
   ·exact C
   ·rw[QY #[ea,C]]at d;rw[Õj]at d;split at d<;>cases d
  have J:vs[i]? = U v:=by
   unfold Xk at d;rw[QT #[ea,C],Qr]at d;cases e:vs[i]? with
   | none=>rw[e]at d;cases d
   | some a=>rw[e]at d;cases d;rfl
  rw[sA,u,I,L,r.get,J];have l:ps[i]? = U y:=by rw[<- S.pre,List.getElem?_take_of_lt Á];exact B
  have m:ps.Nodup:=by rw[<- S.pre];exact S.nd.sublist Õk
  rw[zh,u,L];rcases S.par y (Qp l) with k|k
  ·exact .inl (k,Ly m l I k)
  ·obtain c|e:=Lw (n:=Ï+1) k;refine .inr (.inl k,c,e,?_);have q:=x.cell y c e;rw[Lx m l I (by show j.names.lookup y≠_;rw[k];decide)]at q;exact q
 ·exact g.hok.fresh (Qba (x.above y c (Qar h)))
 ·unfold Xk;show _=ģ;rw[Qd,Qa,QaP];lia
theorem Lv{CX:CXT}{P:aw}{w:aF}{K:Å}{mg:Ă}{Â:aI}{k:Nat}{f:aa}{name c:ah}{C:Arguments}{l:ſ}{a:bn}{D kV F G d ct R:ae}{L T:ď}
  {W:Ŭ} {N ps:Ê} {sp:Sp} (lk:ı f=U (R,T,.func Õl,W)) (X:Ée K d c=true) (S:Zm N ps a)
  (len:Ãa)
  (Y:∀ (A:aD) (Û:À Env) (s:aj) (H:Hp) (vs:À V) (Q:VK) (E:XK),Zt k (ÆG (Ã8 c a Ï f d))->sp vs H Q E ->
   ∃t,PSs Ðr l t/\t { nx:=Ãb,rt:=Q } Áy H) :
  YU P w K mg Â CX (k+1) f Õl ps sp:=by
 refine(len,λA Û s H args Z vs Q E m h hb r M=>?_);have hl:=len _ _ _ _ M;have KX:ÈY:=h.mod.kin.keeps λb o e=>(h.bs b o e).1;have p:s.heap.NoLimit:=h.mod.nolimit.keeps λb o e=>(h.bs b o e).1;have Bo:∀y∈Éa Z,ÃI y.1=U .local\/(ÃI y.1=U .cell/\((Ðq Α a.names []).lookup y.1).isSome=true):=λ⟨n,v⟩ hy=>by
  rcases S.par n (Ðo hy).1 with q|q
  ·exact .inl q
  ·exact .inr (q,Õi _ _ _ (.inl q))
 refine codeAny_call_function m.depth (KX _ _ lk) rfl S.co S.gen rfl (PySem.W.codeRec_of KX X) (hb _ _ _ _ ?_);refine wpAny_newFunctionEnv_cells ÆS Bo λenv he O x=>?_;subst he;refine(p.keeps x.toInCall.keep,codeAny_func ?_);obtain t|ht|hq:=Y A Û s H vs Q E (m.deeper _) M;have I:Inv Ðr [] Áy H O:=Zoo S m.hd h hl r x;refine aX (ht [] O Áy H _ I hq) #[iw,fl,z,g] λe z g=>g;have i:∀ {j:St} {H':Hp} {v:V} {u:ae},Inv Ðr [] j H' z->ZJ v u->Q v H'->CE Û P w H s Q u z :=
  λ{j H' v u} J B q=>(v,H',J.os,J.bare,J.base,J.hok,B,q)
 cases fl with
 | ret u=>obtain v|j|H'|J|B|q:=g;exact i J B q
 | next=>obtain j|H'|J|q:=g;exact i (v:=V.non) (u:=ÀK) J rfl q
 | brk=>obtain _|_|_|q:=g;exact Â3 q
 | Λ=>obtain _|_|_|q:=g;exact Â3 q
section
variable {X:Cx} {x:ah} {p pos:Pos} {e:aK} {es:À aK} {t:TA} {id T:ĸ} {r:À V->Hp->VK->Prop}
def tCB(r:À V->Hp->VK->Prop)(t:TA):TE:=λa H Q=>t a H λvs b=>r vs b Q
theorem Zn(hc:YN X #[fb,id] r)(c:Ŕ)(hm:ę x=af)(d:cV x=U #[fb,id])(ha:ε)(hn:ÈN:=by decide)(f:İ:=by decide)
  (g:Ν:=by rfl) (i:Áw:=by rfl):PE X Ã3 (tCB r t):=by
 rw[oP];exact Õm Õn g i
theorem WW(hc:YN X (.type T) r)(c:Ŕ)(hm:ę x=af)(d:cV x=U (.type T))(ha:ε)(hn:ÈN:=by decide)(f:İ:=by decide)
  (g:Ν:=by rfl) (i:Áw:=by rfl):PE X Ã3 (tCB r t):=by
 rw[oP];exact Qak Õn g i
universe E
universe E.L2
namespace HT
open PySem PyProof.Rows
section
variable {ÿ:aw} {w:aF} {A:aD} {E:ae->aj->Prop} {s:aj}
def sIx(n d:Nat):Ã Int->Nat
 | none=>d
 | some v=>if v<0 then (v+(n:Int)).toNat else min v.toNat n
theorem sIx_none(n d:Nat):sIx n d af=d:=rfl
theorem sIx_nat(n d k:Nat):sIx n d (U (k:Int))=min k n:=by show (if (k:Int)<0 then ((k:Int)+(n:Int)).toNat else min (k:Int).toNat n)=min k n;rw[Æ Á,Qbd]
universe E
universe E.HT
namespace L2
open PySem PySem.Spec PyProof.Rows
abbrev TO:=St->Hp->(Ã Int->Hp->Prop)->Prop
def PO(X:Cx)(e:Ã aK)(t:TO):Prop :=
 ∀ (b:À (aa×aN)) (s:aj) (a:St) (H:Hp) (Q:Ã Int->Hp->Prop),Inv X b a H s->t a H Q ->
  ô (evalPart e Î) (λu d=>X2 λo c=>Inv X b a c d/\IsPart u o/\Q o c) ç s
def ZrZ:TO:=λ_ H Q=>Q af H
def ZvI(t:TE):TO:=λa H Q=>t a H λx b=>EA (λi=>x=.int i) (λi=>Q (U i) b)
theorem ZlZ{ns:Ô}:∀ {us:À ae},ZH ψ us->ÆT us ns:=by
 induction ns with
 | nil=>intro us r;rw[hL,QaY,r];exact .nil
 | Ë n ns a =>
  intro us r;rw[Ql]at r;cases r with
  | Ë b c=>obtain t|e:=b;subst e;exact .cons n t (a c)
section
variable {X:Cx} {e:aK} {te:TE} {lo hi:Ã aK} {tl th:TO} {pos p2:Pos}
theorem Ws:PO X af ZrZ:=by intro ai s σ H Q I h;rw[evalPart_none];exact aB (af,H,I,.none,h)
theorem Xy(h:Ä9):PO X (U e) (ZvI te):=by intro a s b H Q I hw;rw[evalPart_some];refine thn (h a s b H _ I hw) ?_;rintro u s1 ⟨x,c,d,f,g⟩;obtain i|rfl|q:=g;obtain t|rfl:=f;exact(U i,c,d,.int i t,q)
def SlR(X:Cx)(r:Ðs):Prop :=
 ∀ (a:À (aa×aN)) (s:aj) (b:St) (H:Hp) (x:V) (v c d:ae) (lo hi:Ã Int) (e:aa) (Q:VK),Inv X a b H s->ZJ x v->s.heap.IsSliceOf e c d .none->IsPart c lo->IsPart d hi->r x lo hi H Q ->
  X2 λT id=>ÆU (.type T) "__getitem__" = pure (U #[fb,id])/\Åh v T/\ô (ÆV v Š) ÃN ç s
def tSl(r:Ðs)(te:TE)(tl th:TO):TE:=λa H Q=>te a H λx b=>tl a b λl c=>th a c λu d=>r x l u d Q
theorem W9{r:Ðs}(hr:SlR X r)(he:Ä9)(hl:PO X lo tl)(hu:PO X hi th):PE X (.Subscript e (.Slice lo hi af p2) pos) (tSl r te tl th):=by intro c s d H Q I h;refine Subscript_ #[ek,he,c,d];rintro v j ⟨x,k,m,n,o⟩;refine wpAny_Slice (thn (hl c j d k _ m o) λf p ⟨l,t,w,y,z⟩=>thn (hu c p d t _ w z) ?_);rintro g a ⟨u,i,A,B,C⟩;rw[evalPart_none];refine aB ?_;have D:Inv X c d i { a with Ø:=Ðt { cls:=.type "slice",Ò:=.fields #[f,g,.none] } }:=A.kept (t':=ÆH) λb ob q=>Qc _ q;obtain T|id|E|F|G:=hr c { a with Ø:=Ðt { cls:=.type "slice",Ò:=.fields #[f,g,.none] } } d i x v f g l u υ Q D n (aI.IsSliceOf.new ..) y B C;show ô (Ë4 e (.Slice lo hi af p2) v (.ref υ)) (EP X c d Q) ç { a with Ø:=Ðt { cls:=.type "slice",Ò:=.fields #[f,g,.none] } };exact tail_any (ops:=[.ref υ,v]) F E G À8
def Yo(xs:Ą)(lo hi:Β):À V:=(xs.drop (Ŷ Ú 0 lo)).take #[ru,Ú,hi]
theorem ZlQ(xs:Ą)(lo hi:Β):(Yo xs lo hi).length<=Ú:=by unfold Yo;rw[QA,Q4];lia
universe E
def ixN(n:Nat)(i:Int):Ã Nat:=if 0<=i then (if i<n then U i.toNat else af) else if -(n:Int)<=i then U (i+n).toNat else af
def atI{α:Type}(xs:À α)(i:Int):Ã α:=(ixN Ú i).bind λj=>xs[j]?
theorem Lu{n:Nat}{i:Int}{j:Nat}(h:ixN n i=U j):seqIndex? i n=U j/\j<n /\ -(n:Int)<=i/\i<n:=by
 unfold ixN at h;by_cases b:0<=i
 ·rw[y3,b,h];by_cases a:i<n
  ·rw[y3,a,h];have e:i.toNat=j:=Qu h;exact(by rw[Ðu b a,e],by lia,by lia,a)
  ·rw[iv,a,h];cases h
 ·rw[iv,b,h];by_cases a:-(n:Int)<=i
  ·rw[y3,a,h];have e:(i+n).toNat=j:=Qu h;exact(by rw[Ðv Á a,e],by lia,a,by lia)
  ·rw[iv,a,h];cases h
theorem Rh{α:Type}{xs:À α}{i:Int}{v:α}(h:atI xs i=U v):∃j,seqIndex? i Ú=U j/\xs[j]? = U v/\j<Ú /\ -(Ú:Int)<=i/\i<Ú:=by
 unfold atI at h;cases e:ixN Ú i with
 | none=>rw[e]at h;cases h
 | some j=>rw[e]at h;obtain a|b|c|d:=Lu e;exact(j,a,h,b,c,d)
theorem Ye{α:Type}{xs:À α}{j:Nat}{v:α}(h:xs[j]? = U v):atI xs (j:Int)=U v:=by
 have hj:j<Ú:=(Į h).1;have e:ixN Ú (j:Int)=U j:=by unfold ixN;rw[rK,Á,Á];simp
 unfold atI;rw[e];exact h
theorem Zqy{α:Type}(xs:À α)(v:α):atI (xs++[v]) (-1)=U v:=by
 have a:(xs++[v]).length=Ú+1:=by simp
 have e:ixN (xs++[v]).length (-1)=U Ú:=by unfold ixN;rw[a,Æ Ì,È Á];congr 1;lia
 unfold atI;rw[e];show (xs++[v])[Ú]? = U v;simp
def Zsl(b:aK):Prop:=∀o i,Ë5 b false o i=operate [o,i] (ÆV o i)
def IxR(X:Cx)(r:R2):Prop :=
 ∀ (ς a:aK) (b:À (aa×aN)) (s:aj) (c:St) (H:Hp) (x y:V) (v u:ae) (Q:VK),Inv X b c H s->ZJ x v->ZJ y u->r x y H Q ->
  Ë5 a false v u=operate [v,u] (ÆV v u)->ô (Ë4 ς a v u) (EP X b c Q) ç s
def MtR(X:Cx)(id:ĸ)(r:Éf):Prop :=
 ∀ (a:À (aa×aN)) (s:aj) (b:St) (H:Hp) (x:V) (c:À V) (v:ae) (d:À ae) (Q:VK),Inv X a b H s->ZJ x v->ZH c d->r x c H Q ->
  ô (ŧ #[fb,id] (v::d)) ÃN ç s
section
variable {X:Cx} {a b:aK} {ta tb:TE} {pos:Pos}
theorem ZF{r:R2}(hr:IxR X r)(ha:Ár)(hb:ÃL)(hs:Zsl b):PE X (.Subscript a b pos) ËK:=by intro c s d H Q I h;exact Subscript_ (Rp ha hb I h λv u e x y f g i j q=>hr a b c e d f x y v u Q g i j q (hs _ _))
inductive RIx (S:aa->À V->Prop) (x y:V) (B:V->Prop):Prop where
 | mk (p:aa) (xs:À V) (i:Int) (v:V) (a:x=.ref p) (b:y=.int i) (c:S p xs) (d:atI xs i=U v) (q:B v)
def Ls(K:Å):R2:=λx y H Q=>RIx (SqL K H) x y (λv=>Q v H)
def Lr(K:Å):R2:=λx y H Q=>RIx (SqT K H) x y (λv=>Q v H)
def ZwL:R2:=λx y H Q=>X3 λz i c=>C5 (x=.str z) (y=.int i) Ðw (atI Áz i=U c) (Q (.str ŷ) H)
theorem Zr2:IxR X (Ls X.K):=by
 intro ς fJ e s f H x y v u Q I m n h g;obtain p|xs|i|z|rfl|rfl|o|A|q:=h;cases m;rw[ey,t,n];rw[f5,r,c,hz,o];obtain j|b|B|h3|C|D:=Rh A;rw[sA,w,k,E,r.get,B];have F:=Áv;have hn:=U0;have a:EP X e f Q w s:=(z,H,I,E,q);by_cases l:0<=i
 ·have d:i.toNat=j:=by rw[Ðu l D]at b;exact Qu b
  exact item_listR c.isList l Á Õo a g
 ·have d:(i+(Ãc:Int)).toNat=j:=by rw[Ðv Á C]at b;rw[QS,<- F];exact Qu b
  exact Õp (x:=w) c.isList.typeIs Õq
   (wpAny_getItem_list_neg (Q:=λr G=>r=w/\EP X e f Q r G) c.isList Á (by rw[QS]<;>lia) Á Õo (rfl,a)) g
theorem Zux:IxR X (Lr X.K):=by
 intro ς fJ b s c H x y v u Q I e f h g;obtain p|xs|i|z|rfl|rfl|k|l|q:=h;cases e;rw[ey,t,f];rw[sB,r,d,hz,k];obtain j|m|n|h3|h4|h5:=Rh l;rw[sA,w,o,A,r.get,n];have B:=Áv;have hn:=U0;have a:EP X b c Q w s:=(z,H,I,A,q);exact Õp (x:=w) Ég slot_tuple_getitem.lookup
  (getItem_tuple (j:=j) (Q:=λr C=>r=w/\EP X b c Q r C) d Á Á (by rw[QS,<- B];exact m) #[ea,o] (rfl,a)) g
theorem UY:IxR X ZwL:=by
 intro ς fJ ai s σ H x y v u Q I b d h e;obtain z|i|c|rfl|rfl|hz|f|q:=h;rw[ey,t,b];rw[ey,t',d];obtain j|a|g|h3|k|l:=Rh f;have m:Õr:=by simp[Éh]
 rw[m]at a k l;have hn:=U0;exact tail_any (Éi s z t) slot_str_getitem.lookup (getItem_str (c:=c) (by have n:decide (i < -(2 ^ 63:Int))=false:=Éj;have o:decide (i>=2 ^ 63)=false:=Éj;rw[n,o,Bool.or_false]) (by rw[a];simpa using g) #[gp,ŷ,q]) e
theorem Zmd(its:ê)(n j:Nat)(u:ae):ÆW (·.setIfInBounds j u) { cls:=Ĺ,Ò:=.seq ŝ n }={ cls:=Ĺ,Ò:=.seq (its.set j u).toArray n }:=by simp[ÆW]
theorem Inv.lst{a:ċ}{b:St}{H:Hp}{s:aj}{p:aa}{xs:Ą}(I:ÈM)(h:H p=U ÁV) :
  X2 λ(its:À ae) (n:Nat)=>ZH xs its/\ì p=U { cls:=Ĺ,Ò:=.seq ŝ n }/\Ú<=aq:=by
 obtain z|its|n|r|e:=é p _ h;exact(its,n,r,e,z)
theorem Inv.lstUpd{c:ċ}{d:St}{H:Hp}{s:aj}{p:aa}{xs ys:Ą}{its its':ê}{n a:Nat}{f:aN->aN}(I:Inv X c d H s)(h:H p=U ÁV)
  (i:ì p=U { cls:=Ĺ,Ò:=.seq ŝ n }) (g:f { cls:=Ĺ,Ò:=.seq ŝ n }={ cls:=Ĺ,Ò:=.seq Ðx a }) (r:ZH ys its') (hz:č<=aq) (t:Nat) :
  Inv X c d #[hU,H,p,ys] { s with Ø:=Åi p f,ï:=t }:=by
 have e:(Åi p f).get? p=U { cls:=Ĺ,Ò:=.seq Ðx a }:=by rw[QZ f i (by rw[g]<;>rfl),g]
 refine Åg (x:=p) (e:=p) (by rw[h];trivial) Ď (λb u j q=>(QW _ _ (Κ j)).trans q) (_,e) ?_;exact(hz,its',a,r,e)
def ZvD:V->V->V->Hp->(Hp->Prop)->Prop:=λo i v H Q=>X4 λp xs k j=>C5 (o=.ref p) (i=.int k) #[gf,p,xs] (ixN Ú k=U j) (Q (upd H p (.lst (xs.set j v))))
theorem Lq:Rt X ZvD:=by
 intro w s x H o i v ov iv u Q I y z A h;obtain p|B|k|j|rfl|rfl|e|C|q:=h;cases y;rw[ey,t,z];obtain its|n|r|b|D:=I.lst e;obtain a|h2|f|g:=Lu C;have c:=Áv;have hn:=U0;have l:Inv X w x (upd H p (.lst (B.set j v))) { s with Ø:=Åi p (ÆW (·.setIfInBounds j u)) } :=
  I.lstUpd e b (Zmd its n j u) (r.set A j) #[ed,List.length_set,D] ŋ
 by_cases m:0<=k
 ·have d:Ãd=j:=by rw[Ðu m g]at a;exact Qu a
  exact PySem.W.ki_setAt b m Á (by rw[QS,<- c];exact g) Õs
 ·have d:(k+(Ãc:Int)).toNat=j:=by rw[Ðv Á f]at a;rw[QS,<- c];exact Qu a
  exact PySem.W.ki_setBack b Á (by rw[QS,<- c];exact f) Á Õs
theorem Zkf(lo hi:Β)(n:Nat):#[wC].1=((Ŷ n 0 lo:Nat):Int)/\#[wC].2.1=((Ŷ n n hi:Nat):Int)/\#[wC].2.2=1:=by
 refine(?_,?_,rfl)
 ·cases lo with
  | none=>simp[dE,Ŷ]
  | some i =>
   rw[kj];by_cases h:i<0
   ·simp only[h,ÆX]<;>lia
   ·simp only[h,Åj]<;>lia
 ·cases hi with
  | none=>simp[dE,Ŷ]
  | some i =>
   rw[kj];by_cases h:i<0
   ·simp only[h,ÆX]<;>lia
   ·simp only[h,Åj]<;>lia
theorem Zir(its:ê)(lo hi:Β):slicePick ŝ lo hi af=((its.drop (Ŷ Ë6 0 lo)).take #[ru,Ë6,hi]).toArray:=by obtain a|b|c:=Zkf lo hi Ãc;unfold slicePick;rw[a,b,c];simp only[sliceRange_one,pick_run,Ëm]<;>rfl
inductive RSl (K:Å) (x:V) (lo hi:Β) (H:Hp) (B:aa->Hp->Prop):Prop where
 | mk (a:aa) (xs:À V) (e:x=.ref a) (s:SqL K H a xs) (q:∀p,H p=af->B p (upd H p (.lst (Yo xs lo hi))))
def Lp(K:Å):V->Ã Int->Ã Int->Hp->VK->Prop:=λx lo hi H Q=>RSl K x lo hi H λp H'=>Q ş H'
theorem Zr7:SlR X (Lp X.K):=by intro ai s σ H x v vl vu lo d sl Q I f g i j h;obtain a|c|rfl|k|q:=h;cases f;obtain its|r|e|l:=ÁW k;have m:=Áv;refine("list",_,Õq,e.isList.typeIs,?_);refine wpAny_getItem_list_slice e.isList g i j .none Ó ?_ (by rw[QS]<;>lia);rw[Zir,<- m];refine(.ref Ï,_,À7 (t':=Ŧ) (o:=.lst (Yo c lo d)) #[ik,b,ob,q] î ?_,rfl,q _ Ã5);exact(Qk (ZlQ c lo d) l,_,0,(r.drop (Ŷ Ņ 0 lo)).take #[ru,Ņ,d],Qv _ rfl)
def W8:V->Ñ
 | .non=>true
 | .bl _=>true
 | .int _=>true
 | .str _=>true
 | _=>false
def eqV:V->V->Ñ
 | .non,.non=>true
 | .bl a,.bl b=>a == b
 | .bl a,.int b=>(if a then 1 else 0) == b
 | .int a,.bl b=>a == (if b then 1 else 0)
 | .int a,.int b=>a == b
 | .str a,.str b=>a == b
 | _,_=>false
theorem ZuF{A:aD}{s:aj}{y x:V}{u v:ae}(e:ZJ y u)(c:ZJ x v)(g:W8 y=true)(f:W8 x=true):Ðy A s u v (eqV y x):=by
 cases y with
 | non =>
  cases e;cases x with
  | non=>cases c;exact SeqAt.EqAt.same _
  | bl b=>cases c;exact SeqAt.EqAt.none_bool b
  | int b=>obtain t|rfl:=c;exact SeqAt.EqAt.none_int b t
  | str b=>obtain t|rfl:=c;exact SeqAt.EqAt.none_str b t
  | _=>exact Ék
 | bl a =>
  cases e;cases x with
  | non=>cases c;exact SeqAt.EqAt.bool_none a
  | bl b=>cases c;exact SeqAt.EqAt.bool_bool a b
  | int b=>obtain t|rfl:=c;exact SeqAt.EqAt.bool_int a b t
  | str b=>obtain t|rfl:=c;exact SeqAt.EqAt.bool_str a b t
  | _=>exact Ék
 | int a =>
  rw[ey,d,e];cases x with
  | non=>cases c;exact SeqAt.EqAt.int_none a d
  | bl b=>cases c;exact SeqAt.EqAt.int_bool a d b
  | int b=>obtain t|rfl:=c;exact Õt a d b t
  | str b=>obtain t|rfl:=c;exact Ôi a d b t
  | _=>exact Ék
 | str a =>
  rw[ey,d,e];cases x with
  | non=>cases c;exact SeqAt.EqAt.str_none a d
  | bl b=>cases c;exact SeqAt.EqAt.str_bool a d b
  | int b=>obtain t|rfl:=c;exact Ôj a d b t
  | str b=>obtain t|rfl:=c;exact Õu a d b t
  | _=>exact Ék
 | _=>exact Ç (show false=true from g) Qw
def eqU(x:V)(u:ae):Ñ:=match u with
 | .none=>eqV .non x
 | .bool b=>eqV (.bl b) x
 | .int i _=>eqV Ä7 x
 | .str z _=>eqV (.str z) x
 | _=>false
theorem Lm{x y:V}{u:ae}(r:ZJ y u)(f:W8 y=true):eqU x u=eqV y x:=by
 cases y with
 | non=>cases r;rfl
 | bl b=>cases r;rfl
 | int i=>obtain t|rfl:=r;rfl
 | str z=>obtain t|rfl:=r;rfl
 | _=>exact Ék
theorem Rg{x:V}:∀ {xs:À V} {us:À ae},ZH xs us->xs.all W8=true->us.any (eqU x)=xs.any λy=>eqV y x
 | _,_,.nil,_=>rfl
 | y::xs,u::us,.cons r t,f=>by rw[Ðz,Q6]at f;rw[Qa6,Qa6,Lm r f.1,Rg t f.2]
theorem Rc{A:aD}{s:aj}{x:V}{v:ae}(a:ZJ x v)(b:W8 x=true):∀ {xs:À V} {us:À ae},ZH xs us->xs.all W8=true->∀u∈us,Ðy A s u v (eqU x u)
 | _,_,.nil,_=>λu hu=>by cases hu
 | y::xs,u::us,.cons r t,f=>λc hu=>by
  rw[Ðz,Q6]at f;rcases ħ hu with rfl|hu
  ·rw[Lm r f.1];exact ZuF r a f.1 b
  ·exact Rc a b t f.2 c hu
def inV(x:V)(xs:Ą):Ñ:=xs.any λy=>eqV y x
def rIn(K:Å)(a:Ñ):R2:=λx y H Q=>X2 λp xs=>C5 (y=.ref p) (#[hw,K,xs]) (W8 x=true) (xs.all W8=true) (Q (.bl (if a then !inV x xs else inV x xs)) H)
theorem Zot:OpR X (aS .In) (rIn X.K false):=by
 rw[hC,b,d];rw[sG,p,xs,hq,c,fs];cases d;rcases hq with hq|hq
 ·rw[f5,r,a,e,hq];refine SeqAt.in_listAt (eqU x) a.isList Õv #[hM,_,?_];rw[j4]
 ·rw[sB,r,a,e,hq];refine SeqAt.in_tupleAt (eqU x) a Õv #[hM,_,?_];rw[j4]
theorem ZjV:YN X ÆY (λxs H Q=>X2 λp ys=>xs=Á1/\#[hw,X.K,ys]/\Q (.int č) H):=by
 rw[aR];rw[sH,p,ys,hq];rw[fw,d];have hn:=U0;rcases hq with hq|hq
 ·rw[f5,a,b,e,hq];have c:=ĳ;exact Calls.call_len_list b.isList Ë7 (.int č,H,ř _,Õw,q)
 ·rw[sB,a,b,e,hq];have c:=ĳ;exact len_tuple b Ë7 (.int č,H,ř _,Õw,q)
theorem WH:YN X ÆY (λxs H Q=>∃z,xs=[.str z]/\Ś<=aq/\Q (.int Ś) H):=by intro ai s σ H xs us Q I r h;obtain z|rfl|hz|q:=h;obtain u|rfl|t|rfl:=Xb r;have hn:=U0;exact len_str Á (.int Ś,H,ř _,ü,q)
theorem ZjO:YN X Ãe (λxs H Q=>X2 λp ys=>xs=Á1/\#[hw,X.K,ys]/\∀l,H l=af->Q Đ #[hU,H,l,ys]):=by
 rw[rX,v,w,xs];rw[sH,p,ys,hq];rw[fw,x];have f:∀ (its:À ae),ZH ys its->č<=aq->∀ (a:aI) (c:Nat),#[ga,t,ì,Ã9] ->
   Ã9 Ï=U { cls:=Ĺ,Ξ:=af,Ò:=.seq ŝ c,Áo:=#[] }->EP X v w Q ÆB { s with Ø:=a }:=λits d g a c i e =>
  (.ref Ï,_,À7 (t':=Ŧ) i î (show Y2 ò X.w _ a _ Ãf from(g,its,c,d,e)),rfl,q _ Ã5)
 rcases hq with hq|hq
 ·rw[f5,d,j,g,hq];have y:=ņ;obtain o|k|m|n|hd:=j.isList;exact call_list_seq p Ď k m hd Õx Ë7
 ·rw[sB,d,j,g,hq];have y:=ņ;obtain o|k|m|n|hd:=j;exact call_list_seq p ÂA k m hd Õx Ë7
def tyV(K:Å)(T:ĸ)(x:V)(H:Hp):Prop:=match x with
 | .str _=>T = "str"
 | .int _=>T = "int"
 | .ref p=>(T = "list"/\∃b,SqL K H p b)\/(T = "tuple"/\∃o,ı p=U o/\ÃM=.type "tuple"/\o.dict=af) \/
   (T = "dict"/\((∃a,H p=U (.dK a))\/∃a,H p=U (.dT a)))\/(T = "set"/\X2 λS n=>H p=U (.set S n))
 | _=>Ē
theorem Ll{h:ċ}{j:St}{H:Hp}{s:aj}{T:ĸ}{x:V}{v:ae}(I:Inv X h j H s)(r:ZJ x v)(ty:tyV X.K T x H) :
  Åh v T/\∀a,v=.ref a->∃ob,ì a=U ob/\ob.dict=af:=by
 cases x with
 | str z=>obtain t|rfl:=r;cases (show T = "str" from ty);exact(Éi s z t,λ_ e=>nomatch e)
 | int i=>obtain t|rfl:=r;cases (show T = "int" from ty);exact(typeIs_int s i t,λ_ e=>nomatch e)
 | ref p =>
  cases r;rcases ty with⟨rfl,xs,k⟩|⟨rfl,o,b,l,hd⟩|⟨rfl,b⟩|⟨rfl,S,n,b⟩
  ·obtain its|_|g|_:=ÁW k;refine(g.isList.typeIs,λa e=>?_);cases e;obtain o|n|e|c|hd|_:=g;exact(o,e,hd)
  ·refine((o,Ě p o b,l),λa e=>?_);cases e;exact(o,Ě _ o b,hd)
  ·have z:∃o,ì p=U o/\o.ExactDict:=by
    rcases b with⟨d,b⟩|⟨d,b⟩
    ·rw[le]
    ·rw[le]
   rw[g6,o,e,ex,z];rw[kQ]
  ·obtain o|_|_|_|e|ex|_:=é p _ b;rw[kQ]
 | _=>exact Â3 ty
def ZwI(K:Å)(T:ĸ)(r:Éf)(to:TE):TE:=λb H Q=>to b H λx a=>tyV K T x a/\r x [] a Q
def tBM(K:Å)(T:ĸ)(r:Éf)(to:TE)(t:TA):TE:=λa H Q=>to a H λx b=>tyV K T x b/\t a b λxs c=>r x xs c Q
variable {o e:aK} {es:À aK} {to:TE} {t:TA} {name:ah} {bu bq:Pos} {T id:ĸ} {r:V->À V->Hp->VK->Prop}
theorem ZtR(e:ÐA T)(slot:ÐB)(f:ÐC)(hm:MtR X id r)(g:Æy)
  (i:ÐD:=by rfl) (j:Él=true:=by rfl):PE X (.Call (.Attribute o name bu) [] [] bq) (ZwI X.K T r to):=by
 rw[eR,a,b,Q];refine dP i j #[ek,g,a,b];rintro v k ⟨x,l,c,d,ty,m⟩;obtain n|p:=Ll c d ty;exact(T,id,e,slot,f,n,p,Ë8 rfl (Õy (hm a k b l x [] v [] Q c d .nil m)))
theorem Zvj(g:ÐA T)(slot:ÐB)(i:ÐC)(hm:MtR X id r)(j:Æy)(ha:ε)
  (k:ÐD:=by rfl)
  (l:((bg bq ÆP).all Ë9&&#[je].all Ìa
   && decide Õz)=true:=by rfl)
  (m:Él=true:=by rfl) (n:Ν:=by rfl) (p:Ém:=by rfl) :
  PE X ÕA (tBM X.K T r to t):=by
 rw[eR,a,b,Q];refine wpAny_Call_method_late k l m rfl #[ek,j,a,b];rintro v q ⟨x,u,c,d,ty,w⟩;obtain y|z:=Ll c d ty;refine(T,id,g,slot,i,y,z,?_);have f:=ha bq a q b u _ c w;rw[n]at f ⊢;refine Ë8 (by show (false||(bg bq (aE es Î)).any ù)=false;rw[p]<;>rfl) (ÕB ?_);exact thn f λA B ⟨C,D,E,F,G⟩=>hm a B b D x C v A Q E d F G
universe E
def MtM(X:Cx)(id:ĸ)(r:Éf):Prop :=
 ∀ (a:À (aa×aN)) (s:aj) (b:St) (H:Hp) (x:V) (c:À V) (v:ae) (d:À ae) (Q:VK),Inv X a b H s->ZJ x v->ZH c d->r x c H Q ->
  ô (ŧ #[fb,id] (v::d)) ÃN ç s
theorem ZH.one:∀ {x:V} {us:À ae},ZH [x] us->∃u,us=[u]/\ZJ x u
 | _,_,.cons r .nil=>(_,rfl,r)
theorem ZH.two:∀ {x y:V} {us:À ae},ZH [x,y] us->X2 λu v=>us=[u,v]/\ZJ x u/\ZJ y v
 | _,_,_,.cons r (.cons q .nil)=>(_,_,rfl,r,q)
theorem ZH.zero:∀ {us:À ae},ZH [] us->us=[]
 | _,.nil=>rfl
theorem ZH.reverse{xs:Ą}{us:ê}(h:ZH xs us):ZH xs.reverse us.reverse:=by
 induction h with
 | nil=>exact .nil
 | Ë r t a=>rw[QaS,QaS];exact Ïi a (.cons r .nil)
section
variable {X:Cx} {ai:À (aa×aN)} {σ:St} {H:Hp} {s:aj} {l b:aa} {xs ys zs:À V}
theorem Inv.lset{its its':ê}{n:Nat}{f:ĉ ae->ĉ ae}{t':Nat}(I:å)(a:H l=U ÁV)
  (e:ì l=U { cls:=Ĺ,Ò:=.seq ŝ n }) (b:f ŝ=Ðx) (c:ZH ys its') (hz:č<=aq) :
  Inv X ai σ #[hU,H,l,ys] { s with Ø:=Åi l (ÆW f),ï:=t' }:=by
 have q:=PySem.IsL.update e f;rw[b]at q;refine Åg (x:=l) (e:=l) (by rw[a];exact trivial) Ď (λb' u d g=>(QW Ð (ÆW f) (Κ d)).trans g) (_,q) ?_;exact(hz,its',_,c,q)
theorem Inv.lnew{its:ê}{t':Nat}(I:å)(a:ZH ys its)(hz:č<=aq) :
  Inv X ai σ #[hU,H,Ï,ys] { s with Ø:=γ { cls:=.type "list",Ò:=.seq ŝ },ï:=t' } :=
 À7 Én î (hz,its,0,a,Qv _ rfl)
theorem Inv.fresh(I:å):H Ï=af:=ÐE
theorem Inv.lstM(I:å)(a:H l=U ÁV):Ú<=aq/\X2 λ(its:À ae) (n:Nat)=>ZH xs its/\Ú=Ë6/\ì l=U { cls:=Ĺ,Ò:=.seq ŝ n }:=by obtain z|its|n|r|e:=é l _ a;exact(z,its,n,r,Áv,e)
universe E
section
variable {X:Cx}
inductive RAp (x:V) (vs:Ą) (H:Hp) (B:Hp->Prop):Prop where
 | mk (l:aa) (xs:À V) (y:V) (a:x=.ref l) (b:vs=[y]) (c:H l=U (.lst xs)) (d:Ú<aq) (q:B (upd H l (.lst (xs++[y]))))
def ZrJ:V->À V->Hp->VK->Prop:=λx vs H Q=>RAp x vs H λH'=>Q .non H'
theorem Z0:MtM X "list.append" ZrJ:=by intro ai s σ H x vs v us Q I b c h;obtain l|xs|y|rfl|rfl|a|hz|q:=h;cases b;obtain u|rfl|d:=c.one;obtain z|its|n|r|hl|e:=ÆZ a;refine Éo F.slot_list_append (_,e,rfl) F.entry_list_append (F.args_list_append_2 _ _) (PySem.list_append l ŝ n u #[fe,QS]) (e,?_);refine(.non,_,I.lset (its':=its++[u]) a e Ó (ËX (.cons d .nil)) ?_,rfl,q);rw[Qd,Qx];lia
def Zq6:V->À V->Hp->VK->Prop:=λx vs H Q=>X2 λl xs=>C4 (x=.ref l) (vs=[]) #[gf,l,xs] (Q .non #[hU,H,l,xs.reverse])
theorem ZmG:MtM X "list.reverse" Zq6:=by intro ai s σ H x vs v us Q I b c h;obtain l|xs|rfl|rfl|a|q:=h;cases b;have d:=c.zero;subst d;obtain z|its|n|r|hl|e:=ÆZ a;refine Éo F.slot_list_reverse (_,e,rfl) F.entry_list_reverse (F.args_list_reverse_1 _) (AutoSeq1.list_reverse_list_0 l ŝ n #[fe,QS]) (e,?_);refine(.non,_,I.lset (its':=its.reverse) a e Ó r.reverse ?_,rfl,q);rw[List.length_reverse];lia
def Zw8:R2:=λx y H Q=>X4 λl b xs zs=>C6 (x=.ref l) (y=.ref b) #[gf,l,xs] #[gf,b,zs] (Ú+ÐF<=aq) (∀p,H p=af->Q ş (upd H p (.lst (xs++zs))))
theorem VX:OpR X ÏY Zw8:=by
 rw[hC,c,d];obtain l|b|xs|zs|rfl|rfl|f|g|hz|q:=h;cases c;cases d;obtain z|its|n|r|hl|e:=ÆZ f;obtain z2|a|n2|i|cb|j:=ÆZ g;refine ÕC e j ?_ #[sg,QS,QS];have k:ŝ++a.toArray=(its++a).toArray:=by simp
 rw[k];exact(.ref _,_,I.lnew (t':=Ŧ) (ËX i) #[fe,Qd],rfl,q _ Ép)
universe E
universe E.L2
namespace Att
open PySem PySem.W PySem.Calls PyProof.Rows
theorem Zg0{P:Params}{h:aI}:∀ (ns:À Int) (vs:À ae),WellAll P h vs (Äa WData.int)->ÆT vs ns:=by
 intro ns;induction ns with
 | nil=>intro vs w;rw[hL,QaY,w];exact .nil
 | Ë n ns c =>
  intro vs w;rw[Ql]at w;cases w with
  | Ë a b=>cases a;exact .cons _ _ (c _ b)
theorem ZoK{l:OpenLaw}{n:Nat}(hn:l.most=U n){P:Params}{h:aI}{args:À WData}{e:ê}
  (f:l.row.toRowW.claim.pre args=true) (i:WellAll P h e args) :
  X3 λa vs ns=>e=[è a]/\args=[WData.list (Äa WData.int)]/\Þ a=U { cls:=Ĺ,Ò:=.seq Åk }/\ÆT vs ns/\ĩ<=n:=by
 have j:WShape.hasAll [] args [.list .int]=true:=(pre_splitW f).1;have g:l.pre.holds [] { args:=args }=true:=(pre_splitW f).2;obtain d|r|rfl|k|m:=hasAllW_cons j;obtain rfl:=hasAllW_nil m;obtain xs|rfl|o:=hasW_list k;obtain ns|rfl:=items_int o;have p:ĩ<=n:=by
  unfold OpenLaw.pre at g;have b:(WTm.not (.lt (.lit #[hx,n]) (.len (.arg 0)))).holds [] { args:=[.list (Äa .int)] }=true:=by have b:=(holds_andW g).1;rw[hn]at b;exact b
  have c:=condW_of b (w_not (w_lt w_lit (w_len_list (w_arg rfl))));rw[Qa]at c;refine ÕD λq=>?_;have s:(n:Int)<#[g8,ĩ]:=by lia
  first
   | (rw[đ s]at c;exact Ç c Ì)
   | (simp at c;lia)
 cases i with
 | Ë t u =>
  cases u;cases t with
  | list v w=>exact(_,_,ns,rfl,rfl,v,Zg0 ns _ w,p)
theorem ZoQ(l:OpenLaw)(args:À WData):l.row.toRowW.claim.post args Éq args=true :=
 postW_of (r:=Ìb) (X:=(true == true))
  (show WShape.has [] Éq .bool=true by first|rfl|decide|simp[WShape.has,WShape.arms,WShape.armsAll])
  (show (WTm.eq .res (.lit Éq)).value [] { args:=args,res:=U Éq,after:=args }=U (.bool (true == true)) from w_eq_bool (w_res rfl) w_lit) rfl
theorem attach_call{l:OpenLaw}{n:Nat}{q:aw}{j:Ê}{k:ÐG}{m:aF->aI->Prop}{d:DefRec}
  (hn:l.most=U n) (s:ÐH)
  (ŧ:∀ (w:aF) (ÀL b:aj) (mg g:ah->Ã ae) (fa:aa) (o:aN) (h c i:ae) (a:aa) (vs:À ae) (ns:À Int),
   Ground q j [] k w ÀL mg g b.heap->m w b.heap ->
   b.heap.get? fa=U o->Ζ=.func (docDef Ér d.params d.body d.scope h c i)->b.heap.CodeRec c Ér->mg Ér=U (.ref fa) ->
   b.heap.get? a=U { cls:=Ĺ,Ò:=.seq Åk }->ÆT vs ns->ĩ<=n->b.gens = #[] ->
   bI (aA l.prog w) Ål ÐI (λr e=>r=.ok (.ret Éq)/\OldK b.heap e.heap/\e.os=b.os/\Â1 e.gens) b) :
  WalkO q j k m Ìb d [] ÐJ:=by
 intro w ÀL b mg g G Y fa o h c i t kV u hd v p hmg x args uZ as y hlay oY z pY;obtain rfl:t=.none:=Dflts.none p s;obtain rfl:kV=.none:=Dflts.noKw p;obtain a|vs|ns|rfl|rfl|A|B|C:=ZoK hn y z;refine enter_call (ÆL (ŧ w ÀL b mg g fa o h c i a vs ns G Y u (fd_plain hd) v hmg A B C x) λr e D=>?_);obtain rfl|E|F|H:=D;exact(.inl (.bool true,.bool true,[],rfl,λ_=>rfl,.bool true,ZoQ l _,λ_=>(List.Pairwise.nil,λ_ I=>(nomatch I))),E,F,H)
universe E.Att
namespace L2
open PySem PySem.Spec PyProof.Rows
theorem Lk:∀ {vs:À ae} {ns:À Int},ÆT vs ns->ZH ψ vs
 | _,_,.nil=>.nil
 | _,_,.cons n t h=>.cons És (Lk h)
def P9(H:Hp):Prop:=∀b,H b=af\/X2 λo xs=>H b=U (.frz o ÁV)
theorem ZqD{P:aw}{w:aF}{K:Å}{mg A:Ă}{CX:CXT}{k:Nat}{fa a:aa}{E:bx}{x:ah}{sp:Sp}{c:aj}{vs:ê}{ns:Ô}
  (KX:Ŵ ÆA) (G:ÐK aM mg) (hb:ÐK Ïq A) (B:∀x:ah,x ≠ "__name__"->A x=cV x) (Q:c.heap.NoLimit) (R:c.gens = #[])
  (ha:ÐL a=U { cls:=Ĺ,Ò:=.seq Åk }) (hi:ÆT vs ns) (hl:ËO) (hr:Zt k Ål)
  (F:∀f:aI,Ŵ f->f.Ns aM mg->YU P w K mg f CX k fa E [x] sp) (S:∀ (s:aj) (u:ae),ÆI s E ([u],[]) [(x,u,)])
  (T:∀H:Hp,P9 H->SqL K H a ψ->sp ÁZ H (λv _=>v=.bl true) λ_ _ _=>Ē)
  (W:∀H e g,CX [] H c Ìc e g->Ē) :
  bI ÃO Ål ÐI ÕE c:=by
 have I:=Lk hi;have X:=hi.length;have core:∀H:Hp,P9 H->SqL K H a ψ->HOk P w H ÆA->(∀b,H b≠af->b=a)->(H a≠af->ı a=af) ->
   bI ÃO Ål ÐI ÕE c:=by
  intro H J Y i L Z;have M:∀ {b:aa} {o:aN},ÐL b=U o->H b=af->(ÐN).get? b=U o:=λe n=>Zp8 e n;have uW:∀ {b:aa} {o:aN} {j:ĉ ÐM} {l:Nat},ÐL b=U o->Ζ=.dict j l->H b=af:=λ{b o j l} e d=>by
   cases q:H b with
   | none=>rfl
   | some u=>have C:b=a:=L b #[sn,q];rw[hs,C,ha,e];have d':Data.seq Åk _=Data.dict j l:=d;cases d'
  have y:∀ {b:aa} {m:ah->Ã ae},ÐK b m->(ÐN).Ns b m:=λ{b m} ⟨o,j,l,e,d,r⟩=>(o,j,l,M e (uW e d),d,r);have N:Ŵ ÐN:=λb o e=>M (KX b o e) (by
   cases q:H b with
   | none=>rfl
   | some u=>have C:b=a:=L b #[sn,q];subst C;rw[Z #[sn,q]]at e;cases e)
  have hM:Mod K mg ÐN:=(N,y G,(A,y hb,B),let ⟨mc,h1,h2⟩:=Q;(mc,y h1,h2));have e0:Vx P w K mg ÐN Ål [] c H:=(rfl,hM,λb o e=>Ztk e,È6 (ZoP _ _),trivial,λb hb=>Ç #[r4,hb] Ó,i,.of_eq R);refine ÆL ((F _ N (y G)).run Ål [] c H ([.ref a],[]) ÁZ ÁZ _ _ hr e0 (S c Ĩ) Ðm (T H J Y)) λr g h=>?_;cases r with
  | error e=>exact(W H e g h).elim
  | ok fl =>
   cases fl with
   | next=>exact Â3 h
   | brk=>exact Â3 h
   | Λ=>exact Â3 h
   | ret u =>
    obtain v|H'|os|p|un|EM|r'|q:=h;have q':v=.bl true:=q;subst q';obtain rfl:u=ÄX true:=r';refine(rfl,OldK.of_keep λb o e=>?_,os,p);cases q:H b with
    | none=>exact un.keep b o e q (by intro z;exact Ç #[r4,z] Ó) Ó
    | some u =>
     rcases J b with z|⟨ob,xs,z⟩
     ·rw[fL,q,z,z]
     ·have z2:=un.frzs b ob _ z;obtain O|_:=i b _ z;obtain e2|_:=EM b _ z2;rw[fL,e,O,O];exact e2
 cases D:ı a with
 | some o=>have e:=KX a o D;rw[hL,ha,e];refine core (λ_=>af) (λ_=>.inl rfl) (.inr (_,Åk,_,D,rfl,rfl,rfl,by rw[QS,X];exact hl,by simpa using I)) (λb u z=>by have t:(af:Ã HO)=U u:=z;cases t) (λb z=>Ç rfl z) λz=>Ç rfl z
 | none =>
  refine core (λb=>if b=a then U (.frz { cls:=Ĺ,Ò:=.seq Åk } (.lst ψ)) else af) (λb=>?_) (.inl (.inr ({ cls:=Ĺ,Ò:=.seq Åk },È rfl))) #[iw,b,u,z] (λb z=>?_) λ_=>D
  ·by_cases hb:b=a
   ·exact .inr (_,_,È hb)
   ·exact .inl (Æ hb)
  ·by_cases hb:b=a
   ·have t:=(È hb).symm.trans z;cases t;subst hb;exact(ha,by rw[Qa];exact hl,vs,_,I,ha)
   ·have t:=(Æ hb).symm.trans z;cases t
  ·by_cases hb:b=a
   ·exact hb
   ·exact Ç (Æ hb) z
theorem walk_of{l:ÐO}{n k:Nat}{q:aw}{i:Ê}{j:ÐG}{c:aF->aI->Prop}{d:DefRec}{K:Params->Å}{CX:aF->CXT}{sp:aF->Sp}{x:ah}
  (hn:l.most=U n) (m:n<=aq) (p:ÐH) (hr:Zt k Ål)
  (r:∀ (w:aF) (h:aI),c w h->(Ét).In h)
  (F:∀ (w:aF) (mg:ah->Ã ae) (fa:aa) (h:aI),(Ét).In h->h.Ns aM mg->mg Ér=U (.ref fa) ->
   ∃b:bx,#[hn,u,b,x] /\
    ∀Â:aI,(Ét).In Â->ÈC aM mg->YU l.prog w Ét mg Â (CX w) k fa b [x] (sp w))
  (t:∀ (w:aF) (H:Hp) (a:aa) (ns:À Int),ĩ<=n->P9 H->SqL Ét H a ψ->sp w ÁZ H (λv _=>v=.bl true) λ_ _ _=>Ē)
  (y:∀ (w:aF) (H:Hp) (s:aj) (e:ae) (s':aj),CX w [] H s Ìc e s'->Ē) :
  PySem.W.WalkO q i j c Ìb d [] ÐJ:=by
 refine Att.attach_call hn p λw ÀL z mg mb fa o pm cd fh a vs ns G Y ho hd gj hmg A B g C=>?_;have KX:=r w _ Y;obtain b|D|E:=F w mg fa _ KX G.T.g hmg;exact ZqD KX G.T.g G.T.b G.T.builtins G.T.nolimit C A B (Qk g m) hr E D (λH I J=>t w H a ns g I J) λH e s'=>y w H z e s'
def Z9(s:aL)(j:Nat):aL:=match s with
 | .ClassDef _ _ _ a _ _ _ _ _ _ _=>Éu j (.Pass (0,0,0,0))
 | _=>.Pass (0,0,0,0)
def Wr(s:aL):Arguments:=match s with
 | .FunctionDef _ a _ _ _ _ _ _ _ _=>a
 | _=>{ posonlyargs:=[],args:=[],vararg:=af,kwonlyargs:=[],kw_defaults:=[],kwarg:=af,defaults:=[] }
def XO(s:aL):À aL:=match s with
 | .FunctionDef _ _ b _ _ _ _ _ _ _=>b
 | _=>[]
def Zh(s:aL):bn:=match s with
 | .FunctionDef _ _ _ _ _ _ a _ _ _=>a
 | _=>{ kind:=.function,Á2:=[],isGenerator:=false,isCoroutine:=false }
abbrev CX0:CXT:=λ_ _ _ _ _ _=>Ē
abbrev E0:XK:=λ_ _ _=>Ē
theorem Vw{X:Cx}:Wa CX0 X E0:=λ_ _ _ _ _ _ _ h=>ω
structure Fun (K:Å) (x aU:ah) (st:aL) (f:aa) (fd:bx):Prop where
 ex:X9 λ(oc:ae) (od:Ã aa) (kV fh pm:ae) (an:Ã aa) (aO ct:ae) (mN:ĉ (Ã ae)) =>
  fd=Åm x aU (Wr st) ÂB (Zh st) .none kV fh pm an aO ct/\ı f=U (oc,od,.func fd,mN)/\Ée K aO aU=true
 kp:À6 K ą=true
section
variable {P:aw} {w:aF} {K:Å} {mg:ah->Ã ae} {Â:aI}
theorem Fun.ok{x b:ah}{st:aL}{f:aa}{c:bx}{N ps:Ê}{k:Nat}{sp:Sp}(F:Fun K x b st f c)(S:Äb)(len:Ãa)
  (d:∀ (a:ae) (A:aD) (Û:À Env) (s:aj) (H:Hp) (vs:À V) (Q:VK) (E:XK),Zt k #[fr,b]->sp vs H Q E ->
   ∃t,PSs (Xz CX0 P w K mg Â N b (Zh st) f a A Û s H E).nox ÂB t/\t { nx:=Ãb,rt:=Q } Áy H):YU P w K mg Â CX0 (k+1) f c ps sp:=by
 rw[y7,fh,pm,an,a,e];refine Lv lk e S len λA Û s H vs Q E g i=>?_;obtain t|h|q:=d a A Û s H vs Q E g i;exact(t,h.nox,q)
theorem Fun.binds{x e:ah}{st:aL}{f:aa}{g:bx}{ps:Ê}(F:Fun K x e st f g)
  (h:#[ej,a,c,d,e]):Yy K g ps []:=by
 rw[y7,a,b,c,d,gj];exact .all (h kV a b c d ct)
theorem WG{x a:ah}{st:aL}{f:aa}{h:ae}{i d:ď}{j:Ŭ}{kV e g b ct:ae}(l:ı f=U (h,i,.func #[gw,a,d,b],j))
  (c:Ée K b a=true) (k:À6 K ą=true):Fun K x a st f #[gw,a,d,b]:=((h,i,kV,e,g,d,b,ct,j,rfl,l,c),k)
universe E
theorem T9{A:aD}{k:Nat}(hr:Zt k A):Á0+1<Âz:=QaJ (Nat.add_le_add_left (by decide:1<=64) _) Ìd
theorem ZA{n:Nat}(h:n<=1000):n<aq:=QaJ h Ì
section
variable {X:Cx}
theorem pv(i:Nat){x:ah}{pos:Pos}(a:Â2:=by rfl)(b:#[ij,Vis]:=by first|exact Or.inl rfl|exact Év â|exact Év Ån)(hd:İ:=by decide)
  (c:ËE:=by decide):PE X ÀN (S4 i):=Ru a b hd c
universe E
theorem Y9{A B:Prop}(h:B):if false=true then A else B:=by rw[Æ Qw];exact h
theorem YH{A B:Prop}(h:A):if true=true then A else B:=by rw[È rfl];exact h
theorem Y1{c A B:Prop}[Éw c](h1:c->A)(h2:¬ c->B):if c then A else B:=by
 by_cases h:c
 ·rw[È h];exact h1 h
 ·rw[Æ h];exact h2 h
theorem WF{c A B:Prop}[Éw c](hc:c)(h:B):if (!decide c)=true then A else B:=by rw[đ hc];exact Y9 h
def ZB(H H':Hp):Prop:=#[eC,o,H,H']
theorem ÂC(H:Hp):ZB H H:=λ_ _ h=>h
theorem ZB.trans{H d e:Hp}(a:ZB H d)(b:ZB d e):ZB H e:=λc o h=>b c o (a c o h)
theorem ZB.free{H H':Hp}(e:Àa){l:aa}(h:H' l=Option.none):H l=Option.none:=by
 cases q:H l with
 | none=>rfl
 | some o=>rw[e l o q]at h;cases h
theorem ZB.seq{K:Å}{H H':Hp}{a:aa}{xs:Ą}(e:Àa)(h:SqL K H a xs):SqL K H' a xs:=by
 rcases h with(h|⟨o,h⟩)|h
 ·exact .inl (.inl (e _ _ h))
 ·exact .inl (.inr (o,e _ _ h))
 ·exact .inr h
def Y4(b:#[hz,aa]):À (ah×aT)->À (ah×aa)->À (ah×aa)
 | [],a=>a
 | (n,k,)::r,a=>if k == .free then Y4 b r ((n,(b.lookup n).getD 0,)::a) else Y4 b r a
theorem Lj{d:bn}{env:Env}(h:∀y∈Éx,y.2=.free->∃c,Ïr y.1=U c) :
  ÐP d env=pure (Y4 Åo Éx []):=by
 have go:∀ (a:À (ah×aT)) (b:À (ah×aa)),(∀y∈a,y.2=.free->∃c,Ïr y.1=U c) ->
   (forIn a b λ(x:ah×aT) (r:À (ah×aa))=>if (x.2 == Äc)=true then (do let c <- cellOf env x.1;pure (Ìe ((x.1,c,)::r))) else pure (Ìe r):Sem (À (ah×aa)))=pure (Y4 Åo a b):=by
  intro a;induction a with
  | nil=>intro b _;rfl
  | Ë y r j =>
   intro b f;rw[el,n,k,y];rw[ÐQ];cases e:(k == Äc) with
   | false =>
    have g:Y4 Åo ((n,k,)::r) b=Y4 Åo r b:=by show (if Ãg=true then _ else _)=_;rw[e];rfl
    rw[g,<- j b λz i=>f z (Qm _ i)];simp only[e,Éy,Åj,pure_bind]
   | true =>
    have m:k=.free:=by simpa using e
    obtain c|l:=f (n,k,) QU m;have g:Y4 Åo ((n,k,)::r) b=Y4 Åo r ((n,c,)::b):=by show (if Ãg=true then _ else _)=_;rw[e,l];rfl
    have o:cellOf env n=pure c:=by unfold cellOf;rw[l]
    rw[g,<- j ((n,c,)::b) λz i=>f z (Qm _ i)];simp only[e,ÆX,o,pure_bind]
 have q:=go Éx [] h;unfold ÐP;first
  | (rw[show (forIn Éx ([]:À (ah×aa)) _:Sem (À (ah×aa)))=pure (Y4 Åo Éx []) from q];rfl)
  | (simp only[bind_pure];exact q)
  | exact q
theorem P8(a:#[hz,aa]):∀ (Á2:À (ah×aT)) (b:À (ah×aa)) (x:ah) (c:aa),(Y4 a Á2 b).lookup x=U c ->
  (∃y∈Á2,y.1=x/\y.2=.free/\c=(a.lookup x).getD 0)\/b.lookup x=U c
 | [],b,x,c,h=>.inr h
 | (n,k,)::r,b,x,c,h=>by
  by_cases hk:Ãg=true
  ·have e:ÕF:=by show (if Ãg=true then _ else _)=_;rw[È hk]
   rw[e]at h;rcases P8 a r _ x c h with⟨y,d,q⟩|q
   ·exact .inl (y,Qm _ d,q)
   ·rw[QaG]at q;by_cases f:(x == n)=true
    ·rw[f]at q;have g:x=n:=by simpa using f
     subst g;exact .inl ((x,k,),QU,rfl,by simpa using hk,(Qu q).symm)
    ·have g:ÐR:=by simpa using f
     rw[g]at q;exact .inr q
  ·have e:ÕG:=by show (if Ãg=true then _ else _)=_;rw[Æ hk]
   rw[e]at h;rcases P8 a r _ x c h with⟨y,d,q⟩|q
   ·exact .inl (y,Qm _ d,q)
   ·exact .inr q
theorem P7(a:#[hz,aa]):∀ (Á2:À (ah×aT)) (b:À (ah×aa)) (x:ah),((∃y∈Á2,y.1=x/\y.2=.free)\/∃c,b.lookup x=U c) ->
  ∃c,(Y4 a Á2 b).lookup x=U c
 | [],b,x,h=>by
  rcases h with⟨y,hy,_⟩|h
  ·cases hy
  ·exact h
 | (n,k,)::r,b,x,h=>by
  by_cases hk:Ãg=true
  ·have e:ÕF:=by show (if Ãg=true then _ else _)=_;rw[È hk]
   rw[e];refine P7 a r _ x ?_;by_cases d:(x == n)=true
   ·exact .inr (_,by rw[QaG,d])
   ·have f:ÐR:=by simpa using d
    rcases h with⟨y,hy,q⟩|⟨c,q⟩
    ·rcases ħ hy with rfl|hy
     ·exact Ç #[ea,q.1.symm] d
     ·exact .inl (y,hy,q)
    ·exact .inr (c,by rw[QaG,f];exact q)
  ·have e:ÕG:=by show (if Ãg=true then _ else _)=_;rw[Æ hk]
   rw[e];refine P7 a r _ x ?_;rcases h with⟨y,hy,q⟩|h
   ·rcases ħ hy with rfl|hy
    ·exact Ç #[ea,q.2] hk
    ·exact .inl (y,hy,q)
   ·exact .inr h
structure Z2 (N N':Ê) (o c:bn):Prop where
 kind:c.kind=.function
 okind:o.kind=.function
 nocell:∀y∈ÂD,y.2≠.cell
 loc:∀y∈ÂD,y.2=.local->ŭ y.1=U .local
 Η:∀y∈ÂD,y.2=.free->ŭ y.1=U .free/\ÕH
 len:ģ<=Ìf
 same:∀i∈ÂE ģ,∀x∈N'[i]?,ŭ x=U .local\/ŭ x=U .free->ŭ x=U .free/\N[i]? = U x
 nd:N'.Nodup
def YB(X:Cx)(c:bn)(a:Ê)(C:aa)(s:aj)(H:Hp)(fp:Ş):Cx :=
 { X with N:=a,ÀL:=s,H₀:=H,env:=bJ c (Y4 ÐS ÂD []) C Î,Û:=Θ,stack:=Θ,ex:=fp,fn:=λ_=>false,pn:=[],xe:=λ_ _=>Ē }
theorem Li{env:Env}(c:ÐT=.function):∀ (Á2:À (ah×aT)) (x:ah),
  (names.map λ(p:ah×aT)=>if (p.2 == Äc&&ÐT == .function&&Æm p.1 == U .cell)=true then (p.1,Ìg,) else (p.1,p.2,)).lookup x =
   match names.lookup x with
   | some .free=>if Æm x=U .cell then U .cell else U .free
   | k=>k
 | [],x=>rfl
 | (n,k,)::r,x=>by
  have ih:=Li c r x;rw[Ql];by_cases f:(x == n)=true
  ·have a:x=n:=by simpa using f
   subst a;have d:À5 x ((x,k,)::r)=U k:=by rw[QaG];simp
   rw[d];by_cases e:k=.free
   ·subst e;by_cases b:Æm x=U .cell
    ·simp[Æh,c,b]
    ·simp[Æh,c,b]
   ·have g:Ãg=false:=by simpa using e
    rw[g];simp only[Bool.false_and,Éy,Åj,Æh,ÕI];all_goals (cases k<;>first|rfl|exact #[y5,e])
  ·have a:ÐR:=by simpa using f
   have d:À5 x ((n,k,)::r)=À5 x r:=by rw[QaG,a]
   rw[d,<- ih];by_cases b:(k == Äc&&ÐT == .function&&Æm n == U .cell)=true
   ·simp only[b,ÆX,Æh,a]
   ·simp only[b,Åj,Æh,a,Éy]
section
variable {X:Cx} {N N':À ah} {o c:bn}
theorem T8(S:Àb)(a:Àc)(b:#[hz,aa])(C:aa)(x:ah):(bJ c b C Î).kindOf x =
  match ŭ x with
  | some .free=>if Ât x=U .cell then U .cell else U .free
  | k=>k:=Li (env:=Î) #[ed,a,S.okind] ÂD x
theorem SR{Á2:#[hz,aT]}{x:ah}{k:aT}(h:names.lookup x=U k):(x,k,)∈Á2:=Qar h
theorem UX(S:Àb)(g:Àc)(ok:X.Ok){x:ah}{a:aa}(h:(Äd).lookup x=U a) :
  Χ x=U a/\ŭ x=U .free:=by
 rcases P8 _ _ _ _ _ h with⟨y,i,rfl,j,e⟩|q
 ·have d:=S.free y i j;have k:#[sF,Ât,y.1]:=by show Âx y.1=_\/Âx y.1=_;rw[g];exact d.2
  obtain b|f:=ok.has y.1 k;rw[f]at e;exact(by rw[f,e];rfl,d.1)
 ·cases q
theorem Lh(S:Àb)(d:Àc)(ok:X.Ok){x:ah}(h:ÐU):∃a,(Äd).lookup x=U a/\Χ x=U a:=by obtain a|b:=P7 ÐS ÂD [] x (.inl ((x,.free,),SR h,rfl,rfl));exact(a,b,(UX S d ok b).1)
theorem ZsI(S:Àb)(f:Àc){l:ċ}{n:St}{H:Hp}{s:aj}{fp:Ş}(I:Inv X l n H s)
  (i:#[rM,l,H]) (ht:ÕJ):(ÛZ).Ok where
 mod:=Ët
 kind:=ÆS
 glob:=ÐV
 blt:=I.ok.blt
 above:=Qj _
 inj:=λx y a p r=>I.ok.inj x y a (UX S f Ω p).1 (UX S f Ω r).1
 has:=λx t=>by
  have e:=#[sX,f,Ï];have g:#[82].kindOf x=U .cell\/#[82].kindOf x=U .free:=t;rw[e]at g;cases q:ŭ x with
  | none=>rw[q]at g;rcases g with z|z<;>cases z
  | some k =>
   by_cases m:k=.free
   ·subst m;obtain a|u|_:=Lh S f Ω q;exact(a,u)
   ·rw[q]at g;have v:k=.cell:=by cases k<;>first|rfl|exact #[y5,m]|(rcases g with z|z<;>cases z)
    subst v;exact ÕK
 cab:=λx a h=>by cases (show false=true from h)
 hd:=Át
 frames:=ÆK
 stk:=ÀM
 exf:=λb d=>(QB (ht b d),λx a h=>(i b d).2.2.2.2.1 x a (UX S f Ω h).1)
 bs:=λb j e=>I.bs b j e
 bsz:=Qk ÈI I.sz
 noex:=λb j e d=>by
  rcases(i b d).2.2.2.1 with z|z
  ·exact Æo b j e z
  ·exact ÐW
 exfs:=λb d w=>by
  rcases ħ (I.stkSub b w) with z|z
  ·exact(i b d).2.1 z
  ·exact(i b d).2.2.1 z
 funs:=I.stack
 frf:=Ði
theorem Lg(S:Àb)(t:X.N=N)(g:Àc){C:ċ}{f:St}{H:Hp}{s:aj}{fp:Ş}{w:aI}{tk:Nat}{D:Ă}(I:Inv X C f H s)
  (F:#[rM,C,H]) (ht:ÕJ) (G:w.Ns Ï D) (hk:#[eC,ob,ì,w.get?]) :
  Inv ÛZ [] #[sE,f,Åp] H { s with Ø:=w,ï:=tk } where
 ok:=ZsI S g I F ht
 os:=rfl
 bare:=Ι
 Â:=ÈB hk
 loc:=by
  refine(D,G,λi x v J j K=>?_);rw[g6,m,hn,L,Ť];have M:Á3=ģ:=by rw[Àr,t]
  have y:i<Á3:=by
   by_cases y:i<Á3
   ·exact y
   ·rw[QY Á,Õj]at j;split at j<;>cases j
  have O:f[i]? = U (U v):=by rw[QT y]at j;exact j
  have E:=#[sX,g,Ï];have P:ŭ x=U .local\/ŭ x=U .free:=by
   have n:#[82].kindOf x=U .local\/#[82].kindOf x=U .cell\/#[82].kindOf x=U .free:=K;rw[E]at n;cases q:ŭ x with
   | none=>rw[q]at n;rcases n with z|z|z<;>cases z
   | some k =>
    cases k with
    | «local»=>exact ÀM
    | Η=>exact Àt
    | cell=>exact ÕK
    | _=>rw[q]at n;rcases n with z|z|z<;>cases z
  obtain A|B:=S.same i (Ïp Á) x (by rw[show N'[i]? = U x from J];rfl) P;have hok:#[sF,Ât,x]:=by show Âx x=_\/Âx x=_;rw[g];exact(S.free _ (SR A) rfl).2
  obtain u|r|l:=L i x v #[ed,t,B] O (.inr hok);refine(u,r,.inr Ìh)
  ·show (bJ c Äd Ï Î).kindOf x=U .cell\/#[82].kindOf x=U .free;rw[E,A];show (if Ât x=U .cell then U Ìg else U Äc)=U .cell\/(if Ât x=U .cell then U Ìg else U Äc)=U .free;by_cases q:Ât x=U .cell
   ·rw[È q];exact ÀM
   ·rw[Æ q];exact Àt
  ·obtain a|Q|R:=Lh S g Ω A;rw[zh,a,Q];rcases l with⟨z,_⟩|⟨_,a',e,ob,T,hd⟩
   ·rcases hok with q|q<;>rw[q]at z<;>cases z
   ·rw[fL,R,e,e];exact(ob,hk _ _ T,hd)
 cell:=λx a h=>by obtain v|ob|e|d:=π x a (UX S g Ω h).1;exact(v,ob,hk _ _ e,d)
 Η:=ÐE
 freeC:=λx a h=>Às x a (UX S g Ω h).1
 pin:=λp V=>Ç (show p∈Ë3 from V) Ó
 hok:=I.hok.kept hk
 len:=by
  have M:Á3=ģ:=by rw[Àr,t]
  have:=S.len;show (f++Áx Åp af).length=Ìf;rw[Qd,QaP];lia
universe E
abbrev P6(a:į)(env:Env):Sem Ñ :=
 forIn a true λk r=>if r=true then do let ok <- isTrue k env (ă k env);pure (Ìe ok) else pure (Ìe r)
def PTs(X:Cx)(c:į)(t:TT):Prop :=
 ∀ (b:À (aa×aN)) (s:aj) (a:St) (H:Hp) (Q:Ñ->Hp->Prop),Inv X b a H s->t a H Q->ô (P6 c Î) (TP X b a Q) ç s
def Vv:TT:=λ_ H Q=>Q true H
theorem Xx{X:Cx}:PTs X [] Vv:=λ_ _ _ H _ I h=>wpAny_tests_nil (H,I,h)
theorem ZrR{X:Cx}{e:aK}{t:TT}(h:PT X e t):PTs X [e] t:=λa s b H Q I q=>wpAny_tests_one (h a s b H Q I q)
section
variable {ÿ:aw} {w:aF} {A:aD} {R:È9->aj->Prop} {s:aj}
theorem ZjH{c b Ļ:aK}{d:į}{k:bn}{pos:Pos}{it f:ae}{env:Env}{E:ø}(I:#[y2,Nat])
  (B:∀e s',E e s'->Ē)
  (turn:∀n s,I n s->av à A (Â4 it) (λr g=>match r with
   | none=>R Æ0 g
   | some v=>av à A (dF b it v) (λ_ ÀL=>av à A (Âu b env v) (λ_ l =>
     av à A (P6 d env) (λok i =>
      if ok=true then av à A (ă c env) (λx o =>
       av à A (ŧ #[fb,"list.append"] [f,x]) (λ_ p=>∃m,m<n/\I m p) E o) E i
      else ∃m,m<n/\I m i) E l) E ÀL) E g) E s)
  (n:Nat) (h:I n s):bI à A (.compLoop #[gN,c,b,d,k] 0 it f env) R s:=by
 have go:ÕL:=
  λ{j t Q s} q=>aX q Éz λe s' z=>(B e s' z).elim
 refine codeAny_loop rfl I #[iw,n,s,C] n h;show av _ A ((compTurn #[gN,c,b,d,k] 0 it f env).onRaise (λx=>do Æ1 x env;ÕM x)) _ _ s;refine wpAny_noted ?_;rw[compTurn_list];refine am (bC (am (thn (go (turn n s C)) λr g u=>?_)));cases r with
 | none=>exact aB u
 | some v =>
  refine am (thn (go u) λ_ ÀL a=>am (thn (go a) λ_ l D=>am (thn (go D) λok i y=>?_)));cases ok with
  | false=>exact aB (rfl,y)
  | true=>exact am (am (thn (go y) λx o F=>am (thn (go F) λ_ p G=>aB (aB (rfl,G)))))
universe E
def Vu(J:It)(D:aa)(k:Nat)(q:St)(r:Hp)(g:TG)(s:TT)(t:TE)(Q:VK):Prop :=
 ∃W:Nat->Nat->À V->St->Hp->Prop,(∃m,W 0 m [] #[sE,q,k] #[gb,r,D]) /\
  ∀i m a e c,W i m a e c->ÕN \/
   (J.go i c/\∃N:À V->St->Hp->Prop,ÕO/\∀x n,J.yld i c x n->g x e n λd u=>s d u λb o =>
    if b=true then t d o λy p=>p D=U (.lst a)/\ĳ<aq/\N (a++[y]) d #[hg,p,a,y] else N a d o)
def P0(n:Nat)(c:TI)(g:TG)(d:TT)(e:TE):TE:=λa H Q=>c a H λJ b=>∀D,b D=af->Vu J D n a b g d e Q
section
variable {X:Cx} {N N':À ah} {o c:bn}
theorem Lf{iD tg Ļ:aK}{dH:į}{pos cZ:Pos}{wi:TI}{g:TG}{tc:TT}{te:TE}{use:Ã (ae->Sem Unit)}{QQ:ø}(S:Àb)(hN:X.N=N)(ho:Àc)(hc:ť)
  (hi:PI X tg Ļ wi) (hg:#[eU,PG,tg,g]) (ht:#[eU,PTs,dH,tc]) (he:#[eU,PE,iD,te])
  (hs:ÆC) {Z:ċ} {s:aj} {σ:St} {H:Hp} {Q:VK} (I:Inv X Z σ H s) (h:P0 Åp wi g tc te σ H Q)
  (post:∀ (D C:aa) (t:aj) (l:Hp) (m:ah->Ã ae),Inv X Z σ l t->l C=af->t.heap.Ns C m->C≠ĺ->ŵ<=C->#[gF,a,C]->ÕP ->
   Q ÀP l->ÂF Ģ X.A ç use QQ ÀP C Æ0 t) :
  ô (Ìi ÐX c Î cZ (Ìj []) false #[fB,Ļ] use) QQ ç s:=by
 have rh:ÕQ:=Lj λy hy hf=>by refine ËC y.1 ?_;rw[cT]
 rw[bd];obtain it|fp|tn|J|G|e|I2|T|lQ|f2|hR:=h2;subst e;have hD:G Á4=af:=I2.fresh;have M:Inv X Z σ ÉA { f with Ø:=Äe { cls:=.type "list",Ò:=.seq ([]:À ae).toArray } } :=
  I2.lnew (ys:=[]) (its:=[]) (t':=ÀQ) .nil (Qt _)
 have u6:ÕR:=λb k=>by obtain A|e|_:=T.obj 0 _ lQ b k;exact Qs e
 refine bw (ÕS S.nocell ÕT #[iw,K,oZ,o5] ÆS);have O:∃j:aj,j={ f with Ø:=Äe { cls:=.type "list",Ò:=.seq ([]:À ae).toArray } }:=ü;rw[el,j,rj,O];have O:Æ2=Äe { cls:=Ĺ,Ò:=.seq ([]:À ae).toArray }:=by rw[(rj)]
 have p7:ÕU:=by rw[O,Q3]
 rw[rj];have f3:#[rM,Z,ÉA]:=λb k=>(by rw[Zf (QB (u6 b k))];exact(f2 b k).1,(f2 b k).2);have tJ:tn 0 Æ2:=ÈV 0 _ _ lQ λb _ A e=>by rw[O];exact Qc _ e
 rw[<- rj]at M;show bI Ģ X.A (.compStart _ 0 Ás Àv (bJ c Äd #[kg].objs.size Î))
  (ÂF Ģ X.A ç use QQ Àv #[kg].objs.size)
  { f with Ø:=K,ï:=ÀQ+([]:À (ah×ae)).length }
 have eR:K.Ns Ÿ ÕV:=by rw[O];exact oZ
 have p8:#[eC,A,j.heap.get?,K.get?]:=λb A e=>by rw[O]at e;exact ÕW
 rw[<- O];have Br:({ f with Ø:=K,ï:=ÀQ+([]:À (ah×ae)).length }:aj)={ j with Ø:=K,ï:=ÀQ }:=by rw[(rj)];rfl
 rw[lp];have I4:=Lg (tk:=ÀQ) S hN ho M f3 u7 eR p8;have u8:tn 0 K:=ÕX;generalize w:YB X c N' Ÿ j (upd G Á4 (.lst [])) fp=Y at I4;have P:Y.prog=ò:=by rw[<- w];rfl
 have R:Y.w=X.w:=by rw[<- w];rfl
 have YK:Y.K=X.K:=by rw[<- w];rfl
 have Yc:Y.calm=true:=by rw[<- w];exact hc
 have YA:Y.A=X.A:=by rw[<- w];rfl
 have p9:ÕY:=by rw[<- w];rfl
 have Yl:ÕZ:=by rw[(p9)];rfl
 have mO:Y.xe=λ_ _=>Ē:=by rw[<- w];rfl
 rw[eO,u9,hg,ÉA,fX,ht];have gF:=he Ÿ j ÉA fp;rw[w]at u9 fX gF;have il:∀ {B:Hp},#[hT,B]->∀b∈fp,Xm Y [] B b:=λ{B} hn b k=>by
  rw[63];have rm:p∈Ë3:=by
   have:Y.pn=[]:=by rw[<- w];rfl
   rw[this]at hp;exact hp
  cases rm
 have fin:∀ (t:aj) (L:St) (l:Hp),Inv Y [] L l t->Q Àv l->ÂF Ģ X.A ç use QQ Àv Ÿ Æ0 t:=λt L l F q=>by
  rw[tB];have o6:l Ÿ=af:=by have:=F.free;rw[zk,Yl]
  have un:Un Ëz fp ÉA l Æ2 t.heap:=by have:=F.base;rw[hE,w]
  have Bs:t.os=j.os:=by have:=F.os;rw[hE,w]
  have jp:Õ0:=by have:=F.hok;rw[ix,P,R]
  refine post _ _ t l m (M.call' (s':=t) (ch:=fp) Bs un jp F.bare λb k=>?_) o6 hn (Q2 M.lt) M.sz #[iw,x,a,e] (λp hp=>?_) q
  ·rw[lW]
  ·obtain v|A|e'|_:=M.cell x a e;exact QB (Qs e')
  ·exact QB (Qs (M.pin p hp).1)
 have qa:bI Ģ X.A #[r8,ÐX,Ás]
   (ÂF Ģ X.A ç use QQ Àv Ÿ) { j with Ø:=K,ï:=ÀQ }:=by
  rw[<- p9,<- YA];refine ZjH (E:=ËD) (λn s'=>X4 λi ys aR B=>Inv Y [] aR B s'/\tn i À3/\#[hT,B]/\W i n ys aR B) Éz ?_ m0
   Õ1
  ·rintro n t ⟨i,ys,L,l,F,oU,qZ,w5⟩;rcases turn i n ys L l w5 with⟨stop,qn⟩|⟨go,Nn,va,step⟩
   ·refine thn (T.done Y P R YK Yc i [] t L l _ F (il qZ) oU stop) ?_;rintro r s6 ⟨hr,I6⟩;subst hr;have fq:=fin s6 L l I6 qn;rw[<- YA]at fq;exact fq
   ·refine thn (T.item Y P R YK Yc i [] t L l _ F (il qZ) oU go) ?_;rw[aN];have qb:Õ2:=λ{rp V s9} I9=>by refine Õ3;rw[gA,A,rn,k,I9.pin]
    have P1:=u9 _ s7 L H7 x u _ Bv r7 (step x H7 y7);rw[fR,P,R,P1];rw[lE];rw[fR,P,R,P2];rintro ok s9 ⟨V,I9,q9⟩;cases ok with
    | false=>rw[Æ Qw]at q9;rw[bC]
    | true=>rw[È rfl]at q9;rw[p8];have P3:=gF _ s9 km V _ I9 q9;rw[fR,P,R,P3];rintro y mP ⟨vy,iV,Bw,Bx,By,hsz,q10⟩;have P4:=Z0 (X:=Y) _ mP km iV Àv [vy] Àv [y] (λ_ B=>Nn (ys++[vy]) km B) Bw rfl (.cons Bx .nil) (_,ys,vy,rfl,rfl,By,hsz,q10);rw[fR,P,R,P4];rintro _ rq ⟨_,rA,tL,_,q11⟩;rw[sA,b1,b2,b3,qb,tL];obtain m'|gP|w11:=va _ _ _ q11;exact(m',gP,i+1,ys++[vy],km,rA,b1,b2,b3,w11)
  ·exact w0
 have lp:=T.self X.A 0 { j with Ø:=K,ï:=ÀQ } (λBz s'=>bI Ģ X.A #[r8,ÐX,Bz]
   (ÂF Ģ X.A ç use QQ Àv Ÿ) s') ÉB u8 qa
 exact codeAny_compStart_list qa Õ4
theorem Inv.let{c:ċ}{d:St}{H:Hp}{s:aj}{C:aa}{h':aI}(I:Inv X c d H s)(hn:H C=af)(f:C≠ĺ)(h1:ŵ<=C)
  (h2:∀x a,Χ x=U a->a≠C) (g:∀p∈X.pn++c,p.1≠C) (hs:#[yX,C,Ð,h']):Inv X c d H { s with Ø:=h' } :=
 À4 (t':=Ŧ) (λb h i e=>hs.extBut b h i e) hn f (.inr h1) h2 g
theorem W7{b a Ļ:aK}{d:į}{pos:Pos}{e:TI}{g:TG}{f:TT}{i:TE}(S:Àb)(j:X.N=N)(k:Àc)(hc:ť)
  (hi:PI X a Ļ e) (l:#[eU,PG,a,g]) (ht:#[eU,PTs,d,f]) (he:#[eU,PE,b,i])
  (hs:ÆC:=by intro _;rfl) :
  PE X #[gN,b,a,d,c] (P0 Åp e g f i):=by
 rw[eR,ai,σ,Q];rw[eval_ListComp];refine Lf (use:=af) S j k hc hi l ht he hs I h λD C s5 n m p r t u v w y q=>(m,t,λh' z=>?_);exact(.ref D,n,p.let r u v w y z,rfl,q)
theorem UW{i:Nat}{x:ah}{e b Ļ:aK}{f:į}{pos d k:Pos}{l:TI}{g:TG}{n:TT}{p:TE}(w:Ä6)(hx:Â2)(hl:Æs)(S:Àb)(y:X.N=N)(A:Àc)(hc:ť)
  (hi:PI X b Ļ l) (B:#[eU,PG,b,g]) (ht:#[eU,PTs,f,n]) (he:#[eU,PE,e,p])
  (E:ËG #[gN,e,b,f,c] (U (.Name x d)) k.line Î=pure true)
  (hs:ÆC:=by intro _;rfl) (F:Æu:=by first|exact ÀM|exact Àt|assumption) :
  PS X (.Assign [.Name x d] #[gN,e,b,f,c] k) (Rs (P0 Åp l g n p) (U6 i)):=by
 rw[eR,G,σ,D];rw[exec_Assign_Name_used _ _ _ _ E];refine am (bC (am ?_));show av _ X.A (do let _ <- Ìi (.ListComp e [⟨b,Ļ,f,0⟩] c pos) c Î _ (Ìj []) false (ă Ļ Î) (U (Âu (.Name x d) Î))) _ _ s;refine am (thn (Lf (QQ:=λ_ r=>SP X G D .next r) (use:=U (Âu (.Name x d) Î)) S y A hc hi B ht he hs I h ?_) λ_ r J=>aB (aB J));intro L C s5 K m M O P t Q u R q;show av _ X.A (Âu (.Name x d) Î (.ref L)) _ _ _;refine ÔB (Mc (v:=.ref L) M w hx hl rfl (?_) F);rintro s6 T ⟨a,V,W⟩;have j:C≠a:=by
  rcases W with z|z
  ·rw[(z)];exact t
  ·exact(u x a z).symm
 exact(m,P.sameBut V j,λh' Y=>(_,K,T.let O t Q u R Y,q))
universe E
theorem Le{ys:Ê}:∀ {us:À ae},ZH ÉC us->StrsAre us ys:=by
 induction ys with
 | nil=>intro us r;rw[hL,QaY,r];exact .nil
 | Ë y ys a =>
  intro us r;rw[Ql]at r;cases r with
  | Ë b c=>obtain t|e:=b;subst e;exact .cons _ _ (a c)
theorem Ld:∀ {vs:À ae} {ys:À ah},StrsAre vs ys->ZH ÉC vs
 | _,_,.nil=>.nil
 | _,_,.cons _ t h=>.cons És (Ld h)
section
variable {X:Cx}
def Lb(K:Å):À V->Hp->VK->Prop:=λxs H Q=>X4 λx c t b=>C4 (xs=[x,.ty c]) (Xa K H x t) (ē K t (.type c)=U b) (Q (.bl b) H)
theorem ZrD:YN X È7 (Lb X.K):=by intro ai s σ H xs us Q I r h;obtain x|c|t|b|rfl|ty|e|q:=h;obtain u|w'|rfl|a|d:=Ue r;cases d;exact Zol I a ty e λtk=>(.bl b,H,ř _,rfl,q)
def La(K:Å):À V->Hp->VK->Prop:=λxs H Q=>X5 λ(x:V) (a:aa) (c:À ĸ) (t:ae) (b:Ñ)=>C5 (xs=[x,.ref a]) (H a=U (.tup (š V.ty))) (Xa K H x t) (PySem.W.kitAny K t (š ÂZ)=U b) (Q (.bl b) H)
theorem Zsh{a:À ĸ}:∀ {us:À ae},ZH (ļ V.ty) us->us=ļ ÂZ:=by
 induction a with
 | nil=>intro us r;rw[hL,QaY,r];rfl
 | Ë y ys b =>
  intro us r;rw[Ql]at r;cases r with
  | Ë c d=>rw[show _=ÂZ y from c,b d];rfl
theorem Zn5:YN X È7 (La X.K):=by
 rw[rX,w,A,k];obtain x|B|D|t|b|rfl|E|ty|e|q:=h;obtain u|w'|rfl|d|F:=Ue r;cases F;obtain _|its|G|⟨K,f,L,n,M⟩:=é B _ E;have N:=Zsh G;subst N;obtain P|R|S|sl:=K;have T:P=ÂZ "tuple":=L;have V:S=Data.seq (D.map ÂZ).toArray n:=M;subst T;subst V;have c:∀tk,EP X w A Q (.bool b) { s with ï:=tk }:=λtk=>(.bl b,H,ř _,rfl,q);cases ty with
 | non=>cases (show u=ÀK from d);rw[gD,Ô0]
 | bl y=>cases (show u=ÄX y from d);rw[gD,Ô1]
 | int i=>obtain t|q:=Ðg;cases q;rw[gD,Ô2]
 | str y=>obtain t|q:=#[eD,t,Ám,y,d];cases q;rw[gD,Ô3]
 | flt y=>obtain t|q:=#[eD,t,Ëo,y,d];cases q;rw[gD,Ô4]
 | @lst a k g=>cases (show u=è a from d);obtain _|_|n|_|j:=(show Y2 ò X.w H Ð a (.lst k) from é a _ g);exact Õ5
 | @frz a W k g=>cases (show u=è a from d);obtain _|_|_|n|_|j:=(show Y2 ò X.w H Ð a (.frz W (.lst k)) from é a _ g);exact Õ5
 | @tup a k g=>cases (show u=è a from d);obtain _|_|_|p:=(show Y2 ò X.w H Ð a (.tup k) from é a _ g);obtain o|j|m|_:=p;exact Qaa Ô6 Ě (o,j,m) f e τ c
 | @dK a l g=>cases (show u=è a from d);obtain _|_|vs|_|p:=#[g4,a,l,g];obtain o|Y|Z|j|m|_:=p;exact Õ6
 | @dT a l g=>cases (show u=è a from d);obtain _|_|k|_|o|Y|Z|j|m|_:=(show Y2 ò X.w H Ð a (.dT l) from é a _ g);exact Õ6
 | @ins a C dx fs g v ha hn fH hm=>cases (show u=è a from d);obtain mA|O|_:=Uc é g;obtain R|J|_:=O.look;exact Qaa (Ô8 (v.get _) v.hd ha hn fH hm) Ě J f e τ c
theorem ZqE(hc:ť):YN X #[fb,"all"] (λxs H Q=>X2 λ(p:aa) (bs:À Ñ)=>xs=Á1/\SqL X.K H p (bs.map V.bl)/\Q (.bl (ÉD id)) H):=by
 rw[aR];rw[sH,p,bs,t];rw[fw,w];rw[f5,f,x,hz,t];have g:=x.isList;have y:p<Ï:=by obtain _|e|_:=g;exact Qs e
 refine call_all_walk (b9 g ?_);refine⟨Ï,[Ï,p],[Ï],Ãc,_,_,λi=>(bs[i]?).getD true,rfl,ÐY (A:=X.A.in1) Âv _ p (QB y) ŝ,
  ((_,Qv _ rfl,rfl,rfl),g.push _),λi v B C E' D E=>?_,λh' tk F=>?_⟩
 ·have m:its[i]? = U v:=by simpa using D
  have c:i<Ë6:=(Į m).1;have a:=Á3;have j:(bs.map V.bl)[i]? = U (V.bl (bs[i]' ÐZ)):=by rw[Qr,Qb ÐZ];rfl
  rw[sA,u',d,k,f.get,j];rw[fL,m,d,d];obtain rfl:v=ÄX _:=k;have n:C ((bs[i]?).getD true) B:=E;rw[Qb ÐZ]at n;exact bp n
 ·have e:((ÂE Ãc).all λi=>(bs[i]?).getD true)=ÉD id:=by
   have a:=Á3;rw[Qa]at a;rw[QS,<- a,QaN,Qag,Qag];constructor
   ·intro z b j;obtain i|c|rfl:=Õ7 j;have:=z i (Ïp c);rw[Qb c]at this;exact this
   ·intro z i c;have o:=Õ8 c;rw[Qb o];exact z _ (Qah o)
  refine(.bl (ÉD id),H,Âw λb G l=>F b G (λJ=>?_) (Qc _ l),by rw[e];rfl,q);rw[Ý J]at l;exact Qal _ (Qs l)
theorem Zkw:YN X #[fb,"sorted"] (λxs H Q=>X2 λ(p:aa) (ss:À ah)=>xs=Á1/\SqL X.K H p Àw/\Ο<64 /\
  ∀ (l:aa) (a:À ah),H l=af->a.Perm ss->Ĝ a=true->Q Đ (upd H l #[ei,ļ])):=by
 rw[aR];rw[fY,p,ss,d,h64];rw[fw,f];rw[f5,b,g,i,d];have j:=Œ;rw[Qa]at j i;refine sorted_strs g.isList (Le b) Á λout a k c m=>?_;obtain e|n:=sortedAll_at Ð its out;have hp:=c.length_eq;refine(.ref Α,_,À7 (t':=Ŧ) (o:=.lst (ļ Ä)) (λ_ _=>sortedAll_old) (Qac _) (by rw[Qa];lia,out.toList,e,Ld k,by simpa using n),rfl,q _ a Ðn c m)
theorem ZsK:MtR X "str.join" (λx vs H Q=>X3 λ(sep:ah) (p:aa) (ys:À ah)=>x=.str sep/\vs=Á1/\SqL X.K H p ÉC/\#[x2].sum+č*Ìk<=16777216/\Q (.str Õ9) H):=by intro ai s σ H x vs v us Q I a b h;obtain sep|p|ys|rfl|rfl|c|d|q:=h;obtain t|rfl:=a;obtain u|rfl|e:=b.one;cases e;obtain its|f|g|_:=ÁW c;exact join_list g.isList (Le f) d λt' k=>(.str _,H,ř _,ü,q)
theorem K9:OpR X (Â5 .Mult) (λx y H Q=>X2 λa n=>x=.str a/\y=.int n/\0<=n/\n<=1000000/\Á5*n<=1000000/\Q (.str (Ìl a n)) H):=by
 rw[hC,g,i];obtain a|n|rfl|rfl|j|l|h2|q:=h;rw[ey,t,g];rw[ey,t',i];have m:ĳ*Ìm<=1000000:=by
  have e:((ĳ*Ìm:Nat):Int)=Á5*n:=by rw[Int.natCast_mul,Öa j]
  lia
 refine PySem.P.mul_str ?_ (λb c=>?_) (λb c=>?_) ?_
 ·have o:decide (n < -(2 ^ 63:Int))=false:=Éj;have f:decide (n>=2 ^ 63)=false:=Éj;rw[o,f];rfl
 ·have p:(1:Int)<=n:=by lia
  have q1:Á5*1<=Á5*n:=Öb p (Int.natCast_nonneg _);have q2:(1000000:Int)<=(2 ^ 63-1) / n:=by rw[Int.le_ediv_iff_mul_le Á];have:(1000000:Int)*n<=1000000*1000000:=Öb l Ì;lia
  lia
 ·unfold be.Str.tooLong;have r:aq=16777216:=aP;exact Éj
 ·have e:Ìl a n=if n<1 then ÁY else if Öc=true then a else ⟨#[tp].foldl (·++·) #[]⟩:=rfl
  rw[e]at q;by_cases b:n<1
  ·rw[È b]at q ⊢;exact(by decide,.str _,H,ř _,ü,q)
  ·rw[Æ b]at q ⊢;by_cases c:Öc=true
   ·rw[È c]at q ⊢;exact Öd
   ·rw[Æ c]at q ⊢;refine(?_,.str _,H,ř _,ü,q);have w:∀ (k:Nat) (d:ĉ Nat),((Áx k a.cps).foldl (·++·) d).size=d.size+k*Ð0:=by
     intro k;induction k with
     | zero=>intro d;simp
     | succ k z=>intro d;rw[List.replicate_succ,List.foldl_cons,z,Ð1,Ð2];lia
    show (#[tp].foldl (·++·) #[]).size<=aq;rw[w];have f:Ð0=ĳ:=rfl;have:Ìm*Ð0<=1000000:=by rw[f,Nat.mul_comm];exact m
    have r:aq=16777216:=aP;simp only[Ëm,Æ3];lia
def Zw4:V->Ã Int->Ã Int->Hp->VK->Prop:=λx lo hi H Q=>∃z,C3 (x=.str z) Ðw (Q (.str (Ìn z lo hi)) H)
theorem ZuZ:SlR X Zw4:=by
 intro m s n H x v vl vu lo o sl Q I p b r e h;obtain z|rfl|c|q:=h;rw[ey,t,p];have a:∀f k,EP X m n Q (.str (Ìn z lo o) f) { s with ï:=k }:=λf k=>(.str _,H,ř _,ü,q);refine("str",_,PySem.F.slot_str_getitem.lookup,Éi _ _ _,?_);cases r with
 | none =>
  cases e with
  | none=>exact cu (l:=af) (u:=af) (st:=af) b rfl Ìo
  | int j d=>exact cu (l:=af) (u:=U (j,d,)) (st:=af) b rfl Ìo
 | int i g =>
  cases e with
  | none=>exact cu (l:=U (i,g,)) (u:=af) (st:=af) b rfl Ìo
  | int j d=>exact cu (l:=U (i,g,)) (u:=U (j,d,)) (st:=af) b rfl Ìo
universe E
inductive Src where
 | l (a:aa)|t (a:aa)|s (z:ah)
def Src.val:Src->V
 | .l a=>.ref a
 | .t a=>.ref a
 | .s z=>.str z
def ZrS(c:Nat):V:=.str ŷ
def Src.its(K:Å)(H:Hp):Src->À V->Prop
 | .l a,xs=>SqL K H a xs
 | .t a,xs=>SqT K H a xs
 | .s z,xs=>xs=z.cps.toList.map ZrS
def Src.at(h:aI)(i:aa):Src->Nat->Prop
 | .l a,k=>ÈU i a k
 | .t a,k=>h.IsTupleIter i a k
 | .s z,k=>∃tk,Ð3 i (bT z) z tk k
def Src.raw(h:aI):Src->À ae->Prop
 | .l a,us=>h.IsList a us.toArray
 | .t a,us=>h.IsTuple a us.toArray
 | .s _,_=>ŗ
def Src.fit:Src->À ae->Nat->ae->Prop
 | .l _,us,k,u=>us[k]? = U u
 | .t _,us,k,u=>us[k]? = U u
 | .s z,_,k,u=>X2 λc tk=>Á6[k]? = U c/\u=.str ŷ tk
def Src.many:Src->À ae->Nat
 | .l _,us=>Φ
 | .t _,us=>Φ
 | .s z,_=>Äf
def Src.off:Src->aa->Prop
 | .l a,b=>a≠b
 | .t a,b=>a≠b
 | .s _,_=>ŗ
theorem Ìp{h:aI}{i:aa}:∀ {S:Src} {k:Nat},S.at h i k->X2 λo vs=>Þ i=U o/\Ζ=.fields vs
 | .l _,_,⟨o,e,_,d⟩=>(o,_,e,d)
 | .t _,_,⟨o,e,_,d⟩=>(o,_,e,d)
 | .s _,_,⟨_,o,e,_,d⟩=>(o,_,e,d)
theorem ÉE{h h':aI}{i:aa}(k':∀o,Þ i=U o->Ā i=U o):∀ {S:Src} {k:Nat},S.at h i k->S.at h' i k
 | .l _,_,⟨o,e,d⟩=>(o,k' o e,d)
 | .t _,_,⟨o,e,d⟩=>(o,k' o e,d)
 | .s _,_,⟨tk,o,e,d⟩=>(tk,o,k' o e,d)
theorem Src.raw_keep{h h':aI}{b:aa}(k':#[hl,c,o,b,Þ]):∀ {S:Src} {us:À ae},S.off b->Äg h us->Äg h' us
 | .l _,_,f,⟨o,e,d⟩=>(o,k' _ o f e,d)
 | .t _,_,f,⟨o,e,d⟩=>(o,k' _ o f e,d)
 | .s _,_,_,_=>trivial
section
variable {ÿ:aw} {w:aF} {A:aD} {E:ae->aj->Prop} {s:aj}
theorem ZjG{it t:aa}{i:Nat}{β:ÃP}{x:ae}{Q:ø}(b:Öe)(ht:s.heap.IsTuple t β)(hx:β[i]? = U x)
  (c:∀h',h'.IsTupleIter it t (i+1)->Æt it Ð h'->Q x { s with Ø:=h' }):av à A Öf Q E s:=by
 obtain o|a|d|hd:=id b;obtain ol|e|_|nl|f:=ht;unfold Æ4;refine am (Ìq (name:=Ìr) Ìs Ìt
  (Ìu Ìt Ìs Ög ?_ Öh))
 rw[uG];refine am (bb a hd (x:=.ref t) rfl ?_);rw[80];refine am (bb a hd (x:=.int i 0) rfl ?_);rw[s8];refine am (bi e f ?_);simp only[Ïe,hx];refine am (ÉF a hd Ó (aB (x,rfl,aB (c _ ?_ (Öi ..)))));exact⟨_,QZ _ a (Ð4 (ÉG hd _)),(Öj ..).trans d,by
  rw[ÉG hd];simp[ū]⟩
theorem PZ{i:aa}{k:Nat}{us:ê}{Q:ø}:∀ {S:Src},S.at Ð i k->Äg Ð us->k<S.many us ->
  (∀h' tk u,S.fit us k u->S.at h' i (k+1)->Æt i Ð h'->Q u { s with Ø:=h',ï:=tk })->av à A Ök Q E s
 | .l a,c,h,b,g=>wpAny_nextOf_list_item c h (x:=us[k]'b) #[e5,Qax,Qb,b] λh' d f=>g h' ŋ _ (Qb b) d f
 | .t a,c,h,b,g=>ZjG c h (x:=us[k]'b) #[e5,Qax,Qb,b] λh' d f=>g h' ŋ _ (Qb b) d f
 | .s z,⟨tk,c⟩,h,b,g=>by
  have j:Á6[k]? = U Á6[k]:=Qa1 b;by_cases l:Ð5 (·<128)=true
  ·have e:Öl:=by unfold bT;rw[È l]
   rw[e]at c;exact wpAny_nextOf_ascii_item c j λh' d f=>g h' _ _ (_,_,j,rfl) (tk,by rw[e];exact d) f
  ·have e:bT z = "str_iterator":=by unfold bT;rw[Æ l]
   rw[e]at c;exact wpAny_nextOf_wide_item c j λh' d f=>g h' _ _ (_,_,j,rfl) (tk,by rw[e];exact d) f
theorem Zgg{it t:aa}{i:Nat}{β:ÃP}{Q:ø}(d:Â9)(b:Öe)(ht:s.heap.IsTuple t β)(hx:β[i]? = af)
  (f:∀h' e,aI.ExtBut it Ð h'->Ð6->E Š { s with Ø:=h' }):av à A Öf Q E s:=by
 obtain o|c|hc|hd:=id b;obtain ol|g|_|nl|h:=ht;unfold Æ4;refine am (Ìq (name:=Ìr) Ìs Ìt
  (Ìu Ìt Ìs Ög ?_ Öh))
 rw[uG];refine am (bb c hd (x:=.ref t) rfl ?_);rw[80];refine am (bb c hd (x:=.int i 0) rfl ?_);rw[s8];refine am (bi g h ?_);simp only[Ïe,hx];refine am (ÈT (am (ÉF c hd Ó ?_)));show av _ _ (newExc Öm [] >>= _) _ _ _;refine am ?_;simp only[newExc,newTuple];refine am (bw ?_ (by size_fits));refine am (m:=firstArgMember _ _) (Ð7 (a:=ÀK) (by first|rfl|(simp only[firstArgMember];rfl)) ?_);refine bw ?_ (by size_fits);simp only[raiseNew];rw[sf,wpAny_handled];first|rw[show A.in1.handled=af from d]|rw[d]
 refine am (aB (wpAny_throw ?_));exact f _ _ (((Öi ..).extBut.push _).push _) (_,Qv _ rfl,rfl)
theorem K8{i:aa}{k:Nat}{us:ê}{Q:ø}(f:Â9):∀ {S:Src},S.at Ð i k->Äg Ð us->S.many us<=k ->
  (∀h' e,aI.ExtBut i Ð h'->Ð6->E Š { s with Ø:=h' })->av à A Ök Q E s
 | .l a,b,g,d,c=>wpAny_nextOf_list_end f b g #[e5,Qax,Q1,d] c
 | .t a,b,g,d,c=>Zgg f b g #[e5,Qax,Q1,d] c
 | .s z,⟨tk,b⟩,g,d,c=>by
  have h:Á6[k]? = af:=Qbe d;by_cases j:Ð5 (·<128)=true
  ·have e:Öl:=by unfold bT;rw[È j]
   rw[e]at b;exact wpAny_nextOf_ascii_end f b h c
  ·have e:bT z = "str_iterator":=by unfold bT;rw[Æ j]
   rw[e]at b;exact wpAny_nextOf_wide_end f b h c
structure SQ (z TI TO i1 i2:aa) (S1 S2:Src):Prop where
 TIz:TI≠z
 TOz:TO≠z
 i1z:i1≠z
 i2z:i2≠z
 TITO:TI≠TO
 TIi1:TI≠i1
 TIi2:TI≠i2
 TOi1:TO≠i1
 TOi2:TO≠i2
 i12:i1≠i2
 s1z:S1.off z
 s1TO:S1.off TO
 s1i1:S1.off i1
 s1i2:S1.off i2
 s2z:S2.off z
 s2TO:S2.off TO
 s2i1:S2.off i1
 s2i2:S2.off i2
theorem ZpL{z TI TO i1 i2:aa}{S1 S2:Src}{k:Nat}{q r:ê}{a b:ae}{Q:Ã ae->aj->Prop}(D:Ìv)
  (hz:Ön) (Z:Öo) (jq:η Ð TO a b)
  (h1:S1.at Ð i1 k) (h2:S2.at Ð i2 k) (r1:S1.raw Ð q) (r2:S2.raw Ð r) (m1:k<S1.many q) (m2:k<S2.many r)
  (hQ:∀h' tk x y,S1.fit q k x->S2.fit r k y->ÂG h' z TI TO (ū Ï)->η h' TO x y->S1.at h' i1 (k+1)->S2.at h' i2 (k+1)->η h' Ï x y->h'.objs.size=Ï+1 ->
   (∀c o,c≠z->c≠TO->c≠i1->c≠i2->ì c=U o->Ā c=U o)->Q (U ÆB) { s with Ø:=h',ï:=tk }) :
  av à A (Â4 (.ref z)) Q E s:=by
 have O:Öp:=(_,hz,rfl);unfold Â4;refine am (Ð8 (Ìq (name:=Ìr) O Ìw (Ìu Ìw O Öq ?_ (Ör _))));rw[aM];refine am (bb hz rfl (x:=.ref TI) rfl (am (bi Z rfl ?_)));rw[71];refine am (ÈT (am (bb hz rfl (x:=.ref TO) rfl (am (bR hz Ó λP B f=>?_)))));replace B:ÂG P z TI TO .ellipsis:=B;rw[65];refine am (PZ (S:=S1) (us:=q) (k:=k) #[ht,Æ5,h1] (S1.raw_keep #[e2,c,n,Æ5] D.s1z r1) m1 λC BB x fx vd jQ=>aB ?_);have h:#[yX,i1,P,C]:=jQ;have R:η C TO a b:=ÉH _ _ D.TOi1 (Æ5 _ _ D.TOz jq);refine am (bi R rfl (am (Ð9 R λG H jR=>am Ìx)));replace H:η G TO x b:=H;have i:#[yX,TO,C,G]:=jR;rw[dD];refine am (PZ (S:=S2) (us:=r) (k:=k)
  (Ìy (λo e=>ÂH _ o Ña (ÉH _ o D.i12.symm (Æ5 _ o D.i2z e))) h2)
  (Æ6 #[e2,c,n,ÂH] D.s2TO (Æ6 #[e2,c,n,ÉH] D.s2i1 (Æ6 #[e2,c,n,Æ5] D.s2z r2))) m2 λI BC y fy BD o8=>aB ?_)
 have j:#[yX,i2,G,I]:=o8;have T:η I TO x b:=Á7 _ _ D.TOi2 H;refine am (bi T rfl (am (Ð9 T λd t o9=>am (cP (aB (aB ?_))))));replace t:η d TO x y:=t;have l:#[yX,TO,I,d]:=o9;refine am (bi t rfl (am (wpAny_newTuple ?_)));have m:Äh=Ï:=by rw[l.1,j.1,i.1,h.1,f.1]
 have V:#[sI,d]:=Æ7 _ _ Ñb (Á7 _ _ D.i2z.symm (ÂH _ _ Ñb (ÉH _ _ Ñc B)));have BE:∀c o,c≠z->c≠TO->c≠i1->c≠i2->ì c=U o->d.get? c=U o:=λc o g u J K e =>
  Æ7 _ _ u (Á7 _ _ K (ÂH _ _ u (ÉH _ _ J (Æ5 _ _ g e))))
 have BF:S1.at d i1 (k+1):=S1.at_keep (λo e=>Æ7 _ o D.TOi1.symm (Á7 _ o D.i12 (ÂH _ o D.TOi1.symm e))) vd;have BG:S2.at d i2 (k+1):=Ìy (λo e=>Æ7 _ o Ña e) BD;have W:z<Äh:=Qs V;show av _ _ (Ös (.ref z) (.ref Äh) >>= _) _ _ _;refine am ?_;unfold Ös;have BH:ÂG (d.push { cls:=Äi,Ò:=.seq #[x,y] }) z TI TO .ellipsis:=Qc _ V;refine am (bR BH Ó λES L M=>?_);replace L:ÂG ES z TI TO (ū Äh):=L;refine bR L Ó λp v N=>?_;replace v:ÂG p z TI TO (ū Äh):=v;have up:∀c o,c≠z->d.get? c=U o->p.get? c=U o:=λc o g e=>Ìz _ _ g (M.extBut _ _ g (Qc _ e));have X:η p Äh x y:=Ìz _ _ (Q2 W) (M.extBut _ _ (Q2 W) Åq);have Y:p.objs.size=Äh+1:=by rw[N.1,M.1,Q3]
 rw[m]at v X Y;refine aB (_,rfl,aB ?_);show Q #[sp,Äh] _;rw[m];exact hQ p BC x y fx fy v (up _ _ D.TOz t) #[ht,up,BF] (Ìy (λo e=>up _ o D.i2z e) BG) X Y λc o g u J K e=>up c o g (BE c o g u J K e)
theorem Zrb{z TI TO i1 i2:aa}{S1 S2:Src}{k:Nat}{g m:ê}{a b:ae}{Q:Ã ae->aj->Prop}(G:Â9)(D:Ìv)
  (hz:Ön) (P:Öo) (R:η Ð TO a b)
  (h1:S1.at Ð i1 k) (h2:S2.at Ð i2 k) (H:S1.raw Ð g) (V:S2.raw Ð m) (W:S1.many g<=k\/S2.many m<=k)
  (X:∀h' tk,Öt->Q af { s with Ø:=h',ï:=tk }) :
  av à A (Â4 (.ref z)) Q E s:=by
 have I:Öp:=(_,hz,rfl);unfold Â4;have done:∀ (h':aI) (tk:Nat) (e:aa),Öt->Ð6 ->
   av à A (do if (<- Ñd Š Öm) then pure af else throw Š:Sem (Ã ae)) Q E { s with Ø:=h',ï:=tk }:=λh' tk e Y ⟨o,Z,hc⟩=>
  am (Ñe (T := "StopIteration") (b:=true) (o,Z,hc) isSubtype_stop (aB (X h' tk Y)))
 refine am (Ð8 (Ìq (name:=Ìr) I Ìw (Ìu Ìw I Öq ?_ (Ör _))));rw[aM];refine am (bb hz rfl (x:=.ref TI) rfl (am (bi P rfl ?_)));rw[71];refine am (ÈT (am (bb hz rfl (x:=.ref TO) rfl (am (bR hz Ó λJ p d=>?_)))));replace p:ÂG J z TI TO .ellipsis:=p;rw[65];by_cases m1:k<S1.many g
 ·have m2:S2.many m<=k:=by rcases W with z'|z';lia;exact z'
  refine am (PZ (S:=S1) (us:=g) (k:=k) #[ht,Äj,h1] Öu m1 λh BB x fx vd q=>aB ?_);have i:#[yX,i1,J,h]:=q;have K:η h TO a b:=ÂH _ _ D.TOi1 (Äj _ _ D.TOz R);refine am (bi K rfl (am (Ð9 K λu lK r=>am Ìx)));have t:#[yX,TO,h,u]:=r;rw[dD];refine am (K8 (S:=S2) (us:=m) (k:=k) G
   (Ìy (λo e=>ÌA _ o Ña (ÂH _ o D.i12.symm (Äj _ o D.i2z e))) h2)
   (Æ6 #[e2,c,n,ÌA] D.s2TO (Æ6 #[e2,c,n,ÂH] D.s2i1 (Æ6 #[e2,c,n,Äj] D.s2z V))) m2 λio e L v=>?_)
  rw[g6,y,f,j,v];have M:#[sI,io]:=L _ _ D.i2z.symm (ÌA _ _ Ñb (ÂH _ _ Ñc p));have B:e≠z:=λx=>by subst x;rw[fL,M,f,f];simp at j
  exact bR M Ó λdG _ N=>done dG _ e (λc o l c2 C c4 x=>Ìz _ _ l (L _ _ c4 (ÌA _ _ c2 (ÂH _ _ C (Äj _ _ l x))))) (y,Ìz _ _ B f,j)
 ·refine am (K8 (S:=S1) (us:=g) (k:=k) G #[ht,Äj,h1] Öu Á λh e q v=>?_);rw[g6,y,f,j,v];have O:#[sI,h]:=q _ _ Ñc p;have B:e≠z:=λx=>by subst x;rw[fL,O,f,f];simp at j
  exact bR O Ó λu _ r=>done u _ e (λc o l _ C _ x=>r.extBut _ _ l (q _ _ C (Äj _ _ l x))) (y,r.extBut _ _ B f,j)
universe E
def Src.iter(tk:Tok):Src->aN
 | .l a=>{ cls:=.type "list_iterator",Ò:=.fields #[.ref a,.int 0 0] }
 | .t a=>{ cls:=.type "tuple_iterator",Ò:=.fields #[.ref a,.int 0 0] }
 | .s z=>{ cls:=.type (bT z),Ò:=.fields #[.str z tk,.int 0 0] }
def Src.value(tk:Tok):Src->ae
 | .l a=>.ref a
 | .t a=>.ref a
 | .s z=>.str z tk
theorem Ñf{h:aI}{i:aa}{tk:Tok}:∀ {S:Src},Þ i=U (S.iter tk)->S.at h i 0
 | .l _,e=>(_,e,rfl,rfl)
 | .t _,e=>(_,e,rfl,rfl)
 | .s _,e=>(tk,_,e,rfl,rfl)
theorem Ñg{ÿ:aw}{w:aF}{A:aD}{E:ø}{s:aj}{tk:Tok}{us:ê}{Q:ø}:∀ {S:Src},Äg Ð us ->
  Q ÆB { s with Ø:=γ (S.iter tk) }->av à A (Åb (S.value tk)) Q E s
 | .l _,r,q=>b9 r q
 | .t _,r,q=>wpAny_pyIter_tuple r q
 | .s _,_,q=>wpAny_pyIter_strU q
theorem Src.raw_push{h:aI}{ob:aN}:∀ {S:Src} {us:À ae},Äg h us->Äg (Æ8 ob) us
 | .l _,_,⟨o,e,d⟩=>(o,Qc _ e,d)
 | .t _,_,⟨o,e,d⟩=>(o,Qc _ e,d)
 | .s _,_,_=>trivial
abbrev zH1(h:aI)(S1:Src)(a:Tok):aI:=Æ8 (S1.iter a)
abbrev zH2(h:aI)(S1 S2:Src)(a b:Tok):aI:=(zH1 h S1 a).push (S2.iter b)
abbrev zH3(h:aI)(S1 S2:Src)(a b:Tok):aI:=(zH2 h S1 S2 a b).push { cls:=Äi,Ò:=.seq #[.ref ń,.ref (zH1 h S1 a).objs.size] }
abbrev zH4(h:aI)(S1 S2:Src)(a b:Tok):aI:=(zH3 h S1 S2 a b).push { cls:=Äi,Ò:=.seq #[.none,.none] }
abbrev zH5(h:aI)(S1 S2:Src)(a b:Tok):aI:=(zH4 h S1 S2 a b).push { cls:=.type "zip",Ò:=.fields #[.none,.bool false,.bool false,.ref (zH2 h S1 S2 a b).objs.size,.ref (zH3 h S1 S2 a b).objs.size] }
theorem Zsp(S1 S2:Src)(a e:Tok)(f i:ê) :
  Meets (be.«zip.__new__» ([.type "zip",ÌB a,ÌC e],[])) (λ_ R s=>S1.raw Ð f/\S2.raw Ð i /\
   R (.ok (.ret (.ref (zH4 Ð S1 S2 a e).objs.size))) { s with Ø:=zH5 Ð S1 S2 a e }) :=
 .of_wp λb w A R s h=>by
  rw[hm,c,tk,s];rw[g6,l,m,h,h];have oK:=sub_zip;have j:∀ {A:aD} {E:ae->aj->Prop} {Q:ae->aj->Prop},Q (.ref Äk) Ñh->av (aA b w) A (Åb (ÌB a)) Q E #[gv,c,tk]:=
   λ{A E Q} q=>Ñg (s:=#[gv,c,tk]) (us:=f) l q
  have k:∀ {A:aD} {E:ae->aj->Prop} {Q:ae->aj->Prop},Q (.ref (zH1 c S1 a).objs.size) (zH2 c S1 S2 a e,g,d,tk,os)->av (aA b w) A (Åb (ÌC e)) Q E Ñh:=
   λ{A E Q} q=>Ñg (s:=Ñh) (us:=i) (S2.raw_push m) q
  generalize ÌB a=v1 at j ⊢;generalize ÌC e=v2 at k ⊢
  wp_walk using j,k
  exact(_,rfl,h)
section
variable {ÿ:aw} {w:aF} {A:aD} {E:ae->aj->Prop} {s:aj}
theorem Zri{S1 S2:Src}{a b:Tok}{j k:ê}{Q:ø}(q:S1.raw Ð j)(r:S2.raw Ð k)
  (h:∀h',ÂG h' #[rn,4] #[rn,2] #[rn,3] .none->η h' #[rn,2] ÆB (.ref Α) ->
   η h' #[rn,3] .none .none->S1.at h' Ï 0->S2.at h' Α 0->h'.objs.size=Ï+5 ->
   (∀c o,ì c=U o->Ā c=U o)->Q (.ref #[rn,4]) { s with Ø:=h' }) :
  av à A (ŧ (.type "zip") [ÌB a,ÌC b]) Q E s:=by
 refine callType_new F.called_zip Ì (F.typeCall_zip_2 _ _) (F.newCall_zip_2 _ _) (λobj=>F.args_object_init_3 obj _ _) F.entry_zip_new (Zsp S1 S2 a b j k) (q,r,?_);have d:(zH1 Ð S1 a).objs.size=Ï+1:=Q3 ..;have e:#[hj,zH2,2]:=by rw[Q3,d]
 have f:#[hj,zH3,3]:=by rw[Q3,e]
 have g:#[hj,zH4,4]:=by rw[Q3,f]
 have t:#[cG].objs.size=Ï+5:=by rw[Q3,g]
 have l:∀ (tk:Tok) (S:Src),(S.iter tk).isFreed=false:=λtk S=>by cases S<;>rfl
 have i:#[hh,zH4]:=Qv _ rfl;have m:#[hh,zH3]:=Qc _ Åq;have n:#[hh,zH2]:=Qc _ (Qc _ Åq);have p:#[cG].get? (zH1 Ð S1 a).objs.size=U (S2.iter b):=Qc _ Öv;have u:#[cG].get? Ï=U (S1.iter a):=Qc _ (Qc _ Öv);show _/\_;rw[e,f,g]at i;rw[d,e]at n;rw[f]at m;rw[d]at p;rw[g];exact⟨(_,i,rfl),h _ i n m (Ñf u) (Ñf p) t λc o x =>
  Qc _ (Qc _ (Qc _ (Qc _ (Qc _ x))))⟩
universe E
def Itz(K:Å)(S1 S2:Src):It :=
 ⟨λi H=>X2 λa b=>Æ9 K H a/\Ça K H b/\i<ĳ/\i<Œ,
  λi H v c=>∃p,H p=af/\v=.ref p/\∀a b,Æ9 K H a->Ça K H b->∀x y,a[i]? = U x->b[i]? = U y->c=upd H p (.tup [x,y]),
  λi H=>X2 λa b=>Æ9 K H a/\Ça K H b/\(ĳ<=i\/Œ<=i)⟩
section
variable {X:Cx} {ai:À (aa×aN)} {σ:St} {H:Hp} {s:aj}
theorem Inv.src(I:å):∀ {S:Src} {xs:À V},S.its X.K H xs->∃us,Äg Ð us/\S.many us=Ú/\∀k u x,S.fit us k u->xs[k]? = U x->ZJ x u
 | .l a,xs,h=>by obtain its|e|pl|_:=ÁW h;refine(its,pl.isList,e.length.symm,λk u x f b=>?_);rw[jE]
 | .t a,xs,h=>by obtain its|e|pl|_:=Æw h;refine(its,pl,e.length.symm,λk u x f b=>?_);rw[jE]
 | .s z,xs,h=>by
  refine([],trivial,?_,λk u x f b=>?_)
  ·rw[show xs=_ from h,Qa];simp[Src.many]
  ·obtain c|tk|d|i:=f;subst i;rw[show xs=_ from h,Qr]at b;have j:Áz[k]? = U c:=by simpa using d
   rw[fL,j,b,b];exact(tk,rfl)
theorem Inv.src_off(I:å){b:aa}(hb:Xm X ai H b):∀ {S:Src} {xs:À V},S.its X.K H xs->S.off b
 | .l a,xs,h=>by
  rcases h with(h|⟨ob,h⟩)|⟨o,its,n,hk,_⟩
  ·exact Ze h hb.1
  ·exact Ze h hb.1
  ·rw[u1];rcases hb.2.2.2.1 with z|z
   ·exact Æo a o e z
   ·exact ÐW
 | .t a,xs,h=>by
  rcases h with(h|⟨ob,h⟩)|⟨o,its,n,hk,_⟩
  ·exact Ze h hb.1
  ·exact Ze h hb.1
  ·rw[u1];rcases hb.2.2.2.1 with z|z
   ·exact Æo a o e z
   ·exact ÐW
 | .s z,xs,h=>trivial
theorem Inv.zipped{fp:Ş}{h':aI}{tk:Nat}{x y:V}{u v:ae}(I:å)(g:#[rM,ai,H])(k:ZJ x u)(l:ZJ y v)
  (hp:η h' Ï u v) (hfh:∀b∈fp,∃o,Ā b=U o) (hk:∀c o,c ∉ fp->ì c=U o->Ā c=U o) :
  Inv X ai σ (upd H Ï (.tup [x,y])) { s with Ø:=h',ï:=tk }:=by
 have p:H Ï=af:=Ép;have ne:∀b a,ì b=U a->b≠Ï:=λb a e=>QB (Qs e);have h:∀b u,H b=U u->b≠Ï:=λb u e=>Ze e p;have i:∀b u,H b=U u->b ∉ fp:=λb u e d=>by rw[(g b d).1]at e;cases e
 refine ÈK (g':=Æn) (d':=Ëy) (ch:=fp) (λb d=>((g b d).2.2.2.1,(g b d).2.1,(g b d).2.2.2.2.1,(g b d).2.2.2.2.2))
  (λb a _ _ f e _=>hk b a f e) (λb a _ _ f e _=>(Ës,hk b a f e)) (λb a _ e n=>by rw[Zf (ne b a e)];exact n) (λb a f e=>(a,hk b a f e))
  (λb t e=>by rw[Zf (h b _ e)];exact e) (λb a u e=>by rw[Zf (h b _ e)];exact e) (λb ps e=>(#[],by rw[Zf (h b _ e),e];simp)) (λm w=>?_) #[iw,b,j,e] Ι
 ·obtain a|A|B|C|r:=w;exact(a,A,B,hk _ a #[y4,g] C,r)
 ·by_cases d:b=Ï
  ·rw[hs,d,Zb,e];exact(by show 2<=aq;decide,[u,v],.cons k (.cons l .nil),(_,hp,rfl,_,rfl))
  ·rw[Zf d]at e;refine(é b j e).stay (λc D f q=>hk c D ?_ q) (λc q=>by rw[Zf (h c _ q)];exact q) λc t q=>by rw[Zf (h c _ q)];exact q
   rcases f with z|z
   ·rw[(z)];exact i b j e
   ·exact i c _ z
universe E
theorem ZqY{P:aw}{w:aF}{K:Å}{fK:į}{x1:Nat}{eU:Pos}{S1 S2:Src}{z TI TO i1 i2:aa}
  (Q:TI≠z) (Y:TO≠z) (Z:i1≠z) (d4:i2≠z) (d5:TI≠TO) (d6:TI≠i1) (d7:TI≠i2) (d8:TO≠i1) (d9:TO≠i2) (qd:i1≠i2) :
  Wu P w K (.Tuple fK x1 eU) ÌD ÉI z
   (λi h=>ÂG h z TI TO .none/\η h TI (.ref i1) (.ref i2)/\(X2 λa b=>η h TO a b)/\S1.at h i1 i/\S2.at h i2 i) where
 mem:=by simp
 obj:=λi h st b A=>by
  obtain J|L|⟨a,b',M⟩|N|O:=st;have nf:∀ {o:aN} {B:ĉ ae},Ζ=.fields B->∀v,Ζ≠.cell v:=λd v e=>by rw[d]at e;cases e
  rw[cS];rcases A with rfl|rfl|rfl|rfl|rfl
  ·exact(_,J,nf rfl)
  ·rw[fm,L,v,e]
  ·rw[fm,M,v,e]
  ·obtain o|B|e|d:=Ìp N;exact(o,e,nf d)
  ·obtain o|B|e|d:=Ìp O;exact(o,e,nf d)
 Ċ:=λi h R st k=>by obtain J|L|⟨a,b',M⟩|N|O:=st;exact(k z Ó _ J,k TI Ó _ L,(a,b',k TO Ó _ M),ÉE (λo e=>k i1 Ó o e) N,ÉE (λo e=>k i2 Ó o e) O)
 item:=by
  rw[dc];obtain xs|ys|C|F|l1|l2:=hg;rw[jc];have D:Ìv:=⟨Q,Y,Z,d4,d5,d6,d7,d8,d9,qd,Àd T C,Àd ÌE C,Àd ÌF C,Àd ÌG C,
   Àd T F,Àd ÌE F,Àd ÌF F,Àd ÌG F⟩
  refine ZpL D J L M N O r1 r2 Á Á λR tk x y fx fy a1 a2 a3 a4 a5 a6 a7=>?_;have rx:=f1 i x _ fx (Qb l1);have ry:=f2 i y _ fy (Qb l2);refine(_,rfl,wpAny_letOwnedTupleGo_zip a1 λlU As qe=>?_);have j:#[yX,z,R,lU]:=qe;have At:η R TI (.ref i1) (.ref i2):=a7 _ _ Q d5 d6 d7 L;have lt:Ñi:=λe=>Q2 (Qs e);have hzs:Ï≠z:=lt J;have I2:Inv X ai σ (upd H Ï (.tup [xs[i],ys[i]])) { s with Ø:=lU,ï:=tk }:=by
   refine I.zipped (fp:=ÉI) g rx ry (Á7 _ _ hzs a5) (λb A=>?_) λc o f e=>?_
   ·rw[cS];rcases A with rfl|rfl|rfl|rfl|rfl
    ·exact(_,As)
    ·exact#[zg,_,Q,At]
    ·exact#[zg,_,Y,a2]
    ·rw[iJ,a3];exact#[zg,o,Z,e]
    ·rw[iJ,a4];exact#[zg,o,d4,e]
   ·simp only[ÂX,År,Ås,not_or]at f;exact Á7 _ _ f.1 (a7 c o f.1 f.2.2.1 f.2.2.2.1 f.2.2.2.2 e)
  refine(.ref Ï,_,I2,rfl,(Ï,Ép,rfl,λxs' jP w1 w2 x' y' e1 e2=>?_),(As,Á7 _ _ Q At,(_,_,Á7 _ _ Y a2),ÉE (λo e=>Á7 _ o Z e) a3,ÉE (λo e=>Á7 _ o d4 e) a4),λb A=>?_)
  ·have same:∀ {S:Src} {us B:À V},S.its X.K H us->S.its X.K H B->us=B:=λ{S us B} p q=>by
    cases S with
    | l a=>exact ÏS p q
    | t a=>exact I.tuple_inj p q
    | s z=>rw[show us=_ from p,show B=_ from q]
   have e3:=same w1 C;have e4:=same w2 F;subst e3;subst e4;rw[Qb l1]at e1;rw[Qb l2]at e2;cases e1;cases e2;rfl
  ·rw[Zf (λe=>by
    obtain⟨o,e1,_⟩:∃o,ì b=U o/\ŗ:=by
     rw[cS];rcases A with rfl|rfl|rfl|rfl|rfl
     ·exact(_,J,trivial)
     ·exact(_,L,trivial)
     ·exact(_,M,trivial)
     ·rw[iJ,N];exact(o,e,trivial)
     ·rw[iJ,O];exact(o,e,trivial)
    exact lt e1 Ä5)]
   exact(g b A).1
 done:=by
  rw[dc];obtain xs|ys|C|F|l:=hg;rw[jc];have D:Ìv:=⟨Q,Y,Z,d4,d5,d6,d7,d8,d9,qd,Àd T C,Àd ÌE C,Àd ÌF C,Àd ÌG C,
   Àd T F,Àd ÌE F,Àd ÌF F,Àd ÌG F⟩
  refine Zrb (Át f) D J L M N O r1 r2 Á λR tk hk=>(rfl,?_);have W:∀c o,c ∉ ÉI->ì c=U o->R.get? c=U o:=λc o f e=>by simp only[ÂX,År,Ås,not_or]at f;exact hk c o f.1 f.2.2.1 f.2.2.2.1 f.2.2.2.2 e
  have tM:∀b u,H b=U u->b ∉ ÉI:=λb u e A=>by rw[(g b A).1]at e;cases e
  refine ÈK (g':=Æn) (d':=Ëy) (ch:=ÉI) (λb A=>((g b A).2.2.2.1,(g b A).2.1,(g b A).2.2.2.2.1,(g b A).2.2.2.2.2))
   (λb G _ _ f e _=>W b G f e) (λb G _ _ f e _=>(G.slots,W b G f e)) (λb G _ e n=>n) (λb G f e=>(G,W b G f e))
   (λb xs e=>e) (λb G u e=>e) Ôp (λm hm=>?_) #[iw,b,ub,e] Ι
  ·obtain G|es|ep|ho|r:=hm;exact(G,es,ep,W _ G #[y4,g] ho,r)
  ·refine(é b ub e).stay (λc w' f q=>W c w' ?_ q) (λc q=>q) λc xs q=>q;rcases f with z'|z'
   ·rw[z'];exact tM b ub e
   ·exact tM c _ z'
 self:=λ_ _ _ _ _ st h=>Öw st.1 h
def K7(K:Å)(b:TA):TI:=λc H R=>b c H λvs a=>X4 λS1 S2 xs ys=>vs=[Src.val S1,Src.val S2]/\Æ9 K a xs/\Ça K a ys/\R ÌD a
theorem ZuK{X:Cx}{a b:aK}{g:TA}{p pos:Pos}{y:į}{A:Nat}{B:Pos}(C:Gl X "zip")(hm:ę "zip" = af)(ha:PA X [a,b] g)
  (hs:ÏU:=by rfl) (i:#[fi,b]:=by rfl) :
  PI X (.Tuple y A B) Öx (K7 X.K g):=by
 rw[eR,j,k,R];refine Call_ (VC I C hm boot_zip (Qak (thn #[gd,j,k] ?_) (by rw[hs,i]) #[zj,i]));rintro us c ⟨vs,m,d,f,D⟩;obtain S1|S2|xs|ys|e|E|F|q:=D;subst e;obtain u1|u2|rfl|G|J:=f.two;have o:∀ {S:Src} {u:ae},ZJ S.val u->∃tk,u=S.value tk:=λ{S u} r=>by
  cases S with
  | l a=>exact(0,r)
  | t a=>exact(0,r)
  | s z=>obtain tk|e:=r;exact(tk,e)
 obtain t1|rfl:=o G;obtain t2|rfl:=o J;obtain gQ|f|m1|f1:=d.src E;obtain ic|K|m2|f2:=d.src F;refine Zri f K λL v M N O P a3 Q=>Öw v ?_;have T:#[gL,j,k,m,c,L]:=d.kept (t':=Åa) Q;have n:=Ñj;refine⟨_,_,_,_,m,rfl,T,ZqY (S1:=S1) (S2:=S2) (z:=ÀO+4) (TI:=ÀO+2) (TO:=ÀO+3) (i1:=Ñj) (i2:=ÀO+1)
  (QB Çb) (QB Çb) (QB (QaH Ì)) (QB Çb)
  (QB Çb) (Q2 (QaH Ì)) (Q2 Çb) (Q2 (QaH Ì))
  (Q2 Çb) (QB (QaH Ì)),(v,M,(_,_,N),O,P),λb w=>?_,q⟩
 have x:ÀO<=b:=by
  simp only[ÂX,År,Ås]at w;rcases w with rfl|rfl|rfl|rfl|rfl
  ·exact QaZ _ 4
  ·exact QaZ _ 2
  ·exact QaZ _ 3
  ·exact Qj _
  ·exact QaZ _ 1
 exact d.fpOk x (È8 x)
section
variable {X:Cx} (K:Å)
theorem ixL(h:X.K=K:=by rfl):IxR X (Ls K):=by subst h;exact Zr2
theorem ixT(h:X.K=K:=by rfl):IxR X (Lr K):=by subst h;exact Zux
theorem slL(h:X.K=K:=by rfl):SlR X (Lp K):=by subst h;exact Zr7
def Zwn:À V->Hp->VK->Prop:=λxs H Q=>X2 λp ys=>xs=Á1/\#[hw,K,ys]/\Q (.int č) H
theorem Yu(h:X.K=K:=by rfl):YN X ÆY (Zwn K):=by subst h;exact ZjV
theorem WP(h:X.K=K:=by rfl):YN X È7 (Lb K):=by subst h;exact ZrD
theorem Zv9(h:X.K=K:=by rfl):YN X È7 (La K):=by subst h;exact Zn5
def Zv5:À V->Hp->VK->Prop:=λxs H Q=>X2 λ(p:aa) (bs:À Ñ)=>xs=Á1/\SqL K H p (bs.map V.bl)/\Q (.bl (ÉD id)) H
theorem K6(hc:ť:=by rfl)(h:X.K=K:=by rfl):YN X #[fb,"all"] (Zv5 K):=by subst h;exact ZqE hc
def Zwo:À V->Hp->VK->Prop:=λxs H Q=>X2 λ(p:aa) (ss:À ah)=>xs=Á1/\SqL K H p Àw/\Ο<64 /\
  ∀ (l:aa) (a:À ah),H l=af->a.Perm ss->Ĝ a=true->Q Đ (upd H l #[ei,ļ])
theorem ZwS(h:X.K=K:=by rfl):YN X #[fb,"sorted"] (Zwo K):=by subst h;exact Zkw
def ZvU:V->À V->Hp->VK->Prop:=λx vs H Q=>X3 λ(sep:ah) (p:aa) (ys:À ah)=>x=.str sep/\vs=Á1/\SqL K H p ÉC/\#[x2].sum+č*Ìk<=16777216/\Q (.str Õ9) H
theorem Vt(h:X.K=K:=by rfl):MtR X "str.join" (ZvU K):=by subst h;exact ZsK
theorem iL{b l:aK}{a:TE}(hl:PE X l a)(h:X.K=K:=by rfl):PI X b l (LY K a):=by subst h;exact ZrL hl
theorem gT{a:į}{k:Nat}{t:TGs}{n:Nat}{pos:Pos}(h:PGs X a t)(b:X.K=K:=by rfl)(hc:ť:=by rfl)
  (c:#[yW,a].length=n:=by rfl) (d:#[yW,a].findIdx? ù=af:=by rfl):PG X (.Tuple a k pos) (Uj K n t):=by subst b;exact ZtP hc h c d
theorem iZ{a b:aK}{c:TA}{p pos:Pos}{d:į}{e:Nat}{f:Pos}(hm:ę "zip" = af)(ha:PA X [a,b] c)(g:Gl X "zip":=by rfl)(h:X.K=K:=by rfl)
  (i:ÏU:=by rfl) (j:#[fi,b]:=by rfl) :
  PI X (.Tuple d e f) Öx (K7 K c):=by subst h;exact ZuK g hm ha i j
universe E
structure Df (P:aw) (w:aF) (K:Å) (mg:Ă) (Â:aI) (k:Nat) (x:ah) (ps:Ê) (sp:Sp):Prop where
 ex:X2 λf fd=>YU P w K mg Â CX0 k f fd ps sp/\mg x=U ą/\À6 K ą=true/\Yy K fd ps []
section
variable {P:aw} {w:aF} {K:Å} {mg:ah->Ã ae} {Â:aI}
structure Top (K:Å) (mg:Ă) (x:ah) (st:aL) (ps:Ê):Prop where
 ex:X2 λf fd=>Fun K x x st f fd/\mg x=U ą/\Yy K fd ps []
theorem Top.df{x:ah}{st:aL}{N ps:Ê}{k:Nat}{sp:Sp}(T:Top K mg x st ps)(S:Äb)(len:Ãa)
  (c:∀ (a:ae) (f:aa) (A:aD) (Û:À Env) (s:aj) (H:Hp) (vs:À V) (Q:VK) (E:XK),Zt k #[fr,x]->sp vs H Q E ->
   ∃t,PSs (Xz CX0 P w K mg Â N x (Zh st) f a A Û s H E).nox ÂB t/\t { nx:=Ãb,rt:=Q } Áy H):Df P w K mg Â (k+1) x ps sp:=by
 rw[si,d];exact(f,d,F.ok S len #[eG,e,c],m,F.kp,b)
universe E
section
variable {X:Cx} {k j:Nat} {x:ah} {ps:À ah} {sp:Sp} {e:aK} {es:À aK} {t:TA} {p pos:Pos}
theorem Zy(F:#[iq,Df])(hr:Á8)(ha:ε)(a:k<=j:=by decide)(c:Ŕ:=by rfl)(d:İ:=by decide)
  (g:Ν:=by rfl) (h:Áw:=by rfl) :
  PE X Ã3 (SV sp [] E0 t):=by
 rw[iI,m,i,b];exact ZrO F ÌH c m i b .nil Vw ha d g h
theorem ZtN(F:#[iq,Df])(hr:Á8)(a:k<=j:=by decide)(c:Ŕ:=by rfl)(d:İ:=by decide) :
  PE X ËY (SV sp [] E0 Vy):=by
 rw[iI,m,e,b];exact Zql F ÌH c m e b .nil Vw d
theorem Xw{T:ĸ}(hm:ę x=af)(a:cV x=U (.type T))(b:Ŕ:=by rfl)(hn:ÈN:=by decide)(hd:İ:=by decide):PE X ÀN (tC (.ty T)) :=
 ZrP b hm a rfl hn hd
universe E
theorem PY{lo:Int}{n k:Nat}{D:aa}{a:St}{c:Hp}{g:TG}{d:TE}{Q:VK}(Pv:#[gQ,St])(h0:#[h6,c])
  (hs:∀i ys a H,i<n->Pv i ys a H->g (.int (lo+i)) a H λf j=>d f j λy h=>h D=U Ãf/\č<aq/\Pv (i+1) (ys++[y]) f #[hg,h,ys,y])
  (hd:#[iK,ys,a,n]):Vu ÔE D k a c g Vv d Q:=by
 refine(λi m ys a H=>m=n-i/\i<=n/\Pv i ys a H,(n,by simp,Qt _,h0),?_);rintro i m ys a H ⟨rfl,hi,p⟩;by_cases b:i<n
 ·refine .inr (b,Pv (i+1),λjP aR l o=>(n-(i+1),by lia,rfl,b,o),λx l y=>?_);rw[el,e,y,y];subst e y;rw[qI];exact hs i ys a _ b p
 ·have e:i=n:=by lia
  subst e;exact .inl (Qj _,hd ys a H p)
theorem SO{K:Å}{S1 S2:Src}{xs ys:Ą}{k:Nat}{D:aa}{a:St}{h:Hp}{g:TG}{j:TE}{Q:VK}(Pv:#[gQ,St])(h0:#[h6,h])
  (hl:Öy)
  (hs:∀i zs a H x y p,xs[i]? = U x->ys[i]? = U y->Pv i zs a H->H p=af->g ş a Ñk λl o=>j l o λz n=>n D=U Àe/\ÐF<aq/\Pv (i+1) (zs++[z]) l #[hg,n,zs,z])
  (hd:#[iK,zs,a,ÌI]):Vu ÌD D k a h g Vv j Q:=by
 rw[69];obtain b|c:=hl i zs a H p;by_cases q:i<min Ú č
 ·have d:i<Ú:=by lia
  have f:i<č:=by lia
  refine .inr ((xs,ys,b,c,d,f),Pv (i+1),λjP aR s t=>(min Ú č-(i+1),by lia,rfl,q,t),λx s y=>?_);rw[sW,u];have v:=e xs ys b c _ _ (Qb d) (Qb f);subst v;rw[qI];exact hs i zs a H _ _ r (Qb d) (Qb f) p u
 ·have e:Ñl:=by lia
  refine .inl ((xs,ys,b,c,by lia),hd zs a H Åt)
theorem ZsB{K:Å}{S1 S2:Src}{xs ys:Ą}{g:TG}{n:TS}{D:XU}{a:St}{H:Hp}(Pv:ÆD)(h0:Pv 0 a H)(hl:∀i a H,Pv i a H->Æ9 K H xs/\Ça K H ys)
  (hs:∀i x y a H p,xs[i]? = U x->ys[i]? = U y->Pv i a H->H p=af->g ş a Ñk λc d=>n { D with nx:=Pv (i+1),ct:=Pv (i+1),bk:=Č } c d) (hd:#[hP,a,ÌI]) :
  ∃W:Nat->Nat->St->Hp->Prop,ËI/\∀i m a H,W i m a H ->
   ((ÌD).stop i H/\Č a H)\/((ÌD).go i H/\∃N:St->Hp->Prop,#[eZ,f,b,o]/\∀x b,(ÌD).yld i H x b->g x a b λc d=>n { D with nx:=N,ct:=N,bk:=Č } c d):=by
 refine(λi m a H=>m=min Ú č-i/\i<=min Ú č/\Pv i a H,(min Ú č,by simp,Qt _,h0),?_);rintro i m a H ⟨rfl,hi,p⟩;obtain h|j:=hl i a H p;by_cases q:i<min Ú č
 ·have k:i<Ú:=by lia
  have l:i<č:=by lia
  refine .inr ((xs,ys,h,j,k,l),Pv (i+1),λf b s=>(min Ú č-(i+1),by lia,rfl,q,s),λx b y=>?_);rw[sW,t];have u:=e xs ys h j _ _ (Qb k) (Qb l);subst u;exact hs i _ _ a H r (Qb k) (Qb l) p t
 ·have e:Ñl:=by lia
  exact .inl ((xs,ys,h,j,by lia),hd a H Åt)
section
variable {X:Cx} {N N':À ah} {o c:bn} {x:ah} {pos:Pos} {C:aa} {s:aj} {H:Hp} {fp:À aa}
theorem PX(S:Àb)(a:Àc)(hl:Ñm):(ÉJ).env.scope.names.lookup x=U .local:=by have e:=#[sX,a,C];rw[hl]at e;exact e
theorem V9(S:Àb)(a:Àc)(hl:ŭ x=U .globalImplicit):Gl ÉJ x:=by have e:=#[sX,a,C];rw[hl]at e;exact e
theorem ZqK(S:Àb)(b:Àc)(hl:ÐU):Vis (ÉJ).env.scope x:=by
 have e:=#[sX,b,C];rw[hl]at e;have a:(ÉJ).env.scope.names.lookup x=if Ât x=U .cell then U Ìg else U Äc:=e
 by_cases z:Ât x=U .cell
 ·rw[y3,z,a];exact .inr (.inl a)
 ·rw[iv,z,a];exact .inr (.inr a)
theorem cv(i:Nat)(S:Àb)(a:Àc)(hl:ÐU)(b:N'[i]? = U x:=by rfl)(hd:İ:=by decide)(d:ËE:=by decide) :
  PE ÉJ ÀN (S4 i):=Ru b (ZqK S a hl) hd d
theorem cw(i:Nat)(S:Àb)(a:Àc)(hl:Ñm)(b:N'[i]? = U x:=by rfl)(hd:İ:=by decide)(d:ËE:=by decide) :
  PE ÉJ ÀN (S4 i):=Ru b (.inl (PX S a hl)) hd d
theorem cg(i:Nat)(S:Àb)(a:Àc)(hl:Ñm)(hi:N'[i]? = U x:=by rfl):PG ÉJ ÀN (U6 i) :=
 Zs S.nd hi (.inl (PX S a hl)) (.inr (PX S a hl))
universe E
mutual
inductive DV (K:Å) (H:Hp):V->aJ->Prop where
 | non:DV K H .non .none
 | bl (b:Ñ):DV K H (.bl b) (.bool b)
 | int (i:Int):DV K H (.int i) (.int i)
 | str (s:ah):DV K H (.str s) (.str s)
 | lst {a:aa} {xs:À V} {ds:À aJ}:SqL K H a xs->DVs K H xs ds->DV K H (.ref a) (.list ds)
 | tup {a:aa} {xs:À V} {ds:À aJ}:SqT K H a xs->DVs K H xs ds->DV K H (.ref a) (.tuple ds)
inductive DVs (K:Å) (H:Hp):À V->À aJ->Prop where
 | nil:DVs K H [] []
 | Ë {x:V} {d:aJ} {xs:À V} {ds:À aJ}:DV K H x d->DVs K H xs ds->DVs K H (x::xs) (d::ds)
end
section
variable {X:Cx} {ai:À (aa×aN)} {σ:St} {H:Hp} {s:aj}
mutual
theorem Inv.reads(I:å):∀ {x:V} {d:aJ} {u:ae},DV X.K H x d->ZJ x u->∃a,Reads Ð u d a
 | _,_,_,.non,r=>by cases r;exact(_,.none)
 | _,_,_,.bl b,r=>by cases r;exact(_,.bool b)
 | _,_,_,.int i,r=>by obtain t|rfl:=r;exact(_,.int i t)
 | _,_,_,.str z,r=>by obtain t|rfl:=r;exact(_,.str z t)
 | _,_,_,.lst h c,r=>by cases r;obtain its|f|⟨o,n,e,g,_,hd⟩|_:=ÁW h;rw[xe];exact(_,reads_list_at e g hd #[ea,q])
 | _,_,_,.tup h c,r=>by cases r;obtain its|f|⟨o,e,g,n,hd⟩|_:=Æw h;rw[xe];exact(_,reads_tuple_at e g hd #[ea,q])
theorem Ñn(I:å):∀ {xs:À V} {ds:À aJ} {us:À ae},DVs X.K H xs ds->ZH xs us->∃a,ReadsAll Ð us ds a
 | _,_,_,.nil,r=>by cases r;exact(_,.nil)
 | _,_,_,.cons h hs,r=>by
  cases r with
  | Ë b c=>obtain a|d:=Inv.reads I h b;obtain bs|e:=Ñn I hs c;exact(_,.cons d e)
end
def SN(K:Å)(a:Ñ):R2:=λx y H Q=>X2 λd e=>C5 (DV K H x d) (DV K H y e) (Äl d=true) (Äl e=true) (Q (.bl (if a then !aJ.eqv d e else ÂI d e)) H)
theorem ZtV(hu:Ño):OpR X (aS .Eq) (SN X.K false):=by intro ai s σ H x y v u Q I a b h;obtain d|e|c|f|g|i|q:=h;obtain as|j:=ÉK c a;obtain bs|k:=ÉK f b;exact eq_dataH j k g i hu #[hM,_,q]
theorem Zua(hu:Ño):OpR X (aS .NotEq) (SN X.K true):=by intro ai s σ H x y v u Q I a b h;obtain d|e|c|f|g|i|q:=h;obtain as|j:=ÉK c a;obtain bs|k:=ÉK f b;exact ne_dataH j k g i hu #[hM,_,q]
universe E
theorem eqD{X:Cx}(K:Å){k:Nat}(hr:χ)(h:X.K=K:=by rfl):OpR X (aS .Eq) (SN K false):=by subst h;exact ZtV Ìd
theorem neD{X:Cx}(K:Å){k:Nat}(hr:χ)(h:X.K=K:=by rfl):OpR X (aS .NotEq) (SN K true):=by subst h;exact Zua Ìd
mutual
theorem DV.mono{K:Å}{H H':Hp}(s:Àa):∀ {x:V} {d:aJ},DV K H x d->DV K H' x d
 | _,_,.non=>.non
 | _,_,.bl b=>.bl b
 | _,_,.int i=>.int i
 | _,_,.str z=>.str z
 | _,_,.lst h hs=>.lst (s.seq h) Ñp
 | _,_,.tup h hs=>.tup (by
   rcases h with(h|⟨ob,h⟩)|h
   ·exact .inl (.inl (s _ _ h))
   ·exact .inl (.inr (ob,s _ _ h))
   ·exact .inr h) Ñp
theorem DVs.mono{K:Å}{H H':Hp}(s:Àa):∀ {xs:À V} {ds:À aJ},DVs K H xs ds->DVs K H' xs ds
 | _,_,.nil=>.nil
 | _,_,.cons h hs=>.cons (DV.mono s h) Ñp
end
def Ite(K:Å)(a:aa):It :=
 ⟨λi H=>∃b,SqL K H a b/\i<Œ,
  λi H v c=>∃p,H p=af/\v=.ref p/\∀b,SqL K H a b->∀x,b[i]? = U x->c=upd H p (.tup [.int i,x]),
  λi H=>∃b,SqL K H a b/\Œ<=i⟩
theorem Zod{P:aw}{w:aF}{K:Å}{R:į}{S:Nat}{T:Pos}{a e it:aa}(G:e≠it) :
  Wu P w K (.Tuple R S T) (Ite K a) [e,it] e (λi h=>(∃l,IsEnum h e it i l)/\ÈU it a i) where
 mem:=by simp
 obj:=λi h st b d=>by
  obtain ⟨l,f⟩|o|g|j|hd:=st;rw[57];rcases d with rfl|rfl
  ·rw[fm,f,v,z]
  ·exact(o,g,λv z=>by rw[hd]at z;cases z)
 Ċ:=λi h r st k=>by obtain ⟨l,f⟩|g:=st;exact((l,k e Ó _ f),g.at λo q=>k it Ó o q)
 item:=by
  intro X t hw y j i J s L H E I n st A;rw[dj];obtain u|V|W:=C.get (Qb B);refine wpAny_pyNext_enum_item f g D.isList (x:=u) #[ea,V] G λr Y Z a3 a4 a5=>?_;have lt:Ñi:=λq=>Q2 (Qs q);have tN:Ï≠e:=lt f;refine(_,rfl,wpAny_letOwnedTupleGo_enum Y λF N qe=>?_);have m:#[yX,e,r,F]:=qe;have O:F.IsListIter it a (i+1):=Z.extBut ÉL G.symm;have I2:Inv X J L (upd H Ï (.tup [.int i,M[i]])) { s with Ø:=F,ï:=ŋ+1 }:=by
   refine I.zipped (fp:=[e,it]) (u:=.int i ŋ) (v:=u) n ü W (ÉL _ _ tN a3) (λb d=>?_) λc o j q=>?_
   ·rw[57];rcases d with rfl|rfl
    ·exact(_,N)
    ·obtain o|q|_:=O;exact(o,q)
   ·simp only[ÂX,År,Ås,not_or]at j;exact ÉL _ _ j.1 (a5 c o j.1 j.2 q)
  refine(.ref Ï,_,I2,rfl,(Ï,Ép,rfl,λxs' w1 x' Q=>?_),((_,N),O),λb d=>?_)
  ·have e3:=ÏS w1 p;subst e3;rw[Qb B]at Q;cases Q;rfl
  ·rw[Zf (λz=>by
    obtain⟨o,q⟩:∃o,ì b=U o:=by
     rw[57];rcases d with rfl|rfl
     ·exact(_,f)
     ·obtain o|q|_:=g;exact(o,q)
    exact lt q Äm)]
   exact(n b d).1
 done:=by intro X t hw y j i J s L H E I n st A;rw[dj];rw[tC];have hl:=Ãh;exact wpAny_pyNext_enum_end (Át j) f g D.isList #[e5,Qax,Q1,Á] λr eb=>(rfl,À4 (t':=Ŧ) (λb o d q=>eb b o d q) f0 f1 f3 f4 f5)
 self:=λ_ _ _ _ _ st h=>by obtain ⟨l,f⟩|_:=st;exact Öz f h
def K5(K:Å)(c:TA):TI:=λd H R=>c d H λvs b=>X2 λa xs=>vs=[õ a]/\SqL K b a xs/\R (Ite K a) b
theorem Zsj{X:Cx}{l:aK}{f:TA}{p pos:Pos}{o:į}{r:Nat}{t:Pos}(v:Gl X "enumerate")(hm:ę "enumerate" = af)(ha:PA X [l] f)
  (hs:#[fi,l]:=by rfl):PI X (.Tuple o r t) ÖA (K5 X.K f):=by
 rw[eR,g,i,R];refine Call_ (VC I v hm boot_enumerate (Qak (thn #[gd,g,i] ?_) hs rfl));rintro us c ⟨vs,j,d,w,x⟩;obtain a|xs|e|y|q:=x;subst e;obtain u|rfl|z:=w.one;cases z;obtain its|rv|A|_:=d.list y;refine call_enumerate_list A.isList λB k C hsz D=>Öz k ?_;have E:#[gL,g,i,j,c,B]:=d.kept (t':=Åa) D;refine(_,_,_,_,j,rfl,E,Zod (a:=a) (e:=ÀO+1) (it:=Ñj) (Q2 (Qbs _)),((_,k),C),λb m=>?_,q);have n:ÀO<=b:=by
  simp only[ÂX,År,Ås]at m;rcases m with rfl|rfl
  ·exact QaZ _ 1
  ·exact Qj _
 exact d.fpOk n (È8 n)
theorem iE{X:Cx}(K:Å){l:aK}{a:TA}{p pos:Pos}{b:į}{c:Nat}{d:Pos}(hm:ę "enumerate" = af)(ha:PA X [l] a)(e:Gl X "enumerate":=by rfl)(f:X.K=K:=by rfl)
  (g:#[fi,l]:=by rfl):PI X (.Tuple b c d) ÖA (K5 K a):=by subst f;exact Zsj e hm ha g
theorem SM{K:Å}{a:aa}{xs:Ą}{g:TG}{l:TS}{D:XU}{b:St}{H:Hp}(Pv:ÆD)(h0:Pv 0 b H)(hl:∀i b H,Pv i b H->SqL K H a xs)
  (hs:∀i x b H p,xs[i]? = U x->Pv i b H->H p=af->g ş b (upd H p (.tup [.int i,x])) λf h=>l { D with nx:=Pv (i+1),ct:=Pv (i+1),bk:=Č } f h) (hd:#[hP,b,Ú]) :
  ∃W:Nat->Nat->St->Hp->Prop,(∃m,W 0 m b H)/\∀i m b H,W i m b H ->
   ((Ite K a).stop i H/\Č b H)\/((Ite K a).go i H/\∃N:St->Hp->Prop,#[eZ,j,c,n]/\∀x c,(Ite K a).yld i H x c->g x b c λf h=>l { D with nx:=N,ct:=N,bk:=Č } f h):=by
 refine ÔI;rintro i m b H ⟨rfl,hi,p⟩;have k:=hl i b H p;by_cases d:i<Ú
 ·refine .inr ((xs,k,d),Pv (i+1),λj c o=>(Ú-(i+1),by lia,rfl,d,o),λx c y=>?_);rw[sW,q];have s:=e xs k _ (Qb d);subst s;exact hs i _ b H r (Qb d) p q
 ·have e:i=Ú:=by lia
  exact .inl ((xs,k,by lia),hd b H Åt)
def Zva(K:Å):À V->Hp->VK->Prop:=λxs H Q=>X2 λp ys=>xs=Á1/\#[hw,K,ys]/\∀l,H l=af->Q Đ #[hU,H,l,ys]
theorem ZvA{X:Cx}(K:Å)(h:X.K=K:=by rfl):YN X Ãe (Zva K):=by subst h;exact ZjO
section
variable {X:Cx}
theorem inQ(K:Å)(h:X.K=K:=by rfl):OpR X (aS .In) (rIn K false):=by subst h;exact Zot
universe E
def Its(z:ah):It:=(λi _=>i<Äf,λi H v H'=>H'=H/\∃c,Á6[i]? = U c/\v=.str ŷ,λi _=>Äf<=i)
theorem ZoU{P:aw}{w:aF}{K:Å}{F:aK}(z:ah)(t:Tok)(it:aa):Wu P w K F (Its z) [it] it (λi h=>Ð3 it "str_ascii_iterator" z t i) where
 mem:=by simp
 obj:=λi h st b a=>by
  have e:b=it:=by simpa using a
  rw[14]
 Ċ:=λi h f st k=>by obtain o|e|r:=st;exact ÌJ
 item:=by intro X j hw l y i A s B H E I g st m;rw[o1];refine wpAny_pyNext_ascii_item st C λf D J=>?_;rw[Z]
 done:=by intro X j hw l y i A s B H E I g st m;rw[bc];exact wpAny_pyNext_ascii_end (Át y) st (Qbe m) λf M=>(rfl,À4 (t':=Ŧ) #[e2,b,a,M] n p q u x)
 self:=#[h0,wpAny_pyIter_striter_ascii]
theorem ZoB{P:aw}{w:aF}{K:Å}{F:aK}(z:ah)(t:Tok)(it:aa):Wu P w K F (Its z) [it] it (λi h=>Ð3 it "str_iterator" z t i) where
 mem:=by simp
 obj:=λi h st b a=>by
  have e:b=it:=by simpa using a
  rw[14]
 Ċ:=λi h f st k=>by obtain o|e|r:=st;exact ÌJ
 item:=by intro X j hw l y i A s B H E I g st m;rw[o1];refine wpAny_pyNext_wide_item st C λf D J=>?_;rw[Z]
 done:=by intro X j hw l y i A s B H E I g st m;rw[bc];exact wpAny_pyNext_wide_end (Át y) st (Qbe m) λf M=>(rfl,À4 (t':=Ŧ) #[e2,b,a,M] n p q u x)
 self:=#[h0,wpAny_pyIter_striter_wide]
section
variable {X:Cx} {tg:aK}
def ZwJ(a:TE):TI:=λb H R=>a b H λx c=>∃z,x=.str z/\R (Its z) c
theorem K4{l:aK}{f:TE}(hl:PE X l f):PI X tg l (ZwJ f):=by
 rw[r3,g,j];rintro v a ⟨x,d,c,k,m⟩;rw[g6,z,e,q,m];subst e;rw[ey,t,k];have fp:∀b∈[υ],Xm X g d b:=λb n=>by
  have e:b=υ:=by simpa using n
  subst e;exact c.fpOk î (c.hok.fresh î)
 cases i:Ð5 (·<128)
 ·exact wpAny_pyIter_wide i (υ,Ñq,_,_,d,rfl,c.kept (t':=ÆH) λb o e=>Qc _ e,ZoB z t _,ÃQ,fp,q)
 ·exact wpAny_pyIter_ascii i (υ,Ñq,_,_,d,rfl,c.kept (t':=ÆH) λb o e=>Qc _ e,ZoU z t _,ÃQ,fp,q)
theorem K3{z:ah}{g:TG}{k:TS}{D:XU}{a:St}{H:Hp}(Pv:ÆD)(h0:Pv 0 a H)
  (hs:∀i c a H,Á6[i]? = U c->Pv i a H->g (.str ŷ) a H λd f=>k { D with nx:=Pv (i+1),ct:=Pv (i+1),bk:=Č } d f) (hd:#[hP,a,Äf]) :
  ∃W:Nat->Nat->St->Hp->Prop,ËI/\∀i m a H,W i m a H ->
   ((Its z).stop i H/\Č a H)\/((Its z).go i H/\∃N:St->Hp->Prop,#[eZ,h,b,l]/\∀x b,(Its z).yld i H x b->g x a b λd f=>k { D with nx:=N,ct:=N,bk:=Č } d f):=by
 rw[eA,Äf];by_cases j:i<Äf
 ·refine .inr (j,Pv (i+1),λh b n=>(Äf-(i+1),by lia,rfl,j,n),λx b y=>?_);obtain rfl|c|o|rfl:=y;exact hs i c a _ o p
 ·have e:i=Äf:=by lia
  exact .inl (ÕD j,hd a H Åt)
theorem K2:OpR X (aS .Gt) (λx y H Q=>X2 λi j=>x=.str i/\y=.str j/\Q (.bl (decide ÖB)) H):=by intro ai s σ H x y v u Q I a b h;obtain i|j|rfl|rfl|q:=h;obtain t|rfl:=a;obtain t'|rfl:=b;exact PySem.P.gt_str (ZV I q rfl)
universe E
def PV:aJ->ah
 | .str z=>z
 | d=>d.shown
def K1(K:Å):À V->Hp->VK->Prop:=λxs H Q=>X2 λx d=>C6 (xs=[x]) (DV K H x d) (Åu d=true) (d.intsShort 13=true) (d.showable=true) (Q (.str (PV d)) H)
theorem Zob{X:Cx}(n:X.A.guards=U [])(hu:ÌK+64+30<Âz):YN X ÁA (K1 X.K):=by
 rw[rX,p,y,xs];obtain x|d|rfl|hd|c|B|l|q:=h;obtain u|rfl|f:=Xb r;have C:d.shown.length<=aq:=Qk (shown_le13 c B) Ñr;have hdp:d.depth<=64:=by unfold Åu at c;rw[Q6,Q6]at c;exact Ī c.1.2
 have D:d.canLay0=true:=by unfold Åu at c;rw[Q6,Q6]at c;exact c.1.1
 have ref:∀a,u=.ref a->PV d=d.shown->ô (ŧ ÁA [u]) (EP X p y Q) ç s:=λa E G=>by
  subst E;obtain as|J:=ÉK hd f;rw[G]at q;exact callType_new F.called_str Ì (F.typeCall_str_1 _) (F.newCall_str_1 _) (λobj=>F.args_object_init_2 obj _) F.entry_str_new
   (meets_str_new (v:=.ref a) (S:=λA R m=>m=s/\A=X.A.in1/\∀g u tk,#[ga,o,ì,Æl]->R (.ok (.ret (.str d.shown u))) { s with Ø:=g,ï:=tk }) λprog w A R m j=>by obtain rfl|rfl|j:=j;exact strOf_of_reads J l (aJ.noDict_hsm (aJ.hasDict_of_canLay d D)) n (by show ÌK+1+1+(d.depth+1)<Âz;lia) ËA (λg u tk k=>j g u tk k) C)
   (rfl,rfl,λg u tk k=>(Éi _ _ _,.str _,H,Âw k,ü,q))
 cases hd with
 | non=>cases f;exact PySem.P.str_of_none #[gp,_,q]
 | bl b=>cases f;exact PySem.P.str_of_bool #[gp,_,q]
 | int i=>obtain t|rfl:=f;exact PySem.P.str_of_int (Ī l) #[gp,_,q]
 | str z=>obtain t|rfl:=f;exact PySem.P.str_of_str Öd
 | lst K L=>cases f;exact ref _ rfl rfl
 | tup K L=>cases f;exact ref _ rfl rfl
theorem T7{X:Cx}(K:Å){k:Nat}(hr:χ)(h:X.K=K:=by rfl):YN X ÁA (K1 K):=by subst h;exact Zob hr.gd (by have:=hr.un;lia)
section
variable {X:Cx} {ai:À (aa×aN)} {σ:St} {H:Hp} {s:aj}
def Zwg:TE:=λ_ H Q=>∀p,H p=af->Q ş (upd H p (.dT []))
theorem K0{pos:Pos}:PE X (.Dict [] [] pos) Zwg:=by intro ai s σ H Q I h;have a:bA<Ï:=ÌL Ì (show aM<Ï from#[ys].lt);refine ÖC (.ref Ï,upd H Ï (.dT []),?_,rfl,h _ Ã5);refine À7 (t':=Ŧ) Én î ?_;refine(Qt _,?_,[],.nil,_,#[],0,Qv _ rfl,(rfl,rfl,rfl),rfl,rfl,List.nodup_nil);exact Èx λz=>Qal _ (z ▸ a)
universe E
def V8(lo:Int)(n:Nat):À Int:=(ÂE n).map λ(k:Nat)=>lo+k
theorem KZ(lo:Int)(n:Nat):(V8 lo n).length=n:=by simp[V8]
theorem Zoh{K:Å}{S1 S2:Src}{xs ys:Ą}{k:Nat}{D:aa}{a:St}{l:Hp}{g:TG}{n:TT}{o:TE}{Q:VK}(Pv:#[gQ,St])(h0:#[h6,l])
  (hl:Öy)
  (hs:∀i zs a H x y p,xs[i]? = U x->ys[i]? = U y->Pv i zs a H->H p=af->g ş a Ñk λc t=>n c t λb q=>if b=true then o c q λz s=>s D=U Àe/\ÐF<aq/\Pv (i+1) (zs++[z]) c #[hg,s,zs,z] else Pv (i+1) zs c q)
  (hd:#[iK,zs,a,ÌI]):Vu ÌD D k a l g n o Q:=by
 rw[69];obtain d|f:=hl i zs a H p;by_cases u:i<min Ú č
 ·have h:i<Ú:=by lia
  have j:i<č:=by lia
  refine .inr ((xs,ys,d,f,h,j),Pv (i+1),λjP aR v w=>(min Ú č-(i+1),by lia,rfl,u,w),λx v y=>?_);rw[sW,A];have B:=e xs ys d f _ _ (Qb h) (Qb j);subst B;exact hs i zs a H _ _ r (Qb h) (Qb j) p A
 ·have e:Ñl:=by lia
  refine .inl ((xs,ys,d,f,by lia),hd zs a H Åt)
section
variable {X:Cx}
theorem SK(ns:Ô):∀n,n<=ĩ->preSum (λj=>ns.getD j 0) n=(ÉM n).sum
 | 0,_=>rfl
 | n+1,h=>by
  have ih:=SK ns n Á;have e:ÉM (n+1)=ÉM n++[ns.getD n 0]:=by rw[QH,Qb Á,QM,Qb Á];rfl
  rw[e,Qao,<- ih];simp[preSum]
universe E
section
variable {ÿ:aw} {w:aF} {A:aD} {E:ae->aj->Prop} {s:aj} {κ:Çc} {k0:Çd} {iN:ĉ ÂJ} {st:Çe}
structure SB (k0:Çd) (iN:ÉN) (st:Çe):Prop where
 perm:(Û2).Perm iN
 kind:ζ st=k0
 failed:failedOf st=af
 pend:ÌM st = #[]
universe E
def kLt:Key->Key->Ñ
 | .inl i,.inl j=>decide (i<j)
 | .inr x,.inr y=>decide (x.cps.toList<y.cps.toList)
 | .inl _,.inr _=>true
 | .inr _,.inl _=>false
theorem Zme:∀a:Key,kLt a a=false
 | .inl i=>Ń Á
 | .inr x=>Ń (List.lt_irrefl _)
theorem ZoY:∀a b c:Key,kLt a b=true->kLt b c=true->kLt a c=true
 | .inl i,.inl j,.inl k,h1,h2=>by have:=Ī h1;have:=Ī h2;exact Ñs
 | .inr x,.inr y,.inr z,h1,h2=>đ (List.lt_trans (Ī h1) (Ī h2))
 | .inl _,.inl _,.inr _,_,_=>rfl
 | .inl _,.inr _,.inr _,_,_=>rfl
 | .inl _,.inr _,.inl _,_,h=>by cases h
 | .inr _,.inl _,_,h,_=>by cases h
 | .inr _,.inr _,.inl _,_,h=>by cases h
def Yt:À Key->À Key->Ñ
 | [],[]=>false
 | [],_::_=>true
 | _::_,[]=>false
 | x::xs,y::ys=>if x=y then Yt xs ys else kLt x y
theorem PU(x y:Key)(xs ys:À9):Yt (x::xs) (y::ys)=if x=y then Yt xs ys else kLt x y:=rfl
theorem PR:∀a:À Key,Yt a a=false
 | []=>rfl
 | x::r=>by unfold Yt;rw[p8];exact PR r
theorem KY:∀a b c:À Key,Yt a b=true->Yt b c=true->Yt a c=true
 | [],[],_,h,_=>by cases h
 | [],_::_,[],_,h=>by cases h
 | [],_::_,_::_,_,_=>rfl
 | _::_,[],_,h,_=>by cases h
 | _::_,_::_,[],_,h=>by cases h
 | x::r,y::s,z::t,h1,h2=>by
  have ih:=KY r s t;unfold Yt at h1 h2 ⊢;by_cases f:x=y
  ·rw[y3,f,h1];by_cases d:y=z
   ·rw[mK]
   ·rw[iv,d,h2];rw[Æ (λe=>d Ñt),f];exact h2
  ·rw[iv,f,h1];by_cases d:y=z
   ·rw[Æ (λe=>f Ñu),<- d];exact h1
   ·rw[iv,d,h2];have g:=ZoY _ _ _ h1 h2;rw[rD,Æ,e,Zme,g]
def W6(ks:À9):À Ñ:=Ρ λk=>k.isLeft
abbrev Wq:=À (aa×À Key)
def VW(a:Wq):À V:=ļ λt=>õ t.1
def AtT(H:Hp)(a:Wq):Prop:=∀t∈a,H t.1=U (.tup (t.2.map kV))
theorem KW:∀ {c:Wq} {us:À ae},ZH (VW c) us->us=š λt=>è t.1
 | [],_,h=>by cases h;rfl
 | t::r,_,h=>by
  cases h with
  | Ë a b=>rw[KW b];cases a;rfl
theorem Zrv(A:aD)(s:aj){k m:Key}{p q:ae}(hp:ZJ (kV k) p)(hq:ZJ (kV m) q)(hs:k.isLeft=m.isLeft):∃e,Ðy A s p q e/\(e=true↔k=m):=by
 cases k with
 | inl i =>
  cases m with
  | inl j=>obtain t|rfl:=hp;rw[ey,u,hq];exact(_,Õt i t j u,by simp)
  | inr y=>cases hs
 | inr x =>
  cases m with
  | inl j=>cases hs
  | inr y=>obtain t|rfl:=hp;rw[ey,u,hq];exact(_,Õu x t y u,by simp)
theorem Zq0(A:aD)(s:aj){k m:Key}{p q:ae}(hp:ZJ (kV k) p)(hq:ZJ (kV m) q)(hs:k.isLeft=m.isLeft)(ÿ:aw)(w:aF)(E:ø)(Q:ø)(h:Q (.bool (kLt k m)) s) :
  av à A (richCompare .Lt p q) Q E s:=by
 cases k with
 | inl i =>
  cases m with
  | inl j=>obtain t|rfl:=hp;rw[ey,u,hq];exact(PyProof.Rows.lt_int h:av à A (aS .Lt (.int i t) (.int j u)) Q E s)
  | inr y=>cases hs
 | inr x =>
  cases m with
  | inl j=>cases hs
  | inr y=>obtain t|rfl:=hp;rw[ey,u,hq];exact(PyProof.Rows.lt_str h:av à A (aS .Lt (.str x t) (.str y u)) Q E s)
section
open PySem.SeqAt
open PySem.AutoSeq1 (wpAny_loadPart')
open PySem.MeetsSeq PySem.MeetsSeq2 PySem.MeetsSeq3
theorem Ziq(l b:aa)(β o:ÃP)(n K:Nat)(L M:ď)(sl N:Ŭ)(ks m:À9)(hi:ZH Çf Ñv)(F:ZH (m.map kV) o.toList)(hs:W6 ks=W6 m) :
  Meets (be.«tuple.__lt__» ([.ref l,.ref b],[]))
   (λ_ R s=>ì l=U { cls:=Äi,Ξ:=L,Ò:=.seq β n,Áo:=sl }/\ì b=U { cls:=Äi,Ξ:=M,Ò:=.seq o K,Áo:=N } /\
    R (.ok (.ret (.bool (Yt ks m)))) s) :=
 .of_wp λc w A R s h=>by
  rw[hm,p,tk,s];rw[g6,O,P,h,h];have f2:=AutoSeq1.sub_tuple_tuple;have z1:ÉO=ÁB:=by have:=hi.length;simpa using this.symm
  have z2:o.size=m.length:=by have:=F.length;simpa using this.symm
  have z3:ÁB=m.length:=by have:=#[eX,hs];simpa [W6] using this
  wp_walk using ÖD O,ÖD P,wpAny_forIn_list _ (λrest b u=>b.1=af/\u=(p,g,d,tk,os)/\X4 λ(r ws:À ae) (f a:À Key)=>Ć=r.zip ws /\
   ZH (f.map kV) r/\ZH (ļ kV) ws/\W6 f=W6 a/\R (.ok (.ret (.bool (Yt f a)))) #[gv,p,tk]) _
  case turn =>
   rintro⟨y,x⟩ Ć b u ⟨v,rfl,r,ws,f,a,j,t,z,k,i⟩;cases f with
   | nil=>cases t;rw[hL,List.zip_nil_left,j]
   | Ë Q kr =>
    cases a with
    | nil=>cases k
    | Ë S T =>
     cases t with
     | Ë B G =>
      cases z with
      | Ë C H =>
       rw[ÖE]at j;injection j with D V;injection D with W X;subst W X;rw[PU]at i;unfold W6 at k;rw[Ql,Ql]at k;injection k with I Y;obtain e|Z|J:=Zrv Än #[gv,p,tk] B C I;refine am (Z c w _ _ ?_);cases e with
       | true =>
        rw[È (J.mp rfl)]at i
        wp_walk
        exact(rfl,rfl,_,_,_,_,V,G,H,Y,i)
       | false =>
        rw[Æ (λq=>Ç (J.mpr q) Qw)]at i;have E:=Zq0 Än #[gv,p,tk] B C I c w
        wp_walk using E
        exact(_,rfl,by simpa using i)
  case fin =>
   rintro⟨b1,b2⟩ u ⟨v,rfl,r,ws,f,a,j,t,z,k,i⟩;simp only at v;subst v;have hv:Yt f a=decide (ÉO<o.size):=by
    rw[Ń Á];cases f with
    | nil =>
     cases a with
     | nil=>rfl
     | Ë _ _=>cases k
    | Ë Q kr =>
     cases a with
     | nil=>cases k
     | Ë S T =>
      cases t with
      | Ë B G =>
       cases z with
       | Ë C H=>rw[ÖE]at j;cases j
   rw[hv]at i
   wp_walk
   exact(_,rfl,by simpa [be.Tuple.tupleCompareSizes] using i)
  case h=>exact(rfl,rfl,Ñv,o.toList,ks,m,rfl,hi,F,hs,h)
universe E
section
variable {ÿ:aw} {w:aF} {A:aD} {E:ae->aj->Prop} {s:aj}
theorem Zl1{l b:aa}{β c:ÃP}{ks a:À9}{Q:ø}(hl:ÃG Ð l β)(hb:ÃG Ð b c)(hi:ZH Çf Ñv)(j:ZH (ļ kV) c.toList)(hs:W6 ks=W6 a)
  (hu:Á0<Âz) (h:Q (.bool (Yt ks a)) s):av à A (richCompare .Lt Đ ÀR) Q E s:=by
 obtain ⟨cls,k,Ò,m⟩|d|e|n|hd:=id hl;obtain ⟨cls2,o,data2,p⟩|f|g|q|i:=id hb;simp only at e hd g i;subst e hd g i;exact richCompare_meets_room (op:=.Lt) (_,d,rfl) (_,f,rfl) PySem.F.slot_tuple_lt PySem.F.entry_tuple_lt (PySem.F.args_tuple_lt_2 _ _) (Ziq l b β c n q k o m p ks a hi j hs)
  (d,f,show ÄX (Yt ks a)≠ae.notImplemented/\Q (.bool (Yt ks a)) s from((λx=>nomatch x),h)) hu
universe E
section
variable {ÿ:aw} {w:aF}
theorem Zpf{A:aD}{a:Args}:(È1 (.builtin "min.loop" a)).units<=Á0+1:=by show Á0+(Code.builtin "min.loop" a).cUnits<=Á0+1;first|exact Qj _|simp[Code.cUnits,Ðh,ËV]
theorem PQ{A:aD}{R:È0}{l I S:aa}{d:Wq}{sh:À Ñ}{h0:aI}{kw:Â6}(D:Â9)(hu:Ñw)(E:#[hu,h0.IsList,Àf])
  (s:Á9 I=af) (v:Á9 S=af) (i:S≠I) (x:#[fN,d,h0]) (y:∀t∈d,W6 t.2=sh) (z:aj)
  (q:#[eB,h',Á9,Ā,d,z]) :
  ∀ (k j:Nat) (h:aI) (t:aa×À Key) (c:Nat),ņ-j=k->j<=ņ->#[ga,o,Á9,Þ]->ÈU I l j->Þ S=U { cls:=Ĺ,Ò:=.seq #[.ref t.1,.ref t.1] c }->t∈d ->
   (∀u∈Äo j,Yt u.2 t.2=false)->bI à A ÖF R { z with Ø:=h }
 | k,j,h,t,c,hk,hj,Ċ,N,G,B,H=>by
  rw[iP];refine am (bi G rfl ?_);have O:#[hu,h.IsList,Àf]:=by obtain o|m|r:=E;exact(o,Ċ _ _ m,r)
  by_cases C:j<ņ
  ·have J:(#[hF,Àf].toArray)[j]? = U (è d[j].1):=by simp[C]
   refine am (cm (ÏR N O J λg P Q=>?_));have K:#[eC,o,Á9,Æl]:=λb o f=>by
    have n:b≠I:=λe=>by rw[e,s]at f;cases f
    rw[Q.2 b n];exact Ċ b o f
   have p:ÖG:=by rw[Q.2 S i];exact G
   rw[sf,aB];have L:d[j]∈d:=Qah C;obtain i1|W|X:=x _ L;obtain i2|Y|Z:=x _ B;have T:∀ {a:aa} {its:À ae},ÃG h0 a ŝ->ÃG g a ŝ:=λ⟨o,m,hc⟩=>(o,K _ _ m,hc);have EW:W6 d[j].2=W6 t.2:=(y _ L).trans (y _ B).symm;refine am (cm (ba (am (Zl1 (T X) (T Z) #[ea,W] #[ea,Y] EW (QaJ Zpf Á) (am (ba (bp (am Ìx))))))));cases f:Yt d[j].2 t.2 with
   | true =>
    refine am (ÉP p rfl ?_ #[gR,2] #[gR,2]);refine am (cP (aB ÉQ));refine PQ D hu E s v i x y z q (k-1) (j+1) _ d[j] c Á Á #[iw,b,o,M] ?_ ?_ L (λu hu'=>?_)
    ·have n:S≠b:=λe=>by rw[<- e,v]at M;cases M
     exact Qau _ n (K b o M)
    ·rw[g6,o,m,r,P];exact(o,Qau _ i m,r)
    ·have:=ÖH (c := "list") p (λ_=>#[.ref d[j].1,.ref d[j].1]);simpa using this
    ·rw[QH,Qb C]at hu';rcases ß hu' with hu'|hu'
     ·have:=H u hu';cases hz:Yt u.2 d[j].2 with
      | false=>rfl
      | true=>rw[KY _ _ _ hz f]at this;cases this
     ·have:u=d[j]:=by simpa using hu'
      rw[this];exact PR _
   | false =>
    refine am (cP (aB ÉQ));refine PQ D hu E s v i x y z q (k-1) (j+1) g t c Á Á K P p B (λu hu'=>?_);rw[QH,Qb C]at hu';rcases ß hu' with hu'|hu'
    ·exact H u hu'
    ·have:u=d[j]:=by simpa using hu'
     rw[this];exact f
  ·have J:(#[hF,Àf].toArray)[j]? = af:=by simp;lia
   refine am (cm (ÏT D N O J λg V=>?_));have p:ÖG:=V S _ i G;refine am (ÉP p rfl ?_ #[gR,2] Ñx);refine am Ìx;refine q _ t #[iw,b,o,f] B (λu hu'=>H u (by rw[Qz Á];exact hu'));have n:S≠b:=λe=>by rw[<- e,v]at f;cases f
   have nI:b≠I:=λe=>by rw[e,s]at f;cases f
   exact Qau _ n (V b o nI (Ċ b o f))
termination_by k=>k
theorem Zo7{A:aD}{R:È0}{l I S:aa}{a:Wq}{sh:À Ñ}{h0 h:aI}{c:Nat}{kw:Â6}(z:Â9)(hu:Ñw)(B:#[hu,h0.IsList,ļ])
  (j:Á9 I=af) (C:Á9 S=af) (k:S≠I) (K:#[fN,a,h0]) (L:∀t∈a,W6 t.2=sh) (i:aj) (Ċ:#[eC,o,Á9,Þ]) (D:ÈU I l 0) (E:Þ S=U { cls:=Ĺ,Ò:=.seq #[] c })
  (M:a≠[]\/X3 λn d kr=>kw=(n,d,)::kr/\∀g:aI,#[ga,o,Á9,Æl]->R (.ok (.ret d)) { i with Ø:=g })
  (q:#[eB,g,Á9,Æl,a,i]) :
  bI à A ÖF R { i with Ø:=h }:=by
 rw[iP];refine am (bi E rfl ?_);have G:#[hu,h.IsList,ļ]:=by obtain o|m|r:=B;exact(o,Ċ _ _ m,r)
 cases a with
 | nil =>
  obtain n|d|kr|rfl|N:=M.resolve_left Ó;refine am (cm (ÏT z D G Ó λp O=>?_));show av _ _ (rule _ >>= _) _ _ _;refine am (ÈT (aB ?_));refine N _ λb o f=>?_;have P:b≠I:=λe=>by rw[e,j]at f;cases f
  exact O b o P (Ċ b o f)
 | Ë t r =>
  refine am (cm (ÏR D G (x:=.ref t.1) Ó λp Q H=>?_));have T:#[eC,o,Á9,p.get?]:=λb o f=>by
   have s:b≠I:=λe=>by rw[e,j]at f;cases f
   rw[H.2 b s];exact Ċ b o f
  have J:p.get? S=U { cls:=Ĺ,Ò:=.seq #[] c }:=by rw[H.2 S k];exact E
  rw[sf,aB];show av _ _ (updateSeq S _ >>= _) _ _ _;refine am (ÉP J rfl ?_ Ñx #[gR,2]);refine aB ÉQ;refine PQ z hu B j C k K L i q _ 1 _ t (c+1) rfl Ó #[iw,b,o,v] ?_ ?_ Ó (λu y=>?_)
  ·have s:S≠b:=λe=>by rw[<- e,C]at v;cases v
   exact Qau _ s (T b o v)
  ·rw[g6,o,m,r,Q];exact(o,Qau _ k m,r)
  ·have:=ÖH (c := "list") J (λ_=>#[.ref t.1,.ref t.1]);simpa using this
  ·have:u=t:=by simpa using y
   rw[this];exact PR _
universe E
section
variable {X:Cx}
def KU(K:Å):À V->Hp->VK->Prop:=λvs H Q=>X3 λ(p:aa) (a:Wq) (sh:À Ñ)=>C6 #[ff,p] (SqL K H p (VW a)) (AtT H a) (a≠[]) ((∀t∈a,W6 t.2=sh)) (∀t:aa×À Key,t∈a->(∀u∈a,Yt u.2 t.2=false)->Q (.ref t.1) H)
theorem ZpN{ÿ:aw}{w:aF}{A:aD}{R:È0}{s:aj}{l:aa}{a:Wq}{sh:À Ñ}{kw:Â6}{i:Â6}(k:Â9)(hu:Ñw)(r:#[hu,s.heap.IsList,ļ])
  (v:(kw=[]/\i=[])\/∃d,kw=ÖI/\i=ÖI)
  (z:#[fN,a,Ð]) (B:∀t∈a,W6 t.2=sh)
  (C:a≠[]\/X3 λn d kr=>i=(n,d,)::kr/\∀h':aI,#[ga,o,ì,Ā]->R (.ok (.ret d)) { s with Ø:=h' })
  (q:#[eB,h',ì,Ā,a,s]) :
  bI à A (.call ËM { pos:=[.ref l],kw:=kw }) R s:=by
 refine Ñy rfl F.entry_min ?_;have D:ÉR "min" { pos:=[.ref l],kw:=kw }=pure ():=by rcases v with⟨rfl,_⟩|⟨d,rfl,_⟩<;>rfl
 rw[D];refine aB ?_;have go:∀ {m:aD},m.handled=af->av à m (Åb Đ >>= λE=>Ìj [] >>= λb=>again (.builtin "min.loop" { pos:=[E,.none,b],kw:=i })) (λp j=>match p with
   | Fin.done f=>R (Except.ok f) j
   | Fin.again x=>x.quiet=true/\bI à A x R j) (λe j=>R (Except.error e) j) s:=λ{m} hA'=>by
  refine am (b9 r ?_);refine am (wpAny_newList ?_ Ñx);refine aB ÉQ;have y:∀b,Ï<=b->ì b=af:=λb G=>by
   cases e:ì b with
   | none=>rfl
   | some o=>exact Ç (Qs e) (ÉS G)
  have g:(γ { cls:=ÂZ "list_iterator",Ò:=Data.fields #[è l,ÂY 0 0] }).objs.size=Ï+1:=size_push' _ _;refine Zo7 (h0:=Ð) (c:=0) k hu r (y _ î) (y _ #[e5,g,Qac,_]) #[e5,g,ÖJ,_] z B s (λb o h=>Qc _ (Qc _ h)) (_,Qc _ Åq,rfl,rfl) Åq C q
 rcases v with⟨rfl,rfl⟩|⟨d,rfl,rfl⟩
 ·exact go k
 ·exact go k
theorem ZoE(hc:ť)(hu:Ño):YN X ËM (KU X.K):=by
 rw[rX,ai,σ,vs];obtain p|ts|sh|rfl|b|c|d|e|q:=h;rw[fw,f];rw[f5,g,j,hz,b];have k:=KW g;subst k;refine Ã2 (ZpN (sh:=sh) Âv Á j.isList (.inl ć) (λt a=>?_) e (.inl d) λh' t l a m=>?_)
 ·obtain i|v|q|_:=Æw (ā (K:=X.K) (c t a));exact(i,v,q)
 ·exact(.ref t.1,H,Âw (t':=Ŧ) l,rfl,q t a m)
theorem KS(K:Å){k:Nat}(hr:χ)(hc:ť:=by rfl)(h:X.K=K:=by rfl):YN X ËM (KU K):=by subst h;exact ZoE hc Ìd
universe E
section
variable {X:Cx} {T name id:ĸ} {r:V->À V->Hp->VK->Prop} {o e:aK} {es:À aK} {to:TE} {t:TA} {bu bq:Pos}
theorem ZZ(K:Å){X:Cx}{T:ĸ}{name:ah}{id:ĸ}{r:Éf}{o e:aK}{es:į}{to:TE}{t:TA}{bu bq:Pos}(a:ÐA T)(slot:ÐB)(b:ÐC)(hm:MtR X id r)(c:Æy)(ha:ε)
  (d:X.K=K:=by rfl)
  (f:ÐD:=by rfl)
  (g:((bg bq ÆP).all Ë9&&#[je].all Ìa
   && decide Õz)=true:=by rfl)
  (h:Él=true:=by rfl) (i:Ν:=by rfl) (j:Ém:=by rfl) :
  PE X ÕA (tBM K T r to t):=by
 subst d;exact Zvj a slot b hm c ha f g h i j
universe E
section
variable {X:Cx}
def KR(K:Å):À V->Hp->VK->Prop:=λvs H Q=>X2 λ(p:aa) (ns:À Int)=>C5 #[ff,p] (SqL K H p ψ) #[su,1000] ((∀n∈ns,0<=n/\n<=10000000000000)) (Q (.int ns.sum) H)
theorem Zov(hc:ť):YN X ÌN (KR X.K):=by
 rw[rX,ai,σ,vs];rw[sG,p,a,o,hn,d];rw[fw,t];obtain its|v|w|_:=ÁW o;have f:=ZlZ v;rw[el,b,e,f.allInts.items];have g:a=b.toList.map ù:=by rw[<- f.numsOf,<- nums_intItems,<- e]
 have c:b.size=ĳ:=by rw[g,Qa,QaE]
 have i:numAt b=λj=>Éu j 0:=by funext j;rw[numAt_eq,g]
 have k:=w.isList;rw[e]at k;have bound:∀n,n<=ĳ->0<=(Ãi n).sum/\(Ãi n).sum<=10000000000000*n:=by
  intro n;induction n with
  | zero=>intro _;exact(by simp,by simp)
  | succ n l =>
   intro h;have l:=l Á;have x:=d a[n] (Qah Á);have y:Ãi (n+1)=Ãi n++[a[n]]:=by rw[QH,Qb Á];rfl
   rw[y,Qao];have z:([a[n]]:À Int).sum=a[n]:=by simp
   rw[(z)];lia
 refine sum_intList Âv k (λj hj=>?_) λh' tk A B=>(.int _,H,Âw B,(A,rfl),?_)
 ·rw[i];have x:=d a[j] (Qah Á);have m:Éu j 0=a[j]:=by rw[QM,Qb Á];rfl
  have hp:=bound (j+1) Á;refine((?_,?_),Ìh)
  ·show -(2 ^ 63)<=Éu j 0;rw[m];lia
  ·show Éu j 0<2 ^ 63;rw[m];lia
  ·rw[SK a (j+1) Á];lia
  ·rw[SK a (j+1) Á];lia
 ·rw[i,c,SK a ĳ î,Qz î];exact q
theorem KQ(K:Å)(hc:ť:=by rfl)(h:X.K=K:=by rfl):YN X ÌN (KR K):=by subst h;exact Zov hc
universe E
universe E.L2
namespace Hf
open L2
abbrev PW:=À (Int×Nat)
def val(P:PW):Int:=(Àx λp=>p.1*(p.2:Int)).sum
def ws(P:PW):À Int:=Àx ù
def ds(P:PW):À Nat:=Àx ě
def zs(z:Nat):À Int:=Áx z 0
def kr(w E:Nat)(D:Ō):Nat:=(D.map λd=>w ^ (E-d)).sum
inductive Hu (w:Nat):À Int->Nat->Int->Prop
 | stop {e:Int} {m:Nat}:Hu w [e] m 0
 | step {E L:À Int} {m:Nat} {C:Int}:1<Àg->E.Perm L->L.Pairwise (·<=·)->Hu w (L.drop m++[(L.take m).sum]) w C->Hu w E m (C+(L.take m).sum)
def Fit(w n m:Nat):Prop:=n=1\/∃t,n=m+t*(w-1)
structure Fits (w n m:Nat):Prop where
 w2:2<=w
 m2:2<=m
 mw:m<=w
 ok:Fit w n m
universe E.Hf
namespace L2
open PySem PySem.Spec PyProof.Rows
section
variable {ÿ:aw} {w:aF} {A:aD} {R:È9->aj->Prop} {s:aj}
theorem ZiD{c d b Ļ:aK}{f:į}{k:bn}{pos:Pos}{it:ae}{D:aa}{env:Env}{E:ø}(I:#[y2,Nat])
  (G:∀e s',E e s'->Ē)
  (turn:∀n s,I n s->av à A (Â4 it) (λr g=>match r with
   | none=>R Æ0 g
   | some v=>av à A (dF b it v) (λ_ ÀL=>av à A (Âu b env v) (λ_ l =>
     av à A (P6 f env) (λok i =>
      if ok=true then av à A (ă c env) (λo p=>av à A (ă d env) (λu y =>
       av à A (dictSet D o u) (λ_ B=>∃m,m<n/\I m B) E y) E p) E i
      else ∃m,m<n/\I m i) E l) E ÀL) E g) E s)
  (n:Nat) (h:I n s):bI à A (.compLoop #[hV,c,b,f,k] 0 it ÀP env) R s:=by
 have go:ÕL:=
  λ{j t Q s} q=>aX q Éz λe s' z=>(G e s' z).elim
 refine codeAny_loop rfl I #[iw,n,s,H] n h;show av _ A ((compTurn #[hV,c,b,f,k] 0 it ÀP env).onRaise (λx=>do Æ1 x env;ÕM x)) _ _ s;refine wpAny_noted ?_;rw[compTurn_dict];refine am (bC (am (thn (go (turn n s H)) λr g C=>?_)));cases r with
 | none=>exact aB C
 | some v =>
  refine am (thn (go C) λ_ ÀL a=>am (thn (go a) λ_ l J=>am (thn (go J) λok i F=>?_)));cases ok with
  | false=>exact aB (rfl,F)
  | true=>exact am (am (thn (go F) λo p K=>am (ba (thn (go K) λu y L=>am (bC (ba (thn (go L) λ_ B M=>aB (rfl,M))))))))
universe E
section
variable {κ:Type} [Ïg κ]
def Y3(kvs:Ày)(k:κ):Ã V:=(kvs.find? λa=>decide (a.1=k)).map ě
def YT(kvs:Ày)(k:κ)(v:V):À (κ×V) :=
 if ÌO=true then Ãj (λa=>if a.1=k then (a.1,v,) else a) else kvs++[(k,v,)]
def WE(kvs:Ày)(k:κ):À (κ×V):=kvs.filter λa=>decide (a.1≠k)
theorem T6{p:κ×V}{r:Ày}{k:κ}(e:p.1=k):Y3 (p::r) k=U p.2:=by simp[Y3,Âp,e]
theorem T5{p:κ×V}{r:Ày}{k:κ}(e:¬ p.1=k):Y3 (p::r) k=Y3 r k:=by simp[Y3,Âp,e]
theorem SJ(k:κ):∀kvs:À (κ×V),ÌO=(ÌQ).isSome
 | []=>rfl
 | p::r=>by
  rw[Qa6];by_cases e:p.1=k
  ·simp only[T6 e,đ e,Bool.true_or,Option.isSome_some]
  ·rw[T5 e,Ń e,Bool.false_or];exact SJ k r
theorem SI(kvs:Ày)(k:κ)(v:V):(ÑA).length<=û+1:=by
 unfold YT;split
 ·rw[Qa];lia
 ·rw[Qd,Qq,Æ3];lia
theorem UV{kvs:Ày}{k:κ}(v:V)(h:Y3 kvs k=af):YT kvs k v=kvs++[(k,v,)]:=by unfold YT;rw[SJ,h];exact Æ Ì
theorem Yi.isSome_eq{o:Ã V}{u:ÃT}(r:Yi o u):ÌP=u.isSome:=by
 cases o with
 | none=>cases u with
  | none=>rfl
  | some _=>exact#[iU].elim
 | some _=>cases u with
  | none=>exact#[iU].elim
  | some _=>rfl
theorem Yi.getD{o:Ã V}{u:ÃT}{d:V}{d':ae}(r:Yi o u)(rd:ZJ d d'):ZJ (o.getD d) (u.getD d'):=by
 cases o with
 | none=>cases u with
  | none=>exact rd
  | some _=>exact#[iU].elim
 | some _=>cases u with
  | none=>exact#[iU].elim
  | some _=>exact r
theorem KV.val{kvs:Ày}{vs:Çg}(r:Äp)(k:κ):Yi ÌQ (Äq vs k):=by
 unfold KV at r;induction r with
 | nil=>exact Μ
 | @Ë p q ps a h t f =>
  rw[el,d,g,h];by_cases e:p.1=k
  ·have c:q.1=k:=d.symm.trans e;have b:Äq (q::a) k=U q.2:=by simp[Äq,Âp,c]
   rw[T6 e,b];exact g
  ·have c:¬ q.1=k:=λz=>e (Ær z);have b:Äq (q::a) k=Äq a k:=by simp[Äq,Âp,c]
   rw[T5 e,b];exact f
theorem KV.any{kvs:Ày}{vs:Çg}(r:Äp)(k:κ):ÌO=vs.any λa=>decide (a.1=k):=by
 unfold KV at r;induction r with
 | nil=>rfl
 | Ë h t b=>rw[Qa6,Qa6,b,h.1]
theorem KV.repl{kvs:Ày}{vs:Çg}(r:Äp)(k:κ){y:V}{u:ae}(c:ZJ y u) :
  KV (Ãj λa=>if a.1=k then (a.1,y,) else a) (vs.map λa=>if a.1=k then (a.1,u,) else a):=by
 unfold KV at r ⊢;induction r with
 | nil=>exact .nil
 | @Ë p q ps qs h t d =>
  rw[Ql,Ql];refine .cons ?_ d;rw[el,b,f,h];by_cases e:p.1=k
  ·rw[È e,È (b.symm.trans e)];exact(b,c)
  ·rw[Æ e,Æ (λz=>e (b.trans z))];exact(b,f)
theorem KV.put{kvs:Ày}{vs:Çg}(r:Äp)(k:κ){y:V}{u:ae}(a:ZJ y u):KV (YT kvs k y) (stored vs k u):=by
 unfold YT stored;rw[r.any k];by_cases e:(vs.any λb=>decide (b.1=k))=true
 ·rw[rK,e,e];exact r.repl k a
 ·rw[iu,e,e];exact Paired.snoc r (rfl,a)
theorem KV.drop{kvs:Ày}{vs:Çg}(r:Äp)(k:κ):KV (WE kvs k) (without vs k):=by
 unfold KV at r ⊢;unfold WE without;induction r with
 | nil=>exact .nil
 | @Ë p q ps qs h t d =>
  rw[el,c,f,h];rw[ÖK,ÖK];by_cases e:p.1=k
  ·have a:¬ decide (p.1≠k)=true:=by simp[e]
   have b:¬ decide (q.1≠k)=true:=by simp[c.symm.trans e]
   rw[iu,a,b];exact d
  ·have g:¬ q.1=k:=λz=>e (c.trans z);have a:decide (p.1≠k)=true:=by simp[e]
   have b:decide (q.1≠k)=true:=by simp[g]
   rw[rK,a,b];exact .cons (c,f) d
theorem KV.length{kvs:Ày}{vs:Çg}(r:Äp):û=ÃV:=Ïh r
theorem Zqi(kvs:Ày)(k:κ):(WE kvs k).length<=û:=Qay _ _
universe E
theorem V7{P:aw}{w:aF}{k:Key}{u:ae}(r:ZJ (kV k) u):(Æk).is k u=true:=by
 cases k with
 | inl i=>obtain t|e:=#[eD,t,ÂY,i,r];subst e;exact ZkO P w i t
 | inr x=>obtain t|e:=#[eD,t,Ám,x,r];subst e;exact Zk9 P w x t
theorem KP{P:aw}{w:aF}:∀ {ks:À Key} {us:À ae},ZH Çf us->ItemsAre Æk ks us
 | [],_,r=>by rw[QaY]at r;cases r;exact .nil
 | k::ks,_,r=>by
  rw[Ql]at r;cases r with
  | Ë h t=>exact .cons (V7 h) (KP t)
abbrev KT(H:Hp):À (À Key×V)->À (À Key×aa×ae)->Prop:=ÄY λp q=>p.1=q.1/\H q.2.1=U (.tup (p.1.map kV))/\ZJ p.2 q.2.2
theorem KT.val{H:Hp}{kvs:Är}{xs:ÌR}(r:ÌS)(k:À9):Yi ÌQ ((Ãk xs k).map ě):=by
 induction r with
 | nil=>exact Μ
 | @Ë p q ps a h t f =>
  obtain d|_|g:=h;by_cases e:p.1=k
  ·have c:q.1=k:=d.symm.trans e;have b:Ãk (q::a) k=U q.2:=by simp[Ãk,Âp,c]
   rw[T6 e,b];exact g
  ·have c:¬ q.1=k:=λz=>e (Ær z);have b:Ãk (q::a) k=Ãk a k:=by simp[Ãk,Âp,c]
   rw[T5 e,b];exact f
theorem KT.repl{H:Hp}{kvs:Är}{xs:ÌR}(r:ÌS)(k:À9){y:V}{u:ae}(d:ZJ y u) :
  KT H (Ãj λb=>if b.1=k then (b.1,y,) else b) (Èy (putAt k u)):=by
 induction r with
 | nil=>exact .nil
 | @Ë p q ps qs h t f =>
  rw[Ql,Ql];refine .cons ?_ f;rw[g6,a,c,g,h];unfold putAt;by_cases e:p.1=k
  ·rw[È e,È (a.symm.trans e)];exact(a,c,d)
  ·rw[Æ e,Æ (λz=>e (a.trans z))];exact(a,c,g)
theorem KT.put{H:Hp}{kvs:Är}{xs:ÌR}(r:ÌS)(k:À9){b:aa}{y:V}{u:ae}(hb:H b=U ÉT)(a:ZJ y u) :
  KT H (YT kvs k y) (storedH xs k b u):=by
 have e:(kvs.any λc=>decide (c.1=k))=(Ãk xs k).isSome:=by rw[SJ,(r.val k).isSome_eq,ÖL]
 unfold YT storedH;rw[e];by_cases q:(Ãk xs k).isSome=true
 ·rw[rK,q,q];exact r.repl k a
 ·rw[iu,q,q];exact Paired.snoc r (rfl,hb,a)
theorem KT.keeps{H H':Hp}{kvs:Är}{xs:ÌR}(r:ÌS)(ht:#[fG,b,ys]):KT H' kvs xs :=
 Ëq r λ_ _ z=>(z.1,ht _ _ z.2.1,z.2.2)
section
variable {P:aw} {w:aF} {H:Hp} {h:aI} {a:aa}
theorem KO{u:HO}(ok:À2)(e:Rd H a u):Y2 P w H h a u:=e.ok ok
theorem VU{kvs:ś}(ok:À2)(e:Rd H a Áa):û<=aq/\Â0=false/\∃vs,KV kvs vs/\h.DictOf Æk a vs :=
 show Y2 P w H h a Áa from KO ok e
theorem SH{kvs:ś}(ok:À2)(e:ÉU):û<=aq/\Â0=false/\∃vs,KV kvs vs/\h.DictOf Æk a vs:=VU ok (.inl e)
theorem UU{ks:À9}(ok:À2)(e:H a=U (.tup Çf)):(Ïj).is h ks a:=by obtain _|its|r|o|b|c|n|d:=(show Y2 P w H h a (.tup Çf) from ok a _ e);exact(o,ŝ,n,b,c,d,by simpa using KP r)
theorem Vs{kvs:Är}(ok:À2)(e:Rd H a (.dT kvs)):û<=aq/\Â0=false /\
  ∃xs,KT H kvs xs/\h.DictOfH Ïj a xs:=by
 obtain z|y|xs|r|o|c|d|f|g|i|j|k:=(show Y2 P w H h a (.dT kvs) from KO ok e);refine(z,y,xs,r,o,c,d,f,g,i,j,λx hx=>?_,k);have all:∀ {l:À (À Key×V)} {m:À (À Key×aa×ae)},KT H l m->∀x∈m,(Ïj).is h x.1 x.2.1:=by
  intro l m q;induction q with
  | nil=>intro x hx;exact nomatch hx
  | @Ë p q ps qs b t n =>
   intro x hx;rcases ħ hx with e|hx
   ·subst e;exact UU ok #[ev,b.1,b.2.1]
   ·exact n x hx
 exact all r x hx
theorem ZvQ{kvs:Är}(ok:À2)(e:Ñz):û<=aq/\Â0=false /\
  ∃xs,KT H kvs xs/\h.DictOfH Ïj a xs:=Vs ok (.inl e)
universe E
def Y7(H:Hp)(a:aa)(y:V)(r:Ã V):Prop :=
 (X2 λc k=>Rd H a (.dK c)/\y=kV k/\r=Y3 c k)\/X3 λc k b=>Rd H a (.dT c)/\y=.ref b/\H b=U ÉT/\r=Y3 c k
def Xv(H:Hp)(a:aa)(y v:V)(H':Hp):Prop :=
 (X2 λc k=>H a=U (.dK c)/\y=kV k/\Ņ<aq/\H'=upd H a (.dK (YT c k v))) \/
 X3 λc k b=>H a=U (.dT c)/\y=.ref b/\H b=U ÉT/\Ņ<aq/\H'=upd H a (.dT (YT c k v))
theorem Y7.k{H:Hp}{a:aa}{kvs:ś}{k:Key}(e:ÉU):Y7 H a (kV k) ÌQ:=.inl (kvs,k,.inl e,rfl,rfl)
theorem Y7.t{H:Hp}{a b:aa}{kvs:Är}{k:À9}(e:Ñz)(c:H b=U ÉT):Y7 H a ÀR ÌQ:=.inr (kvs,k,b,.inl e,rfl,c,rfl)
theorem Xv.k{H:Hp}{a:aa}{kvs:ś}{k:Key}{v:V}(e:ÉU)(hl:û<aq):Xv H a (kV k) v (upd H a (.dK ÑA)):=.inl (kvs,k,e,rfl,hl,rfl)
theorem Xv.t{H:Hp}{a b:aa}{kvs:Är}{k:À9}{v:V}(e:Ñz)(c:H b=U ÉT)(hl:û<aq) :
  Xv H a ÀR v (upd H a (.dT ÑA)):=.inr (kvs,k,b,e,rfl,c,hl,rfl)
section
variable {X:Cx} {ai:À (aa×aN)} {σ:St} {H:Hp} {s:aj} {a:aa} {y v:V} {u r:ae} {o:Ã V} {A:aD} {E:ae->aj->Prop}
theorem Inv.big(I:å):bA<Ï:=by have h:aM<Ï:=#[ys].lt;exact ÌL Ì h
theorem ZoV{Q:ø}(hu:ÉV)(I:å)(g:Y7 H a y (U v))(n:ZJ y u)(h:#[yU,d,H]) :
  av Ģ A (ÆV Ĩ u) Q E s:=by
 rcases g with⟨f,k,e,i,l⟩|⟨f,k,b,e,i,q,l⟩
 ·rw[h7,i,r,j];obtain d|hw|m:=È2 (v:=v) (o:=Äq r k) #[e5,l,c.val,k];exact ÖM (V7 n) j.mapOf hw (h d _ Åf m)
 ·subst i;rw[e9,n,t,c,j,Vs];obtain d|hw|m:=È2 (v:=v) (o:=(Ãk t k).map ě) #[e5,l,c.val,k];rw[sA,p,w,x,Qbf.mp,hw];refine wpAny_getItem_heap (cy hu) (UU é q) j w ?_;rw[x];exact h d _ Åf m
theorem Zwy{Q:ø}(hu:ÉV)(I:å)(g:Y7 H a y o)(j:ZJ y u)(h:∀s',Inv X ai σ H s'->Q (.bool ÌP) s') :
  av Ģ A (aS .In u Ĩ) Q E s:=by
 rcases g with⟨d,k,e,f,l⟩|⟨d,k,b,e,f,m,l⟩
 ·rw[h7,f,vs,i];refine wpAny_in_of (V7 j) hd i.mapOf ?_;rw[nI]
 ·subst f;rw[e9,j,xs,c,i,Vs];refine wpAny_in_heap (cy hu) (UU é m) hd i ?_;rw[iQ]
theorem Zsf{Q:ø}(hu:ÉV)(I:å)(g:Y7 H a y o)(j:ZJ y u)(h:∀s',Inv X ai σ H s'->Q (.bool (!o.isSome)) s') :
  av Ģ A (aS .NotIn u Ĩ) Q E s:=by
 rcases g with⟨d,k,e,f,l⟩|⟨d,k,b,e,f,m,l⟩
 ·rw[h7,f,vs,i];refine wpAny_notIn_of (V7 j) hd i.mapOf ?_;rw[nI]
 ·subst f;rw[e9,j,xs,c,i,Vs];refine wpAny_notIn_heap (cy hu) (UU é m) hd i ?_;rw[iQ]
theorem T4{h':aI}{t':Nat}{ob:HO}(I:å)(c:Mut (H a))(hs:#[yX,a,Ð,h'])(he:∃q,Ā a=U q)(new:Y2 ò X.w (upd H a ob) h' a ob) :
  Inv X ai σ (upd H a ob) { s with Ø:=h',ï:=t' } :=
 Åg (x:=a) (e:=a) c Ď (λb q d z=>(hs.2 b d).trans z) he new
theorem SG{P:aw}{w:aF}{H':Hp}{h':aI}{kvs:ś}{vs:À (Key×ae)}(z:û<=aq)(hd:Â0=false)(rel:Äp)(b:h'.DictOf Æk a vs) :
  Y2 P w H' h' a Áa:=(z,hd,vs,rel,b)
theorem ZoD{H':Hp}{Q:ÁT}(hu:ÉV)(I:å)(g:Xv H a y v H')(x:ZJ y u)(B:ZJ v r)(h:∀s',Inv X ai σ H' s'->Q () s') :
  av Ģ A (setItem Ĩ u r) Q E s:=by
 rcases g with⟨d,k,e,m,l,n⟩|⟨d,k,b,e,m,C,l,n⟩
 ·subst m n;obtain z|hd|G|f|o:=SH é e;have p:Àz<=aq:=by rw[<- Á3];exact z
  have t:(YT d k v).length<=aq:=by have:=SI d k v;lia
  refine wpAny_setItem_pairs (hsz:=p) (V7 x) o λD i w=>h _ ?_;have J:∃q,D.get? a=U q:=let ⟨q,_,_,j,_⟩:=i;(q,j);exact T4 I È5 w J (SG t hd (f.put k B) i)
 ·subst m n;rw[e9,x,K,f,o,ZvQ];have p:K.length<=aq:=by rw[<- Ïh f];exact z
  have t:(YT d k v).length<=aq:=by have:=SI d k v;lia
  refine wpAny_setItem_heap (hsz:=p) (cy hu) (UU é C) o λD i w=>h _ ?_;obtain q|L|M|j|N|O|P|_|R:=i;refine T4 I È5 w (q,j) (t,hd,_,(f.put k C B).keeps λc ys F=>?_,q,L,M,j,N,O,P,R);rw[Zf (Rv F e τ)];exact F
universe E
section
variable {X:Cx} {ai:À (aa×aN)} {σ:St} {H:Hp} {s:aj} {a:aa} {kvs:À (Key×V)} {k:Key} {u:ae} {A:aD} {E:ae->aj->Prop}
theorem Zvm{v:V}{Ŋ:ê}{Q:ø}(I:å)(e:ÉU)(d:ZJ (kV k) u)(l:Y3 kvs k=U v)(hm:Ŋ=[]\/∃x,Ŋ=[x])
  (h:#[yU,c,ÖN]):av Ģ A (ŧ #[fb,"dict.pop"] (.ref a::u::Ŋ)) Q E s:=by
 obtain z|hd|f|b|g:=SH é e;obtain c|hw|m:=È2 (v:=v) (o:=Äq f k) (by rw[<- l];exact b.val k);have n:(keyPart u).isSome=true:=by
  cases k with
  | inl i=>obtain t|q:=Ðg;subst q;rfl
  | inr x=>obtain t|q:=#[eD,t,Ám,x,d];subst q;rfl
 have p:argsOk "dict.pop" (.ref a::u::Ŋ,[]):=by
  rcases hm with q|⟨x,q⟩
  ·subst q;exact PySem.F.args_dict_pop_2 _ _
  ·subst q;exact PySem.F.args_dict_pop_3 _ _ _
 refine ÉW QaQ g.typeIs PySem.F.entry_dict_pop p (meets_dict_pop_there Ãl a (V7 d) Ŋ hm n)
  (f,c,g,by rw[<- Œ];exact z,hw,λr j w=>h c _ ?_ m)
 have y:∃q,r.get? a=U q:=let ⟨q,_,_,B,_⟩:=j;(q,B);exact T4 I È5 w y (SG (Qk (Zqi kvs k) z) hd (b.drop k) j)
theorem ZvK{Q:ø}(I:å)(e:Rd H a Áa)(h:∀t s',Inv X ai σ H s'->Q (.int û t) s'):av Ģ A (ŧ ÆY ÁZ) Q E s:=by obtain z|hd|vs|b|c:=VU é e;refine call_len_dict hd c (by rw[<- Œ];rw[aP]at z;lia) ?_;rw[<- Œ];exact h _ _ Åf
universe E
theorem ZlN{X:Cx}{f:ċ}{h:St}{H:Hp}{s:aj}{a:aa}{y:V}{o:Ã V}(I:Inv X f h H s)(g:Y7 H a y o):Åh Ĩ "dict":=by
 rcases g with⟨c,k,e,_,_⟩|⟨c,k,b,e,_,_,_⟩
 ·obtain _|_|vs|_|d:=VU é e;exact Ég
 ·obtain _|_|xs|_|d:=Vs é e;exact Ég
theorem PP{P:aw}{w:aF}{H:Hp}(h:aI)(hb:bA<ń):Y2 P w H Û0 ń Äs :=
 (Qt _,Èx (Κ (QB hb)),[],.nil,aI.DictOf.new h)
def Zuo:TE:=λ_ H Q=>∀p,H p=af->Q ş (upd H p Äs)
section
variable {X:Cx} {pos:Pos}
theorem PN:PE X (.Dict [] [] pos) Zuo:=λai s σ H Q I h =>
 ÖC (.ref Ï,_,À7 (a:=ËR) (o:=.dK []) (t':=Ŧ) Én î (PP Ð I.big),rfl,h _ Ã5)
universe E
def PM:À (TE×TE)->St->Hp->(À (V×V)->Hp->Prop)->Prop
 | [],_,H,Q=>Q [] H
 | (tk,b,)::r,a,H,Q=>tk a H λx c=>b a c λy d=>PM r a d λps e=>Q ((x,y,)::ps) e
abbrev VV:À (V×V)->À (ae×ae)->Prop:=ÄY λp q=>ZJ p.1 q.1/\ZJ p.2 q.2
def PPs(X:Cx)(pos:Pos)(Áb:ÑB)(e:į)(f:ÌT):Prop :=
 ∀ (b:À (aa×aN)) (s:aj) (a:St) (H:Hp) (Q:À (V×V)->Hp->Prop),Inv X b a H s->PM f a H Q ->
  ô (evalPairs (pairTrees Áb e Î pos)) (λg h=>X2 λc d=>Inv X b a d h/\VV c g/\Q c d) ç s
theorem Zsu{X:Cx}{pos:Pos}:PPs X pos [] [] []:=λai s σ H Q I h=>pairTrees_nil_walk ([],H,I,.nil,h)
theorem KN{X:Cx}{pos:Pos}{k v:aK}{ks:ÑB}{vs:į}{tk d:TE}{e:ÌT}(hk:PE X k tk)(f:PE X v d)(hr:PPs X pos ks vs e) :
  PPs X pos (U k::ks) (v::vs) ((tk,d,)::e):=λa s b H Q I h =>
 pairTrees_cons_walk (thn #[f7,hk,a,b] λu g ⟨x,i,j,l,m⟩=>thn (f a g b i _ j m) λw2 n ⟨y,o,p,q,r⟩=>
  thn (hr a n b o _ p r) λws s3 ⟨t,w,z,c,A⟩=>((x,y,)::t,w,z,.cons (l,q) c,A))
def Vr(kvs Ŋ:ś):À Âa:=more.foldl (λb a=>YT b a.1 a.2) kvs
theorem KV.merge:∀ {Ŋ:À (Key×V)} {a:À (Key×ae)} {kvs:À (Key×V)} {vs:À (Key×ae)},KV Ŋ a->KV kvs vs->KV (Vr kvs Ŋ) (merged vs a):=by
 intro Ŋ a kvs vs r;unfold KV at r;induction r generalizing kvs vs with
 | nil=>intro q;exact q
 | @Ë p q ps qs h t b =>
  intro c;have e:KV ÑC (stored vs q.1 q.2):=by have:=c.put p.1 h.2;rw[<- h.1];exact this
  exact b e
theorem KL:∀ (Ŋ kvs:À (Key×V)),(Vr kvs Ŋ).length<=û+more.length
 | [],kvs=>by show û<=û+0;lia
 | p::r,kvs=>by have h1:=KL r ÑC;have h2:=SI kvs p.1 p.2;show (Vr ÑC r).length<=_;rw[Qq];lia
theorem KJ{P:aw}{w:aF}:∀ {kvs:À (Key×V)} {ws:À (ae×ae)},VV (Ãj λe=>(kV e.1,e.2,)) ws->∃d,Carries Æk ws d/\KV kvs d
 | [],_,r=>by rw[QaY]at r;cases r;exact([],Μ,.nil)
 | p::kvs,_,r=>by
  rw[Ql]at r;cases r with
  | @Ë a b as bs h t=>obtain d|c|q:=KJ (P:=P) (w:=w) t;rw[el,b1,f,b];exact((p.1,f,)::d,(V7 h.1,rfl,c),.cons (rfl,h.2) q)
def Zv3(c:ÌT):TE:=λd H Q=>∀p,H p=af->PM c d (upd H p Äs) λps a=>a p=U Äs/\∃kvs:À (Key×V),ps=Ãj (λb=>(kV b.1,b.2,))/\û<=15/\Q ş (upd a p (.dK (Vr [] kvs)))
theorem ZsP{X:Cx}{pos:Pos}{Áb:ÑB}{d:į}{g:ÌT}(h:PPs X pos Áb d g)(k:keys.all (·.isSome)=true)(hl:keys.length=ņ)(h0:Áb≠[])
  (l:keys.length<=15):PE X (.Dict Áb d pos) (Zv3 g):=by
 intro m s n H Q I q;have p:=ÃJ (Qj Ï);have r:=À7 (a:=ËR) (o:=.dK []) (h':=γ { cls:=.type "dict",Ò:=.dict #[] }) (t':=Ŧ) Én î (PP Ð I.big);refine wpAny_Dict_walk (knd:=ZR ò X.w) k hl h0 l (thn (h m _ n _ _ r (q _ p)) ?_);rintro ws s2 ⟨ps,H2,i,f,e,b,t,lk,u⟩;subst t;obtain v|c|x:=KJ (P:=ò) (w:=X.w) f;obtain z|hd|vs0|y|A:=SH i.hok e;cases y;refine(v,c,A,λh' j B=>(.ref Ï,_,?_,rfl,u));have C:(Vr [] b).length<=aq:=by have D:=KL b [];rw[Æ3]at D;rw[aP];lia
 have E:∃q,Ā Ï=U q:=let ⟨q,_,_,F,_⟩:=j;(q,F);exact T4 i È5 B E (SG C hd (x.merge .nil) j)
structure M1 (X:Cx) (o:aK) (m:ah) (bu:Pos) (e:aK) (bq:Pos):Prop where
 Â:bB o m Î #[fB,o]=ă o Î
 few:((bg bq ÑD).all Ë9&&#[je].all Ìa
  && decide (([e]:À aK).length+([]:À Éd).length+ÑE<30))=true
 line:Él=true
 trees:bg bq ÑD=#[f3,e]
structure M2 (X:Cx) (o:aK) (m:ah) (bu:Pos) (e f:aK) (bq:Pos):Prop where
 Â:bB o m Î #[fB,o]=ă o Î
 few:((bg bq (aE [e,f] Î)).all Ë9&&#[je].all Ìa
  && decide (([e,f]:À aK).length+([]:À Éd).length+ÑE<30))=true
 line:Él=true
 trees:bg bq (aE [e,f] Î)=[#[fh,e],#[fh,f]]
def IsD(H:Hp)(a:aa):Prop:=(∃kvs,Rd H a Áa)\/∃kvs,Rd H a (.dT kvs)
theorem Zu5{X:Cx}{i:ċ}{j:St}{H:Hp}{s:aj}{a:aa}(I:Inv X i j H s)(d:IsD H a) :
  Åh Ĩ "dict"/\(∀b,è a=.ref b->∃ob,ì b=U ob/\ob.dict=af)/\Â0=false:=by
 rcases d with⟨f,e⟩|⟨f,e⟩
 ·obtain _|hd|vs|_|c:=VU é e;rw[dz]
 ·obtain _|hd|xs|_|c:=Vs é e;rw[dz]
section
variable {X:Cx} {ai:À (aa×aN)} {σ:St} {H:Hp} {s:aj} {a:aa} {y d:V} {u r:ae} {o:Ã V} {A:aD} {E:ae->aj->Prop}
theorem Zur{Q:ø}(hu:ÉV)(I:å)(g:Y7 H a y o)(j:ZJ y u)(h:∀m s',Inv X ai σ H s'->ZJ (o.getD .non) m->Q m s') :
  av Ģ A (ŧ #[fb,"dict.get"] [.ref a,u]) Q E s:=by
 rcases g with⟨f,k,e,i,l⟩|⟨f,k,b,e,i,n,l⟩
 ·rw[h7,i,vs,d];refine ÉW ÑF Ég ÖO ÖP (meets_dict_get Ãl a (V7 j) hd) (_,d.mapOf,h _ _ Åf ?_);rw[l];exact(c.val k).getD rfl
 ·subst i;rw[e9,j,p,c,d,Vs];refine ÉW ÑF Ég ÖO ÖP (meetsH_dict_get (tupleKind Ãl) a b hd) (cy hu,k,p,UU é n,d,h _ _ Åf ?_);rw[l];exact(c.val k).getD rfl
universe E
def KI(e ty:TE):TE:=λb H Q=>e b H λx c=>∃a,x=.ref a/\IsD c a/\ty b c λy d=>∃o,Y7 d a y o/\Q (o.getD .non) d
section
variable {X:Cx} {o e f:aK} {bu bq:Pos} {td ty tx:TE}
theorem Zrx(hu:ÌK+1<Âz)(i:PE X o td)(he:PE X e ty)(m:M1 X o "get" bu e bq):PE X (.Call #[y6,"get",bu] [e] [] bq) (KI td ty):=by intro b s c H Q I h;refine wpAny_Call_method m.base m.few m.line Qai ÑF PySem.F.type_dict_get #[ek,i,b,c];rintro u j ⟨x,k,f,l,a,ex,d,n⟩;subst ex;obtain rfl:u=è a:=l;obtain p|q|_:=Zu5 f d;refine(p,q,?_);rw[m.trees];refine Ë8 rfl (ÕB (ËW (thn (he b j c k _ f n) λiv s2 ⟨y,r,t,v,ov,g,w⟩=>Õb ?_)));exact Zur hu t g v λw' s3 z A=>(_,r,z,A,w)
universe E
section
variable {X:Cx}
theorem Zoz:YN X ÆY ÖQ:=by intro ai s σ H xs us Q I r h;obtain a|kvs|rfl|b|q:=h;obtain u|rfl|c:=Xb r;cases c;exact ZvK I (.inl b) λt s' d=>(.int û,H,d,És,q)
universe E
section
variable {κ:Type} [Ïg κ]
theorem ZsQ{kvs:Ày}{k:κ}{v:V}(h:Y3 kvs k=U v):k∈Ãj ù:=by
 have q:ÌO=true:=by rw[SJ,h];all_goals rfl
 rw[sA,p,b,e,List.any_eq_true.mp,q];exact ÖR (p,b,Ī e)
universe E
structure Mf (P:aw) (w:aF) (K:Å) (mg:Ă) (Â:aI) (k:Nat) (C:aa) (m:ah) (ps:Ê) (sp:Sp):Prop where
 ex:X2 λf fd=>YU P w K mg Â CX0 k f fd ps sp/\UZ K C m f/\Yy K fd ps []
structure Cf (P:aw) (w:aF) (K:Å) (mg:Ă) (Â:aI) (k:Nat) (C:aa) (x:ah) (ps:Ê) (sp:Sp):Prop where
 ex:X2 λf fd=>YU P w K mg Â CX0 k f fd ps sp/\Mk K C f/\Yy K fd ps []/\mg x=U æ
structure Yn (K:Å) (C:aa) (m aU:ah) (st:aL) (ps:Ê):Prop where
 ex:X2 λf fd=>Fun K m aU st f fd/\UZ K C m f/\Yy K fd ps []
structure UT (K:Å) (mg:Ă) (C:aa) (x aU:ah) (st:aL) (ps:Ê):Prop where
 ex:X2 λf fd=>Fun K "__init__" aU st f fd/\Mk K C f/\Yy K fd ps []/\mg x=U æ
section
variable {P:aw} {w:aF} {K:Å} {mg:ah->Ã ae} {Â:aI}
theorem Yn.mf{C:aa}{m c:ah}{st:aL}{N ps:Ê}{k:Nat}{sp:Sp}(T:Yn K C m c st ps)(S:Äb)(len:Ãa)
  (d:∀ (a:ae) (f:aa) (A:aD) (Û:À Env) (s:aj) (H:Hp) (vs:À V) (Q:VK) (E:XK),Zt k ÌU->sp vs H Q E ->
   ∃t,PSs #[bY].nox ÂB t/\t { nx:=Ãb,rt:=Q } Áy H):Mf P w K mg Â (k+1) C m ps sp:=by
 rw[si,e];exact(f,e,F.ok S len #[eG,g,d],m,b)
theorem UT.cf{C:aa}{x c:ah}{st:aL}{N ps:Ê}{k:Nat}{sp:Sp}(T:UT K mg C x c st ps)(S:Äb)(len:Ãa)
  (d:∀ (a:ae) (f:aa) (A:aD) (Û:À Env) (s:aj) (H:Hp) (vs:À V) (Q:VK) (E:XK),Zt k ÌU->sp vs H Q E ->
   ∃t,PSs #[bY].nox ÂB t/\t { nx:=Ãb,rt:=Q } Áy H):Cf P w K mg Â (k+1) C x ps sp:=by
 obtain f|e|F|m|b|g:=T.ex;exact(f,e,F.ok S len #[eG,i,d],m,b,g)
universe E
section
variable {X:Cx} {k j:Nat} {C:aa} {m x:ah} {ps:À ah} {sp:Sp} {o e:aK} {es:À aK} {ta:TE} {t:TA} {p bu pos:Pos} {pl:Sem Ñ}
theorem Xu(F:#[fD,Mf,m])(c:ÃU)(hr:Á8)(he:Â7)(ha:ε)(d:k<=j:=by decide)
  (h:Ν:=by rfl) (i:Áw:=by rfl)
  (l:ă ÆM Î=(do
   let a <- ă o Î
   ÃK ÆN
   let (f,first) <- ÁU [a] (ÃS a m pl)
   ÆO pos f first (bg pos ÆP) ÆQ):=by rfl) :
  PE X ÆM (SU C m sp [] E0 ta t):=by
 obtain f|fd|F|g|b:=F.ex;exact Zst he c g F (ÃW d) b .nil Vw ha h i l
theorem Ym(F:#[fD,Mf,m])(c:ÃU)(hr:Á8)(he:Â7)(d:k<=j:=by decide)
  (e:ă ËZ Î=(do
   let a <- ă o Î
   ÃK ÆN
   let (f,first) <- ÁU [a] (ÃS a m pl)
   ÆO pos f first (bg pos (aE [] Î)) ÆQ):=by rfl) :
  PE X ËZ (SU C m sp [] E0 ta Vy):=by
 obtain f|fd|F|g|b:=F.ex;exact ZpS he c g F (ÃW d) b .nil Vw e
theorem T3(F:#[fD,Cf,x])(hr:Á8)(ha:ε)(a:k+1<=j:=by decide)(c:Ŕ:=by rfl)(d:İ:=by decide)
  (h:Ν:=by rfl) (i:Áw:=by rfl) :
  PE X Ã3 (SS C sp [] E0 t):=by
 rw[iI,g,b,l];exact ZsW g F ÌH c l b .nil Vw ha d h i
universe E
section
variable {X:Cx} {ai:À (aa×aN)} {σ:St} {H:Hp} {s:aj} {d:aa} {o:aN} {u:HO}
theorem Inv.freeze(I:å)(e:H d=U u)(a:Mut (U u))(c:ì d=U o):Inv X ai σ (upd H d Âr) s:=by
 have h:=Åg (x:=d) (e:=d) (o:=.frz o u) (t':=Ŧ) (h':=Ð) #[ed,e,a] Ď (λb v _ q=>q) (o,c) ?_
 ·exact h
 ·refine(c,(é d u e).stay (λb v _ q=>q) (λb q=>?_) #[iw,b,xs,q])
  ·rw[nh]
  ·rw[nh]
theorem Inv.nofrz(I:å)(e:H d=U u)(c:Mut (U u)):∀a b,ÈE d≠U (.frz a b):=λa b z=>by have:=ÈJ d a b z;rw[e]at this;cases this;exact c
theorem Inv.thaw(I:å)(e:H d=U Âr)(mu:Mut (U u))(n:∀g h,ÈE d≠U (.frz g h)):Inv X ai σ (upd H d u) s:=by
 have i:∀b,H b=af->b≠d:=λb z=>Ze (H:=H) e z |>.symm;refine(Ω,I.os,Ι,(ÈF,ÈH,λb v k j l=>?_,ÑG,λb f q=>?_,λb g h q=>?_,λb r q=>?_),Ť,π,?_,λx c q=>?_,λp t=>?_,?_,Àr)
 ·have:=Æp b v k j l;rw[Zf (i b this)];exact this
 ·have:=Ëv b f q;rw[eY,e]
 ·have:=ÈJ b g h q;rw[Zf (λz=>by rw[(z)]at q;exact n g h q)];exact this
 ·obtain Ŋ|this:=Ëx b r q;refine(Ŋ,?_);rw[eY,e]
 ·rw[Zf (i _ Ψ)];exact Ψ
 ·rw[Zf (i _ (Às x c q))];exact Às x c q
 ·obtain k|j|l:=ρ p t;exact(k,by rw[Zf (i _ j)];exact j,l)
 ·intro b v q;have own:∀c a,H c=U ÄZ->(upd H d u) c=U ÄZ:=λc a q=>by rw[Zf (λz=>by rw[z,e]at q;cases q)];exact q
  have tup:∀c f,H c=U (.tup f)->(upd H d u) c=U (.tup f):=λc f q=>by rw[Zf (λz=>by rw[z,e]at q;cases q)];exact q
  by_cases m:b=d
  ·rw[hs,m,Zb,q];obtain _|w:=(show Y2 ò X.w H Ð b Âr from é b _ e);exact w.stay (λc v _ q=>q) (λc q=>own c b q) tup
  ·rw[Zf m]at q;exact(é b v q).stay (λc v _ q=>q) (λc q=>own c b q) tup
universe E
def Zwf(t:TE):TE:=λa H Q=>X2 λd u=>C3 (H d=U u) (Mut (U u)) (t a H λv H'=>∃o,H' d=U Âr/\Q v (upd H' d u))
theorem PL{X:Cx}{e:aK}{t:TE}(h:PE X e t):PE X e (Zwf t):=by intro b s c H Q I q;obtain d|u|f|a|q:=q;have n:=I.nofrz f a;refine thn (h b s c H _ I q) ?_;rintro v s1 ⟨x,H1,g,i,o,j,k⟩;exact(x,_,g.thaw j a n,i,k)
theorem PH{P:aw}{w:aF}{k:Key}{v:ae}(h:(Æk).is k v=true):ZJ (kV k) v:=by
 rw[Zl6]at h;rcases Wv h with⟨i,t,rfl,rfl⟩|⟨x,t,rfl,rfl⟩
 ·exact És
 ·exact És
def KH:À V->Hp->VK->Prop:=λxs H Q=>X2 λd kvs=>C3 (xs=[.ref d]) (H d=U Áa) (∀l,H l=af->Q Đ (upd H l (.lst (Ãj λa=>kV a.1))))
theorem ZoG{P:aw}{w:aF}:∀ (kvs:À (Key×V)) (vs:À (Key×ae)) (us:À ae),KV kvs vs->Φ=ÃV->(∀ (j:Nat) (v:ae),us[j]? = U v->∃k x,vs[j]? = U (k,x,)/\(Æk).is k v=true)->ZH (Ãj λf=>kV f.1) us:=by
 intro kvs vs us r;unfold KV at r;induction r generalizing us with
 | nil =>
  intro c _;cases us with
  | nil=>exact .nil
  | Ë a b=>simp at c
 | @Ë p q ps qs h t g =>
  intro c d;cases us with
  | nil=>simp at c
  | Ë a b =>
   obtain k|x|e|i:=d 0 a rfl;have l:q=(k,x,):=by simpa using e
   rw[Ql];refine .cons ?_ (g b #[ea,c] λj v m=>?_)
   ·rw[h.1,l];exact PH i
   ·simpa using d (j+1) v #[ea,m]
theorem Zmj{X:Cx}(hc:ť):YN X Ãe KH:=by intro ai s σ H xs us Q I r h;obtain d|b|rfl|hd|q:=h;obtain u|rfl|m:=Xb r;cases m;obtain z|lo|k|f|n:=#[g4,d,b,hd];obtain ep|p:=n.dictAt;have hl:Œ=Åv:=Á3;refine PySem.W.kdl_call (PySem.W.kdl_dict lo) Âv p Á λh' tk g c t x l=>?_;have y:ZH (ÀS λi=>kV i.1) g.toList:=ZoG (P:=ò) (w:=X.w) b k g.toList f #[ed,QaE,l.1] λj v e=>l.2 j v #[ev,ÑH,e];refine(.ref Ï,_,À7 (a:=ËR) (o:=.lst (ÀS λi=>kV i.1)) (t':=tk) t î ?_,rfl,q _ Ã5);exact(by rw[Qa];exact z,g.toList,c,y,by simpa using x)
theorem Inv.dictF{X:Cx}{h:ċ}{i:St}{H:Hp}{s:aj}{d:aa}{o:aN}{kvs:ś}{b:Åw}{ep:Nat}(I:Inv X h i H s)(e:H d=U Ác)(hd:#[y8,b]) :
  ∃vs,KV kvs vs/\s.heap.DictAt Ãl d vs ep:=by
 obtain c|_|_|vs|a|o'|ye|yf|f|j|g|k:=(show Y2 ò X.w H Ð d Ác from é d _ e);rw[fL,c,f,f];rw[hL,hd,g];exact(vs,a,o,b,c,j,hd,k)
theorem PF{kvs:ś}{vs:À (Key×ae)}(r:Äp):∀ (i:Nat) (k:Key) (x:V),kvs[i]? = U (k,x,)->∃u,vs[i]? = U (k,u,)/\ZJ x u:=by
 unfold KV at r;induction r with
 | nil=>intro i k x h;simp at h
 | @Ë p q ps qs h t b =>
  intro i k x a;cases i with
  | zero =>
   have e:p=(k,x,):=by simpa using a
   rw[zh,q.2,?_]
   ·have:q=(k,q.2,):=by rw[show k=q.1 by rw[<- h.1,e]]
    simpa using this
   ·have:=h.2;rw[zk,e]
  | succ i=>simpa using b i k x #[ea,a]
def Itv(d:aa)(o:aN)(kvs:ś):It :=
 (λi H=>H d=U Ác/\i<û,λi H v a=>a=H/\∃k,kvs[i]? = U (k,v,),λi H=>H d=U Ác/\û<=i)
def Itk(d:aa)(o:aN)(kvs:ś):It :=
 (λi H=>H d=U Ác/\i<û,λi H v a=>a=H/\X2 λk x=>kvs[i]? = U (k,x,)/\v=kV k,λi H=>H d=U Ác/\û<=i)
theorem ZoZ{P:aw}{w:aF}{K:Å}{N:aK}{d it:aa}{o:aN}{kvs:ś}{O:Åw}{ep:Nat}(hd:#[y8,O]):Wu P w K N (Itv d o kvs) [it] it (λi h=>h.IsValIter it d i û ep) where
 mem:=by simp
 obj:=λi h st b f=>by
  have e:b=it:=by simpa using f
  rw[14]
 Ċ:=λi h g st k=>by obtain o|e|r:=st;exact ÌJ
 item:=by intro X m hw n J i L s M H E I j st p;rw[C];obtain u|R|S:=ÖS;refine wpAny_pyNext_values_item #[ev,l,st] F R λg G T=>?_;rw[am];exact(_,rfl,U5 (s:=#[hN,s,g]) Y Z d1 Ì (kvs[i].2,H,W,S,(rfl,kvs[i].1,Qb C),G,λb f=>(j b f).1))
 done:=by intro X m hw n J i L s M H E I j st p;rw[C];exact wpAny_pyNext_values_end (Át J) #[ev,l,st] F (Q1 Á) λg eb=>(rfl,À4 (t':=Ŧ) #[e2,b,f,eb] q t x y A)
 self:=#[h0,wpAny_pyIter_valiter]
theorem ZnZ{P:aw}{w:aF}{K:Å}{N:aK}{d it:aa}{o:aN}{kvs:ś}{O:Åw}{ep:Nat}(hd:#[y8,O]):Wu P w K N Û1 [it] it (λi h=>h.IsKeyIter it d i û ep) where
 mem:=by simp
 obj:=λi h st b f=>by
  have e:b=it:=by simpa using f
  rw[14]
 Ċ:=λi h g st k=>by obtain o|e|r:=st;exact ÌJ
 item:=by intro X m hw n J i L s M H E I j st p;rw[C];obtain u|R|ru:=ÖS;refine wpAny_pyNext_dict_item #[ev,l,st] F R λkey g S G T=>?_;rw[am];exact(_,rfl,U5 (s:=#[hN,s,g]) Y Z d1 Ì (kV kvs[i].1,H,W,PH S,(rfl,kvs[i].1,kvs[i].2,Qb C,rfl),G,λb f=>(j b f).1))
 done:=by intro X m hw n J i L s M H E I j st p;rw[C];exact wpAny_pyNext_dict_end (Át J) #[ev,l,st] F (Q1 Á) λg eb=>(rfl,À4 (t':=Ŧ) #[e2,b,f,eb] q t x y A)
 self:=#[h0,wpAny_pyIter_keyiter]
def Zwu(b:TE):TI:=#[eT,Itk]
theorem Zth{X:Cx}{p l:aK}{g:TE}(hl:PE X l g):PI X p l (Zwu g):=by
 rw[r3,r,t];rintro v a ⟨x,i,j,u,w⟩;rw[sT,kvs,w,u];obtain z|lo|k|c|o|y|ep|m|A|n|B:=(show Y2 ò X.w i a.heap d Áa from j.hok d _ hd);have C:û=Åv:=Ņ;have f:=j.freeze hd Μ m;refine wpAny_pyIter_dict (knd:=ZR ò X.w) (kvs:=k) (ep:=ep) lo (o,y,m,A,n,B) ?_;rw[<- C];refine(υ,Ñq,_,Itk d o kvs,upd i d Ác,rfl,f.kept (t':=ÆH) λb o e=>Qc _ e,ZnZ n,ÃQ,λb D=>?_,q o);have e:b=υ:=by simpa using D
 subst e;exact f.fpOk î (f.hok.fresh î)
def ZvL(b:TE):TI:=#[eT,Itv]
theorem Zr3{X:Cx}{E o:aK}{to:TE}{t u:Pos}(F:Æy)(G:#[fC,o,"values"]:=by rfl)(J:ÖT:=by rfl) :
  PI X E (.Call #[y6,"values",t] [] [] u) (ZvL to):=by
 rw[eR,w,y,R];refine dP G J #[ek,F,w,y];rintro v c ⟨x,k,A,K,L⟩;rw[sT,f,L,K];rw[dk];have M:Á3=ÈX:=Ů;have N:=ÖU;rw[nL];refine("dict", "dict.values",Qai,ÖV,PySem.F.type_dict_values,ÌV,λa e=>?_,?_)
 ·cases e;exact(g,j,m.2.1)
 rw[lV];refine ÉW ÖV ÌV PySem.F.entry_dict_values (PySem.F.args_dict_values_1 _) (meets_dict_values Ãl d lo) ((i,p),?_);have O:#[fs,"dict_values"].IsValuesView ÀO d:=ÃQ;have P:#[fs,"dict_values"].DictAt Ãl d i C:=(g,B,Qc _ j,m,n,D);refine wpAny_pyIter_values (s:={ c with Ø:=Æz { cls:=.type "dict_values",Ò:=.fields #[.ref d] } }) O P ?_;rw[<- M];have r:Inv X w y (upd k d ÌW) { c with Ø:=Æz { cls:=.type "dict_values",Ò:=.fields #[.ref d] } }:=#[sj,N.kept];refine(_,[_],_,Itv d g f,upd k d ÌW,rfl,r.kept (t':=Åa) λb o e=>Qc _ e,ZoZ n,ÃQ,λb Q=>?_,q g);have e:=Ý Q;rw[p9]
def Iti(d:aa)(o:aN)(kvs:ś):It :=
 ⟨λi H=>H d=U Ác/\i<û,
  λi H v a=>X3 λp k x=>H p=af/\v=.ref p/\kvs[i]? = U (k,x,)/\a=upd H p (.tup [kV k,x]),
  λi H=>H d=U Ác/\û<=i⟩
theorem ZmI{P:aw}{w:aF}{K:Å}{Q:į}{R:Nat}{S:Pos}{d it:aa}{o:aN}{kvs:ś}{T:Åw}{ep:Nat}(hd:#[y8,T]) :
  Wu P w K (.Tuple Q R S) (Iti d o kvs) [it] it (λi h=>X2 λok j=>IsItemIter h it d i û ep ok j) where
 mem:=by simp
 obj:=λi h st b g=>by
  have e:b=it:=by simpa using g
  subst e;rw[w4];rw[fm,a,v,z]
 Ċ:=λi h r st k=>by obtain ok|j|a:=st;exact(ok,j,k it Ó _ a)
 item:=by
  intro X t hw x m i F s G H E I n st y;subst t hw x;rw[w4];rw[i1];obtain u|W|Y:=PF f i kvs[i].1 kvs[i].2 (Qb B);refine wpAny_pyNext_items_item #[ev,p,a] D W λkey r Z J a2 a3 a4=>?_;rw[<- p]at J;have lt:Ñi:=λq=>Q2 (Qs q);have L:Ï≠it:=lt a;refine(_,rfl,wpAny_letOwnedTupleGo_items J λM N qe=>?_);have l:#[yX,it,r,M]:=qe;have I2:Inv X F G (upd H Ï (.tup [kV kvs[i].1,kvs[i].2])) { s with Ø:=M,ï:=ŋ }:=by
   refine I.zipped (fp:=[it]) (u:=key) (v:=u) n (PH Z) Y (Æ7 _ _ L a2) (λb g=>?_) λc o m q=>?_
   ·have e:=Ý g;subst e;exact(_,N)
   ·have O:c≠it:=λz=>m #[sn,z];exact Æ7 _ _ O (a4 c o O q)
  refine(.ref Ï,_,I2,rfl,(Ï,kvs[i].1,kvs[i].2,Ép,rfl,Qb B,rfl),(_,_,N),λb g=>?_);have e:=Ý g;subst e;rw[Zf L.symm];exact(n _ g).1
 done:=by intro X t hw x m i F s G H E I n st y;subst t hw x;rw[w4];rw[tC];rw[i1];exact wpAny_pyNext_items_end (Át m) #[ev,p,a] D (Q1 Á) λr eb=>(rfl,À4 (t':=Ŧ) #[e2,b,g,eb] f0 f1 f3 f4 f5)
 self:=λ_ _ _ _ _ st h=>by obtain ok|j|a:=st;exact PySem.W.kcp_self a h
def ZuU(b:TE):TI:=#[eT,Iti]
theorem KG{X:Cx}{E:į}{F:Nat}{G:Pos}{o:aK}{to:TE}{t u:Pos}(J:Æy)(K:#[fC,o,"items"]:=by rfl)(L:ÖT:=by rfl) :
  PI X (.Tuple E F G) (.Call #[y6,"items",t] [] [] u) (ZuU to):=by
 rw[eR,w,y,R];refine dP K L #[ek,J,w,y];rintro v c ⟨x,k,A,M,N⟩;rw[sT,f,N,M];rw[dk];have O:Á3=ÈX:=Ů;have P:=ÖU;rw[nL];refine("dict", "dict.items",Qai,ÖW,PySem.F.type_dict_items,ÌV,λa e=>?_,?_)
 ·cases e;exact(g,j,m.2.1)
 rw[lV];refine ÉW ÖW ÌV PySem.F.entry_dict_items (PySem.F.args_dict_items_1 _) (meets_dict_items Ãl d lo) ((i,p),?_);have Q:#[fs,"dict_items"].IsItemsView ÀO d:=ÃQ;have S:#[fs,"dict_items"].DictAt Ãl d i C:=(g,B,Qc _ j,m,n,D);refine wpAny_pyIter_items (s:={ c with Ø:=Æz { cls:=.type "dict_items",Ò:=.fields #[.ref d] } }) Q S ?_;rw[<- O];have r:Inv X w y (upd k d ÌW) { c with Ø:=Æz { cls:=.type "dict_items",Ò:=.fields #[.ref d] } }:=#[sj,P.kept];refine(_,[_],_,Iti d g f,upd k d ÌW,rfl,r.kept (t':=Åa) λb o e=>Qc _ e,ZmI n,(_,_,Qv _ rfl),λb T=>?_,q g);have e:=Ý T;rw[p9]
theorem Zs5{X:Cx}{b:ċ}{s:aj}{c:St}{H:Hp}{d:aa}{kvs:ś}{k:Key}{v:V}{e u:ae}{Q:Hp->Prop}(I:Inv X b c H s)(f:H d=U Áa)(hz:û<aq)(h:ZJ (kV k) e)(i:ZJ v u)
  (q:Q (upd H d (.dK ÑA))):ô (dictSet d e u) (λ_ s'=>∃H',Inv X b c H' s'/\Q H') ç s:=by
 obtain _|hd|vs|a|j:=SH é f;refine wpAny_dictSet_pairs (knd:=ZR ò X.w) (k:=k) (V7 h) j #[iw,h',g,l] (by rw[<- ĳ];lia);refine(_,?_,q);obtain o|m|_:=aI.dictOf_iff.mp g;exact T4 I #[sR,f] l (o,m) (SG (Qk (SI kvs k v) Á) hd (a.put k i) g)
def KC(J:It)(D:aa)(k:Nat)(q:St)(r:Hp)(g:TG)(s:TT)(tk t:TE)(Q:VK):Prop :=
 ∃W:Nat->Nat->À (Key×V)->St->Hp->Prop,(∃m,W 0 m [] #[sE,q,k] (upd r D Äs)) /\
  ∀i m a e c,W i m a e c->ÕN \/
   (J.go i c/\∃N:À (Key×V)->St->Hp->Prop,ÕO/\∀x n,J.yld i c x n->g x e n λd u=>s d u λb o =>
    if b=true then tk d o λv w=>t d w λy p=>∃k:Key,v=kV k/\p D=U (.dK a)/\ĳ<aq/\N (YT a k y) d (upd p D (.dK (YT a k y))) else N a d o)
def KA(n:Nat)(c:TI)(g:TG)(d:TT)(tk e:TE):TE:=λa H Q=>c a H λJ b=>∀D,b D=af->KC J D n a b g d tk e Q
section
variable {X:Cx} {N N':À ah} {o c:bn}
theorem Zow{kx vx tg Ļ:aK}{dH:į}{pos cZ:Pos}{wi:TI}{g:TG}{tc:TT}{tk te:TE}{use:Ã (ae->Sem Unit)}{QQ:ø}(S:Àb)(hN:X.N=N)(ho:Àc)(hc:ť)
  (hi:PI X tg Ļ wi) (hg:#[eU,PG,tg,g]) (ht:#[eU,PTs,dH,tc]) (hk:#[eU,PE,kx,tk]) (he:#[eU,PE,vx,te])
  (hs:ÆC) {Z:ċ} {s:aj} {σ:St} {H:Hp} {Q:VK} (I:Inv X Z σ H s) (h:KA Åp wi g tc tk te σ H Q)
  (post:∀ (D C:aa) (t:aj) (l:Hp) (m:ah->Ã ae),Inv X Z σ l t->l C=af->t.heap.Ns C m->C≠ĺ->ŵ<=C->#[gF,a,C]->ÕP ->
   Q ÀP l->ÂF Ģ X.A ç use QQ ÀP C Æ0 t) :
  ô (Ìi ÑI c Î cZ newDict false #[fB,Ļ] use) QQ ç s:=by
 have rh:ÕQ:=Lj λy hy hf=>by refine ËC y.1 ?_;rw[cT]
 rw[bd];obtain it|fp|tn|J|B|e|I2|T|lQ|f2|hR:=h2;subst e;have hD:B Á4=af:=I2.fresh;have O:Inv X Z σ ÉX { f with Ø:=Äe { cls:=.type "dict",Ò:=.dict #[] } } :=
  I2.laid (t':=ÀQ) Én î (PP _ (ÌL Ì (show aM<Á4 from(I2.mod.glob.keeps I2.bk).lt)))
 have u6:ÕR:=λb k=>by obtain A|e|_:=T.obj 0 _ lQ b k;exact Qs e
 refine bw (ÕS S.nocell ÕT #[iw,G,oZ,o5] ÆS);have P:∃j:aj,j={ f with Ø:=Äe { cls:=.type "dict",Ò:=.dict #[] } }:=ü;rw[el,j,rj,P];have P:Æ2=Äe { cls:=.type "dict",Ò:=.dict #[] }:=by rw[(rj)]
 have p7:ÕU:=by rw[P,Q3]
 rw[rj];have f3:#[rM,Z,ÉX]:=λb k=>(by rw[Zf (QB (u6 b k))];exact(f2 b k).1,(f2 b k).2);have tJ:tn 0 Æ2:=ÈV 0 _ _ lQ λb _ A e=>by rw[P];exact Qc _ e
 rw[<- rj]at O;show bI Ģ X.A (.compStart _ 0 Ás Àv (bJ c Äd #[lm].objs.size Î))
  (ÂF Ģ X.A ç use QQ Àv #[lm].objs.size)
  { f with Ø:=G,ï:=ÀQ+([]:À (ah×ae)).length }
 have eR:G.Ns Ÿ ÕV:=by rw[P];exact oZ
 have p8:#[eC,A,j.heap.get?,G.get?]:=λb A e=>by rw[P]at e;exact ÕW
 rw[<- P];have Br:({ f with Ø:=G,ï:=ÀQ+([]:À (ah×ae)).length }:aj)={ j with Ø:=G,ï:=ÀQ }:=by rw[(rj)];rfl
 rw[lp];have I4:=Lg (tk:=ÀQ) S hN ho O f3 u7 eR p8;have u8:tn 0 G:=ÕX;generalize w:YB X c N' Ÿ j (upd B Á4 (.dK [])) fp=Y at I4;have K:Y.prog=ò:=by rw[<- w];rfl
 have L:Y.w=X.w:=by rw[<- w];rfl
 have YK:Y.K=X.K:=by rw[<- w];rfl
 have Yc:Y.calm=true:=by rw[<- w];exact hc
 have YA:Y.A=X.A:=by rw[<- w];rfl
 have p9:ÕY:=by rw[<- w];rfl
 have Yl:ÕZ:=by rw[(p9)];rfl
 have mO:Y.xe=λ_ _=>Ē:=by rw[<- w];rfl
 rw[eO,u9,hg,ÉX,fX,ht];rw[eO,fW,hk,ÉX,gF,he];rw[w]at u9 fX fW gF;have il:∀ {R:Hp},#[hT,R]->∀b∈fp,Xm Y [] R b:=λ{R} hn b k=>by
  rw[63];have rm:p∈Ë3:=by
   have:Y.pn=[]:=by rw[<- w];rfl
   rw[this]at hp;exact hp
  cases rm
 have fin:∀ (t:aj) (M:St) (l:Hp),Inv Y [] M l t->Q Àv l->ÂF Ģ X.A ç use QQ Àv Ÿ Æ0 t:=λt M l F q=>by
  rw[tB];have o6:l Ÿ=af:=by have:=F.free;rw[zk,Yl]
  have un:Un Ëz fp ÉX l Æ2 t.heap:=by have:=F.base;rw[hE,w]
  have Bs:t.os=j.os:=by have:=F.os;rw[hE,w]
  have jp:Õ0:=by have:=F.hok;rw[ix,K,L]
  refine post _ _ t l m (O.call' (s':=t) (ch:=fp) Bs un jp F.bare λb k=>?_) o6 hn (Q2 O.lt) O.sz #[iw,x,a,e] (λp hp=>?_) q
  ·rw[lW]
  ·obtain v|A|e'|_:=O.cell x a e;exact QB (Qs e')
  ·exact QB (Qs (O.pin p hp).1)
 have qa:bI Ģ X.A #[r8,ÑI,Ás]
   (ÂF Ģ X.A ç use QQ Àv Ÿ) { j with Ø:=G,ï:=ÀQ }:=by
  rw[<- p9,<- YA];refine ZiD (E:=ËD) (λn s'=>X4 λi ys aR R=>Inv Y [] aR R s'/\tn i À3/\#[hT,R]/\W i n ys aR R) Éz ?_ m0
   Õ1
  ·rintro n t ⟨i,ys,M,l,F,oU,qZ,w5⟩;rcases turn i n ys M l w5 with⟨stop,qn⟩|⟨go,Nn,va,step⟩
   ·refine thn (T.done Y K L YK Yc i [] t M l _ F (il qZ) oU stop) ?_;rintro r s6 ⟨hr,I6⟩;subst hr;have fq:=fin s6 M l I6 qn;rw[<- YA]at fq;exact fq
   ·refine thn (T.item Y K L YK Yc i [] t M l _ F (il qZ) oU go) ?_;rw[aN];have qb:Õ2:=λ{rp V s9} I9=>by refine Õ3;rw[gA,A,rn,k,I9.pin]
    have P1:=u9 _ s7 M H7 x u _ Bv r7 (step x H7 y7);rw[fR,K,L,P1];rw[lE];rw[fR,K,L,P2];rintro ok s9 ⟨V,I9,q9⟩;cases ok with
    | false=>rw[Æ Qw]at q9;rw[bC]
    | true=>rw[È rfl]at q9;rw[p8];have P3:=fW _ s9 km V _ I9 q9;rw[fR,K,L,P3];rintro kv mP ⟨vk,iV,Bw,Bx,q10⟩;have P4:=gF _ mP km iV _ Bw q10;rw[fR,K,L,P4];rintro y rq ⟨vy,rA,tL,r11,kk,eb,By,hsz,q11⟩;subst eb;have P5:=Zs5 (X:=Y) tL By hsz Bx r11 q11;rw[fR,K,L,P5];rintro _ pi ⟨qk,yq,q12⟩;rw[sA,b1,b2,b3,qb,yq];obtain m'|gP|w12:=va _ _ _ q12;exact(m',gP,i+1,YT ys kk vy,km,qk,b1,b2,b3,w12)
  ·exact w0
 have lp:=T.self X.A 0 { j with Ø:=G,ï:=ÀQ } (λBz s'=>bI Ģ X.A #[r8,ÑI,Bz]
   (ÂF Ģ X.A ç use QQ Àv Ÿ) s') ÉB u8 qa
 exact codeAny_compStart_dict qa Õ4
theorem ZqH{b d a Ļ:aK}{e:į}{pos:Pos}{f:TI}{g:TG}{i:TT}{tk j:TE}(S:Àb)(k:X.N=N)(l:Àc)(hc:ť)
  (hi:PI X a Ļ f) (n:#[eU,PG,a,g]) (ht:#[eU,PTs,e,i]) (hk:#[eU,PE,b,tk]) (he:#[eU,PE,d,j])
  (hs:ÆC:=by intro _;rfl) :
  PE X #[hV,b,a,e,c] (KA Åp f g i tk j):=by
 rw[eR,ai,σ,Q];show av _ _ (Ìi #[hV,b,a,e,c] c Î _ newDict false #[fB,Ļ]) _ _ _;refine Zow (use:=af) S k l hc hi n ht hk he hs I h λD C s5 p m r t u v w y z q=>(m,u,λh' A=>?_);exact(.ref D,p,r.let t v w y z A,rfl,q)
universe E
def ZwP:R2:=λy x H Q=>X2 λa o=>C3 Çh (Y7 H a y o) (Q (.bl ÌP) H)
def ZsS:R2:=λy x H Q=>X2 λa o=>C3 Çh (Y7 H a y o) (Q (.bl (!o.isSome)) H)
def ZwD:R2:=λx y H Q=>X2 λa v=>C3 Çh (Y7 H a y (U v)) (Q v H)
section
variable {X:Cx} {k:Nat}
theorem inG(hr:χ):OpR X (aS .In) ZwP:=by intro ai s σ H x y v u Q I b c h;obtain a|o|rfl|g|q:=h;cases c;exact Zwy (T9 hr) I g b λs3 d=>(.bl ÌP,H,d,rfl,q)
theorem SE(hr:χ):OpR X (aS .NotIn) ZsS:=by intro ai s σ H x y v u Q I b c h;obtain a|o|rfl|g|q:=h;cases c;exact Zsf (T9 hr) I g b λs3 d=>(.bl (!o.isSome),H,d,rfl,q)
def Zvl:S0:=λo i v H Q=>X2 λa H'=>C3 (o=.ref a) (Xv H a i v H') (Q H')
theorem Wp(hr:χ):Rt X Zvl:=by intro ai s σ H o i v ov iv u Q I b c d h;obtain a|e|rfl|g|q:=h;cases b;exact ZoD (T9 hr) I g c d λs4 f=>(e,f,q)
theorem Kz{ÿ:aw}{w:aF}{A:aD}{E:ø}{s:aj}{ς b:aK}{o i:ae}{T id:ĸ}{Q:ø}(c:Åh o T)
  (hl:ÆU (.type T) "__getitem__" = pure (U #[fb,id])) (hs:Ë5 b false o i=operate [o,i] (ÆV o i)) (h:av à A (ÆV o i) Q E s) :
  av à A (Ë4 ς b o i) Q E s:=by
 unfold Ë4;refine am ?_;rw[getitemInPython_of_ne c.not_modules];refine am (ÖX c hl ?_);have a:av à A (Ë5 b false o i) (λr d=>av à A (letTemporaryGo ς o r >>= λ_=>pure r) Q E d) E s:=by rw[hs];exact wpAny_operating (aX h (λr d e=>am (wpAny_letTemporaryGo (aB e))) λ_ _ x=>x)
 first
  | exact aB (am a)
  | exact am (aB (am a))
  | exact am a
theorem ixG(hr:χ):IxR X ZwD:=by intro ς fJ ai s σ H x y v u Q I b c h d;obtain a|z|rfl|g|q:=h;cases b;exact Kz (ZlN I g) ÖY d (ZoV (T9 hr) I g c λw' s' e f=>(z,H,e,f,q))
theorem T1:YN X ÆY ÖQ:=Zoz
theorem Ky(hc:ť:=by rfl):YN X Ãe KH:=Zmj hc
universe E
mutual
inductive DH (H:Hp):V->aJ->Prop where
 | non:DH H .non .none
 | bl (b:Ñ):DH H (.bl b) (.bool b)
 | int (i:Int):DH H (.int i) (.int i)
 | str (s:ah):DH H (.str s) (.str s)
 | lst {a:aa} {xs:À V} {ds:À aJ}:H a=U (.lst xs)->DHs H xs ds->DH H (.ref a) (.list ds)
 | tup {a:aa} {xs:À V} {ds:À aJ}:H a=U (.tup xs)->DHs H xs ds->DH H (.ref a) (.tuple ds)
inductive DHs (H:Hp):À V->À aJ->Prop where
 | nil:DHs H [] []
 | Ë {x:V} {d:aJ} {xs:À V} {ds:À aJ}:DH H x d->DHs H xs ds->DHs H (x::xs) (d::ds)
end
mutual
theorem DH.mono{H H':Hp}(s:Àa):∀ {x:V} {d:aJ},DH H x d->DH H' x d
 | _,_,.non=>.non
 | _,_,.bl b=>.bl b
 | _,_,.int i=>.int i
 | _,_,.str z=>.str z
 | _,_,.lst h hs=>.lst (s _ _ h) ÑJ
 | _,_,.tup h hs=>.tup (s _ _ h) ÑJ
theorem DHs.mono{H H':Hp}(s:Àa):∀ {xs:À V} {ds:À aJ},DHs H xs ds->DHs H' xs ds
 | _,_,.nil=>.nil
 | _,_,.cons h hs=>.cons (DH.mono s h) ÑJ
end
mutual
theorem DH.dv{K:Å}{H:Hp}:∀ {x:V} {d:aJ},DH H x d->DV K H x d
 | _,_,.non=>.non
 | _,_,.bl b=>.bl b
 | _,_,.int i=>.int i
 | _,_,.str z=>.str z
 | _,_,.lst h hs=>.lst (É h) (DHs.dv hs)
 | _,_,.tup h hs=>.tup (ā h) (DHs.dv hs)
theorem DHs.dv{K:Å}{H:Hp}:∀ {xs:À V} {ds:À aJ},DHs H xs ds->DVs K H xs ds
 | _,_,.nil=>.nil
 | _,_,.cons h hs=>.cons (DH.dv h) (DHs.dv hs)
end
theorem Kx:∀ (Ŋ a:À (Key×V)),((a++Ŋ).map ù).Nodup->Vr a Ŋ=a++Ŋ
 | [],a,_=>by show a=_;rw[QX]
 | x::r,a,h=>by
  have hx:Y3 a x.1=af:=by
   cases b:Y3 a x.1 with
   | none=>rfl
   | some v=>have:=ZsQ b;rw[Qf,Ql]at h;have:=(List.nodup_append.mp h).2.2 x.1 this x.1 Ó;exact Ç rfl this
  show Vr (YT a x.1 x.2) r=_;rw[UV _ hx,Kx r (a++[x]) #[ed,Qap,h],Qap];rfl
theorem US{kvs:ś}{k:Key}{v:V}(h:Y3 kvs k=U v):(k,v,)∈kvs:=by
 unfold Y3 at h;obtain p|a|rfl:=Qbf.mp h;have b:=ÌX;have c:=Qab a;have:p.1=k:=by simpa using b
 rw[<- this];exact c
theorem UR{kvs:ś}(hn:(Ãj ù).Nodup){k:Key}{v:V}(h:(k,v,)∈kvs):Y3 kvs k=U v:=by
 induction kvs with
 | nil=>cases h
 | Ë p r a =>
  obtain b|c:=Q9.mp (by simpa using hn:(p.1::ÂK ù).Nodup);rcases ħ h with rfl|h
  ·exact T6 rfl
  ·rw[T5 λe=>b (e ▸ Qg (f:=ù) h)];exact a c h
universe E.L2
namespace L2
open PySem PySem.Spec PyProof.Rows
theorem Y7.fz{H:Hp}{a:aa}{o:aN}{kvs:ś}{k:Key}{r:Ã V}(e:H a=U Ác)(h:Y3 kvs k=r):Y7 H a (kV k) r:=.inl (kvs,k,.inr (o,e),rfl,h.symm)
theorem ZrK{d:aa}{o:aN}{kvs:ś}{k:Nat}{D:aa}{a:Àh}{f:Hp}{g:TG}{h:TT}{j:TE}{Q:VK}(Pv:#[gQ,Àh])(h0:#[h6,f])
  (hl:ÑK)
  (hs:∀i k x ys a H,kvs[i]? = U (k,x,)->Pv i ys a H->g x a H λc s=>h c s λb l=>if b=true then j c l λy n=>n D=U Ãf/\č<aq/\Pv (i+1) (ys++[y]) c #[hg,n,ys,y] else Pv (i+1) ys c l)
  (hd:ÑL):Vu (Itv d o kvs) D k a f g h j Q:=by
 rw[T];by_cases r:i<û
 ·rw[fc,r,t,u];obtain rfl|k'|e:=y;exact hs i k' x ys a _ e p
 ·have e:ÌY:=by lia
  rw[dm]
theorem ZrX{d:aa}{o:aN}{kvs:ś}{k:Nat}{D:aa}{a:Àh}{f:Hp}{g:TG}{h:TT}{j:TE}{Q:VK}(Pv:#[gQ,Àh])(h0:#[h6,f])
  (hl:ÑK)
  (hs:∀i k x ys a H p,kvs[i]? = U (k,x,)->Pv i ys a H->H p=af->g ş a ÖZ λc t=>h c t λb l=>if b=true then j c l λy n=>n D=U Ãf/\č<aq/\Pv (i+1) (ys++[y]) c #[hg,n,ys,y] else Pv (i+1) ys c l)
  (hd:ÑL):Vu (Iti d o kvs) D k a f g h j Q:=by
 rw[T];by_cases s:i<û
 ·rw[fc,s,u,v];obtain r|k'|w|z|rfl|e|rfl:=y;exact hs i k' w ys a H r e p z
 ·have e:ÌY:=by lia
  rw[dm]
def off(p:aa)(H:Hp):Hp:=λb=>if b=p then af else H b
theorem Vq{p b:aa}{H:Hp}{o:HO}(h:H b=U o)(n:b≠p):off p H b=U o:=by unfold off;rw[Æ n];exact h
theorem Zuf{p:aa}{H:Hp}:ZB (off p H) H:=λb o h=>by
 unfold off at h;split at h
 ·cases h
 ·exact h
theorem Zp0{p l:aa}{H:Hp}(h:H l=af):off p H l=af:=by unfold off;split;rfl;exact h
def Zwe:V->À V->Hp->VK->Prop:=λx vs H Q=>X4 λa kvs k v=>C5 Çh (vs=[kV k]) (H a=U Áa) (Y3 kvs k=U v) (Q v ÖN)
theorem PD{X:Cx}:MtM X "dict.pop" Zwe:=by intro ai s σ H x vs v us Q I b c h;obtain a|kvs|k|y|rfl|rfl|d|e|q:=h;cases b;obtain u|rfl|f:=c.one;exact Zvm I d f e Ď λw' s' g i=>(y,_,g,i,q)
theorem Xt{X:Cx}{s:aL}:PS X s Ìc:=λai s' σ H D I h=>ω
theorem ZtW{X:Cx}{k:Nat}{o e:aK}{b ty:TE}{c a:Pos}(hr:χ)(f:PE X o b)(he:PE X e ty)(hb:#[fC,o,"get"]:=by rfl)
  (g:(c.endLine == a.line)=true:=by rfl) (d:bg a ÑD=#[f3,e]:=by rfl):PE X (.Call #[y6,"get",c] [e] [] a) (KI b ty):=by
 refine Zrx (T9 hr) f he (hb,?_,g,d);rw[d];rfl
section
variable {X:Cx}
theorem VT{x:ah}{n:Int}{pos:Pos}(hm:∃tk,ę x=U (.int n tk))(a:Ŕ:=by rfl)(hd:İ:=by decide):PE X ÀN (tC Ät):=by obtain tk|h:=hm;exact Mb a h (tk,rfl) hd
universe E
def Zuu(t:TS):TS:=λD a H=>X2 λd u=>C3 (H d=U u) (Mut (U u)) (t (λb H'=>∃o,H' d=U Âr/\Č b (upd H' d u),λ_ _=>Ē,λ_ _=>Ē,λ_ _=>Ē) a H)
theorem Zta{X:Cx}{e:aL}{t:TS}(h:PS X e t):PS X e (Zuu t):=by
 intro i s j H D I q;obtain d|u|k|g|q:=q;have n:=I.nofrz k g;refine thn (h i s j H _ I q) λf s1 z=>?_;cases f with
 | next=>obtain b|c|l|o|m|a:=z;exact(b,_,l.thaw m g n,a)
 | brk=>obtain b|c|_|a:=z;exact Çi
 | Λ=>obtain b|c|_|a:=z;exact Çi
 | ret v=>obtain v'|b|c|_|_|a:=z;exact Çi
def ZwV(t u:TS):TS:=λD b H=>∃M:St->Hp->Prop,t { D with nx:=M } b H/\∀a H',M a H'->u D a H'
theorem UQ{X:Cx}{st:aL}{Ć:ſ}{t u:TS}(h1:PS X st t)(h2:PSs X Ć u):PSs X (st::Ć) (ZwV t u):=by
 rw[eR,a,d,D];rw[g6,M,h,e,h];refine ÏJ (thn (h1 a s d H { D with nx:=M } I h) λf g q=>?_);cases f with
 | next=>obtain b|c|i|q:=q;exact h2 a g b c D i (e b c q)
 | ret v=>exact q
 | brk=>exact q
 | Λ=>exact q
theorem Zsc{d:aa}{o:aN}{kvs:ś}{k:Nat}{D:aa}{a:Àh}{f:Hp}{g:TG}{h:TT}{tk j:TE}{Q:VK}(Pv:Nat->À Âa->Àh->Hp->Prop)(h0:Pv 0 [] Ö0 (upd f D Äs))
  (hl:ÑK)
  (hs:∀i k x ys a H p,kvs[i]? = U (k,x,)->Pv i ys a H->H p=af->g ş a ÖZ λc t=>h c t λb l=>if b=true then tk c l λu v=>j c v λy n=>∃k:Key,u=kV k/\n D=U (.dK ys)/\č<aq/\Pv (i+1) (YT ys k y) c (upd n D (.dK (YT ys k y))) else Pv (i+1) ys c l)
  (hd:ÑL):KC (Iti d o kvs) D k a f g h tk j Q:=by
 rw[T];by_cases s:i<û
 ·rw[fc,s,w,z];obtain r|k'|A|B|rfl|e|rfl:=y;exact hs i k' A ys a H r e p B
 ·have e:ÌY:=by lia
  rw[dm]
def apart:À Int->Ñ
 | []=>true
 | x::r=>r.all (λy=>x != y)&&apart r
structure CompScC (N N':Ê) (o c:bn):Prop where
 kind:c.kind=.function
 okind:o.kind=.function
 cel:∀y∈ÂD,y.2=.cell->ŭ y.1=U .cell
 loc:∀y∈ÂD,y.2=.local->ŭ y.1=U .local
 Η:∀y∈ÂD,y.2=.free->ŭ y.1=U .free/\ÕH
 len:ģ<=Ìf
 same:∀i∈ÂE ģ,∀x∈N'[i]?,ŭ x=U .local\/ŭ x=U .free\/ŭ x=U .cell->ŭ x=U .free/\N[i]? = U x
 nd:N'.Nodup
universe E.L2
namespace L2
open PySem PySem.Spec PyProof.Rows
def Has(b:Ãm)(p:ÂJ):Prop:=∃a,b.keyOf p.1=U a
def kyd(a:Ãm)(p:ÂJ):a.α:=(a.keyOf p.1).getD a.dflt
section
variable {κ:Çc}
def kS(κ:Ãm)(l:ÉY):Prop:=l.Pairwise λp q=>κ.kle (kyd κ p) (kyd κ q)
def kLe(κ:Ãm)(l m:ÉY):Prop:=∀x∈l,∀y∈m,κ.kle (kyd κ x) (kyd κ y)
structure Mg (κ:Ãm) (all out l m:ÉY):Prop where
 perm:(out++(l++m)).Perm all
 so:kS κ out
 sl:kS κ l
 sm:kS κ m
 ol:kLe κ out l
 om:kLe κ out m
structure Mh (κ:Ãm) (all l m out:ÉY):Prop where
 perm:((l++m)++out).Perm all
 so:kS κ out
 sl:kS κ l
 sm:kS κ m
 lo:kLe κ l out
 mo:kLe κ m out
structure LoPre (κ:Ãm) (a b:ÉN):Prop where
 ha:∀p∈ÌZ,Has κ p
 hb:∀p∈b.toList,Has κ p
 sa:kS κ ÌZ
 sb:kS κ b.toList
 a0:0<a.size
 b0:0<b.size
 fst:∀i,i<a.size->κ.kle (KK κ b 0) (KK κ a i)
 lst:∀i,i<b.size->κ.kle (KK κ b i) (KK κ a (a.size-1))
def Lo(κ:Ãm)(a b out:ÉN)(c d:Nat):Prop:=Mg κ (ÌZ++b.toList) out.toList (a.toList.drop c) (b.toList.drop d)
variable {a b out:ĉ ÂJ} {ia ib:Nat}
variable {na nb:Nat}
universe E
def Kw:Nat->À (À ÂJ)->À (Nat×Nat)
 | _,[]=>[]
 | o,r::a=>(o,Áv,)::Kw (o+Áv) a
def Zw2(p:Nat×Nat×Nat):Nat×Nat:=(p.1,p.2.1,)
section
variable {ÿ:aw} {w:aF} {A:aD} {E:ae->aj->Prop} {s:aj} {κ:Çc} {k0:Çd} {st:Çe} {iN:ĉ ÂJ}
structure Rn (κ:Ãm) (k0:Çd) (iN:ÉN) (st:Çe) (rs:#[hf,ÂJ]) (Ć:ÉY):Prop where
 kind:ζ st=k0
 failed:failedOf st=af
 arr:(Û2).toList=rs.flatten++Ć
 perm:(Û2).Perm iN
 srt:∀r∈rs,kS κ r
 ne:∀r∈rs,r≠[]
 pend:(ÌM st).toList.map Zw2=Kw 0 rs
universe E
section
variable {ÿ:aw} {w:aF} {A:aD} {E:ae->aj->Prop} {s:aj} {κ:Çc} {k0:Çd} {st yr:Çe} {iN:ĉ ÂJ} {α:Type} {lo:Nat}
structure Ph (k0:Çd) (iN:ÉN) (lo:Nat) (yr st:Çe):Prop where
 kind:ζ st=k0
 failed:failedOf st=af
 pend:ÌM st=ÌM yr
 perm:(Û2).Perm iN
 pre:∀k,k<lo->Û2[k]? = (arrOf yr)[k]?
universe E
universe E.L2
set_option maxHeartbeats 4000000
namespace L2
open PySem PySem.Spec PyProof.Rows
variable {X:Cx}
universe E.L2
set_option maxHeartbeats 4000000
namespace L2
open PySem PySem.Spec PyProof.Rows
@[reducible] def intKd:Çc where
 α:=Int
 blt a b:=decide (a<b)
 irrefl a:=by simp
 trans a b c h1 h2:=by simp only[ÉZ]at *;lia
 negTrans a b c h:=by
  simp only[ÉZ]at *
  lia
 total a b h1 h2:=by simp only[decide_eq_false_iff_not]at *;lia
 keyOf v:=match v with|.int x _=>U x|_=>af
 dflt:=0
def rSrtIA(K:Å):À V->Hp->VK->Prop:=λxs H Q=>X2 λ(p:aa) (ns:À Int)=>C3 (xs=Á1) (SqL K H p ψ) (∀ (l:aa) (a:À Int),H l=af->a.Perm ns->a.Pairwise (·<=·)->Q Đ (upd H l (.lst (ļ í))))
universe E.L2
set_option maxHeartbeats 4000000
namespace L2
open PySem PySem.Spec PyProof.Rows
def txt:ae->ah
 | .str x _=>x
 | _ => ""
section
variable {ÿ:aw} {w:aF} {A:aD} {E:ae->aj->Prop} {s:aj}
def Zws(w:aF)(a:ÑM):Prop:=∀e∈ÌZ,X2 λx u=>e.2=.str x u/\e.1=Me w (.inr x)
def Kv(a:ÑM):À ah:=a.toList.map λe=>txt e.2
structure SetAt (w:aF) (L:Ñ) (T:ah->Prop) (o:aN) (es:ÑM) (ep:Nat) (t:SetTable):Prop where
 ex:o.ExactSet
 da:Ζ=.set es ep t
 el:Zws w es
 nd:(Kv es).Nodup
 me:∀x,T x↔x∈Kv es
 sz:es.size<scanBound
 ft:t.fits es.size=true
 ld:t.led=L
 pl:es.size≠0->t.plain=false
universe E
universe E.L2
set_option maxHeartbeats 4000000
namespace L2
open PySem PySem.Spec PyProof.Rows
universe E.L2
namespace L2
open PySem PyProof.Rows
section
variable {X:Cx} {xe:ae->aj->Prop}
theorem PSs.wish{st:ſ}{t:TS}(h:PSs (X.wish xe) st t)(hx:∀e s,xe e s->ç e s):PSs X st t:=λa s b H D I hw=>aX (h a s b H D (I.wish _) hw) (λ_ _ q=>q.unwish) hx
universe E
def PB(a:Ş)(e:aa)(h h':aI):Prop:=(∀b o,Þ b=U o->b≠e->b ∉ a->Ā b=U o)/\∀b o,Þ b=U o->b≠e->∃sl,Ā b=U { o with Áo:=sl }
def Xj(B:aI)(a:Ş)(h:aI):Prop:=(∀b o,Ãn b=U o->b ∉ a->Þ b=U o)/\∀b o,Ãn b=U o->∃sl,Þ b=U { o with Áo:=sl }
theorem Xj.keep{B:aI}{d:Ş}{e:aa}{h h':aI}(a:Xj B d h)(he:Ãn e=af)(k:PB d e h h'):Xj B d h' :=
 (λb o c n=>k.1 b o (a.1 b o c n) (λz=>by rw[z,he]at c;cases c) n,λb o c=>by obtain sl|f:=a.2 b o c;obtain g|i:=k.2 b _ f (λz=>by rw[z,he]at c;cases c);exact(g,i))
structure Yk (NB:Äu) (h:aI) (e:aa) (cls:ae) (dd:ď) (fl:ae):Prop where
 ex:X5 λoe vs T oT ts=>Þ e=U oe/\oe.cls=cls/\oe.dict=dd/\oe.data=.fields vs/\vs[1]? = U (.ref T)/\T≠e/\Þ T=U oT/\oT.data=.fields ts/\ts[3]? = U fl/\NB T
structure T0 (h:aI) (e:aa) (cls:ae) (dd:ď):Prop where
 ex:X2 λoe vs=>Þ e=U oe/\oe.cls=cls/\oe.dict=dd/\oe.data=.fields vs/\vs[1]? = U .none
section
variable {M:Áq} {A:aD} {E:ae->aj->Prop} {s:aj} {env:Env} {Û:À Env} {Â:aI} {L e:aa} {cls:ae} {dd:Ã aa} {Q:Unit->aj->Prop}
theorem ZhN(o:aN)(f:ĉ ae->ĉ ae):(Åx f o).dict=o.dict:=by unfold Åx;split<;>rfl
theorem Ku{d:aN}{vs:ÃP}{m:ae}{v:Ñ}(w:É0)(hl:ÑN)(x:Çj)
  (he:ì e=U d) (hd:d.data=.fields vs) (hsz:1<vs.size) (y:ÑO)
  (h:∀h',PB Åy e Ð h'->(∀NB:aa->Prop,(∀T,Ï<=T->NB T)->Yk NB h' e d.cls d.dict (ū L))->Q () { s with Ø:=h' }) :
  av M A (do let a <- frameOf env;let g <- entryPlaceOf L v;let b <- Ö1 m a .none (ū L) .none g;setField Š 1 b) Q E s:=by
 refine am (wpAny_frameOf_fun w hl x λc i=>?_);refine am (wpAny_entryPlaceOf λg n=>?_);unfold Ö1 newFields;refine am (bw ?_ (n.sizeOk5 _ _ _ _ _));have p:c.get? e=U d:=(i.2.1 e y).trans he;have q:Äk≠e:=Q2 (Qs p);generalize r:({ cls:=.type "traceback",Ξ:=af,Ò:=.fields ([m,.ref L,.none,ū L,.none]++(if g.isEmpty then Áx 6 ÀK else g)).toArray }:aN)=j;have t:(c.push j).get? e=U d:=Qc _ p;have u:=ÉG hd ÑP;have z:=QZ (Åx ÑP) t (Ð4 u);have k:∀b,b≠e->((c.push j).update e (Åx ÑP)).get? b=(c.push j).get? b:=#[sJ,f];refine ÉF t hd hsz (h _ (λb o f l C=>?_,λb o f l=>?_) (λB D=>(_,_,Äk,j,_,z,Öj _ _,ZhN _ _,u,by simp[hsz],q,(k _ q).trans (Qv c (by rw[<- r];rfl)),by rw[<- r],?_,?_)))
 ·rw[k b l];exact Qc _ ((i.2.1 b C).trans f)
 ·obtain F|G:=i.2.2 b o f;exact(F,by rw[k b l];exact Qc _ G)
 ·first|(simp;done)|(rcases n with rfl|⟨_,_,_,_,_,_,_,rfl⟩<;>simp)
 ·exact D _ (È6 i.1.symm)
theorem ZpQ{NB:Äu}(f:Ö2)(g:É0)(hl:ÑN)(b:Çj)(hx:T0 Ð e cls dd)
  (h:∀h',PB Åy e Ð h'->Yk NB h' e cls dd (ū L)->Q () { s with Ø:=h' }):av M A Ì0 Q E s:=by
 obtain oe|i|a|rfl|rfl|hd|c:=hx.ex;have j:ÑO:=λl=>by obtain _|o|d|m:=hl.mem l;rw[fL,a,d,d];exact m i hd
 unfold Æ1;simp only[b];refine am (bb a hd c ?_);rw[Æ Ì];exact Ku g hl b a hd (É1 c).1 j λh' k x=>h h' k (x NB f)
theorem ZsN{B:aI}{NB:Äu}(C:Ö2)(hB:∀T,NB T->Ãn T=af)(D:É0)(hl:ÑN)(n:Çj)(hn:Ãn e=af)(p:Xj B Åy Ð)(hx:Yk NB Ð e cls dd .none)
  (h:Ö3):av M A Ì0 Q E s:=by
 obtain oe|g|T|oT|F|i|rfl|rfl|hd|q|r|d|j|t|G:=hx.ex;have H:=hB T G;have I:ÑO:=λJ=>by obtain _|o|u|c:=hl.mem J;rw[fL,i,u,u];exact c g hd
 unfold Æ1;simp only[n];refine am (bb i hd q ?_);rw[È ÑQ];refine am (bb d j t ?_);rw[Æ (show ¬ ((ÀK == ū L)=true) from by simp[ū])];refine am (ÉF d j (É1 t).1 ?_);have f:∀b,b≠T->(Û3).get? b=ì b:=#[sJ,a];have v:Ö4:=λb o a z=>by rw[z,H]at a;cases a
 have K:Xj B Åy Û3:=(λb o a m=>(f b (v b o a)).trans (p.1 b o a m),λb o a=>by obtain w|l:=p.2 b o a;exact(w,(f b (v b o a)).trans l));have N:Ö5:=λb o a c z=>by rw[z,d]at a;cases a;exact c F j
 have y:(Û3).FunFrames Â (env::Û):=hl.of_keeps λb o a c=>(o,(f b (N b o a c)).trans a,rfl);refine Ku (s:={ s with Ø:=Åi T (Åx (·.setIfInBounds 3 ÀK)) }) D y n ((f e (Κ r)).trans i) hd (É1 q).1 I λh' k x=>h h' (K.keep hn k) ?_ (x NB λT d=>C T (by rw[aI.size_update]at d;exact d));exact y.of_keeps λb o a c=>by obtain w|l:=k.2 b o a (λz=>by rw[(z)]at a;rw[(f e (Κ r)).trans i]at a;cases a;exact c g hd);exact(_,l,rfl)
theorem Zl7{NB:Äu}(a:Çj)(hx:Yk NB Ð e cls dd (ū L))(h:Q () s):av M A Ì0 Q E s:=by obtain oe|vs|T|oT|ts|b|rfl|rfl|hd|c|tP|d|f|g|yv:=hx.ex;unfold Æ1;simp only[a];refine am (bb b hd c ?_);rw[È ÑQ];refine am (bb d f g ?_);rw[È (show (ū L == ū L)=true from by simp)];exact aB h
theorem TZ{B:aI}{NB:Äu}(hB:∀T,NB T->Ãn T=af){k:Ş}{x:ae}{F:ď}{l:ÁS}(hl:Æq Â l)(n:Xj B k Ð)(hx:Yk NB Ð e cls dd x)
  (h:∀h',Xj B k h'->ÑR Â l->Yk NB h' e cls dd (F.elim .none λf=>ū f)->Q () { s with Ø:=h' }):av M A (ÑS Š F) Q E s:=by
 obtain y|g|T|oT|p|q|rfl|rfl|hd|r|t|i|c|C|u:=hx.ex;have D:=hB T u;have v:3<p.size:=(É1 C).1;have d:∀b,b≠T->(Åi T (Åx (·.setIfInBounds 3 (F.elim ÀK λf=>ū f)))).get? b=ì b:=#[sJ,a];have w:Ö4:=λb o a z=>by rw[z,D]at a;cases a
 have G:Ö5:=λb o a j z=>by rw[z,i]at a;cases a;exact j p c
 unfold ÑS;refine am (bb q hd r ?_);rw[È ÑQ];refine ÉF i c v (h _ (λb o a m=>(d b (w b o a)).trans (n.1 b o a m),λb o a=>?_) (hl.of_keeps λb o a j=>(o,(d b (G b o a j)).trans a,rfl)) (y,g,T,_,_,(d e (Κ t)).trans q,rfl,rfl,hd,r,t,QZ _ i (Ð4 (ÉG c _)),ÉG c _,by simp[v],u));obtain H|I:=n.2 b o a;exact(H,(d b (w b o a)).trans I)
universe E
structure TY (B Â:aI) (NB:Äu) (env:Env) (Û:ÁS) (L e:aa) (cls:ae) (dd:ď) (h:aI):Prop where
 st:Xj B Åy h
 fun_:h.FunFrames Â (env::Û)
 new:Ãn e=af
 nb:∀T,ń<=T->NB T
 hB:∀T,NB T->Ãn T=af
 ex:T0 h e cls dd\/Yk NB h e cls dd .none\/Yk NB h e cls dd (ū L)
section
variable {M:Áq} {A:aD} {E:ae->aj->Prop} {s:aj} {env:Env} {Û:À Env} {B Â:aI} {NB:aa->Prop} {L e:aa} {cls:ae} {dd:Ã aa} {Q:Unit->aj->Prop}
theorem TY.noted(hx:Ö6)(d:É0)(a:Çj)
  (h:Ö3):av M A Ì0 Q E s:=by
 rcases hx.ex with x|x|x
 ·refine ZpQ hx.nb d hx.fun_ a x λh' k f=>h h' (hx.st.keep hx.new k) ?_ f;obtain oe|g|i|_|_|hd|_:=x.ex;refine hx.fun_.of_keeps λb o c j=>?_;obtain sl|l:=k.2 b o c (λz=>by rw[z,i]at c;cases c;exact j g hd);exact(_,l,rfl)
 ·exact ZsN hx.nb hx.hB d hx.fun_ a hx.new hx.st x h
 ·exact Zl7 a x (h Ð hx.st hx.fun_ x)
theorem TY.leaves(hx:Ö6)(d:É0)(f:Çj)
  (h:∀h',Xj B Åy h'->ÑR Â (env::Û)->Yk NB h' e cls dd .none->Q () { s with Ø:=h' }):av M A (leaving env Š) Q E s:=by
 unfold leaving;refine am (hx.noted d f λg a b c=>?_);exact TZ hx.hB (s:=#[hN,s,g]) (F:=af) b a c h
universe E
open PySem.W (hideAll hideAll_none hideAll_get hideAll_size of_hideAll)
def NB(lo:Nat)(H:Hp)(ps:Ş)(T:aa):Prop:=lo<=T/\H T=af/\T ∉ ps
def CX1(P:aw)(w:aF):CXT:=λouter H s E b s'=>X4 λ(e:aa) (cls:ae) (a:Ã aa) (H':Hp)=>C9 (b=.ref e) (Ï<=e) (H' e=af) (Yk (NB Ï H' []) À3 e cls a .none) (s'.os=s.os) (Â1 s'.gens) (Un (frs Û) [] H H' Ð À3) (HOk P w H' À3) (E cls a H')
def XE(X:Cx)(E:St->XK):ae->aj->Prop:=λf s'=>X6 λ(e:aa) (cls:ae) (a:Ã aa) (b:À (aa×aN)) (d:St) (H':Hp)=>C9 (f=.ref e) (ŵ<=e) (e≠ĺ) (#[gF,c,e]) (H' e=af) (Inv X b d H' s') ((∀p∈X.pn++b,p.1≠e)) ((T0 À3 e cls a\/Yk Ö7 À3 e cls a .none\/Yk Ö7 À3 e cls a ÑT)) (E d cls a H')
section
variable {X:Cx} {ai:À (aa×aN)} {σ:St} {H:Hp} {s s':aj} {E:St->XK}
theorem Inv.refused(I:å){u:ae}(h:CX1 ò X.w Θ H s (E σ) u s'):XE X E u s':=by
 obtain e|cls|A|w|rfl|y|B|C|os|f|un|j|q:=h;have i:Ö8:=I.sz;have D:Inv X ai σ w s':=by obtain F|g|d|t|G:=s';obtain rfl:G=s.os:=os;exact I.call (h':=F) (g':=g) (d':=d) (t':=t) (ch:=[]) un j f (λb z=>Ç z Ó)
 have k:∀a o,ì a=U o->a≠e:=λa o J z=>by have:=Qs J;rw[he,z,y]
 refine(e,cls,A,ai,σ,w,rfl,Qk i y,λz=>?_,λx c K z=>?_,B,D,λp l z=>?_,.inr (.inl ?_),q)
 ·rw[iA,n,Ť,k]
 ·obtain v|o|n|_:=π x c K;exact k _ _ n z
 ·exact k _ _ (ρ p l).1 z
 ·obtain L|M|T|N|O|P|Q|R|S|V|W|Y|Z|a9|r:=C.ex;refine(L,M,T,N,O,P,Q,R,S,V,W,Y,Z,a9,Qk i r.1,r.2.1,λhm=>?_);rw[sA,p,l,ep,Ľ,hm];have:=Qs (ρ p l).1;rw[he,ep,r.1]
theorem Inv.fly{e:aa}{cls:ae}{g:ď}(I:å)(C:ÑU)(he:ŵ<=e)(W:e≠ĺ)(Y:∀x c,Χ x=U c->c≠e)(hn:H e=af)(hp:∀p∈X.pn++ai,p.1≠e)
  (hx:T0 Ð e cls g\/Yk Ö9 Ð e cls g .none\/Yk Ö9 Ð e cls g ÑT) :
  X2 λ(B:aI) (M:aa->Prop)=>TY B Ř M Î Âs ĺ e cls g Ð/\(∀T,M T->NB ŵ H É2 T)/\∀h',Xj B ((Î::Âs).filterMap (·.frame)) h'->Inv X ai σ H { s with Ø:=h' }:=by
 have D:Ö8:=I.sz;obtain⟨ch,E,Z⟩:∃ch:À aa,(e∈ch/\∀T∈ch,T=e\/(NB ŵ H ((X.pn++ai).map (·.1)) T/\X2 λo h=>ì T=U o/\Ζ=.fields h)) /\
   (T0 Ð e cls g\/Yk Øa Ð e cls g .none\/Yk Øa Ð e cls g ÑT):=by
  rcases hx with x|x|x
  ·exact([e],(List.mem_singleton.mpr rfl,λT d=>.inl (Ý d)),.inl x)
  ·rw[oS];refine([e,T],Øb,.inr (.inl Øc));rw[57];rcases d with z|z
   ·exact .inl z
   ·rw[(z)];exact .inr (n,i,j,k,l)
  ·rw[oS];refine([e,T],Øb,.inr (.inr Øc));rw[57];rcases d with z|z
   ·exact .inl z
   ·rw[(z)];exact .inr (n,i,j,k,l)
 have gg:∀T∈ch,H T=af:=λT d=>by
  rcases E.2 T d with z|z
  ·rw[(z)];exact hn
  ·exact z.1.2.1
 have big:∀T,Ï<=T->NB ŵ H É2 T:=λT d=>by refine(Qk D d,ÃJ d,λq=>?_);rw[sA,p,Q,R,Ľ,q];have:=Qs (ρ p Q).1;rw[he,R,d]
 refine(hideAll Ð ch,λT=>NB ŵ H É2 T/\(hideAll Ð ch).get? T=af,((λb o f _=>of_hideAll _ f,λb o f=>(ÈL,of_hideAll _ f)),?_,hideAll_none _ E.1,λT d=>(big T d,Ôo #[ed,hideAll_size,d]),λT d=>d.2,Z),λT d=>d.1,λh' A=>?_)
 ·rw[<- C.1];exact I.stack
 ·refine I.call' (s':=#[hN,s,h']) (ch:=ch) rfl (λb o f _ S hc=>A.1 b o ÑV ?_,λb o f _ _ hc=>A.2 b o ÑV,λb o _ f _=>f,λb o f hc=>?_,λ_ _ z=>z,λ_ _ _ z=>z,λb ps z=>(#[],by rw[Array.append_empty];exact z)) ?_ Ι λb f=>?_
  ·rw[C.1]at S;exact S
  ·obtain sl|h2:=A.2 b o ÑV;exact(_,h2)
  ·intro a o r;refine(é a o r).stay (λc u hc hu=>A.1 c u (hideAll_get _ hu λq=>?_) λq=>?_) (λ_ z=>z) λ_ _ z=>z
   ·have:=gg c q;rcases hc with rfl|hc
    ·rw[yZ,r]
    ·rw[yZ,hc]
   ·have:H c=af:=Ði c #[ed,C.1,q];rcases hc with rfl|hc
    ·rw[yZ,r]
    ·rw[yZ,hc]
  ·rcases E.2 b f with rfl|⟨z,o,h,V,hd⟩
   ·exact(.inr he,W,Y,hp)
   ·refine(.inr z.1,λy=>?_,λx c hc y=>?_,λp Q y=>z.2.2 (ÖR (p,Q,y)))
    ·obtain m|⟨o',es,R,t,w,_⟩|_:=Ť;rw[<- y,V]at t;cases t;rw[hL,hd,w]
    ·obtain v|o'|t|w:=π x c hc;rw[eM,y,V,t];rw[hL,hd,w]
universe E
theorem Yk.mono{M N:Äu}{h:aI}{e:aa}{cls:ae}{a:ď}{b:ae}(x:Yk M h e cls a b)(k:∀T,M T->N T):Yk N h e cls a b:=by obtain c|d|T|f|g|i|j|l|m|n|o|p|q|r|s:=x.ex;exact(c,d,T,f,g,i,j,l,m,n,o,p,q,r,k T s)
section
variable {X:Cx} {E:St->XK} {k:Nat} {f:aa} {fd:bx} {ps:À ah} {sp:Sp} {t:TA}
theorem Kt{c:ċ}{b:St}{H:Hp}{s:aj}{Q:VK}{us:ê}{vs:Ą}(F:Ød)(hr:χ)(hb:Ì1)(hx:#[fj,d])
  (I:Inv X c b H s) (r:ZH vs us) (h:sp vs H Q (E b)):ô (ŧ ą us) (EP X c b Q) ç s:=by
 have g:Φ=Àu:=by rw[<- Áv];exact F.len _ _ _ _ h
 have i:ÆI s fd Éb ÆJ:=by have:=hb s us Ě #[ed,QX,g];rwa [QX]at this
 refine Ã2 (ÆL (F.run X.A Θ s H Éb us vs Q (E b) hr I.env0 i r h) λr s' a=>?_);cases r with
 | error e=>exact hx e s' (I.refused a)
 | ok j =>
  cases j with
  | ret u=>exact I.after a
  | next=>exact Â8
  | brk=>exact Â8
  | Λ=>exact Â8
def Ks(sp:Sp)(E:St->XK)(t:TA):TE:=λa H Q=>t a H λvs b=>sp vs b Q (E a)
universe E
section
variable {P:aw} {w:aF} {K:Å} {mg:ah->Ã ae} {Â:aI}
theorem XE.leaves{N:Ê}{d:ah}{g:bn}{f:aa}{i:ae}{A:aD}{Û:ÁS}{s:aj}{H:Hp}{E:XK}{j:ae}{s':aj}
  (h:XE #[ho,d,g,i] (λ_=>E) j s'):#[ho,d,g,i].xe j s':=by
 obtain e|cls|o|ai|σ|p|rfl|k|r|t|l|I|u|v|q:=h;obtain B|M|x|m|y:=I.fly ć k r t l u v;refine x.leaves ÆK rfl λz a b c=>?_;have J:=y z a;exact(e,cls,o,p,rfl,k,l,c.mono λT n=>((m T n).1,(m T n).2.1,by simp),J.os,J.bare,J.base,J.hok,q)
theorem Fun.ok1{x b:ah}{st:aL}{f:aa}{c:bx}{N ps:Ê}{k:Nat}{sp:Sp}(F:Fun K x b st f c)(S:Äb)(len:Ãa)
  (d:∀ (a:ae) (A:aD) (Û:À Env) (s:aj) (H:Hp) (vs:À V) (Q:VK) (E:XK),Zt k #[fr,b]->sp vs H Q E ->
   ∃t,PSs ((Û4).wish (XE Û4 (λ_=>E))) ÂB t/\t { nx:=Ãb,rt:=Q } Áy H):YU P w K mg Â (CX1 P w) (k+1) f c ps sp:=by
 rw[y7,fh,pm,an,a,g];refine Lv lk g S len λA Û s H vs Q E i j=>?_;obtain t|h|q:=d a A Û s H vs Q E i j;exact(t,h.wish λe s h=>XE.leaves h,q)
universe E
section
variable {M:Áq} {A:aD} {E:ae->aj->Prop} {h:aI} {g:ĉ Ä2} {d:Ä3} {t:Nat} {os:É3}
variable {nm q:ah} {C N:aa} {bs bm:À ae} {cB:Ñ} {sn:À ah} {sub:À ae} {ab:Ñ} {bQ:Ã Ñ} {dd:Ã aa} {k0 k1 k2 k3 k5:Ã ae} {bF:ĸ}
variable {gG q':ah} {C' N':aa} {E4 tQ:À ae} {vt:Ñ} {E5:À ah} {AA:À ae} {E6:Ñ} {AB:Ã Ñ} {iY:Ã aa} {E7 E8 E9 Fa Fb:Ã ae} {tj:ĸ}
theorem ZjU{e:aa}{a:aN}{b:Ñ}{Q:#[y2,Ñ]}(c:Þ C=U (Ài nm q C N bs bm cB sn sub ab bQ dd k0 k1 k2 k3 k5 bF))(hB:Þ C'=U (Ài gG q' C' N' E4 tQ vt E5 AA E6 AB iY E7 E8 E9 Fa Fb tj))
  (he:Þ e=U a) (i:a.cls=.ref C) (j:tQ.contains ÀA=true) (k:(è C::bm).contains (.ref C')=b) (hq:Q b θ):av M A (É4 Š (.ref C')) Q E θ:=by
 have l:#[im,C',tQ]:=by rw[QN,j,Qav]
 have f:=tc_notTuple;unfold É4;repeat (first|(with_reducible refine Τ he ?_;rw[i])|with_reducible refine Τ hB ?_|(with_reducible refine Ád hB ?_;rw[l])|(with_reducible refine Ád c ?_;rw[k])|wp_step)
 cases b<;>(wp_walk;exact hq)
universe E
section
variable {X:Cx} {E:St->XK} {k:Nat} {f C:aa} {fd:bx} {ps:À ah} {sp:Sp} {x:ah} {p pos:Pos} {e:aK} {es:À aK} {t:TA}
theorem XE.unwish{xe:ø}{a:ae}{s:aj}(h:XE (X.wish xe) E a s):XE X E a s:=by obtain e|cls|b|c|d|f|g|i|j|k|l|I|m|n|o:=h;exact(e,cls,b,c,d,f,g,i,j,k,l,I.unwish,m,n,o)
theorem ZpY(F:Ød)(hr:χ)(d:Ŕ)(hm:Ðj)(hk:Ðk)(hb:Ì1)(hx:#[fj,b])
  (ha:ε) (g:İ:=by decide) (he:Ν:=by rfl) (i:Áw:=by rfl) :
  PE X Ã3 (Ks sp E t):=by
 rw[g9,j,l,d,g];refine Qaf (h₀:=Ř) Ã4 hk (thn #[gd,j,l] λus s1 a=>?_) he i;obtain vs|H1|c|r|q:=a;exact(c.kIn,Kt F hr hb hx c r q)
universe E
abbrev Cx.pnd(X:Cx)(a:ċ):Cx:={ X with pn:=X.pn++a }
abbrev Cx.mkd(X:Cx)(e:aa):Cx:={ X with A:=X.A.mark (U (.ref e)),calm:=false,xe:=λ_ _=>Ē }
section
variable {X:Cx} {ai iS:À (aa×aN)} {σ:St} {H:Hp} {s:aj}
theorem Cx.Ok.pnd(ok:X.Ok)(ai:ċ):(ÑW).Ok :=
 ËF
theorem Cx.Ok.unpnd{ai:ċ}(ok:(ÑW).Ok):X.Ok :=
 ËF
theorem Inv.pnd(I:å):Inv ÑW [] σ H s:=(I.ok.pnd ai,I.os,Ι,Ä4,Ť,π,Ψ,Às,λp hp=>ρ p #[ea,hp],é,Àr)
theorem Inv.unpnd(I:Inv ÑW iS σ H s):Inv X ai σ H s:=(I.ok.unpnd,I.os,Ι,Ä4,Ť,π,Ψ,Às,λp hp=>ρ p (Q0 _ hp),é,Àr)
theorem SP.unpnd{D:XU}{f:Flow}{s':aj}(h:SP ÑW iS D f s'):SP X ai D f s':=by
 cases f with
 | next=>obtain a|b|I|q:=h;exact ÑX
 | brk=>obtain a|b|I|q:=h;exact ÑX
 | Λ=>obtain a|b|I|q:=h;exact ÑX
 | ret u=>obtain v|a|b|I|r|q:=h;exact(v,a,b,I.unpnd,r,q)
theorem Inv.mkd(I:å)(e:aa):Inv (Åz e) ai σ H s :=
 ((Ët,Áp,ÐV,I.ok.blt,ÈG,I.ok.inj,ËC,I.ok.cab,#[y9,h],ÆK,I.ok.stk,I.ok.exf,I.ok.bs,ÈI,Æo,Ïv,I.ok.funs,I.ok.frf),I.os,Ι,Ä4,Ť,π,Ψ,Às,ρ,é,Àr)
theorem Inv.unmkd{e:aa}(I:Inv (Åz e) ai σ H s)(ok:X.Ok):Inv X ai σ H s:=(ok,I.os,Ι,Ä4,Ť,π,Ψ,Às,ρ,é,Àr)
universe E
def WO(K:Å)(C:aa)(a:ê):Prop:=X16 λ(nm q:ah) (N:aa) (bs:À ae) (b:Ñ) (c:À ah) (sub:À ae) (d:Ñ) (e:Ã Ñ) (f:Ã aa) (g h i j k:Ã ae) (l:ĸ) =>
 ı C=U (Ài nm q C N bs a b c sub d e f g h i j k l)
open Builtin Builtin.ObjectAttr
section
variable {ÿ:aw} {w:aF} {A:aD} {E:ae->aj->Prop} {h:aI} {g:ĉ Ä2} {d:Ä3} {t:Nat} {os:É3} {K:Å}
variable {nm q:ah} {C N x:aa} {bs bm:À ae} {sn:À ah} {sub:À ae} {ab:Ñ} {bQ:Ã Ñ} {dd:Ã aa} {k0 k1 k2 k3 k5:Ã ae} {bF:ĸ}
 {mA:Ă} {name:ah} {v:ae}
theorem Zmz{tk:Tok}{Q:#[y2,Fin]}{ns:Ê}(X:Ŵ h)(hm:Øe)
  (T:Øf) (ha:Ï1) (Fd:x≠C) (I:h.Inst x C mA)
  (hq:∀h' V,h'.Inst x C Ï5 ->
   (∀b o,b≠x->Øg->Þ b=U o->Ā b=U o) ->
   (∀a,Þ x=U a->∃j,Ā x=U j/\j.cls=a.cls/\j.data=a.data/\j.slots=Ës/\(∀dx,É5=U dx->j.dict=U dx)/\(É5=af->j.dict=U ń))->Q (.done (.ret .none)) #[gv,h',V]) (hw:Within mA ns) (hsz:ËO) :
  av à A (be.«object.__setattr__» ([.ref x,.str name tk,v],[])) Q E θ:=by
 obtain o|i|p|r|hd:=I;have W:=hm Án;have L:=QaB (M:=aA ÿ w) X ha;unfold be.«object.__setattr__»;repeat (first|rw[refuse_eq]|(rw[refuseLoop_ref,W])|(with_reducible refine Τ i ?_;rw[p])|with_reducible refine wpAny_mroOf_exc T ?_|(with_reducible refine am (L.at ?_))|wp_step)
 rcases hd with⟨P,s⟩|⟨dx,m,u,Y⟩
 ·
  rw[P,Æ (by simp[typeHasDict])];split
  ·rename_i z;cases z
  split
  ·rename_i c z;exact Ç z (r c)
  ·have R:(Û0).get? x=U o:=Qc _ i;have B:x≠ń:=QB (Qs i);rw[sf,wpAny_alloc'];refine am (wpAny_update' R ?_);refine aB ?_;have D:#[da].get? ń
     = U { cls:=.type "dict",Ò:=.dict #[] } :=
    (Qa5 _ _ _ _ Çk).trans (Øh rfl rfl)
   have Z:#[da].Ns ń (λ_=>af) :=
    (_,#[],_,D,rfl,λe he=>Ç he Ó,λ_=>rfl)
   show av _ _ (Ì2 ń (.str name tk) name v) _ _ _;unfold Ì2 newKeyGuard;refine am (aB (am (Ï7 (ÔX Z) λh' l k=>?_)));obtain oD|EG|EH|F|G|H:=l.count (Within.cons name v Within.nil);refine am (Ï8 F (by rw[G];exact Ï9 (Qk H (by rw[Qq,Æ3,aP];lia))) ?_)
   wp_walk
   have S:Ā x=U { cls:=ÃM,Ξ:=U ń,Ò:=Ζ,Áo:=ÈL }:=?_;refine hq h' _ ({ cls:=ÃM,Ξ:=U ń,Ò:=Ζ,Áo:=ÈL },S,p,r,.inr (ń,rfl,Çk,?_)) (λb ob J _ n=>?_)
    (λa f=>by obtain rfl:o=a:=Qu (i.symm.trans f);exact(_,S,rfl,rfl,rfl,λdx e=>(by rw[P]at e;cases e),λ_=>rfl))
   ·obtain o'|es|ep|e1|e2|e3|eu|e4:=l;exact(o',es,ep,e1,e2,e3,eu,λy=>by rw[e4 y];by_cases hy:y=name<;>simp[hy,s])
   ·exact(k.2 b (QB (Qs n))).trans ((Qa5 _ _ _ _ J).trans (Qc _ n))
   ·refine(k.2 x B).trans (QZ _ R ?_);have eV:=(aI.get?_some_iff.mp i).2;obtain oc|od|O|mN:=o;cases O<;>first|rfl|exact eV
 ·
  rw[m];refine aB ?_;show av _ _ (Ì2 dx (.str name tk) name v) _ _ _;unfold Ì2 newKeyGuard;refine am (aB (am (Ï7 Y λh' l k=>?_)));obtain oD|EG|EH|F|G|H:=l.count (Within.cons name v hw);refine am (Ï8 F (by rw[G];exact Ï9 (Qk H #[fe,Qq])) ?_)
  wp_walk
  refine hq h' _ (o,(k.2 x u.symm).trans i,p,r,.inr (dx,m,u,l)) (λb ob _ yy n=>?_)
   (λa f=>(a,(k.2 x u.symm).trans f,rfl,rfl,rfl,λ_ e=>e,λe=>by obtain rfl:o=a:=Qu (i.symm.trans f);rw[m]at e;cases e))
  exact(k.2 b (yy o dx i m)).trans n
theorem Kq{Q:ÁT}{ns:Ê}(X:Ŵ h)(hm:Øe)(m:ÑY Ì3=true)
  (j:Øf) (hs:#[ge,æ]) (ha:Ï1) (n:x≠C) (I:h.Inst x C mA)
  (hq:∀h' i,h'.Inst x C Ï5 ->
   (∀b o,b≠x->Øg->Þ b=U o->Ā b=U o) ->
   (∀a,Þ x=U a->∃c,Ā x=U c/\c.cls=a.cls/\c.data=a.data/\c.slots=Ës/\(∀dx,É5=U dx->c.dict=U dx)/\(É5=af->c.dict=U ń))->Q () #[gv,h',i]) (hw:Within mA ns) (hsz:ËO) :
  av à A (ÈZ Án name v) Q E θ:=by
 have f:=PySem.F.store_object;obtain o|p|r|yx|hd:=id I;have l:PySem.W.Looks à h (typeOf Án) æ:=r ▸ (PySem.W.Looks.ld p).andThen .now;refine am (wpAny_mkText (am (am (am (l _ _ _ _ ËA (QaB X hs _ _ _ _ ËA (ba ?_)))))));rw[PySem.F.store_object.slot.bind];have s:(è C::bm).contains Ì3=true:=by rw[QN,m,Qav]
 refine am (aB (am (Ã2 (Øi f.slot.plain f.entry (@PySem.W.check_slot à _ _ (h,g,d,t+1,os) "object.__setattr__" "object" "__setattr__" Án [.str name t,v] [] _ f.kind f.split (l.andThen ?_) (f.args Án (.str name t) v) (Zmz X hm j ha n I (λh' i u z B=>aB (aB (hq h' i u z B))) hw hsz))))));intro A' Q' E' D k F;obtain h2|g2|d2|t2|os2:=D;refine Ád (k _ _ j) ?_;rw[s];exact F
universe E
abbrev Ys:À ae:=[.type "ValueError",.type "Exception",.type "BaseException",.type "object"]
structure XC (K:Å) (C B:aa):Prop where
 obj:X15 λ(nm q:ah) (N:aa) (bs:À ae) (sn:À ah) (sub:À ae) (ab:Ñ) (bQ:Ã Ñ) (dd:Ã aa) (k0 k1 k2 k3 k5:Ã ae) (bF:ĸ) =>
  ı C=U (Ài nm q C N bs É6 true sn sub ab bQ dd k0 k1 k2 k3 k5 bF)
 sa:Ĳ K æ "__setattr__" = U È3
theorem XC.cls{K:Å}{C B:aa}(c:XC K C B):WO K C É6:=by obtain a|q|N|bs|b|sub|d|e|f|g|i|j|k|l|m|h:=c.obj;exact(a,q,N,bs,true,b,sub,d,e,f,g,i,j,k,l,m,h)
abbrev exN(e C:aa)(a:ď):HO:=.ext λh=>∃T,Þ e=U { cls:=.ref C,Ξ:=a,Ò:=.fields Âb }
abbrev xdO(dx:aa)(fs:À ÁX):HO:=.ext λh=>∃mA,h.Ns1 dx mA/\#[zf,mA]/\Èz mA Ëp
section
variable {X:Cx} {ai:À (aa×aN)} {σ:St} {H:Hp} {s:aj} {A:aD} {E:ae->aj->Prop} {C B e dx:aa} {f:ah} {fs:À (ah×V)}
theorem Kp(B:aa)(self:ae):refuseLoop self "__setattr__" É6=pure ():=by rw[refuseLoop_ref];exact PySem.F.store_ValueError.passes self
theorem SD{P:aw}{w:aF}{H:Hp}{h:aI}{a:ď}{T:aa}(he:Þ e=U { cls:=.ref C,Ξ:=a,Ò:=.fields Âb }):Y2 P w H h e (exN e C a) :=
 ((T,he),(_,he),λh1 h2 z k=>by obtain b|z:=z;exact(b,k _ z))
theorem Ko{P:aw}{w:aF}{H:Hp}{h:aI}{mA:Ă}(hn:h.Ns1 dx mA)(r:∀f,Yi Ïk (mA f))(a:Èz mA Ëp):Y2 P w H h dx (xdO dx fs) :=
 ((mA,hn,r,a),let ⟨o,_,_,b,_⟩:=hn;(o,b),λh1 h2 z k=>by obtain m|c|d:=z;exact(m,c.at λo q=>k o q,d))
theorem Zvr{y:V}{u:ae}{Q:ÁT}(I:å)(c:XC X.K C B)(n:ÆF)(he:H e=U Çl)(J:ZJ y u)
  (h:∀dx s',H dx=af->dx≠e->Inv X ai σ (upd #[iM,H,dx] dx (xdO dx [(f,y,)])) s'->Q () s'):av Ģ A (ÈZ Š f u) Q E s:=by
 obtain nm|q|N|bs|sn|sub|ab|bQ|dd|k0|k1|k2|k3|k5|bF|K:=c.obj;rw[uH];have v:=Ě _ _ K;have L:e≠C:=λz=>by subst z;have:=v.symm.trans j;cases this
 rw[hm,i,t,s];refine Kq (mA:=λ_=>af) (ns:=[]) Ě (Kp B) rfl v c.sa n L (_,j,rfl,Çm,.inl (rfl,λ_=>rfl)) (λh' p M O P=>?_) (λy R=>Ç rfl R) (Qt _);obtain S|r|w|D|F|_|W:=P _ j;obtain cl|di|da|sl:=S;have G:=W rfl;dsimp only at w D F G r;subst w D F G;have Y:H Ão=af:=ÐE;have Z:e<Ão:=Qs j;have ne:Ão≠e:=Q2 Z;obtain o2|e2|_|_|hd:=M;obtain rfl:_=o2:=Qu (r.symm.trans e2);obtain(⟨tR,_⟩|⟨dx,ko,_,eR⟩):=hd
 ·cases tR
 cases ko;refine h Ão _ Y ne ?_;have I1:Inv X ai σ #[iM,H,Ão] (i.update e λo=>{ o with Ξ:=U Ão },g,d,p,os):=by have m:Øj:=QZ _ j rfl;exact Åg (x:=e) (e:=e) (t':=p) #[sR,he] Ď (λb u k q=>(Qa5 _ _ _ _ k).trans q) (_,m) (SD m)
 have m:Øj:=QZ _ j rfl;refine I1.laid (a:=Ão) (h':=h') (t':=p) #[iw,b,u,q] (È6 (aI.size_update _ _ _)) (Ko eR (λl=>?_) λl hg=>?_)
 ·by_cases k:b=e
  ·rw[hs,k,m,q];exact r
  ·exact O b u k (λcK dx a b'=>by rw[j]at a;cases a;cases b') ((Qa5 _ _ _ _ k).symm.trans q)
 ·show Yi (À5 l [(f,y,)]) (if l=f then U u else af);by_cases z:l=f
  ·subst z;rw[p8];simp only[À5,ÕI];exact J
  ·rw[Æ z];simp only[À5,Èx z];exact Μ
 ·by_cases z:l=f
  ·subst z;simp
  ·exact Ç (Æ z) hg
theorem Zv1{y:V}{u:ae}{Q:ÁT}(I:å)(c:XC X.K C B)(n:ÆF)(he:H e=U (exN e C (U dx)))(l:H dx=U (xdO dx fs))(K:dx≠e)(hl:ÃH<1000)(L:ZJ y u)
  (h:∀s',Inv X ai σ (upd H dx (xdO dx Ðb)) s'->Q () s'):av Ģ A (ÈZ Š f u) Q E s:=by
 obtain nm|q|N|bs|sn|sub|ab|bQ|dd|k0|k1|k2|k3|k5|bF|M:=c.obj;rw[uH];obtain ⟨mA,O,r,m⟩|_|_:=é dx _ l;have p:=Ě _ _ M;have P:e≠C:=λz=>by subst z;have:=p.symm.trans j;cases this
 rw[hm,R,t,s];refine Kq (mA:=mA) (ns:=fs.map ù) Ě (Kp B) rfl p c.sa n P (_,j,rfl,Çm,.inr (dx,rfl,K,O)) (λh' S W Y Z=>?_) m #[sg,Qa,aP];obtain o1|k|v|w|D|dn|_:=Z _ j;obtain cl|di|da|sl:=o1;have F:=dn dx rfl;dsimp only at v w D F k;subst v w D F;obtain o2|e2|_|_|hd:=W;obtain rfl:_=o2:=Qu (k.symm.trans e2);obtain(⟨tR,_⟩|⟨uV,Fe,_,G⟩):=hd
 ·cases tR
 cases Fe;refine h _ (Åg (x:=dx) (e:=dx) (h':=h') (t':=S) #[sR,l] Ď (λb u hb q=>?_) (let ⟨o,_,_,e',_⟩:=G;(o,e')) (Ko G (λi=>?_) λi hg=>?_))
 ·by_cases J:b=e
  ·subst J;rw[show R.get? b=_ from j]at q;cases q;exact k
  ·exact Y b u J (λcK uV a b'=>by rw[j]at a;cases a;cases b';exact hb) q
 ·show Yi ((Ðb).lookup i) (if i=f then U u else mA i);rw[Zr];by_cases q:i=f
  ·rw[rK,q,q];exact L
  ·rw[iu,q,q];exact r i
 ·by_cases q:i=f
  ·rw[q];exact#[yl].1
  ·refine#[yl].2 i (m i λz=>hg ?_);show (if i=f then U u else mA i)=af;rw[Æ q];exact z
universe E
def sX0(K:Å)(C B:aa)(c d:TE)(f:ah):TS:=λD a H=>d a H λy g=>c a g λx b=>∃e,x=.ref e/\b e=U Çl/\∀dx,b dx=af->dx≠e->Č a (upd #[iM,b,dx] dx (xdO dx [(f,y,)]))
def sX1(K:Å)(C B:aa)(c d:TE)(f:ah):TS:=λD a H=>d a H λy g=>c a g λx b=>X3 λe dx fs=>x=.ref e/\b e=U (exN e C (U dx))/\b dx=U (xdO dx fs)/\dx≠e/\ÃH<1000/\Č a (upd b dx (xdO dx Ðb))
section
variable {X:Cx} {C B:aa} {f:ah} {o ς:aK} {ta tv:TE} {pos cZ:Pos}
theorem Kn(c:XC X.K C B)(n:ÆF)(ha:Â7)(d:ËS)(hs:Ðd):PS X Ðe (sX0 X.K C B ta tv f):=by intro a s b H D I h;refine Ðf #[fM,d,a,l] hs;rintro m s2 ⟨x,H2,p,r,e,ex,t,q⟩;subst ex;obtain rfl:m=è e:=r;exact Zvr p c n t k λv s' hd ne w=>(_,_,w,q v hd ne)
theorem Zvi(c:XC X.K C B)(n:ÆF)(ha:Â7)(d:ËS)(hs:Ðd):PS X Ðe (sX1 X.K C B ta tv f):=by intro a s b H D I h;refine Ðf #[fM,d,a,l] hs;rintro m s2 ⟨x,H2,p,r,e,dx,fs,ex,t,hd,ne,v,q⟩;subst ex;obtain rfl:m=è e:=r;exact Zv1 p c n t hd ne v k λs' w=>(_,_,w,q)
universe E
abbrev FV:ExcBaseFacts "ValueError" "ValueError.__new__" "ValueError.__init__" Ys:=PySem.F.excBase_ValueError
section
variable {ÿ:aw} {w:aF} {A:aD} {E:ae->aj->Prop} {h:aI} {g:ĉ Ä2} {d:Ä3} {t:Nat} {os:É3} {K:Å}
variable {nm q:ah} {C N B:aa} {bs:À ae} {cB:Ñ} {sn:À ah} {sub:À ae} {ab:Ñ} {bQ:Ã Ñ} {dd:Ã aa} {k0 k1 k2 k3 k5:Ã ae}
theorem mvV(C B:aa):(è C::.ref B::Ys).contains Âc=true:=by rw[QN,QN,FV.hasB];simp
theorem Km{M:Áq}{Ć:ê}{Q:ÁT}(a:ÅA)(hq:Q () θ):av M A (ÉR "ValueError.__new__" (.ref C::Ć,[])) Q E θ:=by
 have b:=mvV C B;have hstar:=FV.noStar;simp only[ÉR,FV.newKind,FV.newSplit,FV.newRow];repeat (first|refine Τ a ?_|(refine Ád a ?_;rw[b])|refine wpAny_staticBase_exc a ?_|refine ÑZ a ?_|simp only[bne_self_eq_false,Éy,Åj]|wp_step)
 exact hq
theorem Kl{b c j:ĸ}{a k:ê}(F:ExcBaseFacts b c j k)(l:Ñ0 (.type b)=true)(m:Ñ0 Øk=false)(n:Ñ0 (.type "NameError")=false){R:È0}{Ć:ê}(e:Þ C=U (Ài nm q C N bs a cB sn sub ab bQ dd k0 k1 k2 k3 k5 c))
  (hq:R (.ok (.ret Çn)) ⟨(Æ8 { cls:=Äi,Ò:=.seq rest.toArray }).push
   { cls:=.ref C,Ò:=.fields Ñ1 },g,d,t,os⟩) (jS:Ñ2) :
  bI à A (.builtin c (.ref C::Ć,[])) R θ:=by
 have hends:=F.ends;have o:#[oG].contains (.type b)=true:=by rw[QN,l,Qav]
 have f:#[oG].contains Øk=false:=by rw[QN,m];rfl
 have i:#[oG].contains (.type "NameError")=false:=by rw[QN,n];rfl
 refine codeAny_builtinAt F.entry ?_;unfold be.«BaseException.__new__»;refine Øl ?_;show PySem.wpAt _ _ _ (stack >>= _) _ _ _;refine Øl (PySem.wpAt_stack λp below=>Øm ?_)
 wp_walk
 refine Øm ?_;rw[F.owner];repeat (first|with_reducible refine wpAny_madeHere_exc F.canon e ?_|with_reducible refine Τ e ?_|(with_reducible refine Ád e ?_;first|rw[o]|rw[f]|rw[i])|wp_step)
 show R _ _;rw[Q3];exact hq
theorem Zmp{Ć:ê}{e:aa}{Q:#[y2,Fin]}(X:Ŵ h)(a:ÅA)(hi:#[fk,æ,Š])(m:Åe K Š=true)
  (hq:∀h' T,Ì4->Ā Ãp=U { cls:=.ref C,Ò:=.fields Âb }->av à A (ŧ Š (.ref Ãp::Ć)) (λr s'=>r=.none/\Q (.done (.ret Çn)) s') E #[gv,h',t]) (n:Ñ2) :
  av à A (be.«type.__call__» (.ref C::Ć,[])) Q E θ:=by
 repeat (first|with_reducible refine Τ a ?_|with_reducible refine ÑZ a ?_|wp_step)
 refine Øn Øo (Km a ?_);refine Kl FV Øp #[sh,QN,FV.noAttr] #[sh,QN,FV.noName] a ?_ n;show av _ _ _ _ _ _;generalize j:Æ8 { cls:=.type "tuple",Ò:=.seq rest.toArray }=f;have p:Äv=ń+1:=by rw[<- j];exact Q3 _ _
 have k1:#[so,f.get?]:=λb o i=>by rw[<- j];exact Qc _ i
 generalize k:f.push { cls:=.ref C,Ò:=.fields #[.ref ń,.none,.none,.none,.bool false,.none] }=c;have k2:#[so,c.get?]:=λb o i=>by rw[<- k];exact Qc _ (k1 b o i)
 have l:c.get? Ãp=U { cls:=.ref C,Ò:=.fields Ñ1 }:=by rw[<- k,<- p];exact Øq
 have s:=k2 _ _ a;have X2:Ŵ c:=X.keeps k2;have u:Ør:=by simp
 unfold Ñd;repeat (first|with_reducible refine Τ l ?_|(with_reducible refine Ád s ?_;rw[u])|wp_step)
 rw[lo];refine ba (am ?_);refine(ÔU X2 Çn (Ï3 m)).at ?_;refine am (aX (hq c ń k2 l) #[iw,r,s',v] λ_ _ x=>x);obtain rfl|y:=v
 wp_walk
 exact y
theorem Zvk{Ć:ê}{c:aa}{Q:ø}(X:Ŵ h)(a:ÅA)(hi:Ĳ K æ "__init__" = U #[sp,c])(e:Åe K ÅB=true)
  (hq:∀h' T,Ì4->Ā Ãp=U { cls:=.ref C,Ò:=.fields Âb }->av à (È1 (.builtin "type.__call__" (.ref C::Ć,[]))) (ŧ ÅB (.ref Ãp::Ć)) (λr s'=>r=.none/\Q Çn s') E #[gv,h',t]) (f:Ñ2) :
  av à A (ŧ æ Ć) Q E θ:=by
 rw[78];repeat (any_goals (first|assumption|with_reducible refine Τ a ?_|wp_step))
 refine(rfl,Ñy Øs entry_typeCall (Øt a (Zmp X a hi e (λh' T k i=>hq h' T k i) f)))
theorem Zk4{M:Áq}{e:aa}{c:aN}{Ć:ê}{Q:ÁT}(f:ÅA)(he:Þ e=U c)(i:c.cls=.ref C)(hq:Q () θ) :
  av M A (ÉR "ValueError.__init__" (.ref e::Ć,[])) Q E θ:=by
 have j:=mvV C B;have hshort:=FV.noStar;simp only[ÉR,FV.initKind,FV.initSplit,FV.initRow];repeat (first|(with_reducible refine Τ he ?_;rw[i])|with_reducible refine Τ f ?_|(with_reducible refine Ád f ?_;rw[j])|wp_step)
 refine Ñ3 ?_;rw[show ∀ (a b:ĸ) (n:Nat),Bind.check (.positional, "*", "ValueError",.self,[("args",.varPos,false)]) a b n (Ì5 (λx=>x.fst) ({ pos:=è e::Ć }:Args).kw)=pure () from
  λa b n=>check_star_args _ _ _ _ _ _]
 exact aB hq
theorem Kk{e T:aa}{u:ae}{c:ď}{Q:ø}(f:ÅA)(he:Þ e=U { cls:=.ref C,Ξ:=c,Ò:=.fields Âb })
  (i:∀a,(∀b o,b≠e->Þ b=U o->Ã9 b=U o)->(∃j,Ã9 e=U { cls:=.ref C,Ξ:=c,Ò:=.fields #[.ref j,.none,.none,.none,.bool false,.none] })->Q .none #[gv,a,t]) :
  av à A (ŧ Äw [.ref e,u]) Q E θ:=by
 refine Ã2 (Øi FV.init.plain FV.initEntry (Zk4 f he rfl ?_))
 wp_walk
 refine i _ (λb o k l=>?_) (ń,?_)
 ·rw[QW _ _ (Κ k)];exact Qc _ l
 ·rw[QZ _ (Qc _ he) rfl];rfl
universe E
abbrev TJ:=ah->St->Hp->VK->Prop
def PJ(X:Cx)(c:į)(t:TJ):Prop :=
 ∀ (b:À (aa×aN)) (s:aj) (a:St) (H:Hp) (out:ah) (Q:VK),Inv X b a H s->t out a H Q->ô (joinParts out (evalEach c Î)) (EP X b a Q) ç s
def ZwU:TJ:=λout _ H Q=>out.length<=aq/\Q (.str out) H
def Zv2(b:TE)(t:TJ):TJ:=λout a H Q=>b a H λv c=>∃y,v=.str y/\(out++y).length<=aq/\t (out++y) a c Q
def ZvT(a:TE):TE:=λb H Q=>a b H λv c=>∃i:Int,v=.int i/\i.natAbs.log2<1920/\Q (.str Ì6) c
section
variable {X:Cx} {e e1 e2:aK} {es:À aK} {te:TE} {t:TJ} {pos:Pos}
theorem UP:PJ X [] ZwU:=λ_ _ _ H out _ I h=>joinParts_nil #[gp,out,h.2] h.1
theorem XX(he:Ä9)(hr:PJ X es t):PJ X (e::es) (Zv2 te t):=by intro b s c H out Q I h;refine joinParts_cons #[zl,b,c,d];obtain v|f|g|r|y|rfl|i|q:=a;obtain tk|rfl:=#[eD,tk,Ám,y,r];exact(i,hr b d c f _ Q g q)
theorem VS(h:PJ X (e1::e2::es) t):PE X (.JoinedStr (e1::e2::es) pos) (t ÁY):=λa s b H Q I q=>JoinedStr_many (h a s b H _ Q I q)
theorem TX(he:Ä9):PE X Øu (ZvT te):=by intro b s c H Q I h;refine Øv #[zl,b,c,s1];obtain v|d|f|r|i|rfl|g|q:=a;obtain tk|rfl:=#[eD,tk,ÂY,i,r];exact formatField_int_small g (.str Ì6,d,f.tok _,ü,q)
universe E
structure XB (K:Å) (B:aa):Prop where
 sp:È4 K (.ref B) "__getattribute__" = U Øw
 rd:Øx K B É7=true
 fi:Øy K (.ref B) É7 "__init__" = U (.val Äw)
def tXI(C:aa)(t:TA):TE:=λb H Q=>t b H λvs a=>X3 λe x c=>vs=[.ref e,.str x]/\a e=U (exN e C c)/\Q .non a
structure XM (K:Å) (C B f:aa):Prop where
 obj:X14 λ(nm q:ah) (N:aa) (bs:À ae) (sn:À ah) (sub:À ae) (ab:Ñ) (bQ:Ã Ñ) (dd:Ã aa) (k0 k1 k2 k3 k5:Ã ae) =>
  ı C=U Øz
 init:Ĳ K æ "__init__" = U δ
 fn:Åe K ą=true
 kp:À6 K æ=true
 sa:Ĳ K æ "__setattr__" = U È3
theorem XM.xc{K:Å}{C B f:aa}(c:XM K C B f):XC K C B:=by obtain a|q|N|bs|b|sub|d|e|g|i|j|k|l|m|h:=c.obj;exact((a,q,N,bs,b,sub,d,e,g,i,j,k,l,m,_,h),c.sa)
section
variable {X:Cx} {C B f:aa} {x:ah} {p bu pos bq:Pos} {e:aK} {es:À aK} {t:TA}
theorem Kj{pl:Sem Ñ}(c:XM X.K C B f)(b:XB X.K B)(D:Ŕ)(hm:ę x=U (.ref B))(ha:ε)(E:İ:=by decide)
  (F:Ν:=by rfl) (G:Áw:=by rfl)
  (J:ă ØA Î=(do
   let v <- ă (.Name x p) Î
   ÃK ÆN
   let (f,first) <- ÁU [v] (ÃS v "__init__" pl)
   ÆO pos f first (bg pos ÆP) ÆQ):=by rfl) :
  PE X ØA (tXI C t):=by
 rw[eR,K,L,Q];refine QaO (pl:=pl) (WX I D hm ?_ E) J;refine PySem.W.method_cls Ě b.sp (PySem.W.cls_value Ě b.rd b.fi rfl ?_);refine Õm (thn (ha pos K _ L H _ Åf h) λus M a=>?_) F G;obtain vs|l|m|r|i|y|w|rfl|n|q:=a;obtain nm|q'|N|bs|sn|sub|ab|bQ|dq|k0|k1|k2|k3|k5|O:=c.obj;obtain ⟨T,P⟩|_|_:=m.hok i _ n;cases r with
 | Ë R r =>
  cases r with
  | Ë r2 r =>
   cases r;obtain rfl:=R;rw[hm,hh,tk,M];refine Kk (m.kIn _ _ O) P λh' k j=>?_;rw[el,T',j,j];have A:=m.write (x:=i) (e:=i) (o:=exN i C w) (h':=h') (t':=tk) #[sR,n] Ď (λb u S z=>k b u S z) (_,j) (SD j);have V:upd l i (exN i C w)=l:=by
    funext b;by_cases z:b=i
    ·rw[z,Zb,n]
    ·rw[Zf z]
   rw[V]at A;exact(.non,l,A,rfl,q)
universe E
section
variable {X:Cx} {ai:À (aa×aN)} {σ:St} {H:Hp} {s:aj}
theorem Inv.untrack{e:aa}{f:aI->Prop}(I:å)(hx:H e=U (.ext f)):Inv X ai σ (off e H) s:=by
 have nn:∀ {b:aa},H b=af->off e H b=af:=λh=>Zp0 h;have ne:∀ {b:aa} {o:HO},H b=U o->o≠.ext f->b≠e:=λh n z=>by rw[z,hx]at h;cases h;exact n rfl
 refine(Ω,I.os,Ι,(ÈF,ÈH,λb o d n x=>nn (Æp b o d n x),ÑG,λb g h=>?_,λb o u h=>?_,λb i h=>?_),Ť,π,nn Ψ,λx c j=>nn (Às x c j),λp k=>?_,λa u l=>?_,Àr)
 ·have:=Ëv b g h;exact Vq this Ñ4
 ·have:=ÈJ b o u h;exact Vq this Ñ4
 ·obtain Ŋ|this:=Ëx b i h;exact(Ŋ,Vq this Ñ4)
 ·obtain m|r|t:=ρ p k;exact(m,nn r,t)
 ·exact(é a u (Zuf a u l)).stay (λ_ _ _ q=>q) (λb d=>Vq d (ne d ÁC)) λb g d=>Vq d (ne d ÁC)
universe E
section
variable {M:Áq} {A:aD} {E:ae->aj->Prop} {env:Env}
theorem Ki{s:aj}{x:Sem ae}{Q:#[y2,Flow]}(w:Â9)
  (h:av M A x (λv a=>∃ (e C T:aa) (c:Ã aa) (nm q:ah) (N:aa) (bs b:À ae) (f:Ñ) (i:À ah) (sub:À ae) (j:Ñ) (k:Ã Ñ) (l:Ã aa) (m n o p r:Ã ae) (t:ĸ),
   v=.ref e/\a.heap.get? C=U (Ài nm q C N bs b f i sub j k l m n o p r t)/\b.contains ÀA=true/\a.heap.get? e=U { cls:=.ref C,Ξ:=c,Ò:=.fields Âb }/\E Š a) E s) :
  av M A (raiseStmt env (U x) af) Q E s:=by
 unfold raiseStmt;refine am (aX h #[iw,v,a,y] λ_ _ x=>x);obtain e|C|T|c|nm|q|N|bs|b|f|i|sub|j|k|l|m|n|o|p|r|t|rfl|u|z|B|D:=y;rw[hm,hp,tk,a];have F:#[im,C,b]:=by rw[QN,z,Qav]
 repeat (first|with_reducible refine Τ B ?_|with_reducible refine Τ u ?_|(with_reducible refine Ád u ?_;rw[F])|wp_step)
 exact wpAny_raiseNew_none w D
universe E
def Kh(C:aa)(sp:Sp)(E:St->XK)(t:TA):TS:=λ_ a H=>t a H λvs b=>∀e,b e=af ->
 sp (.ref e::vs) (upd b e Çl) (λv c=>v=.non/\∃d,c e=U (exN e C d)/\E a æ d (off e c)) λ_ _ _=>Ē
section
variable {X:Cx} {E:St->XK} {k:Nat} {f C B:aa} {fd:bx} {ps:À ah} {sp:Sp} {x:ah} {p pos bq:Pos} {e:aK} {es:À aK} {t:TA}
theorem Zvh{m:ċ}{n:St}{H:Hp}{s:aj}{us:ê}{vs:Ą}{Q:Hp->Ã aa->aa->Prop}(M:XM X.K C B f)(F:ØB)(hr:Éc)(hb:Ì1)(mV:Ñ5)
  (I:Inv X m n H s) (r:ZH vs us) (h:∀e,H e=af->sp (.ref e::vs) (upd H e Çl) (λv i=>v=.non/\∃c,i e=U (exN e C c)/\Q i c e) λ_ _ _=>Ē) :
  ô (ŧ æ us) (λu s'=>X3 λe c i=>u=.ref e/\Ï<=e/\Inv X m n i s'/\i e=U (exN e C c)/\Q i c e) ç s:=by
 have p:=h Α Ðn;obtain nm|q'|N|bs|sn|sub|ab|bQ|dq|k0|k1|k2|k3|k5|x:=M.obj;have q:ZH (õ Α::vs) Õg:=.cons rfl r;have t:(Õg).length=Àu:=by have e:=q.length;rw[F.len _ _ _ _ p]at e;exact Ä5
 rw[hm,j,tk,s];refine Zvk Ě (Ě _ _ x) M.init M.fn (λh' T y A=>?_) (by rw[Qq]at t;rw[aP];lia);have o:Inv X m n (upd H É8 (exN É8 C af)) #[gv,h',tk]:=À7 (a:=j.objs.size+1) (h':=h') (t':=tk) (λb u z=>y b u z) (Qac _) (SD A);have w:=hb _ (è É8::us) o.kIn #[ed,QX,t];rw[QX]at w;refine Ã2 (ÆL (F.run _ Θ _ _ (è É8::us,[]) (è É8::us) _ _ Ìc (hr.make C us [])
  (o.env0.make C us []) w q p) λr s' l=>?_)
 cases r with
 | error e=>exact Ì7
 | ok D =>
  cases D with
  | ret u=>obtain v|E|G|J|K|c|L|O:=o.after l;subst K;exact(J,_,c,E,rfl,Qac _,G,L,O)
  | next=>exact Ì7
  | brk=>exact Ì7
  | Λ=>exact Ì7
theorem Zpe(M:XM X.K C B f)(F:ØB)(hr:Éc)(hg:Ŕ)(hm:Ë0)(hb:Ì1)(mV:Ñ5)(hx:#[fj,Z])
  (ha:ε) (cx:İ:=by decide) (he:Ν:=by rfl) (cI:Ém:=by rfl) :
  PS X Ñ6 (Kh C sp E t):=by
 rw[eR,ai,l,D];rw[oQ];refine am (aX (Q:=λv i=>∃ (b n T:aa) (di:Ã aa) (w q:ah) (N:aa) (bs bm:À ae) (cB:Ñ) (A:À ah) (sub:À ae) (G:Ñ) (J:Ã Ñ) (d:Ã aa) (K L O P R:Ã ae) (bF:ĸ),
   v=.ref b/\Ñ7 n=U (Ài w q n N bs bm cB A sub G J d K L O P R bF)/\ÑY ÀA=true/\Ñ7 b=U { cls:=.ref n,Ξ:=di,Ò:=.fields Âb }/\ç ÀR i) (bh (WX I hg hm ?_ cx)) ØC λ_ _ x=>x)
 refine Qaf (h₀:=Ř) Ã4 M.kp (thn (ha bq ai s l H _ I h) λus i a=>?_) he cI;obtain vs|H1|g|r|q:=a;refine(g.kIn,thn (Zvh (Q:=λS d e=>E l æ d (off e S)) M F hr hb mV g r q) λu s2 z=>?_);obtain b|d|S|rfl|j|V|rH|q2:=z;obtain w|q'|N|bs|A|sub|G|J|dq|K|L|O|P|R|lC:=M.obj;obtain ⟨T,ho⟩|_|_:=V.hok b _ rH;have W:∀a o,Ñ7 a=U o->a≠b:=λa o ha z=>by have:=Qs ha;rw[he,z,j]
 refine(b,C,T,d,w,q',N,bs,.ref B::Ys,true,A,sub,G,J,dq,K,L,O,P,R, "ValueError.__new__",rfl,V.kIn _ _ lC,by rw[QN,FV.hasBase,Qav],ho,hx _ _ ?_);refine(b,.ref C,d,ai,l,off b S,rfl,Qk g.sz j,λz=>?_,λy c hc z=>?_,by unfold off;rw[È rfl],V.untrack rH,λp hp z=>?_,.inl (_,_,ho,rfl,rfl,rfl,rfl),q2)
 ·rw[iA,Y,g.loc,W]
 ·obtain v|o|Y|_:=g.cell y c hc;exact W _ _ Y z
 ·exact W _ _ (g.pin p hp).1 z
universe E
structure XG (K:Å) (C:aa):Prop where
 ga:Ĳ K æ "__getattribute__" = U ØD
 gh:Ĳ K æ "__getattr__" = U af
 sb:É9 K æ ÀA=U true
 hd:Ða K C=true
 ca:Ĳ K æ "__class__" = U (U Ço)
 hm:PySem.W.mroIn K C Ì3=U true
universe E.L2
namespace L2
open PySem PySem.Spec PyProof.Rows
section
variable {X:Cx} {ai:À (aa×aN)} {σ:St} {H:Hp} {s:aj} {e C:aa} {dd:Ã aa}
theorem UO{x:ah}{pos:Pos}{C:aa}(hm:Ë0)(a:Ŕ:=by rfl)(b:İ:=by decide):PE X ÀN (tC æ) :=
 λ_ _ _ H _ I h=>WX I a hm (.ref C,H,I,rfl,h) b
universe E
structure D1f (P:aw) (w:aF) (K:Å) (mg:Ă) (Â:aI) (k:Nat) (x:ah) (ps:Ê) (sp:Sp):Prop where
 ex:X2 λf fd=>YU P w K mg Â (CX1 P w) k f fd ps sp/\mg x=U ą/\À6 K ą=true/\Yy K fd ps []
structure C1f (P:aw) (w:aF) (K:Å) (mg:Ă) (Â:aI) (k:Nat) (C:aa) (x:ah) (ps:Ê) (sp:Sp):Prop where
 ex:X2 λf fd=>YU P w K mg Â (CX1 P w) k f fd ps sp/\Mk K C f/\Yy K fd ps []/\mg x=U æ
structure Xf (P:aw) (w:aF) (K:Å) (mg:Ă) (Â:aI) (k:Nat) (C B:aa) (x:ah) (ps:Ê) (sp:Sp):Prop where
 ex:X2 λf fd=>YU P w K mg Â CX0 k f fd ps sp/\XM K C B f/\Yy K fd ps []/\mg x=U æ
structure UN (K:Å) (mg:Ă) (C B:aa) (x aU:ah) (st:aL) (ps:Ê):Prop where
 ex:X2 λf fd=>Fun K "__init__" aU st f fd/\XM K C B f/\Yy K fd ps []/\mg x=U æ
section
variable {P:aw} {w:aF} {K:Å} {mg:ah->Ã ae} {Â:aI}
theorem UN.xf{C B:aa}{x c:ah}{st:aL}{N ps:Ê}{k:Nat}{sp:Sp}(T:UN K mg C B x c st ps)(S:Äb)(len:Ãa)
  (d:∀ (a:ae) (f:aa) (A:aD) (Û:À Env) (s:aj) (H:Hp) (vs:À V) (Q:VK) (E:XK),Zt k ÌU->XM K C B f->sp vs H Q E ->
   ∃t,PSs #[bY].nox ÂB t/\t { nx:=Ãb,rt:=Q } Áy H):Xf P w K mg Â (k+1) C B x ps sp:=by
 obtain f|e|F|m|b|g:=T.ex;exact(f,e,F.ok S len (λa A Û s H vs Q E i h=>d a f A Û s H vs Q E i m h),m,b,g)
theorem UN.cls{C B:aa}{x a:ah}{st:aL}{ps:Ê}(T:UN K mg C B x a st ps):WO K C É6:=by obtain f|fd|F|m|b|g:=T.ex;exact m.xc.cls
abbrev cx1(P:aw)(w:aF)(K:Å)(mg:Ă)(Â:aI)(N:Ê)(a:ah)(b:bn)(f:aa)(c:ae)(A:aD)(Û:ÁS)(s:aj)(H:Hp)(E:XK):Cx :=
 (Xz (CX1 P w) P w K mg Â N a b f c A Û s H E).wish (XE #[ho,a,b,c] (λ_=>E))
theorem Top.df1{x:ah}{st:aL}{N ps:Ê}{k:Nat}{sp:Sp}(T:Top K mg x st ps)(S:Äb)(len:Ãa)
  (c:∀ (a:ae) (f:aa) (A:aD) (Û:À Env) (s:aj) (H:Hp) (vs:À V) (Q:VK) (E:XK),Zt k #[fr,x]->sp vs H Q E ->
   ∃t,PSs (cx1 P w K mg Â N x (Zh st) f a A Û s H E) ÂB t/\t { nx:=Ãb,rt:=Q } Áy H):D1f P w K mg Â (k+1) x ps sp:=by
 rw[si,d];exact(f,d,F.ok1 S len #[eG,e,c],m,F.kp,b)
universe E
section
variable {X:Cx} {E:St->XK} {k j:Nat} {C B:aa} {x:ah} {ps:À ah} {sp:Sp} {e:aK} {es:À aK} {t:TA} {p pos bq:Pos}
theorem SA(F:#[iq,D1f])(hx:#[fj,a])(hr:Á8)(ha:ε)(c:k<=j:=by decide)(d:Ŕ:=by rfl)(g:İ:=by decide)
  (h:Ν:=by rfl) (i:Áw:=by rfl) :
  PE X Ã3 (Ks sp E t):=by
 rw[iI,m,l,b];exact ZpY F (ÃW c) d m l b hx ha g h i
theorem ZvS(F:Xf ò X.w X.K ę Ř k C B x ps sp)(hx:#[fj,a])(hr:Á8)(ha:ε)(c:Ñ5:=by decide)(d:k+1<=j:=by decide)(h:Ŕ:=by rfl)(i:İ:=by decide)
  (l:Ν:=by rfl) (m:Ém:=by rfl) :
  PS X Ñ6 (Kh C sp E t):=by
 rw[iI,g,b,n];exact Zpe g F (ÃW d) h n b c hx ha i l m
universe E
section
variable {K:Å} {C D:aa}
theorem Sz:ē K æ æ=U true:=by unfold ē;rw[È Ó]
theorem Sy(h1:#[f9,D])(h2:#[rk,ÀP])(a:#[gG,æ,D]):ē K æ ÀP=U true:=by
 unfold ē;split
 ·rfl
 ·unfold Ñ8;have b:ØE:=h1;dsimp only;rw[b,h2,È Í];exact a
theorem WN(h1:#[f9,D])(h2:#[rk,ÀP])(a:É9 K æ ÀP=U false)(b:#[ez,æ,æ]):ē K æ ÀP=U false:=by
 have ne:C≠D:=λz=>by subst z;rw[fL,a,b,b]
 unfold ē;rw[Æ (by simp[ne])];unfold Ñ8;have c:ØE:=h1;dsimp only;rw[c,h2,È Í];exact a
theorem Sx(h:#[ez,æ,Âc]):ē K æ Âc=U true:=by unfold ē;rw[Æ #[y9,z]];unfold Ñ8;dsimp only;rw[È ö];exact h
universe E
universe E.L2
namespace L2
open PySem PyProof.Rows
section
variable {ÿ:aw} {w:aF} {A:aD} {E:ae->aj->Prop} {h:aI} {g:ĉ Ä2} {d:Ä3} {t:Nat} {os:É3} {K:Å}
variable {nm q:ah} {C N B:aa} {bs:À ae} {cB:Ñ} {sn:À ah} {sub:À ae} {ab:Ñ} {bQ:Ã Ñ} {dd:Ã aa} {k0 k1 k2 k3 k5:Ã ae}
theorem ZmE{u:ae}{Q:#[y2,Fin]}(X:Ŵ h)(c:ÅA)(hi:#[fk,æ,Äw])
  (hq:∀h' T,Ì4->Ā Ãp=U { cls:=.ref C,Ò:=.fields Âb }->Q (.done (.ret Çn)) #[gv,h',t]) :
  av à A (be.«type.__call__» ([.ref C,u],[])) Q E θ:=by
 repeat (first|with_reducible refine Τ c ?_|with_reducible refine ÑZ c ?_|wp_step)
 refine Øn Øo (Km c ?_);refine Kl FV Øp #[sh,QN,FV.noAttr] #[sh,QN,FV.noName] c ?_ #[gR,1];show av _ _ _ _ _ _;generalize i:Æ8 { cls:=.type "tuple",Ò:=.seq [u].toArray }=e;have m:e.objs.size=ń+1:=by rw[<- i];exact Q3 _ _
 have k1:#[so,e.get?]:=λb o a=>by rw[<- i];exact Qc _ a
 generalize j:e.push { cls:=.ref C,Ò:=.fields #[.ref ń,.none,.none,.none,.bool false,.none] }=f;have k2:#[so,f.get?]:=λb o a=>by rw[<- j];exact Qc _ (k1 b o a)
 have k:f.get? Ãp=U { cls:=.ref C,Ò:=.fields Ñ1 }:=by rw[<- j,<- m];exact Øq
 have l:=k2 _ _ c;have X2:Ŵ f:=X.keeps k2;have n:Ør:=by simp
 unfold Ñd;repeat (first|with_reducible refine Τ k ?_|(with_reducible refine Ád l ?_;rw[n])|wp_step)
 rw[lo];refine ba (am (Ð7 (FV.init.bind _) ?_));refine am (Kk l k ?_);rintro h' p ⟨r,s⟩
 wp_walk
 exact hq h' r (λb o a=>p b o (λz=>by have:=Qs a;rw[(z)]at this;exact ØF) (k2 b o a)) s
theorem Zwq{u:ae}{Q:ø}(X:Ŵ h)(a:ÅA)(hi:#[fk,æ,Äw])
  (hq:∀h' T,Ì4->Ā Ãp=U { cls:=.ref C,Ò:=.fields Âb }->Q Çn #[gv,h',t]) :
  av à A (ŧ æ [u]) Q E θ:=by
 rw[78];repeat (any_goals (first|assumption|with_reducible refine Τ a ?_|wp_step))
 refine(rfl,Ñy Øs entry_typeCall (Øt a (ZmE X a hi λh' T k c=>hq h' T k c)))
universe E
structure XW (K:Å) (mg:Ă) (C B:aa) (x:ah):Prop where
 obj:X14 λ(nm q:ah) (N:aa) (bs:À ae) (sn:À ah) (sub:À ae) (ab:Ñ) (bQ:Ã Ñ) (dd:Ã aa) (k0 k1 k2 k3 k5:Ã ae) =>
  ı C=U Øz
 init:Ĳ K æ "__init__" = U (U Äw)
 kp:À6 K æ=true
 m:mg x=U æ
theorem XW.cls{K:Å}{mg:Ă}{C B:aa}{x:ah}(c:XW K mg C B x):WO K C É6:=by obtain a|q|N|bs|b|sub|d|e|f|g|i|j|k|l|h:=c.obj;exact(a,q,N,bs,_,b,sub,d,e,f,g,i,j,k,l,_,h)
def Zs8(C:aa)(E:St->XK)(t:TA):TS:=λ_ a H=>t a H λvs b=>∃x,vs=[.str x]/\E a æ af b
section
variable {X:Cx} {E:St->XK} {k j:Nat} {C B:aa} {x m:ah} {ps:À ah} {sp:Sp} {p bu pos bq:Pos} {e o:aK} {es:À aK} {ta:TE} {t:TA}
theorem Kg(M:XW X.K ę C B x)(hx:#[fj,ev])(hr:Á8)(ha:ε)(hg:Ŕ:=by rfl)(cx:İ:=by decide)
  (he:Ν:=by rfl) (cI:Ém:=by rfl) :
  PS X Ñ6 (Zs8 C E t):=by
 rw[eR,n,w,D];rw[oQ];refine am (aX (Q:=λv k=>∃ (A F T:aa) (di:Ã aa) (G q:ah) (N:aa) (bs bm:À ae) (cB:Ñ) (J:À ah) (sub:À ae) (K:Ñ) (L:Ã Ñ) (dd:Ã aa) (O P R S V:Ã ae) (bF:ĸ),
   v=.ref A/\k.heap.get? F=U (Ài G q F N bs bm cB J sub K L dd O P R S V bF)/\ÑY ÀA=true/\k.heap.get? A=U { cls:=.ref F,Ξ:=di,Ò:=.fields Âb }/\ç (.ref A) k) (bh (WX I hg M.m ?_ cx)) ØC λ_ _ x=>x)
 refine Qaf (h₀:=Ř) Ã4 M.kp (thn (ha bq n s w H _ I h) λus k a=>?_) he cI;obtain vs|l|i|r|y|rfl|q:=a;obtain u|rfl|ru:=r.one;obtain G|q'|N|bs|J|sub|K|L|dq|O|P|R|S|V|lC:=M.obj;rw[hm,f,tk,k];refine(i.kIn,Zwq i.kIn (i.kIn _ _ lC) M.init λh' T kp W=>?_);have hn:l Ì8=af:=i.hok.fresh (Qac _);have I2:Inv X n w ØG #[gv,h',tk]:=i.laid (a:=Äv+1) (h':=h') (t':=tk) (λb u z=>kp b u z) (Qac _) (SD W);have I3:=I2.untrack (e:=Äv+1) Zb;have eH:off Ì8 ØG=l:=by
  funext b;unfold off;by_cases z:b=Äv+1
  ·rw[È z,z,hn]
  ·rw[Æ z,Zf z]
 rw[eH]at I3;have Y:∀a o,f.get? a=U o->a≠Äv+1:=λa o ha z=>by have:=Qs ha;rw[(z)]at this;exact ØF
 refine(Äv+1,C,T,af,G,q',N,bs,.ref B::Ys,true,J,sub,K,L,dq,O,P,R,S,V, "ValueError.__new__",rfl,kp _ _ (i.kIn _ _ lC),by rw[QN,FV.hasBase,Qav],W,hx _ _ ?_);refine(Äv+1,.ref C,af,n,w,l,rfl,Qk i.sz (Qac _),λz=>?_,λy c hc z=>?_,hn,I3,λp hp z=>?_,.inl (_,_,W,rfl,rfl,rfl,rfl),q)
 ·rw[iA,Z,i.loc,Y]
 ·obtain v|o|Z|_:=i.cell y c hc;exact Y _ _ Z z
 ·exact Y _ _ (i.pin p hp).1 z
structure M1f (P:aw) (w:aF) (K:Å) (mg:Ă) (Â:aI) (k:Nat) (C:aa) (m:ah) (ps:Ê) (sp:Sp):Prop where
 ex:X2 λf fd=>YU P w K mg Â (CX1 P w) k f fd ps sp/\UZ K C m f/\Yy K fd ps []
def ZuY(C:aa)(m:ah)(sp:Sp)(E:St->XK)(ta:TE)(t:TA):TE:=λa H Q=>ta a H λx b=>RMt C m x b (t a b λvs c=>sp (x::vs) c Q (E a))
theorem UM{pl:Sem Ñ}(F:#[fD,M1f,m])(c:ÃU)(hx:#[fj,d])(hr:Á8)(he:Â7)(ha:ε)(y:k<=j:=by decide)
  (z:Ν:=by rfl) (A:Áw:=by rfl)
  (B:ă ÆM Î=(do
   let g <- ă o Î
   ÃK ÆN
   let (f,first) <- ÁU [g] (ÃS g m pl)
   ÆO pos f first (bg pos ÆP) ÆQ):=by rfl) :
  PE X ÆM (ZuY C m sp E ta t):=by
 obtain f|fd|F|i|b:=F.ex;rw[rA,n,p,B];rw[gM,D,G,v,J,K];refine Ri v K c i l ?_;refine Qaf (first:=ÁZ) (h₀:=Ř) Ã4 i.kp (thn (ha pos n D p G _ v q) λus s2 ⟨vs,H2,w,r,L⟩=>(w.kIn,?_)) z A;exact Kt (us:=.ref a::us) (vs:=.ref a::vs) F (ÃW y) b hx w (.cons rfl r) L
universe E
theorem Yn.mf1{P:aw}{w:aF}{K:Å}{mg:Ă}{Â:aI}{C:aa}{m c:ah}{st:aL}{N ps:Ê}{k:Nat}{sp:Sp}(T:Yn K C m c st ps)(S:Äb)(len:Ãa)
  (d:∀ (a:ae) (f:aa) (A:aD) (Û:À Env) (s:aj) (H:Hp) (vs:À V) (Q:VK) (E:XK),Zt k ÌU->sp vs H Q E ->
   ∃t,PSs (cx1 P w K mg Â N c (Zh st) f a A Û s H E) ÂB t/\t { nx:=Ãb,rt:=Q } Áy H):M1f P w K mg Â (k+1) C m ps sp:=by
 rw[si,e];exact(f,e,F.ok1 S len #[eG,g,d],m,b)
universe E.L2
namespace L2
open PySem PySem.Builtin PySem.Builtin.Str PyProof.Rows
def ZtY:V->À V->Hp->VK->Prop:=λx vs H Q=>X2 λz y:ah=>C6 (x=.str z) #[za,y] ((ι == 0)=false) Ðw ((ÁD z y).length<=aq) (∀a,H a=af->Q Ĩ (upd H a (.lst Ñ9)))
section
variable {X:Cx}
theorem Kf(k:Nat):∀ys:À ah,ZH ÉC ((numbered k ys).map λp=>Ám p.1 p.2)
 | []=>.nil
 | y::r=>by show ZH (Ä y::ÂK Ä) (Ám y k::(numbered (k+1) r).map λp=>Ám p.1 p.2);exact .cons ü (Kf (k+1) r)
theorem Pz:MtR X "str.split" ZtY:=by
 intro n s p H x vs v us Q I r w h;obtain z|y|rfl|rfl|i|d|j|q:=h;rw[ey,t,r];obtain u|rfl|A:=w.one;rw[ey,f,A];have one:∀ (k:Nat),[z]=ÁD z y->X2 λl m=>Inv X n p m { s with ï:=k,Ø:=γ { cls:=.type "list",Ò:=.seq #[.str z t] } }/\ZJ l ÆB/\Q l m:=λk e=>by refine(.ref Ï,_,À7 (t':=k) (o:=.lst Ñ9) #[ik,b,o,g] î ?_,rfl,q _ Ã5);rw[<- e];exact(by show 1<=aq;decide,[.str z t],_,.cons ü .nil,Qv _ rfl)
 cases a:(decide (Ś<ι)||decide (strKind z<strKind y))
 ·cases c:(Ì9 z y 0 Ś (Ś+1)).isEmpty
  ·have e:ÁD z y=Òa z (Ì9 z y 0 Ś (Ś+1)) ι:=#[qO].trans (Æ (ØH c));refine Éo Òb Ía Òc Òd (meets_str_split_sep z y t f a i c d #[ev,e,j]) ?_;refine(.ref Ï,_,À7 (t':=ŋ+(ØI).length) (h':=γ { cls:=Ĺ,Ò:=.seq (strsFrom ŋ ØI).toArray }) (o:=.lst Ñ9) #[ik,b,o,g] î ?_,rfl,q _ Ã5);refine(by rw[Qa];exact j,strsFrom ŋ ØI,_,?_,Qv _ rfl);rw[strsFrom_eq,e];exact Kf _ _
  ·exact Éo Òb Ía Òc Òd (meets_str_split_not_found z y t f a i c) (one _ (#[qO].trans (È c)).symm)
 ·exact Éo Òb Ía Òc Òd (meets_str_split_cannot_occur z y t f a) (one _ (È a).symm)
universe E
def gl(c:Nat):À (À Nat)->À Nat
 | []=>[]
 | [a]=>a
 | a::b::r=>a++c::gl c (b::r)
theorem Ke{c:Nat}:∀ {xs ys:À (À Nat)},xs≠[]->ys≠[]->(∀a∈xs,c ∉ a)->(∀a∈ys,c ∉ a)->gl c xs=gl c ys->xs=ys
 | [],_,h,_,_,_,_=>Ç rfl h
 | _,[],_,h,_,_,_=>Ç rfl h
 | [a],[b],_,_,_,_,e=>by rw[show a=b from e]
 | [a],b::b2::r,_,_,ha,_,e=>by have e':a=b++c::gl c (b2::r):=e;exact Ç #[sn,e'] (ha a Ó)
 | a::g::q,[b],_,_,_,f,e=>by have e':a++c::gl c (g::q)=b:=e;exact Ç (by rw[<- e'];simp) (f b Ó)
 | a::g::q,b::b2::r,_,_,ha,f,e=>by
  have e':a++c::gl c (g::q)=b++c::gl c (b2::r):=e;have cut:∀ (x y u v:À Nat),c ∉ x->c ∉ y->x++c::u=y++c::v->x=y/\u=v:=λx=>by
   induction x with
   | nil =>
    intro y u v _ i h;cases y with
    | nil=>exact(rfl,by injection h)
    | Ë z y=>injection h with d _;exact Ç #[sn,d] i
   | Ë w x l =>
    intro y u v k i h;cases y with
    | nil=>injection h with d _;exact Ç (by rw[<- d];simp) k
    | Ë z y=>injection h with d n;obtain o|p:=l y u v (λm=>k (Qm _ m)) (λm=>i (Qm _ m)) n;exact(by rw[d,o],p)
  obtain s|t:=cut _ _ _ _ (ha a Ó) (f b Ó) e';rw[s,Ke Ó Ó (λz j=>ha z (Qm _ j)) (λz j=>f z (Qm _ j)) t]
theorem Py(c:Nat):∀ws:À ah,(Òf).cps.toList=gl c (ÁE λw=>Çp)
 | []=>rfl
 | [a]=>by simp[Ĕ,gl]
 | a::b::r=>by
  have ih:=Py c (b::r);have e:(Ĕ ŷ (a::b::r)).cps.toList=Òe++c::(Ĕ ŷ (b::r)).cps.toList:=by show ((a++(ŷ:ah))++Ĕ ŷ (b::r)).cps.toList=_;show ((a.cps++#[c])++(Ĕ ŷ (b::r)).cps).toList=_;simp
  rw[e,ih];rfl
theorem Px{c:Nat}{ws:Ê}(h0:ws≠[])(h:∀w∈ws,c ∉ Çp):ÁD (ō ŷ ws) ŷ=ws:=by
 have e:ō ŷ ws=Ĕ ŷ ws:=by simpa using ÅC ŷ ws
 rw[e];have d:=StrLaws.join_split Òf ŷ;have f:=StrLaws.split_free Òf c;have g:ÁD Òf ŷ≠[]:=λz=>by
  unfold ÁD at z;split at z
  ·cases z
  ·split at z
   ·cases z
   ·unfold Òa at z;revert z;cases Ì9 (Ĕ ⟨#[c]⟩ ws) ⟨#[c]⟩ 0 (Ĕ ⟨#[c]⟩ ws).length ((Ĕ ⟨#[c]⟩ ws).length+1)<;>simp
 generalize ÁD (Ĕ ⟨#[c]⟩ ws) ⟨#[c]⟩=zs at d f g;have i:=ŕ (λx:ah=>x.cps.toList) d;simp only[Py]at i;have:=Ke (c:=c) (xs:=zs.map λw=>Çp) (ys:=ÁE λw=>Çp) #[ea,g] #[ea,h0] (λa b=>by obtain w|hw|rfl:=Ľ b;exact f w hw) (λa b=>by obtain w|hw|rfl:=Ľ b;exact h w hw) i;have inj:∀ (xs ys:À ah),Èy (λw=>Çp)=ys.map (λw=>Çp)->xs=ys:=λxs=>by
  induction xs with
  | nil=>intro ys h;cases ys with
   | nil=>rfl
   | Ë=>cases h
  | Ë x r j =>
   intro ys h;cases ys with
   | nil=>cases h
   | Ë y q=>injection h with k l;rw[j q l,show x=y from by obtain⟨x⟩:=x;obtain⟨y⟩:=y;exact ŕ ah.mk (Array.toList_inj.mp k)]
 exact inj _ _ this
structure KD (K:Å) (w:aF) (a:aa):Prop where
 at':X2 λ(es:ĉ ÐM) (n:Nat)=>ı a=U #[hp,es,n]/\Íb Êa es.toList
 lo:Â0=false
def ZvM(K:Å)(w:aF):R2:=λx y H Q=>X4 λa s v u=>C6 Çh (y=.str s) (KD K w a) (ī K a s=U (U u)) (ZJ v u) (Q v H)
def Zvp(K:Å)(w:aF)(b:Ñ):R2:=λy x H Q=>X3 λa s r=>C5 Çh (y=.str s) (KD K w a) (ī K a s=U r) (Q (.bl (if b then !r.isSome else r.isSome)) H)
section
variable {X:Cx} {K:Å} {w:aF}
theorem Pw(d:X.K=K:=by rfl)(hw:X.w=w:=by rfl):IxR X (ZvM K w):=by subst d;subst hw;intro ς fJ ai s σ H x y v u Q I f g h i;obtain a|z|j|u'|rfl|rfl|D|e|r|q:=h;cases f;obtain t|rfl:=g;obtain es|n|b|k:=Ĵ;have c:=ØJ (ÿ:=ò) Ě b k;exact Kz c.typeIs ÖY i (ÖM ØK c (PySem.W.find_K b e) (j,H,ř _,r,q))
theorem Ztg(c:X.K=K:=by rfl)(hw:X.w=w:=by rfl):OpR X (aS .NotIn) (Zvp K w true):=by subst c;subst hw;intro ai s σ H x y v u Q I d f h;obtain a|z|r|rfl|rfl|D|e|q:=h;cases f;obtain t|rfl:=d;obtain es|n|b|g:=Ĵ;exact wpAny_notIn_of ØK D.lo (ØJ (ÿ:=ò) Ě b g) (by rw[PySem.W.find_K b e];exact(.bl (!r.isSome),H,ř _,rfl,q))
universe E
structure Fv (P:aw) (w:aF) (K:Å) (mg:Ă) (Â:aI) (k:Nat) (f:aa) (sp:Sp):Prop where
 ex:X2 λfd ps=>YU P w K mg Â CX0 k f fd ps sp/\À6 K ą=true/\Yy K fd ps []
def ZuE(P:aw)(w:aF)(K:Å)(mg:Ă)(Â:aI)(k:Nat)(b:TE)(t:TA):TE:=λa H Q=>b a H λv c=>X2 λf sp=>v=.ref f/\Fv P w K mg Â k f sp/\t a c λvs d=>sp vs d Q λ_ _ _=>Ē
theorem Zra{X:Cx}{k j:Nat}{x:ah}{p pos:Pos}{e:aK}{c:į}{d:TE}{t:TA}(n:PE X (.Name x p) d)(hr:Á8)(ha:PA X (e::c) t)(o:k<=j:=by decide)
  (u:aE (e::c) Î=#[fh,e]::aE c Î:=by rfl) (w:(bg pos (aE c Î)).any ù=false:=by rfl) :
  PE X (.Call (.Name x p) (e::c) [] pos) (ZuE ò X.w X.K ę Ř k d t):=by
 rw[eR,g,i,Q];refine bh (thn #[f7,n,g,i] λv z a=>?_);obtain y|A|l|B|f|sp|rfl|F|q:=a;cases B;obtain fd|ps|F|C|b:=F.ex;refine Qaf (h₀:=Ř) l.ok.mod.kin C (thn (ha pos g z i A _ l q) λus s2 ⟨vs,H2,m,r,q⟩=>(m.kIn,?_)) u w;exact Ua (dvs:=[]) F (ÃW o) b .nil Vw m r #[ed,QX,q]
universe E.L2
namespace L2
open PySem PyProof.Rows
section
variable {ÿ:aw} {w:aF} {A:aD} {E:ae->aj->Prop} {s:aj} {env:Env}
theorem Kd{e:aa}{t:aK}{a:aL}{d:ſ}{pos:Pos}{Ć:À ExceptHandler}{Q:#[y2,Flow]}
  (h:av à Íc (ă t env) (λc g=>av à Íc (É4 Š c) (λb i=>b=true /\
   av à Íc (ÑS Š af) (λ_ j=>av à Íc (execs (a::d) env) (λf k=>Q f k)
    (λ_ _=>Ē) j) ÉB i) ÉB g) ÉB s) :
  av à A (handleBy Š env (.ExceptHandler (U t) af (a::d) pos::Ć)) Q E s:=by
 refine wpAny_handleBy_cons (codeAny_handlers_test (aX h (λc g l=>aX l #[iw,b,i,m] λ_ _ x=>x.elim) λ_ _ x=>x.elim)) (by intro q;cases q);obtain rfl|n:=m;exact codeAny_handlers_suite (aX n (λ_ j o=>aX o (λf k p=>p) λ_ _ x=>x.elim) λ_ _ x=>x.elim)
universe E
def Kc(K:Å)(b:aa)(c:TS)(D:XU):St->XK:=λd cls dd H=>X2 λC a=>C4 (cls=.ref C) (WO K C a) (#[oG].contains ÀR=true) (c { nx:=Č,rt:=D.rt } d H)
def Zwl(K:Å)(a:aa)(b:Íd)(c:TS):TS:=λD d H=>b (Kc K a c D) D d H
section
variable {X:Cx}
theorem Zsw{x:ah}{np iO pos:Pos}{K:ſ}{L:aL}{O:ſ}{j:aa}{P:ê}{Q:Íd}{l:TS}
  (hb:∀ (d:À (aa×aN)) (E:St->XK),PSs ØL K (Q E)) (BS:∀e,PSs (Åz e) (L::O) l)
  (m:ÑU) (hg:Ŕ) (hm:ę x=U (.ref j)) (n:WO X.K j P) (c9:P.contains ÀA=true) (cx:İ:=by decide) :
  PS X (.Try K [.ExceptHandler (U (.Name x np)) af (L::O) iO] [] [] pos) (Zwl X.K j Q l):=by
 rw[eR,d,σ,D];refine ØM (aX (hb d (Kc X.K j l D) [] s σ H D (I.pnd.wish _) h) #[iw,f,g,o] λev g o=>?_)
 ·have i:SP X d D f g:=o.unwish.unpnd;cases f with
  | next=>exact Æx i
  | brk=>exact i
  | Λ=>exact i
  | ret u=>exact i
 obtain e|cls|dd|iS|R|S|rfl|he|pj|rG|hn|I'|hp|hx|C|bm|rfl|hC|oK|cq:=o;obtain B|M|p|hM|V:=I'.fly m he pj rG hn hp hx;have eV:ØN:=by rw[<- m.1];exact ÆK
 refine p.noted eV m.2 λi a b c=>?_;refine TZ p.hB (s:=#[hN,g,i]) (F:=af) b a c λr W b3 Y=>?_;have t:#[gL,d,R,S,g,r]:=(V r W).unpnd;refine Kd ?_;refine WX (X:=Åz e) (t.mkd e) hg hm ?_ cx;obtain oe|vs|T|oT|vC|jT|mR|kq|_:=Y.ex;obtain nm|q|N|bs|cB|sn|sub|ab|bQ|dq|k0|k1|k2|k3|k5|bF|lC:=hC;obtain gG|q'|N'|E4|vt|E5|AA|E6|AB|dq'|E7|E8|E9|Fa|Fb|tj|w:=n;refine ZjU (t.kIn _ _ lC) (t.kIn _ _ w) jT mR c9 oK ÉQ;refine TZ p.hB (s:=#[hN,g,r]) (F:=af) b3 W Y λZ a4 b4 c4=>?_;have I4:#[gL,d,R,S,g,Z]:=(V Z a4).unpnd;refine aX ØO #[iw,f,s6,k] λ_ _ z=>z;cases f with
 | next=>obtain y|A|G|J:=k;exact(y,A,G.unmkd Ω,J)
 | brk=>obtain _|_|_|z:=k;exact Êb
 | Λ=>obtain _|_|_|z:=k;exact Êb
 | ret u=>obtain v|y|A|G|r7|J:=k;exact(v,y,A,G.unmkd Ω,r7,J)
universe E
theorem Yk.keep{NB:Äu}{h h':aI}{e:aa}{cls a:ae}{d:ď}(c:Yk NB h e cls d a)(k:#[so,Ā]):Yk NB h' e cls d a:=by obtain f|g|T|i|j|l|m|n|p|q|r|s|t:=c.ex;exact(f,g,T,i,j,k _ _ l,m,n,p,q,r,k _ _ s,t)
theorem Xj.more{B:aI}{d:Ş}{h h':aI}(a:Xj B d h)(k:#[so,Ā]):Xj B d h' :=
 (λb o c n=>k _ _ (a.1 b o c n),λb o c=>let ⟨e,z⟩:=a.2 b o c;(e,k _ _ z))
def Sw(h:aI)(C:aa)(a:ê):Prop:=X16 λ(nm q:ah) (N:aa) (bs:À ae) (b:Ñ) (c:À ah) (sub:À ae) (d:Ñ) (e:Ã Ñ) (f:Ã aa) (g i j k l:Ã ae) (m:ĸ) =>
 Þ C=U (Ài nm q C N bs a b c sub d e f g i j k l m)
theorem WO.at'{K:Å}{C:aa}{a:ê}{h:aI}(c:WO K C a)(X:Ŵ h):Sw h C a:=by obtain b|q|N|bs|d|e|sub|f|g|i|j|k|m|n|o|p|l:=c;exact(b,q,N,bs,d,e,sub,f,g,i,j,k,m,n,o,p,X _ _ l)
section
variable {M:Áq} {A:aD} {E:ae->aj->Prop} {h:aI} {g:ĉ Ä2} {d:Ä3} {t:Nat} {os:É3}
theorem ZkI{C a b k e:aa}{f i j:ê}{l:aN}{b1 b2:Ñ}{Q:#[y2,Ñ]}(c:Sw h C f)(h1:Sw h a i)(h2:Sw h b j)(ht:ÃG h k #[.ref a,.ref b])
  (he:Þ e=U l) (r:l.cls=.ref C) (s:i.contains ÀA=true) (u:j.contains ÀA=true) (v:(è C::f).contains Ĩ=b1) (m:(è C::f).contains ÀR=b2) (hq:Q (b1||b2) θ):av M A (É4 Š (.ref k)) Q E θ:=by
 obtain nm|q|N|bs|cB|sn|sub|ab|bQ|dq|k0|k1|k2|k3|k5|bF|c:=c;obtain nm1|q1|N1|bs1|hdct1|sn1|sub1|ab1|col1|dq1|k01|yA|k21|k31|k51|newId1|h1:=h1;obtain nm2|q2|N2|bs2|hdct2|sn2|sub2|ab2|col2|dq2|vE|yB|k22|k32|k52|newId2|h2:=h2;have w:#[im,a,i]:=by rw[QN,s,Qav]
 have x:#[im,b,j]:=by rw[QN,u,Qav]
 obtain o|p|y|n|hd:=ht;unfold É4;refine am (Ñe (o,p,y) isSubtype_tuple_tuple ?_);dsimp only;rw[p8];refine am (bi p hd ?_);dsimp only[Option.getD_some,Option.getD];repeat (first|(with_reducible refine Τ he ?_;rw[r])|with_reducible refine Τ h1 ?_|with_reducible refine Τ h2 ?_|(with_reducible refine Ád h1 ?_;rw[w])|(with_reducible refine Ád h2 ?_;rw[x])|(with_reducible refine Ád c ?_;first|rw[v]|rw[m])|wp_step)
 cases b1 with
 | true=>wp_walk;exact hq
 | false =>
  repeat (first|(with_reducible refine Ád c ?_;rw[m])|wp_step)
  cases b2<;>(wp_walk;exact hq)
universe E
def Kb(K:Å)(b c:aa)(d:TS)(D:XU):St->XK:=λe cls dd H=>X2 λC a=>C4 (cls=.ref C) (WO K C a) ((#[oG].contains ÀR||(è C::a).contains ÅB)=true) (d { nx:=Č,rt:=D.rt } e H)
def ZvW(K:Å)(a b:aa)(c:Íd)(d:TS):TS:=λD e H=>c (Kb K a b d D) D e H
section
variable {X:Cx}
theorem Ztb{l m:ah}{r t np iO pos:Pos}{kt}{Z:ſ}{kh:aL}{iu:ſ}{g i:aa}{tS tT:ê}{tb:Íd}{w:TS}
  (hb:∀ (d:À (aa×aN)) (E:St->XK),PSs ØL Z (tb E)) (BS:∀e,PSs (Åz e) (kh::iu) w)
  (x:Gl X l) (fm:ę l=U (.ref g)) (y:Gl X m) (dU:ę m=U (.ref i)) (i3:(l == ("__debug__" : ah))=false) (ir:(m == ("__debug__" : ah))=false) (A:aE [.Name l r,.Name m t] Î=[(false,ă (.Name l r) Î,),(false,ă (.Name m t) Î,)])
  (G:ÑU) (J:WO X.K g tS) (K:WO X.K i tT) (yD:tS.contains ÀA=true) (yE:tT.contains ÀA=true) :
  PS X (.Try Z [.ExceptHandler (U (.Tuple [.Name l r,.Name m t] kt np)) af (kh::iu) iO] [] [] pos) (ZvW X.K g i tb w):=by
 rw[eR,d,σ,D];refine ØM (aX (hb d (Kb X.K g i w D) [] s σ H D (I.pnd.wish _) h) #[iw,f,k,L] λev k L=>?_)
 ·have n:SP X d D f k:=L.unwish.unpnd;cases f with
  | next=>exact Æx n
  | brk=>exact n
  | Λ=>exact n
  | ret u=>exact n
 obtain e|cls|dd|iS|N|O|rfl|he|pj|rG|hn|I'|hp|hx|C|bm|rfl|hC|oK|cq:=L;obtain B|M|P|hM|Q:=I'.fly G he pj rG hn hp hx;have eV:ØN:=by rw[<- G.1];exact ÆK
 refine P.noted eV G.2 λn a b c=>?_;refine TZ P.hB (s:=#[hN,k,n]) (F:=af) b a c λj a3 b3 c3=>?_;have I3:#[gL,d,N,O,k,j]:=(Q j a3).unpnd;refine Kd ?_;refine Tuple_ ?_;rw[A];refine ËW (WX (X:=Åz e) (I3.mkd e) x fm ?_ i3);refine ËW (WX (X:=Åz e) (I3.mkd e) y dU ?_ ir);refine aB ?_;refine bw ?_ Ây;have p:∀b o,j.get? b=U o->(j.push { cls:=Äi,Ò:=.seq [è g,.ref i].toArray }).get? b=U o:=λb o hb=>Qc _ hb;have c5:=c3.keep p;have a5:=a3.more p;have b5:=b3.of_keeps (h':=j.push { cls:=Äi,Ò:=.seq [è g,.ref i].toArray }) λb o hb _=>(o,p b o hb,rfl);obtain oe|vs|T|oT|vC|jT|mR|kq|_:=c3.ex;have I5:Inv X d N O { k with Ø:=j.push { cls:=.type "tuple",Ò:=.seq [è g,.ref i].toArray } }:=(Q _ a5).unpnd;have R:=I5.kIn;refine ZkI (hC.at' R) (J.at' R) (K.at' R) (IsTup.new j _) (p _ _ jT) mR yD yE rfl rfl (oK,?_);refine TZ P.hB (s:={ k with Ø:=j.push { cls:=.type "tuple",Ò:=.seq [è g,.ref i].toArray } }) (F:=af) b5 a5 c5 λh4 a4 b4 c4=>?_;have I4:#[gL,d,N,O,k,h4]:=(Q h4 a4).unpnd;refine aX ØO #[iw,f,s6,q] λ_ _ z=>z;cases f with
 | next=>obtain S|V|W|Y:=q;exact(S,V,W.unmkd Ω,Y)
 | brk=>obtain _|_|_|z:=q;exact Êb
 | Λ=>obtain _|_|_|z:=q;exact Êb
 | ret u=>obtain v|S|V|W|r7|Y:=q;exact(v,S,V,W.unmkd Ω,r7,Y)
universe E
def Zwk(a:TE):TE:=λb H Q=>a b H λv c=>∃x,v=.str x/\ĕ<=aq/\Q Ä8 c
theorem Pu{X:Cx}{e:aK}{b:TE}{pos:Pos}(he:PE X e b):PE X Øu (Zwk b):=by intro c s d H Q I h;refine Øv #[zl,c,d,s1];obtain v|f|g|r|x|rfl|i|q:=a;obtain tk|rfl:=#[eD,tk,Ám,x,r];exact formatField_str (λt' tk=>(.str x,f,g.tok _,ü,q)) i
section
variable {ÿ:aw} {w:aF} {A:aD} {E:ae->aj->Prop} {s:aj}
theorem Zop{l:aa}{β:ÃP}{Q:À ae->aj->Prop}(hl:s.heap.IsList l β)(p:Â9)(hn:0<ÉO)(hz:ÉO<=16384)
  (h:∀ (a:aI) (tk:Nat),#[ga,o,ì,Ã9]->Q (Íe 1++[.ref ÅD]++[]) { s with Ø:=a.push { cls:=.type "list",Ò:=.seq (Íf 1).toArray },ï:=tk }) :
  av à A (ÏP Đ 2 (U 1)) Q E s:=by
 have c:l≠Ï:=by obtain o|q|_:=hl;exact QB (Qs q)
 unfold ÏP;refine am ?_;unfold notIterableAtAll;refine am (ÖX hl.typeIs slot_list_iter.lookup ?_);refine aB ?_;rw[c0];refine am (ba (b9 hl ?_));refine am (ba (PySem.W.kun_draw c 1 0 _ _ ÃQ (hl.push _) Á λi f m=>?_));have n:i.IsList l β:=(hl.push _).extBut ÉL c;rw[Qa0]at f;have r:=f;obtain oi|g|_:=r;have t:=n;obtain ol|v|_:=t;rw[Qbg];have x:(Íe 1).length=1:=by rw[QA,QaE];lia
 rw[Æ (show ¬ ((Íe 1).length<1) by rw[x];lia)];refine am (ba (PySem.W.kun_collect (s:=#[hN,s,i]) (T := "list_iterator") (.inr ÅE) (ÐY (A:=Än) p Ï l c β) (λj u st=>st.1.typeIs) (k:=1) Á (f,n) (Qs g) (Qs v) #[iw,a,tk,y] #[fe,aP]));have z:#[86].length=ÉO-1:=by rw[Q4,QaE]
 show av _ _ (if #[86].length<2-1-1 then _ else _) _ _ _;rw[Æ Á];show av _ _ (Ìj (#[86].take Íg) >>= λd=>pure (Íe 1++[d]++#[86].drop Íg)) _ _ _;have B:#[86].take Íg=Íf 1:=Qz î;have C:#[86].drop Íg=[]:=Qbh î;rw[B,C];have D:#[eC,o,ì,Ã9]:=λb o e=>y b o ÈS (ÉL b o ÈS (Qc _ e));exact am (bw (aB (h a tk D)) (by show (Íf 1).length<=aq;rw[z,aP];lia))
universe E
def Zvy(K:Å)(t:TGs):TG:=λv a H Q=>X3 λp x xs=>C4 (v=.ref p) (SqL K H p (x::xs)) (Ú<16384) (∀l,H l=af->t [x,.ref l] a #[hU,H,l,xs] Q)
section
variable {X:Cx}
theorem ZrF{e:aK}{p:Pos}{t:TG}(h1:PG X e t)(hs:(bV [.Starred e p] Î).map ě=[Âu e Î]:=by rfl):PGs X [.Starred e p] (LZ t Ma):=by
 rw[rX,a,b,vs];obtain v|vr|c|h:=h;subst c;cases r with
 | Ë r d=>rw[hs];refine ËH (thn (h1 a s b H _ _ _ I r h) ?_);rintro _ s1 ⟨f,g,i,j⟩;rw[el,k,l,j];subst k;cases d;exact ÏM (f,g,i,l)
theorem ZsU{d:į}{k:Nat}{pos:Pos}{t:TGs}{K:Å}(h:PGs X d t)(p:X.K=K:=by rfl)(hc:ť:=by rfl)(hn:#[yW,d].length=2:=by rfl)(q:#[yW,d].findIdx? ù=U 1:=by rfl):PG X (.Tuple d k pos) (Zvy K t):=by
 subst p;intro f s g H v u Q I r hw;obtain a|x|i|w|y|hl|hw:=hw;subst w;cases r;rw[f5,j,z,hz,y];have l:=Åc;rw[assign_Tuple];rw[sf,bC];unfold unpack;rw[hn,q];rw[Qq]at l;have hsz:Ãc=ÈX+1:=by simpa using l.symm
 refine am (ba (Zop z.isList Âv Á Á λc tk A=>?_));cases j with
 | Ë B C=>rename_i u m;have n:Inv X f g H { s with Ø:=c,ï:=tk }:=Âw (t':=tk) λb o e=>A b o e;have D:H Äk=af:=n.hok.fresh î;have E:Inv X f g #[hU,H,Äk,i] { s with Ø:=c.push { cls:=.type "list",Ò:=.seq ((u::m).toArray.toList.drop 1).toArray },ï:=tk }:=n.laid (t':=tk) #[ik,b,o,e] î (by rw[aP];lia,m,_,C,Qv _ rfl);exact h f _ g _ [x,.ref Äk] [u,.ref Äk] Q E (.cons B Ðm) (hw _ D)
universe E
theorem Zl0:ÆU ÁA "__int__" = pure af:=by rw[Òg,Òh];kernel_rfl
theorem ZjJ:ÆU ÁA "__index__" = pure af:=by rw[Òg,Òh];kernel_rfl
theorem Zkp:ÆU ÁA "__trunc__" = pure af:=by rw[Òg,Òh];kernel_rfl
theorem Zwi{α:Type}{M:Áq}{A:aD}{t t':Sem α}{Q:α->aj->Prop}{E:ø}{s:aj}(h:t=t')(hq:av M A t' Q E s):av M A t Q E s:=h ▸ hq
theorem ZjI(n:Nat)(hn:n<10)(t:Tok):Meets (be.«int.__new__» ([.type "int",.str Çq t],[])) (Made.int (n:Int)).spec :=
 Meets.of_wp λprog w A R s a=>by
  rw[hm,b,tk,s];have f1:=F.conv_sub_int;have f2:=F.madeHere_int;have hT:(#[gv,b,tk]:aj).TypeIs (.str Çq t) "str":=rfl;have f3:=Zl0;have f4:=ZjJ;have f5:=Zkp;repeat (any_goals (first|assumption|wp_step))
  refine Zwi (t':=mkInt (n:Int)) (by rcases(show n=0\/n=1\/n=2\/n=3\/n=4\/n=5\/n=6\/n=7\/n=8\/n=9 by lia) with rfl|rfl|rfl|rfl|rfl|rfl|rfl|rfl|rfl|rfl<;>kernel_rfl) ?_;repeat (any_goals (first|assumption|wp_step))
  all_goals exact(_,rfl,a)
def Zwj:À V->Hp->VK->Prop:=λvs H Q=>∃n:Nat,C3 #[za,Çq] (n<10) (Q #[hx,n] H)
theorem Zoq{ÿ:aw}{w:aF}{A:aD}{E:ø}{s:aj}{n:Nat}{t:Tok}{Q:ø}(hn:n<10)(h:Q (.int (n:Int) ŋ) { s with ï:=ŋ+1 }):av à A (ŧ ÃR [.str Çq t]) Q E s :=
 call_int_1 (ZjI n hn t) (show (Made.int (n:Int)).post _ s from(rfl,h))
theorem ZwZ{X:Cx}:YN X ÃR Zwj:=by intro ai s σ H xs us Q I r h;obtain n|rfl|a|q:=h;obtain u|rfl|t|rfl:=Xb r;exact Zoq a (.int (n:Int),H,ř _,ü,q)
theorem Zu0{X:Cx}{k j:Nat}{C:aa}{x:ah}{ps:Ê}{sp:Sp}{p pos:Pos}(F:#[fD,Cf,x])(hr:Á8)(a:k+1<=j:=by decide)(c:Ŕ:=by rfl)(d:İ:=by decide) :
  PE X ËY (SS C sp [] E0 Vy):=by
 rw[iI,g,b,e];exact Zro g F ÌH c e b .nil Vw d
universe E.L2
namespace L2
open PySem PySem.Spec PyProof.Rows
section
variable {X:Cx}
theorem WD{x z:ah}{pos:Pos}(hm:∃tk,ę x=U (.str z tk))(a:Ŕ:=by rfl)(hd:İ:=by decide):PE X ÀN (tC (.str z)):=by obtain tk|h:=hm;exact Mb a h (tk,rfl) hd
universe E
theorem XI{K:Å}{t:aa}{a:ď}{its:ÃP}{n:Nat}{sl:Ŭ}{xs:Ą}(h:ı t=U (.type "tuple",a,.seq its n,sl))(hs:its.size<=100)(v:ZH xs ÈO):∀H,SqT K H t xs :=
 λ_=>.inr (_,its,n,h,rfl,rfl,Qk hs Ñr,v)
def ZwN(t u:TE):TE:=λa H Q=>t a H Q\/u a H Q
theorem Ka{X:Cx}{e:aK}{t u:TE}(h1:PE X e t)(h2:PE X e u):PE X e (ZwN t u):=λa s b H Q I h=>Or.elim h (h1 a s b H Q I) (h2 a s b H Q I)
theorem WC(K:Å){X:Cx}{e:aK}{f:ah}{pos:Pos}{a:TE}(he:PE X e a)(hb:#[fC,e,f])(b:X.K=K:=by rfl):PE X Ðc (LD K a f):=by subst b;exact ZE he hb
section
variable {X:Cx}
theorem Zo6:OpR X (aS .LtE) (λx y H Q=>X2 λi j=>x=.str i/\y=.str j/\Q (.bl (!decide ÖB)) H):=by intro ai s σ H x y v u Q I a b h;obtain i|j|rfl|rfl|q:=h;obtain t|rfl:=a;obtain t'|rfl:=b;exact PySem.P.le_str (ZV I q rfl)
universe E
theorem Zrp{d:aa}{o:aN}{kvs:ś}{g:TG}{j:TS}{D:XU}{a:St}{H:Hp}(Pv:ÆD)(h0:Pv 0 a H)(hl:∀i a H,Pv i a H->H d=U Ác)
  (hs:∀i k x a H,kvs[i]? = U (k,x,)->Pv i a H->g (kV k) a H λc f=>j { D with nx:=Pv (i+1),ct:=Pv (i+1),bk:=Č } c f) (hd:#[hP,a,û]) :
  ∃W:Nat->Nat->St->Hp->Prop,ËI/\∀i m a H,W i m a H ->
   ((Û1).stop i H/\Č a H)\/((Û1).go i H/\∃N:St->Hp->Prop,#[eZ,h,b,l]/\∀x b,(Û1).yld i H x b->g x a b λc f=>j { D with nx:=N,ct:=N,bk:=Č } c f):=by
 rw[eA,û];have n:=hl i a H p;by_cases q:i<û
 ·refine .inr ((n,q),Pv (i+1),λh b r=>(û-(i+1),by lia,rfl,q,r),λx b y=>?_);obtain rfl|k'|s|e|rfl:=y;exact hs i k' s a _ e p
 ·have e:ÌY:=by lia
  exact .inl ((n,by lia),hd a H Åt)
universe E.L2
namespace L2
open PySem PyProof.Rows
universe E.L2
namespace L2
open PySem PySem.Spec PyProof.Rows
universe E.L2
namespace L2
open PySem PySem.Builtin PySem.Builtin.Str PyProof.Rows
def ZrQ:V->À V->Hp->VK->Prop:=λx vs H Q=>X2 λz y:ah=>C3 (x=.str z) #[za,y] (Q (.bl (Êc z y)) H)
theorem Pt{X:Cx}:MtR X "str.startswith" ZrQ:=by intro ai s σ H x vs v us Q I a b h;obtain z|y|rfl|rfl|q:=h;obtain t|rfl:=a;obtain u|rfl|c:=b.one;obtain d|rfl:=c;exact call_gives F.slot_str_startswith Ía F.entry_str_startswith (F.args_str_startswith_2 _ _) (gives_str_startswith z y t d) #[hM,_,q]
universe E.L2
namespace L2
open PySem PyProof.Rows
def Xs(its:Nat->ĉ ae):Nat->ĉ ae
 | 0=>#[]
 | i+1=>Xs its i++its i
theorem ZsR(its:Nat->ĉ ae):∀ {i j:Nat},i<=j->(ØP).size<=(Xs its j).size:=by
 intro i j h;induction h with
 | refl=>exact Qj _
 | step _ a=>refine Qk a ?_;show _<=(_++_:ĉ ae).size;rw[Ð1];lia
section
variable {ÿ:aw} {w:aF} {A:aD} {R:È9->aj->Prop} {I:aa} {fp wr:À aa} {n:Nat} {P:Nat->ae->Prop} {St:Nat->aI->Prop}
theorem ZhQ(W:Walks ÿ w Än I fp wr n P St)(d:Nat->aa)(its:Nat->ĉ ae)(L:Nat->Nat)(Fg:∀i v,P i v->v=.ref (d i))(S:aa)(M:S ∉ fp)(N:∀i,i<n->d i ∉ wr/\d i≠S)(hsz:(Xs its n).size<=aq)(u:∀b∈wr,b<S) :
  ∀ (k i:Nat) (s:aj) (T c l:Nat),n-i=k->i<=n->St i Ð->ì S=U { cls:=Ĺ,Ξ:=af,Ò:=.seq #[.ref T] c,Áo:=#[] } ->
  Êd Ð T ØP l->T ∉ wr->T≠S->(∀j,j<n->Êd Ð (d j) (its j) (L j)) ->
  (∀a tk g x,(∀b o,b ∉ wr->b≠S->ì b=U o->Ã9 b=U o)->Êd a g (Xs its n) x->(g=T/\i=n\/S<g)->R (.ok (.ret (.ref g))) { s with Ø:=a,ï:=tk }) ->
  bI à A (.builtin "sum.loop" ([.ref I,.ref S,ū 2,ū 0],[])) R s:=by
 have y:S ∉ wr:=λh=>M (W.sub _ h);intro k;induction k with
 | zero =>
  rw[xf];have qo:i=n:=by lia
  subst qo;rw[42];refine am (cm (W.done s _ _ B λa tk f=>?_));exact aB (G a tk T l (λb o q _ e=>f b o q e) (f _ _ D C) (.inl ć))
 | succ k ih =>
  rw[xf];have r:i<n:=by lia
  rw[42];refine am (cm (W.item i s _ _ r B λv a tk hP Fj f=>?_));have hv:=Fg i v hP;subst hv;have H:=f S _ y p;have yH:Êd a T ØP l:=f _ _ D C;have Q:∀j,j<n->Êd a (d j) (its j) (L j):=λj m=>f _ _ (N j m).1 (O j m);have V:S<ÅD:=Qs H;have Fm:(ØP).size+(its i).size<=aq:=by have:=ZsR its (show i+1<=n from r);have e:(Xs its (i+1)).size=(ØP).size+(its i).size:=Ð1;lia
  show av _ Än ((ÁU [è (d i)] (Â5 .Add (.ref T) (.ref (d i)))).attempt >>= _) _ _ _;refine am (Ð8 (ba (ÕC yH (Q i r) ?_ Fm)));have X:=Qc { cls:=Ĺ,Ò:=.seq (Xs its i++its i) } H;have J:#[lf].get? ÅD=U { cls:=Ĺ,Ò:=.seq (Xs its i++its i) }:=Qv _ rfl;show av _ Än (updateSeq S (λ_=>#[.ref ÅD]) >>= _) _ _ _;refine am ?_;refine ÉP X rfl ?_;have Y:=QZ Òi X rfl;rw[sf,cP];refine am ?_;have Ċ:∀b o,b≠S->Ã9 b=U o->((#[lf].update S Òi).update S Òi).get? b=U o:=λb o t e=>(QW _ _ (Κ t)).trans ((QW _ _ (Κ t)).trans (Qc _ e));have Fo:=Qs H;have K:ÅD≠S:=Q2 Fo;refine ÉP Y rfl (aB (plainId_quiet Òj _,ih (i+1) _ ÅD _ _ Á r (W.frame _ _ _ Fj λb t o e=>Ċ b o (λz=>M #[ev,z,t]) e) (QZ _ Y rfl) ((QW _ _ (Κ K)).trans ((QW _ _ (Κ K)).trans J)) (λz=>Qal _ (ÌL (u _ z) V)) K (λj m=>Ċ _ _ (N j m).2 (Q j m)) λlU Fq g x Fs Ft bP=>?_))
  ·refine G lU Fq g x (λb o q Z e=>Fs b o q Z (Ċ b o Z (f b o q e))) Ft (.inr ?_);rcases bP with⟨rfl,_⟩|h
   ·exact V
   ·exact h
universe E
section
variable {X:Cx}
theorem Zo9(a b:ae):argsOk "sum" ([a,b],[]):=by unfold argsOk;kernel_rfl
def J9(K:Å):À V->Hp->VK->Prop:=λxs H Q=>X4 λ(p a:aa) (b:À aa) (yss:À (À V))=>C7 (xs=#[hk,p,a]) (SqL K H p (ÀS õ)) (H a=U Ź) (Œ=Íh) ((∀ (i:Nat) (r:aa) (ys:À V),b[i]? = U r->yss[i]? = U ys->H r=U Ãf)) (yss.flatten.length<=aq) (∀ (l:aa) (H':Hp),H' l=U (.lst yss.flatten)->ZB H H'->(l=a\/H l=af)->Q Đ H')
theorem J8{yss:#[hf,V]}{f:Nat->À ae}(h:∀i ys,yss[i]? = U ys->ZH ys (f i)):∀i,i<=Íh->ZH (yss.take i).flatten (Xs (λi=>(f i).toArray) i).toList
 | 0,_=>.nil
 | i+1,hi=>by have ih:=J8 h i (Nat.le_of_succ_le hi);have e:yss[i]? = U yss[i]:=Qb hi;rw[QH,e];show ZH ((yss.take i)++[yss[i]]).flatten (Xs _ i++(f i).toArray).toList;rw[Qat,Array.toList_append];simpa using ih.append (h i _ e)
theorem Zmy(hc:ť):YN X ÌN (J9 X.K):=by
 rw[aR];obtain p|a|d|yss|rfl|hq|Y|G|vH|C|q:=h;obtain u1|u2|rfl|r1|r2:=Ue r;cases r1;cases r2;obtain its|Z|J|_:=ÁW hq;obtain za|AE|na|ra|B9|D:=ÆZ Y;have hT:Åh Ĩ "list":=(_,D,rfl);have cA:p≠Ï:=by obtain _|_|e|_:=J;exact QB (Qs e)
 refine call_function_tree F.kind_sum F.plain_sum F.entry_sum (Zo9 _ _) ?_;unfold be.«sum»;simp only[Èw,Æ3];rw[Æ Ì];refine am (Ð7 (show be.Builtins.bindParams "sum" ["start"] 0 ([.ref a],[])=pure [U Ĩ] from rfl) ?_);refine am (b9 J.isList ?_);have O:({ s with Ø:=γ { cls:=.type "list_iterator",Ò:=.fields #[.ref p,.int 0 0] } }:aj).TypeIs Ĩ "list":=(_,Qc _ D,rfl);rw[sf,aB];simp only[ÐQ,List.forIn_nil];rw[f2,am,F.sub_list_str];rw[f2,aB,F.sub_list_bytes];rw[f2,aB,F.sub_list_bytearray];refine aB (aB ?_);rw[sf,bw];have nat:∀ {x y:aa},x=y->(x:Nat)=(y:Nat):=λh=>h;have lt:∀ {b:aa} {o:aN},ì b=U o->b<Ï:=λe=>Qs e;have pj:∀i:Nat,∃K:À ae,∃c:Nat,∀r t,d[i]? = U r->yss[i]? = U t->ZH t K/\IsL Ð r K.toArray c:=λi=>by
  by_cases k:i<ņ
  ·have h1:d[i]? = U d[i]:=Qb k;have h2:yss[i]? = U (yss[i]' Á):=Qb Á;obtain _|K|c|P|_|e:=ÆZ (vH i _ _ h1 h2);exact(K,c,λr t g l=>by rw[h1]at g;rw[h2]at l;cases g;cases l;exact(P,e))
  ·exact([],0,λr t g=>Ç (Į g).1 k)
 obtain f|L:=ØQ pj;obtain cp|L:=ØQ L;have M:Ãc=ņ:=by rw[QS,<- Z.length,Qa]
 have R:=J8 (yss:=yss) (f:=f) (λi t e=>by
  have k:i<ņ:=by rw[G];exact(Į e).1
  exact(L i _ t (Qb k) e).1) Íh î
 rw[Qz î]at R;have S:∀b o,ì b=U o->(#[85].push { cls:=Ĺ,Ò:=.seq #[.ref a] }).get? b=U o:=λb o e=>Qc _ (Qc _ e);have w:#[85].objs.size=Ï+1:=Q3 ..;obtain op|np|ep|_:=id J;have mV:=lt ep;have has:=lt D;have V:∀j,j<Ãc->∃r,d[j]? = U r/\Çr j 0=r/\IsL Ð r (f j).toArray (cp j):=λj N=>by rw[M]at N;have g:d[j]? = U d[j]:=Qb N;exact(_,g,by rw[QM,g];rfl,(L j _ _ g (Qb (by lia:j<Íh))).2)
 refine aB (plainId_quiet Òj _,ZhQ (ÐY (A:=X.A.in1) Âv Ï p cA ŝ) (λi=>Çr i 0) (λi=>(f i).toArray) cp #[iw,i,v,hv] _ ?_ (λi k=>?_) ?_ ?_ Ãc 0 _ a 0 na rfl (Qt _) ?_ Åq ?_ ?_ ?_ (λj N=>?_) λh' tk n c' hk yH bP=>?_)
 ·have k:=(É1 hv).1;obtain r|g|l|_:=V i k;obtain u|B|ru:=Z.get (i:=i) (x:=.ref r) #[sh,Qr,g];have Bk:its[i]? = U v:=by rw[<- hv];simp
  rw[hL,Bk,B];cases ru;show è r=è (Çr i 0);rw[l]
 ·show (γ _).objs.size ∉ [Ï,p];rw[w];intro m;rcases ħ m with h|h
  ·exact ÖJ _ h
  ·exact Q2 (Qbi mV) (Ý h)
 ·obtain r|_|l|B:=V i k;have:=lt B;show Çr i 0 ∉ [Ï]/\Çr i 0≠#[pp].objs.size;rw[l,w];exact(λm=>by exact QB this (Ý m),λm=>QB (Qbi this) m)
 ·rw[M,G];exact Qk (È6 #[ev,QaE,R.length.symm]) C
 ·intro b E;rw[Ý E];show Ï<#[pp].objs.size;rw[w];exact Qbs _
 ·exact((_,Qc _ Åq,rfl,rfl),(J.isList.push _).push _)
 ·have:AE=[]:=by cases AE with
   | nil=>rfl
   | Ë x y=>cases B9
  rw[this]at D;exact S _ _ D
 ·exact λm=>QB has (Ý m)
 ·show a≠#[pp].objs.size;rw[w];exact λm=>QB (Qbi has) m
 ·obtain r|_|l|B:=V j N;show IsL _ (Çr j 0) _ _;rw[l];exact S _ _ B
 ·rw[M,G]at yH;have kk:ÏB:=λb u e=>hk b u (λm=>QB (lt e) (Ý m)) (by show b≠#[pp].objs.size;rw[w];exact λm=>QB (Qbi (lt e)) m) (S b u e);rcases bP with⟨rfl,h0⟩|hgt
  ·have:yss=[]:=by rw[M,G]at h0;exact Äx h0.symm
   subst this;exact(.ref n,H,Âw (t':=tk) kk,rfl,q n H Y (ÂC _) Ď)
  ·have W:Ï<=n:=by have:#[85].objs.size<n:=hgt;rw[w]at this;exact Qba (Nat.lt_of_succ_lt this)
   refine(.ref n,_,À7 (a:=n) (t':=tk) (h':=h') (o:=.lst yss.flatten) kk W (C,_,c',R,by simpa using yH),rfl,q n _ Zb (λb o E=>by rw[Zf (λz=>by rw[z,ÃJ W]at E;cases E)];exact E) (.inr (ÃJ W)))
theorem J7(K:Å)(hc:ť:=by rfl)(h:X.K=K:=by rfl):YN X ÌN (J9 K):=by subst h;exact Zmy hc
universe E
universe E.L2
set_option maxHeartbeats 9000000
namespace My
open PySem L2 PyProof.Rows
abbrev YY:=@List.tail aL
abbrev YX(x:ſ):=YY (YY x)
abbrev YM(x:ſ):=YX (YX x)
abbrev YW(x:ſ):=YM (YM x)
abbrev ľ(x:ſ):=YW (YW x)
abbrev Ţ(x:ſ):=ľ (ľ x)
abbrev Zt64(x:ſ):=Ţ (Ţ x)
local macro_rules|`(‹$i:num›)=>`(@pv _ $i _ _ (by rfl) (Or.inl rfl) (by decide) (by decide))
local macro_rules|`(tactic|trivial)=>`(tactic|first|exact .inl rfl|exact .inr rfl|decide|exact Nat.le_refl _|lia)
def hdS:À aL->aL
 | a::_=>a
 | []=>.Pass (0,0,0,0)
abbrev ZI:À aL:=PySem.Challenge.pw_mergetree_k73_whole_sheets_walked.main.body
abbrev Zip:aL:=hdS Êe
abbrev Zmv:aL:=hdS Êf
abbrev Sv:aL:=hdS (ľ Êf)
abbrev XH:aL:=hdS (ľ ÅF)
abbrev ZsV:aL:=#[rv,YY,ZI]
abbrev Ps:aL:=hdS (YW ZI)
abbrev Pr:aL:=hdS (YW (YY ZI))
abbrev Pq:aL:=hdS (YW Âd)
abbrev Pp:aL:=hdS (YW (YM ZI))
abbrev Po:aL:=hdS (YW Êe)
abbrev Pn:aL:=hdS (YW Êf)
abbrev Pm:aL:=hdS (YW ÅF)
abbrev Pk:aL:=hdS (ľ ZI)
abbrev Pj:aL:=hdS (ľ (YX ZI))
abbrev Pg:aL:=hdS (ľ Âd)
abbrev Pf:aL:=hdS (ľ (YW ZI))
abbrev Pe:aL:=hdS (ľ (YW (YY ZI)))
abbrev Pd:aL:=#[s0,Âd]
abbrev Pc:aL:=hdS (Ţ (ľ (YM ZI)))
abbrev Pb:aL:=#[s0,Êe]
abbrev Pa:aL:=#[s0,Êf]
abbrev O9:aL:=#[s0,ÅF]
abbrev O8:aL:=hdS (Ţ (ľ (YW ZI)))
abbrev O4:aL:=hdS (Ţ (ľ (YW (YY ZI))))
abbrev O0:aL:=hdS (Ţ (ľ (YW (YX ZI))))
abbrev Su:aL:=hdS (Ţ (ľ (YW Âd)))
abbrev OZ:aL:=#[rv,YX,ZI]
abbrev OY:aL:=hdS (Zt64 Âd)
abbrev TW:aL:=#[rv,YM,ZI]
abbrev OX:aL:=#[fJ,YM,YY]
abbrev OW:aL:=#[fJ,YM,YX]
abbrev OV:aL:=hdS (Zt64 ÅF)
abbrev OU:aL:=#[rv,YW,ZI]
abbrev OT:aL:=#[fJ,YW,YY]
abbrev OR:aL:=#[fJ,YW,YX]
abbrev OQ:aL:=#[rv,YW,Âd]
abbrev OP:aL:=#[fJ,YW,YM]
abbrev OO:aL:=#[fK,YW,YM,YY]
abbrev Ss:aL:=#[fJ,ľ,YX]
abbrev TV:aL:=#[rv,ľ,Âd]
abbrev ON:aL:=#[fK,ľ,YM,YX]
abbrev OM:aL:=#[rv,ľ,ÅF]
abbrev OL:aL:=#[fJ,ľ,YW]
abbrev Sr:aL:=#[fK,ľ,YW,YY]
abbrev Sq:aL:=#[fK,ľ,YW,YX]
abbrev OK:aL:=#[rY,ľ,Âd]
abbrev OJ:aL:=#[fK,ľ,YW,YM]
abbrev So:aL:=#[rY,ľ,Êe]
abbrev OI:aL:=#[rY,ľ,Êf]
abbrev Sn:aL:=#[rY,ľ,ÅF]
abbrev OH:aL:=#[rv,Ţ,ZI]
abbrev OF:aL:=#[fJ,Ţ,YY]
abbrev OE:aL:=#[fJ,Ţ,YX]
abbrev OD:aL:=#[rv,Ţ,Âd]
abbrev OC:aL:=#[fJ,Ţ,YM]
abbrev Sl:aL:=#[fK,Ţ,YM,YY]
abbrev TU:aL:=#[fK,Ţ,YM,YX]
abbrev OB:aL:=#[rv,Ţ,ÅF]
abbrev OA:aL:=#[fJ,Ţ,YW]
abbrev Oz:aL:=#[fK,Ţ,YW,YY]
abbrev Sk:aL:=#[fK,Ţ,YW,YX]
abbrev Sj:aL:=#[rY,Ţ,Âd]
abbrev Oy:aL:=#[fK,Ţ,YW,YM]
abbrev Vp:aL:=#[rY,Ţ,Êe]
abbrev Z7:aL:=Z9 Zip 0
abbrev TR:aL:=Z9 Zmv 0
abbrev Ox:aL:=Z9 Sv 0
abbrev Ow:aL:=Z9 Sv 2
abbrev Ov:aL:=Z9 Sv 3
abbrev Ou:aL:=Z9 Sv 4
abbrev Ot:aL:=Z9 XH 0
abbrev Oq:aL:=Z9 XH 1
abbrev Op:aL:=Z9 XH 2
abbrev Oo:aL:=Z9 XH 3
abbrev Si:aL:=Z9 XH 4
abbrev Sg:aL:=Z9 XH 5
abbrev Om:aL:=Z9 XH 6
abbrev Ol:aL:=Z9 XH 7
abbrev Oj:aL:=Z9 XH 9
abbrev Oi:aL:=Z9 XH 10
abbrev Oh:aL:=Z9 XH 11
abbrev Og:aL:=Z9 XH 12
abbrev Of:aL:=Z9 XH 13
abbrev Oe:aL:=Z9 XH 14
abbrev Oc:aL:=Z9 XH 15
abbrev Ob:aL:=Z9 XH 16
abbrev Oa:aL:=Z9 XH 17
abbrev N9:aL:=Z9 ZsV 0
theorem J6:Zm ["_law_cell", "_law_k", "_law_m"] Íi (Zh ON):=Ù
theorem J5:Zm ["_law_script", "_law_k", "_law_cell"] Íj (Zh OM):=Ù
theorem J4:Zm ["_law_left_here", "_law_many", "_law_digit"] ÅG (Zh OL):=Ù
theorem J3:Zm ØR Äy (Zh Sr):=Ù
theorem N8:Zm ØS Ík (Zh Sq):=Ù
theorem N7:Zm ØT Äz (Zh Pm):=Ù
theorem ZpG:Zm ÂL ÂL (Zh Pp):=Ù
theorem J2:Zm Çs Çs (Zh So):=Ù
theorem TQ:Zm ["_law_left_here", "_law_stems_here", "_law_most", "_law_found", "_law_k", "_law_key_here"] Ãq (Zh OK):=Ù
theorem Sf:Zm ["row", "told", "place", "key"] ["row"] (Zh Pg):=Ù
theorem ZkW:Zm Êg Êg (Zh Pk):=Ù
theorem ZpC:Zm ÂL ÂL (Zh Po):=Ù
theorem J1:Zm ØT Äz (Zh Pn):=Ù
theorem J0:Zm ["keys", "place"] ["keys"] (Zh Pj):=Ù
theorem JZ:Zm ["numbers", "middle"] Ãr (Zh Ps):=Ù
theorem ZjP:Zm ð ð (Zh Ow):=Ù
theorem Zlp:Zm ð ð (Zh Ov):=Ù
theorem ZlT:Zm ÂM ÂM (Zh Ox):=Ù
theorem ZfK:Zm Çt Çt (Zh Z7):=Ù
theorem Zg2:Zm Êh Êh (Zh TR):=Ù
theorem Vo:Zm ["numbers", "n", "others", "side", "first", "rest"] ÄA (Zh Pr):=Ù
theorem JY:Zm ["thing", "sign"] ["thing"] (Zh Pq):=Ù
theorem Zg5:Zm ÂM ÂM (Zh Ou):=Ù
theorem N6:Zm ["self", "rows", "number", "keys"] Íl (Zh Ot):=Ù
theorem JX:Zm ÄB ð (Zh Oq):=Ù
theorem JW:Zm #[fQ,"thing"] ð (Zh Op):=Ù
theorem JV:Zm ["self", "many", "things"] Ím (Zh Oo):=Ù
theorem Ziy:Zm ð ð (Zh Si):=Ù
theorem ZhE:Zm ð ð (Zh Sg):=Ù
theorem Zfu:Zm ð ð (Zh Om):=Ù
theorem Zh6:Zm ð ð (Zh Ol):=Ù
theorem Se:Zm ["self", "row", "number"] ÄB (Zh Oj):=Ù
theorem Sd:Zm ["self", "n", "many"] ÁF (Zh Oi):=Ù
theorem TN:Zm ["self", "n", "keys", "row", "sent_nothing"] Çu (Zh Oh):=Ù
theorem JU:Zm ÁF ÁF (Zh Og):=Ù
theorem Zf5:Zm ð ð (Zh Of):=Ù
theorem V6:Zm ["self", "numbers", "first_side", "other_side", "one", "other", "winner", "loser", "far"] Ín (Zh Oe):=Ù
theorem TM:Zm ["self", "number", "row", "comer", "meeting"] Ío (Zh Oc):=Ù
theorem TK:Zm ["self", "meeting", "comer", "stayer", "winner", "loser", "far"] Íp (Zh Ob):=Ù
theorem Sc:Zm ["self", "one", "other", "far", "order", "alike_far", "seen"] Íq (Zh Oa):=Ù
theorem Sb:Zm ["number", "keys", "place"] Êi (Zh Pf):=Ù
theorem Vn:Zm ["numbers", "n", "matches", "least", "greatest", "others"] ÄA (Zh Pe):=Ù
theorem N5:Zm ["kind", "word", "least", "most"] Ír (Zh Pd):=Ù
theorem Zko:Zm Âe Âe (Zh Pc):=Ù
theorem ZlJ:Zm Âe Âe (Zh Pb):=Ù
theorem JT:Zm ["word", "least", "most", "number"] Ís (Zh Pa):=Ù
theorem JS:Zm ["word", "sign"] Âe (Zh O9):=Ù
theorem ZhK:Zm ["key"] ["key"] (Zh O8):=Ù
theorem Zgr:Zm Êj Êj (Zh O4):=Ù
theorem ZhM:Zm ["words"] ["words"] (Zh O0):=Ù
theorem Zfz:Zm Ãr Ãr (Zh Su):=Ù
theorem ZjT:Zm ð ð (Zh N9):=Ù
theorem VR:Zm ["text", "orders", "desk", "answers", "word", "singles", "further", "deed"] ["text"] (Zh OZ):=Ù
theorem TH:Zm ["text", "orders", "line", "row", "order"] ["text"] (Zh OY):=Ù
theorem VQ:Zm Òk ["row"] (Zh TW):=Ù
theorem Zgd:Zm Êk Êk (Zh OX):=Ù
theorem JR:Zm ØU ÄC (Zh OW):=Ù
theorem JQ:Zm ØU ÄC (Zh OV):=Ù
theorem JP:Zm ["desk", "singles", "further", "name"] Ŀ (Zh OU):=Ù
theorem Zlb:Zm Ŀ Ŀ (Zh OR):=Ù
theorem JO:Zm Òl Òm (Zh TV):=Ù
theorem Zrr:Zm Ãq Ãq (Zh OJ):=Ù
theorem Ziu:Zm Ít Ít (Zh OE):=Ù
theorem Zm1:Zm ÅH ÅH (Zh TU):=Ù
theorem Zio:Zm Êl Êl (Zh Sk):=Ù
theorem JN:Zm ["desk", "singles", "further", "thing"] Ŀ (Zh OT):=Ù
theorem Zk7:Zm Ŀ Ŀ (Zh OQ):=Ù
theorem Zly:Zm Ŀ Ŀ (Zh OO):=Ù
theorem Zga:Zm Çv Çv (Zh Ss):=Ù
theorem Zit:Zm Ŀ Ŀ (Zh OP):=Ù
theorem Zmn:Zm [] [] (Zh OI):=Ù
theorem Zin:Zm Êm Êm (Zh Sn):=Ù
theorem TF:Zm ["_law_desk", "_law_word", "_law_name", "_law_keys_here", "_law_rows", "_law_n", "_law_old", "_law_out"] Íu (Zh OH):=Ù
theorem UL:Zm ["_law_desk", "_law_found", "_law_name", "_law_n", "_law_keys_here", "_law_out"] Çw (Zh OF):=Ù
theorem TC:Zm ["_law_desk", "_law_heads_here", "_law_key_here", "_law_n", "_law_name"] Çw (Zh OD):=Ù
theorem VP:Zm ["_law_desk", "_law_many", "_law_found", "_law_turn", "_law_heads_here", "_law_name", "_law_n", "_law_keys_here", "_law_out"] Ív (Zh OC):=Ù
theorem UK:Zm ØV Äy (Zh Sl):=Ù
theorem N4:Zm ["_law_left_here", "_law_names_here", "_law_stems_here", "_law_word", "_law_keys_here"] Íw (Zh OB):=Ù
theorem TB:Zm ["_law_left_here", "_law_many", "_law_rows", "_law_turn", "_law_part"] ÅG (Zh OA):=Ù
theorem Z4:Zm ["_law_script", "_law_left_here", "_law_names_here", "_law_stems_here", "_law_desk", "_law_rows", "_law_due", "_law_others", "_law_k", "_law_total", "_law_word", "_law_name", "_law_keys_here", "_law_many"] ÅI (Zh Oz):=Ù
theorem JM:Zm ØW ÅJ (Zh Sj):=Ù
theorem Sa:Zm ["_law_some", "_law_told", "_law_at", "_law_row_here", "_law_further"] ÅJ (Zh Oy):=Ù
theorem WB:Zm ["_law_script", "_law_rows", "_law_due", "_law_others", "_law_whole", "_law_found", "_law_at", "_law_some", "_law_answer", "_law_told"] ÅI (Zh Vp):=Ù
abbrev zsc(l:#[hz,aT]):bn:={ kind:=.function,Á2:=l,isGenerator:=false,isCoroutine:=false,Ŋ:=[] }
def Zss:bn:=zsc [Âf,Òn,#[fS,"_law_pick"],ØX,("_law_some",.free,)]
theorem Tz:Z2 ØR ["_law_left_here", "_law_some", "_law_k"] (Zh Sr) Zss:=μ
def Zs9:bn:=zsc [Âf,Òn,#[fS,"_law_pick"],#[fS,"len"],ØX,("_law_letters",.free,)]
theorem Vm:Z2 ØS ["_law_left_here", "_law_stems_here", "_law_letters", "_law_tail", "_law_k"] (Zh Sq) Zs9:=μ
def Zso:bn:=zsc [Âf,#[eQ,"_law_one"],#[eQ,"_law_other"],#[fS,"_law_same"]]
theorem UJ:Z2 Çs ["_law_found", "_law_due", "_law_one", "_law_other"] (Zh So) Zso:=μ
def ZsG:bn:=zsc [Âf,#[eQ,"row"]]
theorem N3:Z2 ð ÄB (Zh Si) ZsG:=μ
def Zse:bn:=#[sw,"number","row"]
theorem Tx:Z2 ð ["self", "number", "row"] (Zh Sg) Zse:=μ
def ZsF:bn:=#[sx,"number","str"]
theorem N0:Z2 Ãr ["numbers", "number"] (Zh Su) ZsF:=μ
def Zsa:bn:=zsc [Âf,#[eQ,"kind"],#[eQ,"word"],#[fS,"read_word"]]
theorem UI:Z2 Òk ["row", "first", "others", "single_kinds", "further_kind", "many", "singles", "further", "kind", "word"] (Zh TW) Zsa:=μ
def Zr4:bn:=zsc [Âf,#[eQ,"word"],#[fS,"read_word"],("further_kind",.free,)]
theorem Tw:Z2 Òk ["row", "first", "others", "single_kinds", "further_kind", "many", "singles", "further", "word"] (Zh TW) Zr4:=μ
def ZsA:bn:=#[sw,"name","number"]
theorem Tv:Z2 Òl ["desk", "heads", "names", "name", "number"] (Zh TV) ZsA:=μ
def Zsz:bn:=zsc [Âf,#[eQ,"row"],#[eQ,"key"],#[fS,"written_thing"],("names",.free,)]
theorem Vl:Z2 Òl ["desk", "heads", "names", "row", "key"] (Zh TV) Zsz:=μ
def ZqA:bn:=#[sx,"_law_part","str"]
theorem NZ:Z2 ÅH ["_law_word", "_law_parts", "_law_keys_here", "_law_part"] (Zh TU) ZqA:=μ
def Zqt:bn:=#[sx,"_law_key_here","_law_key_text"]
theorem R9:Z2 ÅH ["_law_word", "_law_parts", "_law_keys_here", "_law_key_here"] (Zh TU) Zqt:=μ
def Zpu:bn:=#[sx,"_law_row_here","len"]
theorem R8:Z2 Êl ["_law_rows", "_law_row_here"] (Zh Sk) Zpu:=μ
def ZqX:bn:=zsc [Âf,#[eQ,"row"],#[eQ,"place"],#[eQ,"key"]]
theorem UH:Z2 Çv ["desk", "things", "row", "place", "key"] (Zh Ss) ZqX:=μ
def Zqf:bn:=#[sw,"_law_one","_law_other"]
theorem Tu:Z2 Êm ["_law_keys_here", "_law_one", "_law_other"] (Zh Sn) Zqf:=μ
def ZrG:bn:=zsc [Âf,Òn,("_law_at",.free,),("_law_letters",.free,)]
theorem VO:Z2 ØV ["_law_left_here", "_law_some", "_law_first", "_law_letters", "_law_at", "_law_k"] (Zh Sl) ZrG:=μ
def Zqn:bn:=#[sw,"_law_row_here","_law_answer"]
theorem UG:Z2 ØW ["_law_some", "_law_told", "_law_parts", "_law_row_here", "_law_answer"] (Zh Sj) Zqn:=μ
structure Bt (mg:Ă):Prop where
 n_abs:mg "abs" = af
 n_all:mg "all" = af
 n_bool:mg "bool" = af
 n_enumerate:mg "enumerate" = af
 n_int:mg "int" = af
 n_isinstance:mg "isinstance" = af
 n_len:mg "len" = af
 n_list:mg "list" = af
 n_max:mg "max" = af
 n_min:mg "min" = af
 n_range:mg "range" = af
 n_sorted:mg "sorted" = af
 n_str:mg "str" = af
 n_sum:mg "sum" = af
 n_tuple:mg "tuple" = af
 n_zip:mg "zip" = af
structure ZN (K:Å) (mg:Ă) (au:aa) (ak:aa) (ax:aa) (ap:aa) (aH:aa) (ay:aa) (ao:aa) (ar:aa):Prop where
 b:Bt mg
 t_halves:Top K mg "halves" Ps Ãr
 t_way_up:Top K mg "way_up" Pr ÄA
 t_is_key:Top K mg "is_key" Pq ["thing"]
 t_alike:Top K mg "alike" Pp ÂL
 t_liken:Top K mg "liken" Po ÂL
 t_liken_from:Top K mg "liken_from" Pn Äz
 t_alike_from:Top K mg "alike_from" Pm Äz
 t_order_at:Top K mg "order_at" Pk Êg
 t_first_break:Top K mg "first_break" Pj ["keys"]
 t_alikes:Top K mg "alikes" Pg ["row"]
 t_refuse_break:Top K mg "refuse_break" Pf Êi
 t_matches_up:Top K mg "matches_up" Pe ÄA
 t_read_word:Top K mg "read_word" Pd Ír
 t_read_name:Top K mg "read_name" Pc Âe
 t_read_key:Top K mg "read_key" Pb Âe
 t_read_number:Top K mg "read_number" Pa Ís
 t_are_figures:Top K mg "are_figures" O9 Âe
 t_written_key:Top K mg "written_key" O8 ["key"]
 t_written_thing:Top K mg "written_thing" O4 Êj
 t_with_blanks:Top K mg "with_blanks" O0 ["words"]
 t_written_numbers:Top K mg "written_numbers" Su Ãr
 t_run:Top K mg "run" OZ ["text"]
 t_orders_in:Top K mg "orders_in" OY ["text"]
 t_order_in:Top K mg "order_in" TW ["row"]
 t_may_be_further:Top K mg "may_be_further" OX Êk
 t_do_row:Top K mg "do_row" OW ÄC
 t_do_grow:Top K mg "do_grow" OV ÄC
 t_do_drop:Top K mg "do_drop" OU Ŀ
 t_ask_coming:Top K mg "ask_coming" OT Ŀ
 t_ask_take:Top K mg "ask_take" OR Ŀ
 t_ask_left:Top K mg "ask_left" OQ Ŀ
 t_ask_counts:Top K mg "ask_counts" OP Ŀ
 t_ask_rows:Top K mg "ask_rows" OO Ŀ
 t_written_things:Top K mg "written_things" Ss Çv
 t_written_heads:Top K mg "written_heads" TV Òm
 t_l_mix:Top K mg "_law_mix" ON Íi
 t_l_left:Top K mg "_law_left" OM Íj
 t_l_pick:Top K mg "_law_pick" OL ÅG
 t_l_stems:Top K mg "_law_stems" Sr Äy
 t_l_key:Top K mg "_law_key" Sq Ík
 t_l_keys:Top K mg "_law_keys" OK Ãq
 t_l_row:Top K mg "_law_row" OJ Ãq
 t_l_same:Top K mg "_law_same" So Çs
 t_l_begun:Top K mg "_law_begun" OI []
 t_l_in_order:Top K mg "_law_in_order" Sn Êm
 t_l_deed_due:Top K mg "_law_deed_due" OH Íu
 t_l_heads:Top K mg "_law_heads" OF Çw
 t_l_key_text:Top K mg "_law_key_text" OE Ít
 t_l_coming:Top K mg "_law_coming" OD Çw
 t_l_taken:Top K mg "_law_taken" OC Ív
 t_l_names:Top K mg "_law_names" Sl Äy
 t_l_words:Top K mg "_law_words" TU ÅH
 t_l_deed:Top K mg "_law_deed" OB Íw
 t_l_pieces:Top K mg "_law_pieces" OA ÅG
 t_l_sheets:Top K mg "_law_sheets" Oz ÅI
 t_l_is_short:Top K mg "_law_is_short" Sk Êl
 t_l_joined:Top K mg "_law_joined" Sj ÅJ
 t_l_coming_right:Top K mg "_law_coming_right" Oy ÅJ
 t_OutOfOrder_init:UN K mg ao ap "OutOfOrder" "OutOfOrder.__init__" Z7 Çt
 t_BadLine_init:UN K mg ar ap "BadLine" "BadLine.__init__" TR Êh
 t_Row_init:UT K mg au "Row" "Row.__init__" Ox ÂM
 t_Row_to_go:Yn K au "to_go" "Row.to_go" Ow ð
 t_Row_head:Yn K au "head" "Row.head" Ov ð
 t_Row_lengthen:Yn K au "lengthen" "Row.lengthen" Ou ÂM
 t_Merge_init:UT K mg ak "Merge" "Merge.__init__" Ot Íl
 t_Merge_coming:Yn K ak "coming" "Merge.coming" Oq ð
 t_Merge_take:Yn K ak "take" "Merge.take" Op ð
 t_Merge_take_few:Yn K ak "take_few" "Merge.take_few" Oo Ím
 t_Merge_left:Yn K ak "left" "Merge.left" Si ð
 t_Merge_heads:Yn K ak "heads" "Merge.heads" Sg ð
 t_Merge_likenings:Yn K ak "likenings" "Merge.likenings" Om ð
 t_Merge_looks:Yn K ak "looks" "Merge.looks" Ol ð
 t_Merge_add_row:Yn K ak "add_row" "Merge.add_row" Oj ÄB
 t_Merge_drop_row:Yn K ak "drop_row" "Merge.drop_row" Oi ÁF
 t_Merge_grow:Yn K ak "grow" "Merge.grow" Oh Çu
 t_Merge_row_of:Yn K ak "row_of" "Merge.row_of" Og ÁF
 t_Merge_play_all:Yn K ak "play_all" "Merge.play_all" Of ð
 t_Merge_play:Yn K ak "play" "Merge.play" Oe Ín
 t_Merge_send_out:Yn K ak "send_out" "Merge.send_out" Oc Ío
 t_Merge_play_again:Yn K ak "play_again" "Merge.play_again" Ob Íp
 t_Merge_meet:Yn K ak "meet" "Merge.meet" Oa Íq
 t_Desk_init:UT K mg ax "Desk" "Desk.__init__" N9 ð
 cl_Row:Cls K au
 na_Row_all_keys:Yr K au "all_keys"
 na_Row_fars:Yr K au "fars"
 na_Row_gone:Yr K au "gone"
 cl_Merge:Cls K ak
 na_Merge_best:Yr K ak "best"
 na_Merge_likened:Yr K ak "likened"
 na_Merge_looked:Yr K ak "looked"
 na_Merge_next_number:Yr K ak "next_number"
 na_Merge_rows:Yr K ak "rows"
 na_Merge_stays:Yr K ak "stays"
 cl_Desk:Cls K ax
 na_Desk_merge:Yr K ax "merge"
 na_Desk_numbers:Yr K ax "numbers"
 g_DONE:∃tk,mg "DONE" = U (.str "done" tk)
 g_MOST_FIGURES:∃tk,mg "MOST_FIGURES" = U (.int 9 tk)
 g_MOST_KEY:∃tk,mg "MOST_KEY" = U (.int 40 tk)
 g_MOST_NAME:∃tk,mg "MOST_NAME" = U (.int 8 tk)
 g_MOST_ROWS:∃tk,mg "MOST_ROWS" = U (.int 16 tk)
 g_MOST_SIZES:∃tk,mg "MOST_SIZES" = U (.int 12 tk)
 g_NOTHING:∃tk,mg "NOTHING" = U (.str "-" tk)
 g_REFUSED:∃tk,mg "REFUSED" = U (.str "refused" tk)
 m_MergeError:mg "MergeError" = U ÄD
 m_Full:mg "Full" = U Ň
 m_NoRow:mg "NoRow" = U ň
 m_OutOfOrder:mg "OutOfOrder" = U ĵ
 m_BadLine:mg "BadLine" = U ŀ
 x_Full:WO K aH Çx
 x_OutOfOrder:WO K ao Çx
 xb_MergeError:XB K ap
 na_OutOfOrder_row:Yr K ao "row"
 na_OutOfOrder_place:Yr K ao "place"
 na_BadLine_line:Yr K ar "line"
 xw_Full:XW K mg aH ap "Full"
 xw_NoRow:XW K mg ay ap "NoRow"
 xg_Full:XG K aH
 ki_Full_MergeError:ē K Ň ÄD=U true
 ki_Full_Full:ē K Ň Ň=U true
 ki_Full_NoRow:ē K Ň ň=U false
 ki_Full_OutOfOrder:ē K Ň ĵ=U false
 ki_Full_BadLine:ē K Ň ŀ=U false
 ki_Full_V:ē K Ň Âc=U true
 xg_NoRow:XG K ay
 ki_NoRow_MergeError:ē K ň ÄD=U true
 ki_NoRow_Full:ē K ň Ň=U false
 ki_NoRow_NoRow:ē K ň ň=U true
 ki_NoRow_OutOfOrder:ē K ň ĵ=U false
 ki_NoRow_BadLine:ē K ň ŀ=U false
 ki_NoRow_V:ē K ň Âc=U true
 xg_OutOfOrder:XG K ao
 ki_OutOfOrder_MergeError:ē K ĵ ÄD=U true
 ki_OutOfOrder_Full:ē K ĵ Ň=U false
 ki_OutOfOrder_NoRow:ē K ĵ ň=U false
 ki_OutOfOrder_OutOfOrder:ē K ĵ ĵ=U true
 ki_OutOfOrder_BadLine:ē K ĵ ŀ=U false
 ki_OutOfOrder_V:ē K ĵ Âc=U true
 xg_BadLine:XG K ar
 ki_BadLine_MergeError:ē K ŀ ÄD=U true
 ki_BadLine_Full:ē K ŀ Ň=U false
 ki_BadLine_NoRow:ē K ŀ ň=U false
 ki_BadLine_OutOfOrder:ē K ŀ ĵ=U false
 ki_BadLine_BadLine:ē K ŀ ŀ=U true
 ki_BadLine_V:ē K ŀ Âc=U true
 kg:È4 K Ço "__get__" = U (U #[fb,"getset_descriptor.__get__"])
 kt:ØY K Ço=U true
structure Vk (K:Å) (w:aF) (mg:Ă) (bL:aa) (bc:aa) (bf:aa):Prop where
 m_BOUNDS:mg "BOUNDS" = U (.ref bL)
 kd_BOUNDS:KD K w bL
 d_BOUNDS_many:∃dL:aa,ī K bL "many" = U #[sp,dL]/\(∀H,SqT K H dL #[hO,0,1000000])
 m_DEEDS:mg "DEEDS" = U (.ref bc)
 kd_DEEDS:KD K w bc
 d_DEEDS_row:∀f,mg "do_row" = U ą->ī K bc "row" = U δ
 d_DEEDS_grow:∀f,mg "do_grow" = U ą->ī K bc "grow" = U δ
 d_DEEDS_drop:∀f,mg "do_drop" = U ą->ī K bc "drop" = U δ
 d_DEEDS_coming:∀f,mg "ask_coming" = U ą->ī K bc "coming" = U δ
 d_DEEDS_take:∀f,mg "ask_take" = U ą->ī K bc "take" = U δ
 d_DEEDS_left:∀f,mg "ask_left" = U ą->ī K bc "left" = U δ
 d_DEEDS_counts:∀f,mg "ask_counts" = U ą->ī K bc "counts" = U δ
 d_DEEDS_rows:∀f,mg "ask_rows" = U ą->ī K bc "rows" = U δ
 m_FORMS:mg "FORMS" = U (.ref bf)
 kd_FORMS:KD K w bf
 d_FORMS_row:X2 λdM fb:aa=>ī K bf "row" = U #[sp,fb]/\#[r5,dM]/\(∀H,SqT K H fb [.ref dM,.str "key"])
 d_FORMS_grow:X2 λdh eD:aa=>ī K bf "grow" = U #[sp,eD]/\#[r5,dh]/\(∀H,SqT K H eD [.ref dh,.str "key"])
 d_FORMS_drop:X2 λdj eE:aa=>ī K bf "drop" = U #[sp,eE]/\#[r5,dj]/\#[gj,eE,dj]
 d_FORMS_coming:X2 λcC dk:aa=>ī K bf "coming" = U #[sp,dk]/\#[sN,cC]/\#[gj,dk,cC]
 d_FORMS_take:X2 λdr eG:aa=>ī K bf "take" = U #[sp,eG]/\(∀H,SqT K H dr [.str "many"])/\#[gj,eG,dr]
 d_FORMS_left:X2 λdu eI:aa=>ī K bf "left" = U #[sp,eI]/\#[sN,du]/\#[gj,eI,du]
 d_FORMS_counts:X2 λcE dw:aa=>ī K bf "counts" = U #[sp,dw]/\#[sN,cE]/\#[gj,dw,cE]
 d_FORMS_rows:X2 λdA eJ:aa=>ī K bf "rows" = U #[sp,eJ]/\#[sN,dA]/\#[gj,eJ,dA]
def Y6(H:Hp)(p:aa)(c:Int):Prop:=X2 λa b:Int=>H p=U (.lst [.int a,.int b,.int c])/\0<=c
def But(p:aa)(H H':Hp):Prop:=#[eP,o,H,p,H']
theorem Çy{p:aa}{H d e:Hp}(a:But p H d)(b:But p d e):But p H e:=λc o h n=>b c o (a c o h n) n
theorem Ãs{p:aa}{H b:Hp}(a:ZB H b):But p H b:=λc o h _=>a c o h
theorem Zi{H:Hp}{p:aa}(h:H p=af)(o:HO):ZB H (upd H p o):=λb u q=>by rw[Zf (Ze q h)];exact q
theorem Ĭ{n:Nat}(h:n<=1000):n<=aq:=Qba (ZA h)
def NY:Sp:=λvs H Q _=>X2 λa k:Int=>C4 (vs=#[hO,a,k]) (-(2 ^ 62)<k) (k<2 ^ 62) (∀r:Int,0<=r->r<2000000000->Q (.int r) H)
def NX(K:Å):Sp:=λvs H Q _=>X3 λ(a:aa) (ns:À Int) (k:Int)=>C6 #[gs,a,k] Òo #[su,63] (0<=k) (k<100) (∀ (p:aa) (H':Hp),H p=af->Y6 H' p 0->ZB H H'->Q ş H')
def V5:Sp:=λvs H Q _=>X3 λ(p:aa) (c m:Int)=>C6 #[gs,p,m] ÄE (c<2 ^ 60) (0<m) (m<1000000) (∀ (r:Int) (H':Hp),0<=r->r<m->Y6 H' p (c+1)->But p H H'->Q (.int r) H')
theorem ZuD{ns:Ô}{k:Int}(h0:0<=k)(h:k<(ĩ:Int)):∃v:Int,atI ψ k=U (.int v):=by
 have a:Ãd<ĩ:=by lia
 have b:k=Çz:=by lia
 have q:atI ψ Çz=U (.int ns[Ãd]):=Ye #[iy,a];rw[<- b]at q;exact(_,q)
theorem NW{ss:Ê}{k:Int}(h0:0<=k)(h:k<Òp):∃s∈ss,atI Àw k=U (.str s):=by
 have a:Ãd<Ο:=by lia
 have b:k=Çz:=by lia
 have q:atI Àw Çz=U (.str ss[Ãd]):=Ye #[iy,a];rw[<- b]at q;exact(_,Qah a,q)
theorem JL(b:Ñ):-(2 ^ 64)<Òq/\Òq<2 ^ 64:=by cases b<;>decide
theorem Tt{z:ah}{k:Int}(h0:0<=k)(h:k<(Ś:Int)):∃c:Nat,Áz[Ãd]? = U c/\atI Áz k=U c:=by
 have hl:Õr:=by simp[Éh]
 have a:Ãd<ØZ:=by lia
 have b:k=Çz:=by lia
 have q:atI Áz Çz=U Áz[Ãd]:=Ye (Qb a);rw[<- b]at q;exact(_,Qb a,q)
theorem JK(sep:ah)(ys:Ê):(Õ9).length<=#[x2].sum+č*Ìk:=by
 have e:ō sep ys=Ĕ sep ys:=by simpa using ÅC sep ys
 rw[e];exact StrLaws.join_length_le sep ys
theorem JJ:∀ss:À ah,(∀s∈ss,ĝ<=1)->(ss.map ÀT).sum<=Ο
 | [],_=>Qj _
 | s::r,h=>by have h1:=h s QU;have h2:=JJ r λx a=>h x (Qm _ a);rw[Ql,QR,Qq];lia
def lcp:À Nat->À Nat->Nat
 | a::r,b::s=>if a=b then lcp r s+1 else 0
 | _,_=>0
theorem VN:∀ (x y:À Nat),lcp x y<=ĕ/\lcp x y<=ι
 | [],_=>(Qt _,Qt _)
 | _::_,[]=>(Qt _,Qt _)
 | a::r,b::s=>by
  have h:=VN r s;unfold lcp;split
  ·exact(Òr h.1,Òr h.2)
  ·exact(Qt _,Qt _)
theorem Vj:∀ (x y:À Nat),lcp x y=lcp y x
 | [],[]=>rfl
 | [],_::_=>rfl
 | _::_,[]=>rfl
 | a::r,b::s=>by
  unfold lcp;by_cases h:a=b
  ·rw[È h,È h.symm,Vj r s]
  ·rw[Æ h,Æ λe=>h Ä5]
theorem JI:∀x:À Nat,lcp x x=ĕ
 | []=>rfl
 | a::r=>by unfold lcp;rw[È rfl,JI r];rfl
theorem UF(x:Ō):lcp x []=0:=by cases x<;>rfl
theorem Ên(x:Ō):lcp [] x=0:=by cases x<;>rfl
theorem JH:∀ (x y:À Nat) (k:Nat),k<=lcp x y->∀a,x[k]? = U a->y[k]? = U a->k+1<=lcp x y
 | [],_,k,_,a,h,_=>by simp at h
 | _::_,[],k,_,a,_,h=>by simp at h
 | a::r,b::s,0,_,c,h1,h2=>by simp at h1 h2;unfold lcp;rw[È (by rw[h1,h2])];lia
 | a::r,b::s,k+1,h,c,h1,h2=>by
  unfold lcp at h ⊢;by_cases e:a=b
  ·rw[È e]at h ⊢;have:=JH r s k Á c #[ea,h1] #[ea,h2];lia
  ·rw[w2];lia
theorem JG:∀ (x y:À Nat) (k:Nat),k<lcp x y->x[k]? = y[k]?
 | [],_,k,h=>by unfold lcp at h;lia
 | _::_,[],k,h=>by unfold lcp at h;lia
 | a::r,b::s,0,h=>by
  unfold lcp at h;by_cases e:a=b
  ·simp[e]
  ·rw[w2];lia
 | a::r,b::s,k+1,h=>by
  unfold lcp at h;by_cases e:a=b
  ·rw[y3,e,h];simpa using JG r s k Á
  ·rw[w2];lia
theorem NV(x y:Ō)(k:Nat)(h:k<=lcp x y)(n:ĕ<=k\/ι<=k\/X2 λa b=>x[k]? = U a/\y[k]? = U b/\a≠b):lcp x y=k:=by
 have l:=VN x y;rcases n with n|n|⟨a,b,c,d,ne⟩
 ·lia
 ·lia
 ·by_cases q:k<lcp x y
  ·have:=JG x y k q;rw[c,d]at this;exact Ç (Qu this) ne
  ·lia
theorem NU:∀ (x y z:À Nat),#[zd,y,x,z,y]\/#[zd,y,y,z,x]\/#[zd,z,x,y,y]
 | [],y,z=>.inr (.inl #[sC,Ên,Ên])
 | x,[],z=>.inl #[sC,UF,Ên]
 | x,y,[]=>.inr (.inr #[sC,UF,UF])
 | a::r,b::s,c::t=>by
  have ih:=NU r s t;unfold lcp;by_cases f:a=b
  ·by_cases d:b=c
   ·rw[È f,È d,È (f.trans d)];lia
   ·rw[È f,Æ d,Æ λe=>d Ñt];lia
  ·rw[Æ f];by_cases d:b=c
   ·rw[È d,Æ λe=>f Ñu];lia
   ·rw[Æ d];lia
abbrev cds(z:ah):À Nat:=Áz
def AZ(z:ah):Prop:=∀c∈cds z,97<=c/\c<=122
theorem Wo(x y:ah):cds (x++y)=cds x++cds y:=by show (x++y).cps.toList=_;rw[PySem.Str.cps_append];simp
theorem AZ.app{x y:ah}(a:AZ x)(b:AZ y):AZ (x++y):=λc h=>by rw[Wo]at h;exact(ß h).elim (a c) (b c)
theorem AZ.nil:AZ "":=by unfold AZ cds;ac_rfl
theorem AZ.join:∀ys:À ah,(∀s∈ys,AZ s)->AZ (Ĕ "" ys)
 | [],_=>λc h=>by cases (show c∈([]:À Nat) from h)
 | [x],h=>h x Ó
 | x::y::r,h=>((h x Ó).app AZ.nil).app (AZ.join (y::r) λs hs=>h s (Qm _ hs))
theorem AZ.joinT(ys:Ê)(h:∀s∈ys,AZ s):AZ (ō "" ys):=by
 have e:ō "" ys=Ĕ "" ys:=by simpa using ÅC "" ys
 rw[e];exact AZ.join ys h
theorem AZ.one{z:ah}(a:AZ z){k:Nat}{c:Nat}(h:Áz[k]? = U c):AZ ŷ:=λd hd=>by
 have e:d=c:=by simpa using hd
 rw[e];exact a c (Qp h)
theorem AZ.ok{z:ah}(a:AZ z):Íx z=true:=by unfold Íx;rw[Ø0];intro i hi;have:=a Á6[i] Ó;exact Ñs
def R7:Sp:=λvs H Q _=>X2 λx y:ah=>C4 (vs=[.str x,.str y]) Êo Êp #[ir,lcp]
def R6:Sp:=λvs H Q _=>X3 λ(x y:ah) (a:Nat)=>C5 #[sr,a] Êo Êp (a<=lcp þ Ė) #[ir,lcp]
def IsD(H:Hp):Nat->V->V->Prop
 | 0,_,_=>Ē
 | n+1,x,y=>(x=y/\(x=.non\/(∃b,x=.bl b)\/(∃i,x=.int i)\/∃s,x=.str s)) \/
   (X4 λ(p q:aa) (xs ys:À V)=>x=.ref p/\y=.ref q/\((H p=U ÁV/\H q=U Ãf)\/(H p=U ÁR/\H q=U (.tup ys)))/\Ú=č/\Ú<=1000/\∀ (i:Nat) (x y:V),xs[i]? = U x->ys[i]? = U y->IsD H n x y)
theorem IsD.mono{H H':Hp}(s:Àa):∀ {n:Nat} {x y:V},IsD H n x y->IsD H' n x y
 | 0,_,_,h=>ω
 | n+1,x,y,h=>by
  rcases h with h|⟨p,q,xs,ys,c,d,h,hl,hz,hi⟩
  ·exact .inl h
  ·refine .inr (p,q,xs,ys,c,d,?_,hl,hz,λi x y a b=>(hi i x y a b).mono s);rcases h with⟨a,b⟩|⟨a,b⟩
   ·exact .inl (s _ _ a,s _ _ b)
   ·exact .inr (s _ _ a,s _ _ b)
def JF(n:Nat):Sp:=λvs H Q _=>X2 λx y:V=>C3 (vs=[x,y]) (IsD H n x y) Ø1
section
variable (K:Å)
open PySem.W
theorem ZoF:ÁG K ÃR ÇA=U false:=by unfold ÁG Ł ν;rfl
theorem ZpB:ÁG K Êq ÇA=U false:=by unfold ÁG Ł ν;rfl
theorem Zo5:ÁG K ÁA ÇA=U false:=by unfold ÁG Ł ν;rfl
theorem ZoW:ÁG K (.type "NoneType") ÇA=U false:=by unfold ÁG Ł ν;rfl
theorem ZoN:ÁG K Ãe ÇA=U true:=by unfold ÁG Ł ν;rfl
theorem Zpg:ÁG K Êr ÇA=U true:=by unfold ÁG Ł ν;rfl
theorem JE:Ł K Ãe Ãe=U true:=by unfold Ł ν;rfl
theorem JD:Ł K Ãe Êr=U false:=by unfold Ł ν;rfl
theorem JC:Ł K Êr Ãe=U false:=by unfold Ł ν;rfl
theorem JB:Ł K Êr Êr=U true:=by unfold Ł ν;rfl
theorem Zoc:Ł K ÃR ÁA=U false:=by unfold Ł ν;rfl
theorem JA:Ł K ÃR Êq=U false:=by unfold Ł ν;rfl
theorem Zpa:Ł K ÃR ÃR=U true:=by unfold Ł ν;rfl
theorem R5:Ł K ÁA ÁA=U true:=by unfold Ł ν;rfl
theorem Jz:Ł K (.type "NoneType") ÁA=U false:=by unfold Ł ν;rfl
theorem Zpl:Ł K Êq ÁA=U false:=by unfold Ł ν;rfl
theorem Jy:Ł K Êq Êq=U true:=by unfold Ł ν;rfl
universe E
section
variable {P:aw} {w:aF} {K:Å} {mg:ah->Ã ae} {Â:aI} {au ak ax ap aH ay ao ar bL bc bf:aa}
theorem Zuv(T:Õ):Df P w K mg Â 1 "_law_mix" Íi NY:=by
 rw[d2,T.t_l_mix.df,J6,b,hr];rw[fY,a,k,k1,k2];refine(_,#[Zc,#[Zu,2,J6.nd,â,#[ZM,U1,#[ZM,VZ,#[ZM,Yf,#[ZM,Yf,#[ha,U1,0],#[ZM,VZ,#[rT,VZ,1,1],Ü]],Ü],Ü],Ü]],#[Zg,#[Zl,#[ZM,U1,#[rT,VZ,2,2],Ü]]]],_,rfl,_,_,rfl,rfl,Òs,_,rfl,_,rfl,_,_,rfl,rfl,.inl Íy,_,_,rfl,rfl,.inr ÇB,_,_,rfl,rfl,_,_,rfl,rfl,_,_,rfl,rfl,.inr ÇB,_,_,rfl,rfl,Òs,?_);have m0:=Òt Ø2 (show (2147483647:Int)≠0 by decide);have m1:=Qa8 Ø2 (show (0:Int)<2147483647 by decide);refine(_,rfl,_,rfl,_,_,rfl,rfl,.inl Íy,_,_,rfl,rfl,Òs,?_);exact q _ (Òt _ Ì) (Int.lt_trans (Qa8 _ Ì) Ì)
theorem Zsr(T:Õ):Df P w K mg Â 1 "_law_left" Íj (NX K):=by
 rw[d2,T.t_l_left.df,J5,i,hr];obtain a|ns|k|rfl|d|vL|j|k1|q:=h;refine(_,#[Zc,#[Zu,2,J5.nd,â,#[ZY,#[ec,Xl,1,ÅK],#[rm,Àj,0,1],Ü]],#[Zg,#[Zl,#[ZW,#[Zd,#[ZM,VZ,Ø3,#[WW,LI,Íz,ÍA,#[Zd,#[XJ,Rm,Ø3,#[ZM,Zu9,Ü,Ü],ú]]]],#[ZM,Yf,‹2›,#[ZM,VZ,Ü,‹1›]],Ü]]]]],?_);have l:(ψ).length=ĩ:=Qa _;have e:LU 10 18:=(by decide,by decide,by decide);refine(_,rfl,_,rfl,a,_,rfl,.inl d,_,_,rfl,rfl,_,rfl,?_);rw[fz,c]
 ·have g:k<Ø4:=Ī c;rw[l]at g;obtain v|m:=ZuD (ns:=ns) j g;refine(_,rfl,_,rfl,a,_,_,_,rfl,rfl,d,m,_,rfl,_,rfl,_,rfl,_,rfl,_,_,rfl,rfl,e,_,_,rfl,rfl,.inr Ø5);exact Ø6
 ·refine(_,rfl,_,rfl,_,rfl,_,rfl,_,_,rfl,rfl,e,_,_,rfl,rfl,.inr Ø5);exact Ø6
theorem Zs0(T:Õ)(j:Ø7):Df P w K mg Â 2 "_law_pick" ÅG V5:=by
 rw[d2,T.t_l_pick.df,J4,t,k];obtain p|c|m|rfl|⟨a,b,l,c0⟩|c1|i|m1|q:=h;refine(_,#[Zc,#[YD,#[ZM,Yf,ÅL,Ü],#[Xd,‹0›,Ü,Lq]],#[Zc,#[ZK,#[rp,Wt,ÅL],#[Zc,#[Zu,2,J4.nd,â,#[ZM,U1,ÅL,‹1›]],#[Zc,#[YD,#[ZM,Ro,ÅL,‹1›],#[Xd,‹0›,Ü,Lq]],Ãt]],ë],#[Zg,#[Zl,#[ZM,U1,#[ZM,Ro,#[Zy,j,k,#[Zd,#[Zy,j,k,#[Zd,ÅL,ÅL],Í],#[ZM,Yf,ÅL,Ü]],Í],Ü],‹1›]]]]],?_);rw[rl,g,H,p,Û5];refine(_,rfl,p,_,_,_,rfl,rfl,É l,rfl,_,_,rfl,rfl,_,rfl,p,_,_,2,rfl,rfl,l,rfl,_,rfl,p,_,_,_,rfl,rfl,É g,rfl,_,_,rfl,rfl,_,rfl,?_);refine Y1 ź ź
 ·refine(_,rfl,p,_,_,_,rfl,rfl,É g,rfl,_,rfl,_,_,rfl,rfl,i,_,rfl,p,_,_,_,rfl,rfl,É g,rfl,_,rfl,_,_,rfl,rfl,(i,by lia),_,rfl,p,_,_,0,rfl,rfl,g,rfl,_,rfl,?_);refine q _ _ Ø8 (Qa8 _ i) (a / m,b,Zb,by lia) λe o h n=>?_;rw[Zf n,Zf n];exact h
 ·refine(_,rfl,p,_,_,_,rfl,rfl,É g,rfl,_,rfl,p,_,_,_,rfl,rfl,É g,rfl,_,_,rfl,by lia,by lia,λr r0 r1=>?_);refine(_,rfl,p,_,_,_,rfl,rfl,É g,rfl,_,_,rfl,rfl,_,_,rfl,by lia,by lia,λr' tV pe=>?_);refine(_,_,rfl,rfl,ÇB,_,rfl,_,_,rfl,rfl,i,?_);refine q _ _ Ø8 (Qa8 _ i) (a,b,Zb,by lia) λe o h n=>?_;rw[Zf n];exact h
def Wn:À ah:=["", "a", "ab", "aba", "abab", "b", "zebra", "aaaaaaaa", "knowswho", "z", "abababababab",Ìl "a" 24]
theorem ZkL:∀s∈Wn,ĝ<=24:=by ac_rfl
theorem Zmo:∀s∈Wn,AZ s:=by unfold AZ cds;ac_rfl
def NT:Sp:=λvs H Q _=>X2 λ(p:aa) (c:Int)=>C4 #[ff,p] ÄE (c<2 ^ 50) (∀ (l:aa) (ss:À ah) (a:Int) (H':Hp),H l=af->H' l=U (.lst Àw)->1<=Ο->Ο<=4->ÇC->Y6 H' p a->c<=a->a<=c+5->But p H H'->Q Đ H')
def NS:Sp:=λvs H Q _=>X4 λ(p l:aa) (c:Int) (ss:À ah)=>C8 #[gr,p,l] ÄE (c<2 ^ 50) #[sK,l] ÍB ÍC (ÇC) (∀ (z:ah) (a:Int) (H':Hp),Ś<=28->AZ z->Y6 H' p a->c<=a->a<=c+7->But p H H'->Q (.str z) H')
theorem Zp7(T:Õ)(aQ:ÄF):Df P w K mg Â 3 "_law_stems" Äy NT:=by
 rw[iN,T.t_l_stems.df,J3];rw[fY,p,c,G,c1];refine(_,#[Zc,#[Zu,1,J3.nd,Ån,#[ZW,#[Za,á,#[Za,á,#[Za,á,#[Za,á,#[Za,á,#[Za,á,#[Za,á,#[Zd,á,á,á,á,#[ZM,K9,á,Ü]]]]]]]]]]],#[Zg,#[Zl,#[W7,Tz,#[V0,ÅM,#[Zd,#[ZM,Yf,Ü,#[gV,aQ,hr,Ü]]]],#[gk,2,Tz],Àk,(λ_ _ _ _=>#[ZF,Àj,#[cv,1,Tz],#[Zy,aQ,hr,#[Zd,#[cv,0,Tz],Ü],#[ie,Tz]]])]]]],?_);refine(_,_,rfl,rfl,by decide,by decide,by decide,#[ep,12,aq],λl hl=>?_);have I:p≠l:=by obtain a|b|d|_:=G;exact Ze d hl
 have J:Y6 ÍD p c:=by obtain a|b|d|y:=G;exact#[fp,I,d,y]
 refine#[gH,_,J,H1,L1,z];refine(_,_,rfl,rfl,_,rfl,by lia,by lia,λD j=>?_);have y:0<=c:=by obtain a|b|d|y:=G;exact y
 have yI:H1 l=U ÍE:=z l _ Zb I.symm;have m:p≠D:=by obtain a|b|d|_:=L1;exact Ze d j
 have B:l≠D:=Ze yI j;refine PY (λi C L k=>X3 λ(ss:À ah) (v:Ã V) (g:Int)=>L=[U ş,U Đ,v]/\C=ss.map Ä/\Ο=i/\ÇC/\Y6 k p g/\c+1<=g/\g<=c+1+i /\
   k l=U ÍE/\k D=U (.lst C)/\But p H k) ?_ ?_ ?_
 ·refine([],af,c+1,rfl,rfl,rfl,#[es,s,t],?_,by lia,by lia,?_,Zb,?_)
  ·rw[f4,d,M,L1,m]
  ·rw[Zf B];exact yI
  ·intro b o e n;have e1:ÍD b=U o:=by rw[Zf (Ze e hl)];exact e
   have F:=z b o e1 n;rw[Zf (Ze F j)];exact F
 ·rintro i C L k hi ⟨ss,v,g,rfl,rfl,N,t,O,b1,b2,cb,R,S⟩;refine(_,rfl,_,rfl,p,g,_,rfl,O,by lia,by decide,by decide,λr' H3 tV pe L3 W=>?_);obtain s|fM|hZ:=NW (ss:=Wn) tV pe;have jU:H3 D=U (.lst Àw):=W D _ R m.symm;have fY:H3 l=U ÍE:=W l _ cb I.symm;refine(l,_,_,_,rfl,rfl,É fY,hZ,jU,#[eV,N,ZA],ss++[s],_,g+1,rfl,?_,?_,?_,?_,by lia,by lia,?_,Zb,?_)
  ·rw[Qf];rfl
  ·rw[Qd,N];rfl
  ·intro x hx;rcases ß hx with hx|hx
   ·exact t x hx
   ·rw[Ý hx];exact(ZkL s fM,Zmo s fM)
  ·rw[f4,d,M,L3,m]
  ·rw[Zf B];exact fY
  ·intro b o e n;have F:=W b o (S b o e n) n;have X:H D=af:=by
    cases Y:H D with
    | none=>rfl
    | some u =>
     have Cb:D≠p:=m.symm;have Z:ÍD D=U u:=by rw[Zf Çk];exact Y
     rw[z D u Z Cb]at j;cases j
   rw[Zf (Ze e X)];exact F
 ·rintro C L k ⟨ss,v,g,rfl,rfl,N,t,O,b1,b2,cb,R,S⟩;have X:H D=af:=by
   cases Y:H D with
   | none=>rfl
   | some u =>
    have Z:ÍD D=U u:=by rw[Zf Çk];exact Y
    rw[z D u Z m.symm]at j;cases j
  exact q D ss g k X R Á Á t O Á Á S
theorem ZmY(b:Ñ):∃z:ah,atI [Ä "ababcz",Ä "abcdefghijklmnopqrstuvwxyz"] Òq=U (.str z)/\AZ z/\0<Ś/\Ś<=26:=by
 cases b
 ·exact Ø9
 ·exact Ø9
theorem ZuT(T:Õ)(C:ÄF):Df P w K mg Â 3 "_law_key" Ík NS:=by
 rw[d2,T.t_l_key.df,N8,vs,F];obtain p|l|c|ss|rfl|G|c1|O|n1|n4|pr|q:=h;refine(_,#[Zc,#[Zu,2,N8.nd,Ån,#[ZF,Àj,#[ZW,#[Zd,á,á]],#[WW,LI,Íz,ÍA,#[Zd,#[XJ,YI,#[gV,C,F,Ü],Ü,ú]]]]],#[Zc,#[Zu,3,N8.nd,â,#[ZZ,K,QO,Qad,Qae,(Vt K),á,#[Zd,#[W7,Vm,#[V0,ÅM,#[Zd,#[gV,C,F,Ü]]],#[gk,4,Vm],Àk,(λ_ _ _ _=>#[ZF,UY,#[cv,2,Vm],#[Zy,C,F,#[Zd,#[cv,0,Vm],#[Zn,WH,#[ie,Vm],Áe,Qy,#[Zd,#[cv,2,Vm]]]],#[ie,Vm]]])]]]],#[Zg,#[Zl,#[ZM,Uf,#[ZF,Àj,‹1›,#[gV,C,F,Ês]],‹3›]]]]],?_);have I:0<=c:=by obtain a|b|g|I:=G;exact I
 have R:p≠l:=by
  obtain a|b|g|_:=G;refine Rv g O λe=>?_;have e1:=ŕ Òu ÍF;cases ss with
  | nil=>cases e1
  | Ë x r=>exact Ç ÍF ÁC
 refine(Ây,λt vN=>?_);have Fw:p≠t:=by obtain a|b|g|_:=G;exact Ze g vN
 have S:Y6 (upd H t Ùa) p c:=by obtain a|b|g|I:=G;exact#[fp,Fw,g,I]
 refine(_,rfl,p,c,_,rfl,S,by lia,by decide,by decide,λd H0 d0 d1 L0 B0=>?_);have Cc:H0 t=U Ùa:=B0 t _ Zb Fw.symm;have W:But p H H0:=#[r0,vN].trans B0;obtain X|yJ|Y|z0|z26:=ZmY (decide (í d=í 0));refine(rfl,.inr (_,rfl,t,_,_,_,rfl,rfl,É Cc,yJ,?_));refine(rfl,_,rfl,p,c+1,_,rfl,L0,by lia,by decide,by decide,λr H1 r0 r1 L1 Z=>?_);have B1:But p H H1:=W.trans Z;refine(_,rfl,by lia,by lia,λD J=>?_);have L:p≠D:=by obtain a|b|g|_:=L1;exact Ze g J
 have yI:=B1 l _ O R.symm;have vM:l≠D:=Ze yI J;have Fx:H D=af:=by
  cases w':H D with
  | none=>rfl
  | some u=>rw[B1 D u w' L.symm]at J;cases J
 refine PY (λi M σ y=>X3 λ(j:À ah) (v:Ã V) (k:Int)=>σ=[U ş,U Đ,U (.str X),af,v]/\M=j.map Ä/\Åc=i/\#[fV,j,1]/\Y6 y p k/\c+2<=k/\k<=c+2+i /\
   y D=U (.lst M)/\But p H y) ?_ ?_ ?_
 ·refine([],af,c+1+1,rfl,rfl,rfl,#[es,s,m],?_,by lia,by lia,Zb,?_)
  ·rw[f4,g,q0,L1,L]
  ·intro b o e n;rw[Zf (Ze e Fx)];exact B1 b o e n
 ·rintro i M σ y hi ⟨j,v,k,rfl,rfl,hn,m,rK,b1,b2,bS,N⟩;refine(_,rfl,_,rfl,_,rfl,X,rfl,Ĭ Á,p,k,_,rfl,rK,by lia,by lia,by lia,λr' H3 tV pe L3 B=>?_);obtain ch|hcm|jn:=Tt (z:=X) tV pe;have jU:H3 D=U #[ei,j.map]:=B D _ bS L.symm;refine(_,_,_,rfl,rfl,Ĭ Á,jn,jU,#[eV,hn,ZA],j++[⟨#[ch]⟩],_,k+1,rfl,?_,?_,?_,?_,by lia,by lia,Zb,?_)
  ·rw[Qf];rfl
  ·rw[Qd,hn];rfl
  ·intro x hx;rcases ß hx with hx|hx
   ·exact m x hx
   ·rw[Ý hx];exact(Qj 1,Y.one hcm)
  ·rw[f4,g,q0,L3,L]
  ·intro b o e n;rw[Zf (Ze e Fx)];exact B b o (N b o e n) n
 ·rintro M σ y ⟨j,v,k,rfl,rfl,hn,m,rK,b1,b2,bS,N⟩;have iP:=JJ j λs h=>(m s h).1;have Cd:=JK "" j;have e0:#[fl,"",0]:=by ac_rfl
  rw[e0]at Cd;have cb:=N l _ O R.symm;refine(_,D,j,rfl,rfl,É bS,#[fe,e0],?_);have aY:(((Àw).length:Nat):Int)=Òp:=by rw[Qa]
  refine(_,rfl,_,rfl,_,rfl,l,_,rfl,.inl (É cb),p,k,_,rfl,rK,by lia,by lia,by lia,λr' H3 tV pe L3 B=>?_);obtain st|fM|hZ:=NW (ss:=ss) tV Á;have bK:=(pr st fM).1;refine(l,_,_,_,rfl,rfl,É (B l _ cb R.symm),hZ,_,rfl,_,_,rfl,rfl,Ĭ Á,?_);refine q _ (k+1) H3 ?_ ((pr st fM).2.app (AZ.joinT j λs h=>(m s h).2)) L3 Á Á (N.trans B);rw[QL];lia
theorem ZiB(T:Õ):Df P w K mg Â 1 "alike_from" Äz R6:=by
 rw[d2,T.t_alike_from.df,N7,F,hr];obtain x|y|c|rfl|r|t|G|q:=h;refine(_,#[Zc,#[sd,N7.nd,2],#[Zc,(@Rr _ _ _ _ _ _ Γ (@œ _ _ _ #[Yb,#[ec,Xl,3,ÇD],#[Yb,#[gS,Xl,3],#[XS,#[Zk,YI,#[rm,UY,0,3],#[rm,UY,1,3],ú]]]]) #[Zg,(@Zvd _ _ 3 _ _ _ _ _ _ N7.nd rfl â Ü Zut Êt)]),#[fg,3]]],_,rfl,?_);have lx:(þ).length=ĕ:=by simp[Éh]
 have ly:(Ė).length=ι:=by simp[Éh]
 have ll:=VN þ Ė;refine(λm u g=>∃k:Nat,u=[U Ä8,U (.str y),U (.int c),U (.int k)]/\g=H/\k<=lcp þ Ė/\m=lcp þ Ė-k,(_,c,rfl,rfl,G,rfl),?_);rintro m u g ⟨k,rfl,rfl,d,rfl⟩;refine(_,rfl,_,rfl,x,rfl,Ĭ r,_,_,rfl,rfl,_,rfl,?_);rw[fz,i]
 ·have v:(k:Int)<Òv:=Ī i;refine(_,rfl,_,rfl,y,rfl,Ĭ t,_,_,rfl,rfl,_,rfl,?_);rw[fz,j]
  ·have B:(k:Int)<(ι:Int):=Ī j;obtain a|l|I:=Tt (z:=x) (k:=k) Á v;obtain b|n|J:=Tt (z:=y) (k:=k) Á B;rw[Qbd]at l n;refine(_,rfl,_,rfl,x,_,a,rfl,rfl,Ĭ r,I,_,rfl,_,rfl,y,_,b,rfl,rfl,Ĭ t,J,rfl,_,rfl,?_);rw[fz,o]
   ·have p:a=b:=by have:=Ī o;injection this with e;injection e with e;simpa using e
    subst p;have:=JH _ _ k d a l n;refine(λC D=>C=[U Ä8,U (.str y),U (.int c),U ÍG]/\D=g,λC D ⟨L,M⟩=>(_,?_,k+1,L,M,this,rfl),?_)
    ·lia
    ·exact(_,rfl,_,_,rfl,rfl,rfl,rfl)
   ·refine Òw;have e:=NV _ _ k d (.inr (.inr (a,b,l,n,λe=>o (by subst e;exact ÍH))));rw[e]at q;exact q
  ·refine Y9 Òw;have B:¬ (k:Int)<(ι:Int):=ÇE (Òx j);have e:=NV _ _ k d #[r6,Á];rw[e]at q;exact q
 ·refine Y9 Òw;have v:¬ (k:Int)<Òv:=ÇE (Òx i);have e:=NV _ _ k d (.inl Á);rw[e]at q;exact q
theorem Zrt(T:Õ)(a:Òy):Df P w K mg Â 2 "alike" ÂL R7:=by
 rw[d2,T.t_alike.df,ZpG,b,c];rw[fY,x,y,d,e];refine(_,#[Zg,#[Zl,#[rL,a,c,1]]],?_);exact(_,rfl,_,rfl,x,y,0,rfl,d,e,Qt _,q)
theorem YZ{c A B:Prop}[Éw c](hc:c)(h:A):if decide c=true then A else B:=by rw[È (đ hc)];exact h
theorem YC{c A B:Prop}[Éw c](hc:¬ c)(h:B):if decide c=true then A else B:=by rw[Æ (by rw[Ń hc];exact Qw)];exact h
theorem Jx(T:Õ):∀n:Nat,Df P w K mg Â (n+1) "_law_same" Çs (JF n)
 | 0=>by
  rw[vG]
  ·obtain x|y|rfl|_:=h;rfl
  obtain x|y|rfl|h|_:=h;exact ω
 | n+1=>by
  have jV:=Jx T n;rw[vG]
  ·obtain x|y|rfl|_:=h;rfl
  rw[sH,x,y,t];refine(_,#[Zc,#[ZK,#[XT,#[Zn,(Zv9 K),Í,Êu,Êv,#[Zd,‹1›,#[Yq,#[Zd,#[Xw,Êw,Êx],#[Xw,Òz,ÒA]]]]]],#[Zc,#[ZK,(@œ _ _ _ #[WI,#[Zk,WQ,#[en,0,Êw,Êx],#[en,1,Êw,Êx],ú],#[WJ,#[Zk,WQ,#[en,0,Òz,ÒA],#[en,1,Òz,ÒA],ú]]]),ÁH,ë],#[Zg,#[Zl,(@Ul _ _ _ _ _ _ _ #[XJ,YI,ÅK,Ês,ú] (@Um _ _ _ _ _ #[Zn,(K6 K),Í,T.b.n_all,boot_all,#[Zd,#[W7,UJ,#[rV,0,1],#[em,2,UJ,3],Àk,(λ_ _ _ _=>#[Zy,jV,hr,#[Zd,#[cw,2,UJ],#[cw,3,UJ]],#[ie,UJ]])]]]))]]],ë],#[Zc,#[ZK,(@œ _ _ _ #[WI,#[g0,1],#[WJ,#[XT,Ùb]]]),#[Zg,#[Zl,(@Ul _ _ _ _ _ _ _ ÒB (@Um _ _ _ _ _ #[XJ,YI,Ùc,Ùb,ú]))]],ë],#[Zc,#[ZK,#[XT,#[en,1,T.b.n_bool,boot_bool]],#[Zg,#[Zl,(@Ul _ _ _ _ _ _ _ Ùd (@Um _ _ _ _ _ ÒB))]],ë],#[Zg,#[Zl,(@Ul _ _ _ _ _ _ _ #[en,0,Íz,ÍA] (@Ul _ _ _ _ _ _ _ (@Zu4 _ _ _ _ Ùd) (@Um _ _ _ _ _ ÒB)))]]]]],?_);refine(_,rfl,Ây,λc u=>?_);have O:ZB H ÇF:=Zi u _;rcases t with⟨rfl,rfl|⟨b,rfl⟩|⟨i,rfl⟩|⟨z,rfl⟩⟩|⟨p,m,xs,ys,rfl,rfl,⟨v,B⟩|⟨v,B⟩,hl,hz,hi⟩
  ·refine(_,c,ÇG,_,_,rfl,Zb,.non,ZoW K,_,rfl,Y9 ?_);refine(_,rfl,rfl,_,rfl,YZ rfl (YH ?_));refine Ùe;exact(_,rfl,_, "str",_,_,rfl,.non,Jz K,_,rfl,_, "str",_,_,rfl,.non,Jz K,rfl,q _ O)
  ·refine(_,c,ÇG,_,_,rfl,Zb,.bl b,ZpB K,_,rfl,Y9 ?_);refine ÍI;refine(_,rfl,_, "str",_,_,rfl,.bl b,Zpl K,_,rfl,Y9 ?_);refine Ùf;refine Ùf;refine Ùg;have e:decide (V.bl b=V.bl b)=true:=ÍH;rw[e];exact q _ O
  ·refine(_,c,ÇG,_,_,rfl,Zb,.int i,ZoF K,_,rfl,Y9 ?_);refine ÍI;rw[rO,"str",Zoc,Y9];rw[rO,"bool",JA,Y9];rw[rO,"int",Zpa,YH];refine(_,rfl,_, "bool",_,_,rfl,.int i,JA K,_,rfl,_,rfl,YH ?_);refine Ùg;have e:decide (í i=í i)=true:=ÍH;rw[e];exact q _ O
  ·refine(_,c,ÇG,_,_,rfl,Zb,.str z,Zo5 K,_,rfl,Y9 ?_);refine ÍI;refine(_,rfl,_, "str",_,_,rfl,.str z,R5 K,_,rfl,YH ?_);refine Ùe;exact(_,rfl,_, "str",_,_,rfl,.str z,R5 K,_,rfl,_, "str",_,_,rfl,.str z,R5 K,rfl,q _ O)
  ·have j:ÇF p=U ÁV:=by rw[Zf (Ze v u)];exact v
   have g:ÇF m=U Ãf:=by rw[Zf (Ze B u)];exact B
   refine(_,c,ÇG,_,_,rfl,Zb,.lst g,ZoN K,_,rfl,YH ?_);refine(_,rfl,_, "list",_,_,rfl,.lst j,JE K,_,rfl,_, "list",_,_,rfl,.lst g,JE K,rfl,_,rfl,WF rfl ?_);refine(_,rfl,_, "tuple",_,_,rfl,.lst j,JD K,_,rfl,_, "tuple",_,_,rfl,.lst g,JD K,rfl,_,rfl,WF rfl ?_);refine(_,rfl,p,xs,rfl,.inl (É j),_,rfl,m,ys,rfl,.inl (É g),rfl,_,rfl,YZ (by rw[hl]) ?_);refine(_,rfl,_,rfl,.l p,.l m,xs,ys,rfl,É j,É g,λD t=>?_);rw[52]
   ·exact Ùh
   ·rintro i zs k a ⟨_,_,d,_⟩;exact(É (d _ _ v),É (d _ _ B))
   ·rw[z]
    ·rw[Ùi]
    ·rw[b5]
   ·rw[aq];have e:Ùj:=by rw[Qag];rw[pY]
    rw[e];exact q a d
  ·have j:ÇF p=U ÁR:=by rw[Zf (Ze v u)];exact v
   have g:ÇF m=U (.tup ys):=by rw[Zf (Ze B u)];exact B
   refine(_,c,ÇG,_,_,rfl,Zb,.tup g,Zpg K,_,rfl,YH ?_);refine(_,rfl,_, "list",_,_,rfl,.tup j,JC K,_,rfl,_, "list",_,_,rfl,.tup g,JC K,rfl,_,rfl,WF rfl ?_);refine(_,rfl,_, "tuple",_,_,rfl,.tup j,JB K,_,rfl,_, "tuple",_,_,rfl,.tup g,JB K,rfl,_,rfl,WF rfl ?_);refine(_,rfl,p,xs,rfl,.inr (ā j),_,rfl,m,ys,rfl,.inr (ā g),rfl,_,rfl,YZ (by rw[hl]) ?_);refine(_,rfl,_,rfl,.t p,.t m,xs,ys,rfl,ā j,ā g,λD t=>?_);rw[52]
   ·exact Ùh
   ·rintro i zs k a ⟨_,_,d,_⟩;exact(ā (d _ _ v),ā (d _ _ B))
   ·rw[z]
    ·rw[Ùi]
    ·rw[b5]
   ·rw[aq];have e:Ùj:=by rw[Qag];rw[pY]
    rw[e];exact q a d
theorem Y6.new{H:Hp}{p l:aa}{c:Int}{o:HO}(h:Y6 H p c)(n:H l=af):Y6 (upd H l o) p c:=by obtain a|b|d|e:=h;exact(a,b,by rw[Zf (Ze d n)];exact d,e)
theorem Y6.ge{H:Hp}{p:aa}{c:Int}(h:Y6 H p c):0<=c:=by obtain a|b|hp|c0:=h;exact c0
theorem Y6.here{H:Hp}{p:aa}{c:Int}(h:Y6 H p c):∃o,H p=U o:=by obtain a|b|hp|c0:=h;exact(_,hp)
theorem Y6.at{H:Hp}{p l:aa}{c:Int}{o:HO}(h:Y6 H p c)(n:p≠l):Y6 (upd H l o) p c:=by obtain a|b|d|e:=h;exact#[fp,n,d,e]
theorem Jw:∀ss:À ah,(∀s∈ss,AZ s)->ÇH ÅN=true
 | [],_=>rfl
 | x::r,h=>by simp[ÇH,ÄG,(h x Ó).ok,Jw r λs hs=>h s Ùk]
theorem NR:∀ss:À ah,Êy ÅN=0
 | []=>rfl
 | _::r=>by simp[Êy,ÅO,NR r]
theorem Zk3(ss:Ê)(h:∀s∈ss,AZ s):Äl ÍJ=true:=by simp[Äl,ÄG,ÅO,Jw ss h,NR]
theorem UE{K:Å}{H:Hp}:∀ss:À ah,DVs K H Àw ÅN
 | []=>.nil
 | s::r=>.cons (.str s) (UE r)
def R4:Sp:=λvs H Q _=>X5 λ(p l:aa) (c a:Int) (ss:À ah)=>C10 Ùl ÄE (c<2 ^ 40) (0<=a) (a<=60) #[sK,l] ÍB ÍC (ÇC) (∀ (r:aa) (b:À ah) (d:Int) (H':Hp),H r=af->H' r=U #[ei,ÀS]->ÒC<=a->#[fV,b,28]->Y6 H' p d->c<=d->d<=c+600->But p H H'->Q ÀU H')
theorem ZvV{c:Ñ}{e:ÏD->Prop}{T:ÏE}{H:Hp}(R:Hp->Prop)(h0:R H)(h1:c=true->∀a:Ñ->Hp->Prop,(∀b H',R H'->a b H')->e a)(q:∀b H',(b=true->c=true)->R H'->T b H'):if c=true then e T else T false H:=by
 cases c with
 | true=>rw[È rfl];exact h1 rfl T λb H' h=>q b H' (λ_=>rfl) h
 | false=>rw[Æ Qw];exact q false H (λz=>z) h0
abbrev KyI(p l r:aa)(c f:Int)(H:Hp)(i:Nat)(g:Àh)(a:Hp):Prop:=X4 λ(d:À ah) (h j:Ã V) (e:Int)=>g=[U ş,U Đ,U (.int f),U ÀU,h,j]/\a r=U #[ei,Àf]/\ņ=i/\#[fV,d,28]/\Y6 a p e/\c+1<=e/\e<=c+1+9*i/\#[eN,o,p,a]
abbrev KyM(p l r:aa)(c f:Int)(H:Hp)(i:Nat)(g:Ê)(h:Àh)(a:Hp):Prop:=X2 λ(d:ah) (e:Int)=>h=[U ş,U Đ,U (.int f),U ÀU,U (.int (0+(i:Int))),U (.str d)]/\ņ<=28/\AZ d/\Y6 a p e/\c+1<=e/\e<=c+1+9*(i+1)/\a r=U #[ei,g.map]/\∀b o,H b=U o->b≠p->a b=U o
theorem Zsb(T:Õ)(N:ÄF)(l4:Ùm):Df P w K mg Â 4 "_law_keys" Ãq R4:=by
 rw[d2,T.t_l_keys.df,TQ,vs,t];obtain p|l|c|O|ss|rfl|u|c1|m0|m1|R|n1|n4|pr|q:=h;refine(_,#[Zc,#[gB,3,TQ.nd],#[Zc,#[XR,Γ,#[V0,ÅM,#[Zd,#[Zy,N,t,#[Zd,‹0›,#[ha,Yf,2]],Í]]],#[rx,4,TQ.nd],#[Zc,#[Zu,5,TQ.nd,â,#[eH,l4,t,0,1]],(@UQ _ _ _ _ _ #[ZK,(@œ _ _ _ #[Yb,#[fH,neD,t,3],#[XS,#[it,YI,N,t]]]),#[Zg,#[Zu,5,TQ.nd,â,#[ZF,Àj,‹3›,#[Zy,N,t,#[Zd,‹0›,ÒD],Í]]]],ë] #[Zg,#[fW,3,5]])]],#[fg,3]]],?_);have c0:=u.ge;refine#[rN,r,v];have k:p≠r:=by obtain o|ho:=u.here;exact Ze ho v
 have ku:p≠l:=by
  obtain a|b|hp|_:=u;refine Rv hp R λe=>?_;cases ss with
  | nil=>exact Ç (ŕ Òu ÍF) Ó
  | Ë x r=>exact Ç ÍF ÁC
 refine(_,rfl,_,rfl,_,_,rfl,rfl,p,c,_,rfl,u.new v,by lia,by lia,by lia,λn H1 w0 w1 L1 S=>?_);refine(_,rfl,by lia,by lia,?_);have iF:H1 r=U Ź:=S r _ Zb ÅP;have Fy:But p H H1:=#[r0,v].trans S;refine Ui (KyI p l r c O H) ([],af,af,c+1,rfl,iF,rfl,#[es,s,h],L1,Qaj _,by lia,λb o e n=>Fy b o e n) ?_ ?_
 ·rintro i σ H2 hi ⟨g,v1,v2,W,rfl,C,X,m,L2,a1,a2,y⟩;have hi60:(i:Int)<61:=by lia
  clear iF Fy L1 S q u;refine(_,rfl,_,rfl,p,l,W,ss,rfl,L2,by lia,y l _ R ku.symm,n1,n4,pr,λkey D H3 jo Fz F a3 a4 Y=>?_);have G:=Y r _ C ÅP;have bo:#[sO,g.map,Ä]:=by rw[Qa,X];exact ZA Á
  have Z:#[eP,o,H,p,H3]:=λb o z n=>Y b o (y b o z n) n;clear C L2 y Y R pr;refine(KyM p l r c O H i g,?_,?_)
  ·rw[gC,e,I,J];refine(.list (g.map ÇI),.list [],.lst #[rR,J,G] (UE g),.lst ÇJ .nil,Zk3 g (λs h=>(m s h).2),ö,_,rfl,?_);refine ZvV (λH'=>∃j:Int,Y6 H' p j/\D<=j/\j<=D+1/\But p H3 H') (D,F.new I,Qaj _,by lia,Ãs J) (λ_ T' hT=>(_,rfl,p,D,_,rfl,F.new I,by lia,by decide,by decide,λd H5 d0 d1 L B=>(rfl,_,rfl,hT _ _ (_,L,by lia,by lia,(Ãs J).trans B)))) (?_);rintro b H5 hb ⟨j,L,b1,b2,B⟩;have M:=B r _ G ÅP;have vO:#[eP,o,H,p,H5]:=λb o z n=>B b o (Z b o z n) n;clear B Z G J I F;refine Y1 (λCh=>?_) (λ_=>(key,j,rfl,jo,Fz,L,by lia,by lia,M,vO));have iO:(0:Int)<(g.length:Int):=by
    cases g with
    | nil=>exact Ç (hb Ch) ö
    | Ë _ _=>simp
   have aY:#[hc,g.map,Ä]=(g.length:Int):=by rw[Qa]
   refine(_,rfl,_,rfl,_,rfl,r,_,rfl,.inl (É M),p,j,_,rfl,L,by lia,by lia,by lia,λd' H6 d0' yK L6 B6=>?_);obtain st|fM|hZ:=NW (ss:=g) d0' Á;exact(r,_,_,_,rfl,rfl,É (B6 r _ M ÅP),hZ,st,_,rfl,(m st fM).1,(m st fM).2,L6,by lia,by lia,B6 r _ M ÅP,λb o z n=>B6 b o (vO b o z n) n)
  ·clear Z G F;rintro σ H4 ⟨k2,j,rfl,hk,hkz,L4,b1,b2,vP,B4⟩;refine(_,rfl,.inl #[ew,vP],_,rfl,r,_,_,rfl,rfl,vP,bo,g++[k2],_,_,j,rfl,?_,by rw[Qd,X];rfl,?_,L4.at k,by lia,by lia,λb o e n=>?_)
   ·rw[Zb,Qf];rfl
   ·intro x hx;rcases ß hx with hx|hx
    ·exact m x hx
    ·rw[Ý hx];exact(hk,hkz)
   ·rw[Zf (Ze e v)];exact B4 b o e n
 ·rintro σ H2 ⟨g,v1,v2,W,rfl,C,X,m,L2,a1,a2,y⟩;exact(_,rfl,q r g W H2 v C Á m L2 Á Á y)
def WV(ss:Ê)(i:Nat):Int:=if i=0 then 0 else (lcp (cds (ss.getD (i-1) "")) (cds (ss.getD i "")):Nat)
def RZ(K:Å):Sp:=λvs H Q _=>X2 λ(a:aa) (ss:À ah)=>C5 #[ff,a] ÍK #[s6,200] Êz (∀ (r:aa) (H':Hp),H r=af->H' r=U Ùn->ZB H H'->Q ÀU H')
theorem Zpd(T:Õ)(O:ÒE):Df P w K mg Â 3 "alikes" ["row"] (RZ K):=by
 rw[d2,T.t_alikes.df,Sf,R,S];rw[sG,a,c,v,hn,G];refine(_,#[Zc,#[gB,1,Sf.nd],#[Zc,#[XR,Γ,#[s1,Áf],#[hW,Sf.nd],#[Zg,#[ZL,#[ZZ,K,QC,QD,QE,Z0,‹1›,#[Zd,#[ZY,#[ec,YI,2,Ü],Ü,#[Zy,O,S,#[Zd,#[ZF,Àj,‹0›,#[ha,U2,2]],‹3›],Í]]]]]]],#[fg,1]]],ÀV,λr B=>?_);have I:ZB H #[gb,H,r]:=Zi B _;refine(_,rfl,a,š Ä,rfl,I.seq v,?_);refine SM (K:=K) (a:=a) (xs:=š Ä) (λi C d=>(X2 λg k:Ã V=>C=[U Ĩ,U ÀU,g,k])/\d r=U (.lst ÒF)/\ZB H d/\i<=Ņ) ((af,af,rfl),Zb,I,Qt _) (λ_ _ _ W=>by obtain _|_|l|_:=W;exact l.seq v) ?_ ?_
 ·rintro i x C d p m ⟨⟨g,k,rfl⟩,n,l,X⟩ J;rw[Qr]at m;cases t:c[i]? with
  | none=>rw[t]at m;cases m
  | some y =>
   rw[eh,t,m,Y,Ņ];have Z:r≠p:=Ze n J;have L:ZB H ÍL:=l.trans (Zi J _);have D:ÍL r=U (.lst ÒF):=by rw[Zf Z];exact n
   have M:((ÂE i).map λj=>í (WV c j)).length<aq:=by rw[Qa,List.length_range];exact ZA Á
   have u:∀z:Int,z=WV c i->(X2 λg k:Ã V=>[U (õ a),U (õ r),U (í i),U (Ä y)]=[U Ĩ,U ÀU,g,k]) /\
     (upd ÍL r Ùo) r=U (.lst ((ÂE (i+1)).map λj=>.int (WV c j))) /\
     ZB H (upd ÍL r Ùo)/\i+1<=Ņ:=λz e=>by
    refine((_,_,rfl),?_,λb o h=>?_,Y)
    ·rw[Zb,Ùp,Qf,e];rfl
    ·rw[rF,h,B,L,b,o]
   refine(p,_,rfl,ā Zb,rfl,_,_,rfl,_,_,rfl,rfl,_,rfl,.inl #[ew,D],_,rfl,rfl,_,rfl,?_);by_cases N:i=0
   ·subst N;exact YZ rfl (r,_,_,rfl,rfl,D,M,u 0 rfl)
   ·have F:i-1<Ņ:=by lia
    have ei:((i:Int)-1)=((i-1:Nat):Int):=by lia
    have cW:atI (š Ä) ((i:Int)-1)=U (.str c[i-1]):=by rw[ei];exact Ye #[iy,F]
    refine YC (λz=>by injection z with z;lia) (_,rfl,_,rfl,_,_,rfl,rfl,a,_,_,_,rfl,rfl,L.seq v,cW,_,rfl,c[i-1],y,rfl,G _ (Qah F),G _ (Qp t),r,_,_,rfl,rfl,D,M,u _ ?_);unfold WV;rw[Æ N,QM,QM,Qb F,t];rfl
 ·rintro C d ⟨⟨g,k,rfl⟩,n,l,X⟩;rw[Qa]at n;exact(_,rfl,q r d B n l)
def ZS:À Nat->À Nat->Int
 | [],[]=>0
 | [],_::_ =>-1
 | _::_,[]=>1
 | a::r,b::s=>if a=b then ZS r s else if a<b then -1 else 1
theorem Jv:∀ (x y:À Nat),ÄH y x=false->ZS x y<=0
 | [],[],_=>by unfold ZS;lia
 | [],_::_,_=>by unfold ZS;lia
 | _::_,[],h=>by unfold ÄH at h;cases h
 | a::r,b::s,h=>by
  have ih:=Jv r s;unfold ÄH at h;unfold ZS;rw[Bool.or_eq_false_iff,Bool.and_eq_false_iff]at h;rw[el,c,d,h];have yz:¬ b<a:=ÇE c;by_cases e:a=b
  ·rw[È e];rcases d with z|z
   ·rw[e]at z;simp at z
   ·exact ih z
  ·rw[Æ e,È Á];lia
theorem RY:∀ (x y z:À Nat),ZS x y<=0->ZS y z<=0->ZS x z<=0
 | [],_,[],_,_=>by unfold ZS;lia
 | [],_,_::_,_,_=>by unfold ZS;lia
 | _::_,[],_,h,_=>by unfold ZS at h;lia
 | _::_,_::_,[],_,h=>by unfold ZS at h;lia
 | a::r,b::s,c::t,h1,h2=>by
  unfold ZS at h1 h2 ⊢;have ih:=RY r s t;by_cases f:a=b
  ·rw[y3,f,h1];by_cases d:b=c
   ·rw[mK]
   ·rw[iv,d,h2];rw[Æ (λe=>d Ñt)];split at h2
    ·rw[È Á];lia
    ·lia
  ·rw[iv,f,h1];split at h1
   ·by_cases d:b=c
    ·rw[Æ (λe=>f Ñu),È Á];lia
    ·rw[iv,d,h2];split at h2
     ·rw[Æ Á,È Á];lia
     ·lia
   ·lia
theorem Ju:∀ (ss:À ah) (p:ah),ÇK p ss=true->∀ (k:Nat) (x y:ah),(p::ss)[k]? = U x->ss[k]? = U y->ZS þ Ė<=0
 | [],p,_,k,x,y,_,h=>by simp at h
 | z::r,p,h,0,x,y,h1,h2=>by unfold ÇK at h;rw[Q6]at h;simp at h1 h2;subst h1 h2;exact Jv _ _ #[ea,h.1]
 | z::r,p,h,k+1,x,y,h1,h2=>by unfold ÇK at h;rw[Q6]at h;exact Ju r z h.2 k x y #[ea,h1] #[ea,h2]
theorem Jt{ss:Ê}(h:#[sQ,ss])(k:Nat)(x y:ah)(h1:ss[k]? = U x)(h2:ss[k+1]? = U y):ZS þ Ė<=0:=by
 cases ss with
 | nil=>simp at h1
 | Ë p r=>exact Ju r p h k x y h1 #[ea,h2]
theorem Js:∀ss:À ah,ÅQ ÅN ÅN=true
 | []=>by simp[ÅQ]
 | x::r=>by simp[ÅQ,ÂI,Js r]
theorem Zox(ss:Ê):ÂI ÍJ ÍJ=true:=by simp[ÂI,Js ss]
theorem Jr{ss:Ê}{k:Nat}(h:k<Ο):atI Àw (k:Int)=U (.str ss[k]):=Ye #[iy,h]
theorem Y6.same{H H':Hp}{p:aa}{c:Int}(h:Y6 H p c)(s:Àa):Y6 H' p c:=by obtain b1|b2|hb|c0:=h;exact(b1,b2,s _ _ hb,c0)
def mid(ns:Ô):Nat:=(ĩ+1) / 2
def Xr(ns:Ô):À Int:=ÉM (mid ns)
def Wm(ns:Ô):À Int:=ns.drop (mid ns)
theorem ZsC(ns:Ô):(Ø4+1) / 2=((mid ns:Nat):Int):=by rw[Qa];unfold mid;lia
theorem ZuP(ns:Ô)(m:Nat)(h:m<=ĩ):Yo ψ af ÅR=(ÉM m).map í:=by
 unfold Yo;have e:Ŷ (ψ).length (ψ).length ÅR=m:=by unfold Ŷ;rw[jX];lia
 have a:Ŷ (ψ).length 0 af=0:=rfl;rw[u0]
theorem Zq5(ns:Ô)(m:Nat)(h:m<=ĩ):Yo ψ ÅR af=(ns.drop m).map í:=by
 unfold Yo;have e:Ŷ (ψ).length 0 ÅR=m:=by unfold Ŷ;rw[jX];lia
 have a:Ŷ (ψ).length (ψ).length af=(ψ).length:=rfl;rw[e,a,ÒG,Qz #[sg,Q4,Qa]]
theorem NQ(z:ah):(cds z).length=Ś:=by simp[Éh]
theorem Jq:∀ (x y:À Nat),(lcp x y=ĕ->lcp x y=ι->ZS x y=0)/\(lcp x y=ĕ->lcp x y≠ι->ZS x y = -1)/\(lcp x y≠ĕ->lcp x y=ι->ZS x y=1) /\
  ∀a b,x[lcp x y]? = U a->y[lcp x y]? = U b->ZS x y=if a<b then -1 else 1
 | [],[]=>(λ_ _=>rfl,λ_ h=>Ç rfl h,λh _=>Ç rfl h,λa b h _=>by simp at h)
 | [],_::_=>(λ_ h=>by unfold lcp at h;simp at h,λ_ _=>rfl,λh _=>Ç rfl h,λa b h _=>by simp at h)
 | _::_,[]=>(λh _=>by unfold lcp at h;simp at h,λh _=>by unfold lcp at h;simp at h,λ_ _=>rfl,λa b _ h=>by simp at h)
 | a::r,b::s=>by
  obtain h1|h2|f|g:=Jq r s;unfold lcp ZS;by_cases e:a=b
  ·rw[rK,e,e];simp only[Èw,List.getElem?_cons_succ];exact(λp q=>h1 Á Á,λp q=>h2 Á Á,λp q=>f Á Á,g)
  ·rw[iu,e,e];simp only[Èw,List.getElem?_cons_zero];refine(λp=>by lia,λp=>by lia,λ_ p=>by lia,λc d p q=>?_);cases p;cases q;rfl
theorem VM:∀ (x y:À Nat),ZS y x =-ZS x y
 | [],[]=>rfl
 | [],_::_=>rfl
 | _::_,[]=>rfl
 | a::r,b::s=>by
  have ih:=VM r s;unfold ZS;by_cases e:a=b
  ·rw[È e,È Ä5,ih]
  ·rw[Æ e,Æ λz=>e Äm];by_cases l:a<b
   ·rw[È l,Æ Á];rfl
   ·rw[Æ l,È Á]
theorem Ts(a b:Nat):decide ((⟨#[a]⟩:ah).cps.toList<(⟨#[b]⟩:ah).cps.toList)=decide (a<b):=by
 have e:([a]:À Nat)<[b]↔a<b:=by
  constructor
  ·intro h;cases h with
   | rel h=>exact h
   | Ë h=>cases h
  ·exact λh=>List.Lex.rel h
 exact ÇL e
theorem Jp:∀x:À Nat,ZS x x=0
 | []=>rfl
 | a::r=>by unfold ZS;rw[p8];exact Jp r
theorem NP:∀ (x y:À Nat),ZS x y=0->x=y
 | [],[],_=>rfl
 | [],_::_,h=>by unfold ZS at h;lia
 | _::_,[],h=>by unfold ZS at h;lia
 | a::r,b::s,h=>by
  unfold ZS at h;by_cases e:a=b
  ·rw[y3,e,h];rw[e,NP r s h]
  ·rw[w2];split at h<;>lia
def NO:Sp:=λvs H Q _=>X2 λx y:ah=>C4 (vs=[.str x,.str y]) Êo Êp #[ir,ZS]
def RX:Sp:=λvs H Q _=>X2 λx y:ah=>C4 #[sr,ÀB] Êo Êp #[ir,ZS]
theorem Zqg(T:Õ):Df P w K mg Â 1 "order_at" Êg RX:=by
 rw[d2,T.t_order_at.df,ZkW,r,hr];rw[fY,x,y,g,i];refine(_,#[Zc,#[ZK,(@œ _ _ _ #[Yb,#[ec,YI,2,ÇD],#[XS,#[gS,YI,2]]]),#[g5,Ü],ë],#[Zc,#[ZK,#[ec,YI,2,ÇD],#[g5,ÊA],ë],#[Zc,#[ZK,#[gS,YI,2],#[g5,Ü],ë],#[Zg,#[Zl,#[ZY,#[Zk,Rl,#[rm,UY,0,2],#[rm,UY,1,2],ú],ÊA,Ü]]]]]],?_);obtain t|u|v|B:=Jq þ Ė;have ll:=VN þ Ė;have lx:=NQ x;have ly:=NQ y;have inj:∀ {m n:Nat},í (m:Int)=í (n:Int)->m=n:=λ{m n} e=>by injection e with e;lia
 refine(_,rfl,_,rfl,x,rfl,Ĭ g,rfl,_,rfl,Y1 ź ź)
 ·have j:=inj (Ī d);refine Ùq
  ·have l:=Ùr;rw[t Á Á]at q;exact q
  ·have l:Ùs:=λe=>c ÒH;refine(_,rfl,_,rfl,x,rfl,Ĭ g,rfl,_,rfl,YZ (by rw[j]) ?_);rw[u Á Á]at q;exact ÊB
 ·have j:¬ lcp þ Ė=ĕ:=λe=>d ÒH;refine Y9 (_,rfl,_,rfl,x,rfl,Ĭ g,rfl,_,rfl,YC (λe=>j (inj e)) ?_);refine Ùq
  ·have l:=Ùr;rw[v Á Á]at q;exact q
  ·have l:Ùs:=λe=>c ÒH;obtain a|o|C:=Tt (z:=x) (k:=ÀB) Á Á;obtain b|p|D:=Tt (z:=y) (k:=ÀB) Á Á;rw[Qbd]at o p;refine(_,rfl,_,rfl,x,_,a,rfl,rfl,Ĭ g,C,_,rfl,_,rfl,y,_,b,rfl,rfl,Ĭ i,D,_,_,rfl,rfl,_,rfl,?_);rw[Ts];rw[B a b o p]at q;rw[fz,e]
   ·rw[È (Ī e)]at q;exact ÊB
   ·rw[Æ (λz=>e ÅS)]at q;exact q
theorem Zqx(T:Õ)(d:ÒE)(e:ÒI):Df P w K mg Â 3 "liken" ÂL NO:=by
 rw[d2,T.t_liken.df,ZpC,g,a];rw[fY,x,y,b,c];refine(_,#[Zg,#[Zl,#[Zy,e,a,#[Zd,‹0›,‹1›,#[eH,d,a,0,1]],Í]]],?_);exact(_,rfl,_,rfl,_,rfl,_,rfl,x,y,rfl,b,c,x,y,rfl,b,c,q)
theorem RW{c A B:Prop}[Éw c](hc:¬ c)(h:A):if (!decide c)=true then A else B:=by rw[È (by rw[Ń hc];rfl)];exact h
def NN:Sp:=λvs H Q _=>X3 λ(x y:ah) (a:Nat)=>C5 #[sr,a] Êo Êp (a<=lcp þ Ė) (∀t,H t=af->Q Ág (upd H t (.tup [.int (ZS þ Ė),.int ÀB,.int (ÀB-(a:Int)+1)])))
theorem ZiE(T:Õ)(e:Òy)(g:ÒI):Df P w K mg Â 2 "liken_from" Äz NN:=by
 rw[d2,T.t_liken_from.df,J1,i,a];obtain x|y|b|rfl|c|d|j|q:=h;refine(_,#[Zc,#[Zu,3,J1.nd,â,#[Zy,e,a,#[fa,0,1,2],Í]],#[Zg,#[Zl,#[Yq,#[Zd,#[Zy,g,a,#[fa,0,1,3],Í],‹3›,#[ZM,Yf,#[rT,U2,3,2],Ü]]]]]],_,rfl,_,rfl,_,rfl,x,y,b,rfl,c,d,j,_,rfl,_,rfl,_,rfl,x,y,rfl,c,d,_,rfl,_,rfl,_,rfl,_,_,rfl,rfl,_,_,rfl,rfl,ÁI,λt k=>?_);exact q t k
def WM(ss:Ê)(v:V):Prop :=
 (v=.non/\∀i x y,ss[i+1]? = U x->ss[i]? = U y->0<=ZS þ Ė) \/
 ∃k:Nat,v=.int #[fO,k]/\k+1<Ο/\(∀x y,ss[k+1]? = U x->ss[k]? = U y->ZS þ Ė<0)/\∀i,i<k->∀x y,ss[i+1]? = U x->ss[i]? = U y->0<=ZS þ Ė
theorem NM{ss:Ê}{v g:V}(h:WM ss v)(h':WM ss g):v=g:=by
 rcases h with⟨rfl,a⟩|⟨k,rfl,l,b,c⟩
 ·rcases h' with⟨rfl,_⟩|⟨k',rfl,d,f,_⟩
  ·rfl
  ·have:=a k' _ _ (Qb d) ÄI;have:=f _ _ (Qb d) ÄI;lia
 ·rcases h' with⟨rfl,a⟩|⟨k',rfl,d,f,i⟩
  ·have:=a k _ _ (Qb l) ÄI;have:=b _ _ (Qb l) ÄI;lia
  ·have e:k=k':=by
    rcases Ùt k k' with h|h|h
    ·have:=i k h _ _ (Qb l) ÄI;have:=b _ _ (Qb l) ÄI;lia
    ·exact h
    ·have:=c k' h _ _ (Qb d) ÄI;have:=f _ _ (Qb d) ÄI;lia
   rw[e]
def RV(K:Å):Sp:=λvs H Q _=>X2 λ(a:aa) (ss:À ah)=>C5 #[ff,a] ÍK #[s6,400] Êz (∀ (v:V) (H':Hp),WM ss v->ZB H H'->Q v H')
theorem ZpO(T:Õ)(t:Ùu):Df P w K mg Â 4 "first_break" ["keys"] (RV K):=by
 rw[d2,T.t_first_break.df,J0,u,B];rw[sG,a,b,n,hn,p];refine(_,#[Zc,#[XR,Γ,(@LW _ _ _ _ _ _ _ rfl ÅM #[Zd,Ü,ÅK] Í Í),#[rx,1,J0.nd],#[Zg,#[ZK,#[Zk,Xl,#[Zy,t,B,#[Zd,#[rm,Àj,0,1],#[ZF,Àj,‹0›,#[ha,U2,1]]],Í],Ü,ú],#[fg,1],ë]]],ÇM],?_);have hl:#[hc,ÀS,Ä]=ÒC:=by rw[Qa]
 refine(_,rfl,a,_,rfl,.inl n,_,_,rfl,(by lia,by lia,by lia,by lia),?_);refine Ui (λi o k=>(∃v:Ã V,o=[U Ĩ,v])/\ZB H k/\∀j,j<i->∀x y,b[j+1]? = U x->b[j]? = U y->0<=ZS þ Ė) ((af,rfl),ÂC H,λj h=>by lia) ?_ ?_
 ·rintro i o k hi ⟨⟨v,rfl⟩,g,m⟩;have l:i+1<Œ:=by lia
  have r:(1+(i:Int))=#[fO,i]:=by lia
  have C:(1+(i:Int)-1)=#[g8,i]:=by lia
  refine(_,rfl,_,rfl,a,_,_,_,rfl,rfl,g.seq n,#[e5,r,Jr,l],_,rfl,_,rfl,_,_,rfl,rfl,a,_,_,_,rfl,rfl,g.seq n,#[e5,C,Jr,Á],b[i+1],b[i],rfl,p _ (Qah l),p _ (Qah Á),_,_,rfl,rfl,_,rfl,?_);refine Y1 ź ź
  ·have D:ZS (cds b[i+1]) (cds b[i])<0:=Ãu;refine(_,rfl,q _ k (.inr (i,by rw[r],l,λx y c e=>?_,m)) g);rw[qa];lia
  ·have D:¬ ZS (cds b[i+1]) (cds b[i])<0:=ÍM;refine((_,rfl),g,λj hj x y c e=>?_);by_cases F:j=i
   ·subst F;rw[qa];lia
   ·exact m j Á x y c e
 ·rintro o k ⟨⟨v,rfl⟩,g,m⟩;refine q _ k (.inl (rfl,λj x y c e=>?_)) g;have:=(Į c).1;exact m j Á x y c e
def RU(K:Å)(tup:Ñ):Sp:=λvs H Q _=>X2 λ(a:aa) (ns:À Int)=>C4 #[ff,a] Òo #[su,200] (∀ (t f r:aa) (H':Hp),H t=af->H f=af->H r=af->f≠r->H' t=U (if tup=true then .tup #[hk,f,r] else .lst #[hk,f,r])->H' f=U (.lst ((Xr ns).map í))->H' r=U (.lst ((Wm ns).map í))->ZB H H'->t≠f->t≠r->Q Ág H')
theorem Zq3{H:Hp}{f r t:aa}{A B T:HO}(h:H f=af)(hr:(upd H f A) r=af)(ht:ÒJ t=af) :
  H r=af/\H t=af/\f≠r/\t≠f/\t≠r/\ÒK f=U A/\ÒK r=U B/\ZB H ÒK:=by
 have a:f≠r:=Ze (H:=upd H f A) (o:=A) Zb hr;have b:ÒJ f=U A:=by rw[Zf a];exact Zb
 have c:f≠t:=Ze b ht;have d:r≠t:=Ze (H:=upd (upd H f A) r B) (o:=B) Zb ht;have e:ZB H (upd H f A):=Zi h _;have g:=e.trans (Zi hr B);have i:=ÈA (Zi ht T);exact(e.free hr,g.free ht,a,c.symm,d.symm,by rw[Zf c];exact b,by rw[Zf d];exact Zb,i)
theorem ZnY(T:Õ):Df P w K mg Â 1 "halves" Ãr (RU K true):=by
 rw[d2,T.t_halves.df,JZ,j,hr];rw[fY,a,b,c,hn];refine(_,#[Zc,#[Zu,1,JZ.nd,â,#[ZM,Ro,#[ZM,Yf,ÅK,Ü],Ü]],#[Zg,#[Zl,#[Yq,#[Zd,#[W9,(slL K),‹0›,(@Ws _),#[Xy,‹1›]],#[fo,0,1]]]]]],_,rfl,a,_,rfl,.inl c,_,_,rfl,rfl,_,_,rfl,rfl,ÇB,?_);have k:mid b<=Œ\/b=[]:=by
  cases b with
  | nil=>exact Àt
  | Ë x r=>left;unfold mid;rw[Qq];lia
 have g:mid b<=Œ:=by
  rcases k with h|h
  ·exact h
  ·subst h;decide
 have m:=ZsC b;simp only[m];refine(_,rfl,_,rfl,_,rfl,a,_,rfl,c,λl d=>?_);refine(_,rfl,_,rfl,_,rfl,a,_,rfl,(Zi d _).seq c,λr i=>(Ây,λt e=>?_));rw[ZuP b _ g]at i e ⊢;rw[Zq5 b _ g]at e ⊢;obtain n|o|p|u|v|y|z|B:=Zq3 (T:=.tup #[hk,l,r]) d i e;exact q t l r _ o d n p Zb y z B u v
theorem VL(f:ah)(v:V):∀fs:À (ah×V),#[ue].length<=ÃH+1
 | []=>Qj _
 | p::r=>by
  unfold Zw;split
  ·exact Qac _
  ·exact Òr (VL f v r)
def YS(k f:aa)(g:Int):À ÁX:=Zw "gone" (.int g) (Zw "fars" ą Ùv)
theorem nGF:¬ #[hy,"fars","gone"]:=by ac_rfl
theorem nGK:¬ #[hy,"all_keys","gone"]:=by ac_rfl
theorem nFK:¬ #[hy,"all_keys","fars"]:=by ac_rfl
theorem Vi(k f:aa)(g:Int):(ÍN).lookup ("all_keys" : ah)=U (.ref k):=by unfold YS;rw[Zr,Æ nGK,Zr,Æ nFK,Zr,È rfl]
theorem Tr(k f:aa)(g:Int):(ÍN).lookup ("gone" : ah)=U (.int g):=by unfold YS;rw[Zr,È rfl]
theorem Tq(k f:aa)(g:Int){m:ah}(h1:¬ m = "gone")(h2:¬ m = "fars")(a:¬ m = "all_keys"):(ÍN).lookup m=af:=by unfold YS;rw[Zr,Æ h1,Zr,Æ h2,Zr,Æ a];rfl
structure Vh (C:aa) (H:Hp) (p k f:aa) (ss:Ê) (g:Nat):Prop where
 ob:∃dx,H p=U (.ins C dx ÍN)
 ks:H k=U (.lst Àw)
 fs:H f=U Ùn
def Tp(C:aa):Sp:=λvs H Q _=>X5 λ(p k f:aa) (ss:À ah) (g:Nat)=>C3 #[ff,p] ÒL (Q (.int (Òp-(g:Int))) H)
theorem ZsT(T:Õ):Mf P w K mg Â 1 au "to_go" ð (Tp au):=by
 rw[d2,T.t_Row_to_go.mf,ZjP,c,hr];obtain p|k|f|d|g|rfl|R|q:=h;refine(_,#[Zg,#[Zl,#[ZM,U2,#[Zn,(Yu K),Í,Áe,Qy,#[Zd,Ĥ]],Ĥ]]],?_);obtain ⟨a,b⟩|e|hf:=R;refine(_,rfl,p,au,a,_,_,rfl,b,Ŏ,ÄJ,Vi _ _ _,k,_,rfl,.inl (É e),_,rfl,p,au,a,_,_,rfl,b,Ŏ,ÇN,Tr _ _ _,_,_,rfl,rfl,?_);rw[Qa];exact q
def WL(ss:Ê)(g:Nat):V:=match ss[g]? with
 | some z=>.str z
 | none=>.non
def Vg(C:aa):Sp:=λvs H Q _=>X5 λ(p k f:aa) (ss:À ah) (g:Nat)=>C3 #[ff,p] ÒL (Q (WL ss g) H)
theorem Zr1(T:Õ)(i:ÍO):Mf P w K mg Â 2 au "head" ð (Vg au):=by
 rw[d2,T.t_Row_head.mf,Zlp,j,l];obtain p|k|f|a|g|rfl|R|q:=h;refine(_,#[Zg,#[Zl,#[ZY,#[Zk,Wt,#[sP,i,l,0],Ü,ú],#[ZF,Àj,Ĥ,Ĥ],ţ]]],?_);obtain ⟨b,c⟩|m|hf:=id R;refine(_,rfl,p,b,_,rfl,c,Tq _ _ _ ö ö ö,p,k,f,a,g,rfl,R,_,_,rfl,rfl,_,rfl,?_);refine Y1 ź ź
 ·have n:(0:Int)<Á5-(g:Int):=Ãu;have e:g<ĳ:=by lia
  refine(_,rfl,p,au,b,_,_,rfl,c,Ŏ,ÄJ,Vi _ _ _,_,rfl,p,au,b,_,_,rfl,c,Ŏ,ÇN,Tr _ _ _,k,_,_,_,rfl,rfl,É m,Ye #[iy,e],?_);unfold WL at q;rw[Qb e]at q;exact q
 ·have n:¬ (0:Int)<Á5-(g:Int):=ÍM;unfold WL at q;rw[Q1 Á]at q;exact q
def NL(C:aa):Sp:=λvs H Q _=>X4 λ(p dx a:aa) (ss:À ah)=>C6 #[gr,p,a] (H p=U (.ins C dx [])) #[sK,a] #[s6,200] Êz (∀ (k f:aa) (H':Hp),H k=af->H f=af->k≠f->Vh C H' p k f ss 0->#[eN,o,p,H']->Q .non H')
theorem ZmT(T:Õ)(B:ÒM):Cf P w K mg Â 4 au "Row" ÂM (NL au):=by
 rw[d2,T.t_Row_init.cf,ZlT,C,D];obtain p|c|a|d|rfl|m|i|F|G|q:=h;refine(_,#[Zc,#[XQ,‹0›,#[WW,(ZvA K),Êw,Êx,Àl]],#[Zc,#[XQ,‹0›,#[se,B,D]],#[Zg,ÒN]]],_,rfl,a,_,rfl,.inl (É i),λk j=>?_);have l:p≠k:=Ze m j;have I:a≠p:=λe=>by rw[e,m]at i;cases i
 have r:a≠k:=Ze i j;refine(_,rfl,p,au,c,[],rfl,#[hR,l,m],Ŏ,ÄJ,#[h8,0],?_);have J:ÍP a=U #[ei,Àf]:=by rw[Zf I,Zf r];exact i
 have t:ÍP p=U (.ins au c Ùv):=Zb;have x:ÍP k=U #[ei,Àf]:=by rw[Zf l.symm];exact Zb
 have y:#[eP,o,H,p,ÍP]:=λb o h n=>by rw[Zf n,Zf (Ze h j)];exact h
 refine(_,rfl,a,d,rfl,É J,F,G,λf H3 g L v=>?_);have M:H f=af:=by
  cases N:H f with
  | none=>rfl
  | some u =>
   by_cases e:f=p
   ·rw[eM,e,t,g]
   ·rw[y f u N e]at g;cases g
 have O:k≠f:=Ze x g;have z:p≠f:=Ze t g;refine(_,rfl,p,au,c,_,rfl,v _ _ t,Ŏ,ÒO,#[h8,1],_,rfl,p,au,c,_,rfl,Zb,Ŏ,ÇN,?_,?_)
 ·have h1:=VL "all_keys" (õ k) [];have h2:=VL "fars" (õ f) (Zw "all_keys" (õ k) []);have h3:Ùw:=rfl;lia
 ·refine q k f _ j M O ((c,Zb),?_,?_) λb o h n=>?_
  ·rw[Zf l.symm,Zf l.symm];exact v _ _ x
  ·rw[Zf Äm,Zf Äm];exact L
  ·rw[Zf n,Zf n];exact v _ _ (y b o h n)
theorem Vf{K:Å}{a:aa}{xs:Ą}{k:Nat}{D:aa}{b:Àh}{d:Hp}{g:TG}{f:TE}{Q:VK}(Pv:#[gQ,Àh])(h0:Pv 0 [] #[sE,b,k] #[gb,d,D])
  (hl:∀i ys b H,Pv i ys b H->SqL K H a xs)
  (hs:∀i x ys b H,xs[i]? = U x->Pv i ys b H->g x b H λh n=>f h n λy j=>j D=U Ãf/\č<aq/\Pv (i+1) (ys++[y]) h #[hg,j,ys,y])
  (hd:#[iK,ys,b,Ú]):Vu ÏQ D k b d g Vv f Q:=by
 refine(λi m ys b H=>m=Ú-i/\i<=Ú/\Pv i ys b H,(Ú,by simp,Qt _,h0),?_);rintro i m ys b H ⟨rfl,hi,p⟩;have c:=hl i ys b H p;by_cases l:i<Ú
 ·refine .inr ((xs,xs[i],c,Qb l),Pv (i+1),λjP aR o q=>(Ú-(i+1),by lia,rfl,l,q),λx o y=>?_);obtain rfl|e:=y;rw[qI];exact hs i x ys b _ (e xs c) p
 ·have e:i=Ú:=by lia
  exact .inl ((xs,c,by lia),hd ys b H Åt)
theorem NK:∀x y:À Nat,x<y↔ZS x y<0
 | [],[]=>by unfold ZS;exact(λh=>Ç h Ó,λh=>Ç h Á)
 | [],_::_=>by unfold ZS;exact(λ_=>by lia,λ_=>List.nil_lt_cons _ _)
 | _::_,[]=>by unfold ZS;exact(λh=>Ç h (List.not_lt_nil _),λh=>Ç h Á)
 | a::r,b::s=>by
  have ih:=NK r s;unfold ZS;rw[Ùx];by_cases e:a=b
  ·rw[È e,<- ih];exact(λh=>ω (λz=>by lia) (λz=>z.2),λh=>.inr (e,h))
  ·rw[Æ e];by_cases l:a<b
   ·rw[È l];exact(λ_=>by lia,λ_=>.inl l)
   ·rw[Æ l];exact(λh=>ω (λz=>Ç z l) (λz=>Ç z.1 e),λh=>Ç h Á)
abbrev Hd:=Int->Ã (À Nat)
def Btr(x:Ō)(a:Int)(y:Ō)(b:Int):Prop:=ZS x y<0\/ÒP
def Win(hd:Hd)(N:Ô):Ã Int->Prop
 | none=>∀n∈N,hd n=af
 | some a=>a∈N/\∃x,hd a=U x/\∀b∈N,∀y,hd b=U y->b=a\/Btr x a y b
theorem Btr.asym{x y:Ō}{a b:Int}(h:Btr x a y b)(g:Btr y b x a):Ē:=by have e:=VM x y;rcases h with h|⟨h,h2⟩<;>rcases g with g|⟨g,g2⟩<;>lia
theorem ÇO{x y:Ō}{a b:Int}(h:a≠b):Btr x a y b\/Btr y b x a:=by have e:=VM x y;unfold Btr;lia
theorem Btr.trans{x y z:Ō}{a b c:Int}(h:Btr x a y b)(g:Btr y b z c):Btr x a z c:=by
 have t1:=RY x y z;have t2:=RY z x y;have t3:=RY y z x;have e1:=VM x y;have e2:=VM y z;have e3:=VM x z;unfold Btr at *
 lia
theorem Win.one{hd:Hd}{N:Ô}{v w:Β}(h:Win hd N v)(g:Win hd N w):v=w:=by
 cases v with
 | none =>
  cases w with
  | none=>rfl
  | some b=>obtain d|y|c|_:=g;rw[h b d]at c;cases c
 | some a =>
  obtain i|x|f|j:=h;cases w with
  | none=>rw[g a i]at f;cases f
  | some b =>
   obtain d|y|c|k:=g;rcases j b d y c with e|e
   ·rw[e]
   ·rcases k a i x f with e'|e'
    ·rw[e']
    ·exact(e.asym e').elim
theorem Win.nil(hd:Hd):Win hd [] af:=λn h=>by cases h
theorem ÍQ{hd:Hd}{n:Int}:Win hd [n] Ùy:=by
 cases h:hd n with
 | none=>intro m a;rw[Ý a];exact h
 | some x=>exact(by simp,x,h,λb c y hy=>.inl (Ý c))
theorem ÇP{hd:Hd}{A B:Ô}{a b:Int}{x y:Ō}(ha:Win hd A (U a))(hb:Win hd B (U b))(hx:hd a=U x)(hy:hd b=U y)(h:Btr x a y b):Win hd (A++B) (U a):=by
 obtain i|x'|f|j:=ha;obtain b1|y'|g|k:=hb;rw[hL,hx,f];rw[hL,hy,g];refine(Q0 _ i,x,hx,λc hc z d=>?_);rcases ß hc with hc|hc
 ·exact j c hc z d
 ·rcases k c hc z d with e|e
  ·rw[hs,e,hy,d];exact .inr h
  ·exact .inr (h.trans e)
theorem ÊC{hd:Hd}{A B:Ô}{a b:Int}{x y:Ō}(ha:Win hd A (U a))(hb:Win hd B (U b))(hx:hd a=U x)(hy:hd b=U y)(h:Btr y b x a):Win hd (A++B) (U b):=by have:=ÇP hb ha hy hx h;obtain d|z|e|f:=this;exact(by rcases ß d with h|h<;>simp[h],z,e,λc g=>f c (by rcases ß g with h|h<;>simp[h]))
theorem ÍR{hd:Hd}{A B:Ô}{w:Β}(ha:Win hd A w)(hb:Win hd B af):Win hd (A++B) w:=by
 cases w with
 | none=>intro n d;rcases ß d with h|h;exact ha n h;exact hb n h
 | some a =>
  obtain e|x|f|g:=ha;refine(Q0 _ e,x,f,λc hc z b=>?_);rcases ß hc with hc|hc
  ·exact g c hc z b
  ·rw[hb c hc]at b;cases b
theorem ÍS{hd:Hd}{A B:Ô}{w:Β}(ha:Win hd A af)(hb:Win hd B w):Win hd (A++B) w:=by
 cases w with
 | none=>intro n d;rcases ß d with h|h;exact ha n h;exact hb n h
 | some a =>
  obtain e|x|f|g:=hb;refine(QF _ e,x,f,λc hc z b=>?_);rcases ß hc with hc|hc
  ·rw[ha c hc]at b;cases b
  ·exact g c hc z b
theorem Win.ex(hd:Hd):∀N:À Int,ËB->∃w,Win hd N w
 | [],_=>(af,Win.nil hd)
 | n::N,hn=>by
  obtain d|f:=Q9.mp hn;obtain w|hw:=Win.ex hd N f;have a:Win hd [n] Ùy:=ÍQ;cases h:hd n with
  | none=>rw[h]at a;exact(w,ÍS (A:=[n]) a hw)
  | some x =>
   rw[h]at a;cases w with
   | none=>exact(U n,ÍR (A:=[n]) a hw)
   | some b =>
    obtain g|y|c|b2:=id hw;have i:n≠b:=λe=>d (e ▸ g);rcases ÇO (x:=x) (y:=y) i with e|e
    ·exact(U n,ÇP (A:=[n]) a hw h c e)
    ·exact(U b,ÊC (A:=[n]) a hw h c e)
theorem ÊD{hd c:Hd}{N:Ô}(h:∀n∈N,c n=hd n){w:Β}(hw:Win hd N w):Win c N w:=by
 cases w with
 | none=>intro n d;rw[h n d];exact hw n d
 | some a=>obtain e|x|g|i:=hw;exact(e,x,by rw[h a e];exact g,λb f y j=>i b f y #[sU,h,b,f,j])
def lo(N:Ô):À Int:=N.take (mid N)
def up(N:Ô):À Int:=N.drop (mid N)
theorem Xi(N:Ô):lo N++up N=N:=QaR _ _
theorem VJ{N:Ô}(h:ÅT):(lo N).length<ģ/\1<=(lo N).length:=by unfold lo mid;rw[QA];lia
theorem Ve{N:Ô}(h:ÅT):(up N).length<ģ/\1<=(up N).length:=by unfold up mid;rw[Q4];lia
def ZX(N:Ô):Int×Int:=(ÇQ 0,ÇR 0,)
abbrev StL:=À ((Int×Int)×Ã ÒQ)
def stV:Ã ÒQ->V
 | none=>.non
 | some t=>.ref t.1
def kvS(s:StL):À (À Key×V):=s.map λe=>([.inl e.1.1,.inl e.1.2],stV e.2,)
def AtS(H:Hp)(s:StL):Prop:=∀e∈s,∀t,e.2=U t->H t.1=U #[h1,t.2.1,t.2.2]
def Z3(s:StL)(k:Ŗ):Ã (Ã ÒQ):=(s.find? λe=>decide (e.1=k)).map ě
def Ya(s:StL)(k:Ŗ)(v:Ãv):StL:=if s.any ÍT then s.map Ùz else s++[(k,v,)]
theorem AtS.mono{H H':Hp}{s:StL}(h:AtS H s)(k:#[fG,a,xs]):AtS H' s:=λe he t ht=>k _ _ (h e he t ht)
theorem NJ{a b:Ŗ}(h:([.inl a.1,.inl a.2]:À Key)=[.inl b.1,.inl b.2]):a=b:=by obtain a1|a2:=a;obtain b1|b2:=b;injection h with f c;injection c with c _;have d:=Æi f;have e:=Æi c;simp only at d e;rw[d,e]
theorem Jo(k:Ŗ):∀s:StL,Y3 (kvS s) ÒR=(Z3 s k).map stV
 | []=>rfl
 | e::s=>by
  have ih:=Jo k s;by_cases h:e.1=k
  ·unfold kvS Z3;rw[Ql,T6 ÊE];simp[Âp,h]
  ·unfold kvS at ih ⊢;rw[Ql,T5 ÒS,ih];unfold Z3;simp[Âp,h]
theorem Zsv(k:Ŗ)(s:StL):((kvS s).any λa=>decide (a.1=(ÒR:À Key)))=s.any λe=>decide (e.1=k):=by
 unfold kvS;rw[List.any_map];congr 1;funext e;rw[70];by_cases h:e.1=k
 ·rw[đ h,đ ÊE]
 ·rw[Ń h,Ń ÒS]
theorem RT(s:StL)(k:Ŗ)(v:Ãv):YT (kvS s) ÒR (stV v)=kvS ÊF:=by
 unfold YT Ya;rw[Zsv];split
 ·unfold kvS;rw[Qo,Qo];congr 1;funext e;rw[70];by_cases h:e.1=k
  ·rw[È h,È ÊE]
  ·rw[Æ h,Æ ÒS]
 ·unfold kvS;rw[Qf];rfl
theorem ZqU(s:StL)(k:Ŗ)(v:Ãv):(ÊF).length<=ĝ+1:=by
 unfold Ya;split
 ·rw[Qa];lia
 ·rw[Qd];exact Qj _
theorem Wl(s:StL)(k j:Ŗ)(v:Ãv):Z3 ÊF j=if j=k then U v else Z3 s j:=by
 unfold Ya;split
 ·rename_i h;induction s with
  | nil=>simp at h
  | Ë e s f =>
   unfold Z3 at f ⊢;by_cases b:e.1=k
   ·by_cases a:j=k
    ·subst a;simp[Âp,b]
    ·have c:¬ k=j:=λz=>a Äm;rw[Ql,È b,QaK (by simp[b,c]),QaK (by simp[b,c]),Æ a];by_cases d:s.any ÍT=true
     ·have:=f d;rw[Æ a]at this;exact this
     ·have:s.map Ùz=s:=by
       rw[List.map_eq_iff];intro i;cases l:s[i]? with
       | none=>rfl
       | some x=>have g:¬ x.1=k:=λz=>d (ÇS (x,Qp l,by simpa using z));simp[g]
      rw[this]
   ·have d:s.any ÍT=true:=by simpa [b] using h
    rw[Ql,Æ b];by_cases a:e.1=j
    ·have:¬ j=k:=λz=>b (a.trans z);rw[ÙA #[ea,a],ÙA #[ea,a],Æ this]
    ·rw[QaK #[ea,a],QaK #[ea,a]];exact f d
 ·rename_i h;unfold Z3;rw[List.find?_append];by_cases a:j=k
  ·subst a;have:s.find? (λe=>decide (e.1=j))=af:=by rw[List.find?_eq_none];intro x g z;exact h (ÇS (x,g,z))
   rw[this];simp
  ·have c:¬ k=j:=λz=>a Äm;rw[Æ a];simp[c]
theorem AtS.put{H:Hp}{s:StL}{k:Ŗ}{v:Ãv}(h:AtS H s)(b:ÙB):AtS H ÊF:=by
 unfold Ya;split
 ·intro e he t a;rw[d9,x,c,he];split at a
  ·exact b t a
  ·exact h x c t a
 ·intro e he t a;rcases ß he with he|he
  ·exact h e he t a
  ·rw[Ý he]at a;exact b t a
theorem Jn{s:StL}{k:Ŗ}{v:Ãv}(h:Z3 s k=U v):(k,v,)∈s:=by
 unfold Z3 at h;obtain e|a|rfl:=Qbf.mp h;have b:=ÌX;have:e.1=k:=by simpa using b
 rw[<- this];exact Qab a
def Zw5(hd:Hd)(s:StL)(N:Ô):Prop :=
 (∀a b x y,Win hd (lo N) (U a)->Win hd (up N) (U b)->hd a=U x->hd b=U y->∃t,Z3 s (ZX N)=U (U (t,if ZS x y<0\/ÒP then b else a,#[gO,x,y],))) /\
 ((Win hd (lo N) af\/Win hd (up N) af)->Z3 s (ZX N)=af\/Z3 s (ZX N)=U af)
def XN(hd:Hd)(s:StL):Nat->À Int->Prop
 | 0,_=>ŗ
 | n+1,N=>2<=ģ->XN hd s n (lo N)/\XN hd s n (up N)/\Zw5 hd s N
def W5:Nat->À Int->Int×Int->Prop
 | 0,_,_=>Ē
 | n+1,N,k=>2<=ģ/\(W5 n (lo N) k\/W5 n (up N) k\/k=ZX N)
abbrev Yj(N:Ô):Prop:=N.Pairwise (·<·)
theorem RS{N:Ô}(h:Yj N):Yj (lo N):=h.sublist Õk
theorem RR{N:Ô}(h:Yj N):Yj (up N):=h.sublist (List.drop_sublist _ _)
theorem RQ{N:Ô}(h:Yj N):ËB:=h.imp λ{a b} i6 e=>by lia
theorem ZP{N:Ô}(h:Yj N){a b:Int}(ha:a∈lo N)(hb:b∈up N):a<b:=by
 have:Yj (lo N++up N):=by rw[Xi];exact h
 exact(List.pairwise_append.mp this).2.2 a ha b hb
theorem UD{N:Ô}(h:N≠[]):ÇQ 0∈N:=by
 cases N with
 | nil=>exact #[y5,h]
 | Ë a r=>simp
theorem UC{N:Ô}(h:N≠[]):ÇR 0∈N:=by rw[Qaz,Qa7 h];exact List.getLast_mem h
theorem Xh{N:Ô}(h:1<=ģ):N≠[]:=λz=>by rw[(z)]at h;simp at h
theorem NI{N:Ô}(h:ÅT):(ZX N).2=(up N).getLastD 0:=by
 have a:=Xh (Ve h).2;show ÇR 0=_;rw[Qaz,Qaz]
 conv=>lhs;rw[<- Xi N]
 rw[List.getLast?_append,Qa7 a];rfl
theorem NH{N:Ô}(h:ÅT):(ZX N).1=(lo N).headD 0:=by
 have b:=Xh (VJ h).2;show ÇQ 0=_
 conv=>lhs;rw[<- Xi N]
 cases c:lo N with
 | nil=>exact Ç c b
 | Ë a r=>rfl
theorem UB:∀ (n:Nat) (N:À Int) (k:Int×Int),W5 n N k->k.1∈N/\k.2∈N
 | 0,_,_,h=>ω
 | n+1,N,k,⟨h2,h⟩=>by
  rcases h with h|h|rfl
  ·have:=UB n _ k h;rw[<- Xi N];exact(Q0 _ this.1,Q0 _ this.2)
  ·have:=UB n _ k h;rw[<- Xi N];exact(QF _ this.1,QF _ this.2)
  ·have a:N≠[]:=Xh Á;exact(UD a,UC a)
theorem NG{N:Ô}(hr:Yj N)(h2:ÅT){n:Nat}{k:Ŗ}(h:W5 n (lo N) k):k≠ZX N/\∀m,¬ W5 m (up N) k:=by
 rw[o4]
 ·rw[ze,b,NI];have:=ZP hr this.2 (UC (Xh (Ve h2).2));lia
 ·have:=ZP hr this.1 (UB m _ k a).1;lia
theorem NF{N:Ô}(hr:Yj N)(h2:ÅT){n:Nat}{k:Ŗ}(h:W5 n (up N) k):k≠ZX N/\∀m,¬ W5 m (lo N) k:=by
 rw[o4]
 ·rw[ze,b,NH];have:=ZP hr (UD (Xh (VJ h2).2)) this.1;lia
 ·have:=ZP hr (UB m _ k a).1 this.1;lia
theorem XN.congr{hd d:Hd}{s s':StL}:∀ (n:Nat) (N:À Int),(∀m∈N,d m=hd m)->(∀k,W5 n N k->Z3 s' k=Z3 s k)->XN hd s n N->XN d s' n N
 | 0,_,_,_,_=>Μ
 | n+1,N,j,hk,h=>λh2=>by
  obtain a|b|q|r:=h h2;have f:∀m∈lo N,d m=hd m:=λm c=>j m (by rw[<- Xi N];exact Q0 _ c);have g:∀m∈up N,d m=hd m:=λm c=>j m (by rw[<- Xi N];exact QF _ c);have l:∀m∈lo N,hd m=d m:=λm c=>(f m c).symm;have e:∀m∈up N,hd m=d m:=λm c=>(g m c).symm;refine(XN.congr n _ f (λk i=>hk k (h2,.inl i)) a,XN.congr n _ g (λk i=>hk k (h2,.inr (.inl i))) b,λa b x y o p t u=>?_,λhw=>?_)
  ·rw[hk _ (h2,.inr ÂA)];exact q a b x y (ÊD l o) (ÊD e p) #[sU,f,a,o.1,t] #[sU,g,b,p.1,u]
  ·rw[hk _ (h2,.inr ÂA)];refine r ?_;rcases hw with hw|hw
   ·exact .inl (ÊD l hw)
   ·exact .inr (ÊD e hw)
inductive YF (hd:Hd):Nat->À Int->Int->Int->Prop
 | few {n:Nat} {N:À Int}:ģ<2->YF hd n N 0 0
 | none {n:Nat} {N:À Int} {k l k' l':Int}:2<=ģ->YF hd n (lo N) k l->YF hd n (up N) k' l'->(Win hd (lo N) af\/Win hd (up N) af)->YF hd (n+1) N (k+k') (l+l')
 | both {n:Nat} {N:À Int} {k l k' l':Int} {a b:Int} {x y:À Nat}:2<=ģ->YF hd n (lo N) k l->YF hd n (up N) k' l'->Win hd (lo N) (U a)->Win hd (up N) (U b)->hd a=U x->hd b=U y->YF hd (n+1) N (k+k'+1) (l+l'+(lcp x y:Nat)+1)
theorem ÊG{hd:Hd}:∀ {n m:Nat} {N:À Int} {k l k' g:Int},YF hd n N k l->YF hd m N k' g->k=k'/\l=g
 | _,_,_,_,_,_,_,.few h,p=>by
  cases p with
  | few _=>exact ć
  | none h2 _ _ _=>lia
  | both h2 _ _ _ _ _ _=>lia
 | _,_,_,_,_,_,_,.none h2 a b hw,p=>by
  cases p with
  | few h=>lia
  | none _ c d _=>obtain r|s:=ÊG a c;obtain t|u:=ÊG b d;exact Íy
  | both _ c d e f i j =>
   rcases hw with hw|hw
   ·rw[gx,e]
   ·rw[gx,f]
 | _,_,_,_,_,_,_,.both h2 a b e f i j,p=>by
  cases p with
  | few h=>lia
  | none _ c d hw =>
   rcases hw with hw|hw
   ·rw[gx,e]
   ·rw[gx,f]
  | both _ c d v w o q=>obtain r|s:=ÊG a c;obtain t|u:=ÊG b d;have x:=Qu (e.one v);have y:=Qu (f.one w);subst x y;rw[fL,i,o,o];rw[fL,j,q,q];exact Íy
def kk(e:ah×Int):À Key:=[.inr e.1,.inl e.2]
def oV:Ã ah->V
 | none=>.non
 | some s=>.str s
def Yx:Ã Int->V
 | none=>.non
 | some a=>.int a
def kvH(E:ÊH):À Âa:=E.map λe=>(.inl e.1,oV e.2,)
def lk(E:ÊH)(n:Int):Ã ah:=(E.find? λe=>decide (e.1=n)).bind ě
theorem ZsE{x y:ah}(h:cds x=cds y):x=y:=by obtain⟨⟨a⟩⟩:=x;obtain⟨⟨b⟩⟩:=y;have:a=b:=h;rw[this]
def Jm:Key->aJ
 | .inl i=>.int i
 | .inr s=>.str s
def tD(k:À9):aJ:=.tuple (k.map Jm)
theorem NE{K:Å}{H:Hp}:∀ks:À Key,DVs K H Çf (Ρ Jm)
 | []=>.nil
 | .inl i::r=>.cons Ä7 (NE r)
 | .inr s::r=>.cons (.str s) (NE r)
theorem ND{K:Å}{H:Hp}:∀a:Wq,AtT H a->DVs K H (VW a) (ļ λt=>tD t.2)
 | [],_=>.nil
 | t::r,h=>.cons (.tup (ā (h t Ó)) (NE t.2)) (ND r λx hx=>h x (Qm _ hx))
structure Hds (H:Hp) (D:aa) (E:ÊH):Prop where
 at':H D=U (.dK (kvH E))
 nd:(E.map ù).Nodup
 ok:∀e∈E,∀s,e.2=U s->ĝ<=1000/\AZ s
theorem ZtQ(N:Ô):Xr N=lo N:=rfl
theorem ZuB(N:Ô):Wm N=up N:=rfl
abbrev X1:=Int×aa×À ah×Nat
def kvR(L:À X1):À Âa:=ĥ λe=>(.inl e.1,.ref e.2.1,)
def kvG(L:À X1):À Âa:=ĥ λe=>(.inl e.1,.int (e.2.2.2:Int),)
def ZwQ(ra ga:aa)(nb li lo:Int):À Âa:=[(.inr "rows",.ref ra,),(.inr "gone",.ref ga,),(.inr "number",.int nb,),(.inr "likenings",.int li,),(.inr "looks",.int lo,)]
structure Own (H:Hp) (o ra ga:aa) (L:À X1) (nb li lo:Int):Prop where
 at':H o=U (.dK (ZwQ ra ga nb li lo))
 ů:H ra=U (.dK (kvR L))
 gone:H ga=U (.dK (kvG L))
 nd:(ÒT).Nodup
 few:Àg<=60
 lst:∀e∈L,H e.2.1=U #[ei,e.2.2.1.map]/\e.2.2.1.length<=200/\e.2.2.2<=e.2.2.1.length/\∀s∈e.2.2.1,ĝ<=1000/\AZ s
theorem Jl{ns:Ô}(h:ns.Nodup):(Äa (Âq:Int->Key)).Nodup:=Qbj _ (λa b c z=>c ÍU) h
theorem ŉ{H:Hp}{a:aa}{kvs:ś}{k:Key}{r:Ã V}(e:ÉU)(h:Y3 kvs k=r):Y7 H a (kV k) r:=by rw[<- h];exact Y7.k e
structure HdOf (L:À X1) (E:ÊH):Prop where
 per:(E.map ù).Perm ÒT
 up:(E.map ù).Pairwise (·<·)
 hd:∀e∈L,(e.1,e.2.2.1[e.2.2.2]?,)∈E
def hdL(L:À X1):Hd:=λn=>((L.find? λe=>decide (e.1=n)).bind λe=>e.2.2.1[e.2.2.2]?).map cds
theorem NC:∀ {L:À X1},(ÒT).Nodup->∀ {e:X1},e∈L->hdL L e.1=(e.2.2.1[e.2.2.2]?).map cds
 | [],_,_,h=>by cases h
 | x::r,nd,e,h=>by
  rw[Ql,Q9]at nd;unfold hdL;rw[QaA];rcases ħ h with rfl|h
  ·rw[đ rfl];rfl
  ·rw[Ń (λz:x.1=e.1=>nd.1 (by rw[(z)];exact Qg (f:=λx:X1=>x.1) h))];exact NC nd.2 h
theorem Win.perm{hd:Hd}{N M:Ô}{v:Β}(h:Win hd N v)(p:N.Perm M):Win hd M v:=by
 cases v with
 | none=>exact λn d=>h n (p.mem_iff.mpr d)
 | some a=>obtain e|x|f|g:=h;exact(p.mem_iff.mp e,x,f,λb c=>g b (p.mem_iff.mpr c))
def ZvH(L:À X1)(H:Hp)(x:V):Prop:=(x=.non/\Win (hdL L) ÒT af)\/X3 λ(t:aa) (e:X1) (z:ah)=>x=.ref t/\e∈L/\e.2.2.1[e.2.2.2]? = U z/\H t=U #[fv,e.1,e.2.2.2,z]/\Win (hdL L) ÒT (U e.1)
def Wk(L:À X1):À Int:=ĥ λe=>(e.2.2.1.length:Int)-(e.2.2.2:Int)
structure Zvf (H:Hp) (r:aa) (rs:À (aa×À ah)):Prop where
 at':H r=U #[hS,rs.map,x,x.1]
 few:rs.length<=60
 lst:∀x∈rs,H x.1=U #[ei,x.2.map]/\x.2.length<=200/\∀s∈x.2,ĝ<=1000/\AZ s
theorem Zqp(n:Nat):(V8 0 n).Pairwise (·<·):=by unfold V8;exact Qbj _ (λa b h=>by lia) (List.pairwise_lt_range)
def Nz:Sp:=λvs H Q _=>X5 λ(p l:aa) (c a:Int) (ss:À ah)=>C10 Ùl ÄE (c<2 ^ 40) (0<=a) (a<=60) #[sK,l] ÍB ÍC (ÇC) (∀ (r:aa) (b:À ah) (d:Int) (H':Hp),H r=af->H' r=U #[ei,ÀS]->ÒC<=a->Ĝ b=true->#[fV,b,28]->Y6 H' p d->c<=d->d<=c+600->But p H H'->Q ÀU H')
theorem ZsH(T:Õ)(o:ÒU):Df P w K mg Â 5 "_law_row" Ãq Nz:=by
 rw[d2,T.t_l_row.df,Zrr,t,u];obtain p|l|c|g|i|rfl|j|v|y|B|C|D|F|G|q:=h;refine(_,#[Zg,#[Zl,#[Zn,(ZwS K),Í,T.b.n_sorted,boot_sorted,#[Zd,#[Zy,o,u,#[fa,0,1,2],Í]]]]],_,rfl,_,rfl,_,rfl,p,l,c,g,i,rfl,j,v,y,B,C,D,F,G,λr I J H1 dB L M N k O R m=>?_);refine(r,I,rfl,É L,by lia,λb S a n V=>?_);rw[el,ob,yk,j.here];have W:H b=af:=by
  cases e:H b with
  | none=>rfl
  | some x =>
   by_cases z:b=p
   ·rw[el,o1,d,k.here];rw[sq,d,a]
   ·have:=m b x e z;rw[yZ,a]
 exact q b S J _ W Zb #[ed,n.length_eq,M] V (λs X=>N s (n.mem_iff.mp X)) (k.new a) O R (m.trans #[r0,a])
def To(K:Å):Sp:=λvs H Q _=>X3 λ(n:Int) (a:aa) (ss:À ah)=>C6 (vs=[.int n,.ref a]) ÍK #[s6,400] Êz (WM ss .non) (∀H',ZB H H'->Q .non H')
theorem ZoO(T:Õ)(c:ÒV):Df P w K mg Â 5 "refuse_break" Êi (To K):=by
 rw[d2,T.t_refuse_break.df,Sb,d,g];obtain n|a|b|rfl|i|j|k|l|q:=h;refine(_,#[Zc,#[sy,2,Sb.nd,c,g,Àl],#[Zg,#[ZK,#[ec,SW,2,ţ],ÍV,ë]]],_,rfl,a,b,rfl,i,j,k,λv m o p=>?_);have e:=NM o l;subst e;exact(_,rfl,rfl,_,rfl,Y9 (q m p))
structure Zz where
 n:Int
 p:aa
 k:aa
 f:aa
 ss:À ah
 g:Nat
def toL(e:Zz):X1:=(e.n,e.p,Ö,e.g,)
def hdM(L:ó):Hd:=hdL ÄK
def ZC(L:ó):À Int:=ĥ (·.n)
theorem UA(L:ó):(ÄK).map ù=ZC L:=by rw[Qo];rfl
def kvM(L:ó):À Âa:=ĥ λe=>(.inl e.n,.ref e.p,)
theorem Vd{L:ó}(nd:ÊI){e:Zz}(he:e∈L):hdM L e.n=(Ö[e.g]?).map cds :=
 NC (L:=ĥ toL) #[ed,UA,nd] (Qg (f:=toL) he)
theorem Zrd(L:ó):(kvM L).map ù=(Ű).map (Âq:Int->Key):=by unfold kvM ZC;rw[Qo,Qo];rfl
theorem Wj{L:ó}(nd:ÊI){e:Zz}(he:e∈L):Y3 (kvM L) (.inl e.n)=U (.ref e.p):=UR #[e5,Zrd,Jl,nd] (Qg (f:=λe:Zz=>((.inl e.n:Key),õ e.p,)) he)
theorem Tn{L:ó}{n:Int}(h:n∈ZC L):∃e∈L,e.n=n:=Ľ h
def mgF(rd:aa)(nb li lo:Int)(sd:aa)(a:V):À ÁX:=[("rows",.ref rd,),("next_number",.int nb,),("likened",.int li,),("looked",.int lo,),("stays",.ref sd,),("best",a,)]
theorem Ny:¬ #[hy,"rows","next_number"]:=by ac_rfl
theorem Nx:¬ #[hy,"rows","likened"]:=by ac_rfl
theorem Nw:¬ #[hy,"rows","looked"]:=by ac_rfl
theorem Nv:¬ #[hy,"rows","stays"]:=by ac_rfl
theorem Nu:¬ #[hy,"rows","best"]:=by ac_rfl
theorem Nt:¬ #[hy,"next_number","likened"]:=by ac_rfl
theorem Nr:¬ #[hy,"next_number","looked"]:=by ac_rfl
theorem Nq:¬ #[hy,"next_number","stays"]:=by ac_rfl
theorem Np:¬ #[hy,"next_number","best"]:=by ac_rfl
theorem No:¬ #[hy,"likened","looked"]:=by ac_rfl
theorem Nm:¬ #[hy,"likened","stays"]:=by ac_rfl
theorem Nl:¬ #[hy,"likened","best"]:=by ac_rfl
theorem Nk:¬ #[hy,"looked","stays"]:=by ac_rfl
theorem Nj:¬ #[hy,"looked","best"]:=by ac_rfl
theorem Ni:¬ #[hy,"stays","best"]:=by ac_rfl
theorem VI(f:ah)(v x:V)(r:À ÁX):Zw f v ((f,x,)::r)=(f,v,)::r:=by unfold Zw;rw[È rfl]
theorem Zx{f g:ah}(h:¬ g=f)(v x:V)(r:À ÁX):Zw f v ((g,x,)::r)=(g,x,)::Zw f v r:=by show (if g=f then (g,v,)::r else (g,x,)::Zw f v r)=_;rw[Æ h]
theorem W4(f:ah)(v:V):Zw f v []=[(f,v,)]:=rfl
theorem VH(rd:aa)(nb li lo:Int)(sd:aa)(a:V):mgF rd nb li lo sd a=Zw "best" a (Zw "stays" (.ref sd) (Zw "looked" (.int lo) (Zw "likened" (.int li) (Zw "next_number" (.int nb) (Zw "rows" (.ref rd) []))))):=by rw[W4,Zx Ny,W4,Zx Nx,Zx Nt,W4,Zx Nw,Zx Nr,Zx No,W4,Zx Nv,Zx Nq,Zx Nm,Zx Nk,W4,Zx Nu,Zx Np,Zx Nl,Zx Nj,Zx Ni,W4];rfl
section
variable (rd:aa) (nb li lo:Int) (sd:aa) (aG:V)
theorem Z8:(ÇT).lookup ("rows" : ah)=U (.ref rd):=by rw[VH,Zr,Æ Nu,Zr,Æ Nv,Zr,Æ Nw,Zr,Æ Nx,Zr,Æ Ny,Zr,È rfl]
theorem Nh:(ÇT).lookup ("next_number" : ah)=U (.int nb):=by rw[VH,Zr,Æ Np,Zr,Æ Nq,Zr,Æ Nr,Zr,Æ Nt,Zr,È rfl]
theorem Ng:(ÇT).lookup ("likened" : ah)=U (.int li):=by rw[VH,Zr,Æ Nl,Zr,Æ Nm,Zr,Æ No,Zr,È rfl]
theorem Jk:(ÇT).lookup ("looked" : ah)=U (.int lo):=by rw[VH,Zr,Æ Nj,Zr,Æ Nk,Zr,È rfl]
theorem Tl:(ÇT).lookup ("stays" : ah)=U (.ref sd):=by rw[VH,Zr,Æ Ni,Zr,È rfl]
theorem Tj:(ÇT).lookup ("best" : ah)=U aG:=by rw[VH,Zr,È rfl]
theorem XF{m:ah}(h1:¬ m = "rows")(h2:¬ m = "next_number")(a:¬ m = "likened")(b:¬ m = "looked")(h5:¬ m = "stays")(c:¬ m = "best"):(ÇT).lookup m=af:=by rw[VH,Zr,Æ c,Zr,Æ h5,Zr,Æ b,Zr,Æ a,Zr,Æ h2,Zr,Æ h1];rfl
theorem Zh4(v:Int):Zw "next_number" (.int v) ÇT=mgF rd v li lo sd aG:=by unfold mgF;rw[Zx Ny,VI]
theorem Jj(v:Int):Zw "likened" (.int v) ÇT=mgF rd nb v lo sd aG:=by unfold mgF;rw[Zx Nx,Zx Nt,VI]
theorem Zii(v:Int):Zw "looked" (.int v) ÇT=mgF rd nb li v sd aG:=by unfold mgF;rw[Zx Nw,Zx Nr,Zx No,VI]
theorem ZiG(x:aa):Zw "stays" Án ÇT=mgF rd nb li lo x aG:=by unfold mgF;rw[Zx Nv,Zx Nq,Zx Nm,Zx Nk,VI]
theorem RP(x:V):Zw "best" x ÇT=mgF rd nb li lo sd x:=by unfold mgF;rw[Zx Nu,Zx Np,Zx Nl,Zx Nj,Zx Ni,VI]
theorem V4:(ÇT).length<1000:=by show 6<1000;decide
universe E
structure WK (C:aa) (H:Hp) (e:Zz):Prop where
 at':Vh C H e.p e.k e.f Ö e.g
 le:e.g<=Ŝ
 len:Ŝ<=200
 srt:Ĝ Ö=true
 str:∀s∈Ö,ĝ<=1000/\AZ s
structure ZO (cR cM:aa) (H:Hp) (m rd sd:aa) (L:ó) (s:StL) (nb li lo:Int) (aG:V):Prop where
 ob:∃dx,H m=U (.ins cM dx ÇT)
 ů:H rd=U ÅU
 stays:H sd=U (.dT (kvS s))
 ats:AtS H s
 each:∀e∈L,WK cR H e
 up:Yj Ű
 pd:#[yq].Nodup
 few:Àg<=60
 sfew:ĝ<=200
def Fp(m rd sd:aa)(L:ó)(b:aa):Prop:=b=m\/b=rd\/b=sd\/∃e∈L,b=e.p\/b=e.k\/b=e.f
theorem WK.keep{C:aa}{H H':Hp}{e:Zz}(h:WK C H e)(hp:H' e.p=H e.p)(hk:H' e.k=H e.k)(a:H' e.f=H e.f):WK C H' e :=
 ((by rw[hp];exact h.at'.ob,by rw[hk];exact h.at'.ks,by rw[a];exact h.at'.fs),h.le,ÀC,h.srt,h.str)
section
variable {cR cM:aa} {H H':Hp} {m rd sd:aa} {L:À Zz} {s:StL} {nb li lo:Int} {aG:V}
theorem ZO.nd(h:ÄL):(Ű).Nodup:=RQ ÀD
theorem ZO.keep(h:ÄL)(k:∀b o,H b=U o->Fp m rd sd L b\/ÒW->H' b=U o):ZO cR cM H' m rd sd L s nb li lo aG:=by
 refine(?_,k _ _ ÇU (.inl ÅE),k _ _ ÇV (.inl (.inr ÅE)),λe a t d=>k _ _ (h.ats e a t d) (.inr ü),λe a=>?_,ÀD,h.pd,ÁJ,h.sfew)
 ·rw[sY,c];exact(c,k _ _ hd (.inl Ď))
 ·rw[yY,a,c,hd];exact(((c,k _ _ hd (.inl (.inr (.inr (.inr (e,a,.inl rfl)))))),k _ _ ÍW (.inl (.inr (.inr (.inr (e,a,.inr Ď))))),k _ _ ÍX (.inl (.inr (.inr (.inr (e,a,.inr ÂA)))))),r.le,r.len,r.srt,r.str)
theorem ZO.same(h:ÄL)(k:Àa):ZO cR cM H' m rd sd L s nb li lo aG:=h.keep λb o hb _=>k b o hb
theorem ZO.ne_p(h:ÄL){e:Zz}(he:e∈L):m≠e.p/\m≠e.k/\m≠e.f:=by
 rw[sY,dx];rw[yY,he,dy,b];refine ÙC
 ·rw[z,b]at hd;injection hd with hd;injection hd with _ _ hd;have a:=Vi e.k e.f (e.g:Int);rw[hd,XF _ _ _ _ _ _ ö ö ö ö ö ö]at a;cases a
 ·rw[sq,ÍW,hd]
 ·rw[sq,ÍX,hd]
theorem ZO.ne_m(h:ÄL):m≠rd/\m≠sd/\rd≠sd:=by
 rw[sY,dx];refine ÙC
 ·rw[sq,ÇU,hd]
 ·rw[sq,ÇV,hd]
 ·have:=ÇU;rw[gP,ÇV]
theorem ZO.ne_sd(h:ÄL){e:Zz}(he:e∈L):sd≠e.p/\sd≠e.k/\sd≠e.f/\rd≠e.p/\rd≠e.k/\rd≠e.f:=by
 rw[yY,he,dy,c];have a:=ÇV;have b:=ÇU;refine(λz=>?_,λz=>?_,λz=>?_,λz=>?_,λz=>?_,λz=>?_)
 ·rw[sq,c,a]
 ·rw[sq,ÍW,a]
 ·rw[sq,ÍX,a]
 ·rw[sq,c,b]
 ·rw[sq,ÍW,b]
 ·rw[sq,ÍX,b]
theorem ZO.obj(h:ÄL){nb' li' lo':Int}{ÅV:V}{dx:aa}:ZO cR cM (upd H m (.ins cM dx (mgF rd nb' li' lo' sd ÅV))) m rd sd L s nb' li' lo' ÅV:=by
 rw[g6,f,g,n3,h.ne_m];rw[sY,dy];refine((dx,Zb),by rw[Zf f.symm];exact ÇU,by rw[Zf g.symm];exact ÇV,λe d t i=>?_,λe d=>?_,ÀD,h.pd,ÁJ,h.sfew)
 ·have:=h.ats e d t i;rw[eY,hd]
 ·rw[sA,a,b,c,h.ne_p,d];rw[f8,h.each,d]
theorem ZO.put(h:ÄL){k:Ŗ}{v:Ãv}(i:ÙB)(hs:(ÊF).length<=200):ZO cR cM ÙD m rd sd L ÊF nb li lo aG:=by
 rw[g6,n1,j,l,h.ne_m];rw[sY,n];have tup:∀a d,H a=U (.tup d)->ÙD a=U (.tup d):=λa d f=>by rw[Zf (λz=>by rw[z,ÇV]at f;cases f)];exact f
 refine((n,by rw[Zf j];exact hd),by rw[Zf l];exact ÇU,Zb,(h.ats.put i).mono tup,λe g=>?_,ÀD,h.pd,ÁJ,hs);obtain a|b|c|_:=h.ne_sd g;rw[f8,h.each,g]
universe E
def Nf(f g:aa):Sp:=λvs H Q _=>X14 λ(m rd sd:aa) (L:À Zz) (s:StL) (nb li lo:Int) (h:V) (a b:Zz) (x y:ah) (c:Nat)=>C8 (vs=[.ref m,.int a.n,.int b.n,.int (c:Int)]) #[eI,f,g,h] (a∈L) (b∈L) (a.ss[a.g]? = U x) (b.ss[b.g]? = U y) (c<=lcp þ Ė) (∀ (t:aa) (d e:Int) (H':Hp),(Btr þ a.n Ė b.n/\d=a.n/\e=b.n\/¬ Btr þ a.n Ė b.n/\d=b.n/\e=a.n)->H t=af->H' t=U (.tup [.int d,.int e,.int (ÀB:Int)]) ->
  ZO f g H' m rd sd L s nb (li+1) (lo+(ÀB-(c:Int)+1)) h->#[eN,o,m,H']->Q Ág H')
theorem Ti{ss:Ê}{g:Nat}{x:ah}(h:ss[g]? = U x):WL ss g=.str x:=by unfold WL;rw[h]
theorem Vc(k f:aa)(g:Int):(ÍN).lookup ("head" : ah)=af:=ÍY
theorem ZsL(T:Õ)(aW:ÇW)(gq:ÙE):Mf P w K mg Â 3 ak "meet" Íq (Nf au ak):=by
 rw[d2,T.t_Merge_meet.mf,Sc,vs,D];obtain m|j|C|L|s|l|p|lo|r|a|b|x|y|u|rfl|M|ha|B|hx|hy|hf|q:=h;refine(_,#[Zc,#[YD,#[Zy,gq,D,#[Zd,#[Ym,aW,Ŏ,D,#[ih,D,1]],#[Ym,aW,Ŏ,D,#[ih,D,2]],‹3›],Í],#[d5,4,Sc.nd,5,6]],#[Zc,ÒX,#[Zc,#[Vz,‹0›,‹6›,Ub],#[Zc,#[ZK,(@œ _ _ _ #[WI,#[ec,Xl,4,Ü],#[WJ,(@œ _ _ _ #[Yb,#[ec,YI,4,Ü],#[XS,#[Zk,Xl,‹1›,‹2›,ú]]])]]),#[Zg,#[Zl,#[Yq,#[fa,1,2,5]]]],ë],#[Zg,#[Zl,#[Yq,#[fa,2,1,5]]]]]]]],?_);rw[gJ,dx,N];have O:=ÀW a ha;have R:=ÀW b B;rw[el,da,S,O.at'.ob];rw[el,db,V,ÊJ];have lx:=(O.str x (Qp hx)).1;have ly:=(R.str y (Qp hy)).1;refine(_,rfl,m,ak,dx,_,_,rfl,N,ã,ũ,Z8 ..,_,rfl,j,_,rfl,ŉ (k:=.inl a.n) ŏ (Wj ű ha),a.p,da,_,rfl,S,Vc ..,a.p,a.k,a.f,a.ss,a.g,rfl,O.at',_,rfl,m,ak,dx,_,_,rfl,N,ã,ũ,Z8 ..,_,rfl,j,_,rfl,ŉ (k:=.inl b.n) ŏ (Wj ű B),b.p,db,_,rfl,V,Vc ..,b.p,b.k,b.f,b.ss,b.g,rfl,R.at',?_);rw[Ti hx,Ti hy];refine(_,rfl,x,y,u,rfl,lx,ly,hf,λt ht=>?_);have I:=Zi ht ÙF;rw[eS,mX,H,t,ÙF];generalize upd H t (.tup [.int (ZS (cds x) (cds y)),.int (lcp (cds x) (cds y):Nat),.int ((lcp (cds x) (cds y):Nat)-(u:Int)+1)])=W at I mX ⊢;have M1:=Ãw I;rw[er,t,mX];have fm:=I _ _ N;rw[gg,fm,ÍZ,Ng,Jj];have M2:=M1.obj (nb':=l) (li':=p+1) (lo':=lo) (ÅV:=r) (dx:=dx);have k2:#[ro,H,m,W,ÙG]:=λb o B n=>by rw[Zf n];exact I b o B
 rw[rl,X,W,m,ÙG];generalize upd W m (.ins ak dx (mgF j l (p+1) lo C r))=H2 at M2 k2 X ⊢;refine(_,rfl,m,ak,dx,_,_,rfl,X,ã,ÒY,Jk ..,_,rfl,_,_,rfl,rfl,dx,_,X,V4 ..,?_);rw[Zii];have Y:=M2.obj (nb':=l) (li':=p+1) (lo':=lo+(ÀB-(u:Int)+1)) (ÅV:=r) (dx:=dx);have Z:∀b o,H b=U o->b≠m->(upd H2 m (.ins ak dx (mgF j l (p+1) (lo+(ÀB-(u:Int)+1)) C r))) b=U o:=λb o B n=>by rw[Zf n];exact k2 b o B n
 generalize upd H2 m (.ins ak dx (mgF j l (p+1) (lo+((lcp (cds x) (cds y):Nat)-(u:Int)+1)) C r))=H3 at Y Z ⊢;have v:∀F G:Int,(Btr þ a.n Ė b.n/\F=a.n/\G=b.n\/¬ Btr þ a.n Ė b.n/\F=b.n/\G=a.n)->∀c,H3 c=af->Q ÅB (upd H3 c (.tup [.int F,.int G,.int (ÀB:Int)])):=λF G hw c i=>by
  have gg:H c=af:=by
   cases e:H c with
   | none=>rfl
   | some o =>
    by_cases z:c=m
    ·rw[el,dz,hz,Y.ob];rw[sq,hz,i]
    ·rw[Z c o e z]at i;cases i
  exact q c F G _ hw gg Zb (Y.same (Zi i _)) (λb o B n=>Zi i _ _ _ (Z b o B n))
 have J:3<=aq:=by decide
 refine(_,rfl,_,_,rfl,rfl,_,rfl,Y1 ź ź)
 ·have d':ZS þ Ė<0:=Ãu;exact YH (_,rfl,_,rfl,_,rfl,J,λc i=>v _ _ (.inl (.inl d',rfl,rfl)) c i)
 have d1:¬ ZS þ Ė<0:=ÍM;refine(_,rfl,rfl,_,rfl,Y1 (λe=>?_) (λe=>?_))
 ·have e':ZS þ Ė=0:=by have:=Ī e;rw[xL]
  refine(_,rfl,_,rfl,_,_,rfl,rfl,_,rfl,Y1 (λg=>?_) (λg=>?_))
  ·have g':a.n<b.n:=Ī g;exact(_,rfl,_,rfl,_,rfl,J,λc i=>v _ _ (.inl (.inr (e',g'),rfl,rfl)) c i)
  ·have g':¬ a.n<b.n:=λz=>g ÅS;exact(_,rfl,_,rfl,_,rfl,J,λc i=>v _ _ (.inr (λz=>by rcases z with z|z;exact d1 z;exact g' z.2,rfl,rfl)) c i)
 ·have e':ZS þ Ė≠0:=λz=>e (đ (by rw[(z)]));exact Y9 (_,rfl,_,rfl,_,rfl,J,λc i=>v _ _ (.inr (λz=>by rcases z with z|z;exact d1 z;exact e' z.1,rfl,rfl)) c i)
theorem ZO.cast{a b:aa}{H:Hp}{m rd sd:aa}{L:ó}{s:StL}{nb li lo li' lo':Int}{c:V}(h:#[fq,a,b,c])(d:li=li')(e:lo=lo'):ZO a b H m rd sd L s nb li' lo' c:=by subst d;subst e;exact h
theorem Ji{N:Ô}(h:N≠[]):atI ÊK (-1)=U (.int (ÇR 0)):=by
 have e:N=N.dropLast++[N.getLast h]:=(List.dropLast_concat_getLast h).symm;have:=Zqy (N.dropLast.map í) (í (N.getLast h));rw[Qaz,Qa7 h]
 conv=>lhs;rw[e,Qf]
 exact this
theorem Jh{N:Ô}(h:N≠[]):atI ÊK 0=U (.int (ÇQ 0)):=by
 cases N with
 | nil=>exact #[y5,h]
 | Ë a r=>exact Ye (j:=0) rfl
theorem Nd(rd:aa)(nb li lo:Int)(sd:aa)(a:V):#[11].lookup ("play" : ah)=af:=Àm
theorem Jg(rd:aa)(nb li lo:Int)(sd:aa)(a:V):#[11].lookup ("meet" : ah)=af:=Àm
def Jf(K:Å)(a c:aa)(n:Nat):Sp:=λvs H Q _=>X11 λ(m rd sd:aa) (L:À Zz) (s:StL) (nb li lo:Int) (d:V) (l:aa) (N:À Int)=>C12 #[gr,m,l] #[eI,a,c,d] (H l=U (.lst ÊK)) (1<=ģ) (ģ<=60) (0<n) (ģ<=2 ^ (n-1)) ((∀x∈N,x∈ZC L)) (Yj N) ((∀k,W5 n N k->Z3 s k=af)) (ĝ+ģ<=200) (∀ (w:Ã Int) (s':StL) (k q:Int) (H':Hp),Win Ğ N w->XN Ğ s' n N->YF Ğ n N k q->(∀j,¬ W5 n N j->Z3 s' j=Z3 s j)->s'.length+1<=ĝ+ģ->ZO a c H' m rd sd L s' nb (li+k) (lo+q) d->#[e0,H,sd,H']->Q (Yx w) H')
theorem Je(T:Õ)(aW:ÇW)(eW:ÒZ)(cr:ÙH) :
  ∀n:Nat,Mf P w K mg Â (n+4) ak "play" Ín (Jf K au ak n)
 | 0=>by
  rw[s9]
  ·rw[oR];rfl
  obtain m|rd|sd|L|s|nb|li|lo|S|l|N|rfl|_|_|_|_|z|_:=h;exact Ç z Á
 | n+1=>by
  have cT:=Je T aW eW cr n;rw[s9]
  ·rw[oR];rfl
  obtain m|rd|sd|L|s|nb|li|lo'|S|l|N|rfl|M|B|h1|qr|_|ju|l7|C|gg|hsz|q:=h;rw[QaL]at ju;refine(_,#[Zc,#[ZK,#[rp,YI,Ês],#[Zg,#[Zl,#[ZY,#[Zk,Xc,#[Ym,aW,Ŏ,hr,#[ZF,(ixG hr),Ĥ,ÅW]],ţ,ú],ţ,ÅW]]],ë],#[Zc,#[YD,#[se,eW,hr],#[hW,V6.nd]],#[Zc,#[Zu,4,V6.nd,â,#[sk,cT,hr,Ãx]],#[Zc,#[Zu,5,V6.nd,â,#[sk,cT,hr,ÇX]],#[Zc,#[ZK,#[g0,4],#[fg,5],ë],#[Zc,#[ZK,#[g0,5],#[fg,4],ë],#[Zc,#[YD,#[Xu,cr,ã,hr,‹0›,#[rU,4,5]],#[d5,6,V6.nd,7,8]],#[Zc,#[YD,#[Yq,#[ex,7,8]],#[Xd,Ĥ,#[Yq,#[Zd,ÅW,#[gh,ixL,K,1,ÊA]]],(Wp hr)]],#[fg,6]]]]]]]]],?_);rw[uw];have hN:N≠[]:=Xh h1;have FD:l≠m:=λz=>by rw[z,hm]at B;cases B
  have nsl:l≠sd:=λz=>by rw[z,ÇY]at B;cases B
  have vX:#[hc,N.map,í]=(ģ:Int):=by rw[Qa]
  refine(_,rfl,l,_,rfl,.inl (É B),rfl,_,rfl,Y1 ź ź)
  ·have FE:ģ=1:=by have:=Ãu;injection this with this;rw[vX]at this;lia
   obtain⟨n0,rfl⟩:∃n0,N=[n0]:=QaM.mp FE;obtain e|he|rfl:=Tn (l7 n0 Ó);rw[sz,R,he,dp,hp,ÊJ];have cW:atI (([e.n]:À Int).map í) 0=U (.int e.n):=Ye (j:=0) rfl;refine(_,rfl,m,ak,dx,_,_,rfl,hm,ã,ũ,Z8 ..,_,rfl,l,_,_,_,rfl,rfl,É B,cW,rd,_,rfl,ŉ (k:=ÅX) ŏ (Wj ű he),e.p,dp,_,rfl,hp,Vc ..,e.p,e.k,e.f,Ö,e.g,rfl,R.at',rfl,_,rfl,?_);have bK:XN Ğ s (n+1) [e.n]:=λh2=>by simp at h2
   have cI:YF Ğ (n+1) [e.n] 0 0:=.few (by show 1<2;decide);have W:=ÍQ (hd:=hdM L) (n:=e.n);have hd:=Vd ű he;have M':=M.cast (li':=li+0) (lo':=lo'+0) Á Á;cases g:Ö[e.g]? with
   | none=>rw[show WL Ö e.g=.non by unfold WL;rw[g]];rw[hd,g]at W;exact YZ rfl (q af s 0 0 H W bK cI ÄM î M' Ò0)
   | some x=>rw[Ti g];rw[hd,g]at W;exact YC τ (_,rfl,l,_,_,_,rfl,rfl,É B,cW,q (U e.n) s 0 0 H W bK cI ÄM î M' Ò0)
  have c:ÅT:=by have:¬ ((ģ:Int)=1):=λz=>d (đ (by rw[vX,z]));lia
  have iw:1<=n:=by
   cases n with
   | zero=>simp at ju;lia
   | succ m=>lia
  have hpow:2 ^ n=2*2 ^ (n-1):=by obtain⟨m,rfl⟩:∃m,n=m+1:=(n-1,by lia);rw[Qbk,QaL];lia
  have pY:(lo N).length<=2 ^ (n-1)/\(lo N).length<=60:=by unfold lo mid;rw[QA];lia
  have AG:(up N).length<=2 ^ (n-1)/\(up N).length<=60:=by unfold up mid;rw[Q4];lia
  have iP:(lo N).length+(up N).length=ģ:=by rw[<- Qd,Xi]
  have AH:∀x∈lo N,x∈ZC L:=λx g=>l7 x (QaC g);have AI:∀x∈up N,x∈ZC L:=λx g=>l7 x (QaD g);refine(_,rfl,l,N,rfl,É B,by lia,λt f r H2 ht hf FG Cn cL FH fc s2 ntf ntr=>?_);rw[È rfl]at cL;rw[ZtQ]at FH;rw[ZuB]at fc;rw[e3,t,cL];have M2:=Ãw s2;have dU:=s2 _ _ hm;have Co:r≠m:=(Ze hm FG).symm;have nfs:r≠sd:=(Ze ÇY FG).symm;refine(_,rfl,m,dx,_,rfl,dU,Nd ..,_,rfl,m,rd,sd,L,s,nb,li,lo',S,f,lo N,rfl,M2,FH,(VJ c).2,pY.2,iw,pY.1,AH,RS C,λk u=>gg k (c,.inl u),by lia,λw1 s1 k1 q1 H3 i S1 P1 o1 l1 M3 b3=>?_);have gp:=b3 _ _ fc Co nfs;rw[el,dx3,hm3,M3.ob];refine(_,rfl,m,dx3,_,rfl,hm3,Nd ..,_,rfl,m,rd,sd,L,s1,nb,_,_,S,r,up N,rfl,M3,gp,(Ve c).2,AG.2,iw,AG.1,AI,RR C,λk u=>?_,by lia,λw2 G k2 q2 H4 p S2 P2 o2 l2 M4 b4=>?_)
  ·rw[o1 k ((NF C c u).2 n)];exact gg k (c,.inr (.inl u))
  have vY:¬ W5 n (lo N) (ZX N)/\¬ W5 n (up N) (ZX N):=(λz=>(NG C c z).1 rfl,λz=>(NF C c z).1 rfl);have FI:XN Ğ G n (lo N):=S1.congr n _ ÄM (λk u=>o2 k ((NG C c u).2 n));have l6:Z3 G (ZX N)=af:=by rw[o2 _ vY.2,o1 _ vY.1];exact gg _ (c,.inr ÂA)
  have Z:∀j,¬ W5 (n+1) N j->Z3 G j=Z3 s j:=λj hj=>by rw[o2 j (λz=>hj (c,.inr (.inl z))),o1 j (λz=>hj (c,.inl z))]
  have Cp:#[ss,m,sd,H4]:=λb o hb n1 n2=>b4 b o (b3 b o (s2 b o hb) n1 n2) n1 n2;have vZ:∀wn,Win Ğ N wn->(Win Ğ (lo N) af\/Win Ğ (up N) af)->Q (Yx wn) H4:=λwn hw iG=>by
   refine q wn G (k1+k2) (q1+q2) H4 hw (λ_=>(FI,S2,λa b x y wa wb _ _=>?_,λ_=>.inl l6)) (.none c P1 P2 iG) Z Á (M4.cast Á Á) Cp;rcases iG with z|z
   ·rw[ia,wa]
   ·rw[ia,wb]
  cases w1 with
  | none=>exact(_,rfl,rfl,_,rfl,YZ rfl (_,rfl,vZ w2 (by have:=ÍS i p;rwa [Xi]at this) (.inl i)))
  | some a =>
  rw[a9];cases w2 with
  | none=>exact(_,rfl,rfl,_,rfl,YZ rfl (_,rfl,vZ (U a) (by have:=ÍR i p;rwa [Xi]at this) (.inr p)))
  | some b =>
  rw[a9];obtain I|yO|Bl:=Tn (AH a i.1);obtain J|yP|eb':=Tn (AI b p.1);subst Bl;subst eb';have X:=Vd ű yO;have Y:=Vd ű yP;cases g:I.ss[I.g]? with
  | none=>obtain _|z|hz|_:=i;rw[eM,X,g,hz]
  | some x =>
  cases hy:J.ss[J.g]? with
  | none=>obtain _|z|hz|_:=p;rw[eM,Y,hy,hz]
  | some y =>
  rw[g]at X;rw[hy]at Y;rw[el,Cq,wc,M4.ob];refine(_,rfl,m,Cq,_,rfl,wc,Jg ..,_,rfl,_,rfl,m,rd,sd,L,G,nb,_,_,S,I,J,x,y,0,rfl,M4,yO,yP,g,hy,Qt _,λt5 wi D H5 hw Cr we M5 b5=>?_);rw[er,t5,we];have wf:2<=aq:=by decide
  refine(_,rfl,_,rfl,wf,λF tZ=>?_);have s6:=Zi tZ ÙI;rw[rl,qu,H5,F,ÙI];have M6:=M5.same s6;generalize upd H5 F (.tup [.int D,.int ((lcp (cds x) (cds y):Nat):Int)])=H6 at s6 qu M6 ⊢;rw[el,Cs,Ct,M6.ob];have qv:H6 l=U (.lst ÊK):=s6 _ _ (b5 _ _ (Cp _ _ B FD nsl) FD);refine(_,rfl,m,ak,Cs,_,_,rfl,Ct,ã,ÅY,Tl ..,_,rfl,l,_,_,_,rfl,rfl,É qv,Jh hN,_,rfl,_,rfl,l,_,_,_,rfl,rfl,É qv,Ji hN,wf,λt7 ua=>?_);have s7:=Zi ua ÙJ;have AJ:(upd H6 t7 ÙJ) t7=U (.tup ((Û6).map kV)):=Zb;have M7:=M6.same s7;generalize upd H6 t7 (.tup [.int (ÇQ 0),.int (ÇR 0)])=H7 at s7 AJ M7 ⊢;have fo:#[sO,kvS,G]:=by unfold kvS;rw[kZ]
  refine(sd,_,rfl,Xv.t (k:=Û6) M7.stays AJ fo,?_);rw[show õ F=stV (U Í0) from rfl,RT];have cI:=ZqU G (ZX N) (U Í0);have l1':=(VJ c).2;have M8:=M7.put (k:=ZX N) (v:=U Í0) (λt ht=>by injection ht with ht;rw[<- ht];exact s7 _ _ qu) Á;have cA:I.n≠J.n:=λz=>by have:=ZP C i.1 p.1;lia
  have b08:∀b o,H b=U o->b≠m->b≠sd->(upd H7 sd (.dT (kvS (Ya G (ZX N) (U Í0))))) b=U o:=λb o hb n1 n2=>by rw[Zf n2];exact s7 _ _ (s6 _ _ (b5 _ _ (Cp _ _ hb n1 n2) n1))
  have W:Win Ğ N (U wi):=by
   rcases hw with⟨O,rfl,_⟩|⟨O,rfl,_⟩
   ·have:=ÇP i p X Y O;rwa [Xi]at this
   ·have:=ÊC i p X Y ((ÇO cA).resolve_left O);rwa [Xi]at this
  have hlz:D=if ZS þ Ė<0\/Ò1 then J.n else I.n:=by
   rcases hw with⟨O,_,rfl⟩|⟨O,_,rfl⟩
   ·exact(È (show ZS þ Ė<0\/Ò1 from O)).symm
   ·exact(Æ (show ¬ (ZS þ Ė<0\/Ò1) from O)).symm
  refine(_,rfl,q (U wi) _ (k1+k2+1) (q1+q2+ÀB+1) _ W (λ_=>(?_,?_,?_,λiG=>?_)) (.both c P1 P2 i p X Y) (λj hj=>?_) Á (M8.cast Á Á) b08)
  ·exact FI.congr n _ ÄM (λk u=>by rw[Wl,Æ (NG C c u).1])
  ·exact S2.congr n _ ÄM (λk u=>by rw[Wl,Æ (NF C c u).1])
  ·intro a' b' x' y' wa wb rP rQ;have e1:=Qu (wa.one i);have e2:=Qu (wb.one p);subst e1;subst e2;have e3:=Qu (rP.symm.trans X);have e4:=Qu (rQ.symm.trans Y);subst e3;subst e4;exact(F,by rw[Wl,È rfl,hlz])
  ·rcases iG with z|z
   ·rw[ia,i]
   ·rw[ia,p]
  ·rw[Wl,Æ (λz=>hj (c,.inr (.inr z)))];exact Z j hj
theorem WK.mono{C:aa}{H H':Hp}{e:Zz}(h:WK C H e)(k:∀b o,H b=U o->b=e.p\/b=e.k\/b=e.f->H' b=U o):WK C H' e:=by obtain a|hd:=h.at'.ob;exact(((a,k _ _ hd Ď),k _ _ h.at'.ks ÅE,k _ _ h.at'.fs (.inr ÂA)),h.le,ÀC,h.srt,h.str)
theorem Jd(L:ó):(kvM L).map (λa=>kV a.1)=(Ű).map í:=by unfold kvM ZC;rw[Qo,Qo];rfl
theorem Zpk{n:Nat}{N:Ô}{k:Ŗ}(_:W5 n N k):Z3 [] k=af:=rfl
def Th(a c:aa):Sp:=λvs H Q _=>X9 λ(m rd sd:aa) (L:À Zz) (s:StL) (nb li lo:Int) (e:V)=>C3 #[ff,m] #[eI,a,c,e] (∀ (d:aa) (s':StL) (w:Ã Int) (k q:Int) (H':Hp),H d=af->Win Ğ Ű w->XN Ğ s' 8 Ű->YF Ğ 8 Ű k q->ZO a c H' m rd d L s' nb (li+k) (lo+q) (Yx w)->#[eN,o,m,H']->Q .non H')
theorem Zlx(T:Õ)(cT:Mf P w K mg Â 12 ak "play" Ín (Jf K au ak 8)):Mf P w K mg Â 13 ak "play_all" ð (Th au ak):=by
 rw[iN,T.t_Merge_play_all.mf,Zf5];obtain m|j|sd|L|s|p|t|i|u|rfl|M|q:=h;refine(_,#[Zc,#[sa,K0],#[Zg,#[XQ,‹0›,#[ZY,#[rp,Wt,Ò2],#[Xu,cT,ã,hr,‹0›,#[Zd,ÙK]],ţ]]]],?_);refine λg v=>?_;rw[gJ,z,N];have B:=Zi v (.dT []);have O:(upd H g (.dT [])) g=U (.dT (kvS [])):=Zb;have M1:=Ãw B;have R:=B _ _ N;have uc:m≠g:=Ze N v;have FJ:j≠g:=Ze ŏ v;generalize upd H g (.dT [])=G at B O M1 R ⊢;refine(_,rfl,m,ak,z,_,rfl,R,ã,ÅY,V4 ..,?_);rw[ZiG];rw[g6,n1,n2,n3,M.ne_m];have M2:ZO au ak ÙL m j g L [] p t i u:=by refine((z,Zb),by rw[Zf n1.symm];exact ÊL,by rw[Zf Í1];exact O,#[es,e,C],λe C=>?_,M.up,M.pd,Âg,by decide);rw[sA,a,b,c,M1.ne_p,C];rw[f8,Í2,C]
 have I:∀b o,H b=U o->b≠m->ÙL b=U o:=λb o y n=>by rw[Zf n];exact B b o y
 generalize upd G m (.ins ak z (mgF j p t i g u))=X at M2 I ⊢;rw[el,D,F,M2.ob];have aY:Ò3:=by unfold kvM;rw[Qa]
 have rR:(Ű).length=Àg:=by unfold ZC;rw[Qa]
 have hU:=Âg;refine(_,rfl,m,ak,D,_,_,rfl,F,ã,ũ,Z8 ..,j,_,rfl,M2.rows,_,_,rfl,rfl,_,rfl,Y1 ź ź)
 ·have iO:0<Àg:=by have:(0:Int)<ÊM:=Ãu;lia
  refine(_,rfl,m,D,_,rfl,F,Nd ..,_,rfl,m,ak,D,_,_,rfl,F,ã,ũ,Z8 ..,j,_,rfl,M2.rows,λl hl=>?_);rw[Jd];have J:=Zi hl ÊN;rw[eS,Y,X,l,ÊN];have Z:=M2.same J;generalize upd X l (.lst ((ZC L).map í))=H3 at J Y Z ⊢;refine(m,j,g,L,[],p,t,i,u,l,ZC L,rfl,Z,Y,by lia,by lia,by decide,Qk (by lia:(Ű).length<=60) Ì,λx hx=>hx,M.up,λk hk=>Zpk hk,by show 0+_<=_;lia,λw1 s' k q' H4 W S Pl _ _ M4 b4=>?_);rw[el,Cq,wc,M4.ob];rw[fT,Cq,wc];exact q g s' w1 k q' _ v W S Pl M4.obj (λb o y n=>by rw[Zf n];exact b4 b o (J b o (I b o y n)) n (Ze y v))
 ·have FK:L=[]:=by
   cases L with
   | nil=>rfl
   | Ë e r=>exact Ç (đ (show (0:Int)<(((kvM (e::r)).length:Nat):Int) by rw[aY];simp only[Èw];lia)) d
  subst FK;rw[fT,D,F];exact q g [] af 0 0 _ v (Win.nil _) (λh2=>Ç h2 Ì) (.few Ì) (M2.obj.cast Á Á) (λb o y n=>by rw[Zf n];exact I b o y n)
def Jc(L:ó)(a:À (aa×À ah)):Prop:=ZC L=V8 0 ĳ/\ĥ (λe=>(Ö,e.g,))=ļ λx=>(x.2,0,)
def Jb(d c:aa):Sp:=λvs H Q _=>X4 λ(m dx r:aa) (a:À (aa×À ah))=>C5 #[gr,m,r] (H m=U (.ins c dx [])) (Zvf H r a) ((∀x∈a,Ĝ x.2=true)) (∀ (rd sd:aa) (L:À Zz) (s:StL) (w:Ã Int) (k q:Int) (H':Hp),ZO d c H' m rd sd L s Á5 k q (Yx w)->Jc L a->Win Ğ Ű w->XN Ğ s 8 Ű->YF Ğ 8 Ű k q->(∀b,Fp m rd sd L b->b=m\/H b=af)->#[eN,o,m,H']->Q .non H')
theorem RO(rd:aa)(nb li lo:Int)(sd:aa)(a:V):#[11].lookup ("play_all" : ah)=af:=Àm
theorem RN{ss:Ê}(h:#[sQ,ss]):WM ss .non:=by refine .inl (rfl,λi x y a b=>?_);have:=Jt h i y x b a;have:=VM Ė þ;lia
theorem Ziw(T:Õ)(bE:Í3)(eo:ÙM)(aV:Í4):Cf P w K mg Â 14 ak "Merge" Íl (Jb au ak):=by
 rw[iN,T.t_Merge_init.cf,N6];obtain m|g|r|l|rfl|hm|X|jx|q:=h;refine(_,#[Zc,#[sa,PN],#[Zc,#[XR,Γ,#[s1,Àl],#[hW,N6.nd],#[Zc,#[ZL,#[eH,bE,hr,2,3]],#[Zg,#[YD,#[T3,eo,hr,ÇX],#[iO,2,hr]]]]],#[Zc,#[XQ,‹0›,Ês],#[Zc,ÒN,#[Zc,ÒN,#[Zc,#[sa,K0],#[Zc,#[XQ,‹0›,ţ],#[Zg,#[hG,aV,hr]]]]]]]]],?_);refine λc oY=>?_;have Cu:m≠c:=Ze hm oY;have s1:=Zi oY Äs;have iF:(upd H c Äs) c=U (.dK (kvM [])):=Zb;have fm:=s1 _ _ hm;generalize upd H c (.dK [])=H1 at s1 iF fm ⊢;refine(_,rfl,m,ak,g,_,rfl,fm,ã,ũ,#[h8,0],?_);have wg:r≠m:=λz=>by have:=X.at';rw[gP,hm]
 have k2:#[ro,H,m,H1,Í5]:=λb o d n=>by rw[Zf n];exact s1 b o d
 rw[rl,dU,H1,m,Í5];have fc:(upd H1 m Í5) c=U (.dK (kvM [])):=by rw[Zf Cu.symm];exact iF
 generalize upd H1 m (.ins ak g (Zw "rows" (.ref c) []))=H2 at k2 dU fc ⊢;have hU:=X.few;have lkr:(Í7).lookup ("rows" : ah)=U (õ c):=by rw[Zr,È rfl]
 refine(_,rfl,r,_,rfl,É (k2 _ _ X.at' wg),?_);refine SM (K:=K) (a:=r) (xs:=ÂN λx=>õ x.1) (λi σ t=>X3 λ(L:À Zz) (v2 v3:Ã V)=>σ=[U ÅZ,U ÀU,v2,v3]/\t m=U Í5/\t c=U ÅU/\(∀e∈L,WK au t e)/\Jc L (l.take i)/\#[yq].Nodup/\(∀e∈L,H e.p=af/\H e.k=af/\H e.f=af)/\#[eN,o,m,t]) ([],_,_,rfl,dU,fc,#[es,e,h],ć,List.nodup_nil,#[es,e,h],k2) (λi σ t hq=>by obtain _|_|_|_|_|_|_|_|_|_|I:=hq;exact É (I _ _ X.at' wg)) ?_ ?_
 ·rintro i y σ t p hy ⟨L,v2,v3,rfl,J,F,C,⟨n1,n2⟩,pd,eV,I⟩ hp;rw[Qr]at hy;cases hz:l[i]? with
  | none=>rw[hz]at hy;cases hy
  | some x =>
  rw[eh,hz,hy,bM,Ů];have Cv:=Qp hz;obtain lx|qw|rS:=X.lst x Cv;have nxm:x.1≠m:=λz=>by rw[z,hm]at lx;cases lx
  have hLl:Àg=i:=by have:=#[eX,n1];unfold ZC at this;rw[Qa,KZ,QA]at this;lia
  have bo:∀e∈L,e.n≠(i:Int):=λe he z=>by
   have h1:e.n∈V8 0 (l.take i).length:=by rw[<- n1];exact Qg (f:=λe:Zz=>e.n) he
   unfold V8 at h1;rw[sA,j,hj,ej,Ľ,h1];have:=Õ8 hj;rw[QA]at this;lia
  have sp:=Zi hp ÙN;rw[rl,FL,t,p,ÙN];generalize upd t p (.tup [.int (i:Int),.ref x.1])=H6 at sp FL ⊢;rw[e3,p,FL];have FM:H6 x.1=U #[ei,x.2.map]:=sp _ _ (I _ _ lx nxm);refine(_,rfl,_,rfl,(i:Int),x.1,x.2,rfl,É FM,by lia,λs hs=>(rS s hs).1,RN (jx x Cv),λH7 s7=>?_);have FN:=sp.trans s7;refine(_,rfl,λu G hu qx ndu=>?_);have Y:t u=af:=FN.free hu;have FO:Ò4 x.1=U #[ei,x.2.map]:=by have:=s7 _ _ FM;rw[i5]
  have s8:#[eC,o,t,Ò4]:=λb o d=>by have:=FN _ _ d;rw[i5]
  have wj:Ò4 u=U (.ins au G []):=Zb;generalize upd (upd H7 G (.own u)) u (.ins au G [])=Z at FO s8 wj ⊢;refine(u,G,x.1,x.2,rfl,wj,FO,qw,λs hs=>(rS s hs).1,λk f H9 hk D Ck R M=>(rfl,?_));have s9:#[eC,o,t,H9]:=λb o d=>M b o (s8 b o d) (Ze d Y);have jX:∀b,Z b=af->t b=af:=λb d=>by
   cases e:t b with
   | none=>rfl
   | some o=>rw[s8 b o e]at d;cases d
  have l8:∀b,b≠m->t b=af->H b=af:=λb nb d=>by
   cases e:H b with
   | none=>rfl
   | some o=>rw[I b o e nb]at d;cases d
  have num:u≠m:=λz=>by rw[z,J]at Y;cases Y
  have nkm:k≠m:=λz=>by have:=jX k hk;rw[gP,J]
  have Co:f≠m:=λz=>by have:=jX f D;rw[gP,J]
  have mY:c≠u/\c≠k/\c≠f:=(Ze F Y,Ze F (jX k hk),Ze F (jX f D));have hsz:#[sO,kvM,L]:=by unfold kvM;rw[kZ]
  have iw:Y3 (kvM L) (.inl (i:Int))=af:=by
   cases hv:Y3 (kvM L) (.inl (i:Int)) with
   | none=>rfl
   | some v=>obtain e|he|z:=Ľ (US hv);injection z with z _;exact Ç ÍU (bo e he)
  refine(_,rfl,m,ak,g,_,_,rfl,s9 _ _ J,ã,ũ,lkr,_,rfl,c,_,rfl,Xv.k (k:=.inl (i:Int)) (s9 _ _ F) hsz,?_);rw[UV _ iw,show kvM L++[((.inl (i:Int):Key),õ u,)]=kvM (L++[((i:Int),u,k,f,x.2,0)]) by unfold kvM;rw[Qf];rfl];refine(L++[((i:Int),u,k,f,x.2,0)],_,_,rfl,by rw[Zf Cu];exact s9 _ _ J,Zb,λe he=>?_,Ìh,?_,λe he=>?_,λb o d n=>?_)
  ·rcases ß he with he|he
   ·rw[uL];refine N.mono λb o d bP=>?_;have nb:b≠c:=λz=>by
     rw[z,F]at d;injection d with d;subst d;rcases bP with z2|z2|z2
     ·rw[<- z2,z,F]at gb;cases gb
     ·rw[eL,N.at'.ks,z2,F]
     ·rw[eL,N.at'.fs,z2,F]
    rw[Zf nb];exact s9 b o d
   ·rw[Ý he];refine WK.keep (H:=H9) (R,Qt _,qw,jx x Cv,rS) (Zf mY.1.symm) (Zf mY.2.1.symm) (Zf mY.2.2.symm)
  ·unfold ZC at n1 ⊢;rw[Qf,n1,QA,QA,Í6 Á,Í6 Á];unfold V8;rw[Ùp,Qf];simp
  ·rw[Qf,n2,QH,hz,Qf];rfl
  ·rw[eW,pd,ha,d,e,he];have:b=u:=by simpa using d
   rw[this];obtain de|gb:=(C e he).at'.ob;exact Ze gb Y
  ·rcases ß he with he|he
   ·exact eV e he
   ·rw[Ý he];exact(l8 u num Y,l8 k nkm (jX k hk),l8 f Co (jX f D))
  ·rw[Zf (Ze d oY)];exact s9 b o (I b o d n)
 ·rintro σ t ⟨L,v2,v3,rfl,J,F,C,oO,pd,eV,I⟩;rw[Qa,Qz î]at oO;have p1:=VL "rows" (õ c) [];have p2:=VL "next_number" (í Ò5) Í7;have p3:=VL "likened" (í 0) (Zw "next_number" #[hx,Ů] Í7);have p4:=VL "looked" (í 0) ÇZ;have p0:Ùw:=rfl;refine(_,rfl,r,_,rfl,.inl (É (I _ _ X.at' wg)),_,rfl,m,ak,g,_,rfl,J,ã,Í8,by lia,?_);rw[Qa];refine(_,rfl,m,ak,g,_,rfl,Zb,ã,ÍZ,by lia,_,rfl,m,ak,g,_,rfl,Zb,ã,ÒY,by lia,?_);have k8:∀b,b≠m->ÙO b=t b:=λb n=>by rw[Zf n,Zf n,Zf n]
  have Cw:ÙO m=U (.ins ak g ÙP):=Zb;generalize (upd (upd (upd t m (.ins ak g (Zw "next_number" (.int (Ů:Int)) (Zw "rows" (.ref c) [])))) m (.ins ak g (Zw "likened" (.int 0) (Zw "next_number" (.int (Ů:Int)) (Zw "rows" (.ref c) []))))) m (.ins ak g (Zw "looked" (.int 0) (Zw "likened" (.int 0) (Zw "next_number" (.int (Ů:Int)) (Zw "rows" (.ref c) []))))))=Z at k8 Cw ⊢;refine λB fB=>?_;have uc:m≠B:=Ze Cw fB;have p5:=VL "stays" (õ B) ÙP;refine(_,rfl,m,ak,g,_,rfl,by rw[Zf uc];exact Cw,ã,ÅY,by lia,_,rfl,m,ak,g,_,rfl,Zb,ã,ÂO,by lia,?_);have FP:t B=af:=by rw[<- k8 B Í1];exact fB
  have rT:Ò6 m=U (.ins ak g (mgF c Ò5 0 0 B .non)):=by rw[VH];exact Zb
  have FQ:Ò6 B=U (.dT (kvS [])):=by rw[Zf Í1,Zf Í1];exact Zb
  have M:#[eP,o,t,m,Ò6]:=λb o d n=>by rw[Zf n,Zf n,Zf (Ze d FP),k8 b n];exact d
  generalize (upd (upd (upd Z B (.dT [])) m (.ins ak g (Zw "stays" (.ref B) (Zw "looked" (.int 0) (Zw "likened" (.int 0) (Zw "next_number" (.int (Ů:Int)) (Zw "rows" (.ref c) []))))))) m (.ins ak g (Zw "best" .non (Zw "stays" (.ref B) (Zw "looked" (.int 0) (Zw "likened" (.int 0) (Zw "next_number" (.int (Ů:Int)) (Zw "rows" (.ref c) []))))))))=H9 at rT FQ M ⊢;have hLl:Àg=Ů:=by have:=#[eX,oO.1];unfold ZC at this;rw[ix,Qa,KZ]
  have M9:ZO au ak H9 m c B L [] Ò5 0 0 .non:=by
   refine((g,rT),M _ _ F Cu.symm,FQ,#[es,e,he],λe he=>?_,by rw[oO.1];exact Zqp _,pd,by lia,by decide);rw[uL];refine N.mono λb o d bP=>M b o d λz=>?_;have D:=eV e he;have O:=hm;rw[<- z]at O;rcases bP with z2|z2|z2
   ·rw[eM,z2,D.1,O]
   ·rw[eM,z2,D.2.1,O]
   ·rw[eM,z2,D.2.2,O]
  refine(_,rfl,m,g,_,rfl,rT,RO ..,m,c,B,L,[],_,0,0,.non,rfl,M9,λbz s' w1 k q' iV hV W S Pl qy b10=>?_);have l8:∀b,b≠m->H9 b=af->H b=af:=λb nb d=>by
   cases e:H b with
   | none=>rfl
   | some o=>rw[M b o (I b o e nb) nb]at d;cases d
  refine q c bz L s' w1 k q' iV (qy.cast Á Á) oO W S Pl (λb d=>?_) (λb o d n=>b10 b o (M b o (I b o d n) n) n);rcases d with rfl|rfl|rfl|⟨e,he,d⟩
  ·exact ÀM
  ·exact .inr oY
  ·exact .inr (l8 _ (λz=>by rw[z,rT]at hV;cases hV) hV)
  ·have D:=eV e he;rcases d with rfl|rfl|rfl
   ·exact .inr D.1
   ·exact .inr D.2.1
   ·exact .inr D.2.2
def Ja(a b:aa):Sp:=λvs H Q _=>X9 λ(m rd sd:aa) (L:À Zz) (s:StL) (nb li lo:Int) (c:V)=>C3 #[ff,m] ÊO (Q (.int li) H)
def I0(a b:aa):Sp:=λvs H Q _=>X9 λ(m rd sd:aa) (L:À Zz) (s:StL) (nb li lo:Int) (c:V)=>C3 #[ff,m] ÊO (Q (.int lo) H)
theorem Zj7(T:Õ):Mf P w K mg Â 1 ak "likenings" ð (Ja au ak):=by
 rw[d2,T.t_Merge_likenings.mf,Zfu,a,hr];rw[cX];exact#[zm,i,j,ÍZ,Ng,q]
theorem ZqI(T:Õ):Mf P w K mg Â 1 ak "looks" ð (I0 au ak):=by
 rw[d2,T.t_Merge_looks.mf,Zh6,a,hr];rw[cX];exact#[zm,i,j,ÒY,Jk,q]
def Nc(a b:aa):Sp:=λvs H Q _=>X9 λ(m rd sd:aa) (L:À Zz) (s:StL) (nb li lo:Int) (w:Ã Int)=>C4 #[ff,m] #[gX,a,b] Í9 (∀ (x:V) (H':Hp),ZvH ÄK H' x->ZB H H'->Q x H')
theorem ZoX(T:Õ)(r:ÇW):Mf P w K mg Â 3 ak "coming" ð (Nc au ak):=by
 rw[d2,T.t_Merge_coming.mf,JX,u,i];obtain m|j|v|L|s|y|B|lo|w|rfl|M|W|q:=h;refine(_,#[Zc,#[ZK,#[Zk,Xc,Ĥ,ţ,ú],ÇM,ë],#[Zc,#[Zu,1,JX.nd,â,#[ZF,(ixG i),Ĥ,Ĥ]],#[Zg,#[Zl,#[Yq,#[Zd,Ĥ,#[ZE,‹1›],#[sP,r,i,1]]]]]]],?_);rw[gJ,b,c];refine(_,rfl,m,ak,b,_,_,rfl,c,ã,ÂO,Tj ..,rfl,_,rfl,?_);have l:Win (hdL ÄK) ((ÄK).map ù) w:=by rw[UA];exact W
 cases w with
 | none=>exact YZ rfl (q _ H (.inl (rfl,l)) Ãy)
 | some a =>
  obtain e|d|rfl:=Tn W.1;rw[sz,R,d,n,o,ÊJ];have hd:=Vd ű d;cases g:Ö[e.g]? with
  | none=>obtain _|z|p|_:=W;rw[eM,hd,g,p]
  | some x =>
  refine YC τ ?_;refine(_,rfl,m,ak,b,_,_,rfl,c,ã,ũ,Z8 ..,_,rfl,m,ak,b,_,_,rfl,c,ã,ÂO,Tj ..,j,_,rfl,ŉ (k:=ÅX) ŏ (Wj ű d),_,rfl,m,ak,b,_,_,rfl,c,ã,ÂO,Tj ..,_,rfl,e.p,au,n,_,_,rfl,o,Ŏ,ÇN,Tr ..,_,rfl,e.p,n,_,rfl,o,Vc ..,e.p,e.k,e.f,Ö,e.g,rfl,R.at',ÁI,λt C=>?_);rw[Ti g];exact q _ _ (.inr (t,toL e,x,rfl,Qg d,g,Zb,l)) (Zi C _)
def IZ(a b:aa):Sp:=λvs H Q _=>X9 λ(m rd sd:aa) (L:À Zz) (s:StL) (nb li lo:Int) (c:V)=>C3 #[ff,m] ÊO (∀H':Hp,ZB H H'->Q (.int (Wk ÄK).sum) H')
theorem Zj3(k f:aa)(g:Int):(ÍN).lookup ("to_go" : ah)=af:=ÍY
theorem ZpV(T:Õ)(N:ÍO):Mf P w K mg Â 2 ak "left" ð (IZ au ak):=by
 rw[d2,T.t_Merge_left.mf,Ziy,O,S];obtain m|a|W|L|s|X|Y|lo|Z|rfl|M|q:=h;refine(_,#[Zg,#[Zl,#[Zn,(KQ K),Í,Îa,Îb,#[Zd,(@PL _ _ _ #[W7,N3,(@Zr3 _ _ _ _ _ _ Ĥ Í Í),#[gk,1,N3],Àk,(λ_ _ _ _=>#[Ym,N,Ŏ,S,#[cw,1,N3]])])]]]],?_);rw[uw];have hU:=Âg;refine(a,_,ŏ,Μ,_,rfl,m,ak,dx,_,_,rfl,hm,ã,ũ,Z8 ..,a,_,rfl,ŏ,λj B t=>?_);have u:ÙQ a=U (.frz j ÅU):=Zb;have D:∀b x,H b=U x->b≠a->ÙQ b=U x:=λb x h n=>by rw[Zf n];exact h
 generalize upd H a (.frz j (.dK (kvM L)))=H1 at u D t ⊢;refine ZrK (d:=a) (o:=j) (kvs:=kvM L) (λi zs F c=>(∃v:Ã V,F=[U ÅZ,v])/\zs=(Wk ((L.take i).map toL)).map í/\i<=Àg/\c B=U Àe/\ZB H1 c) ?_ (λ_ _ _ _ h=>h.2.2.2.2 _ _ u) ?_ ?_
 ·exact#[fA,t]
 ·rintro i k x zs F c l ⟨⟨v,rfl⟩,rfl,hi,y,p⟩;unfold kvM at l;rw[Qr]at l;cases r:L[i]? with
  | none=>rw[r]at l;cases l
  | some e =>
  rw[eh,r,l,bM,Àg];have C:=Qp r;have R:=ÀW e C;obtain _|_|_|n1|n2|n3:=Ç0 C;have R2:WK au c e:=R.mono λb o g bP=>p _ _ (D b o g ÙR);rw[el,dp,hp,R2.at'.ob];refine(_,rfl,e.p,dp,_,rfl,hp,Zj3 ..,e.p,e.k,e.f,Ö,e.g,rfl,R2.at',y,(by unfold Wk;rw[Qa,Qa,Qa,QA];exact ZA Á),ü,?_,bM,Zb,λb x g=>?_)
  ·rw[QH,r,Qf];unfold Wk;rw[Qf,Qf];rfl
  ·rw[rF,g,t,p,b,x]
 rintro zs F c ⟨⟨v,rfl⟩,rfl,_,y,p⟩;have l9:ÙS:=by unfold kvM;rw[Qa]
 rw[l9,Qz î]at y;refine(j,p _ _ u,?_);have G:(upd c a ÅU) B=U (.lst ((Wk ÄK).map í)):=by rw[Zf (Ze u t).symm];exact y
 have I:ZB H (upd c a ÅU):=λb x g=>by
  by_cases e:b=a
  ·rw[e,ŏ]at g;rw[e,Zb];exact g
  ·rw[Zf e];exact p _ _ (D b x g e)
 generalize upd c a (.dK (kvM L))=H3 at G I ⊢;refine(B,Wk ÄK,rfl,É G,(by unfold Wk;rw[Qa,Qa];lia),λn J=>?_,q H3 I);unfold Wk at J;rw[d9,e',gF,J];rw[d9,e,C,gF];have R:=ÀW e C;have a1:=R.le;have a2:=R.len;show 0<=Ò7/\Ò7<=_;lia
def Uz(L:À X1):À (Int×Ã ah):=ĥ λe=>(e.1,e.2.2.1[e.2.2.2]?,)
def Zwx(H:Hp)(l:aa)(E:ÊH):Prop:=∃a:À (aa×Int×Ã ah),ļ ě=E/\H l=U #[hS,ļ,t,t.1]/\∀t∈a,H t.1=U ÙT
theorem IY(ss:Ê)(g:Nat):WL ss g=oV ss[g]?:=by unfold WL oV;cases ss[g]?<;>rfl
def IX(a b:aa):Sp:=λvs H Q _=>X9 λ(m rd sd:aa) (L:À Zz) (s:StL) (nb li lo:Int) (c:V)=>C3 #[ff,m] ÊO (∀ (l:aa) (H':Hp),H l=af->Zwx H' l (Uz ÄK)->ZB H H'->Q Đ H')
theorem Zo1(T:Õ)(aW:ÇW):Mf P w K mg Â 3 ak "heads" ð (IX au ak):=by
 rw[iN,T.t_Merge_heads.mf,ZhE];obtain m|a|sd|L|s|nb|li|lo|aG|rfl|M|q:=h;refine(_,#[Zg,#[Zl,(@PL _ _ _ #[W7,Tx,ÙU,#[em,1,Tx,2],Àk,(λ_ _ _ _=>#[Yq,#[Zd,#[cw,1,Tx],#[Ym,aW,Ŏ,hr,#[cw,2,Tx]]]])])]],?_);rw[uw];have hU:=Âg;refine(a,_,ŏ,Μ,_,rfl,m,ak,dx,_,_,rfl,hm,ã,ũ,Z8 ..,a,_,rfl,ŏ,λg B c=>?_);rw[rl,F,H,a,Îc];have J:∀b x,H b=U x->b≠a->(upd H a Îc) b=U x:=λb x h n=>by rw[Zf n];exact h
 have N:H B=af:=by
  cases e:H B with
  | none=>rfl
  | some o =>
   by_cases z:B=a
   ·rw[(z)]at c;rw[show (upd H a Îc) a=U Îc from Zb]at c;cases c
   ·rw[J B o e z]at c;cases c
 generalize upd H a (.frz g (.dK (kvM L)))=H1 at F J c ⊢;refine ZrX (d:=a) (o:=g) (kvs:=kvM L) (λi zs O r=>(X2 λS W:Ã V=>O=[U ÅZ,S,W])/\(∃j:À (aa×Int×Ã ah),j.map ě=Uz ((L.take i).map toL)/\zs=(j.map λt=>õ t.1)/\∀t∈j,r t.1=U ÙT/\t.1≠B/\t.1≠a)/\i<=Àg/\r B=U Àe/\ZB H1 r) ?_ (λ_ _ _ _ h=>h.2.2.2.2 _ _ F) ?_ ?_
 ·exact((af,af,rfl),([],rfl,rfl,#[es,t,h]),Qt _,Zb,Zi c _)
 ·rintro i k x zs O r p v ⟨⟨S,W,rfl⟩,⟨j,G,rfl,X⟩,hi,Y,y⟩ wm;unfold kvM at v;rw[Qr]at v;cases I:L[i]? with
  | none=>rw[I]at v;cases v
  | some e =>
  rw[eh,I,v,bM,Àg];have he:=Qp I;have R:=ÀW e he;obtain _|_|_|n1|n2|n3:=Ç0 he;have C:=Zi wm ÙV;have uf:(upd r p ÙV) p=U (.tup [.int e.n,.ref e.p]):=Zb;generalize upd r p (.tup [kV (.inl e.n),.ref e.p])=H3 at C uf ⊢;have R2:WK au H3 e:=R.mono λb o l bP=>C _ _ (y _ _ (J b o l ÙR));rw[el,dp,hp,R2.at'.ob];have wk:=C _ _ Y;have vS:=C _ _ (y _ _ F);have aY:Åc=i:=by have:=#[eX,G];unfold Uz at this;rw[Qa,Qa,Qa,QA]at this;lia
  refine(p,_,rfl,ā uf,rfl,_,_,rfl,_,_,rfl,rfl,_,rfl,_,rfl,e.p,dp,_,rfl,hp,Vc ..,e.p,e.k,e.f,Ö,e.g,rfl,R2.at',Ây,λt D=>?_);rw[IY];have Z:B≠t:=Ze wk D;have ug:a≠t:=Ze vS D;refine(by rw[Zf Z];exact wk,Ç1,Ç2,(j++[(t,e.n,Ö[e.g]?,)],?_,by rw[Qf];rfl,λu hu'=>?_),bM,Zb,λb x l=>?_)
  ·rw[Qf,G,QH,I,Qf];unfold Uz;rw[Qf];rfl
  ·rcases ß hu' with hu'|hu'
   ·obtain g1|g2|g3:=X u hu';have:=C _ _ g1;exact(by rw[Zf g2,Zf (Ze this D)];exact this,g2,g3)
   ·rw[Ý hu'];exact(by rw[Zf Z.symm];exact Zb,Z.symm,ug.symm)
  ·have:=C b x (y b x l);rw[Zf (Ze l c),Zf (Ze this D)];exact this
 rintro zs O r ⟨⟨S,W,rfl⟩,⟨j,G,rfl,X⟩,_,Y,y⟩;have l9:ÙS:=by unfold kvM;rw[Qa]
 rw[l9,Qz î]at G;refine(g,y _ _ F,?_);have nBr:B≠a:=(Ze F c).symm;refine q B _ N (j,G,by rw[Zf nBr];exact Y,λt D=>?_) #[iw,b,x,l]
 ·obtain g1|g2|g3:=X t D;rw[Zf g3];exact g1
 ·by_cases e:b=a
  ·rw[e,ŏ]at l;rw[e,Zb];exact l
  ·rw[Zf e];exact y _ _ (J b x l e)
def Agr(Lo:À X1)(L:ó):Prop:=Lo.map Ò8=ĥ Îd
theorem IW:∀ (A B:À X1),A.map Ò8=B.map Ò8->hdL A=hdL B
 | [],[],_=>rfl
 | [],_::_,h=>by cases h
 | _::_,[],h=>by cases h
 | a::A,b::B,h=>by
  rw[Ql,Ql]at h;injection h with h1 h2;injection h1 with d f;have ih:=IW A B h2;funext n;rw[mL];split
  ·simp only[Ò9];rw[f]
  ·exact c
theorem Yh{α a:Type}:∀ {P:À (α×a)},(Àx ù).Nodup->∀ {p q:α×a},p∈P->q∈P->p.1=q.1->p=q
 | [],_,_,_,h,_,_=>by cases h
 | x::r,nd,p,q,hp,hq,e=>by
  rw[Ql,Q9]at nd;rcases ħ hp with h1|h1
  ·rcases ħ hq with h2|h2
   ·rw[h1,h2]
   ·exact Ç (show x.1∈ÂK ù by rw[<- h1,e];exact #[y0,x.1,h2]) nd.1
  ·rcases ħ hq with h2|h2
   ·exact Ç (show x.1∈ÂK ù by rw[<- h2,<- e];exact #[y0,x.1,h1]) nd.1
   ·exact Yh nd.2 h1 h2 e
def Zwp(x:V):Prop:=x=.non\/(∃b,x=.bl b)\/(∃i,x=.int i)\/∃s,x=.str s
structure F2 (R:V->V->Prop) (xs ys:Ą):Prop where
 len:Ú=č
 at':∀ (i:Nat) (x y:V),xs[i]? = U x->ys[i]? = U y->R x y
theorem F2.nil{R:V->V->Prop}:F2 R [] []:=(rfl,λi x y h=>by simp at h)
theorem F2.cons{R:V->V->Prop}{x y:V}{xs ys:Ą}(h:R x y)(t:F2 R xs ys):F2 R (x::xs) (y::ys):=by
 refine(by rw[Qq,Qq,t.len],λi a b c d=>?_);cases i with
 | zero=>simp at c d;rw[<- c,<- d];exact h
 | succ i=>exact t.at' i a b #[ea,c] #[ea,d]
theorem Zqr{H:Hp}{n:Nat}{x:V}(h:Zwp x):IsD H (n+1) x x:=.inl (rfl,h)
theorem ZrU{H:Hp}{n:Nat}{p q:aa}{xs ys:Ą}(hp:H p=U ÁV)(hq:H q=U Ãf)(h:Ú<=1000)(f:F2 (IsD H n) xs ys):IsD H (n+1) ş (.ref q):=.inr (p,q,xs,ys,rfl,rfl,.inl (hp,hq),f.len,h,f.at')
theorem Zg4(rd:aa)(nb li lo:Int)(sd:aa)(a:V):#[11].lookup ("likenings" : ah)=af:=Àm
theorem ZkD(rd:aa)(nb li lo:Int)(sd:aa)(a:V):#[11].lookup ("looks" : ah)=af:=Àm
theorem IV(rd:aa)(nb li lo:Int)(sd:aa)(a:V):#[11].lookup ("coming" : ah)=af:=Àm
theorem Zl2(rd:aa)(nb li lo:Int)(sd:aa)(a:V):#[11].lookup ("left" : ah)=af:=Àm
theorem ZlP(rd:aa)(nb li lo:Int)(sd:aa)(a:V):#[11].lookup ("heads" : ah)=af:=Àm
def Y8(M:Ô)(n:Int):À Int:=if n∈lo M then lo M else up M
def Y5(M:Ô)(n:Int):À Int:=if n∈lo M then up M else lo M
def Z6:Nat->À Int->Int->À (À Int)
 | 0,_,_=>[]
 | k+1,M,n=>if 2<=ÀX then Z6 k Ų n++[M] else []
inductive Sub (N:Ô):À Int->Prop
 | top:Sub N N
 | lo {M:À Int}:Sub N M->2<=ÀX->Sub N (lo M)
 | up {M:À Int}:Sub N M->2<=ÀX->Sub N (up M)
theorem Sub.trans{A B C:Ô}(h:Sub A B)(k:Sub B C):Sub A C:=by
 induction k with
 | top=>exact h
 | lo _ a b=>exact b.lo a
 | up _ a b=>exact b.up a
theorem Sub.rise{N M:Ô}(h:Sub N M)(r:Yj N):Yj M:=by
 induction h with
 | top=>exact r
 | lo _ _ a=>exact RS a
 | up _ _ a=>exact RR a
theorem Sub.mem{N M:Ô}(h:Sub N M){x:Int}(hx:x∈M):x∈N:=by
 induction h with
 | top=>exact hx
 | lo _ _ a=>exact a (QaC hx)
 | up _ _ a=>exact a (QaD hx)
theorem IU{M:Ô}(h:Ãz)(n:Int):Sub M Ų:=by
 unfold Y8;split
 ·exact Sub.top.lo h
 ·exact Sub.top.up h
theorem Tg{M:Ô}{n:Int}(h:n∈M):n∈Y8 M n:=by
 unfold Y8;split
 ·assumption
 ·rename_i a;rw[<- Xi M]at h;exact(ß h).resolve_left a
theorem Nb{M:Ô}(r:Yj M){n:Int}(hn:n∈Y8 M n):n ∉ Y5 M n:=by
 intro h;unfold Y5 Y8 at *
 split at h
 ·rename_i a;have:=ZP r a h;lia
 ·rename_i a;exact a h
theorem Na(M:Ô)(n:Int):(Y8 M n++Y5 M n).Perm M:=by
 unfold Y8 Y5;split
 ·rw[Xi]
 ·exact List.perm_append_comm.trans (by rw[Xi])
def Kys(M:Ô)(k:Ŗ):Prop:=∃a,Sub M a/\2<=ĳ/\k=ZX a
theorem RM{M:Ô}{k:Ŗ}(h:Kys M k):k.1∈M/\k.2∈M:=by obtain b|s|h2|rfl:=h;have a:b≠[]:=Xh Á;exact(s.mem (UD a),s.mem (UC a))
theorem IT{M:Ô}(r:Yj M)(h2:Ãz){k:Ŗ}(h:Kys (lo M) k):k≠ZX M/\¬ Kys (up M) k:=by
 rw[u2]
 ·rw[ze,a,NI];have:=ZP r this.2 (UC (Xh (Ve h2).2));lia
 ·have:=ZP r this.1 (RM m).1;lia
theorem IS{M:Ô}(r:Yj M)(h2:Ãz){k:Ŗ}(h:Kys (up M) k):k≠ZX M/\¬ Kys (lo M) k:=by
 rw[u2]
 ·rw[ze,a,NH];have:=ZP r (UD (Xh (VJ h2).2)) this.1;lia
 ·have:=ZP r (RM m).1 this.1;lia
theorem IR{M:Ô}(r:Yj M)(h2:Ãz){n:Int}{k:Ŗ}(h:Kys Ų k):k≠ZX M/\¬ Kys Áh k:=by
 unfold Y8 at h;unfold Y5;split
 ·rename_i a;rw[y3,a,h];exact IT r h2 h
 ·rename_i a;rw[iv,a,h];exact IS r h2 h
theorem IQ{M:Ô}(r:Yj M)(h2:Ãz){n:Int}{k:Ŗ}(h:Kys Áh k):k≠ZX M/\¬ Kys Ų k:=by
 unfold Y5 at h;unfold Y8;split
 ·rename_i a;rw[y3,a,h];exact IS r h2 h
 ·rename_i a;rw[iv,a,h];exact IT r h2 h
theorem M0{M c:Ô}(h:Sub M c):c=M\/(2<=ÀX/\(Sub (lo M) c\/Sub (up M) c)):=by
 induction h with
 | top=>exact ÀM
 | lo h a b =>
  rcases b with rfl|⟨g,b⟩
  ·exact .inr (a,.inl .top)
  ·exact .inr (g,b.imp (λz=>z.lo a) (λz=>z.lo a))
 | up h a b =>
  rcases b with rfl|⟨g,b⟩
  ·exact .inr (a,.inr .top)
  ·exact .inr (g,b.imp (λz=>z.up a) (λz=>z.up a))
theorem ZqT{M a:Ô}(n:Int)(h:Sub M a):a=M\/(2<=ÀX/\(Sub Ų a\/Sub Áh a)):=by
 rcases M0 h with h|⟨g,h⟩
 ·exact .inl h
 ·refine .inr (g,?_);unfold Y8 Y5;split
  ·exact h
  ·exact h.symm
def Wi(hd:Hd)(s:StL)(A B:Ô)(k:Ŗ):Prop :=
 (∀a b x y,Win hd A (U a)->Win hd B (U b)->hd a=U x->hd b=U y->X2 λt c=>Z3 s k=U (U (t,c,#[gO,x,y],))/\((Btr x a y b/\c=b)\/(Btr y b x a/\c=a))) /\
 (ÙW->Z3 s k=af\/Z3 s k=U af)
theorem Wi.swap{hd:Hd}{s:StL}{A B:Ô}{k:Ŗ}(h:Wi hd s A B k):Wi hd s B A k:=by refine(λa b x y c d f g=>?_,λhw=>h.2 hw.symm);obtain t|i|e|o:=h.1 b a y x d c g f;exact(t,i,by rw[Vj x y];exact e,o.symm)
def Z5(hd:Hd)(s:StL)(N:Ô):Prop:=∀M,Sub N M->2<=ÀX->Wi hd s (lo M) (up M) (ZX M)
theorem Z5.sub{hd:Hd}{s:StL}{N M:Ô}(h:Z5 hd s N)(k:Sub N M):Z5 hd s M:=λa h' h2=>h a (k.trans h') h2
theorem Z5.at_side{hd:Hd}{s:StL}{M:Ô}(h:Z5 hd s M)(h2:Ãz)(n:Int):Wi hd s Ų Áh (ZX M):=by
 have:=h M .top h2;unfold Y8 Y5;split
 ·exact this
 ·exact this.swap
theorem Uy:∀ (n:Nat) (hd:Hd) (s:StL) (N:À Int),Yj N->ģ<=2 ^ (n-1)->0<n->XN hd s n N->Z5 hd s N
 | 0,_,_,_,_,_,h,_=>Ç h Á
 | n+1,hd,s,N,r,hl,_,h=>λM hM h2=>by
  rw[QaL]at hl;rcases M0 hM with rfl|⟨g,hM⟩
  ·obtain _|_|j|k:=h h2;refine(λa b x y d f l o=>?_,k);obtain t|e:=j a b x y d f l o;have i6:=ZP r d.1 f.1;by_cases c:ZS x y<0\/ÒP
   ·rw[y3,c,e];exact(t,b,e,.inl (c,rfl))
   ·rw[iv,c,e];exact(t,a,e,.inr ((ÇO (show a≠b by lia)).resolve_left c,rfl))
  ·obtain p|q|_:=h g;have i:1<=n:=by
    cases n with
    | zero=>simp at hl;lia
    | succ m=>lia
   have hp:2 ^ n=2*2 ^ (n-1):=by obtain⟨m,rfl⟩:∃m,n=m+1:=(n-1,by lia);rw[Qbk,QaL];lia
   rcases hM with hM|hM
   ·exact Uy n hd s (lo N) (RS r) (by unfold lo mid;rw[QA];lia) i p M hM h2
   ·exact Uy n hd s (up N) (RR r) (by unfold up mid;rw[Q4];lia) i q M hM h2
theorem Wi.congr{hd d:Hd}{s s':StL}{A B:Ô}{k:Ŗ}(h:Wi hd s A B k)(ha:∀m∈A,d m=hd m)(hb:∀m∈B,d m=hd m)(hk:Z3 s' k=Z3 s k):Wi d s' A B k:=by
 refine(λa b x y e f g i=>?_,λhw=>?_)
 ·rw[hk];exact h.1 a b x y (e.congr λm c=>(ha m c).symm) (f.congr λm c=>(hb m c).symm) #[sU,ha,a,e.1,g] #[sU,hb,b,f.1,i]
 ·rw[hk];exact h.2 (hw.imp (λw=>w.congr λm c=>(ha m c).symm) (λw=>w.congr λm c=>(hb m c).symm))
theorem Z5.congr{hd b:Hd}{s s':StL}{M:Ô}(h:Z5 hd s M)(c:∀m∈M,b m=hd m)(hk:∀k,Kys M k->Z3 s' k=Z3 s k):Z5 b s' M:=λd hM h2 =>
 (h d hM h2).congr (λm a=>c m (ÊP (QaC a))) (λm a=>c m (ÊP (QaD a))) (hk _ (d,hM,h2,rfl))
theorem Zn1{hd:Hd}{s:StL}{M:Ô}{n:Int}(h1:Z5 hd s Ų)(b:Z5 hd s Áh)(h:Wi hd s Ų Áh (ZX M)):Z5 hd s M:=λa hM h2=>by
 rcases ZqT n hM with rfl|⟨g,hM|hM⟩
 ·unfold Y8 Y5 at h;split at h
  ·exact h
  ·exact h.swap
 ·exact h1 a hM h2
 ·exact b a hM h2
def low(n:Int)(C:#[hf,Int]):Nat->À Int
 | 0=>[n]
 | i+1=>C.getD i []
theorem MZ:∀ (k:Nat) (M:À Int) (n:Int),n∈M->ÀX<=2 ^ k->(∀i X,Óa[i]? = U X->Sub M X/\2<=X.length/\n∈X/\Y8 X n=low n Óa i)/\low n Óa (Óa).length=M/\(Óa).length<=k
 | 0,M,n,hn,hl=>by
  refine(λi X h=>by unfold Z6 at h;simp at h,?_,Qj _);have h1:ÀX=1:=by have:=Qbl hn;simp at hl;lia
  obtain x|rfl:=QaM.mp h1;have:n=x:=by simpa using hn
  rw[this];rfl
 | k+1,M,n,hn,hl=>by
  unfold Z6;by_cases d:2<=ÀX
  ·rw[È d];have f:(Ų).length<=2 ^ k:=by
    rw[Qbk]at hl;unfold Y8;split
    ·unfold lo mid;rw[QA];lia
    ·unfold up mid;rw[Q4];lia
   obtain a|b|c:=MZ k Ų n (Tg hn) f;refine(λi X h=>?_,?_,by rw[Qd,Qx];lia)
   ·have e:∀j,j<=(Û7).length->low n (Z6 k Ų n++[M]) j=low n Û7 j:=λj hj=>by
     cases j with
     | zero=>rfl
     | succ j=>show (Z6 k Ų n++[M]).getD j []=(Û7).getD j [];rw[QM,QM,QT Á]
    by_cases g:i<(Û7).length
    ·rw[QT g]at h;obtain l|m|o|p:=a i X h;exact((IU d n).trans l,m,o,by rw[e i Á];exact p)
    ·have q:i=(Û7).length:=by have:=(Į h).1;rw[Qd,Qx]at this;lia
     rw[sM,q,h];cases h;exact(.top,d,hn,by rw[e _ î,b])
   ·rw[Qd,Qx];show (Z6 k Ų n++[M]).getD _ []=M;rw[QM,QY î,Ób];rfl
  ·rw[Æ d];refine(λi X h=>by simp at h,?_,Qt _);have h1:ÀX=1:=by have:=Qbl hn;lia
   obtain x|rfl:=QaM.mp h1;have:n=x:=by simpa using hn
   rw[this];rfl
structure Tk (hd cQ:Hd) (N:Ô) (n:Int) (z:Ō):Prop where
 win:Win hd N (U n)
 key:hd n=U z
 oth:∀b,b≠n->cQ b=hd b
 nxt:∀x,cQ n=U x->ZS z x<=0
 up:Yj N
theorem Tk.ge{hd a:Hd}{N:Ô}{n:Int}{z:Ō}(h:Tk hd a N n z){b:Int}(hb:b∈N){y:Ō}(hy:a b=U y):ZS z y<=0:=by
 by_cases e:b=n
 ·exact h.nxt y #[ev,e,hy]
 ·obtain _|x|c|hw:=h.win;rw[hL,ÀY,c];rw[h.oth b e]at hy;rcases hw b hb y hy with z|z
  ·exact Ç z e
  ·rcases z with z|z<;>lia
inductive Ag (hd:Hd) (z:Ō):À ÊQ->Int->Int->Prop
 | nil:Ag hd z [] 0 0
 | no {C:À (À Int×À Int)} {A B:À Int} {k q:Int}:Ag hd z C k q->(Win hd A af\/Win hd B af)->Ag hd z (C++[(A,B,)]) k q
 | eq {C:À (À Int×À Int)} {A B:À Int} {k q:Int} {a b:Int} {x y:À Nat}:Ag hd z C k q->Win hd A (U a)->Win hd B (U b)->hd a=U x->hd b=U y->lcp x z=lcp y z->Ag hd z (C++[(A,B,)]) (k+1) (q+((lcp x y:Nat)-(lcp x z:Nat)+1))
 | ne {C:À (À Int×À Int)} {A B:À Int} {k q:Int} {a b:Int} {x y:À Nat}:Ag hd z C k q->Win hd A (U a)->Win hd B (U b)->hd a=U x->hd b=U y->lcp x z≠lcp y z->Ag hd z (C++[(A,B,)]) (k+1) q
theorem Tf{α:Type}{C D:À α}{c d:α}(h:C++[c]=D++[d]):C=D/\c=d:=by have:=List.append_inj' h rfl;exact(this.1,by simpa using this.2)
theorem Ag.last{hd:Hd}{z:Ō}{D:À ÊQ}{k q:Int}(h:Ag hd z D k q):∀ {C:À (À Int×À Int)} {A B:À Int},D=C++[(A,B,)]->X2 λf d=>Ag hd z C f d/\((ÙW/\k=f/\q=d)\/(X4 λa b x y=>Win hd A (U a)/\Win hd B (U b)/\hd a=U x/\hd b=U y/\k=f+1/\q=if lcp x z=lcp y z then d+((lcp x y:Nat)-(lcp x z:Nat)+1) else d)):=by
 intro C A B e;cases h with
 | nil=>simp at e
 | no g hw=>obtain rfl|c:=Tf e;cases c;exact(_,_,g,.inl (hw,rfl,rfl))
 | eq g i j l m n=>obtain rfl|c:=Tf e;cases c;exact(_,_,g,.inr (_,_,_,_,i,j,l,m,rfl,by rw[È n]))
 | ne g i j l m n=>obtain rfl|c:=Tf e;cases c;exact(_,_,g,.inr (_,_,_,_,i,j,l,m,rfl,by rw[Æ n]))
theorem Ag.one{hd:Hd}{z:Ō}{C:À ÊQ}{k q:Int}(h:Ag hd z C k q):∀ {k' e:Int},Ag hd z C k' e->k=k'/\q=e:=by
 induction h with
 | nil =>
  intro k' e g;generalize r:([]:À (À Int×À Int))=C at g;cases g with
  | nil=>exact ć
  | no _ _=>simp at r
  | eq _ _ _ _ _ _=>simp at r
  | ne _ _ _ _ _ _=>simp at r
 | no g hw f =>
  rw[bh];rcases o with⟨_,rfl,rfl⟩|⟨a,b,x,y,c,d,_⟩
  ·exact(l,m)
  ·rcases hw with hw|hw
   ·rw[gx,c]
   ·rw[gx,d]
 | eq g c d s t u f =>
  rw[bh];rcases o with⟨hw,_⟩|⟨a,b,x,y,v,w,n,p,rfl,rfl⟩
  ·rcases hw with hw|hw
   ·rw[gx,c]
   ·rw[gx,d]
  ·rw[dl];rw[È u];exact(by rw[l],by rw[m])
 | ne g c d s t u f =>
  rw[bh];rcases o with⟨hw,_⟩|⟨a,b,x,y,v,w,n,p,rfl,rfl⟩
  ·rcases hw with hw|hw
   ·rw[gx,c]
   ·rw[gx,d]
  ·rw[dl];rw[Æ u];exact(by rw[l],m)
theorem IP:∀ (x z y:À Nat),lcp z y<lcp x z->ZS x y=ZS z y
 | [],z,y,h=>by rw[Ên]at h;lia
 | _::_,[],y,h=>by rw[UF]at h;lia
 | a::x,b::z,[],h=>by unfold ZS;rfl
 | a::x,b::z,c::y,h=>by
  unfold lcp at h;by_cases e:a=b
  ·subst e;rw[È rfl]at h;by_cases d:a=c
   ·subst d;rw[È rfl]at h;unfold ZS;rw[È rfl,È rfl];exact IP x z y Á
   ·unfold ZS;rw[iu,d,d]
  ·rw[w2];lia
theorem Ztc{x z y:Ō}(h:lcp z y<lcp x z):lcp x y=lcp z y:=by have:=NU x y z;rw[Vj y z]at this;lia
theorem ZuN{x z y:Ō}(h:lcp x z=lcp y z):lcp x z<=lcp x y:=by have:=NU x y z;lia
theorem IN{x z y:Ō}{a b:Int}(h:lcp y z<lcp x z)(hz:ZS z y<=0):Btr x a y b/\lcp x y=lcp y z:=by
 rw[Vj y z]at h ⊢;refine(.inl ?_,Ztc h);rw[IP x z y h];rcases Int.lt_or_eq_of_le hz with g|g
 ·exact g
 ·have e:=NP _ _ g;subst e;rw[JI]at h;have:=(VN x z).2;lia
abbrev Com:=Ã (Int×Int)
def Te(hd:Hd)(z:Ō)(M:Ô)(c:Com):Prop:=Win hd M (š ù)/\∀p,c=U p->∃x,hd p.1=U x/\p.2=#[gO,x,z]
theorem Zqq{hd c:Hd}{N M:Ô}{n:Int}{z:Ō}{s:StL}(T:Tk hd c N n z)(hM:Sub N M)(h2:Ãz)(hn:n∈M)(ok:Z5 hd s N) :
  (Win c Áh af/\ÙX)\/X3 λt b y=>Win c Áh (U b)/\c b=U y/\b∈N/\Z3 s (ZX M)=U (U (t,b,#[gO,y,z],)):=by
 have r:=hM.rise T.up;have nd:=RQ r;have p:=Nb r (Tg hn);have q:=(ok.sub hM).at_side h2 n;have g:#[s2,Y5]:=λb d=>(Na M n).mem_iff.mp (QF _ d);have h:#[s2,Y8]:=λb d=>(Na M n).mem_iff.mp (Q0 _ d);have v:Win hd Ų (U n):=by obtain _|x|f|hw:=T.win;exact(Tg hn,x,f,λb d y a=>hw b (ÊP (h b d)) y a)
 have i:∀m∈Y5 M n,c m=hd m:=λm A=>T.oth m λe=>p (e ▸ A);have j:(Áh).Nodup:=by unfold Y5;split;exact RQ (RR r);exact RQ (RS r)
 obtain w|hw:=Win.ex hd Áh j;cases w with
 | none=>exact .inl (hw.congr i,q.2 (.inr hw))
 | some b =>
  obtain⟨y,a⟩:∃y,hd b=U y:=by obtain _|y|a|_:=hw;exact(y,a)
  obtain t|k|e|o:=q.1 n b z y v hw T.key a;have u:=g b hw.1;have l:b≠n:=λz=>p (z ▸ hw.1);have B:Btr z n y b:=by obtain _|x|f|C:=T.win;rw[hL,T.key,f];exact(C b (ÊP u) y a).resolve_left l
  have D:k=b:=by
   rcases o with⟨_,e⟩|⟨e,_⟩
   ·exact e
   ·exact(B.asym e).elim
  subst D;exact .inr (t,k,y,hw.congr i,by rw[i k hw.1];exact a,ÊP u,by rw[Vj y z];exact e)
theorem IM(ns:Ô):(Xr ns).length=(ĩ+1) / 2:=by unfold Xr mid;rw[QA];lia
theorem IL(ns:Ô):(Wm ns).length=ĩ / 2:=by unfold Wm mid;rw[Q4];lia
def Wh:Nat->À Int->Int->À (À Int)
 | 0,_,_=>[]
 | f+1,ns,n=>if ĩ<=1 then [] else if n∈Xr ns then Wm ns::Wh f (Xr ns) n else Xr ns::Wh f (Wm ns) n
def Xq(ns:Ô)(n:Int):À Int:=if n∈Xr ns then Xr ns else Wm ns
def V3(ns:Ô)(n:Int):À Int:=if n∈Xr ns then Wm ns else Xr ns
theorem RL{ns:Ô}{n:Int}(h:Îe):(Xq ns n).length<ĩ:=by
 unfold Xq;split
 ·rw[IM];lia
 ·rw[IL];lia
theorem ZpA{ns:Ô}{n:Int}(h:Îe):0<(Xq ns n).length:=by
 unfold Xq;split
 ·rw[IM];lia
 ·rw[IL];lia
theorem MY{f:Nat}{ns:Ô}{n:Int}(h:Îe):Wh (f+1) ns n=V3 ns n::Wh f (Xq ns n) n:=by
 conv=>lhs;unfold Wh
 rw[Æ Á];unfold V3 Xq;split<;>rfl
theorem Vb{f:Nat}{ns:Ô}{n:Int}(h:ĩ<=1):Wh f ns n=[]:=by
 cases f with
 | zero=>rfl
 | succ f=>unfold Wh;rw[È h]
theorem IK:∀ (f g:Nat) (ns:À Int) (n:Int),ĩ<=f+1->ĩ<=g+1->Wh f ns n=Wh g ns n
 | 0,g,ns,n,h,_=>by rw[Vb Á,Vb Á]
 | f+1,0,ns,n,_,h=>by rw[Vb Á,Vb Á]
 | f+1,g+1,ns,n,h1,h2=>by
  by_cases h:1<ĩ
  ·have:=RL (n:=n) h;rw[MY h,MY h,IK f g _ n Á Á]
  ·rw[Vb Á,Vb Á]
def way(ns:Ô)(n:Int):À (À Int):=Wh ĩ ns n
theorem IJ{ns:Ô}{n:Int}(h:Îe):way ns n=V3 ns n::way (Xq ns n) n:=by
 unfold way;cases e:ĩ with
 | zero=>lia
 | succ f=>have:=RL (n:=n) h;rw[MY h,IK f (Xq ns n).length _ n Á Á]
theorem MX{ns:Ô}{n:Int}(h:ĩ<=1):way ns n=[]:=Vb h
theorem II(n:Int):∀ns:À Int,inV Ät ψ=decide (n∈ns)
 | []=>rfl
 | m::r=>by
  have ih:=II n r;unfold inV at ih ⊢;rw[Ql,Qa6,ih];by_cases h:m=n
  ·subst h;simp[eqV]
  ·have:(m == n)=false:=by simpa using h
   simp[eqV,this,ÂX,Κ h]
theorem IH:∀ns:À Int,(ψ).all W8=true
 | []=>rfl
 | _::r=>by rw[Ql,Ðz,IH r];rfl
def Rd(H:Hp):À aa->À (À Int)->Prop
 | [],[]=>ŗ
 | l::a,d::ds=>H l=U (.lst (Àf í))/\Rd H a ds
 | _,_=>Ē
theorem Rd.len{H:Hp}:∀ {a:À aa} {ds:À (À Int)},Rd H a ds->ĳ=ds.length
 | [],[],_=>rfl
 | [],_::_,h=>ω
 | _::_,[],h=>ω
 | _::a,_::ds,h=>by rw[Qq,Qq,Rd.len h.2]
theorem Îf{H H':Hp}:∀ {a:À aa} {ds:À (À Int)},(∀l∈a,∀o,H l=U o->H' l=U o)->Rd H a ds->Rd H' a ds
 | [],[],_,_=>trivial
 | [],_::_,_,h=>ω
 | _::_,[],_,h=>ω
 | l::a,_::ds,k,h=>(k l Ó _ h.1,Îf (λx hx=>k x (Qm _ hx)) h.2)
theorem Rd.app{H:Hp}:∀ {a:À aa} {ds:À (À Int)} {b:À aa} {c:À (À Int)},Rd H a ds->Rd H b c->Rd H (a++b) (ds++c)
 | [],[],_,_,_,h=>h
 | [],_::_,_,_,h,_=>ω
 | _::_,[],_,_,h,_=>ω
 | _::a,_::ds,_,_,h,g=>(h.1,Rd.app h.2 g)
theorem Rd.rev{H:Hp}:∀ {a:À aa} {ds:À (À Int)},Rd H a ds->Rd H a.reverse ds.reverse
 | [],[],h=>h
 | [],_::_,h=>ω
 | _::_,[],h=>ω
 | l::a,d::ds,h=>by rw[QaS,QaS];exact Rd.app (Rd.rev h.2) (h.1,trivial)
def MW:Sp:=λvs H Q _=>X3 λ(a:aa) (ns:À Int) (n:Int)=>C5 #[gs,a,n] #[gf,a,ψ] (1<=ĩ) #[su,200] (∀ (r:aa) (b:À aa) (H':Hp),H r=af->H' r=U #[sZ,ÀS]->r ∉ b->(∀l∈b,H l=af)->Rd H' b (way ns n).reverse->ZB H H'->Q ÀU H')
def Dn(H:Hp)(a o:aa)(ns:Ô)(n:Int)(b:aa)(c:Ô)(d:Ş)(e:Hp):Prop :=
 ∃done:À (À Int),e b=U (.lst (š í))/\b≠o/\1<=Ņ/\Ņ<=200/\way ns n=done++way c n/\Rd e d done/\e o=U #[sZ,Àf]/\ZB H e/\(∀l∈d,H l=af)/\o ∉ d/\ņ+Ņ<=200
theorem Dn.step{H:Hp}{a o:aa}{ns:Ô}{n:Int}{b:aa}{d:Ô}{h:Ş}{i f:Hp}(D:Dn H a o ns n b d h i)(v:H o=af)(h1:1<ņ)(s:ZB i f){x y:aa}(hx:f x=U #[zn,Xq,d])(hy:f y=U #[zn,V3,d])(nx:i x=af)(j:i y=af) :
  Dn H a o ns n x (Xq d n) (h++[y]) ÙY:=by
 obtain done|d1|d2|d3|d4|w|z|m|p|A|q|d11:=D;have r:x≠o:=(Ze m nx).symm;have t:y≠o:=(Ze m j).symm;have sl:=RL (n:=n) h1;have k:∀l,l≠o->∀u,f l=U u->ÙY l=U u:=λl hl u g=>by rw[Zf hl];exact g
 refine(done++[V3 d n],k x r _ hx,r,ZpA h1,by lia,by rw[w,IJ h1,Qap];rfl,?_,?_,λc u g=>?_,?_,?_,?_)
 ·refine Rd.app (Îf (λl hl u g=>k l (λe=>q (e ▸ hl)) u (s _ _ g)) z) (k y t _ hy,trivial)
 ·rw[Zb,Qf];rfl
 ·rw[Zf (Ze g v)];exact s _ _ (p _ _ g)
 ·intro l hl;rcases ß hl with hl|hl
  ·exact A l hl
  ·rw[Ý hl];exact p.free j
 ·intro B;rcases ß B with hl|hl
  ·exact q hl
  ·exact t (Ý hl).symm
 ·rw[Qd,Qx];lia
theorem Zuz(T:Õ)(eW:ÒZ):Df P w K mg Â 2 "way_up" ÄA MW:=by
 rw[iN,T.t_way_up.df,Vo];obtain a|p|n|rfl|O|h1|R|q:=h;refine(_,#[Zc,#[gB,2,Vo.nd],#[Zc,#[sd,Vo.nd,0],#[Zc,(@Rr _ _ _ _ _ _ Γ #[rp,Wt,ÒD] #[Zc,#[YD,#[Zy,eW,hr,ÇX,Í],#[gT,K,2,#[d4,4,Vo.nd,5]]],#[Zg,#[ZK,#[Zk,(inQ K),‹1›,‹4›,À8],#[Zc,#[fW,2,5],#[Zg,#[sd,Vo.nd,4]]],#[Zc,#[fW,2,4],#[Zg,#[sd,Vo.nd,5]]]]]]),#[Zc,#[ZL,(@ZtR _ _ _ _ _ _ _ _ _ QC PySem.F.slot_list_reverse PySem.F.type_list_reverse ZmG ‹2› Í Í)],Ãt]]]],ÀV,λo g=>?_);have S:a≠o:=Ze O g;refine(_,rfl,λm W X=>X5 λ(b:aa) (d:À Int) (i:À aa) (Y Z:Ã V)=>W=[U Ĩ,U Ät,U (.ref o),U ÀR,Y,Z]/\Dn H a o p n b d i X/\m=ņ,(_,a,p,[],af,af,rfl,([],?_,S,h1,R,rfl,trivial,Zb,Zi g _,#[es,l,j],#[y9,B],by simpa using R),rfl),?_)
 ·rw[Zf S];exact O
 rintro m W X ⟨b,d,i,Y,Z,rfl,D,rfl⟩;obtain done|d1|d2|d3|d4|d5|d6|C|d8|d9|qd|d11:=id D;have hlc:Óc=(ņ:Int):=by rw[Qa]
 refine(_,rfl,b,_,rfl,.inl (É d1),_,_,rfl,rfl,_,rfl,?_);rw[fz,F]
 ·have G:(1:Int)<Óc:=Ī F;have I:1<ņ:=by lia
  refine ÙZ;refine(_,rfl,b,d,rfl,É d1,d4,λt x y H3 ht hx hy nxy et ex ey J ntx nty=>?_);rw[e3,t,et];have r:=J _ _ C;have bo:#[sO,i.map,õ]:=by rw[Qa];exact ZA Á
  have sl:=RL (n:=n) I;refine(_,rfl,_,rfl,x,_,rfl,.inl (É ex),rfl,IH _,_,rfl,?_);show if inV (í n) ((Xr d).map í)=true then _ else _
  rw[II];rw[fz,L]
  ·have k:n∈Xr d:=Ī L;have M:Xq d n=Xr d:=by unfold Xq;rw[È k]
   have N:V3 d n=Wm d:=by unfold V3;rw[È k]
   refine(_,rfl,.inl #[ew,r],_,rfl,o,_,_,rfl,rfl,r,bo,_,rfl,_,?_,x,Xq d n,i++[y],_,_,rfl,D.step g I J #[ed,M,ex] #[ed,N,ey] hx hy,rfl);exact sl
  ·have k:¬ n∈Xr d:=λz=>L ÅS;have M:Xq d n=Wm d:=by unfold Xq;rw[Æ k]
   have N:V3 d n=Xr d:=by unfold V3;rw[Æ k]
   refine(_,rfl,.inl #[ew,r],_,rfl,o,_,_,rfl,rfl,r,bo,_,rfl,_,?_,y,Xq d n,i++[x],_,_,rfl,D.step g I J #[ed,M,ey] #[ed,N,ex] hy hx,rfl);exact sl
 ·have G:¬ (1:Int)<Óc:=λz=>F ÅS;have e:way p n=done:=by rw[d5,MX Á,QX]
  refine(_,rfl,.inl #[ew,C],o,_,rfl,rfl,C,_,rfl,q o i.reverse _ g (by rw[Zb,List.map_reverse]) (λB=>qd (Ù0 B)) (λl j=>d9 l Ù1) ?_ λc u v=>?_)
  ·rw[e];refine Îf (λl j u v=>?_) d6.rev;rw[Zf (λz=>by subst z;exact qd Ù1)];exact v
  ·rw[Zf (Ze v g)];exact d8 _ _ v
theorem IG:∀ (k:Nat) (M:À Int) (n:Int),ÀX<=2 ^ k->(way M n).reverse=(Óa).map (λX=>Y5 X n)
 | 0,M,n,h=>by rw[MX #[ea,h]];rfl
 | k+1,M,n,h=>by
  unfold Z6;by_cases h2:2<=ÀX
  ·rw[È h2,IJ Á,QaS,Qf];have hs:(Ų).length<=2 ^ k:=by
    rw[Qbk]at h;unfold Y8;split
    ·unfold lo mid;rw[QA];lia
    ·unfold up mid;rw[Q4];lia
   have e:=IG k Ų n hs;rw[<- e];rfl
  ·rw[Æ h2,MX Á];rfl
theorem Zp6{M:Ô}(h:Ãz)(n:Int):Y5 M n≠[]:=by
 unfold Y5;split
 ·exact Xh (Ve h).2
 ·exact Xh (VJ h).2
theorem ZmZ{M:Ô}(r:Yj M)(h:Ãz)(n:Int):ZX M=(if (Áh).headD 0<(Ų).headD 0 then (Y5 M n).headD 0 else (Y8 M n).headD 0,if (Áh).getLastD 0>(Ų).getLastD 0 then (Y5 M n).getLastD 0 else (Y8 M n).getLastD 0,):=by have a:=NH h;have b:=NI h;have e:=UD (Xh (VJ h).2);have f:=UC (Xh (VJ h).2);have g:=UD (Xh (Ve h).2);have i:=UC (Xh (Ve h).2);have c:=ZP r e g;have d:=ZP r f i;unfold Y8 Y5;split<;>(refine Prod.ext ?_ ?_<;>dsimp only<;>first|lia|(split<;>lia))
theorem Rd.get{H:Hp}:∀ {c:À aa} {ds:À (À Int)},Rd H c ds->∀ {i:Nat} {l:aa} {d:À Int},c[i]? = U l->ds[i]? = U d->H l=U (.lst (Àf í))
 | [],[],_,i,l,d,h,_=>by simp at h
 | l::c,d::ds,(h1,h2),0,a,b,e,f=>by simp at e f;rw[<- e,<- f];exact h1
 | l::c,d::ds,(h1,h2),i+1,a,b,e,f=>Rd.get h2 #[ea,e] #[ea,f]
def IF:Sp:=λvs H Q _=>X3 λ(a:aa) (N:À Int) (n:Int)=>C6 #[gs,a,n] (H a=U (.lst ÊK)) (n∈N) (ģ<=60) (Yj N) (∀ (r:aa) (b:À aa) (H':Hp),H r=af->H' r=U #[sZ,ÀS]->Œ=(ÊR).length->(∀ (i:Nat) (t:aa) (X:À Int),b[i]? = U t->ÊR[i]? = U X->H' t=U #[gK,X])->ZB H H'->Q ÀU H')
theorem ZlU(T:Õ)(jY:Ù2):Df P w K mg Â 3 "matches_up" ÄA IF:=by
 rw[iN,T.t_matches_up.df,Vn];obtain a|N|n|rfl|ha|hn|qr|fZ|q:=h;refine(_,#[Zc,#[gB,2,Vn.nd],#[Zc,#[sd,Vn.nd,1],#[Zc,#[Zu,4,Vn.nd,â,‹1›],#[Zc,#[XR,Γ,#[iL,K,#[eH,jY,hr,0,1]],#[rx,5,Vn.nd],#[Zc,#[Zu,3,Vn.nd,â,#[Zn,(LJ rfl),Í,Îg,Îh,#[Zd,‹3›,#[gh,ixL,K,5,Ü]]]],#[Zc,#[Zu,4,Vn.nd,â,#[Zn,(Rj rfl),Í,Ód,boot_max,#[Zd,‹4›,#[gh,ixL,K,5,ÊA]]]],#[Zg,#[ZL,#[ZZ,K,QC,QD,QE,Z0,‹2›,#[Zd,#[Yq,#[ex,3,4]]]]]]]]],Ãt]]]],?_);have iO:=Qbl hn;have yR:ģ<=2 ^ 8:=Qk qr Ì;obtain CA|AM|FS:=MZ 8 N n hn yR;refine#[rN,r,I];have J:=Zi I Ź;rw[eS,k,H,r,Ź];generalize upd H r (.lst [])=H1 at J k ⊢;refine(_,rfl,_,rfl,_,rfl,_,rfl,a,N,n,rfl,J _ _ ha,iO,by lia,λwy x H2 FT AN hnot eV L M=>?_);rw[IG 8 N n yR]at L;have vX:=L.len;rw[Qa]at vX;have O:=Îi M;refine(wy,rfl,#[rB,AN],?_);refine Rq (K:=K) (a:=wy) (xs:=x.map õ) (λi B d=>X2 λ(R:Ã V) (c:À aa)=>B=[U Ĩ,U Ät,U ÀU,U (.int (#[ls].headD 0)),U (.int (#[ls].getLastD 0)),R]/\i<=ĕ/\Ņ=i/\d r=U #[sZ,š]/\(∀ (j:Nat) (t:aa) (X:À Int),c[j]? = U t->ÊR[j]? = U X->d t=U #[gK,X])/\(∀t∈c,t≠r/\∃xs,d t=U ÁR)/\(∀b o,H2 b=U o->b≠r->d b=U o)) (_,[],rfl,Qt _,rfl,M _ _ k,(λj t X h=>by simp at h),#[es,t,h],λb o h _=>h) (λi B d _ hq=>by obtain _|_|_|_|_|_|_|_|e:=hq;exact É (e _ _ AN (λz=>by rw[z,k]at FT;cases FT))) ?_ ?_
 ·rintro i y B d m ⟨R,c,rfl,hi,S,g,W,yS,e⟩;rw[Qr]at m;cases p:x[i]? with
  | none=>rw[p]at m;cases m
  | some l =>
  rw[eh,p,m,bM,ĕ];cases v:(Z6 8 N n)[i]? with
  | none=>rw[Qa2]at v;lia
  | some X =>
  obtain x1|x2|x3|x4:=CA i X v;have Z:H2 l=U #[zn,Y5,X]:=L.get p #[sh,Qr,v];have FU:l≠r:=λz=>by rw[(z)]at Z;rw[M _ _ k]at Z;have:=eV l (Qp p);rw[gP,k]
  have fY:=e _ _ Z FU;have cA:=Zp6 x2 n;have C:=ZmZ (x1.rise fZ) x2 n;rw[x4]at C;have e3:low n ÊR (i+1)=X:=by show (Z6 8 N n).getD i []=X;rw[QM,v];rfl
  refine(_,rfl,_,rfl,l,_,_,_,rfl,rfl,É fY,Jh cA,_,_,rfl,_,rfl,_,rfl,_,rfl,l,_,_,_,rfl,rfl,É fY,Ji cA,_,_,rfl,_,rfl,.inl #[ew,g],_,rfl,_,rfl,Ây,λt D=>?_);have F:r≠t:=Ze g D;refine(r,_,_,rfl,rfl,by rw[Zf F];exact g,Ç1,U Đ,c++[t],?_,bM,by rw[Qd,Qx];lia,by rw[Zb,Qf];rfl,λj u Y hu hY=>?_,λu hu=>?_,λb o G nb=>?_)
  ·rw[e3];have h1:=ŕ Prod.fst C;have h2:=ŕ Prod.snd C;simp only at h1 h2;rw[show X.headD 0=(ZX X).1 from rfl,show X.getLastD 0=(ZX X).2 from rfl,h1,h2];rfl
  ·have yT:∀ (u:aa) (xs:À V),d u=U ÁR->(upd (upd d t (.tup [.int (if (Y5 X n).headD 0<#[ls].headD 0 then (Y5 X n).headD 0 else (low n ÊR i).headD 0),.int (if (Y5 X n).getLastD 0>#[ls].getLastD 0 then (Y5 X n).getLastD 0 else (low n ÊR i).getLastD 0)])) r (.lst (š õ++[.ref t]))) u=U ÁR:=λu xs hu=>by rw[Zf (λz=>by rw[z,g]at hu;cases hu),Zf (Ze hu D)];exact hu
   by_cases hj:j<Ņ
   ·rw[QT hj]at hu;exact yT u _ (W j u Y hu hY)
   ·have ej:j=Ņ:=by have:=(Į hu).1;rw[Qd,Qx]at this;lia
    rw[sM,ej,hu];cases hu;rw[eM,S,v,hY];rw[Zf F.symm,Zb,C]
  ·rcases ß hu with hu|hu
   ·obtain g1|xs|g2:=yS u hu;exact(g1,xs,by rw[Zf g1,Zf (Ze g2 D)];exact g2)
   ·rw[Ý hu];exact(F.symm,_,by rw[Zf F.symm];exact Zb)
  ·have:=e b o G nb;rw[Zf nb,Zf (Ze this D)];exact this
 ·rintro B d ⟨R,c,rfl,_,S,g,W,_,e⟩;rw[Qa]at S;exact(_,rfl,q r c d I g Á W (λb o G=>e b o (O b o G) (Ze G I)))
def CV(H:Hp)(v:V)(c:Com):Prop:=(c=af/\v=.non)\/X2 λ(t:aa) (p:Int×Int)=>c=U p/\v=.ref t/\H t=U #[h1,p.1,p.2]
theorem CV.keep{H H':Hp}{v:V}{c:Com}(h:CV H v c)(k:#[fG,t,xs]):CV H' v c:=by
 rcases h with h|⟨t,p,a,b,d⟩
 ·exact .inl h
 ·exact .inr (t,p,a,b,k _ _ d)
theorem Zrl{s:StL}{k:Ŗ}{a:Ãv}(h:Z3 s k=U a):s.any ÍT=true:=ÇS (_,Jn h,đ rfl)
theorem MV{s:StL}{k:Ŗ}{a v:Ãv}(h:Z3 s k=U a):(ÊF).length=ĝ:=by unfold Ya;rw[È (Zrl h),Qa]
def AgS(hd:Hd)(z:Ō)(A B:Ô)(k q:Int):Prop:=∀C a b,Ag hd z C a b->Ag hd z (C++[(A,B,)]) (a+k) (b+q)
def IE(a d:aa):Sp:=λvs H Q _=>X15 λ(m rd sd:aa) (L:À Zz) (s:StL) (nb li lo:Int) (e:V) (f:aa) (v:V) (c:Com) (z:À Nat) (M:À Int) (n:Int)=>C12 (vs=[.ref m,.ref f,v]) #[eI,a,d,e] (H f=U #[gK,M]) (CV H v c) (Te Ğ z Ų c) (((Win Ğ Áh af/\ÙX)\/X3 λt b y=>Win Ğ Áh (U b)/\hdM L b=U y/\Z3 s (ZX M)=U (U (t,b,#[gO,y,z],)))) ((∀b∈M,∀y,hdM L b=U y->ZS z y<=0)) (Yj M) ((∀b∈M,b∈ZC L)) (2<=ÀX) (n∈M) (∀ (g:V) (h:Com) (s':StL) (k q:Int) (H':Hp),CV H' g h->Te Ğ z M h->Wi Ğ s' Ų Áh (ZX M)->(∀j,j≠ZX M->Z3 s' j=Z3 s j)->AgS Ğ z Ų Áh k q ->
  ZO a d H' m rd sd L s' nb (li+k) (lo+q) e->#[e0,H,sd,H']->Q g H')
theorem ID{L:ó}(nd:ÊI){b:Int}(hb:b∈ZC L){y:Ō}(hy:hdM L b=U y):∃e∈L,e.n=b/\∃x,Ö[e.g]? = U x/\y=cds x:=by
 obtain e|c|rfl:=Tn hb;rw[Vd nd c]at hy;cases a:Ö[e.g]? with
 | none=>rw[a]at hy;cases hy
 | some x=>rw[a]at hy;cases hy;exact(e,c,rfl,x,a,rfl)
theorem ZqW(T:Õ)(cr:ÙH):Mf P w K mg Â 4 ak "play_again" Íp (IE au ak):=by
 rw[iN,T.t_Merge_play_again.mf,TK];obtain m|rd|I|L|s|nb|li|lo'|aG|tm|v|c|z|M|n|rfl|Mg|mS|yU|⟨wS,FW⟩|bK|gJ|fZ|qo|h2|hn|q:=h;refine(_,#[Zc,#[Zu,3,TK.nd,â,(@ZtW _ _ _ _ _ _ _ _ hr Ĥ ‹1› Í Í Í)],#[Zc,#[ZK,#[g0,3],Ãt,ë],#[Zc,#[ZK,#[g0,2],#[Zc,#[YD,ţ,#[iO,1,hr]],#[fg,3]],ë],#[Zc,#[ZK,#[Zk,YI,ÊS,Îj,ú],#[Zc,#[YD,#[Xu,cr,ã,hr,‹0›,#[Zd,ÊS,Îj,ÊS]],#[d5,4,TK.nd,5,6]],#[Zc,#[YD,#[Yq,#[ex,5,6]],#[iO,1,hr]],#[Zg,#[Zl,#[Yq,#[Zd,‹4›,ÊS]]]]]],ë],#[Zc,ÒX,#[Zc,#[ZK,#[Zk,Wt,ÊS,Îj,ú],Ãt,ë],#[Zc,#[YD,‹2›,#[iO,1,hr]],#[fg,3]]]]]]]],?_);rw[el,dx,N,Mg.ob];have tq:#[h9,H]:=mS;have Z:=Na M n;have dg:=Y7.t (k:=ÊT) ÊU tq;rw[Jo]at dg;have sA:#[s2,Y8]:=λb r=>Z.mem_iff.mp (Q0 _ r);have sB:#[s2,Y5]:=λb r=>Z.mem_iff.mp (QF _ r);have iG:=Nb fZ (Tg hn);have dis:∀a b,a∈Y8 M n->b∈Y5 M n->a≠b:=λa b ha r e=>by
  subst e;unfold Y8 Y5 at *
  split at ha
  ·rename_i hl;rw[y3,hl,r];have:=ZP fZ ha r;lia
  ·rename_i hl;rw[iv,hl,r];have:=ZP fZ r ha;lia
 refine(_,rfl,m,ak,dx,_,_,rfl,N,ã,ÅY,Tl ..,I,rfl,.inr (_,.inl ÊU),_,rfl,_,dg,?_);rcases bK with⟨u,W⟩|⟨t,b,y,u,D,W⟩
 ·have ev:#[yE].getD .non=.non:=by rcases W with e|e<;>rw[e]<;>rfl
  rw[ev];refine(_,rfl,rfl,_,rfl,YZ rfl (_,rfl,q v c s 0 0 H yU ((ÍR wS u).perm Z,FW) ((λa b x y _ wb _ _=>nomatch u.one wb),λ_=>W) ÄM (λC k0 q0 g=>by rw[Qan,Qan];exact .no g (.inr u)) (Mg.cast Á Á) Ò0))
 have cW:=Mg.ats _ (Jn W) _ rfl;have e1:#[yE].getD .non=.ref t:=by rw[W];rfl
 rw[e1];have CB:=Mg.sfew;have fo:#[sO,kvS,s]:=by unfold kvS;rw[kZ]
 rw[a9];have wt:=sB b u.1;rcases yU with⟨rfl,rfl⟩|⟨F,p,rfl,rfl,J⟩
 ·refine Óe;refine(_,rfl,m,ak,dx,_,_,rfl,N,ã,ÅY,Tl ..,_,rfl,I,_,rfl,Xv.t (k:=ÊT) ÊU tq fo,?_);rw[show V.non=stV af from rfl,RT];have cH:(Ya s (ZX M) af).length<=200:=by rw[MV W];exact CB
  have M2:=Mg.put (k:=ZX M) (v:=af) #[es,t,X] cH;have B:Win Ğ Ų af:=wS;refine(_,rfl,q Ág (U (b,#[gO,y,z],)) _ 0 0 _ #[r7,t,?_] ((ÍS B u).perm Z,λp hp=>?_) ((λa b x y wa _ _ _=>nomatch B.one wa),λ_=>.inr ?_) (λj hj=>?_) (λC k0 q0 g=>?_) (M2.cast Á Á) (λb o r _ n2=>by rw[Zf n2];exact r))
  ·rw[rD,Zf,z,ÊU,cW]
  ·cases hp;exact(y,D,rfl)
  ·rw[Wl,È rfl]
  ·rw[Wl,Æ hj]
  ·rw[Qan,Qan];exact .no g (.inl B)
 rw[el,a,fa,p];obtain x|G|FX:=FW _ rfl;simp only at G FX;subst FX;have B:Win Ğ Ų (U a):=wS;have FY:=sA a B.1;have i6:=dis a b B.1 u.1;obtain O|yO|rfl|i|hzx|rfl:=ID Mg.nd (qo a FY) G;obtain eb|yP|rfl|l|hzy|rfl:=ID Mg.nd (qo b wt) D;rw[hq,c0,O.n,ÂP,0,O.n];rw[hq,c1,O.n,ÂP,1,ÂP];rw[hq,d0,eb.n,Ç3,0,eb.n];rw[hq,d1,eb.n,Ç3,1,Ç3];rw[a9];refine(_,rfl,F,_,_,_,rfl,rfl,ā J,c1,_,rfl,t,_,_,_,rfl,rfl,ā cW,d1,rfl,_,rfl,Y1 ź ź)
 ·have ef:lcp (cds i) z=lcp (cds l) z:=by have:=Ãu;injection this with this;lia
  have vN:=ZuN ef;refine(_,rfl,m,dx,_,rfl,N,Jg ..,_,rfl,F,_,_,_,rfl,rfl,ā J,c0,_,rfl,t,_,_,_,rfl,rfl,ā cW,d0,_,rfl,F,_,_,_,rfl,rfl,ā J,c1,m,rd,I,L,s,nb,li,lo',aG,O,eb,i,l,lcp (cds i) z,rfl,Mg,yO,yP,hzx,hzy,vN,λt5 wi R H5 hw Cr we M5 b5=>?_);rw[er,t5,we];have wf:2<=aq:=by decide
  refine(_,rfl,_,rfl,wf,λS tZ=>?_);have s6:=Zi tZ #[h1,R,Ç4];have qu:(upd H5 S #[h1,R,Ç4]) S=U #[h1,R,Ç4]:=Zb;have M6:=M5.same s6;generalize upd H5 S (.tup [.int R,.int ((lcp (cds i) (cds l):Nat):Int)])=H6 at s6 qu M6 ⊢;rw[el,Cs,Ct,M6.ob];have CC:tm≠m:=λz=>by rw[z,N]at mS;cases mS
  have CD:F≠m:=λz=>by rw[z,N]at J;cases J
  have FZ:#[h9,H6]:=s6 _ _ (b5 _ _ tq CC);refine(_,rfl,m,ak,Cs,_,_,rfl,Ct,ã,ÅY,Tl ..,_,rfl,I,_,rfl,Xv.t (k:=ÊT) M6.stays FZ fo,?_);rw[show õ S=stV (U (S,R,Ç4,)) from rfl,RT];have cH:(Û8).length<=200:=by rw[MV W];exact CB
  have M7:=M6.put (k:=ZX M) (v:=U (S,R,Ç4,)) (λt X=>by injection X with X;rw[<- X];exact qu) cH;have b7:∀b o,H b=U o->b≠m->b≠I->(upd H6 I (.dT (kvS Û8))) b=U o:=λb o r n1 n2=>by rw[Zf n2];exact s6 _ _ (b5 b o r n1)
  have F0:F≠I:=λz=>by rw[z,ÊU]at J;cases J
  generalize upd H6 I (.dT (kvS (Ya s (ZX M) (U (S,R,((lcp (cds i) (cds l):Nat):Int),)))))=H7 at M7 b7 ⊢;refine(_,rfl,_,rfl,F,_,_,_,rfl,rfl,ā (b7 _ _ J CD F0),c1,wf,λt8 uh=>?_);have wn:Win Ğ M (U wi):=by
   rcases hw with⟨Y,rfl,_⟩|⟨Y,rfl,_⟩
   ·exact(ÇP B u G D Y).perm Z
   ·exact(ÊC B u G D ((ÇO i6).resolve_left Y)).perm Z
  refine q (.ref t8) (U (wi,ÂP,)) _ 1 ((lcp (cds i) (cds l):Nat)-(lcp (cds i) z:Nat)+1) _ #[r7,t8,Zb] (wn,λp hp=>?_) (λa b x' y' wa wb rP rQ=>?_,λiG=>?_) Ù3 (λC k0 q0 g=>.eq g B u G D ef) ((M7.same (Zi uh _)).cast rfl rfl) (λb o r n1 n2=>Zi uh _ _ _ (b7 b o r n1 n2))
  ·cases hp;rcases hw with⟨Y,rfl,_⟩|⟨Y,rfl,_⟩
   ·exact(_,G,rfl)
   ·exact(_,D,by simp only;rw[ef])
  ·rw[13];refine(S,R,by rw[Wl,È rfl],?_);rcases hw with⟨Y,_,rfl⟩|⟨Y,_,rfl⟩
   ·exact .inl (Y,rfl)
   ·exact .inr ((ÇO i6).resolve_left Y,rfl)
  ·rcases iG with z|z
   ·rw[ia,B]
   ·rw[ia,u]
 have F1:lcp (cds i) z≠lcp (cds l) z:=λe=>d (đ (by rw[e]));rw[gg,N,ÍZ,Ng,Jj];have M2:=Mg.obj (nb':=nb) (li':=li+1) (lo':=lo') (ÅV:=aG) (dx:=dx);have k2:∀b o,H b=U o->b≠m->(upd H m (.ins ak dx (mgF rd nb (li+1) lo' I aG))) b=U o:=λb o r n=>by rw[Zf n];exact r
 have CD:F≠m:=λz=>by rw[z,N]at J;cases J
 have ntt:t≠m:=λz=>by rw[z,N]at cW;cases cW
 have CC:tm≠m:=λz=>by rw[z,N]at mS;cases mS
 generalize upd H m (.ins ak dx (mgF rd nb (li+1) lo' I aG))=H2 at M2 k2 ⊢;have wv:=k2 _ _ J CD;have ki:=k2 _ _ cW ntt;refine(_,rfl,F,_,_,_,rfl,rfl,ā wv,c1,_,rfl,t,_,_,_,rfl,rfl,ā ki,d1,_,_,rfl,rfl,_,rfl,Y1 (λg=>?_) (λg=>?_))
 ·have hgt:lcp (cds l) z<lcp (cds i) z:=by have:Ç3<ÂP:=Ī g;lia
  obtain bt|el:=IN (a:=O.n) (b:=eb.n) hgt (gJ _ wt _ D);refine(_,rfl,q (.ref F) (U (O.n,ÂP,)) s 1 0 H2 #[r7,F,wv] ((ÇP B u G D bt).perm Z,λp hp=>by cases hp;exact(_,G,rfl)) (λa b x' y' wa wb rP rQ=>?_,λiG=>?_) ÄM (λC k0 q0 g=>by rw[Qan];exact .ne g B u G D F1) (M2.cast rfl Á) (λb o r n1 _=>k2 b o r n1))
  ·rw[13];exact(t,_,by rw[el];exact W,.inl (bt,rfl))
  ·rcases iG with z|z
   ·rw[ia,B]
   ·rw[ia,u]
 ·have bo:lcp (cds i) z<lcp (cds l) z:=by have:¬ Ç3<ÂP:=λe=>g (đ e);lia
  obtain bt|el:=IN (a:=eb.n) (b:=O.n) bo (gJ _ FY _ G);rw[nF];have F3:#[h9,H2]:=k2 _ _ tq CC;refine(_,rfl,_,rfl,m,ak,jW,_,_,rfl,dU,ã,ÅY,Tl ..,_,rfl,I,_,rfl,Xv.t (k:=ÊT) M2.stays F3 fo,?_);rw[show õ F=stV (U (F,O.n,ÂP,)) from rfl,RT];have cH:(Ya s (ZX M) (U (F,O.n,ÂP,))).length<=200:=by rw[MV W];exact CB
  have M3:=M2.put (k:=ZX M) (v:=U (F,O.n,ÂP,)) (λt X=>by injection X with X;rw[<- X];exact wv) cH;refine(_,rfl,q Ág (U (eb.n,Ç3,)) _ 1 0 _ #[r7,t,?_] ((ÊC B u G D bt).perm Z,λp hp=>by cases hp;exact(_,D,rfl)) (λa b x' y' wa wb rP rQ=>?_,λiG=>?_) Ù3 (λC k0 q0 g=>by rw[Qan];exact .ne g B u G D F1) (M3.cast rfl Á) (λb o r n1 n2=>by rw[Zf n2];exact k2 b o r n1))
  ·rw[rD,Zf,z,M2.stays,ki]
  ·rw[13];exact(F,_,by rw[Wl,È rfl,Vj (cds i) (cds l),el],.inr (bt,rfl))
  ·rcases iG with z|z
   ·rw[ia,B]
   ·rw[ia,u]
def WU(n:Int)(e:Zz):Zz:=if e.n=n then (e.n,e.p,e.k,e.f,Ö,e.g+1) else e
def ÀE(L:ó)(n:Int):À Zz:=ĥ (WU n)
theorem Va(n:Int)(e:Zz):(WU n e).n=e.n/\(WU n e).p=e.p/\(WU n e).k=e.k/\(WU n e).f=e.f/\(WU n e).ss=Ö:=by unfold WU;split<;>exact Îk
theorem RK{n:Int}{e:Zz}(h:e.n=n):WU n e=(e.n,e.p,e.k,e.f,Ö,e.g+1):=È h
theorem MU{n:Int}{e:Zz}(h:¬ e.n=n):WU n e=e:=Æ h
theorem Ux(L:ó)(n:Int):ZC Ç5=ZC L:=by unfold ZC ÀE;rw[Qo];exact QJ λe _=>(Va n e).1
theorem ZrV(L:ó)(n:Int):(Ç5).map (·.p)=ĥ (·.p):=by unfold ÀE;rw[Qo];exact QJ λe _=>(Va n e).2.1
theorem ZrB(L:ó)(n:Int):kvM Ç5=kvM L:=by unfold kvM ÀE;rw[Qo];refine QJ λe _=>?_;simp only[Îl];rw[(Va n e).1,(Va n e).2.1]
theorem ZrM{m rd sd:aa}{L:ó}{n:Int}{b:aa}(h:Fp m rd sd Ç5 b):Fp m rd sd L b:=by
 rcases h with h|h|h|⟨e',a,h⟩
 ·exact .inl h
 ·exact .inr (.inl h)
 ·exact .inr #[r6,h]
 ·rw[d9,e,c,a];obtain _|d|f|g|_:=Va n e;rw[d,f,g]at h;exact .inr (.inr (.inr (e,c,h)))
theorem Fp_bump'{m rd sd:aa}{L:ó}{n:Int}{b:aa}(h:Fp m rd sd L b):Fp m rd sd Ç5 b:=by
 rcases h with h|h|h|⟨e,a,h⟩
 ·exact .inl h
 ·exact .inr (.inl h)
 ·exact .inr #[r6,h]
 ·obtain _|c|d|f|_:=Va n e;refine .inr (.inr (.inr (WU n e,Qg a,?_)));rw[c,d,f];exact h
theorem IC{n b:Int}(h:b≠n):∀L:À Zz,hdM Ç5 b=hdM L b
 | []=>rfl
 | e::L=>by
  have ih:=IC h L;unfold hdM hdL ÀE at ih ⊢;rw[Ql,Ql,Ql,QaA,QaA];have c:(toL (WU n e)).1=e.n:=(Va n e).1;rw[c];by_cases a:e.n=b
  ·rw[đ a,đ (show (toL e).1=b from a),MU (λz=>h (a.symm.trans z))]
  ·rw[Ń a,Ń (show ¬ (toL e).1=b from a)];exact ih
theorem IB{L:ó}(nd:ÊI){e:Zz}(he:e∈L):hdM Ç6 e.n=(Ö[e.g+1]?).map cds:=by have a:WU e.n e∈ÀE L e.n:=Qg he;rw[RK rfl]at a;exact Vd (L:=ÀE L e.n) #[ed,Ux,nd] a
theorem MT(k f:aa)(g:Int):YS k f g=Ù4:=by unfold YS;rw[W4,Zx nFK,W4,Zx nGK,Zx nGF,W4]
theorem Zix(k f:aa)(g v:Int):Zw "gone" (.int v) ÍN=YS k f v:=by rw[MT,MT,Zx nGK,Zx nGF,VI]
theorem MR(k f:aa)(g:Int):(ÍN).length<1000:=by rw[MT];show 3<1000;decide
theorem ZoJ(k f:aa)(g:Int):(ÍN).lookup ("fars" : ah)=U ą:=by unfold YS;rw[Zr,Æ nGF,Zr,È rfl]
theorem IA{L:ó}(pd:#[yq].Nodup){e e':Zz}(he:e∈L)(a:e'∈L)(h:e.p=e'.p):e=e':=by
 have b:((ĥ λx=>(x.p,x,)).map ù).Nodup:=by rw[Qo];exact pd
 have:=Yh b #[st,x.p,he] #[st,x.p,a] h;rw[xL]
theorem ZO.bump{b i:aa}{H:Hp}{m rd sd:aa}{L:ó}{s:StL}{nb li lo:Int}{j:V}(M:#[fq,b,i,j]){e:Zz}(he:e∈L)(o:e.g<Ŝ){dp:aa} :
  ZO b i (upd H e.p (.ins b dp (YS e.k e.f #[fO,e.g]))) m rd sd (My.bump L e.n) s nb li lo j:=by
 rw[gJ,p,q];obtain dq|c:=Óf;obtain r|_|_:=M.ne_p he;obtain d|_|_|u|_|_:=Ç0 he;refine((p,by rw[Zf r];exact q),by rw[Zf u,ZrB];exact ŏ,by rw[Zf d];exact ÇY,λx a t v=>?_,λe' w=>?_,by rw[Ux];exact M.up,by rw[ZrV];exact M.pd,by unfold My.bump;rw[Qa];exact Âg,M.sfew)
 ·have:=M.ats x a t v;rw[eY,c]
 ·rw[d9,x,a,w];have R:=ÀW x a;have g:∀ {y:Zz},y∈L->y.k≠e.p/\y.f≠e.p:=λ{y} A=>by have k:=ÀW y A;exact((λz=>by have:=k.at'.ks;rw[z,c]at this;cases this),(λz=>by have:=k.at'.fs;rw[z,c]at this;cases this))
  obtain l|n:=g a;by_cases h:x.n=e.n
  ·have ex:x=e:=by
    have d:((ĥ λx=>(x.n,x,)).map ù).Nodup:=by rw[Qo];exact ű
    have:=Yh d #[st,x.n,a] #[st,x.n,he] h;rw[xL]
   subst ex;rw[RK rfl];exact(((dp,Zb),by show (upd H x.p _) x.k=_;rw[Zf l];exact R.at'.ks,by show (upd H x.p _) x.f=_;rw[Zf n];exact R.at'.fs),o,R.len,R.srt,R.str)
  ·rw[MU h];exact R.keep (Zf (λz=>h (by rw[IA M.pd a he z]))) (Zf l) (Zf n)
theorem Zvs{L:ó}{e:Zz}{x:ah}(nd:ÊI)(up:Yj Ű)(he:e∈L)(hx:Ö[e.g]? = U x)(srt:#[sQ,Ö])(W:Ù5):Tk Ğ ÃA Ű e.n þ:=by
 refine(W,by rw[Vd nd he,hx];rfl,λb d=>IC d L,λy a=>?_,up);rw[IB nd he]at a;cases c:Ö[e.g+1]? with
 | none=>rw[c]at a;cases a
 | some f=>rw[c]at a;cases a;exact Jt srt e.g x f hx c
theorem MQ{c:Ñ}{b d:VK->Prop}{Q:VK}(P:V->Hp->Prop)(h1:c=true->∀a:VK,(∀v H,P v H->a v H)->b a)(h2:c=false->∀a:VK,(∀v H,P v H->a v H)->d a)(q:∀v H,P v H->Q v H):if c=true then b Q else d Q:=by
 cases c with
 | true=>rw[È rfl];exact h1 rfl Q q
 | false=>rw[Æ Ì];exact h2 rfl Q q
def Uw(n:Int)(C:#[hf,Int]):À ÊQ:=Å0 λX=>(Y8 X n,Y5 X n,)
theorem Zla(rd:aa)(nb li lo:Int)(sd:aa)(a:V):#[11].lookup ("play_again" : ah)=af:=Àm
def Iz(a c:aa):Sp:=λvs H Q _=>X11 λ(m rd sd:aa) (L:À Zz) (s:StL) (nb li lo:Int) (f:V) (e:Zz) (x:ah)=>C7 #[gs,m,e.n] #[eI,a,c,f] (e∈L) (Ö[e.g]? = U x) (Win Ğ Ű (U e.n)) Îm (∀ (s':StL) (d:Ã Int) (k q:Int) (H':Hp),ZO a c H' m rd sd Ç6 s' nb (li+k) (lo+q) (Yx d)->Win ÃA Ű d->Z5 ÃA s' Ű->Ag ÃA þ (Uw e.n În) k q->Óg->Q .non H')
theorem Zr0(T:Õ)(aW:ÇW)(gr:#[ef,3,"matches_up",ÄA,IF])(dI:Mf P w K mg Â 4 ak "play_again" Íp (IE au ak)):Mf P w K mg Â 5 ak "send_out" Ío (Iz au ak):=by
 rw[iN,T.t_Merge_send_out.mf,TM];obtain m|O|G|L|s|nb|li|lo'|aG|e|x|rfl|M|S|hx|W|ok|q:=h;refine(_,#[Zc,#[Zu,2,TM.nd,â,#[ih,hr,1]],#[Zc,#[Vz,‹2›,Ü,Ub],#[Zc,#[Zu,3,TM.nd,â,#[ZY,#[Zk,Xc,#[sP,aW,hr,2],ţ,ú],ţ,#[Yq,#[Zd,‹1›,#[ZF,Àj,#[ZE,‹2›],#[ZE,‹2›]]]]]],#[Zc,#[XR,Γ,#[iL,K,#[Zy,gr,hr,#[Zd,ÙK,‹1›],Í]],#[rx,4,TM.nd],#[Zg,#[Zu,3,TM.nd,â,#[Xu,dI,ã,hr,‹0›,#[ex,4,3]]]]],#[Zg,#[XQ,‹0›,#[ZY,#[g0,3],ţ,Îj]]]]]]],?_);rw[uw];rw[sz,R,S,dp,hp,ÊJ];have hg:e.g<Ŝ:=(Į hx).1;have tk:=Zvs ű M.up S hx R.srt W;refine(_,rfl,m,ak,dx,_,_,rfl,hm,ã,ũ,Z8 ..,_,rfl,O,_,rfl,ŉ (k:=ÅX) ŏ (Wj ű S),_,rfl,e.p,au,dp,_,_,rfl,hp,Ŏ,ÇN,Tr ..,_,_,rfl,rfl,dp,_,hp,MR ..,?_);rw[Zix,show ((e.g:Int)+1)=#[fO,e.g] by lia];have M1:=M.bump S hg (dp:=dp);rw[eS,qA,H,e.p,Ù6];have k1:#[ro,H,e.p,H,Ù6]:=λb o B n=>by rw[Zf n];exact B
 generalize upd H e.p (.ins au dp (YS e.k e.f ((e.g+1:Nat):Int)))=H1 at M1 qA k1 ⊢;have gP:((e.n,e.p,e.k,e.f,Ö,e.g+1):Zz)∈ÀE L e.n:=by have:WU e.n e∈ÀE L e.n:=Qg S;rwa [RK rfl]at this
 have R1:=Í2 _ gP;have fL:∀ {C:Hp},#[e0,H1,G,C]->∀b o,H b=U o->¬ Fp m O G L b->C b=U o:=λ{C} k b o B nf =>
  k b o (k1 b o B λz=>nf #[fZ,e,S]) #[gE,nf] (λz=>nf (.inr Âh))
 have iO:e.n∈ZC L:=W.1;have qr:(Ű).length<=60:=by unfold ZC;rw[Qa];exact Âg
 have yR:(Ű).length<=2 ^ 8:=Qk qr Ì;obtain CA|AM|FS:=MZ 8 Ű e.n iO yR;have CF:hdM Ç6 e.n=(Ö[e.g+1]?).map cds:=IB ű S;have kq:∀ (c:Com),(c=af/\Ö[e.g+1]? = af)\/(∃y,Ö[e.g+1]? = U y/\c=U (e.n,Îo,))->Te ÃA þ [e.n] c:=λc hc=>by
  have hw:=ÍQ (hd:=hdM Ç6) (n:=e.n);rcases hc with⟨rfl,hn⟩|⟨y,u,rfl⟩
  ·rw[CF,hn]at hw;exact(hw,λp hp=>by cases hp)
  ·rw[CF,u]at hw;exact(hw,λp hp=>by cases hp;exact(cds y,by rw[CF,u];rfl,rfl))
 refine(_,rfl,e.p,dp,_,rfl,qA,Vc ..,e.p,e.k,e.f,Ö,e.g+1,rfl,R1.at',rfl,_,rfl,?_);rw[IY];refine MQ (λv C=>ZB H1 C/\∃c,CV C v c/\Te ÃA þ [e.n] c) #[iw,d,Q',Z] #[iw,d,Q',Z] (λv C ⟨s2,c,yU,hok⟩=>?_)
 ·have hn:Ö[e.g+1]? = af:=by
   have:=Ãu;cases u:Ö[e.g+1]? with
   | none=>rfl
   | some y=>rw[u]at this;cases this
  exact Z _ _ (ÂC _,af,.inl ć,kq af (.inl (rfl,hn)))
 ·obtain⟨y,u⟩:∃y,Ö[e.g+1]? = U y:=by
   cases u:Ö[e.g+1]? with
   | none=>rw[u]at d;exact Ç rfl (ÇE d)
   | some y=>exact(y,rfl)
  have hyl:e.g+1<Ŝ:=(Į u).1;have hal:WV Ö (e.g+1)=Îo:=by unfold WV;rw[Æ Á,QaL,QM,QM,hx,u,Vj];rfl
  have cW:atI ((ÂE Ŝ).map λj=>í (WV Ö j)) #[fO,e.g]=U (.int Îo):=Ye (by rw[Qr,List.getElem?_range hyl,<- hal];rfl);refine(_,rfl,_,rfl,e.p,au,dp,_,_,rfl,qA,Ŏ,ÒO,ZoJ ..,_,rfl,e.p,au,dp,_,_,rfl,qA,Ŏ,ÇN,Tr ..,e.f,_,_,_,rfl,rfl,É R1.at'.fs,cW,Ây,λtc jZ=>?_);exact Z _ _ (Zi jZ _,U (e.n,Îo,),.inr (tc,_,rfl,rfl,Zb),kq _ (.inr (y,u,rfl)))
 have M2:=M1.same s2;rw[nF];refine(_,rfl,m,ak,jW,_,_,rfl,dU,ã,ũ,Z8 ..,O,_,rfl,M2.rows,λl hl=>?_);rw[Jd,Ux];have s3:=s2.trans (Zi hl ÊN);rw[eS,fY,C,l,ÊN];have AO:CV (upd C l ÊN) v c:=yU.keep λt xs ht=>Zi hl _ _ _ ht;generalize upd C l (.lst ((ZC L).map í))=H3 at s3 fY AO ⊢;refine(_,rfl,l,ZC L,e.n,rfl,fY,iO,qr,M.up,λr ts H4 dB vP pA cq s4=>?_);have kC:=s3.trans s4;have M4:=M1.same kC;have F4:CV H4 v c:=AO.keep λt xs ht=>s4 _ _ ht;refine(r,rfl,#[rB,vP],?_);rw[el,dm4,wc,M4.ob];rw[el,dm1,fm,M1.ob];have wg:r≠m:=(Ze (s3 _ _ fm) dB).symm;have FJ:r≠G:=(Ze (s3 _ _ M1.stays) dB).symm;refine Rq (K:=K) (a:=r) (xs:=ts.map õ) (λi σ I=>X6 λ(v':V) (c':Com) (J:StL) (k q':Int) (v4:Ã V)=>σ=[U ÅZ,U (.int e.n),U (.ref e.p),U v',v4]/\i<=Óh/\CV I v' c'/\Te ÃA þ Ói c'/\ZO au ak I m O G Ç6 J nb (li+k) (lo'+q') aG/\Z5 ÃA J Ói/\(∀j,¬ Kys Ói j->Z3 J j=Z3 s j)/\Ag ÃA þ (Uw e.n ((În).take i)) k q'/\#[e0,H4,G,I]) ?_ (λi σ I _ Z=>by obtain _|_|_|_|_|_|_|_|_|_|_|_|_|_|k5:=Z;exact É (k5 _ _ vP wg FJ)) ?_ ?_
 ·refine(v,c,s,0,0,_,rfl,Qt _,F4,hok,M4.cast Á Á,λX F h2=>?_,λ_ _=>rfl,.nil,λb o h _ _=>h);have:=M0 F;rcases this with rfl|⟨g,_⟩
  ·exact Ç h2 Ù7
  ·exact Ç g Ù7
 ·rintro i y σ I u ⟨v',c',J,k,q',v4,rfl,hi,ww,jp,M5,wx,i7,ag,k5⟩;rw[Qr]at u;cases hz:ts[i]? with
  | none=>rw[hz]at u;cases u
  | some t =>
  rw[eh,hz,u,bM,Óh];cases F:(Z6 8 (ZC L) e.n)[i]? with
  | none=>rw[Qa2]at F;lia
  | some X =>
  obtain x1|D|x3|x4:=CA i X F;have fZ:=x1.rise M.up;have e3:low e.n În (i+1)=X:=by show (Z6 8 Ű e.n).getD i []=X;rw[QM,F];rfl
  have Cr:I t=U #[gK,X]:=k5 _ _ (cq i t X hz F) (λz=>by have:=cq i t X hz F;rw[z,wc]at this;cases this) (λz=>by have:=cq i t X hz F;rw[z,M4.stays]at this;cases this);rw[el,wz,kB,M5.ob];rw[<- x4]at jp wx i7;have was:=Zqq tk x1 D x3 ok;have jo:Z3 J (ZX X)=Z3 s (ZX X):=i7 _ λz=>(IR fZ D z).1 rfl;refine(_,rfl,m,wz,_,rfl,kB,Zla ..,_,rfl,_,rfl,m,O,G,ÀE L e.n,J,nb,_,_,aG,t,v',c',cds x,X,e.n,rfl,M5,Cr,ww,jp,?_,λb B y u=>tk.ge (x1.mem B) u,fZ,λb B=>by rw[Ux];exact x1.mem B,D,x3,λv6 c6 s6 k6 q6 H6 F5 F6 F7 rV F8 M6 k6'=>?_)
  ·rw[jo];rcases was with w|⟨t',b,y,w1,w2,_,w4⟩
   ·exact .inl w
   ·exact .inr (t',b,y,w1,w2,w4)
  ·refine(v6,c6,s6,k+k6,q'+q6,_,rfl,bM,F5,by rw[e3];exact F6,M6.cast Á Á,?_,λj N=>?_,?_,λb o B n1 n2=>k6' b o (k5 b o B n1 n2) n1 n2)
   ·rw[e3];refine Zn1 (n:=e.n) (wx.congr ÄM λj N=>rV j (IR fZ D N).1) ?_ F7;have iG:=Nb fZ (Tg x3);have so:Sub X (Y5 X e.n):=by unfold Y5;split;exact Sub.top.up D;exact Sub.top.lo D
    refine(ok.sub (x1.trans so)).congr (λb B=>tk.oth b λz=>iG (z ▸ B)) λj N=>?_;rw[rV j (IQ fZ D N).1,i7 j (IQ fZ D N).2]
   ·rw[e3]at N;rw[rV j (λz=>N (X,.top,D,z)),i7 j (λZ=>by obtain Y|y1|y2|y3:=Z;exact N (Y,(IU D e.n).trans y1,y2,y3))]
   ·have:=F8 _ _ _ ag;unfold Uw at this ⊢;rw[QH,F,Qf];exact this
 ·rintro σ I ⟨v',c',J,k,q',v4,rfl,_,ww,jp,M5,wx,i7,ag,k5⟩;rw[Qa,pA,AM]at jp wx;rw[Qa,pA,Qz î]at ag;rw[el,wz,kB,M5.ob];have fin:∀w':Ã Int,w'=c'.map ù->Q .non (upd I m (.ins ak wz (mgF O nb (li+k) (lo'+q') G (Yx w')))):=λw' ew=>by subst ew;refine q J _ k q' _ M5.obj jp.1 wx ag λb o B nf=>?_;rw[Zf #[gE,nf]];exact fL (λb o B n1 n2=>k5 b o (kC b o B) n1 n2) b o B nf
  rcases ww with⟨rfl,rfl⟩|⟨t,p,rfl,rfl,ht⟩
  ·refine Óe;rw[fT,wz,kB];exact fin af rfl
  ·rw[a9];refine(_,rfl,t,_,_,_,rfl,rfl,ā ht,(show atI [í p.1,í p.2] 0=U (.int p.1) from Ye (j:=0) rfl),_,rfl,m,ak,wz,_,rfl,kB,ã,ÂO,V4 ..,?_);rw[RP];exact fin (U p.1) rfl
def RJ(L:ó)(w:Β)(x:V)(a:ó)(k q:Int)(H':Hp):Prop :=
 (w=af/\x=.non/\a=L/\k=0/\q=0)\/X3 λ(e:Zz) (t:aa) (z:ah)=>e∈L/\w=U e.n/\x=.ref t/\Ö[e.g]? = U z/\H' t=U #[fv,e.n,e.g,z]/\a=ÀE L e.n/\Ag (hdM a) (cds z) (Uw e.n În) k q
theorem Zl9(rd:aa)(nb li lo:Int)(sd:aa)(a:V):#[11].lookup ("send_out" : ah)=af:=Àm
theorem ZmR(rd:aa)(nb li lo:Int)(sd:aa)(a:V):#[11].lookup ("take" : ah)=af:=Àm
def Iy(c d:aa):Sp:=λvs H Q _=>X9 λ(m rd sd:aa) (L:À Zz) (s:StL) (nb li lo:Int) (w:Ã Int)=>C5 #[ff,m] #[gX,c,d] Í9 Îm (∀ (x:V) (a:À Zz) (s':StL) (e:Ã Int) (k q:Int) (H':Hp),RJ L w x a k q H'->ZO c d H' m rd sd a s' nb (li+k) (lo+q) (Yx e)->Win (hdM a) (ZC a) e->Z5 (hdM a) s' (ZC a)->Óg->Q x H')
theorem ZsD(T:Õ)(J:Ù8)(N:Mf P w K mg Â 5 ak "send_out" Ío (Iz au ak)):Mf P w K mg Â 6 ak "take" ð (Iy au ak):=by
 rw[d2,T.t_Merge_take.mf,JW,O,v];obtain m|d|g|L|s|i|j|c|w|rfl|M|W|ok|q:=h;refine(_,#[Zc,#[Zu,1,JW.nd,â,#[gI,J,v]],#[Zc,#[ZK,#[ec,SW,1,ţ],#[Zg,#[ZL,#[Xu,N,ã,v,‹0›,#[Zd,Ĥ]]]],ë],#[fg,1]]],?_);rw[gJ,S,V];refine(_,rfl,m,S,_,rfl,V,IV ..,m,d,g,L,s,i,j,c,w,rfl,M,W,λx X Y l=>?_);have M1:=Ãw l;rcases Y with⟨rfl,hw⟩|⟨t,e',z,rfl,Z,B,C,hw⟩
 ·have n:Win Ğ Ű af:=by rw[UA]at hw;exact hw
  have p:=W.one n;subst p;exact(_,rfl,rfl,_,rfl,WF rfl (_,rfl,q .non L s af 0 0 X (.inl Îk) (M1.cast Á Á) W ok (λb o r _=>l b o r)))
 ·rw[d9,e,D,Z];have n:Ù5:=by rw[UA]at hw;exact hw
  have p:=W.one n;subst p;rw[el,F,u,M1.ob];refine(_,rfl,rfl,_,rfl,RW τ ?_);refine(_,rfl,m,F,_,rfl,u,Zl9 ..,_,rfl,m,ak,F,_,_,rfl,u,ã,ÂO,Tj ..,m,d,g,L,s,i,j,c,_,e,z,rfl,M1,D,B,W,ok,λs' w' k q' G M2 W2 yW ag I=>?_);have cL:G t=U #[fv,e.n,e.g,z]:=I _ _ C λhf=>by
   have a:=C;rcases hf with h|h|h|⟨y,hy,h⟩
   ·rw[eM,h,u,a]
   ·rw[eM,h,ÊL,a]
   ·rw[eM,h,M1.stays,a]
   ·have R:=(Í2 y hy).at';rw[el,dy,qx,R.ob];rcases h with h|h|h
    ·rw[eM,h,qx,a]
    ·rw[eM,h,R.ks,a]
    ·rw[eM,h,R.fs,a]
  exact(_,rfl,q Ág Ç6 s' w' k q' G (.inr (e,t,z,D,rfl,rfl,B,cL,rfl,ag)) M2 #[ed,Ux,W2] #[ed,Ux,yW] (λb o r nf=>I b o (l b o r) nf))
abbrev ZG:=Int×À ah×Nat
def ZQ(L:ó):À ZG:=ĥ λe=>(e.n,(Ö,e.g,),)
def hdP(P:ý):Hd:=hdL (Àx λx=>(x.1,0,x.2,))
def Z1(P:ý):À Int:=Àx ù
def WA(n:Int)(x:ZG):ZG:=if x.1=n then (x.1,x.2.1,x.2.2+1,) else x
def Xp(P:ý)(n:Int):À ZG:=Àx (WA n)
theorem V2(L:ó):hdM L=hdP (ZQ L):=IW _ _ (by unfold ZQ;rw[Qo,Qo,Qo];rfl)
theorem XD(L:ó):ZC L=Z1 (ZQ L):=by unfold Z1 ZQ ZC;rw[Qo];rfl
theorem Ix(L:ó)(n:Int):ZQ Ç5=Xp (ZQ L) n:=by
 unfold ZQ ÀE Xp;rw[Qo,Qo];refine QJ λe _=>?_;rw[70];unfold WA;by_cases h:e.n=n
 ·rw[RK h,È h]
 ·rw[MU h,Æ h]
theorem Iw(P:ý)(n:Int):Z1 (Xp P n)=Z1 P:=by unfold Z1 Xp;rw[Qo];refine QJ λx _=>?_;simp only[Îl];unfold WA;split<;>rfl
theorem MP{P:ý}(nd:ÂQ){x:ZG}(h:x∈P):hdP P x.1=(x.2.1[x.2.2]?).map cds :=
 NC (L:=Àx λx:ZG=>((x.1,0,x.2,):X1)) (e:=(x.1,0,x.2,)) Îp (Qg (f:=λx:ZG=>((x.1,0,x.2,):X1)) h)
def Uv(P:ý)(x:ZG)(z:ah)(k q:Int):Prop:=x∈P/\x.2.1[x.2.2]? = U z/\Win (hdP P) (Z1 P) (U x.1)/\Ag (hdP (Xp P x.1)) (cds z) (Uw x.1 (Z6 8 (Z1 P) x.1)) k q
abbrev YO:=Int×Nat×ah
inductive YL (P:ý):À YO->À ZG->Int->Int->Prop
 | nil:YL P [] P 0 0
 | ė {ts:À YO} {P1:À ZG} {x:ZG} {z:ah} {k q k1 q1:Int}:YL P ts P1 k q->Uv P1 x z k1 q1->YL P (ts++[(x.1,x.2.2,z,)]) (Xp P1 x.1) (k+k1) (q+q1)
inductive XU:À ZG->Int->Int->Prop
 | stop {P:À ZG}:Win (hdP P) (Z1 P) af->XU P 0 0
 | go {P:À ZG} {x:ZG} {z:ah} {k q k1 q1:Int}:Uv P x z k1 q1->XU (Xp P x.1) k q->XU P (k1+k) (q1+q)
theorem Uv.one{P:ý}(nd:ÂQ){x y:ZG}{z u:ah}{k q k' a:Int}(h:Uv P x z k q)(g:Uv P y u k' a):x=y/\z=u/\k=k'/\q=a:=by obtain b|c|d|e:=h;obtain f|i|j|l:=g;have m:=Qu (d.one j);have n:=Yh nd b f m;subst n;have o:=Qu (c.symm.trans i);subst o;exact(rfl,rfl,e.one l)
theorem YL.num{P a:ý}{b:Àn}{k q:Int}(h:Îq):Z1 a=Z1 P:=by
 induction h with
 | nil=>rfl
 | ė _ _ c=>rw[Iw,c]
def YG(P:ý):Nat:=(Àx λx=>x.2.1.length-x.2.2).sum
theorem RI:∀ (P:À ZG),(Z1 P).Nodup->∀ {x:ZG},x∈P->x.2.2<x.2.1.length->YG (Xp P x.1)+1=YG P
 | [],_,_,h,_=>by cases h
 | y::P,nd,x,h,a=>by
  unfold Z1 at nd;rw[Ql,Q9]at nd;unfold YG Xp;rw[Ql,Ql,Ql,QR,QR];rcases ħ h with rfl|h
  ·have e:Àx (WA x.1)=P:=by
    conv=>rhs;rw[<- List.map_id P]
    refine QJ λu b=>?_;unfold WA;rw[Æ (λz:u.1=x.1=>nd.1 (z ▸ Qg (f:=Å1) b))];rfl
   rw[e];unfold WA;rw[p8];show x.2.1.length-(x.2.2+1)+_+1=_;lia
  ·have c:=RI P nd.2 h a;unfold YG Xp at c;have e:WA x.1 y=y:=Æ (λz:y.1=x.1=>nd.1 (z ▸ Qg (f:=Å1) h));rw[e];lia
theorem YL.left{P a:ý}{b:Àn}{k q:Int}(h:Îq)(nd:ÂQ):YG a+Œ=YG P:=by
 induction h with
 | nil=>rfl
 | ė h s ih=>have:=Ù9;rw[Qd,Qx];lia
theorem Zo3{L a:ó}{w:Β}{x:V}{k q:Int}{H:Hp}(W:Win Ğ Ű w)(h:RJ L w x a k q H):(Win (hdP (ZQ L)) (Z1 (ZQ L)) af/\x=.non/\a=L/\k=0/\q=0)\/X3 λ(y:ZG) (z:ah) (t:aa)=>Uv (ZQ L) y z k q/\ZQ a=Xp (ZQ L) y.1/\x=.ref t/\H t=U #[fv,y.1,y.2.2,z]:=by
 rw[V2,XD]at W;rcases h with⟨rfl,c,d,g,i⟩|⟨e,t,z,j,rfl,rfl,l,m,rfl,b⟩
 ·exact .inl (W,c,d,g,i)
 ·refine .inr (ÂR,z,t,(Qg (f:=Ç7) j,l,W,?_),Ix L e.n,rfl,m);rw[V2,Ix,XD]at b;exact b
def Iv(K:Å)(d e:aa):Sp:=λvs H Q _=>X10 λ(m rd sd:aa) (L:À Zz) (s:StL) (nb li lo:Int) (w:Ã Int) (ÀF:Int)=>C6 #[gs,m,ÀF] #[gX,d,e] Í9 Îm (YG (ZQ L)<=100000) (∀ (r:aa) (us:À (aa×YO)) (a:À Zz) (s':StL) (c:Ã Int) (k q:Int) (H':Hp),H r=af->H' r=U #[hS,us.map,u,u.1]->(∀u∈us,H' u.1=U Úa)->YL (ZQ L) (us.map ě) (ZQ a) k q->((Φ:Int)<ÀF->c=af)->(us≠[]->(Φ:Int)<=ÀF)->ZO d e H' m rd sd a s' nb (li+k) (lo+q) (Yx c)->Win (hdM a) (ZC a) c->Z5 (hdM a) s' (ZC a)->(∀b,Fp m rd sd a b↔Fp m rd sd L b)->Óg->Q ÀU H')
theorem RJ.fp{L a:ó}{w:Β}{x:V}{k q:Int}{H:Hp}(h:RJ L w x a k q H){m rd sd b:aa}:Fp m rd sd a b↔Fp m rd sd L b:=by
 rcases h with⟨_,_,rfl,_⟩|⟨e,t,z,_,_,_,_,_,rfl,_⟩
 ·exact Iff.rfl
 ·exact(ZrM,Fp_bump')
theorem ZO.fp_live{a c:aa}{H:Hp}{m rd sd:aa}{L:ó}{s:StL}{nb li lo:Int}{d:V}(M:#[fq,a,c,d]){b:aa}(h:Fp m rd sd L b):∃o,H b=U o/\∀xs,o≠.tup xs:=by
 rcases h with rfl|rfl|rfl|⟨e,f,h⟩
 ·rw[gJ,g,hd];rw[fm,hd,xs,z]
 ·rw[fm,ŏ,xs,z]
 ·rw[fm,ÇY,xs,z]
 ·have R:=(ÀW e f).at';rw[el,g,hd,R.ob];rcases h with rfl|rfl|rfl
  ·rw[fm,hd,xs,z]
  ·rw[fm,R.ks,xs,z]
  ·rw[fm,R.fs,xs,z]
theorem ZO.fp_fresh{c d:aa}{H:Hp}{m rd sd:aa}{L:ó}{s:StL}{nb li lo:Int}{e:V}(M:#[fq,c,d,e]){b:aa}(h:H b=af):¬ Fp m rd sd L b:=λz=>by obtain o|a|_:=M.fp_live z;rw[h]at a;cases a
theorem ZO.fp_tup{c d:aa}{H:Hp}{m rd sd:aa}{L:ó}{s:StL}{nb li lo:Int}{e:V}(M:#[fq,c,d,e]){b:aa}{xs:Ą}(h:H b=U ÁR):¬ Fp m rd sd L b:=λz=>by obtain o|a|f:=M.fp_live z;rw[h]at a;cases a;exact f xs rfl
theorem ZtO(T:Õ)(gt:#[eq,6,"take",ð,Iy]):Mf P w K mg Â 7 ak "take_few" Ím (Iv K au ak):=by
 rw[iN,T.t_Merge_take_few.mf,JV];obtain m|j|l|L|s|F|Z|G|w|ÀF|rfl|M|W|ok|hleft|q:=h;refine(_,#[Zc,#[gB,2,JV.nd],#[Zc,(@Rr _ _ _ _ _ _ Γ (@œ _ _ _ #[Yb,#[Zk,Xl,Îr,‹1›,ú],#[XS,#[Zk,SW,Ĥ,ţ,ú]]]) #[Zg,#[ZL,#[ZZ,K,QC,QD,QE,Z0,‹2›,#[Zd,#[gI,gt,hr]]]]]),Ãt]],?_);have nd:(Z1 (ZQ L)).Nodup:=by rw[<- XD];exact ű
 refine#[rN,r,n];have Cn:=M.fp_fresh n;refine(λmm σ i=>X6 λ(c:À (aa×YO)) (d:À Zz) (s':StL) (w':Ã Int) (k p:Int)=>σ=[U ÅZ,U (.int ÀF),U ÀU]/\i r=U #[hS,š,u,u.1]/\(∀u∈c,u.1≠r/\i u.1=U Úa)/\YL (ZQ L) (š ě) (ZQ d) k p/\(c≠[]->Ç8<=ÀF)/\ZO au ak i m j l d s' F (Z+k) (G+p) (Yx w')/\Win (hdM d) (ZC d) w'/\Z5 (hdM d) s' (ZC d)/\(∀b,Fp m j l d b↔Fp m j l L b)/\(∀b o,H b=U o->¬ Fp m j l L b->i b=U o)/\mm=YG (ZQ d),(_,[],L,s,w,0,0,rfl,Zb,#[es,u,h],.nil,(λh=>Ç rfl h),(Ãw (Zi n _)).cast Á Á,W,ok,λ_=>Iff.rfl,λb o g _=>Zi n _ _ _ g,rfl),?_);rintro mm σ i ⟨c,L1,s1,I,k,p,rfl,C,tK,D,pB,M2,v,yW,B,k2,rfl⟩;have yX:Úb=Ç8:=by rw[Qa]
 have J:=D.left nd;rw[Qa]at J;rw[nF];have done:(Ç8<ÀF->I=af)->Q ÀU i:=λhd=>q r c L1 s1 I k p i n C (λu hu=>(tK u hu).2) D hd pB M2 v yW B k2;refine(_,rfl,r,_,rfl,.inl (É C),_,rfl,_,_,rfl,rfl,_,rfl,Y1 (λN=>?_) (λN=>?_))
 ·have yK:Ç8<ÀF:=by have:=Ī N;lia
  refine(_,rfl,m,ak,jW,_,_,rfl,dU,ã,ÂO,Tj ..,rfl,_,rfl,?_);cases I with
  | none=>exact WF rfl (_,rfl,done λ_=>rfl)
  | some a =>
  refine RW τ ?_;refine ÙZ;refine(_,rfl,.inl #[ew,C],_,rfl,m,jW,_,rfl,dU,ZmR ..,m,j,l,L1,s1,F,_,_,U a,rfl,M2,v,yW,λx L3 s3 w3 k3 q3 H3 O M3 W3 wB R=>?_);have S:H3 r=U #[hS,š,u,u.1]:=R _ _ C (λz=>Cn ((B r).mp z));rcases Zo3 v O with⟨w0,_⟩|⟨y,z,t,X,eL,rfl,Y⟩
  ·rw[V2,XD]at v;exact nomatch w0.one v
  have wC:=RI _ #[ed,D.num,nd] X.1 (Į X.2.1).1;have yS:t≠r:=λe=>by rw[e,S]at Y;cases Y
  refine(r,_,_,rfl,rfl,S,#[sg,Qa,aP],YG (ZQ L3),by rw[eL];lia,c++[(t,(y.1,y.2.2,z,),)],L3,s3,w3,k+k3,p+q3,rfl,by rw[Zb,Qf];rfl,λu hu=>?_,?_,λ_=>by rw[Qd,Qx];lia,?_,W3,wB,λb=>(O.fp).trans (B b),λb o g nf=>?_,rfl)
  ·rcases ß hu with hu|hu
   ·obtain g2|g3:=tK u hu;exact(g2,by rw[Zf g2];exact R _ _ g3 (M2.fp_tup g3))
   ·rw[Ý hu];exact(yS,by rw[Zf yS];exact Y)
  ·rw[Qf,eL];exact .snoc D X
  ·refine ZO.cast (M3.keep λb o g bP=>?_) Á Á;rw[Zf (λe=>?_)]
   ·exact g
   ·subst e;rcases bP with hf|⟨xs,rfl⟩
    ·exact Cn ((B b).mp (O.fp.mp hf))
    ·rw[fL,S,g,g]
  ·rw[Zf (Ze g n)];exact R b o (k2 b o g nf) (λz=>nf ((B b).mp z))
 ·refine Y9 (_,rfl,done λh=>?_);have:¬ (Úb<ÀF):=λz=>N ÅS;lia
structure MS where
 m:aa
 rd:aa
 sd:aa
 L:À Zz
 s:StL
 nb:Int
 li:Int
 lo:Int
 w:Ã Int
structure OS where
 o:aa
 ra:aa
 ga:aa
 Lo:À X1
 nb:Int
def ZwY(Y:OS)(b:aa):Prop:=b=Y.o\/b=Y.ra\/b=Y.ga\/∃e∈Y.Lo,b=e.2.1
def MFp(X:MS)(b:aa):Prop:=Fp X.m Ķ Ż X.L b
structure MOk (cR cM:aa) (H:Hp) (X:MS):Prop where
 M:ZO cR cM H X.m Ķ Ż X.L X.s Ĉ ğ Ġ (Yx X.w)
 W:Win (hdM X.L) Å2 X.w
 ok:Z5 (hdM X.L) X.s Å2
structure Pair (cR cM:aa) (H:Hp) (X:MS) (Y:OS):Prop where
 mg:MOk cR cM H X
 ow:Own H Y.o Y.ra Y.ga Y.Lo Y.nb ğ Ġ
 ag:Agr Y.Lo X.L
 sep:∀b,MFp X b->¬ ZwY Y b
theorem MOk.same{a b:aa}{H H':Hp}{X:MS}(h:MOk a b H X)(s:Àa):MOk a b H' X:=(h.M.same s,h.W,h.ok)
theorem MOk.keep{a c:aa}{H H':Hp}{X:MS}(h:MOk a c H X)(k:∀b o,H b=U o->MFp X b\/ÒW->H' b=U o):MOk a c H' X:=(h.M.keep k,h.W,h.ok)
theorem Zo4{P:ý}(nd:ÂQ)(h:Win (hdP P) (Z1 P) af)(ok:∀x∈P,x.2.2<=x.2.1.length):YG P=0:=by
 unfold YG;have:∀l:À Nat,(∀a∈l,a=0)->l.sum=0:=λl e=>by
  induction l with
  | nil=>rfl
  | Ë b r j=>rw[QR,e b Ó,j λa c=>e a (Qm _ c)]
 refine this _ λa c=>?_;rw[d9,x,g,c];have d:=h x.1 (Qg (f:=Å1) g);rw[MP nd g]at d;cases i:x.2.1[x.2.2]? with
 | none=>rw[Qa2]at i;show x.2.1.length-x.2.2=0;lia
 | some y=>rw[i]at d;cases d
theorem Zr5{a b:aa}{H:Hp}{X:MS}(h:MOk a b H X):(Z1 ÀG).Nodup:=by rw[<- XD];exact h.M.nd
def Iu(K:Å)(a c:aa):Sp:=λvs H Q _=>X11 λ(m rd sd:aa) (L:À Zz) (s:StL) (nb li lo:Int) (f:V) (r:aa) (ss:À ah)=>C9 #[gr,m,r] #[eI,a,c,f] ((∀e∈L,e.n<nb)) (Àg<16) #[sK,r] #[s6,200] ((∀x∈ss,ĕ<=1000/\AZ x)) (Ĝ ss=true) (∀ (e:Zz) (d:aa) (s':StL) (w:Ã Int) (k q:Int) (H':Hp),e.n=nb->Ö=ss->e.g=0->H e.p=af->H e.k=af->H e.f=af->H d=af->Win Ój (ZC (L++[e])) w->XN Ój s' 8 (ZC (L++[e]))->YF Ój 8 (ZC (L++[e])) k q->ZO a c H' m rd d (L++[e]) s' (nb+1) (li+k) (lo+q) (Yx w)->#[e0,H,rd,H']->Q (.int nb) H')
theorem Zm2(T:Õ)(bE:Í3)(eo:ÙM)(aV:Í4):Mf P w K mg Â 14 ak "add_row" ÄB (Iu K au ak):=by
 rw[d2,T.t_Merge_add_row.mf,Se,vs,I];obtain m|g|B|L|s|i|C|lo'|D|r|l|rfl|M|bo|ma|dB|qw|Z|jx|q:=h;refine(_,#[Zc,Úc,#[Zc,#[ZL,#[eH,bE,I,2,1]],#[Zc,#[ZK,Úd,ÍV,ë],#[Zc,#[YD,#[T3,eo,I,Àl],#[iO,2,I]],#[Zc,ÒX,#[Zc,#[hG,aV,I],Ãt]]]]]],?_);rw[gJ,dx,J];refine(_,rfl,m,ak,dx,_,_,rfl,J,ã,Í8,Nh ..,_,rfl,_,rfl,i,r,l,rfl,É dB,by lia,λx F=>(Z x F).1,RN jx,λH1 N=>?_);have M1:=Ãw N;have fm:=N _ _ J;have l9:Ò3:=by unfold kvM;rw[Qa]
 refine(_,rfl,m,ak,dx,_,_,rfl,fm,ã,ũ,Z8 ..,g,_,rfl,ÊL,_,_,rfl,rfl,_,rfl,Y1 ź ź)
 ·have:(16:Int)<=ÊM:=Ãu;exact Ç this Á
 refine(_,rfl,λu p hu qx ndu=>?_);have O:H u=af:=N.free hu;have S:∀b o,H b=U o->#[eJ,H1,p,u,au] b=U o:=λb o c=>by have:=N _ _ c;rw[i5]
 have wj:#[eJ,H1,p,u,au] u=U (.ins au p []):=Zb;generalize upd (upd H1 p (.own u)) u (.ins au p [])=H8 at S wj ⊢;refine(u,p,r,l,rfl,wj,S _ _ dB,qw,λx F=>(Z x F).1,λk f G hk hf Ck R k9=>(rfl,?_));have s9:ZB H G:=λb o c=>k9 b o (S b o c) (Ze c O);have Η:∀b,H8 b=af->H b=af:=λb c=>by
  cases e:H b with
  | none=>rfl
  | some o=>rw[S b o e]at c;cases c
 have yZ:=Η k hk;have F':=Η f hf;have j:=Ãw s9;have rT:=s9 _ _ J;have mY:g≠u/\g≠k/\g≠f:=(Ze ŏ O,Ze ŏ yZ,Ze ŏ F');have hsz:#[sO,kvM,L]:=by unfold kvM;rw[kZ]
 have iw:Y3 (kvM L) (.inl i)=af:=by
  cases hv:Y3 (kvM L) (.inl i) with
  | none=>rfl
  | some v=>obtain e|he|z:=Ľ (US hv);injection z with z _;have:=bo e he;have:=Æi z;lia
 refine(_,rfl,m,ak,dx,_,_,rfl,rT,ã,ũ,Z8 ..,_,rfl,g,_,rfl,Xv.k (k:=.inl i) ÁK hsz,?_);rw[UV _ iw,show kvM L++[((.inl i:Key),õ u,)]=kvM Îs by unfold kvM;rw[Qf];rfl];rw[g6,n1,n2,n3,j.ne_m];have qy:ZO au ak #[rr,G,g,kvM,Îs] m g B Îs s i C lo' D:=by
  refine((dx,by rw[Zf n1];exact rT),Zb,?_,?_,λe he=>?_,?_,?_,by rw[Qd,Qx];lia,M.sfew)
  ·rw[Zf (λz=>by have:=j.stays;rw[z,ÁK]at this;cases this)];exact j.stays
  ·intro e he t ht;have c:=j.ats e he t ht;rw[rD,Zf,z,ÁK,c]
  ·rcases ß he with he|he
   ·have W:=j.each e he;rw[el,de,X,W.at'.ob];refine W.mono λb o c bP=>?_;have nb':b≠g:=λz=>by
     rw[z,ÁK]at c;injection c with c;subst c;rcases bP with z2|z2|z2
     ·rw[<- z2,z,ÁK]at X;cases X
     ·rw[eL,W.at'.ks,z2,ÁK]
     ·rw[eL,W.at'.fs,z2,ÁK]
    rw[Zf nb'];exact c
   ·rw[Ý he];refine WK.keep (H:=G) (R,Qt _,qw,jx,Z) (Zf mY.1.symm) (Zf mY.2.1.symm) (Zf mY.2.2.symm)
  ·unfold ZC;rw[Qf];refine Úe (M.up,Qa9 ..,λx F y hy=>?_);rw[d9,e,he,F];have:y=i:=by simpa using hy
   rw[this];exact bo e he
  ·rw[eW,M.pd,ha,c,e,he];have:b=u:=by simpa using c
   rw[this];obtain de|X:=Óf;exact Ze X O
 have uk:∀b o,H b=U o->b≠g->#[rr,G,g,kvM,Îs] b=U o:=λb o c n=>by rw[Zf n];exact s9 b o c
 generalize upd G g (.dK (kvM (L++[⟨i,u,k,f,l,0⟩])))=iV at qy uk ⊢;have qB:=uk _ _ J n1;rw[gg,qB,Í8,Nh,Zh4];have Y:=qy.obj (nb':=i+1) (li':=C) (lo':=lo') (ÅV:=D) (dx:=dx);have yA:∀b o,H b=U o->b≠m->b≠g->(upd iV m (.ins ak dx (mgF g (i+1) C lo' B D))) b=U o:=λb o c n n'=>by rw[Zf n];exact uk b o c n'
 generalize upd iV m (.ins ak dx (mgF g (i+1) C lo' B D))=rA at Y yA ⊢;rw[el,Ga,AQ,Y.ob];have y6:∀b,rA b=af->H b=af:=λb c=>by
  cases e:H b with
  | none=>rfl
  | some o =>
   by_cases z:b=m
   ·rw[sq,AQ,c]
   ·by_cases z':b=g
    ·rw[eM,z',Y.rows,c]
    ·rw[yA b o e z z']at c;cases c
 refine(_,rfl,m,Ga,_,rfl,AQ,RO ..,m,g,B,_,s,_,_,_,_,rfl,Y,λbz s' w0 k0 q0 qk hV CI CJ CK CL yB=>(_,rfl,?_));exact q (i,u,k,f,l,0) bz s' w0 k0 q0 qk rfl rfl rfl O yZ F' (y6 bz hV) CI CJ CK CL (λb o c n n'=>yB b o (yA b o c n n') n)
theorem YL.one{P:ý}(nd:ÂQ){d:Àn}{e:ý}{k q:Int}(h:YL P d e k q):∀ {us:À YO} {b:À ZG} {k' c:Int},YL P us b k' c->ņ=Φ->d=us/\e=b/\k=k'/\q=c:=by
 induction h with
 | nil =>
  intro us b k' c g a;cases g with
  | nil=>exact Ók
  | ė _ _=>rw[Qd,Qx]at a;exact Ît
 | ė h s f =>
  intro us b k' c g a;cases g with
  | nil=>rw[Qd,Qx]at a;exact Ît
  | ė i j=>rw[Qd,Qd,Qx,Qx]at a;obtain l|m|n|o:=f i Á;subst l;subst m;subst n;subst o;obtain p|r|t|u:=s.one Îu j;subst p;subst r;subst t;subst u;exact Ók
theorem ZrE{b:ó}{P:ý}{a:Àn}{k q:Int}{c:Β}{ÀF:Nat}(nd:ÂQ)(h:YL P a (ZQ b) k q)(h1:Á5<(ÀF:Int)->c=af)(h2:a≠[]->Á5<=(ÀF:Int))(W:Win (hdM b) (ZC b) c)(ok:∀x∈ZQ b,x.2.2<=x.2.1.length):ĳ=min ÀF (YG P):=by
 have hl:=h.left nd;by_cases d:Á5<(ÀF:Int)
 ·have e:=h1 d;subst e;rw[V2,XD]at W;have hz:=Zo4 Îu W ok;lia
 ·by_cases f:a=[]
  ·subst f;simp only[Æ3]at d ⊢;lia
  ·have:=h2 f;lia
theorem Ir(rd:aa)(nb li lo:Int)(sd:aa)(a:V):#[11].lookup ("add_row" : ah)=af:=Àm
theorem Zom(rd:aa)(nb li lo:Int)(sd:aa)(a:V):#[11].lookup ("take_few" : ah)=af:=Àm
theorem Td(rd:aa)(nb li lo:Int)(sd:aa)(a:V):#[11].lookup ("row_of" : ah)=af:=Àm
theorem ZkF(k f:aa)(g:Int):(ÍN).lookup ("to_go" : ah)=af:=ÍY
theorem Zg1(k f:aa)(g:Int):(ÍN).lookup ("lengthen" : ah)=af:=ÍY
def RH(a b:aa):Sp:=λvs H Q _=>X10 λ(m rd sd:aa) (L:À Zz) (s:StL) (nb li lo:Int) (c:V) (e:Zz)=>C4 #[gs,m,e.n] ÊO (e∈L) (Q (.ref e.p) H)
theorem Zok(T:Õ):Mf P w K mg Â 1 ak "row_of" ÁF (RH au ak):=by
 rw[d2,T.t_Merge_row_of.mf,JU,i,b];obtain m|a|j|L|s|l|n|lo|o|e|rfl|M|c|q:=h;refine(_,#[Zc,#[ZK,#[Zk,(SE b),‹1›,Ĥ,À8],ÍV,ë],#[Zg,#[Zl,#[ih,b,1]]]],?_);rw[gJ,d,g];refine(_,rfl,_,rfl,m,ak,d,_,_,rfl,g,ã,ũ,Z8 ..,a,_,rfl,ŉ (k:=ÅX) ŏ (Wj ű c),_,rfl,Y9 ?_);exact(_,rfl,m,ak,d,_,_,rfl,g,ã,ũ,Z8 ..,_,rfl,a,_,rfl,ŉ (k:=ÅX) ŏ (Wj ű c),q)
def YR(L:ó)(n:Int):À Zz:=L.filter λe=>decide (e.n≠n)
theorem ZrC(L:ó)(n:Int):WE (kvM L) (.inl n)=kvM (YR L n):=by unfold WE kvM YR;rw[Qaq];congr 1;refine QaU λe _=>?_;exact ÇL #[rq,Âq,e.n,ÍU]
theorem ZO.drop{f g:aa}{H:Hp}{m rd sd:aa}{L:ó}{s:StL}{nb li lo:Int}{h:V}(M:#[fq,f,g,h])(n:Int):ZO f g (upd H rd (.dK (kvM (YR L n)))) m rd sd (YR L n) s nb li lo h:=by
 rw[g6,j,n2,k,M.ne_m];rw[gJ,l,o];refine((l,by rw[Zf j];exact o),Zb,by rw[Zf ÅP];exact ÇY,λe d t p=>?_,λe d=>?_,?_,?_,Qk (Qay ..) Âg,M.sfew)
 ·have:=M.ats e d t p;rw[eY,ŏ]
 ·have i:=(Ä1 d).1;obtain _|_|_|a|b|c:=Ç0 i;rw[f8,ÀW,i]
 ·exact M.up.sublist Îv
 ·exact M.pd.sublist Îv
def Iq(a c:aa):Sp:=λvs H Q _=>X10 λ(m rd sd:aa) (L:À Zz) (s:StL) (nb li lo:Int) (f:V) (e:Zz)=>C4 #[gs,m,e.n] #[eI,a,c,f] (e∈L) (∀ (d:aa) (s':StL) (w:Ã Int) (k q:Int) (H':Hp),H d=af->Win (hdM ÃB) (ZC ÃB) w->XN (hdM ÃB) s' 8 (ZC ÃB)->YF (hdM ÃB) 8 (ZC ÃB) k q->ZO a c H' m rd d ÃB s' nb (li+k) (lo+q) (Yx w)->#[e0,H,rd,H']->Q (.int Ò7) H')
theorem ZkT(T:Õ)(y:ÍO)(B:Úf)(C:Í4):Mf P w K mg Â 14 ak "drop_row" ÁF (Iq au ak):=by
 rw[d2,T.t_Merge_drop_row.mf,Sd,D,d];obtain m|a|g|L|s|l|p|i|r|e|rfl|M|j|q:=h;refine(_,#[Zc,#[Zu,2,Sd.nd,â,#[Ym,y,Ŏ,d,#[sk,B,d,Àl]]],#[Zc,#[ZL,#[ZZ,K,Qai,QaQ,Ól,PD,Ĥ,Àl]],#[Zc,#[hG,C,d],Ãt]]],?_);rw[gJ,t,u];rw[sz,Re,j,F,G,Óm];refine(_,rfl,m,t,_,rfl,u,Td ..,_,rfl,m,a,g,L,s,l,p,i,r,e,rfl,M,j,e.p,F,_,rfl,G,ZkF ..,e.p,e.k,e.f,Ö,e.g,rfl,Re.at',_,rfl,m,ak,t,_,_,rfl,u,ã,ũ,Z8 ..,.inr #[rt,ŏ],_,rfl,a,_,.inl e.n,_,rfl,rfl,ŏ,Wj ű j,?_);rw[ZrC];have k:=M.drop e.n;have v:∀b o,H b=U o->b≠a->#[rr,H,a,kvM,ÃB] b=U o:=λb o c n=>by rw[Zf n];exact c
 have Η:∀b,#[rr,H,a,kvM,ÃB] b=af->H b=af:=λb c=>by
  by_cases z:b=a
  ·rw[sq,Zb,c]
  ·rw[Zf z]at c;exact c
 generalize upd H a (.dK (kvM (YR L e.n)))=iV at k v Η ⊢;rw[el,I,J,k.ob];refine(_,rfl,m,I,_,rfl,J,RO ..,m,a,g,_,s,_,_,_,_,rfl,k,λx N O R S V W X Y Z CL yB=>(_,rfl,?_));exact q x N O R S V (Η x W) X Y Z CL (λb o c n n'=>yB b o (v b o c n') n)
theorem RG(k f:aa)(g:Int):YS k f g=Ù4:=by unfold YS;rw[W4,Zx nFK,W4,Zx nGK,Zx nGF,W4]
theorem Ziz(k f:aa)(g:Int)(k':aa):Zw "all_keys" (.ref k') ÍN=YS k' f g:=by rw[RG,RG,VI]
theorem ZiC(k f:aa)(g:Int)(a:aa):Zw "fars" Ĩ ÍN=YS k a g:=by rw[RG,RG,Zx nFK,VI]
def Ip(C:aa):Sp:=λvs H Q _=>X7 λ(p k f a:aa) (ss ks:À ah) (g:Nat)=>C6 #[gr,p,a] ÒL (H a=U Ái) ((ss++ks).length<=200) ((∀x∈ss++ks,ĕ<=1000)) (∀ (k' c:aa) (H':Hp),H k'=af->H c=af->Vh C H' p k' c (ss++ks) g->#[eN,o,p,H']->Q .non H')
theorem Zk8(T:Õ)(C:ÒM):Mf P w K mg Â 4 au "lengthen" ÂM (Ip au):=by
 refine T.t_Row_lengthen.mf Zg5 Ç9 (λaO fa A Û s H D Q E F h=>?_);obtain p|k|f|a|i|ks|g|rfl|R|G|B|I|q:=h;refine(_,#[Zc,#[XQ,‹0›,#[ZM,VX,Ĥ,‹1›]],#[Zg,#[XQ,‹0›,#[Zy,C,F,#[Zd,Ĥ],Í]]]],?_);obtain ⟨d,r⟩|J|hf:=R;refine(_,rfl,p,au,d,_,_,rfl,r,Ŏ,ÄJ,Vi _ _ _,_,rfl,k,a,_,_,rfl,rfl,J,G,(by rw[Qa,Qa];rw[Qd]at B;exact ÂS),λc t=>?_);rw[<- Qf];have v:p≠c:=Ze r t;refine(_,rfl,p,au,d,_,rfl,#[hR,v,r],Ŏ,ÄJ,MR ..,?_);rw[Ziz];have l:Ón p=U (.ins au d (YS c f g)):=Zb;have x:Ón c=U (.lst ((i++ks).map Ä)):=by rw[Zf v.symm];exact Zb
 have y:#[eP,o,H,p,Ón]:=λb o h n=>by rw[Zf n,Zf (Ze h t)];exact h
 generalize upd (upd H c (.lst ((i++ks).map Ä))) p (.ins au d (YS c f g))=H2 at l x y ⊢;refine(_,rfl,p,au,d,_,_,rfl,l,Ŏ,ÄJ,Vi _ _ _,c,i++ks,rfl,É x,B,I,λj H3 m L z=>?_);have M:H j=af:=by
  cases N:H j with
  | none=>rfl
  | some u =>
   by_cases e:j=p
   ·rw[eM,e,l,m]
   ·rw[y j u N e]at m;cases m
 have O:p≠j:=Ze l m;refine(_,rfl,p,au,d,_,rfl,z _ _ l,Ŏ,ÒO,MR ..,?_);rw[ZiC];refine q c j _ t M ((d,Zb),?_,?_) λb o h n=>?_
 ·rw[Zf v.symm];exact z _ _ x
 ·rw[Zf O.symm];exact L
 ·rw[Zf n];exact z _ _ (y b o h n)
def Xo(n:Int)(ks:Ê)(k f:aa)(x:Zz):Zz:=if x.n=n then (x.n,x.p,k,f,x.ss++ks,x.g) else x
def Yz(L:ó)(n:Int)(ks:Ê)(k f:aa):À Zz:=ĥ (Xo n ks k f)
theorem MO(n:Int)(ks:Ê)(k f:aa)(x:Zz):#[kS].n=x.n/\#[kS].p=x.p/\#[kS].g=x.g:=by unfold Xo;split<;>exact(rfl,rfl,rfl)
theorem Tc(L:ó)(n:Int)(ks:Ê)(k f:aa):ZC Óo=ZC L:=by unfold ZC Yz;rw[Qo];exact QJ λe _=>(MO n ks k f e).1
theorem ZqC(L:ó)(n:Int)(ks:Ê)(k f:aa):kvM Óo=kvM L:=by unfold kvM Yz;rw[Qo];refine QJ λe _=>?_;obtain a|b|_:=MO n ks k f e;simp only[Îl,a,b]
theorem Io:∀ (A B:À X1),A.map Úg=B.map Úg->hdL A=hdL B
 | [],[],_=>rfl
 | [],_::_,h=>by cases h
 | _::_,[],h=>by cases h
 | a::A,b::B,h=>by
  rw[Ql,Ql]at h;injection h with h1 h2;injection h1 with d f;have ih:=Io A B h2;funext n;rw[mL];split
  ·simp only[Ò9];rw[f]
  ·exact c
theorem ZpK{L:ó}{n:Int}{ks:Ê}(h:∀x∈L,x.n=n->x.g<x.ss.length\/ks=[])(k f:aa):hdM Óo=hdM L:=by
 refine Io _ _ ?_;unfold Yz;rw[Qo,Qo,Qo];refine QJ λx a=>?_;show (#[kS].n,#[kS].ss[#[kS].g]?,)=(x.n,x.ss[x.g]?,);unfold Xo;split
 ·rename_i e;rcases h x a e with z|z
  ·exact ŕ (Prod.mk x.n) (QT z)
  ·rw[z,QX]
 ·rfl
theorem MN:∀ {P:À Zz},(Àx (·.n)).Nodup->∀ {p q:Zz},p∈P->q∈P->p.n=q.n->p=q
 | [],_,_,_,h,_,_=>by cases h
 | x::r,nd,p,q,hp,hq,e=>by
  rw[Ql,Q9]at nd;rcases ħ hp with h1|h1
  ·rcases ħ hq with h2|h2
   ·rw[h1,h2]
   ·exact Ç (show x.n∈ÂK (·.n) by rw[<- h1,e];exact Qg (f:=λx:Zz=>x.n) h2) nd.1
  ·rcases ħ hq with h2|h2
   ·exact Ç (show x.n∈ÂK (·.n) by rw[<- h2,<- e];exact Qg (f:=λx:Zz=>x.n) h1) nd.1
   ·exact MN nd.2 h1 h2 e
theorem ZO.grow{f l:aa}{H H':Hp}{m rd sd:aa}{L:ó}{s:StL}{nb li lo:Int}{n:V}(M:#[fq,f,l,n]){e:Zz}(he:e∈L){ks:Ê}{k' c:aa}(R:Vh f H' e.p k' c Èa e.g)(hl:(Èa).length<=200)(hs:#[sQ,Èa])(hz:∀x∈Ö++ks,ĕ<=1000/\AZ x)
  (k:#[eP,o,H,e.p,H']):ZO f l H' m rd sd (Yz L e.n ks k' c) s nb li lo n:=by
 rw[gJ,p,q];obtain de|g:=Óf;refine((p,k _ _ q (M.ne_p he).1),by rw[ZqC];exact k _ _ ŏ (Ç0 he).2.2.2.1,k _ _ ÇY (Ç0 he).1,λx i t r=>?_,λx i=>?_,by rw[Tc];exact M.up,?_,by unfold Yz;rw[Qa];exact Âg,M.sfew)
 ·have h:=M.ats x i t r;exact k _ _ h (λz=>by rw[z,g]at h;cases h)
 ·rw[d9,y,d,i];by_cases j:y.n=e.n
  ·have u:y=e:=by have nd:=ű;unfold ZC at nd;exact MN nd d he j
   subst u;rw[show Xo y.n ks k' c y=(y.n,y.p,k',c,y.ss++ks,y.g) by unfold Xo;rw[È rfl]];exact(R,by show y.g<=(y.ss++ks).length;rw[Qd];have:=(ÀW y d).le;lia,hl,hs,hz)
  ·rw[show Xo e.n ks k' c y=y by unfold Xo;rw[Æ j]];have a:=ÀW y d;have np:y.p≠e.p:=λz=>j (by have:=IA M.pd d he z;rw[this]);rw[el,v,w,a.at'.ob];have A:y.k≠e.p:=λz=>by have:=a.at'.ks;rw[gP,g]
   have B:y.f≠e.p:=λz=>by have:=a.at'.fs;rw[gP,g]
   exact(((v,k _ _ w np),k _ _ a.at'.ks A,k _ _ a.at'.fs B),a.le,a.len,a.srt,a.str)
 ·have:(Yz L e.n ks k' c).map (·.p)=ĥ (·.p):=by unfold Yz;rw[Qo];exact QJ λx _=>(MO _ _ _ _ x).2.1
  rw[this];exact M.pd
def Im(d f:aa):Sp:=λvs H Q _=>X12 λ(m rd sd:aa) (L:À Zz) (s:StL) (nb li lo:Int) (w:Ã Int) (e:Zz) (r:aa) (ks:À ah)=>C11 (vs=[.ref m,.int e.n,.ref r]) #[gX,d,f] Í9 Îm (e∈L) (H r=U Ái) (r≠e.p) ((Èa).length<=200) (Ĝ Èa=true) ((∀x∈Ö++ks,ĕ<=1000/\AZ x)) (∀ (k' a c:aa) (s':StL) (g:Ã Int) (k q:Int) (H':Hp),H k'=af->H a=af->((Óp/\c=sd/\k=0/\q=0)\/(e.g=Ŝ/\ks≠[]/\H c=af/\YF (hdM Îw) 8 Ű k q))->Win (hdM Îw) Ű g->Z5 (hdM Îw) s' Ű->ZO d f H' m rd c Îw s' nb (li+k) (lo+q) (Yx g)->#[e0,H,e.p,H']->Q .non H')
theorem ZrT(T:Õ)(ck:Úf)(bE:Í3)(aW:ÇW)(fu:Mf P w K mg Â 4 au "lengthen" ÂM (Ip au))(aV:Í4):Mf P w K mg Â 14 ak "grow" Çu (Im au ak):=by
 refine T.t_Merge_grow.mf TN Ç9 (λaO fa A Û s H vs Q E f h=>?_);obtain m|C|p|L|s|X|Y|D|w0|e|r|ks|rfl|M|W|ok|g|F|G|t|Z|I|q:=h;refine(_,#[Zc,#[Zu,3,TN.nd,â,#[sk,ck,f,Àl]],#[Zc,#[ZL,#[Zy,bE,f,Úh,Í]],#[Zc,#[Zu,4,TN.nd,â,#[XJ,Xc,#[sP,aW,f,3],ţ,ú]],#[Zc,#[ZL,#[Xu,fu,Ŏ,f,‹3›,Ãx]],#[Zg,#[ZK,(@œ _ _ _ #[Yb,#[XT,‹4›],#[XS,#[rp,Wt,Îr]]]),#[Zg,#[hG,aV,f]],ë]]]]]],?_);rw[uw];rw[sz,Re,g,de,gb,Óm];have vX:Ŝ+ÁB<=200:=by rw[Qd]at t;exact t
 refine(_,rfl,m,dx,_,rfl,hm,Td ..,_,rfl,m,C,p,L,s,X,Y,D,_,e,rfl,M,g,_,rfl,_,rfl,e.p,au,de,_,_,rfl,gb,Ŏ,ÄJ,Vi _ _ _,_,rfl,e.k,r,_,_,rfl,rfl,Re.at'.ks,F,#[eV,Qa,Ĭ],λc hc=>?_);rw[<- Qf];refine(e.n,c,Ö++ks,rfl,É Zb,by lia,λx i=>(I x i).1,RN Z,λH1 J=>?_);have a:ZB H H1:=(Zi hc _).trans J;have M1:=Ãw a;have N:=Í2 e g;rw[el,Gc,AS,N.at'.ob];refine(_,rfl,e.p,Gc,_,rfl,AS,Vc ..,e.p,e.k,e.f,Ö,e.g,rfl,N.at',rfl,_,rfl,e.p,Gc,_,rfl,AS,Zg1 ..,_,rfl,e.p,e.k,e.f,r,Ö,ks,e.g,rfl,N.at',a _ _ F,t,λx i=>(I x i).1,λk' j O fW Gd R2 k2=>?_);have M2:=M1.grow g R2 t Z I k2;have v:#[eP,o,H,e.p,O]:=λb o k n=>k2 b o (a b o k) n;have fc:=v _ _ F G;have wD:Óp->Q .non O:=λbP=>by have eh:hdM (Yz L e.n ks k' j)=hdM L:=ZpK (λx i hn=>by rw[MN ű i g hn];exact bP) k' j;refine q k' j p s w0 0 0 O (a.free fW) (a.free Gd) (.inl (bP,rfl,rfl,rfl)) #[ed,eh,W] #[ed,eh,ok] (by rw[Qan,Qan];exact M2) (λb o k n R=>v b o k R)
 refine(_,rfl,_,rfl,?_);by_cases hg:e.g<Ŝ
 ·have S:WL Ö e.g=.str Ö[e.g]:=Ti (Qb hg);rw[S];exact YC ÁC (wD (.inl hg))
 ·have S:WL Ö e.g=.non:=by unfold WL;rw[Q1 Á]
  rw[S];refine YZ rfl ?_;refine(_,rfl,r,_,rfl,.inl (É fc),_,_,rfl,rfl,_,rfl,Y1 ź ź)
  ·have l:(0:Int)<((ÚU).length:Int):=Ãu;rw[Qa]at l;have dD:ks≠[]:=λz=>by rw[(z)]at l;exact Ç l Ì
   rw[nF];refine(_,rfl,m,jW,_,rfl,dU,RO ..,m,C,p,_,s,_,_,_,_,rfl,M2,λy s' w1 k1 q1 H3 B W3 S3 P3 M3 k3=>?_);rw[Tc]at W3 S3 P3;have wB:=Uy 8 (hdM (Yz L e.n ks k' j)) s' Ű M.up (Qk (show (ZC L).length<=60 by unfold ZC;rw[Qa];exact Âg) Ì) Ì S3;have le:=Re.le;have Ge:H y=af:=by
    cases w':H y with
    | none=>rfl
    | some u =>
     by_cases z:y=e.p
     ·rw[el,d2,ir,R2.ob];rw[sq,ir,B]
     ·rw[v _ _ w' z]at B;cases B
   exact q k' j y s' w1 k1 q1 H3 (a.free fW) (a.free Gd) (.inr (by lia,dD,Ge,P3)) W3 wB M3 (λb o k n R=>k3 b o (v b o k R) n)
  ·have l:¬ (0:Int)<((ÚU).length:Int):=ÍM;rw[Qa]at l;exact wD (.inr (Äx Á))
theorem RF(ss:Ê)(m:Nat)(h:m<=Ο):Yo Àw af ÅR=(ss.take m).map Ä/\Yo Àw ÅR af=(Îx m).map Ä:=by
 have e:∀d:Nat,Ŷ (Àw).length d ÅR=m:=λd=>by unfold Ŷ;rw[jX];lia
 have a:∀d:Nat,Ŷ (Àw).length d af=d:=λd=>rfl;constructor
 ·unfold Yo;rw[u0]
 ·unfold Yo;rw[e,a,<- ÒG,<- List.map_take,Qz #[sg,Q4,Qa]]
theorem MM{a:Int}(h0:0<=a)(h:a<1000000):Óq<1920:=by
 by_cases z:Îy=0
 ·rw[(z)];decide
 ·have b:Îy<2 ^ 20:=by lia
  exact QG (#[wQ].mpr b) Ì
theorem Tb{a:Int}(h:Óq<1920):(Èb (toString a)).length<=1921:=by have e:=int_text_length_le (k:=1920) Ì h;rw[Úi];lia
def xfs(r p:Int):À ÁX:=[("row",.int r,),("place",.int p,)]
def Il(C:aa):Sp:=λvs H Q _=>X3 λ(e:aa) (r p:Int)=>C7 (vs=[.ref e,.int r,.int p]) (H e=U Çl) (0<=r) (r<1000000) (0<=p) (p<1000000) (∀dx,H dx=af->dx≠e->Q .non (upd #[iM,H,dx] dx (xdO dx (xfs r p))))
theorem Zqk(T:Õ):Xf P w K mg Â 1 ao ap "OutOfOrder" Çt (Il ao):=by
 refine T.t_OutOfOrder_init.xf ZfK Ç9 (λaO f A Û s H B Q E hr d h=>?_);obtain e|r|p|rfl|g|C|D|F|G|q:=h;refine(_,#[Zc,#[ZL,(@Kj _ _ _ _ _ _ _ _ _ _ _ _ d Új rfl T.m_MergeError #[Zd,‹0›,#[VS,#[XX,á,#[XX,#[hv,TX,1],#[XX,á,#[hH,TX,2]]]]]] Ì Í Í Í)],#[Zc,#[rH,Kn,T.na_OutOfOrder_row,1],#[Zg,#[rH,Zvi,T.na_OutOfOrder_place,2]]]],?_);have i:=MM C D;have j:=MM F G;have I:=Tb i;have J:=Tb j;have z:Îz:=λa b c=>by rw[ÎA];lia
 have y:ÎB:=λh=>by rw[aP];lia
 rw[gY,k,"row ",4,l,I];rw[io,o,l,": the key at place ",19];have t:=z o J Ì;rw[io,u,t," is less than the one ahead",27];refine(_,rfl,_,rfl,y (Qk k Ì),_,rfl,_,rfl,i,_,rfl,y (Qk l Ì),_,rfl,y (Qk o Ì),_,rfl,_,rfl,j,_,rfl,y (Qk t Ì),_,rfl,y (Qk u Ì),y (Qk u Ì),e,_,af,rfl,g,_,rfl,_,rfl,e,rfl,g,λv hd ne=>?_);refine(_,rfl,_,rfl,e,v,_,rfl,by rw[Zf ne.symm];exact Zb,Zb,ne,by show 1<1000;decide,?_);rw[ZsJ];exact q v hd ne
def Ik(a:aa)(H:Hp)(n j:Int)(E:XK):Prop:=∀ (dx:aa) (H':Hp),ZB H H'->H dx=af->H' dx=U (xdO dx (xfs n j))->E Ĩ (U dx) H'
def ML(K:Å)(b:aa):Sp:=λvs H Q E=>X3 λ(n:Int) (a:aa) (ss:À ah)=>C5 (vs=[.int n,.ref a]) ÍK #[s6,400] Êz (((WM ss .non/\∀H',ZB H H'->Q .non H')\/∃j:Int,WM ss (.int j)/\0<=n/\n<1000000/\Ik b H n j E))
theorem ZmV(T:Õ)(y:ÒV)(B:Xf P w K mg Â 1 ao ap "OutOfOrder" Çt (Il ao)) :
  D1f P w K mg Â 5 "refuse_break" Êi (ML K ao):=by
 rw[d2,T.t_refuse_break.df1,Sb,C,m];obtain n|a|p|rfl|D|F|G|I:=h;refine(_,#[Zc,#[sy,2,Sb.nd,y,m,Àl],#[Zg,#[ZK,#[ec,SW,2,ţ],#[Zg,(@ZvS _ _ _ _ _ _ _ _ _ _ _ _ _ _ _ B ÃC m #[ex,0,2] Ì Êt Í Ì Í Í)],ë]]],?_);refine(_,rfl,a,p,rfl,D,F,G,λv r c d=>?_);rcases I with⟨J,q⟩|⟨j,t,L,M,q⟩
 ·have e:=NM c J;subst e;exact(_,rfl,rfl,_,rfl,Y9 (q r d))
 have e:=NM c t;subst e;have u:0<=j/\j<1000000:=by
  rcases t with⟨z,_⟩|⟨k,z,hk,_⟩
  ·cases z
  ·cases z;lia
 refine(_,rfl,rfl,_,rfl,YH ?_);refine(_,rfl,_,rfl,λe N=>(e,n,j,rfl,Zb,L,M,u.1,u.2,λg hd ne=>(rfl,U g,by rw[Zf ne.symm];exact Zb,?_)));have x:r g=af:=by rw[Zf ne]at hd;exact hd
 refine q g _ #[iw,b,o,c] (d.free x) (Vq Zb ne);have i:=d b o c;have l:b≠e:=Ze i N;exact Vq (by rw[Zf (Ze i x),Zf l,Zf l];exact i) l
theorem Ij{a:Int}(h:Îy<2 ^ 21):Óq<1920:=by
 by_cases z:Îy=0
 ·rw[(z)];decide
 ·exact QG (#[wQ].mpr h) Ì
theorem ZpF{L:ó}{n:Int}(hn:n ∉ ZC L):Y3 (kvM L) (.inl n)=af:=by
 cases a:Y3 (kvM L) (.inl n) with
 | none=>rfl
 | some v=>obtain e|b|z:=Ľ (US a);injection z with z _;injection z with z;exact Ç (show n∈ZC L by rw[<- z];exact Qg (f:=λe:Zz=>e.n) b) hn
def RE(ks:Ê):Prop:=ÁB<=200/\∀x∈ks,ĕ<=1000/\AZ x
def ZwA(n:Int):À ÁX:=[("line",.int n,)]
def ZsZ(C:aa):Sp:=λvs H Q _=>X2 λ(e:aa) (r:Int)=>C5 #[gs,e,r] (H e=U Çl) (0<=r) (r<1000000) (∀dx,H dx=af->dx≠e->Q .non (upd #[iM,H,dx] dx (xdO dx (ZwA r))))
theorem ZpW(T:Õ):Xf P w K mg Â 1 ar ap "BadLine" Êh (ZsZ ar):=by
 refine T.t_BadLine_init.xf Zg2 Ç9 (λaO f A Û s H o Q E hr d h=>?_);rw[sG,e,r,g,p,t];refine(_,#[Zc,#[ZL,(@Kj _ _ _ _ _ _ _ _ _ _ _ _ d Új rfl T.m_MergeError #[Zd,‹0›,#[VS,#[XX,á,#[hH,TX,1]]]] Ì Í Í Í)],#[Zg,#[rH,Kn,T.na_BadLine_line,1]]],?_);have i:=MM p t;have u:=Tb i;have z:Îz:=λa b c=>by rw[ÎA];lia
 have y:ÎB:=λh=>by rw[aP];lia
 rw[gY,j,"line ",5,k,u];rw[io,l,k," of the sheet is not so written",31];refine(_,rfl,_,rfl,y (Qk j Ì),_,rfl,_,rfl,i,_,rfl,y (Qk k Ì),_,rfl,y (Qk l Ì),y (Qk l Ì),e,_,af,rfl,g,?_);exact(_,rfl,_,rfl,e,rfl,g,λv hd ne=>q v hd ne)
def Ii(a b c:aa):Sp:=λvs H _ E=>X10 λ(m rd sd:aa) (L:À Zz) (s:StL) (nb li lo:Int) (d:V) (n:Int)=>C5 #[gs,m,n] #[eI,a,b,d] (n ∉ ZC L) (ÎC<2 ^ 21) (E ÅB af H)
def MK(a b c:aa):Sp:=λvs H Q E=>Ii a b c vs H Q E\/RH a b vs H Q E
theorem ZmP(T:Õ):M1f P w K mg Â 1 ak "row_of" ÁF (MK au ak ay):=by
 refine T.t_Merge_row_of.mf1 JU #[iz,C] #[d3,C,j]
 ·rcases h with⟨m,d,l,L,s,o,p,lo,r,n,rfl,_⟩|⟨m,d,l,L,s,o,p,lo,r,n,rfl,_⟩<;>rfl
 refine(_,#[Zc,#[ZK,#[Zk,(SE j),‹1›,Ĥ,À8],#[Zg,(@Kg _ _ _ _ _ _ _ _ _ _ _ _ T.xw_NoRow ÃC j #[Zd,#[VS,#[XX,á,#[XX,#[hv,TX,1],(@UP _)]]]] Í Ì Í Í)],ë],#[Zg,#[Zl,#[ih,j,1]]]],?_);rcases h with h|⟨m,d,l,L,s,o,p,lo,r,e,rfl,M,t,q⟩
 rotate_left
 ·rw[gJ,g,i];refine(_,rfl,_,rfl,m,ak,g,_,_,rfl,i,ã,ũ,Z8 ..,d,_,rfl,ŉ (k:=ÅX) ŏ (Wj ű t),_,rfl,Y9 ?_);exact(_,rfl,m,ak,g,_,_,rfl,i,ã,ũ,Z8 ..,_,rfl,d,_,rfl,ŉ (k:=ÅX) ŏ (Wj ű t),q)
 obtain m|d|l|L|s|o|p|lo|r|n|rfl|M|D|F|q:=h;rw[gJ,g,i];refine(_,rfl,_,rfl,m,ak,g,_,_,rfl,i,ã,ũ,Z8 ..,d,_,rfl,ŉ (k:=.inl n) ŏ (ZpF D),_,rfl,YH ?_);have u:=Ij F;have G:=Tb u;have z:Îz:=λa b c=>by rw[ÎA];lia
 have y:ÎB:=λh=>by rw[aP];lia
 rw[gY,v,"there is no row ",16,B,G];exact(_,rfl,y (Qk v Ì),_,rfl,_,rfl,u,_,rfl,y (Qk B Ì),y (Qk B Ì),_,rfl,q)
theorem Zj4(T:Õ)(i:ÍO)(j:Úk):M1f P w K mg Â 14 ak "drop_row" ÁF (Ii au ak ay):=by
 rw[d2,T.t_Merge_drop_row.mf1,Sd,k,a];obtain m|b|c|L|s|d|e|lo|g|n|rfl|M|l|o|q:=h;refine(_,#[Zc,#[Zu,2,Sd.nd,â,#[Ym,i,Ŏ,a,#[UM,j,ã,ÃC,a,‹0›,Àl]]],Ór],?_);rw[gJ,p,r];exact(_,rfl,m,p,_,rfl,r,Td ..,_,rfl,.inl (m,b,c,L,s,d,e,lo,g,n,rfl,M,l,o,q))
def Rf(L:ý)(nb:Int)(H:Hp)(ask:ah)(g m:V):Ã (Ã (Int×Int))->Prop
 | none=>((ask = "drop"/\m=.non)\/(ask = "grow"/\∃k,m=.ref k))/\∃n,g=.int n/\n ∉ Z1 L/\ÎC<2 ^ 21
 | some af=>ask = "add"/\m=.non/\X2 λk ks=>g=.ref k/\H k=U Ái/\RE ks/\Ĝ ks=true/\16<=Àg
 | some (U a)=>(ask = "add"/\m=.non/\a.1=nb/\X2 λk ks=>g=.ref k/\H k=U Ái/\RE ks/\WM ks (.int a.2)) \/
  (ask = "grow"/\∃e∈L,a.1=e.1/\g=.int e.1/\X2 λk ks=>m=.ref k/\H k=U Ái/\RE ks/\WM (e.2.1++ks) (.int a.2))
def RfE(b c d:aa)(H:Hp)(E:XK):Ã (Ã (Int×Int))->Prop
 | none=>∀H',ZB H H'->E ÀR af H'
 | some af=>∀H',ZB H H'->E ÅB af H'
 | some (U a)=>Ik d H a.1 a.2 E
def Ih(a b c d e:aa):Sp:=λvs H _ E=>X11 λ(m rd sd:aa) (L:À Zz) (s:StL) (nb li lo:Int) (f g:V) (o:Ã (Ã (Int×Int)))=>C6 (vs=[.ref m,g]) #[eI,a,b,f] (0<=nb) (nb<1000000) (Rf (ZQ L) nb H "add" g .non o) (RfE c d e H E o)
theorem MJ(o:ah)(h:o = "drop"\/o = "grow"):("add" : ah)≠o:=by rcases h with rfl|rfl<;>ac_rfl
theorem ZrI(T:Õ)(O:Úl):M1f P w K mg Â 14 ak "add_row" ÄB (Ih au ak ay aH ao):=by
 rw[d2,T.t_Merge_add_row.mf1,Se,R,C];obtain m|i|S|L|s|D|V|lo|W|g|o|rfl|M|l|nb1|p|q:=h;refine(_,#[Zc,Úc,#[Zc,#[ZL,#[SA,O,ÃC,C,#[ex,2,1]]],#[Zc,#[ZK,Úd,#[Zg,(@Kg _ _ _ _ _ _ _ _ _ _ _ _ T.xw_Full ÃC C #[Zd,#[VS,#[XX,(@TX _ _ _ _ Ò2),#[XX,á,(@UP _)]]]] Í Ì Í Í)],ë],#[Zc,ÊV,Ór]]]],?_);rw[gJ,r,F];refine#[zm,r,F,Í8,Nh,?_];cases o with
 | none =>
  rcases p.1 with⟨h,_⟩|⟨h,_⟩
  ·exact Ç h (MJ _ Ď)
  ·exact Ç h (MJ _ ÂA)
 | some o =>
 cases o with
 | some X =>
  rw[el,n,j,X];rcases p with⟨_,_,rfl,k,ks,rfl,t,e,Y⟩|⟨h,_⟩
  ·exact(_,rfl,_,rfl,n,k,ks,rfl,É t,by have:=e.1;lia,λx u=>(e.2 x u).1,.inr (j,Y,l,nb1,q))
  ·exact Ç h (MJ _ ÂA)
 | none =>
  obtain _|_|k|ks|rfl|t|e|Z|v:=p;refine(_,rfl,_,rfl,D,k,ks,rfl,É t,by have:=e.1;lia,λx u=>(e.2 x u).1,.inl (RN Z,λH1 B=>?_));have G:=B _ _ F;have M1:=Ãw B;have l9:Ò3:=by unfold kvM;rw[Qa]
  have hU:=Âg;have h16':16<=Àg:=by unfold ZQ at v;rw[Qa]at v;exact v
  refine(_,rfl,m,ak,r,_,_,rfl,G,ã,ũ,Z8 ..,i,_,rfl,ÊL,_,_,rfl,rfl,_,rfl,Y1 Å3 (λd=>Ç (đ (show (16:Int)<=ÊM by lia)) d));have I:(ÊM).natAbs.log2<1920:=Ij Á;have tr:=Tb I;have z:Îz:=λa b c=>by rw[ÎA];lia
  have y:ÎB:=λh=>by rw[aP];lia
  have J:(ÁY++Èb (toString ÊM)).length<=0+1921:=z Ì tr Ì;rw[io,N,J," rows are there",15];exact(_,rfl,m,ak,r,_,_,rfl,G,ã,ũ,Z8 ..,i,_,rfl,ÊL,_,rfl,I,_,rfl,y (Qk J Ì),_,rfl,y (Qk N Ì),y (Qk N Ì),_,rfl,q H1 B)
def Ig(a b c d f:aa):Sp:=λvs H _ E=>X12 λ(m rd sd:aa) (L:À Zz) (s:StL) (nb li lo:Int) (h g k:V) (o:Ã (Ã (Int×Int)))=>C5 (vs=[.ref m,g,k]) #[eI,a,b,h] ((∀e∈L,0<=e.n/\e.n<1000000)) (Rf (ZQ L) nb H "grow" g k o) (RfE c d f H E o)
theorem Zq9(T:Õ)(J:Úl)(N:Úk):M1f P w K mg Â 14 ak "grow" Çu (Ig au ak ay aH ao):=by
 rw[d2,T.t_Merge_grow.mf1,TN,O,z];obtain m|i|l|L|s|p|r|lo|t|g|k|o|rfl|M|B|u|q:=h;refine(_,#[Zc,#[Zu,3,TN.nd,â,#[UM,N,ã,ÃC,z,‹0›,Àl]],#[Zc,#[ZL,#[SA,J,ÃC,z,Úh]],Ór]],?_);rw[gJ,C,D];have F:("grow" : ah) ≠ "add":=by ac_rfl
 cases o with
 | none=>obtain _|n|rfl|G|R:=u;rw[<- XD]at G;exact(_,rfl,m,C,_,rfl,D,Td ..,_,rfl,.inl (m,i,l,L,s,p,r,lo,t,n,rfl,M,G,R,q H Ãy))
 | some o =>
 cases o with
 | none=>exact Ç u.1 F
 | some S =>
  rw[el,n,j,S];rcases u with⟨h,_⟩|⟨_,x,hx,rfl,rfl,V,ks,rfl,W,v,y⟩
  ·exact Ç h F
  rw[d9,e,a,hx];rw[sz,Re,a,X,Y,Óm];refine(_,rfl,m,C,_,rfl,D,Td ..,_,rfl,.inr (m,i,l,L,s,p,r,lo,t,e,rfl,M,a,?_));refine(_,rfl,_,rfl,e.p,au,X,_,_,rfl,Y,Ŏ,ÄJ,Vi _ _ _,_,rfl,e.k,V,_,_,rfl,rfl,Re.at'.ks,W,(by rw[Qa,Qa];have:=v.1;have:=Re.len;exact ÂS),λc I=>?_);rw[<- Qf];refine(e.n,c,Ö++ks,rfl,É Zb,(by rw[Qd];have:=v.1;have:=Re.len;lia),(λx hx=>?_),.inr (j,y,(B e a).1,(B e a).2,λd Z s' hd h'=>q d Z (λb o y=>s' b o (Zi I _ b o y)) ((Zi I _).free hd) h'));rcases ß hx with hx|hx
  ·exact(Re.str x hx).1
  ·exact(v.2 x hx).1
theorem MI:∀a b:À Nat,ÄH a b=true↔a<b
 | [],[]=>by simp[ÄH]
 | [],y::s=>by simp[ÄH]
 | x::r,[]=>by simp[ÄH]
 | x::r,y::s=>by have ih:=MI r s;rw[Ùx];simp[ÄH,ih]
def LeS(a b:ah):Prop:=¬ b.cps.toList<Òe
theorem LeS.trans{a b c:ah}(h:LeS a b)(k:LeS b c):LeS a c:=List.not_lt.mpr (List.le_trans (List.not_lt.mp h) (List.not_lt.mp k))
theorem Ie:∀ (r:À ah) (x:ah),ÇK x r=true↔(x::r).Pairwise LeS
 | [],x=>by simp[ÇK]
 | y::r,x=>by
  have ih:=Ie r y;rw[Úm];unfold ÇK;rw[Q6,Bool.not_eq_true'];constructor
  ·rintro⟨a,c⟩;have p:=ih.mp c;have d:LeS x y:=λz=>by rw[(MI _ _).mpr z]at a;cases a
   refine(λb hb=>?_,p);rcases ħ hb with rfl|hb
   ·exact d
   ·exact Ær ((Ós p).1 b hb)
  ·rintro⟨a,c⟩;exact(Òx λz=>a y Ó ((MI _ _).mp z),ih.mpr c)
theorem Ic(ss:Ê):Ĝ ss=true↔Ót LeS:=by
 cases ss with
 | nil=>simp[Ĝ]
 | Ë x r=>exact Ie r x
theorem Zul{L:ó}(h:∀e∈L,e.g<=Ŝ):(Wk ÄK).sum=((YG (ZQ L):Nat):Int):=by
 induction L with
 | nil=>rfl
 | Ë e r a=>have i:=#[gt,a,x,b];have g:=h e Ó;unfold Wk YG ZQ at i ⊢;rw[Ql,Ql,Ql,Ql,QR,QR,i,Int.natCast_add];congr 1;show (Ŝ:Int)-(e.g:Int)=((Ŝ-e.g:Nat):Int);lia
def Uu(P:ý)(x:ZG)(z:ah):Prop:=x∈P/\x.2.1[x.2.2]? = U z/\Win (hdP P) (Z1 P) (U x.1)
inductive TkW (P:ý):À YO->À ZG->Prop
 | nil:TkW P [] P
 | ė {ts:À YO} {P1:À ZG} {x:ZG} {z:ah}:TkW P ts P1->Uu P1 x z->TkW P (ts++[(x.1,x.2.2,z,)]) (Xp P1 x.1)
theorem YL.tk{P a:ý}{b:Àn}{k q:Int}(h:Îq):TkW P b a:=by
 induction h with
 | nil=>exact .nil
 | ė h s c=>exact .snoc c (s.1,s.2.1,s.2.2.1)
theorem Uu.one{P:ý}(nd:ÂQ){x y:ZG}{z u:ah}(h:Uu P x z)(g:Uu P y u):x=y/\z=u:=by obtain a|b|c:=h;obtain d|e|f:=g;have i:=Qu (c.one f);have j:=Yh nd a d i;subst j;exact(rfl,Qu (b.symm.trans e))
theorem TkW.num{P a:ý}{b:Àn}(h:TkW P b a):Z1 a=Z1 P:=by
 induction h with
 | nil=>rfl
 | ė _ _ c=>rw[Iw,c]
theorem TkW.one{P:ý}(nd:ÂQ){c:Àn}{d:ý}(h:TkW P c d):∀ {us:À YO} {b:À ZG},TkW P us b->Ņ=Φ->c=us/\d=b:=by
 induction h with
 | nil =>
  intro us b g a;cases g with
  | nil=>exact ć
  | ė _ _=>rw[Qd,Qx]at a;exact Ît
 | ė h s e =>
  intro us b g a;cases g with
  | nil=>rw[Qd,Qx]at a;exact Ît
  | ė f i=>rw[Qd,Qd,Qx,Qx]at a;obtain j|k:=e f Á;subst j;subst k;obtain l|m:=s.one Îu i;subst l;subst m;exact ć
theorem TkW.left{P a:ý}{b:Àn}(h:TkW P b a)(nd:ÂQ):YG a+Œ=YG P:=by
 induction h with
 | nil=>rfl
 | ė h s ih=>have:=Ù9;rw[Qd,Qx];lia
def MH:Sp:=λvs H Q _=>∃z:ah,C3 #[za,z] (AZ z) (Q Æv H)
theorem Zq1(T:Õ):Df P w K mg Â 1 "is_key" ["thing"] MH:=by
 rw[d2,T.t_is_key.df,JY,d,hr];obtain z|rfl|e|q:=h;refine(_,#[Zc,#[ZK,(@VB _ _ _ _ #[XT,Ùc]),ÁH,ë],#[Zc,#[XR,Γ,#[hv,K4,0],#[rx,1,JY.nd],Ún],ÁH]],_,rfl,_, "str",_,_,rfl,.str z,R5 K,_,rfl,Y9 ?_);refine(_,rfl,z,rfl,?_);refine K3 (λi a b=>(∃v:Ã V,a=[U (.str z),v])/\b=H) #[sl,af] ?_ ?_
 ·rintro i c a b g ⟨⟨v,rfl⟩,rfl⟩;have j:#[ft,"a",97]:=by ac_rfl
  have k:#[ft,"z",122]:=by ac_rfl
  have hcz:=e c (Qp (i:=i) #[ed,ÑH,g]);refine Èc;rw[r1,j];refine Y9 Èc;rw[r1,k];exact Y9 #[sl,_]
 ·rintro a b ⟨⟨v,rfl⟩,rfl⟩;exact q
def Ib:Sp:=λvs H Q _=>∃z:ah,C5 #[za,z] (AZ z) (1<=Ś) (Ś<=8) (Q (.str z) H)
theorem Zoe(T:Õ)(a:Úo):Df P w K mg Â 2 "read_name" Âe Ib:=by
 rw[d2,T.t_read_name.df,Zko,b,c];obtain z|rfl|d|h1|h8|q:=h;refine(_,#[Zg,#[Zl,#[ZY,(@œ _ _ _ #[Yb,#[XT,#[fy,a,c,Áf]],#[XS,(@Rk _ _ _ _ _ _ _ _ _ _ _ _ VY VY Ü ÇD #[VT,T.g_MOST_NAME] À8)]]),‹0›,ţ]]],_,rfl,z,rfl,d,_,rfl,YH ?_);refine(_,rfl,z,rfl,Ĭ Á,_,_,rfl,rfl,_,rfl,YZ Á (_,_,rfl,rfl,_,rfl,YZ Á ?_));exact ÊB
def kT0(k:ah):ah:=if k = "" then "-" else k
def Ia:Sp:=λvs H Q _=>∃k:ah,C4 (vs=[.str (kT0 k)]) (AZ k) (Åv<=40) (Q (.str k) H)
theorem Ztd{k:ah}(h:AZ k):¬ Ä k=Ä "-":=λz=>by injection z with z;have:=h 45 (by rw[(z)];ac_rfl);lia
theorem Zpv(T:Õ)(c:Úo):Df P w K mg Â 2 "read_key" Âe Ia:=by
 rw[d2,T.t_read_key.df,ZlJ,d,e];obtain k|rfl|b|Gh|q:=h;refine(_,#[Zc,#[ZK,#[Zk,YI,‹0›,Óu,ú],Èd,ë],#[Zg,#[Zl,#[ZY,(@œ _ _ _ #[Yb,#[XT,#[fy,c,e,Áf]],#[XS,(@Rk _ _ _ _ _ _ _ _ _ _ _ _ VY VY Ü ÇD #[VT,T.g_MOST_KEY] À8)]]),‹0›,ţ]]]],_,rfl,rfl,_,rfl,?_);by_cases a:k = ""
 ·subst a;exact YH q
 ·have g:kT0 k=k:=by unfold kT0;rw[Æ a]
  rw[g,Ń (Ztd b)];have h1:1<=Åv:=by
   cases i:Åv with
   | zero=>exact Ç (by obtain⟨⟨l⟩⟩:=k;have:Ů=0:=i;rw[Äx this];rfl) a
   | succ n=>lia
  refine Y9 (_,rfl,k,rfl,b,_,rfl,YH ?_);exact(_,rfl,k,rfl,Ĭ Á,_,_,rfl,rfl,_,rfl,YZ Á (_,_,rfl,rfl,_,rfl,YZ Á (_,rfl,q)))
def W0(n:Nat):ah:=Çq
def HZ:Sp:=λvs H Q _=>∃n:Nat,C3 (vs=[.str (W0 n)]) (n<10) (Q Æv H)
theorem Zus(n:Nat):¬ Ä (W0 n)=Ä "":=λz=>by injection z with z;have:=ŕ (λs:ah=>s.cps.size) z;exact Ç this (by show ¬ (1=_);ac_rfl)
theorem Zsm(T:Õ):Df P w K mg Â 1 "are_figures" Âe HZ:=by
 rw[d2,T.t_are_figures.df,JS,d,hr];obtain n|rfl|hn|q:=h;refine(_,#[Zc,#[XR,Γ,#[hv,K4,0],#[rx,1,JS.nd],Ún],#[Zg,#[Zl,Úp]]],_,rfl,W0 n,rfl,?_);refine K3 (λi b a=>(∃v:Ã V,b=[U (.str (W0 n)),v])/\a=H) #[sl,af] ?_ ?_
 ·rintro i c b a e ⟨⟨v,rfl⟩,rfl⟩;have g:#[ft,"0",48]:=by ac_rfl
  have j:#[ft,"9",57]:=by ac_rfl
  have hcz:c=48+n:=by have k:c∈cds (W0 n):=Qp (i:=i) #[ed,ÑH,e];simpa [cds,W0] using k
  refine Èc;rw[r1,g];refine Y9 Èc;rw[r1,j];exact Y9 #[sl,_]
 ·rintro b a ⟨⟨v,rfl⟩,rfl⟩;refine(_,rfl,rfl,?_);show Q (.bl (!decide (Ä (W0 n)=Ä ""))) a;rw[Ń (Zus n)];exact q
def HY:Sp:=λvs H Q _=>X3 λ(n:Nat) (a b:Int)=>C5 (vs=[.str (W0 n),.int a,.int b]) (n<10) (a<=n) ((n:Int)<=b) (Q Ät H)
theorem Zpr(T:Õ)(m:#[e6,1,"are_figures","word",HZ]):Df P w K mg Â 2 "read_number" Ís HY:=by
 rw[d2,T.t_read_number.df,JT,o,p];obtain n|a|b|rfl|g|i|j|q:=h;refine(_,#[Zc,#[ZK,(@œ _ _ _ #[WI,(@VB _ _ _ _ #[XT,#[fy,m,p,Áf]]),#[WJ,#[Zk,Wt,ÇD,#[VT,T.g_MOST_FIGURES],ú]]]),ÇM,ë],#[Zc,#[ZK,(@œ _ _ _ #[Yb,#[Zk,YI,#[ZF,UY,‹0›,Ü],á,ú],#[XS,#[ec,WQ,0,á]]]),ÇM,ë],#[Zc,#[Zu,3,JT.nd,â,#[WW,ZwZ,Íz,ÍA,Áf]],#[Zg,#[Zl,#[ZY,(@Rk _ _ _ _ _ _ _ _ _ _ _ _ VY VY ‹1› ‹3› ‹2› À8),‹3›,ţ]]]]]],?_);have k:(W0 n).length=1:=rfl;have fin:∀ (c:VK),c Ät H->(if decide (a<=(n:Int))=true then (if decide ((n:Int)<=b)=true then c Ät H else c .non H) else c .non H):=λc h=>by rw[đ i,đ j];exact h
 refine(_,rfl,n,rfl,g,_,rfl,Y9 ?_);refine(_,rfl,W0 n,rfl,Ĭ Óv,_,_,rfl,rfl,_,rfl,?_);rw[Ń Óv];refine Y9 ?_;have r:atI (W0 n).cps.toList 0=U (48+n):=rfl;refine(_,rfl,_,_,_,rfl,rfl,Ĭ Óv,r,rfl,_,rfl,?_);have l:#[ft,"0",48]:=by ac_rfl
 by_cases t:n=0
 ·subst t;have e:Ä (W0 0)=Ä "0":=by rw[l];rfl
  refine Y1 Å3 (λd=>Ç (đ e) d);refine Èe;rw[đ e];refine Y9 (_,rfl,0,rfl,g,?_);exact Úq
 ·have e:¬ Ä Çq=Ä "0":=λz=>by injection z with z;rw[l]at z;have:=ŕ (λs:ah=>s.cps[0]?) z;have:U (48+n)=U 48:=this;rw[xL];lia
  refine Y1 (λd=>Ç (Ī d) e) (λ_=>Y9 ?_);refine(_,rfl,n,rfl,g,?_);exact Úq
def NmS(s:ah):Prop:=AZ s/\1<=ĝ/\ĝ<=8
def RdW(k a:ah)(v:V):Prop:=(k = "name"/\v=.str a/\NmS a)\/(k = "key"/\∃x,a=kT0 x/\v=.str x/\AZ x/\ĕ<=40)\/(k = "many"/\∃n:Nat,a=W0 n/\v=.int n/\n<10)
def HX:Sp:=λvs H Q _=>X3 λ(k a:ah) (v:V)=>C3 (vs=[.str k,.str a]) (RdW k a v) (Q v H)
theorem Zoy(T:Õ)(a:Å4)(e:#[e6,2,"read_name","word",Ib])(g:#[e6,2,"read_key","word",Ia])(i:Df P w K mg Â 2 "read_number" Ís HY):Df P w K mg Â 3 "read_word" Ír HX:=by
 rw[d2,T.t_read_word.df,N5,j,b];refine(_,#[Zc,#[ZK,#[ig,0],#[Zg,#[Zl,#[se,e,b]]],ë],#[Zc,#[ZK,#[ig,0],#[Zg,#[Zl,#[se,g,b]]],ë],#[Zc,#[YD,#[ZF,Pw,#[UO,a.m_BOUNDS],‹0›],#[hW,N5.nd]],#[Zg,#[Zl,#[Zy,i,b,#[fa,1,2,3],Í]]]]]],?_);obtain k|z|v|rfl|l|q:=h;rcases l with⟨rfl,rfl,c,m,o⟩|⟨rfl,k,rfl,rfl,c,p⟩|⟨rfl,n,rfl,rfl,r⟩
 ·exact(_,rfl,rfl,_,rfl,YH (_,rfl,z,rfl,c,m,o,q))
 ·refine Ów;exact(_,rfl,rfl,_,rfl,YH (_,rfl,k,rfl,c,p,q))
 ·refine Ów;refine Ów;rw[g6,t,u,x,a.d_BOUNDS_many];refine(_,rfl,bL, "many",.ref t,_,rfl,rfl,a.kd_BOUNDS,u,rfl,t,_,rfl,x H,rfl,_,_,rfl,_,_,rfl,rfl,?_);exact(_,rfl,_,rfl,_,rfl,n,0,1000000,rfl,r,by lia,by lia,q)
theorem HW{k:ah}(h:¬ k = ""):¬ Ä k=Ä "":=λz=>by injection z with z;exact h z
def HV:Sp:=λvs H Q _=>X2 λ(k:V) (m:Int)=>C3 (vs=[k,.int m]) (((k=.non/\m=0)\/k=.str "key")) (Q Æv H)
theorem Zu3(T:Õ):Df P w K mg Â 1 "may_be_further" Êk HV:=by
 rw[d2,T.t_may_be_further.df,Zgd,a,hr];refine(_,#[Zc,#[ZK,#[g0,0],#[Zg,#[Zl,#[XJ,YI,‹1›,Ü,ú]]],ë],#[Zg,#[Zl,(@Zvw _ _ _ _ _ _ _ Úp (@Um _ _ _ _ _ (@Zps _ _ _ _ _ _ _ _ _ _ _ _ VY VY Ü ‹1› #[VT,T.g_MOST_SIZES] À8)))]]],?_);rw[sH,k,m,b];rcases b with⟨rfl,rfl⟩|rfl
 ·exact(_,rfl,rfl,_,rfl,Y1 (λ_=>(_,rfl,rfl,q)) (λd=>Ç ÎD d))
 ·refine Úr;refine Èe;rw[show (!decide (Ä "key" = Ä "size"))=true by ac_rfl];exact YH q
def Ta:Sp:=λvs H Q _=>∃k:ah,vs=[.str k]/\Q (.str (kT0 k)) H
theorem Zs4(T:Õ):Df P w K mg Â 1 "written_key" ["key"] Ta:=by
 rw[d2,T.t_written_key.df,ZhK,b,hr];obtain k|rfl|q:=h;refine(_,#[Zg,#[Zl,#[ZY,#[ec,WQ,0,á],‹0›,Óu]]],_,rfl,rfl,_,rfl,?_);unfold kT0 at q;by_cases a:k = ""
 ·rw[ri];rw[đ rfl];exact Y9 q
 ·rw[tz];exact YH ÊB
theorem ZtS(T:Õ):Df P w K mg Â 1 "_law_key_text" Ít Ta:=by
 rw[d2,T.t_l_key_text.df,Ziu,b,hr];obtain k|rfl|q:=h;refine(_,#[Zg,#[Zl,#[ZY,#[ig,0],á,‹0›]]],_,rfl,rfl,_,rfl,?_);unfold kT0 at q;by_cases a:k = ""
 ·rw[ri];exact YH q
 ·rw[tz];exact Y9 ÊB
theorem Ut(k:ah):(kT0 k).length<=Åv+1:=by
 unfold kT0;split
 ·exact Qk (by decide:("-" : ah).length<=1) Á
 ·lia
theorem HU(x:ah):ÁY++x=x:=by obtain⟨l⟩:=x;show (⟨#[]++l⟩:ah)=⟨l⟩;simp
def thT(nm k:ah):ah:=nm ++ ":"++kT0 k
def thO(nm:ah):Ã ah->ah
 | none=>nm ++ ":."
 | some k=>thT nm k
def HS:Sp:=λvs H Q _=>X2 λ(nm:ah) (k:Ã ah)=>C4 (vs=[.str nm,oV k]) (ÊW<=90) ((∀x,k=U x->ĕ<=1000)) (Q (.str (thO nm k)) H)
theorem ZoM(T:Õ)(i:#[e6,1,"written_key","key",Ta]):Df P w K mg Â 2 "written_thing" Êj HS:=by
 rw[d2,T.t_written_thing.df,Zgr,j,l];rw[fY,b,k,hn,m];refine(_,#[Zg,#[Zl,#[ZY,#[g0,1],#[VS,#[hH,Pu,0]],#[VS,#[XX,#[hv,Pu,0],#[XX,á,#[XX,(@Pu _ _ _ _ #[se,i,l]),(@UP _)]]]]]]],?_);have a0:ah.empty.length=0:=rfl;have l0:(ÁY++b).length<=90:=by rw[QL];lia
 have a:∀ {n:Nat},n<=1102->n<=aq:=λh=>Qk h Ñr;cases k with
 | none =>
  have e2:#[fl,":.",2]:=by ac_rfl
  have e:(ÁY++b ++ ":.").length<=101:=by rw[QL];lia
  refine(_,rfl,rfl,_,rfl,Y1 Å3 (λd=>Ç ÎD d));refine(_,rfl,_,rfl,Ĭ Á,_,rfl,a Á,_,rfl,a Á,?_);have c:Q (.str (b ++ ":.")) H:=q;rw[HU]at e ⊢;exact(a Á,c)
 | some k =>
  have fW:=m k rfl;refine Úr;have p8:=Ut k;have e1:Èf:=by ac_rfl
  have e:(ÁY++b ++ ":").length<=101:=by rw[QL];lia
  have g:(ÁY++b ++ ":"++kT0 k).length<=1102:=by rw[QL];lia
  refine(_,rfl,_,rfl,Ĭ Á,_,rfl,a Á,_,rfl,a Á,_,rfl,k,rfl,_,rfl,a Á,_,rfl,a Á,?_);have c:Q (.str (b ++ ":"++kT0 k)) H:=q;rw[HU]at g ⊢;exact(a g,c)
def S9(K:Å):Sp:=λvs H Q _=>X2 λ(l:aa) (ws:À ah)=>C4 #[ff,l] (SqL K H l (ÁE Ä)) ((ÁE ÀT).sum+ż<=1000000) (Q (.str (if ws=[] then "-" else ō " " ws)) H)
theorem Zn6(T:Õ):Df P w K mg Â 1 "with_blanks" ["words"] (S9 K):=by
 rw[d2,T.t_with_blanks.df,ZhM,c,hr];rw[fY,l,ws,b,hs];refine(_,#[Zg,#[Zl,#[ZY,#[rp,Wt,ÅK],#[hi,Áf],Óu]]],_,rfl,l,_,rfl,.inl b,_,_,rfl,rfl,_,rfl,?_);rw[Qa];by_cases a:ws=[]
 ·rw[ri];exact Y9 q
 ·rw[iv,a,q];have hp:0<ż:=List.length_pos_iff.mpr a;refine YZ Á (rfl,_,rfl,_,l,ws,rfl,rfl,b,?_,q);have d:Èg:=by ac_rfl
  rw[d];lia
theorem Ztf{x:ah}(a:AZ x)(h:ĕ<=1000):Åu Ä8=true:=by unfold Åu;rw[Q6,Q6];refine((by simp[ÄG,a.ok],by simp[ÅO]),đ ?_);have e:x.cps.size=ĕ:=rfl;show x.cps.size<=2 ^ 20;rw[e];exact Qk h Ì
def HR:Sp:=λvs H Q _=>X5 λ(a b:aa) (c:ah) (ps ks:À ah)=>C9 (vs=[.str c,.ref a,.ref b]) (H a=U #[ei,ps.map]) (H b=U Ái) (Àu<=10) (ÁB<=90) (Ņ<=10) (#[fV,ps,20]) (#[fV,ks,90]) (∀H',ZB H H'->Q (.str (ō " " (c::ps++Ρ kT0))) H')
theorem Zn2(T:Õ)(cU:Ús):Df P w K mg Â 2 "_law_words" ÅH HR:=by
 rw[d2,T.t_l_words.df,Zm1,vs,W];obtain a|b|d|e|ks|rfl|ha|hb|p10|k100|w10|J|dD|q:=h;refine(_,#[Zg,#[Zl,#[ZZ,K,QO,Qad,Qae,(Vt K),á,#[Zd,#[ZM,VX,#[ZM,VX,#[ZW,Áf],#[W7,NZ,ÎE,#[gk,3,NZ],Àk,(λ_ _ _ _=>#[WW,(T7 K W),Å5,Å6,#[Zd,#[cw,3,NZ]]])]],#[W7,R9,#[iL,K,‹2›],#[gk,3,R9],Àk,(λ_ _ _ _=>#[Zy,cU,W,#[Zd,#[cw,3,R9]],#[ie,R9]])]]]]]],?_);refine(rfl,_,rfl,#[ep,1,aq],λc hc=>?_);have z:=Zi hc Út;rw[yV,X,H,c,Út];have L:=z _ _ ha;have Y:=z _ _ hb;generalize upd H c (.lst [.str d])=H1 at z X L Y ⊢;rw[sb,a,L,D,Z];refine Vf (K:=K) (a:=a) (xs:=e.map Ä) (λi zs n p=>(∃v:Ã V,n=Úu)/\zs=(e.take i).map Ä/\i<=e.length/\p D=U Àe/\ZB H1 p) ?_ #[fu,L] ?_ ?_
 ·exact#[fA,Z]
 ·rw[rI,n,p,g,B,r];cases j:e[i]? with
  | none=>rw[j]at g;cases g
  | some x =>
  rw[eh,j,g,M,e.length];have az:=(J x (Qp j)).2;refine(_,rfl,_,.str x,rfl,.str x,Ztf az (Qk (J x (Qp j)).1 Ì),rfl,rfl,B,(by rw[Qa,QA,aP];lia),ü,?_,M,Zb,λN o t=>?_)
  ·rw[QH,j,Qf];rfl
  ·rw[rF,t,Z,r,N,o]
 rw[hI,n,p,B,r];refine(c,D,_,_,rfl,rfl,r _ _ X,B,(by show 1+_<=_;rw[Qa,aP];lia),λC jT=>?_);have O:=Zi jT Úv;have AU:(upd p C Úv) C=U (.lst ((d::e).map Ä)):=Zb;have R:=O _ _ (r _ _ Y);have Gi:=(z.trans r).trans O;generalize upd p C (.lst ([.str d]++e.map Ä))=H3 at O AU R Gi ⊢;rw[sb,b,R,D',tX];refine Vf (K:=K) (a:=b) (xs:=Ρ Ä) (λi zs n F=>(∃v:Ã V,n=Úu)/\zs=((ks.take i).map kT0).map Ä/\i<=ÁB/\F D'=U Àe/\ZB H3 F) ?_ #[fu,R] ?_ ?_
 ·exact#[fA,tX]
 ·rw[rI,n,F,g,G,I];cases j:ks[i]? with
  | none=>rw[j]at g;cases g
  | some x =>
  rw[eh,j,g,M,ÁB];refine(_,rfl,x,rfl,G,Úw,ü,?_,M,Zb,λN o t=>?_)
  ·rw[QH,j,Qf,Qf];rfl
  ·rw[rF,t,tX,I,N,o]
 rw[hI,n,F,G,I];refine(C,D',_,_,rfl,rfl,I _ _ AU,G,(by rw[Qa,Qa,Qa,Qq,aP];lia),λe2 tO=>?_);rw[<- Qf];have tu:∀ (m:Nat) (l:À ah),(∀s∈l,ĝ<=m)->(ÂN ÀT).sum<=Ů*m:=λm l=>by
  induction l with
  | nil=>intro _;simp
  | Ë a l ih=>intro h;rw[ry,h1,h2,ih,s,u];rw[Ql,QR,Qq,Ð2];lia
 have t1:=tu 20 e λs u=>(J s u).1;have t2:=tu 101 Úx λs u=>by obtain k|hk|rfl:=Ľ u;have:=(dD k hk).1;have:=Ut k;lia
 rw[Qa]at t2;have iP:((d::e++Ρ kT0).map ÀT).sum+(d::e++Ρ kT0).length<=100000:=by rw[List.cons_append,Ql,QR,Qf,Qao,Qq,Qd,Qa];lia
 have S:Èg:=by ac_rfl
 exact(_,e2,_,rfl,rfl,É Zb,#[sg,S,Nat.mul_one],q _ ((Gi.trans I).trans (Zi tO _)))
structure DS where
 P:À ZG
 nb:Int
 li:Int
 lo:Int
 nm:À (ah×Int)
inductive Od where
 | row (s:ah) (ks:À ah)
 | Ő (s:ah) (ks:À ah)
 | ő (s:ah)
 | ĭ (n:Nat)
 | Ào
 | ξ
 | left
 | ů
def Y0(nm:ų)(n:Int):ah:=((ÎF λe=>decide (e.2=n)).map ù).getD ""
def blT(ws:Ê):ah:=if ws=[] then "-" else ō " " ws
def Wg(P:ý)(nm:ų):À ah:=Àx λx=>thO (Y0 nm x.1) x.2.1[x.2.2]?
def WZ(i:Int):ah:=Èb Ì6
def Wf(P:ý)(n:Int)(ks:Ê):À ZG:=Àx λx=>if x.1=n then (x.1,x.2.1++ks,x.2.2,) else x
def Us(P:ý)(n:Int):À ZG:=P.filter λx=>decide (x.1≠n)
structure SOk (S:DS):Prop where
 num:ÎG ě=Z1 S.P
 nd:(ÎG ù).Nodup
 ndP:(Z1 S.P).Nodup
inductive YQ:DS->Od->ah->DS->Prop
 | row {P:À ZG} {nb li lo:Int} {nm:À (ah×Int)} {s:ah} {ks:À ah} {k q:Int}:(∀e∈nm,e.1≠s)->Ĝ ks=true->ÆR<16->YF (hdP (P++[(nb,ks,0,)])) 8 (Z1 (P++[(nb,ks,0,)])) k q->YQ (P,nb,li,lo,nm) (.row s ks) "done" (P++[(nb,ks,0,)],nb+1,li+k,lo+q,nm++[(s,nb,)])
 | ÁL {S:DS} {s:ah} {ks:À ah}:((∃e∈Ž,e.1=s)\/Ĝ ks=false\/16<=ÎH)->YQ S (.row s ks) "refused" S
 | Ő {P:À ZG} {nb li lo:Int} {nm:À (ah×Int)} {s:ah} {ks:À ah} {x:ZG} {k q:Int}:(s,x.1,)∈nm->x∈P->Ĝ (x.2.1++ks)=true->((x.2.2<x.2.1.length\/ks=[])/\k=0/\q=0\/x.2.2=x.2.1.length/\ks≠[]/\YF (hdP (Wf P x.1 ks)) 8 (Z1 P) k q)->YQ (P,nb,li,lo,nm) (.grow s ks) "done" (Wf P x.1 ks,nb,li+k,lo+q,nm)
 | ÁM {S:DS} {s:ah} {ks:À ah}:((∀e∈Ž,e.1≠s)\/∃x∈S.P,(s,x.1,)∈Ž/\Ĝ (x.2.1++ks)=false)->YQ S (.grow s ks) "refused" S
 | ő {P:À ZG} {nb li lo:Int} {nm:À (ah×Int)} {s:ah} {n k q:Int}:(s,n,)∈nm->YF (hdP (Us P n)) 8 (Z1 (Us P n)) k q->YQ (P,nb,li,lo,nm) (.drop s) "done" (Us P n,nb,li+k,lo+q,ÊX λe=>decide (e.1≠s))
 | ÁN {S:DS} {s:ah}:(∀e∈Ž,e.1≠s)->YQ S (.drop s) "refused" S
 | ĭ {P P':À ZG} {nb li lo:Int} {nm:À (ah×Int)} {n:Nat} {ts:À YO} {k q:Int}:YL P ts P' k q->Óh=min n (YG P)->YQ (P,nb,li,lo,nm) (.take n) (blT (ts.map λt=>thT (Y0 nm t.1) t.2.2)) (P',nb,li+k,lo+q,nm)
 | Ào {S:DS}:YQ S .counts (WZ Δ ++ " "++WZ S.lo) S
 | Âi {S:DS}:Win (hdP S.P) (Z1 S.P) af->YQ S .coming "-" S
 | com {S:DS} {x:ZG} {z:ah}:x∈S.P->x.2.1[x.2.2]? = U z->Win (hdP S.P) (Z1 S.P) (U x.1)->YQ S .coming (thT (Y0 Ž x.1) z) S
 | left {S:DS}:YQ S .left (WZ (YG S.P:Nat)) S
 | ů {S:DS}:YQ S .rows (blT (Wg S.P Ž)) S
theorem Ur{α a:Type}:∀ {P:À (α×a)},(Àx ě).Nodup->∀ {p q:α×a},p∈P->q∈P->p.2=q.2->p=q
 | [],_,_,_,h,_,_=>by cases h
 | x::r,nd,p,q,hp,hq,e=>by
  rw[Ql,Q9]at nd;rcases ħ hp with h1|h1
  ·rcases ħ hq with h2|h2
   ·rw[h1,h2]
   ·exact Ç (show x.2∈ÂK ě by rw[<- h1,e];exact #[y0,x.2,h2]) nd.1
  ·rcases ħ hq with h2|h2
   ·exact Ç (show x.2∈ÂK ě by rw[<- h2,<- e];exact #[y0,x.2,h1]) nd.1
   ·exact Ur nd.2 h1 h2 e
theorem SOk.ndN{S:DS}(h:SOk S):(ÎG ě).Nodup:=by rw[ÄN];exact h.ndP
theorem SOk.row1{S:DS}(h:SOk S){s:ah}{x y:ZG}(hx:x∈S.P)(hy:y∈S.P)(a:(s,x.1,)∈Ž)(b:(s,y.1,)∈Ž):x=y:=by have e:=Yh h.nd a b rfl;injection e with _ e;exact Yh h.ndP hx hy e
theorem SOk.has{S:DS}(h:SOk S){x:ZG}(hx:x∈S.P):∃s,(s,x.1,)∈Ž:=by
 have:x.1∈ÎG ě:=by rw[ÄN];exact Qg (f:=Å1) hx
 obtain e|a|z:=ÊY;exact(e.1,by rw[<- z];exact a)
theorem SOk.at'{S:DS}(h:SOk S){s:ah}{n:Int}(hx:(s,n,)∈Ž):∃x∈S.P,x.1=n:=by
 have:n∈Z1 S.P:=by rw[<- ÄN];exact Qg (f:=λe:ah×Int=>e.2) hx
 exact ÊY
theorem YQ.one{S:DS}(h:SOk S){o:Od}{a b:ah}{S1 S2:DS}(g1:YQ S o a S1)(i:YQ S o b S2):a=b/\S1=S2:=by
 cases g1 with
 | row c f d g =>
  cases i with
  | row _ _ _ h5=>obtain rfl|rfl:=g.one h5;exact ć
  | ÁL h5 =>
   rcases h5 with⟨e,k,z⟩|h5|h5
   ·exact Ç z (c e k)
   ·rw[hL,f,h5]
   ·exact Ç d (ÉS h5)
 | ÁL h5 =>
  cases i with
  | row c f d g =>
   rcases h5 with⟨e,k,z⟩|h5|h5
   ·exact Ç z (c e k)
   ·rw[hL,f,h5]
   ·exact Ç d (ÉS h5)
  | ÁL _=>exact ć
 | Ő c f d g =>
  cases i with
  | Ő h5 j h7 m =>
   have e:=h.row1 f j c h5;subst e;rcases g with⟨a1,rfl,rfl⟩|⟨a1,n,p⟩
   ·rcases m with⟨_,rfl,rfl⟩|⟨b1,q,_⟩
    ·exact ć
    ·rcases a1 with a1|a1
     ·exact Ç b1 (QB a1)
     ·exact Ç a1 q
   ·rcases m with⟨b1,_⟩|⟨_,_,r⟩
    ·rcases b1 with b1|b1
     ·exact Ç a1 (QB b1)
     ·exact Ç b1 n
    ·obtain rfl|rfl:=p.one r;exact ć
  | ÁM h5 =>
   rcases h5 with h5|⟨y,l,h5,j⟩
   ·exact #[s3,h5]
   ·rw[uK]
 | ÁM h5 =>
  cases i with
  | Ő c f d g =>
   rcases h5 with h5|⟨y,l,h5,j⟩
   ·exact #[s3,h5]
   ·rw[uK]
  | ÁM _=>exact ć
 | ő c f =>
  cases i with
  | ő d g=>have e:=Yh h.nd c d rfl;injection e with _ e;subst e;obtain rfl|rfl:=f.one g;exact ć
  | ÁN d=>exact #[s3,d]
 | ÁN d =>
  cases i with
  | ő c _=>exact #[s3,d]
  | ÁN _=>exact ć
 | ĭ c f =>
  cases i with
  | ĭ d g=>obtain rfl|rfl|rfl|rfl:=YL.one h.ndP c d (f.trans g.symm);exact ć
 | Ào=>cases i;exact ć
 | left=>cases i;exact ć
 | ů=>cases i;exact ć
 | Âi c =>
  cases i with
  | Âi _=>exact ć
  | com _ _ f=>exact nomatch c.one f
 | com c f d =>
  cases i with
  | Âi g=>exact nomatch g.one d
  | com g h5 j=>have e:=Yh h.ndP c g (Qu (d.one j));rw[hs,e,f,h5];exact ć
structure SBd (S:DS):Prop where
 few:ÎH<=16
 nb0:0<=S.nb
 nb1:S.nb<=200
 lt:∀x∈S.P,0<=x.1/\x.1<S.nb
 len:∀x∈S.P,x.2.1.length<=180
 li:S.li.natAbs<=100000000
 lo:S.lo.natAbs<=100000000
 nmz:∀e∈Ž,AZ e.1/\e.1.length<=8
inductive We (S:DS):À Od->À ah->DS->Prop
 | nil:We S [] [] S
 | ė {os:À Od} {as:À ah} {S1 S2:DS} {o:Od} {a:ah}:We S os as S1->SOk S1->SBd S1->YQ S1 o a S2->We S (os++[o]) (as++[a]) S2
theorem We.len{S:DS}{os:Ę}{a:Ê}{S1:DS}(h:We S os a S1):ĳ=Àp:=by
 induction h with
 | nil=>rfl
 | ė _ _ _ _ b=>rw[Qd,Qd,b];rfl
def MG(hd:Hd)(m:Nat):Prop:=∀a x,hd a=U x->ĕ<=m
theorem YF.bd{hd:Hd}{m:Nat}(hm:MG hd m){n:Nat}{N:Ô}{k l:Int}(h:YF hd n N k l):0<=k/\k+1<=((2 ^ n:Nat):Int)/\0<=l/\l<=k*ÊZ:=by
 induction h with
 | few _=>refine(Qaj _,?_,Qaj _,by lia);rename_i n _ _;have:=Nat.two_pow_pos n;lia
 | none _ _ _ _ c d=>rename_i n N k l k' e _ _ _ _;rw[qJ];rw[Qbv];lia
 | both _ _ _ _ _ f hy c d=>rename_i n N k l k' e a b x y _ _ _ _ _;have:=(VN x y).1;have:=hm _ _ f;rw[qJ];rw[Qbv,Qbv];lia
theorem Ag.bd{hd:Hd}{m:Nat}(hm:MG hd m){z:Ō}{C:À ÊQ}{k q:Int}(h:Ag hd z C k q):0<=k/\k<=(Ãh:Int) /\ -(k*ÊZ)<=q/\q<=k*ÊZ:=by
 induction h with
 | nil=>exact(Qaj _,Qaj _,by lia,by lia)
 | no _ _ c=>rw[Qd,Qx];lia
 | eq _ _ _ d e f c=>rename_i C A B k q a b x y _ _ _;have:=(VN x y).1;have:=(VN x z).1;have:=hm _ _ d;rw[Qd,Qx,Qbv];lia
 | ne _ _ _ d e f c=>rename_i C A B k q a b x y _ _ _;rw[Qd,Qx,Qbv];lia
def WY(P:ý)(m:Nat):Prop:=∀x∈P,∀s∈x.2.1,ĝ<=m
theorem WY.hd{P:ý}{m:Nat}(h:WY P m):MG (hdP P) m:=λa x hx=>by
 unfold hdP hdL at hx;cases b:(Àx λx:ZG=>((x.1,0,x.2,):X1)).find? λe=>decide (e.1=a) with
 | none=>rw[b]at hx;cases hx
 | some y =>
  rw[b]at hx;have d:=Qab b;rw[d9,z,f,d];simp only[Ò9]at hx;cases c:z.2.1[z.2.2]? with
  | none=>rw[c]at hx;cases hx
  | some s=>rw[c]at hx;injection hx with hx;rw[<- hx,NQ];exact h z f s (Qp c)
theorem WY.bump{P:ý}{m:Nat}(h:WY P m)(n:Int):WY (Xp P n) m:=λx hx s hs=>by obtain y|a|rfl:=Ľ hx;refine h y a s ?_;unfold WA at hs;split at hs<;>exact hs
theorem YL.keyLe{P a:ý}{b:Àn}{k q:Int}(h:Îq){m:Nat}(hk:WY P m):WY a m:=by
 induction h with
 | nil=>exact hk
 | ė _ _ c=>exact c.bump _
theorem HQ:∀ (k:Nat) (M:À Int) (n:Int),(Óa).length<=k
 | 0,_,_=>Qj _
 | k+1,M,n=>by
  unfold Z6;split
  ·rw[Qd,Qx];have:=HQ k Ų n;lia
  ·exact Qt _
theorem YL.bd{P d:ý}{a:Àn}{k q:Int}(h:YL P a d k q){m:Nat}(hk:WY P m):0<=k/\k<=8*Á5 /\ -(k*ÊZ)<=q/\q<=k*ÊZ:=by
 induction h with
 | nil=>exact(Qaj _,by simp,by lia,by lia)
 | ė h s ih=>have b:=s.2.2.2.bd ((h.keyLe hk).bump _).hd;have c:=HQ 8 (Z1 ‹À ZG›) (‹ZG›).1;unfold Uw at b;rw[Qa]at b;rw[Qd,Qx,Qbv];lia
def HP:Od->Prop
 | .row _ ks=>∀s∈ks,ĝ<=1000
 | .grow _ ks=>∀s∈ks,ĝ<=1000
 | .take n=>n<=30
 | _=>ŗ
theorem HN{P:ý}{m:Nat}(h:WY P m)(n:Int){ks:Ê}(hk:∀s∈ks,ĝ<=m):WY (Wf P n ks) m:=λx hx s hs=>by
 rw[d9,y,a,hx];split at hs
 ·rcases ß hs with hs|hs
  ·exact h y a s hs
  ·exact hk s hs
 ·exact h y a s hs
theorem YQ.bd{S i:DS}{o:Od}{a:ah}(g:YQ S o a i)(hk:WY S.P 1000)(j:HP o):(i.li-Δ).natAbs<=300/\(i.lo-S.lo).natAbs<=300300:=by
 cases g with
 | row f h r d =>
  rename_i P l c lo p s ks k q;have b:=d.bd (m:=1000) (WY.hd λx hx s e=>by
   rcases ß hx with hx|hx
   ·exact hk x hx s e
   ·rw[Ý hx]at e;exact j s e)
  rw[bU];lia
 | ÁL _=>show (Δ-Δ).natAbs<=_/\#[l0].natAbs<=_;lia
 | Ő f h r d =>
  rename_i P l c lo p s ks x k q;rw[bU];rcases d with⟨_,rfl,rfl⟩|⟨_,_,d⟩
  ·lia
  ·have b:=d.bd (HN hk x.1 j).hd;lia
 | ÁM _=>show (Δ-Δ).natAbs<=_/\#[l0].natAbs<=_;lia
 | ő f h=>rename_i P l c lo p s n k q;have b:=h.bd (m:=1000) (WY.hd λx hx s e=>hk x #[tn].1 s e);rw[bU];lia
 | ÁN _=>show (Δ-Δ).natAbs<=_/\#[l0].natAbs<=_;lia
 | ĭ f h=>rename_i P P' l c lo p n ts k q;have b:=f.bd hk;have hn:n<=30:=j;rw[bU];lia
 | Ào=>show (Δ-Δ).natAbs<=_/\#[l0].natAbs<=_;lia
 | left=>show (Δ-Δ).natAbs<=_/\#[l0].natAbs<=_;lia
 | ů=>show (Δ-Δ).natAbs<=_/\#[l0].natAbs<=_;lia
 | Âi _=>show (Δ-Δ).natAbs<=_/\#[l0].natAbs<=_;lia
 | com _ _ _=>show (Δ-Δ).natAbs<=_/\#[l0].natAbs<=_;lia
theorem HM:∀ss:À ah,(∀i x y,ss[i+1]? = U x->ss[i]? = U y->0<=ZS þ Ė)->Ót LeS
 | [],_=>.nil
 | [x],_=>Qa9 ..
 | x::y::r,h=>by
  have ih:=HM (y::r) λi a b h1 h2=>h (i+1) a b h1 h2;have c:LeS x y:=λz=>by have:=(NK _ _).mp z;have:=h 0 y x rfl rfl;unfold cds at this;lia
  refine List.pairwise_cons.mpr (λb hb=>?_,ih);rcases ħ hb with rfl|hb
  ·exact c
  ·exact c.trans ((Ós ih).1 b hb)
theorem ZuL(ss:Ê):Ĝ ss=true\/∃k:Nat,WM ss ÍG:=by
 have h:∀n:Nat,(∀i,i<n->∀x y,ss[i+1]? = U x->ss[i]? = U y->0<=ZS þ Ė)\/∃k:Nat,WM ss ÍG:=λn=>by
  induction n with
  | zero=>exact .inl λi g=>Ç g (Úy i)
  | succ n ih =>
   rcases ih with ih|ih
   ·cases f:ss[n+1]? with
    | none =>
     refine .inl λi g x y c d=>?_;by_cases e:i=n
     ·rw[eM,e,f,c]
     ·exact ih i Á x y c d
    | some x =>
     have l:=(Į f).1;have j:ss[n]? = U (ss[n]' Á):=Qb Á;by_cases m:ZS þ (cds (ss[n]' Á))<0
     ·refine .inr (n,.inr (n,rfl,l,λa b c d=>?_,ih));rw[f]at c;rw[fL,j,d,c];cases d;exact m
     ·refine .inl λi g a b c d=>?_;by_cases e:i=n
      ·subst e;rw[f]at c;rw[fL,j,d,c];cases d;lia
      ·exact ih i Á a b c d
   ·exact .inr ih
 rcases h Ο with h|h
 ·refine .inl ((Ic ss).mpr (HM ss λi x y c d=>h i ?_ x y c d));exact(Į d).1
 ·exact .inr h
def kvN(nm:ų):À Âa:=ÄO λe=>(.inr e.1,.int e.2,)
def kvI(nm:ų):À Âa:=ÄO λe=>(.inl e.2,.str e.1,)
theorem ZpT(nm:ų):(kvN nm).map ù=(ÄO ù).map (Ál:ah->Key):=by unfold kvN;rw[Qo,Qo];rfl
theorem MF{nm:ų}(nd:(ÄO ù).Nodup){s:ah}{n:Int}(h:(s,n,)∈nm):Y3 (kvN nm) (.inr s)=U Ät :=
 UR (by rw[ZpT];exact Úz) (Qg (f:=λe:ah×Int=>((.inr e.1:Key),í e.2,)) h)
theorem ME{nm:ų}{s:ah}(h:∀e∈nm,e.1≠s):Y3 (kvN nm) (.inr s)=af:=by
 cases a:Y3 (kvN nm) (.inr s) with
 | none=>rfl
 | some v=>obtain e|b|z:=Ľ (US a);injection z with z _;exact Ç Å7 (h e b)
theorem Zq8(nm:ų)(s:ah):WE (kvN nm) (.inr s)=kvN Èh:=by unfold WE kvN;rw[Qaq];congr 1;exact QaU λe _=>ÇL #[rq,Ál,e.1,Å7]
theorem MD(nm:ų)(s:ah):(∀e∈nm,e.1≠s)\/∃n,(s,n,)∈nm:=by
 by_cases h:∃e∈nm,e.1=s
 ·obtain e|a|rfl:=h;exact .inr (e.2,a)
 ·exact ÚA
def dsO(X:MS)(nm:ų):DS:=(ZQ X.L,Ĉ,ğ,Ġ,nm)
structure DOk (cR cM:aa) (H:Hp) (X:MS) (nd:aa) (nm:ų):Prop where
 mg:MOk cR cM H X
 at':H nd=U #[rG,nm]
 sep:¬ MFp X nd
 ok:SOk ÀH
section
variable {cR cM:aa} {H H':Hp} {X:MS} {nd:aa} {nm:À (ah×Int)}
theorem DOk.same(D:Áj)(s:Àa):DOk cR cM H' X nd nm:=(D.mg.same s,s _ _ Ĵ,ο,D.ok)
theorem DOk.keep(D:Áj)(k:∀b o,H b=U o->MFp X b\/b=nd\/ÒW->H' b=U o):DOk cR cM H' X nd nm :=
 (D.mg.keep λb o a h=>k b o a (ω .inl λz=>.inr (.inr z)),k _ _ Ĵ ÅE,ο,D.ok)
theorem DOk.rows{s:ah}{n:Int}(D:Áj)(h:(s,n,)∈nm):∃e∈X.L,e.n=n:=by obtain x|a|rfl:=D.ok.at' h;obtain e|b|rfl:=Ľ a;exact(e,b,rfl)
structure DTo (cR cM:aa) (H H':Hp) (X X':MS) (nd:aa) (nm gG:ų) (o:Od) (a:ah):Prop where
 st:YQ ÀH o a (dsO X' gG)
 D:DOk cR cM H' X' nd gG
 m:X'.m=X.m
 fp:∀b,MFp X' b->MFp X b\/H b=af
 k:∀b u,H b=U u->¬ MFp X b->b≠nd->H' b=U u
theorem DOk.stay{o:Od}{a:ah}(D:Áj)(st:YQ ÀH o a ÀH)(s:Àa):DTo cR cM H H' X X nd nm nm o a:=(st,Ê0 s,rfl,λ_ h=>.inl h,λb u hb _ _=>s b u hb)
theorem DTo.same{c:Hp}{e:MS}{f:ų}{o:Od}{a:ah}(d:DTo cR cM H H' X e nd nm f o a)(s:ZB H' c):DTo cR cM H c X e nd nm f o a:=(d.st,d.D.same s,d.m,d.fp,λb u hb g h=>s _ _ (d.k b u hb g h))
theorem MC{m rd sd:aa}{L:ó}{s:StL}{nb li lo:Int}{a:V}(M:#[fq,cR,cM,a]):(Ű).length<=2 ^ (8-1):=Qk (show (ZC L).length<=60 by unfold ZC;rw[Qa];exact Âg) Ì
theorem DOk.add{s:ah}{ks:Ê}{e:Zz}{f:aa}{s':StL}{w:Β}{k q:Int}(D:Áj)(B:SBd ÀH)(hs:∀e∈nm,e.1≠s)(srt:#[sQ,ks])(n:Óx<16)
  (p:e.n=Ĉ) (r:Ö=ks) (t:e.g=0) (hp:H e.p=af) (hk:H e.k=af) (v:H e.f=af) (i:H f=af) (W:Win (hdM ÂT) (ZC ÂT) w) (St:XN (hdM ÂT) s' 8 (ZC ÂT)) (j:YF (hdM ÂT) 8 (ZC ÂT) k q)
  (M:ZO cR cM H' X.m Ķ f ÂT s' (Ĉ+1) (ğ+k) (Ġ+q) (Yx w)) (kp:#[ss,X.m,Ķ,H']) :
  ∃A,DTo cR cM H (upd H' nd (.dK (kvN ÚB))) X A nd nm ÚB ÎI "done":=by
 have g:ZQ ÂT=ZQ X.L++[(Ĉ,ks,0,)]:=by unfold ZQ;rw[Qf,ÚC,p,r,t]
 have l:¬ MFp ÚD nd:=λz=>by
  have d:=Ĵ;rcases z with z|z|z|⟨x,hx,z⟩
  ·exact Óy
  ·exact ο Âh
  ·rw[iB,f,i,d]
  ·rcases ß hx with hx|hx
   ·exact ο #[ii,x,hx]
   ·rw[Ý hx]at z;rcases z with z|z|z
    ·rw[sq,hp,d]
    ·rw[sq,hk,d]
    ·rw[sq,v,d]
 have C:=kp _ _ Ĵ ÎJ Óz;have Mk:MOk cR cM H' ÚD:=(M,W,Uy 8 _ s' _ M.up (MC M) Ì St);rw[V2,XD,g]at j;refine(_,(?_,(Mk.keep λb o c E=>?_,Zb,l,?_),rfl,λb c=>?_,λb u c m F=>?_))
 ·have:=YQ.row (nb:=Ĉ) (li:=ğ) (lo:=Ġ) hs srt (show (ZQ X.L).length<16 by unfold ZQ;rw[Qa];exact n) j;rw[hE,g]
 ·rw[Zf (λz=>by
   rcases E with y|⟨xs,rfl⟩
   ·exact l #[ev,z,y]
   ·rw[z,C]at c;cases c)]
  exact c
 ·have h:=D.ok;rw[zh,?_,?_]
  ·show (nm++[(s,Ĉ,)]).map ě=Z1 (ZQ ÂT);rw[g,Qf];unfold Z1;rw[Qf];exact ŕ (·++[Ĉ]) ÄN
  ·show ((ÚB).map ù).Nodup;rw[eW,h.nd,G,c,y,I];have:b=s:=by simpa using c
   rw[this];exact hs y I
  ·rw[rJ,ÂT]
 ·rcases c with z|z|z|⟨x,hx,z⟩
  ·exact .inl (.inl z)
  ·exact .inl Âh
  ·rw[fX,f,i]
  ·rcases ß hx with hx|hx
   ·exact .inl #[ii,x,hx]
   ·rw[Ý hx]at z;exact .inr (by rcases z with z|z|z<;>rw[(z)]<;>assumption)
 ·rw[Zf F];exact kp b u c #[gE,m] (λz=>m Âh)
theorem DOk.drop{s:ah}{e:Zz}{c:aa}{s':StL}{w:Β}{k q:Int}(D:Áj)(hs:ÎK)(he:e∈X.L)(j:H c=af)(W:Win Èi Èj w)(St:XN Èi s' 8 Èj)(l:YF Èi 8 Èj k q)
  (M:#[go,Å8]) (t:H' nd=U #[rG,Èh]) (kp:∀b o,H b=U o->b≠X.m->b≠Ķ->b≠nd->H' b=U o) :
  ∃v,DTo cR cM H H' X v nd nm Èh (.drop s) "done":=by
 have d:ZQ Å8=Us ÀG e.n:=by unfold ZQ YR Us;rw[Qaq];rfl
 have h:=D.ok;rw[V2,XD,d]at l;have A:¬ MFp (X.m,Ķ,c,YR X.L e.n,s',Ĉ,ğ+k,Ġ+q,w) nd:=λz=>by
  have m:=Ĵ;rcases z with z|z|z|⟨x,f,z⟩
  ·exact Óy
  ·exact ο Âh
  ·rw[iB,c,j,m]
  ·exact ο ÚE
 refine((X.m,Ķ,c,YR X.L e.n,s',Ĉ,ğ+k,Ġ+q,w),(?_,((M,W,Uy 8 _ s' _ M.up (MC M) Ì St),t,A,?_),rfl,λb g=>?_,λb u g p B=>kp b u g #[gE,p] (λz=>p Âh) B))
 ·have:=YQ.drop (nb:=Ĉ) (li:=ğ) (lo:=Ġ) hs l;rw[hE,d]
 ·rw[zh,?_,?_]
  ·show (ÊX λe=>decide (e.1≠s)).map ě=Z1 (ZQ Å8);rw[d];have C:(ÊX λy=>decide (y.1≠s))=ÊX λy=>decide (y.2≠e.n):=by
    refine QaU λy r=>ÇL ÚF
    ·have:=Ur h.ndN r hs z;rw[this]
    ·have:=Yh h.nd r hs z;rw[this]
   rw[(C)];have i:=ŕ (ÓA λn:Int=>decide (n≠e.n)) ÄN;unfold Z1 at i;rw[Qaq,Qaq]at i;exact i
  ·exact h.nd.sublist Îv
  ·rw[rJ,Å8]
 ·rcases g with z|z|z|⟨x,f,z⟩
  ·exact .inl (.inl z)
  ·exact .inl Âh
  ·rw[fX,c,j]
  ·exact .inl ÚE
theorem DOk.grow{s:ah}{ks:Ê}{e:Zz}{k' a c:aa}{s':StL}{w:Β}{k q:Int}(D:Áj)(hs:ÎK)(he:e∈X.L)(srt:#[sQ,Èa])(hk:H k'=af)(t:H a=af)
  (n:(Óp/\c=Ż/\k=0/\q=0)\/(e.g=Ŝ/\ks≠[]/\H c=af/\YF (hdM ÃD) 8 Å2 k q)) (W:Win (hdM ÃD) Å2 w) (ok:Z5 (hdM ÃD) s' Å2)
  (M:#[go,ÃD]) (kp:#[ss,X.m,e.p,H']) :
  ∃B,DTo cR cM H H' X B nd nm nm Ê1 "done":=by
 have v:ZQ ÃD=Wf ÀG e.n ks:=by unfold ZQ Yz Wf;rw[Qo,Qo];refine QJ λy _=>?_;rw[70];unfold Xo;split<;>rfl
 have h:=D.ok;have C:¬ MFp (X.m,Ķ,c,Yz X.L e.n ks k' a,s',Ĉ,ğ+k,Ġ+q,w) nd:=λz=>by
  have d:=Ĵ;rcases z with z|z|z|⟨x,g,z⟩
  ·exact Óy
  ·exact ο Âh
  ·rcases n with⟨_,i,_⟩|⟨_,_,j,_⟩
   ·exact ο ÚG
   ·rw[iB,c,j,d]
  ·rw[d9,y,l,g];unfold Xo at z;split at z
   ·rcases z with z|z|z
    ·exact ο #[fZ,y,l]
    ·rw[iB,k',hk,d]
    ·rw[iB,a,t,d]
   ·exact ο #[ii,y,l]
 have g:ÂR∈ZQ X.L:=Qg (f:=Ç7) he;refine((X.m,Ķ,c,Yz X.L e.n ks k' a,s',Ĉ,ğ+k,Ġ+q,w),(?_,((M,by rw[Tc];exact W,by rw[Tc];exact ok),kp _ _ Ĵ ÎJ (λz=>ο #[fZ,e,he]),C,?_),rfl,λb p=>?_,λb u p A n2=>kp b u p #[gE,A] (λz=>A #[fZ,e,he])))
 ·have:=YQ.grow (nb:=Ĉ) (li:=ğ) (lo:=Ġ) (k:=k) (q:=q) (ks:=ks) hs g srt (by
   rcases n with⟨r,_,j,m⟩|⟨r,i,_,m⟩
   ·exact .inl (r,j,m)
   ·rw[V2,XD,v]at m;exact .inr (r,i,m))
  have E:Wf ÀG e.n ks=ZQ ÃD:=v.symm;show YQ ÀH Ê1 "done" (ZQ ÃD,Ĉ,ğ+k,Ġ+q,nm);rw[<- E];exact this
 ·rw[zh,?_,h.nd]
  ·show ÄO ě=Z1 (ZQ ÃD);rw[<- XD,Tc,XD];exact ÄN
  ·rw[rJ,ÃD]
 ·rcases p with z|z|z|⟨x,g,z⟩
  ·exact .inl (.inl z)
  ·exact .inl Âh
  ·rcases n with⟨_,i,_⟩|⟨_,_,j,_⟩
   ·exact .inl ÚG
   ·rw[fX,c,j]
  ·rw[d9,y,l,g];unfold Xo at z;split at z
   ·rcases z with z|z|z
    ·exact .inl #[fZ,y,l]
    ·rw[fX,k',hk]
    ·rw[fX,a,t]
   ·exact .inl #[ii,y,l]
universe E
def U9(a s:ah)(ks:Ê)(o:Od):Prop:=(a = "row"/\o=.row s ks)\/(a = "grow"/\o=.grow s ks)\/(a = "drop"/\o=.drop s)
def KsS(ks:Ê):Prop:=ÁB<=5/\∀x∈ks,ĕ<=40/\AZ x
section
variable {cR cM cN cF cO:aa} {H:Hp} {X:MS} {nd ka:aa} {nm:À (ah×Int)} {s:ah} {ks:À ah}
theorem KsS.ok(h:KsS ks):RE ks:=(Qk h.1 Ì,λx hx=>(Qk (h.2 x hx).1 Ì,(h.2 x hx).2))
theorem HL{ss:Ê}(h:Ĝ ss=false):∃k:Nat,WM ss ÍG:=(ZuL ss).elim (λz=>by rw[h]at z;cases z) id
theorem ZrH(nm:ų)(s:ah)(n:Int):kvN nm++[((.inr s:Key),í n,)]=kvN (nm++[(s,n,)]):=by unfold kvN;rw[Qf];rfl
theorem DOk.nmlen(D:Áj):ÊW=(ÀG).length:=by have:=#[eX,D.ok.num];unfold Z1 at this;rw[Qa,Qa]at this;exact this
theorem DOk.small(D:Áj)(B:SBd ÀH):(kvN nm).length<aq:=by have h:(ÀG).length<=16:=ÄP;unfold kvN;rw[Qa,ÎL];exact ZA Á
theorem DOk.num(D:Áj)(B:SBd ÀH){e:Zz}(he:e∈X.L):0<=e.n/\e.n<Ĉ:=B.lt _ (Qg (f:=Ç7) he)
theorem DOk.nb1(B:SBd ÀH):Ĉ<1000000:=by have:=B.nb1;unfold dsO at this;dsimp only at this;lia
theorem ZrA(X:MS)(nm:ų)(s:ah)(b:H ka=U Ái)(c:KsS ks):(∃o,Rf ÀG Ĉ H "add" (.ref ka) .non (U o)/\YQ ÀH ÎI "refused" ÀH)\/(Ĝ ks=true/\Óx<16):=by
 cases a:Ĝ ks with
 | false=>obtain k|e:=HL a;exact .inl (U (Ĉ,#[fO,k],),.inl (rfl,rfl,rfl,ka,ks,rfl,b,c.ok,e),.noRow #[r6,a])
 | true =>
  by_cases f:Óx<16
  ·exact .inr (rfl,f)
  ·have d:16<=(ÀG).length:=by unfold ZQ;rw[Qa];lia
   exact .inl (af,(rfl,rfl,ka,ks,rfl,b,c.ok,a,d),.noRow (.inr (.inr d)))
theorem Zou(nb:Int){e:Zz}(he:e∈X.L)(hs:ÎK)(c:H ka=U Ái)(d:KsS ks):(∃g,Rf ÀG nb H "grow" (.int e.n) (.ref ka) (U (U g))/\YQ ÀH Ê1 "refused" ÀH)\/Ĝ Èa=true:=by
 have b:(ÂR:ZG)∈ZQ X.L:=Qg (f:=Ç7) he;cases a:Ĝ (Ö++ks) with
 | false=>obtain k|h:=HL a;exact .inl ((e.n,#[fO,k],),.inr (rfl,_,b,rfl,rfl,ka,ks,rfl,c,d.ok,h),.noGrow (.inr (_,b,hs,a)))
 | true=>exact Àt
theorem ZqJ(D:Áj)(B:SBd ÀH){e:Zz}(he:e∈X.L)(a:H ka=U Ái)(b:KsS ks):ka≠e.p/\(Èa).length<=200/\∀x∈Ö++ks,ĕ<=1000/\AZ x:=by
 have R:=ÎM e he;refine(λz=>(by obtain de|c:=ÊJ;rw[z,c]at a;cases a),?_,λx hx=>?_)
 ·have h1:Ŝ<=180:=B.len _ (Qg (f:=Ç7) he);have h2:=b.1;rw[Qd];lia
 ·rcases ß hx with hx|hx
  ·exact R.str x hx
  ·exact b.ok.2 x hx
theorem DOk.cut(D:Áj)(a:ų):ZO cR cM #[rr,H,nd,kvN,a] X.m Ķ Ż X.L X.s Ĉ ğ Ġ (Yx X.w):=D.mg.M.keep λb o hb c=>by
 rw[Zf (λz=>by
  rcases c with y|⟨xs,rfl⟩
  ·exact ο #[ev,z,y]
  ·rw[z,Ĵ]at hb;cases hb)]
 exact hb
theorem Zrh{H':Hp}(D:Áj){e:Zz}(he:e∈X.L)(hs:ÎK){c:aa}{s':StL}{w:Β}{k q:Int}(a:#[rr,H,nd,kvN,Èh] c=af)(W:Win Èi Èj w)(St:XN Èi s' 8 Èj)(d:YF Èi 8 Èj k q)
  (M:#[go,Å8]) (kp:∀b o,#[rr,H,nd,kvN,Èh] b=U o->b≠X.m->b≠Ķ->H' b=U o):∃f,DTo cR cM H H' X f nd nm Èh (.drop s) "done":=by
 refine D.drop hs he ?_ W St d M (kp _ _ Zb ÎJ Óz) λb o g h i j=>kp b o #[hR,j,g] h i;by_cases z:c=nd
 ·rw[sq,Zb,a]
 ·rw[Zf z]at a;exact a
universe E
theorem ZmM(rd:aa)(nb li lo:Int)(sd:aa)(a:V):#[11].lookup ("drop_row" : ah)=af:=Àm
theorem HK(rd:aa)(nb li lo:Int)(sd:aa)(a:V):#[11].lookup ("grow" : ah)=af:=Àm
def Od.first:Od->ah
 | .row _ _ => "row"
 | .grow _ _ => "grow"
 | .drop _ => "drop"
 | .take _ => "take"
 | .counts => "counts"
 | .coming => "coming"
 | .left => "left"
 | .rows => "rows"
def Od.sing:Od->À V
 | .row s _=>[.str s]
 | .grow s _=>[.str s]
 | .drop s=>[.str s]
 | .take n=>[.int (n:Int)]
 | .counts=>[]
 | .coming=>[]
 | .left=>[]
 | .rows=>[]
def Od.furt:Od->À V
 | .row _ ks=>Ρ Ä
 | .grow _ ks=>Ρ Ä
 | _=>[]
def OdW:Od->Prop
 | .row s ks=>NmS s/\KsS ks
 | .grow s ks=>NmS s/\KsS ks
 | .drop s=>NmS s
 | .take n=>n<10
 | .counts=>ŗ
 | .coming=>ŗ
 | .left=>ŗ
 | .rows=>ŗ
def dkF(m nd:aa):À ÁX:=[("merge",.ref m,),("numbers",.ref nd,)]
theorem Wz(m nd:aa):(dkF m nd).lookup ("merge" : ah)=U ÅZ:=by unfold dkF;exact ÚH
theorem Wy(m nd:aa):(dkF m nd).lookup ("numbers" : ah)=U (.ref nd):=by unfold dkF;rw[QaG,show (("numbers" : ah) == "merge")=false from by ac_rfl];exact ÚH
def Yv(f b c:aa)(p:Od->Prop):Sp:=λvs H Q _=>X8 λ(d sl e g:aa) (X:MS) (nd:aa) (nm:À (ah×Int)) (o:Od)=>C10 (vs=[.ref d,.ref sl,.ref e]) (H d=U #[zo,f,g,X.m]) (¬ MFp X d) (DOk b c H X nd nm) (SBd ÀH) #[gf,sl,Èk] #[gf,e,Èl] (OdW o) (p o) (∀ (h:MS) (i:À (ah×Int)) (a:ah) (H':Hp),DTo b c H H' X h nd nm i o a->Q (.str a) H')
theorem Zrc(T:Õ)(Y:Mf P w K mg Â 14 ak "add_row" ÄB (Iu K au ak))(Z:M1f P w K mg Â 14 ak "add_row" ÄB (Ih au ak ay aH ao)) :
  Df P w K mg Â 15 "do_row" ÄC ÚI:=by
 rw[d2,T.t_do_row.df,JR,vs,p];obtain d|t|u|c|X|nd|j|o|rfl|hd|G|D|B|fo|I|hw|⟨i,ks,rfl⟩|q:=h;refine(_,#[Zc,#[Zu,3,JR.nd,â,ÅW],#[Zc,#[rP,inG,p,ÄQ],#[Zc,(@Ztb _ _ _ _ _ _ _ _ _ _ _ _ _ _ _ _ _ _ (λai E=>#[Zg,#[YD,(@Ka _ _ _ _ #[UM,Z,ã,ÃC,p,ÄQ,Ãx] #[Xu,Y,ã,p,ÄQ,Ãx]),#[Xd,ÄQ,‹3›,(Wp p)]]]) (λe=>ÓB) rfl T.m_OutOfOrder rfl T.m_Full Ì Ì rfl ć T.x_OutOfOrder T.x_Full rfl rfl),ÓC]]],?_);rw[iH,J,L];have x:#[sO,kvN,j]:=D.small B;have y:KsS ks:=hw.2;have b:∀ {v:V} {N:Hp} {O:MS} {gG:À (ah×Int)} {a:ah},v=.str a->DTo au ak H N X O nd j gG (.row i ks) a->Q v N:=λe d=>by subst e;exact q _ _ _ _ d
 rw[iC,t,fo];rcases MD j i with l|⟨n,l⟩
 ·have r:=ME l;rw[d7,c,i,r,Y9];rcases ZrA X j i I y with⟨o,hR,st⟩|⟨m,R⟩
  ·refine .inl (_,rfl,d,ax,c,_,_,rfl,hd,ž,ÁO,Wz ..,X.m,J,_,rfl,L,Ir ..,_,rfl,X.m,Ķ,Ż,X.L,X.s,Ĉ,ğ,Ġ,Yx X.w,.ref u,U o,rfl,ÂU,B.nb0,DOk.nb1 B,hR,?_);cases o with
   | none=>exact λS C=>(aH,_,rfl,T.xw_Full.cls,by simp,b rfl (Âj st C))
   | some nj=>exact λ_ S C _ _=>(ao,_,rfl,ÚJ,by simp,b rfl (Âj st C))
  ·refine .inr (_,rfl,d,ax,c,_,_,rfl,hd,ž,ÁO,Wz ..,X.m,J,_,rfl,L,Ir ..,_,rfl,X.m,Ķ,Ż,X.L,X.s,Ĉ,ğ,Ġ,Yx X.w,u,ks,rfl,ÂU,λe he=>(D.num B he).2,R,I,y.ok.1,y.ok.2,m,λe bz t w k q' S en CP eg hp hk hf fB W St Pl M F=>?_);obtain O|g:=D.add B l m R en CP eg hp hk hf fB W St Pl M F;have i3:=F _ _ hd #[gE,G] (λz=>G Âh);refine(_,rfl,d,ax,c,_,_,rfl,i3,ž,ÄR,Wy ..,_,rfl,nd,_,rfl,Xv.k (k:=.inr i) (F _ _ Ĵ ÎJ Óz) x,?_);rw[UV _ r,ZrH];exact b rfl g
 ·have r:=MF ÎN l;rw[d7,c,i,r,YH];exact b rfl (Âj (.noRow (.inl (_,l,rfl))) Ãy)
theorem Zo0(T:Õ)(I:#[eq,14,"grow",Çu,Im])(J:M1f P w K mg Â 14 ak "grow" Çu (Ig au ak ay aH ao)) :
  Df P w K mg Â 15 "do_grow" ÄC ÚK:=by
 rw[d2,T.t_do_grow.df,JQ,L,m];obtain d|r|t|b|X|nd|u|o|rfl|hd|iH|D|B|N|x|hw|⟨j,ks,rfl⟩|q:=h;refine(_,#[Zc,#[Zu,3,JQ.nd,â,ÅW],#[Zc,#[rP,SE,m,ÄQ],#[Zc,(@Zsw _ _ _ _ _ _ _ _ _ _ _ _ (λai E=>#[Zg,#[ZL,(@Ka _ _ _ _ #[UM,J,ã,ÃC,m,ÄQ,ÚL] #[Xu,I,ã,m,ÄQ,ÚL])]]) (λe=>ÓB) ć rfl T.m_OutOfOrder T.x_OutOfOrder rfl Ì),ÓC]]],?_);rw[iH,y,z];have C:KsS ks:=hw.2;have c:∀ {v:V} {F:Hp} {G:MS} {O:À (ah×Int)} {a:ah},v=.str a->DTo au ak H F X G nd u O (.grow j ks) a->Q v F:=λe d=>by subst e;exact q _ _ _ _ d
 rw[iC,r,N];rcases MD u j with i|⟨n,i⟩
 ·have p:=ME i;rw[d7,b,j,p,YH];exact c rfl (Âj (.noGrow (.inl i)) Ãy)
 ·have p:=MF ÎN i;obtain e|l|rfl:=Ák i;rw[d7,b,j,p,Y9];rcases Zou Ĉ l i x C with⟨R,S,st⟩|hsr
  ·refine .inl (_,rfl,d,ax,b,_,_,rfl,hd,ž,ÁO,Wz ..,X.m,y,_,rfl,z,HK ..,_,rfl,d,ax,b,_,_,rfl,hd,ž,ÄR,Wy ..,_,rfl,nd,_,rfl,ŉ (k:=.inr j) Ĵ p,_,rfl,X.m,Ķ,Ż,X.L,X.s,Ĉ,ğ,Ġ,Yx X.w,.int e.n,.ref t,U (U R),rfl,ÂU,(λe l=>by have:=D.num B l;have:=DOk.nb1 B;lia),S,?_);exact λ_ Y Z _ _=>(ao,_,rfl,ÚJ,by simp,c rfl (Âj st Z))
  ·obtain g1|g2|g3:=ZqJ D B l x C;refine .inr (_,rfl,d,ax,b,_,_,rfl,hd,ž,ÁO,Wz ..,X.m,y,_,rfl,z,HK ..,_,rfl,d,ax,b,_,_,rfl,hd,ž,ÄR,Wy ..,_,rfl,nd,_,rfl,ŉ (k:=.inr j) Ĵ p,_,rfl,X.m,Ķ,Ż,X.L,X.s,Ĉ,ğ,Ġ,X.w,e,t,ks,rfl,ÂU,D.mg.W,D.mg.ok,l,x,g1,g2,hsr,g3,λk' f' bz r w k q' Y hk hf wF W ok M kp=>?_);obtain G|g:=D.grow i l hsr hk hf wF W ok M kp;exact c rfl g
theorem Zpb(T:Õ)(y:#[eq,14,"drop_row",ÁF,Iq]) :
  Df P w K mg Â 15 "do_drop" Ŀ (Yv ax au ak λo=>∃s,o=.drop s):=by
 rw[d2,T.t_do_drop.df,JP,z,r];obtain d|m|C|c|X|nd|p|o|rfl|hd|iH|D|B|F|gn|hw|⟨i,rfl⟩|q:=h;refine(_,#[Zc,#[Zu,3,JP.nd,â,ÅW],#[Zc,#[rP,SE,r,Ĥ],#[Zc,#[ZL,#[Xu,y,ã,r,Ĥ,#[Zd,#[ZZ,K,Qai,QaQ,Ól,PD,Ĥ,ÇX]]]],ÓC]]],?_);rw[iH,G,I];have j:∀ {v:V} {t:Hp} {u:MS} {J:À (ah×Int)} {a:ah},v=.str a->DTo au ak H t X u nd p J (.drop i) a->Q v t:=λe d=>by subst e;exact q _ _ _ _ d
 rw[iC,m,F];rcases MD p i with b|⟨n,b⟩
 ·have l:=ME b;rw[d7,c,i,l,YH];exact j rfl (Âj (.noDrop b) Ãy)
 ·have l:=MF ÎN b;obtain e|x|rfl:=Ák b;rw[d7,c,i,l,Y9];refine(_,rfl,d,ax,c,_,_,rfl,hd,ž,ÁO,Wz ..,X.m,G,_,rfl,I,ZmM ..,_,rfl,d,ax,c,_,_,rfl,hd,ž,ÄR,Wy ..,.inr #[rt,Ĵ],_,rfl,nd,_,.inr i,_,rfl,rfl,Ĵ,l,?_);rw[Zq8];refine(X.m,Ķ,Ż,X.L,X.s,Ĉ,ğ,Ġ,Yx X.w,e,rfl,D.cut _,x,λbz m w k q' H1 L W St N M O=>?_);obtain u|g:=Zrh D x b L W St N M O;exact j rfl g
theorem S8{i:Int}(h:i.natAbs<=100000000):Åu Ä7=true/\(aJ.int i).intsShort 13=true/\(aJ.int i).showable=true/\(WZ i).length<=13:=by
 have hl:i.natAbs.log2<30:=by
  by_cases z:i.natAbs=0
  ·rw[(z)];decide
  ·exact QG (#[wQ].mpr (QaJ h (show 100000000<2 ^ 27 by decide))) Ì
 have a:(Èb Ì6).length<=13:=by rw[Úi];exact Qk (int_text_length_le10 (k:=10) Ì Á) Ì
 refine(?_,by simp only[aJ.intsShort,ÉZ];exact a,?_,a)
 ·simp only[Åu,ÄG,ÅO,Ôf,ÉZ];refine((trivial,rfl),?_);simp only[aJ.weight];split<;>lia
 ·simp only[aJ.showable,ÉZ];lia
theorem Zrq(x y:ah):ō " " [x,y]=x ++ " "++y:=by
 have e:ō Ê2 [x,y]=Ĕ " " [x,y]:=by simpa using ÅC Ê2 [x,y]
 rw[e];rfl
def HJ(K:Å):Sp:=λvs H Q _=>X2 λ(l:aa) (ns:À Int)=>C5 #[ff,l] (SqL K H l ψ) #[su,1000] ((∀n∈ns,ÎC<=100000000)) (∀H',ZB H H'->Q (.str (blT (Äa WZ))) H')
theorem Zrw(T:Õ)(C:ÎO):Df P w K mg Â 2 "written_numbers" Ãr (HJ K):=by
 rw[d2,T.t_written_numbers.df,Zfz,F,m];rw[sG,l,b,p,t,u];refine(_,#[Zg,#[Zl,#[Zy,C,m,#[Zd,#[W7,N0,#[iL,K,‹0›],#[gk,1,N0],Àk,(λ_ _ _ _=>#[WW,(T7 K m),Å5,Å6,#[Zd,#[cw,1,N0]]])]],Í]]],?_);refine(_,rfl,l,rfl,(_,p),λD z=>?_);refine Vf (K:=K) (a:=l) (xs:=ÀS í) (λi zs j c=>(∃v:Ã V,j=[U Đ,v])/\zs=((b.take i).map WZ).map Ä/\i<=Œ/\c D=U Àe/\ZB H c) ?_ (λ_ _ _ _ h=>h.2.2.2.2.seq p) ?_ ?_
 ·exact#[fA,z]
 ·rw[rI,j,c,d,g,k];cases e:b[i]? with
  | none=>rw[e]at d;cases d
  | some x =>
  rw[eh,e,d,G,Œ];obtain I|J|L|g4:=S8 (u x (Qp e));refine(_,rfl,_,.int x,rfl,.int x,I,J,L,g,Úw,ü,?_,G,Zb,λM o B=>?_)
  ·rw[QH,e,Qf,Qf];rfl
  ·rw[rF,B,z,k,M,o]
 rw[hI,j,c,g,k];refine(D,ÀS WZ,rfl,É g,?_,q c k);have:∀l:À Int,(∀n∈l,ÎC<=100000000)->((ÂN WZ).map ÀT).sum<=13*Ů:=λl=>by
  induction l with
  | nil=>intro _;exact Qj _
  | Ë a r N=>intro h;have h1:=(S8 (h a Ó)).2.2.2;have h2:=#[gt,N,n,t];rw[Ql,Ql,QR,Qq];lia
 have:=this b u;rw[Qa];lia
theorem Zkr(T:Õ)(i:#[eq,1,"likenings",ð,Ja])(j:#[eq,1,"looks",ð,I0])(k:Df P w K mg Â 2 "written_numbers" Ãr (HJ K)) :
  Df P w K mg Â 15 "ask_counts" Ŀ (Yv ax au ak λo=>o=.counts):=by
 rw[d2,T.t_ask_counts.df,Zit,m,a];rw[f0,p,r,b,c];refine(_,#[Zg,#[Zl,#[Zy,k,a,#[Zd,#[ZW,#[Zd,#[iD,i,a],#[iD,j,a]]]],Í]]],?_);rw[iH,e,g];refine(_,rfl,d,ax,b,_,_,rfl,hd,ž,ÁO,Wz ..,X.m,e,_,rfl,g,Zg4 ..,X.m,Ķ,Ż,X.L,X.s,Ĉ,ğ,Ġ,_,rfl,ÂU,_,rfl,d,ax,b,_,_,rfl,hd,ž,ÁO,Wz ..,X.m,e,_,rfl,g,ZkD ..,X.m,Ķ,Ż,X.L,X.s,Ĉ,ğ,Ġ,_,rfl,ÂU,Ây,λl t=>?_);have u:=Zi t (.lst #[hO,ğ,Ġ]);refine⟨l,[ğ,Ġ],rfl,É Zb,#[ep,2,1000],(λn hn=>by
  rcases ħ hn with rfl|hn
  ·exact B.li
  ·rw[Ý hn];exact B.lo),λv x=>?_⟩
 rw[show blT ([ğ,Ġ].map WZ)=WZ ğ ++ " "++WZ Ġ from Zrq _ _];exact q X c _ v (Âj .counts (u.trans x))
theorem RD{nm:ų}(nd:#[ms].Nodup){s:ah}{n:Int}(h:(s,n,)∈nm):Y0 nm n=s:=by
 unfold Y0;cases a:ÎF λx=>decide (x.2=n) with
 | none=>exact Ç ÎD (ÚM a _ h)
 | some y =>
  have b:=Qab a;have c:y.2=n:=by have:=ÌX;simpa using this
  rw[Ur nd b h c];rfl
theorem inl_nd'{nm:ų}(nd:#[ms].Nodup):(ÄO (ù ∘ λe:ah×Int=>((.inl e.2:Key),Ä e.1,))).Nodup:=by have:=Jl nd;rw[Qo]at this;exact this
def MB(K:Å)(a:aa):Sp:=λvs H Q _=>X7 λ(d b m nd hl:aa) (nm:À (ah×Int)) (hs:À (aa×Int×Ã ah))=>C11 #[gr,d,hl] (H d=U #[zo,a,b,m]) (H nd=U #[rG,nm]) (ÊW<=20) (#[ms].Nodup) ÚN (H hl=U #[hS,hs.map,h,h.1]) ((∀h∈hs,H h.1=U (.tup [.int h.2.1,oV h.2.2]))) (hs.length<=1000) ((∀h∈hs,(∃s,(s,h.2.1,)∈nm)/\∀x,h.2.2=U x->ĕ<=1000)) (∀l H',H l=af->H' l=U (.lst (hs.map λh=>Ä ÚO))->ZB H H'->Q Đ H')
theorem ZoS(T:Õ)(eY:Df P w K mg Â 2 "written_thing" Êj HS):Df P w K mg Â 3 "written_heads" Òm (MB K ax):=by
 rw[iN,T.t_written_heads.df,JO];obtain d|dd|m|nd|M|c|I|rfl|hd|Y|wG|Z|CQ|Gj|hht|fo|fM|q:=h;refine(_,#[Zc,#[Zu,2,JO.nd,Ån,(@PL _ _ _ (@ZqH _ _ _ _ _ _ _ _ _ _ _ _ _ _ _ _ Tv rfl rfl rfl ÙU #[em,3,Tv,4] Àk (λ_ _ _ _=>#[cw,4,Tv]) (λ_ _ _ _=>#[cw,3,Tv]) (by intro _;rfl)))],#[Zg,#[Zl,#[W7,Vl,ÎE,#[em,3,Vl,4],Àk,(λ_ _ _ _=>#[Zy,eY,hr,#[Zd,#[ZF,(ixG hr),#[cv,2,Vl],#[cw,3,Vl]],#[cw,4,Vl]],#[ie,Vl]])]]]],?_);refine(nd,.dK (kvN c),Y,Μ,_,rfl,d,ax,dd,_,_,rfl,hd,ž,ÄR,Wy ..,nd,_,rfl,Y,λo D R=>?_);have S:D≠nd:=λz=>by rw[z,Zb]at R;cases R
 have Gk:H D=af:=by rw[Zf S]at R;exact R
 refine Zsc (λi W t r=>(X2 λB C:Ã V=>t=[U ÂV,U (.ref M),af,B,C])/\W=kvI (c.take i)/\i<=Ņ/\r D=U (.dK W)/\r nd=U (.frz o #[rG,c])/\∀b u,H b=U u->b≠nd->r b=U u) ((af,af,rfl),rfl,Qt _,Zb,#[hR,S.symm,Zb],λb u g n=>(by rw[Zf (Ze g Gk),Zf n];exact g)) (λ_ _ _ _ h=>h.2.2.2.2.1) ?_ ?_
 ·rintro i k x W t r p J ⟨⟨B,C,rfl⟩,rfl,hi,F,lR,k2⟩ hp;unfold kvN at J;rw[Qr]at J;cases l:c[i]? with
  | none=>rw[l]at J;cases J
  | some e =>
  rw[eh,l,J,bM,Ņ];have kp:∀b u,r b=U u->(upd r p (.tup [.str e.1,.int e.2])) b=U u:=λb u g=>by rw[Zf (Ze g hp)];exact g
  have hv:Y3 (kvI (c.take i)) (.inl e.2)=af:=by
   cases hv:Y3 (kvI (c.take i)) (.inl e.2) with
   | none=>rfl
   | some v =>
    obtain y|G|z:=Ľ (US hv);injection z with z _;rw[sA,j,hj,ej,Õ7,G];rw[QA]at hj;rw[List.getElem_take]at ej;have h1:(š ě)[j]? = U e.2:=by rw[Qr,Qb Á,ej];exact ŕ U ÍU
    have h2:(š ě)[i]? = U e.2:=by rw[Qr,l];rfl
    have:=(List.getElem?_inj #[fe,Qa] Z).mp (h1.trans h2.symm);lia
  refine(p,_,rfl,ā Zb,rfl,_,_,rfl,_,_,rfl,rfl,_,rfl,_,rfl,.inl e.2,rfl,kp _ _ F,(by unfold kvI;rw[Qa,QA];exact ZA Á),Ç2,?_,bM,Zb,?_,λb u g n=>?_)
  ·rw[UV _ hv,QH,l];unfold kvI;rw[Qf];rfl
  ·rw[Zf S.symm];exact kp _ _ lR
  ·rw[Zf (Ze g Gk)];exact kp _ _ (k2 b u g n)
 ·rintro W t r ⟨⟨B,C,rfl⟩,rfl,hi,F,lR,k2⟩;rw[zh,o,lR];have L:ZB H #[rr,r,nd,kvN,c]:=λb u g=>by
   by_cases z:b=nd
   ·rw[(z)]at g ⊢;rw[fL,Y,g,g];exact Zb
   ·rw[Zf z];exact k2 b u g z
  have jU:#[rr,r,nd,kvN,c] D=U (.dK (kvI c)):=by rw[Zf S,F];unfold kvN;rw[Qa,Qz î]
  generalize upd r nd (.dK (kvN c))=H3 at L jU ⊢;refine(_,rfl,M,rfl,(_,É (L _ _ Gj)),λD2 F=>?_);refine Vf (K:=K) (a:=M) (xs:=I.map λh=>õ h.1) (λi zs t N=>(X2 λB C:Ã V=>t=[U ÂV,U (.ref M),U ÀP,B,C])/\zs=(I.take i).map (λh=>Ä (thO (Y0 c h.2.1) h.2.2))/\i<=I.length/\N D2=U Àe/\ZB H3 N) #[hY,F] (λ_ _ _ _ h=>É (h.2.2.2.2 _ _ (L _ _ Gj))) ?_ ?_
  ·rintro i y zs t N G ⟨⟨B,C,rfl⟩,rfl,hi,X,O⟩;rw[Qr]at G;cases l:I[i]? with
   | none=>rw[l]at G;cases G
   | some x =>
   rw[eh,l,G,bM,I.length];have hx:=Qp l;obtain ⟨s,wH⟩|p8:=fM x hx;have y9:Y0 c x.2.1=s:=RD Z wH;have hvI:Y3 (kvI c) (.inl x.2.1)=U (.str s):=UR (by unfold kvI;rw[Qo];exact inl_nd' Z) (Qg (f:=λe:ah×Int=>((.inl e.2:Key),Ä e.1,)) wH);refine(x.1,_,rfl,ā (O _ _ (L _ _ (hht x hx))),rfl,_,_,rfl,_,_,rfl,rfl,_,rfl,_,rfl,D,_,rfl,ŉ (k:=.inl x.2.1) (O _ _ jU) hvI,_,rfl,s,x.2.2,rfl,(by have h8:Ê3:=CQ _ wH;lia),p8,X,(by rw[Qa,QA,aP];lia),Ç2,?_,bM,Zb,λb u g=>?_)
   ·rw[QH,l,Qf];show _=_++[Ä (thO (Y0 c x.2.1) x.2.2)];rw[y9]
   ·rw[rF,g,F,O,b,u]
  ·rintro zs t N ⟨⟨B,C,rfl⟩,rfl,_,X,O⟩;rw[Qa,Qz î]at X;exact q D2 N (L.free F) X (L.trans O)
def MA(K:Å)(c:aa):Sp:=λvs H Q _=>X7 λ(d f m nd b:aa) (nm:À (ah×Int)) (a:À (aa×YO))=>C11 #[gr,d,b] (H d=U #[zo,c,f,m]) (H nd=U #[rG,nm]) (ÊW<=20) (#[ms].Nodup) ÚN (H b=U #[hS,ļ,t,t.1]) ((∀t∈a,H t.1=U #[fv,t.2.1,t.2.2.1,t.2.2.2])) (ĳ<=1000) ((∀t∈a,(∃s,(s,t.2.1,)∈nm)/\t.2.2.2.length<=1000)) (∀l H',H l=af->H' l=U (.lst (ļ λt=>Ä (thT (Y0 nm t.2.1) t.2.2.2)))->ZB H H'->Q Đ H')
theorem Zms(T:Õ)(Z:ÚP):Df P w K mg Â 4 "written_things" Çv (MA K ax):=by
 rw[iN,T.t_written_things.df,Zga];obtain d|M|m|nd|v|C|j|rfl|hd|iW|wG|qC|CQ|N|uo|htz|O|q:=h;refine(_,#[Zg,#[Zl,#[Zy,Z,hr,#[Zd,‹0›,#[W7,UH,ÎE,(λ_ _ _ _=>#[gT,K,3,#[Zo,#[cg,2,UH],#[Zo,#[cg,3,UH],#[Zo,#[cg,4,UH],Èm]]]]),Àk,(λ_ _ _ _=>#[Yq,#[Zd,#[cw,2,UH],#[cw,4,UH]]])]],Í]]],?_);refine(_,rfl,_,rfl,v,rfl,#[rB,N],λD R=>?_);refine Vf (K:=K) (a:=v) (xs:=j.map λt=>õ t.1) (λi zs F o=>(X3 λG I J:Ã V=>F=[U ÂV,U (.ref v),G,I,J])/\(∃c:À (aa×Int×Ã ah),zs=š (λu=>õ u.1)/\š ě=(j.take i).map ÚQ/\∀u∈c,u.1≠D/\o u.1=U (.tup [.int u.2.1,oV u.2.2]))/\i<=Åc/\o D=U Àe/\ZB H o) ((af,af,af,rfl),#[sc,u,hu],Qt _,Zb,Zi R _) #[fu,N] ?_ ?_
 ·rintro i y zs F o p ⟨⟨G,I,J,rfl⟩,⟨c,rfl,k,L⟩,hi,B,n⟩;rw[Qr]at p;cases r:j[i]? with
  | none=>rw[r]at p;cases p
  | some x =>
  rw[eh,r,p,bM,Åc];have S:Ņ=i:=by have:=#[eX,k];rw[Qa,Qa,QA]at this;lia
  refine(x.1,_,rfl,ā (n _ _ (uo x (Qp r))),rfl,_,_,rfl,_,_,rfl,_,_,rfl,rfl,_,rfl,_,rfl,Ây,λt g=>?_);have W:t≠D:=λz=>by rw[z,B]at g;cases g
  refine(Zi g _ _ _ B,#[eV,S,ZA],(_,_,_,rfl),(c++[(t,x.2.1,U x.2.2.2,)],by rw[Qf];rfl,?_,λu hu=>?_),bM,Zb,λb u X=>?_)
  ·rw[QH,r,Qf,Qf,k];rfl
  ·rcases ß hu with hu|hu
   ·obtain Y|g2:=L u hu;exact(Y,by rw[Zf Y];exact Zi g _ _ _ g2)
   ·rw[Ý hu];exact(W,by rw[Zf W];exact Zb)
  ·rw[Zf (Ze X R)];exact Zi g _ _ _ (n b u X)
 ·rintro zs F o ⟨⟨G,I,J,rfl⟩,⟨c,rfl,k,L⟩,_,B,n⟩;rw[Qa,Qz î]at k;have l7:∀u∈c,∃t∈j,t.2.1=u.2.1/\U t.2.2.2=u.2.2:=λu hu=>by
   have:u.2∈j.map ÚQ:=by rw[<- k];exact Qg (f:=ÚR) hu
   obtain t|g|e:=ÊY;exact(t,g,by rw[<- e],by rw[<- e])
  have S:Ņ=Åc:=by have:=#[eX,k];rw[yG]
  refine(d,M,m,nd,D,C,c,rfl,n _ _ hd,n _ _ iW,wG,qC,CQ,B,λu hu=>(L u hu).2,by lia,λu hu=>?_,λl H5 hl h5 s5=>?_)
  ·obtain t|g|e1|e2:=l7 u hu;rw[<- e1,<- e2];exact((O t g).1,λx hx=>by cases hx;exact(O t g).2)
  ·refine q l H5 (n.free hl) ?_ (n.trans s5);rw[h5];have:=ŕ (Ì5 λy:Int×Ã ah=>Ä (thO (Y0 C y.1) y.2)) k;rw[Qo,Qo]at this;exact ŕ (λz=>U (HO.lst z)) this
theorem HI{P:ý}(h1:ÆR<=16)(h2:∀x∈P,x.2.1.length<=180):YG P<=2880:=by
 unfold YG;have:∀l:À ZG,(∀x∈l,x.2.1.length<=180)->(ÂN λx=>x.2.1.length-x.2.2).sum<=180*Ů:=λl=>by
  induction l with
  | nil=>intro _;exact Qj _
  | Ë a r b=>intro h;rw[ry,h1,h2,b,x,c];rw[Ql,QR,Qq];lia
 have:=this P h2;lia
theorem YL.rowOf{P b:ý}{c:Àn}{k q:Int}(h:YL P c b k q):∀x∈b,∃y∈P,y.2.1=x.2.1:=by
 induction h with
 | nil=>intro x a;exact(x,a,rfl)
 | ė _ _ d=>intro x a;rw[d9,w,hw,a];obtain y|f|e:=d w hw;rw[zh,y,f];unfold WA;split<;>exact e
theorem YL.key{P b:ý}{a:Àn}{k q:Int}(h:YL P a b k q):∀t∈a,t.1∈Z1 P/\∃x∈P,t.2.2∈x.2.1:=by
 induction h with
 | nil=>intro t ht;cases ht
 | ė h s c =>
  rename_i a P1 x z k q k1 q1;intro t ht;rcases ß ht with ht|ht
  ·exact c t ht
  ·rw[Ý ht];obtain y|d|e:=h.rowOf x s.1;exact(by rw[<- ÄN];exact Qg (f:=Å1) s.1,y,d,by rw[e];exact Qp s.2.1)
theorem DOk.took{g h:aa}{H H':Hp}{X:MS}{nd:aa}{nm:ų}(D:DOk g h H X nd nm){n:Nat}{c:Àn}{a:ó}{s':StL}{d:Β}{k q:Int}(f:YL ÀG c (ZQ a) k q)(h1:Ç8<(n:Int)->d=af)(h2:c≠[]->Ç8<=(n:Int))
  (M:ZO g h H' X.m Ķ Ż a s' Ĉ (ğ+k) (Ġ+q) (Yx d)) (W:Win (hdM a) (ZC a) d) (ok:Z5 (hdM a) s' (ZC a)) (fp:∀b,Fp X.m Ķ Ż a b↔Fp X.m Ķ Ż X.L b) (kp:∀b o,H b=U o->¬ Fp X.m Ķ Ż X.L b->H' b=U o) :
  ∃j,DTo g h H H' X j nd nm nm (.take n) (blT (š λt=>thT (Y0 nm t.1) t.2.2)):=by
 have l:=ZrE (Zr5 D.mg) f h1 h2 W (λx m=>by obtain e|p|rfl:=Ľ m;exact(ÀW e p).le);refine((X.m,Ķ,Ż,a,s',Ĉ,ğ+k,Ġ+q,d),.take f l,((M,W,ok),kp _ _ Ĵ ο,λz=>ο ((fp nd).mp z),(?_,ÎN,?_)),rfl,λb i=>.inl ((fp b).mp i),λb u i r _=>kp b u i r)
 ·show ÄO ě=Z1 (ZQ a);rw[f.num];exact D.ok.num
 ·show (Z1 (ZQ a)).Nodup;rw[f.num];exact D.ok.ndP
theorem Zmw(T:Õ)(R:Mf P w K mg Â 7 ak "take_few" Ím (Iv K au ak))(S:ÚS)(Y:ÎO) :
  Df P w K mg Â 15 "ask_take" Ŀ (Yv ax au ak λo=>∃n,o=.take n):=by
 rw[d2,T.t_ask_take.df,Zlb,Z,j];obtain d|v|fl|m|X|nd|nm|o|rfl|hd|iH|D|B|fo|gn|hw|⟨n,rfl⟩|q:=h;refine(_,#[Zg,#[Zl,#[Zy,Y,j,#[Zd,#[Zy,S,j,#[Zd,‹0›,#[Xu,R,ã,j,Ĥ,#[Zd,ÅW]]],Í]],Í]]],?_);rw[iH,dx,hm];have AV:=HI ÄP B.len;refine(_,rfl,_,rfl,d,ax,m,_,_,rfl,hd,ž,ÁO,Wz ..,X.m,dx,_,rfl,hm,Zom ..,_,rfl,v,_,_,_,rfl,rfl,É fo,rfl,X.m,Ķ,Ż,X.L,X.s,Ĉ,ğ,Ġ,X.w,(n:Int),rfl,ÂU,D.mg.W,D.mg.ok,Qk AV Ì,λrr b L' s' w' k q' H1 hrr Gn tK C Go F M W ok fp G=>?_);obtain X'|g:=D.took C #[ed,Qa,Go] (by rw[Qa];exact λz=>F λy=>z #[zj,y]) M W ok fp G;have i3:=G _ _ hd iH;have yX:Œ<10:=by
  have yV:n<10:=hw;by_cases z:b=[]
  ·rw[(z)];decide
  ·have:=F z;lia
 have I:ÓD:=λe he=>(B.nmz e he).2;have J:∀u∈b,ÓE/\u.2.2.2.length<=1000:=λu p=>by obtain g1|x|hx|g2:=C.key u.2 (Qg (f:=λu:aa×YO=>u.2) p);rw[sA,y,hy,e,Ľ,g1];obtain s|i:=D.ok.has (show y∈(ÀH).P from hy);rw[d9,z,hz,hx];exact((s,by rw[<- e];exact i),((ÎM z hz).str _ g2).1)
 refine(d,m,X.m,nd,rr,nm,b,rfl,i3,g.D.at',(by rw[ÎL];exact Qk ÄP Ì),Å9,I,Gn,tK,Á,J,λl L hl h2 s2=>?_);have N:(ÀS ě).map (λt:YO=>thT (Y0 nm t.1) t.2.2)=ÀS λu=>thT (Y0 nm u.2.1) u.2.2.2:=by rw[Qo];rfl
 rw[N]at g;have c:=q X' nm _ L (g.same s2);clear q;generalize O:(ÀS λu=>thT (Y0 nm u.2.1) u.2.2.2)=ws at c g N;have vc:L l=U #[ei,ÁE]:=by rw[<- O,Qo];exact h2
 refine(l,ws,rfl,É vc,?_,c);rw[<- O];have e1:Èf:=by ac_rfl
 have:∀l:À (aa×YO),(∀u∈l,ÓE/\u.2.2.2.length<=1000)->((ÂN λu=>thT (Y0 nm u.2.1) u.2.2.2).map ÀT).sum<=1010*Ů:=λl=>by
  induction l with
  | nil=>intro _;exact Qj _
  | Ë a r ih =>
   intro h;obtain ⟨s,i⟩|h3:=h a Ó;have CT:=#[gt,ih,u,p];have h8:Ê3:=I _ i;have h4:=Ut a.2.2.2;have h5:(thT (Y0 nm a.2.1) a.2.2.2).length<=1010:=by rw[RD (nm:=nm) Å9 i];rw[qY];lia
   rw[Ql,Ql,QR,Qq];lia
 have:=this b J;rw[Qa];lia
theorem Zl5(T:Õ)(g:#[eq,2,"left",ð,IZ]):Df P w K mg Â 15 "ask_left" Ŀ (Yv ax au ak λo=>o=.left):=by
 rw[d2,T.t_ask_left.df,Zk7,j,a];rw[f0,k,l,b,c];refine(_,#[Zg,#[Zl,#[WW,(T7 K a),Å5,Å6,#[Zd,#[iD,g,a]]]]],?_);rw[iH,m,n];have AV:YG ÀG<=2880:=HI ÄP B.len;obtain p|r|t|g4:=S8 (i:=((YG ÀG:Nat):Int)) Á;refine(_,rfl,d,ax,b,_,_,rfl,hd,ž,ÁO,Wz ..,X.m,m,_,rfl,n,Zl2 ..,X.m,Ķ,Ż,X.L,X.s,Ĉ,ğ,Ġ,_,rfl,ÂU,λu v=>?_);rw[Zul λe x=>(ÎM e x).le];exact(_,.int _,rfl,.int _,p,r,t,q X c _ u (Âj .left v))
theorem ZmF(T:Õ)(L:#[eq,3,"heads",ð,IX])(M:ÚP)(N:ÎO):Df P w K mg Â 15 "ask_rows" Ŀ (Yv ax au ak λo=>o=.rows):=by
 rw[d2,T.t_ask_rows.df,Zly,O,k];rw[f0,R,S,m,nm];refine(_,#[Zg,#[Zl,#[Zy,N,k,#[Zd,#[Zy,M,k,#[Zd,‹0›,#[iD,L,k]],Í]],Í]]],?_);rw[iH,W,Y];refine(_,rfl,_,rfl,d,ax,m,_,_,rfl,hd,ž,ÁO,Wz ..,X.m,W,_,rfl,Y,ZlP ..,X.m,Ķ,Ż,X.L,X.s,Ĉ,ğ,Ġ,_,rfl,ÂU,λl H1 hl Z n=>?_);obtain c|i|cL|p:=Z;have e0:Uz (X.L.map toL)=(ÀG).map λx:ZG=>(x.1,x.2.1[x.2.2]?,):=by unfold Uz ZQ;rw[Qo,Qo];rfl
 rw[e0]at i;have C:ÓD:=λe he=>(B.nmz e he).2;have vN:Ņ=(ÀG).length:=by have:=#[eX,i];rw[yG]
 have hU:(ÀG).length<=16:=ÄP;have l7:∀u∈c,∃x∈ZQ X.L,x.1=u.2.1/\x.2.1[x.2.2]? = u.2.2:=λu g=>by
  have:u.2∈(ÀG).map λx:ZG=>(x.1,x.2.1[x.2.2]?,):=by rw[<- i];exact Qg (f:=ÚR) g
  obtain x|b|e:=ÊY;exact(x,b,by rw[<- e],by rw[<- e])
 have hk:∀u∈c,ÓE/\∀x,u.2.2=U x->ĕ<=1000:=λu g=>by obtain x|b|F|G:=l7 u g;rw[nK];refine((s,by rw[<- F];exact j),λy I=>?_);rw[I]at G;rw[d9,z,t,b];exact#[s4,z,t,G].1
 have e3:š (λh=>Ä ÚO)=(Wg ÀG nm).map Ä:=by have:=ŕ (Ì5 λy:Int×Ã ah=>Ä (thO (Y0 nm y.1) y.2)) i;rw[Qo,Qo]at this;unfold Wg;rw[Qo];exact this
 refine(d,m,X.m,nd,l,nm,c,rfl,n _ _ hd,n _ _ Ĵ,#[fe,ÎL],Å9,C,cL,p,Á,hk,λl2 H2 cb J s2=>?_);rw[e3]at J;have F:Èf:=by ac_rfl
 have yj:#[fl,":.",2]:=by ac_rfl
 have v:=q X nm _ H2 (Âj .rows (n.trans s2));have iP:((Wg ÀG nm).map ÀT).sum<=1010*(ÀG).length:=by
  have:∀P:À ZG,(∀x∈P,(thO (Y0 nm x.1) x.2.1[x.2.2]?).length<=1010)->((Wg P nm).map ÀT).sum<=1010*ÆR:=λP=>by
   induction P with
   | nil=>intro _;exact Qj _
   | Ë a r ih=>intro h;rw[ry,h5,h6,ih,u,g];unfold Wg at h6 ⊢;rw[Ql,Ql,QR,Qq];lia
  refine this _ λx b=>?_;rw[nK];have h8:Ê3:=C _ j;rw[RD (nm:=nm) Å9 j];cases hg:x.2.1[x.2.2]? with
  | none=>show (s ++ ":.").length<=1010;rw[QL];lia
  | some y=>obtain z|t|rfl:=Ľ b;have I:=#[s4,z,t,hg].1;have h4:=Ut y;show (thT s y).length<=1010;rw[qY];lia
 have rJ:(Wg ÀG nm).length=(ÀG).length:=by unfold Wg;rw[Qa]
 exact(l2,Wg ÀG nm,rfl,É J,by rw[rJ];lia,v)
theorem ZjQ(T:Õ)(L:Ù8)(M:ÚS)(N:ÎO):Df P w K mg Â 15 "ask_coming" Ŀ (Yv ax au ak λo=>o=.coming):=by
 rw[d2,T.t_ask_coming.df,JN,O,b];rw[f0,R,S,i,nm];refine(_,#[Zc,#[Zu,3,JN.nd,â,#[iD,L,b]],#[Zg,#[Zl,#[Zy,N,b,#[Zd,#[Zy,M,b,#[Zd,‹0›,#[ZY,#[g0,3],Âk,#[ZW,ÇX]]],Í]],Í]]]],?_);rw[iH,V,W];have m:ÓD:=λe j=>(B.nmz e j).2;have G:ÊW<=20:=by rw[ÎL];exact Qk ÄP Ì
 refine(_,rfl,d,ax,i,_,_,rfl,hd,ž,ÁO,Wz ..,X.m,V,_,rfl,W,IV ..,X.m,Ķ,Ż,X.L,X.s,Ĉ,ğ,Ġ,X.w,rfl,ÂU,D.mg.W,λx H1 Y g=>?_);rcases Y with⟨rfl,k⟩|⟨t,e0,z,rfl,Z,hz,ht,l⟩
 ·refine(_,rfl,_,rfl,rfl,_,rfl,YZ rfl #[rN,r,b]);have a:=Zi b Ź;refine(d,i,X.m,nd,r,nm,[],rfl,a _ _ (g _ _ hd),a _ _ (g _ _ Ĵ),G,Å9,m,Zb,#[es,u,c],Ì,#[es,u,c],λn p cb v y=>?_);have k:Win (hdM X.L) Å2 af:=by rw[<- UA];exact k
  rw[V2,XD]at k;exact(n,[],rfl,É v,by decide,q X nm _ p (Âj (.comNo k) ((ÈA a).trans y)))
 ·rw[d9,e,j,Z];have I:(ÂR:ZG)∈ZQ X.L:=Qg (f:=Ç7) j;obtain s|C:=D.ok.has (show (ÂR:ZG)∈(ÀH).P from I);have J:ÓF:=hz;have yJ:=#[s4,e,j,J].1;have l:Win (hdM X.L) Å2 (U e.n):=by rw[<- UA];exact l
  rw[V2,XD]at l;have Gp:Win (hdP ÀG) (Z1 ÀG) (U e.n):=l;refine(_,rfl,_,rfl,rfl,_,rfl,YC ÁC (_,rfl,#[ep,1,aq],λr b=>?_));have a:=Zi b (.lst [.ref t]);refine(d,i,X.m,nd,r,nm,[(t,(e.n,e.g,z,),)],rfl,a _ _ (g _ _ hd),a _ _ (g _ _ Ĵ),G,Å9,m,Zb,(λu c=>by rw[Ý c];exact a _ _ ht),#[ep,1,1000],(λu c=>by rw[Ý c];exact((s,C),yJ)),λn p cb v y=>?_);have F:=q X nm _ p (Âj (.com I J Gp) ((ÈA a).trans y));have h8:Ê3:=m _ C;have h4:=Ut z;have e1:Èf:=by ac_rfl
  have hl:(thT (Y0 nm e.n) z).length<=1010:=by rw[RD (nm:=nm) Å9 C];rw[qY];lia
  refine(n,Ê4,rfl,É v,?_,?_)
  ·show (thT (Y0 nm e.n) z).length+0+1<=1000000;lia
  ·have ej:ō " " Ê4=thT (Y0 nm e.n) z:=by
    have e:ō Ê2 Ê4=Ĕ " " Ê4:=by simpa using ÅC Ê2 Ê4
    rw[e];rfl
   rw[Æ Ó,ej];exact F
def Od.kinds:Od->À ah
 | .row _ _=>["name"]
 | .grow _ _=>["name"]
 | .drop _=>["name"]
 | .take _=>["many"]
 | .counts=>[]
 | .coming=>[]
 | .left=>[]
 | .rows=>[]
def Od.fk:Od->V
 | .row _ _=>.str "key"
 | .grow _ _=>.str "key"
 | _=>.non
def Od.sw:Od->À ah
 | .row s _=>[s]
 | .grow s _=>[s]
 | .drop s=>[s]
 | .take n=>[W0 n]
 | .counts=>[]
 | .coming=>[]
 | .left=>[]
 | .rows=>[]
def Od.fw:Od->À ah
 | .row _ ks=>Ρ kT0
 | .grow _ ks=>Ρ kT0
 | _=>[]
def Od.ws(o:Od):À ah:=Âl::ÚT
def ġ(o:Od):ah:=ō " " o.ws
structure ZwO (o:Od):Prop where
 l1:o.kinds.length=Âm
 l2:o.sing.length=Âm
 l3:o.furt.length=Ê5
 s:∀ (i:Nat) (k wd:ah) (v:V),o.kinds[i]? = U k->o.sw[i]? = U wd->Èk[i]? = U v->RdW k wd v
 f:o.fw=[]/\o.fk=.non\/(o.fk=.str "key"/\∀ (i:Nat) (wd:ah) (v:V),o.fw[i]? = U wd->Èl[i]? = U v->RdW "key" wd v)
 few:Ê5<=10
theorem HH{o:Od}(h:OdW o):ZwO o:=by
 have one:∀ {p:Type} {a x:p} {i:Nat},[a][i]? = U x->a=x:=λ{p a x i} h=>Ý (Qp h) |>.symm;have Áb:∀ks:À ah,KsS ks->(∀ (i:Nat) (c:ah) (v:V),Úx[i]? = U c->ÚU[i]? = U v->RdW "key" c v)/\(Úx).length<=10/\(ÚU).length=(Úx).length:=λks q=>by
  refine(λi c v b d=>?_,by rw[Qa];exact Qk q.1 Ì,by rw[Qa,Qa]);rw[Qr]at b d;cases e:ks[i]? with
  | none=>rw[e]at b;cases b
  | some x=>rw[e]at b d;cases b;cases d;obtain r|t:=q.2 x (Qp e);exact .inr (.inl (rfl,x,rfl,rfl,t,r))
 have f:∀s:ah,NmS s->∀ (i:Nat) (k c:ah) (v:V),(["name"]:À ah)[i]? = U k->[s][i]? = U c->[Ä s][i]? = U v->RdW k c v:=λs u i k c v b d g=>by have j:=one b;rw[nM];exact .inl (rfl,rfl,u)
 cases o with
 | row s ks=>exact ÚV
 | Ő s ks=>exact ÚV
 | ő s=>exact(rfl,rfl,rfl,f s h,.inl ć,Qt _)
 | ĭ n=>refine(rfl,rfl,rfl,λi k c v b d g=>?_,.inl ć,Qt _);have j:=one b;rw[nM];exact .inr (.inr (rfl,n,rfl,rfl,h))
 | Ào=>exact ÎP
 | ξ=>exact ÎP
 | left=>exact ÎP
 | ů=>exact ÎP
theorem ZsM(d:Å4)(o:Od):X2 λt g:aa=>ī K bf Âl=U (U Ág)/\(∀H,SqT K H g Û9)/\∀H,SqT K H t [.ref g,o.fk]:=by
 cases o with
 | row s ks=>obtain a|b|c|e|f:=d.d_FORMS_row;exact ÄS
 | Ő s ks=>obtain a|b|c|e|f:=d.d_FORMS_grow;exact ÄS
 | ő s=>obtain a|b|c|e|f:=d.d_FORMS_drop;exact ÄS
 | ĭ n=>obtain a|b|c|e|f:=d.d_FORMS_take;exact ÄS
 | Ào=>obtain a|b|c|e|f:=d.d_FORMS_counts;exact ÄS
 | ξ=>obtain a|b|c|e|f:=d.d_FORMS_coming;exact ÄS
 | left=>obtain a|b|c|e|f:=d.d_FORMS_left;exact ÄS
 | ů=>obtain a|b|c|e|f:=d.d_FORMS_rows;exact ÄS
theorem Mz(o:Od):Âl∈(["row", "grow", "drop", "take", "counts", "coming", "left", "rows"]:À ah):=by cases o;exact .head _;exact .tail _ (.head _);exact .tail _ (.tail _ (.head _));exact .tail _ (.tail _ (.tail _ (.head _)));exact .tail _ ÓG;exact .tail _ (.tail _ ÓG);exact .tail _ ÚW;exact .tail _ (.tail _ ÚW)
theorem RC{c:Nat}{z:ah}(h:AZ z)(hc:c<97):c ∉ Áz:=λm=>by have:=h c m;lia
theorem Zu1{c:Nat}{k:ah}(h:AZ k)(hc:c<97)(a:c≠45):c ∉ (kT0 k).cps.toList:=by
 unfold kT0;split
 ·show c ∉ ("-" : ah).cps.toList;rw[show ("-" : ah).cps.toList=[45] from by ac_rfl];intro m;exact a (Ý m)
 ·exact RC h hc
theorem HG{o:Od}(h:OdW o){c:Nat}(hc:c<45):∀z∈o.ws,c ∉ Áz:=by
 have first:∀o:Od,c ∉ o.first.cps.toList:=λo m=>by
  have:∀z∈(["row", "grow", "drop", "take", "counts", "coming", "left", "rows"]:À ah),z.cps.toList.all (λx=>decide (97<=x))=true:=by ac_rfl
  have:=Qag.mp (this _ (Mz o)) c m;have:=Ī this;lia
 have Áb:∀ks:À ah,KsS ks->∀z∈Ρ kT0,c ∉ Áz:=λks a z hz=>by obtain x|b|rfl:=Ľ hz;exact Zu1 (a.2 x b).2 Á Á
 intro z hz;unfold Od.ws at hz;rcases ħ hz with rfl|hz
 ·exact first o
 rcases ß hz with hz|hz
 ·cases o with
  | row s ks=>rw[Ý hz];exact RC h.1.1 Á
  | Ő s ks=>rw[Ý hz];exact RC h.1.1 Á
  | ő s=>rw[Ý hz];exact RC (show NmS s from h).1 Á
  | ĭ n=>rw[Ý hz];intro m;have:c∈[48+n]:=m;have:=Ý this;lia
  | Ào=>cases hz
  | ξ=>cases hz
  | left=>cases hz
  | ů=>cases hz
 ·cases o with
  | row s ks=>exact ÎQ
  | Ő s ks=>exact ÎQ
  | ő s=>cases hz
  | ĭ n=>cases hz
  | Ào=>cases hz
  | ξ=>cases hz
  | left=>cases hz
  | ů=>cases hz
theorem Mx(sep:ah)(ws:Ê)(m n:Nat)(h:∀s∈ws,ĝ<=m)(hn:ż<=n)(h1:Ìk=1):(ō sep ws).length<=n*(m+1):=by
 have j:=JK sep ws;have:∀l:À ah,(∀s∈l,ĝ<=m)->(ÂN ÀT).sum<=Ů*m:=λl=>by
  induction l with
  | nil=>intro _;simp
  | Ë a l b=>intro h;rw[ry,h1,c,b,s,d];rw[Ql,QR,Qq,Ð2];lia
 have c:=this ws h;have h3:ż*m+ż*1<=n*(m+1):=by rw[<- Nat.mul_add];exact Nat.mul_le_mul_right _ hn
 rw[h1]at j;lia
theorem Xg(ks:Ê):inV .non ÚU=false/\(ÚU).all W8=true:=by
 induction ks with
 | nil=>exact ć
 | Ë a r b =>
  refine Ìh
  ·show (eqV (Ä a) .non||inV .non (ÂK Ä))=false;rw[b.1];rfl
  ·show (W8 (Ä a)&&(ÂK Ä).all W8)=true;rw[b.2];rfl
theorem Zr9(o:Od):(inV .non Èk=false/\o.sing.all W8=true)/\inV .non Èl=false/\o.furt.all W8=true:=by
 cases o with
 | row s ks=>exact(Xg [s],Xg ks)
 | Ő s ks=>exact(Xg [s],Xg ks)
 | ő s=>exact(Xg [s],Xg [])
 | ĭ n=>exact((rfl,rfl),Xg [])
 | Ào=>exact ÎR
 | ξ=>exact ÎR
 | left=>exact ÎR
 | ů=>exact ÎR
theorem Mw{o:Od}(h:OdW o):ÁD Ū " " = o.ws:=by
 have e:#[ft," ",32]:=by ac_rfl
 unfold ġ;rw[e];exact Px (by unfold Od.ws;simp) (HG h Á)
theorem Mv{o:Od}(h:OdW o):o.ws.length<=12/\∀z∈o.ws,Ś<=50:=by
 have first:o.first.length<=50:=(by ac_rfl:∀z∈(["row", "grow", "drop", "take", "counts", "coming", "left", "rows"]:À ah),Ś<=50) _ (Mz o)
 have Áb:∀ks:À ah,KsS ks->∀z∈Ρ kT0,Ś<=50:=λks a z hz=>by obtain x|b|rfl:=Ľ hz;have:=(a.2 x b).1;have:=Ut x;lia
 have R:=HH h;have l1:=R.few;have ls:Âm<=1:=by cases o<;>first|exact Qj _|exact Qt _
 refine(by unfold Od.ws;rw[Qq,Qd];lia,λz hz=>?_);unfold Od.ws at hz;rcases ħ hz with rfl|hz
 ·exact first
 rcases ß hz with hz|hz
 ·cases o with
  | row s ks=>rw[Ý hz];exact Qk h.1.2.2 Ì
  | Ő s ks=>rw[Ý hz];exact Qk h.1.2.2 Ì
  | ő s=>rw[Ý hz];exact Qk (show NmS s from h).2.2 Ì
  | ĭ n=>rw[Ý hz];exact(by decide:1<=50)
  | Ào=>cases hz
  | ξ=>cases hz
  | left=>cases hz
  | ů=>cases hz
 ·cases o with
  | row s ks=>exact ÎQ
  | Ő s ks=>exact ÎQ
  | ő s=>cases hz
  | ĭ n=>cases hz
  | Ào=>cases hz
  | ξ=>cases hz
  | left=>cases hz
  | ů=>cases hz
structure U8 (H:Hp) (x:aa×aa×aa) (o:Od):Prop where
 t:H x.1=U (.tup [.str Âl,.ref x.2.1,.ref x.2.2])
 s:H x.2.1=U (.lst Èk)
 f:H x.2.2=U (.lst Èl)
theorem U8.same{H H':Hp}{x:aa×aa×aa}{o:Od}(h:U8 H x o)(s:Àa):U8 H' x o:=(s _ _ h.t,s _ _ h.s,s _ _ h.f)
def HF:Sp:=λvs H Q _=>∃o:Od,C3 #[za,Ū] (OdW o) (∀ (x:aa×aa×aa) H',ZB H H'->H x.1=af->H x.2.1=af->H x.2.2=af->U8 H' x o->Q (.ref x.1) H')
theorem Zm0(T:Õ)(v:Å4)(fD:Df P w K mg Â 3 "read_word" Ír HX)(eQ:Df P w K mg Â 1 "may_be_further" Êk HV):Df P w K mg Â 4 "order_in" ["row"] HF:=by
 rw[iN,T.t_order_in.df,VQ];obtain o|rfl|hw|q:=h;refine(_,#[Zc,#[YD,#[hJ,0],(@ZsU _ _ _ _ _ K #[Zo,#[rx,1,Æa],(@ZrF _ _ _ _ #[rx,2,Æa] Í)] Í Í Í Í)],#[Zc,#[ZK,#[Zk,Ztg,‹1›,#[UO,v.m_FORMS],À8],ÇM,ë],#[Zc,#[YD,#[ZF,Pw,#[UO,v.m_FORMS],‹1›],#[gT,K,2,#[Zo,#[rx,3,Æa],#[Zo,#[Zs,4,Æa,Ån],Èm]]]],#[Zc,#[Zu,5,Æa,â,ÒD],#[Zc,#[ZK,(@œ _ _ _ #[WI,#[Zk,Xl,Îr,‹5›,ú],#[WJ,(@VB _ _ _ _ #[XT,#[Zy,eQ,hr,#[Zd,#[pv,4,(Év â)],#[ZM,U2,Îr,‹5›]],Í]])]]),ÇM,ë],#[Zc,#[UW,6,Æa,UI,#[rV,3,2],#[em,8,UI,9],Àk,(λ_ _ _ _=>#[Zy,fD,hr,#[Zd,#[cw,8,UI],#[cw,9,UI]],#[ie,UI]])],#[Zc,#[UW,7,Æa,Tw,#[iL,K,#[fo,2,5]],#[gk,8,Tw],Àk,(λ_ _ _ _=>#[Zy,fD,hr,#[Zd,#[cv,4,Tw],#[cw,8,Tw]],#[ie,Tw]])],#[Zg,#[Zl,#[ZY,(@œ _ _ _ #[WI,#[Zk,(inQ K),ţ,‹6›,À8],#[WJ,#[Zk,(inQ K),ţ,‹7›,À8]]]),ţ,#[Yq,#[fa,1,6,7]]]]]]]]]]]],?_);have R:=HH hw;obtain im|hwz:=Mv hw;obtain t|I|eR|CU|ht:=ZsM v o;have EN:Âm<=1:=by cases o<;>first|exact Qj _|exact Qt _
 have e1:Èg:=by ac_rfl
 have CW:o.txt.length<=aq:=Qk (Mx " " o.ws 50 12 hwz im e1) Ì;refine(_,rfl,rfl,Ū, " ",rfl,rfl,ö,CW,(by rw[Mw hw];exact ÂS),λa ha=>?_);rw[Mw hw];refine(a,.str Âl,(ÚT).map Ä,rfl,É Zb,(by rw[Qa,Qd];have:=R.few;lia),λl hl=>?_);have J:=(Zi ha #[ei,o.ws.map]).trans (Zi hl (.lst ÎS));have n:(upd (upd H a #[ei,o.ws.map]) l (.lst ÎS)) l=U (.lst ÎS):=Zb;generalize upd (upd H a (.lst (o.ws.map Ä))) l (.lst ((o.sw++o.fw).map Ä))=L at J n ⊢;refine(_,_,rfl,_,_,rfl,rfl,_,rfl,bf,Âl,_,rfl,rfl,v.kd_FORMS,eR,_,rfl,Y9 ?_);refine(_,rfl,bf,Âl,.ref t,_,rfl,rfl,v.kd_FORMS,eR,rfl,t,_,rfl,ht L,rfl,_,_,rfl,_,_,rfl,rfl,_,rfl,I,_,rfl,.inr (CU L),?_);have ek:((Û9).length:Int)=ÓH:=by rw[Qa,R.l1]
 have el:((ÎS).length:Int)=ÓH+(Ê5:Int):=by rw[Qa,Qd];lia
 rw[ek];refine(_,rfl,l,_,rfl,.inl (É n),_,rfl,_,_,rfl,rfl,_,rfl,?_);rw[el];refine YC Á ?_;refine(_,rfl,_,rfl,l,_,rfl,.inl (É n),_,rfl,_,_,rfl,rfl,?_);rw[el];refine(o.fk,_,rfl,?_,_,rfl,Y9 ?_)
 ·rcases R.f with⟨h1,h2⟩|⟨h1,_⟩
  ·exact .inl (h2,by rw[h1];show (Âm:Int)+0-_=0;lia)
  ·exact .inr h1
 refine(_,rfl,_,rfl,.t I,.l l,o.kinds.map Ä,(ÚT).map Ä,rfl,CU L,É n,λD hD=>?_);refine SO (λi zs j d=>(X2 λm v2:Ã V=>j=[U (.str Ū),U (.str Âl),U Đ,U (.ref I),U o.fk,U #[hx,Âm],af,af,m,v2])/\zs=o.sing.take i/\i<=Âm/\d D=U Àe/\ZB L d) #[hY,hD] (λ_ _ _ _ h=>(CU _,É (h.2.2.2.2 _ _ n))) ?_ ?_
 ·rintro i zs j d x y p z c ⟨⟨m,v2,rfl⟩,rfl,hi,M,B⟩ hp;rw[Qr]at z c;cases N:o.kinds[i]? with
  | none=>rw[N]at z;cases z
  | some k =>
  rw[fL,N,z,z];have e:i<Âm:=by rw[<- R.l1];exact(Į N).1
  rw[QT e]at c;cases g:o.sw[i]? with
  | none=>rw[g]at c;cases c
  | some r =>
  rw[fL,g,c,c];have C:Èk[i]? = U (Èk[i]'#[ed,R.l2,e]):=Qb _;have kp:ZB d (upd d p (.tup [Ä k,.str r])):=Zi hp _;refine(p,_,rfl,ā Zb,rfl,_,_,rfl,_,_,rfl,rfl,_,rfl,_,rfl,k,r,_,rfl,R.s i k r _ N g C,kp _ _ M,#[e5,QA,ZA,Á],Ç2,?_,e,Zb,λb u F=>?_)
  ·rw[QH,C];rfl
  ·rw[Zf (Ze F hD)];exact kp _ _ (B b u F)
 rintro zs j d ⟨⟨m,v2,rfl⟩,rfl,_,M,B⟩;have Gq:min (Û9).length (ÎS).length=o.sing.length:=by rw[Qa,Qa,Qd,R.l1,R.l2];lia
 rw[Gq,Qz î]at M;have kj:Yo ÎS (U ÓH) af=ÎT Ä:=by rw[(RF ÚT Âm #[fe,Qd]).2,ÓI]
 refine#[h2,l,B,n,p,hp];rw[(kj)];have O:=Zi hp ÚX;rw[yV,uf,d,p,ÚX];have jU:=O _ _ M;generalize upd d p (.lst (ÎT Ä))=H3 at O uf jU ⊢;refine(p,rfl,#[rB,uf],λS W=>?_);have nDD:D≠S:=Ze jU W;refine Vf (K:=K) (a:=p) (xs:=ÎT Ä) (λi zs j X=>(∃m:Ã V,j=[U (.str Ū),U (.str Âl),U Đ,U (.ref I),U o.fk,U #[hx,Âm],U ÀP,af,m])/\zs=o.furt.take i/\i<=Ê5/\X S=U Àe/\ZB H3 X) #[fA,W] #[fu,uf] ?_ ?_
 ·rintro i y zs j X c ⟨⟨m,rfl⟩,rfl,hi,G,Y⟩;rw[Qr]at c;cases g:o.fw[i]? with
  | none=>rw[g]at c;cases c
  | some r =>
  rw[eh,g,c,e,Ê5];rcases R.f with⟨h0,_⟩|⟨hfk,hf⟩
  ·rw[h0]at e;exact Ç e (Úy _)
  have C:Èl[i]? = U (Èl[i]'#[ed,R.l3,e]):=Qb _;refine(_,rfl,_,rfl, "key",r,_,#[zj,hfk],hf i r _ g C,G,(by rw[QA];have:=R.few;exact ZA Á),ü,?_,e,Zb,λb u F=>?_)
  ·rw[QH,C];rfl
  ·rw[rF,F,W,Y,b,u]
 rintro zs j X ⟨⟨m,rfl⟩,rfl,_,G,Y⟩;rw[Qa,<- R.l3,Qz î]at G;obtain ⟨b1,b2⟩|b3|b4:=Zr9 o;have Gr:=Y _ _ jU;refine(_,rfl,D,_,rfl,.inl (É Gr),rfl,b2,_,rfl,?_);rw[Æ Qw,b1];refine Y9 (_,rfl,S,_,rfl,.inl (É G),rfl,b4,_,rfl,?_);rw[Æ Qw,b3];refine Y9 (_,rfl,_,rfl,_,rfl,ÁI,λtt Z=>?_);have Gs:=((Îi B).trans O).trans Y;exact q (tt,D,S,) _ (Gs.trans (Zi Z _)) (Gs.free Z) (J.free hD) (((Îi B).trans O).free W) (Zb,Zi Z _ _ _ Gr,Zi Z _ _ _ G)
theorem HE{c s:Nat}:∀xs:À (À Nat),c∈gl s xs->c=s\/∃x∈xs,c∈x
 | [],h=>by cases h
 | [a],h=>.inr (a,by simp,h)
 | a::b::r,h=>by
  have h':c∈a++s::gl s (b::r):=h;rcases ß h' with h'|h'
  ·exact .inr (a,by simp,h')
  ·rcases ħ h' with h'|h'
   ·exact .inl h'
   ·rcases HE (b::r) h' with z|⟨x,d,z⟩
    ·exact .inl z
    ·exact .inr (x,Qm _ d,z)
theorem Zs6{o:Od}(h:OdW o):10 ∉ o.txt.cps.toList:=λm=>by
 have e:#[ft," ",32]:=by ac_rfl
 have a:Ū=Ĕ ⟨[32].toArray⟩ o.ws:=by unfold ġ;rw[e];simpa using ÅC (⟨[32].toArray⟩:ah) o.ws
 rw[a,Py]at m;rcases HE _ m with z|⟨x,b,z⟩
 ·exact Ç z Ì
 ·rw[d9,w,hw,b];exact HG h Ì w hw z
theorem Zn8{o:Od}(h:OdW o):¬ Ä Ū=Ä "":=λz=>by
 injection z with z;have e:=Mw h;rw[(z)]at e;have a:ÁD ("" : ah) " " = [("" : ah)]:=by ac_rfl
 rw[a]at e;unfold Od.ws at e;injection e with e _;exact Ç ((by ac_rfl:∀z∈(["row", "grow", "drop", "take", "counts", "coming", "left", "rows"]:À ah),z ≠ "") _ (Mz o)) (λf=>f Ä5)
theorem Mu{o:Od}(h:OdW o):o.txt.length<=612:=Mx " " o.ws 50 12 (Mv h).2 (Mv h).1 ö
def ShT(os:Ę):ah:=ō "\n" ÎU
theorem HD{os:Ę}(h0:os≠[])(h:∀o∈os,OdW o):ÁD (ShT os) "\n" = ÂW ġ:=by
 have e:#[ft,"\n",10]:=by ac_rfl
 unfold ShT;rw[e];exact Px #[ea,h0] λz a=>by obtain o|b|rfl:=Ľ a;exact Zs6 (h o b)
def HC(H:Hp)(l:aa)(xs:À (aa×aa×aa))(os:Ę):Prop:=H l=U #[hS,Èy,x,x.1]/\Ú=Àp/\∀ (i:Nat) x o,xs[i]? = U x->os[i]? = U o->U8 H x o
def HB:Sp:=λvs H Q _=>∃os:À Od,C5 (vs=[.str (ShT os)]) (os≠[]) (Ê6) (Àp<=90) (∀ (l:aa) (xs:À (aa×aa×aa)) (H':Hp),ZB H H'->H l=af->HC H' l xs os->Q Đ H')
theorem ZoL(T:Õ)(iy:#[e6,4,"order_in","row",HF]):Df P w K mg Â 5 "orders_in" ["text"] HB:=by
 rw[iN,T.t_orders_in.df,TH];obtain os|rfl|Y|hw|Z|q:=h;refine(_,#[Zc,#[gB,1,TH.nd],#[Zc,#[XR,Γ,#[iE,K,ÚY,#[Zd,#[hJ,0]]],#[hW,TH.nd],#[Zg,#[ZK,#[ec,WQ,3,á],#[Zc,#[Zu,4,TH.nd,â,#[Zy,iy,hr,ÇX,Í]],#[Zc,#[ZK,#[g0,4],ÍV,ë],#[Zg,#[fW,1,4]]]],ë]]],#[fg,1]]],?_);have e1:#[fl,"\n",1]:=by ac_rfl
 have CW:(ShT os).length<=aq:=Qk (Mx "\n" ÎU 612 90 (λz g=>by obtain o|t|rfl:=Ľ g;exact Mu (hw o t)) #[ed,Qa,Z] e1) Ì;refine#[rN,l,F];have s1:=Zi F Ź;rw[eS,G,H,l,Ź];generalize upd H l (.lst [])=H1 at s1 G ⊢;refine(_,rfl,rfl,ShT os, "\n",rfl,rfl,ö,CW,(by rw[HD Y hw,Qa];exact Qk Z Ì),λa ha=>?_);rw[HD Y hw];have I:=Zi ha ÎV;rw[eS,J,H1,a,ÎV];have cb:=I _ _ G;generalize upd H1 a (.lst ((ÂW ġ).map Ä))=H2 at I J cb ⊢;have L:a≠l:=(Ze G ha).symm;refine(a,_,rfl,É J,?_);refine SM (λi M k=>(X3 λN O R:Ã V=>M=[U (.str (ShT os)),U Đ,N,O,R])/\i<=Àp/\k a=U ÎV/\#[ga,u,H,k]/\∃d,HC k l d Èn/\∀x∈d,x.1≠l/\x.2.1≠l/\x.2.2≠l) ((_,_,_,rfl),Qt _,J,s1.trans I,[],(cb,rfl,λi x o h=>by simp at h),λx h=>by cases h) (λ_ _ _ h=>É h.2.2.1) ?_ ?_
 ·rintro i y M k p n ⟨⟨N,O,R,rfl⟩,hi,wJ,S,d,⟨v,zc,lY⟩,W⟩ hp;rw[Qr,Qr]at n;cases g:os[i]? with
  | none=>rw[g]at n;cases n
  | some o =>
  rw[eh,g,n,bM,Àp];have t:=hw o (Qp g);have B:=Zi hp (.tup [.int (i:Int),.str Ū]);refine(p,_,rfl,ā Zb,rfl,_,_,rfl,_,_,rfl,rfl,_,rfl,rfl,_,rfl,?_);rw[Ń (Zn8 t)];refine YH (_,rfl,o,rfl,t,λx H4 s4 f1 f2 f3 hx=>?_);refine ÍI;have C:=B.trans s4;have pD:=C _ _ v;have g1:x.1≠l:=λz=>by rw[z,B _ _ v]at f1;cases f1
  have g2:x.2.1≠l:=λz=>by rw[z,B _ _ v]at f2;cases f2
  have g3:x.2.2≠l:=λz=>by rw[z,B _ _ v]at f3;cases f3
  have Gu:ņ=i:=by rw[zc,QA];lia
  refine(_,rfl,.inl #[ew,pD],_,rfl,l,_,_,rfl,rfl,pD,#[eV,Gu,ZA],(_,_,_,rfl),bM,?_,λb u hb=>?_,d++[x],(?_,?_,λj e D m r=>?_),λe bO=>?_)
  ·rw[Zf L];exact C _ _ wJ
  ·rw[Zf (Ze hb F)];exact C _ _ (S b u hb)
  ·rw[Zb,Qf];rfl
  ·rw[Qd,Gu,QA];simp;lia
  ·have Ċ:U8 H4 e D->e.1≠l->e.2.1≠l->e.2.2≠l->U8 (upd H4 l (.lst (Àf (λx=>õ x.1)++[.ref x.1]))) e D:=λh a b c=>(by rw[Zf a];exact h.t,by rw[Zf b];exact h.s,by rw[Zf c];exact h.f);by_cases hj:j<ņ
   ·rw[QT hj]at m;have vc:Èn[j]? = U D:=by rw[ÚZ]at r ⊢;rw[È Á]at r ⊢;exact r
    obtain a1|a2|a3:=W e (Qp m);exact Ċ ((lY j e D m vc).same C) a1 a2 a3
   ·have hj2:j<ņ+1:=by have:=(Į m).1;rwa [Qd]at this
    have X:j=i:=by lia
    subst X;rw[QY Á,show j-ņ=0 by lia]at m;cases m;rw[ÚZ,È Á,g]at r;cases r;exact Ċ hx g1 g2 g3
  ·rcases ß bO with h|h
   ·exact W e h
   ·rw[Ý h];exact(g1,g2,g3)
 ·rintro M k ⟨⟨N,O,R,rfl⟩,hi,wJ,S,d,tz,W⟩;rw[Qa,Qa,Qz î]at tz;exact(_,rfl,q l d k S F tz)
def HA(a e f:aa):Sp:=λvs H Q _=>X2 λd c:aa=>C3 #[ff,d] (H d=U (.ins a c [])) (∀ (X:MS) (nd:aa) (H':Hp),H' d=U #[zo,a,c,X.m]->¬ MFp X d->DOk e f H' X nd []->dsO X []=([],0,0,0,[])->(∀b,MFp X b->H b=af)->H nd=af->#[eN,u,d,H']->Q .non H')
theorem Zp5(T:Õ)(gw:Cf P w K mg Â 14 ak "Merge" Íl (Jb au ak)):Cf P w K mg Â 16 ax "Desk" ð (HA ax au ak):=by
 rw[d2,T.t_Desk_init.cf,ZjT,vs,v];rw[sH,d,c,hd];refine(_,#[Zc,#[XQ,‹0›,#[T3,gw,v,#[Zd,Âk]]],#[Zg,#[sa,PN]]],ÀV,λr v=>λm i k R nmd=>?_);have j:=Zi v Ź;have S:#[gb,H,r] r=U (.lst (([]:À (aa×À ah)).map λx=>õ x.1)):=Zb;have B:∀b,#[gb,H,r] b=af->H b=af:=λb=>j.free;generalize upd H r (.lst [])=l at j S B k R ⊢;have p:ZB l #[eJ,l,i,m,ak]:=λb o a=>by rw[Zf (Ze a k),Zf (Ze a R)];exact a
 have W:#[eJ,l,i,m,ak] m=U (.ins ak i []):=Zb;generalize upd (upd l i (.own m)) m (.ins ak i [])=H2 at p W ⊢;refine(m,i,r,[],rfl,W,(p _ _ S,Qt _,λx h=>by cases h),#[es,x,h],λC D L st w0 k2 q2 g t oO W3 S3 P3 F k3=>(rfl,?_));have hL:L=[]:=by have:=#[eX,oO.1];unfold ZC V8 at this;rw[Qa]at this;exact Äx this
 subst hL;obtain ek|eq:=P3.one (m:=8) (.few (by show 0<2;decide));subst ek;subst eq;have G:ZB H g:=λb o a=>k3 b o (p b o (j b o a)) (Ze (j b o a) k);have X:=G _ _ hd;have Y:∀b,Fp m C D ([]:À Zz) b->H b=af:=λb a=>by
  rcases F b a with z|z
  ·rw[(z)];exact j.free k
  ·exact j.free (p.free z)
 have Z:¬ Fp m C D ([]:À Zz) d:=λz=>by have:=Y d z;rw[hd]at this;cases this
 have wB:=Uy 8 _ st _ t.up (MC t) Ì S3;refine(_,rfl,d,ax,c,_,rfl,X,ž,ÁO,#[h8,0],?_);rw[W4];rw[eS,wK,g,d,ÓJ];have k4:#[ro,g,d,g,ÓJ]:=λb o a n=>by rw[Zf n];exact a
 have I:∀b,(upd g d ÓJ) b=af->g b=af:=λb a=>by
  by_cases z:b=d
  ·rw[sq,Zb,a]
  ·rw[Zf z]at a;exact a
 generalize upd g d (.ins ax c [("merge",.ref m,)])=H4 at wK k4 I ⊢;rw[gZ,e,J,M,rY,H4];have N:H e=af:=G.free (I e J);have md:=M _ _ wK;generalize upd H4 e (.dK [])=H5 at M rY md ⊢;refine(_,rfl,d,ax,c,_,rfl,md,ž,ÄR,#[h8,1],?_);have eF:Zw "numbers" Š [("merge",õ m,)]=dkF m e:=by rw[Zx ö,W4];rfl
 rw[eF];have O:e≠d:=λz=>by rw[z,hd]at N;cases N
 have k5:∀b o,g b=U o->b≠d->(upd H5 d (.ins ax c (dkF m e))) b=U o:=λb o a n=>by rw[Zf n];exact M _ _ (k4 b o a n)
 refine q (m,C,D,[],st,0,0,0,w0) e _ Zb Z (?_,#[hR,O,rY],(λz=>by have h3:=t.fp_fresh (I e J);exact h3 z),(rfl,.nil,.nil)) rfl Y N (λb u a n=>k5 b u (G b u a) n);refine MOk.keep (H:=g) (t,W3,wB) λb o a bP=>k5 b o a λz=>?_;rcases bP with y|⟨xs,rfl⟩
 ·exact Z #[ev,z,y]
 ·rw[sq,X,a]
theorem ZsX(a:Å4)(b:Ú0)(c:Ú1)(e:Ú2)(g:Ú3)(h:Ú4)(i:Ú5)(j:Ú6)(k:Ú7)(o:Od) :
  ∃f,ī K bc Âl=U δ/\Fv P w K mg Â 17 f (Yv ax au ak λx=>x=o):=by
 have go:∀ {x y:ah} {l:À ah} {p:Od->Prop},Df P w K mg Â 15 x l (Yv ax au ak p)->(∀f,mg x=U ą->ī K bc y=U δ)->p o->∃f,ī K bc y=U δ/\Fv P w K mg Â 17 f (Yv ax au ak λx=>x=o):=λF hd m=>by obtain f|q|F|r|t|u:=F.ex;exact(f,hd f r,q,_,(F.imp λvs H Q E ⟨d,v,z,A,X,nd,B,C,D,G,I,J,L,M,N,O,R,S⟩=>(d,v,z,A,X,nd,B,C,D,G,I,J,L,M,N,O,#[ed,R,m],S)).mono Ì,t,u)
 cases o with
 | row s ks=>exact go b a.d_DEEDS_row (s,ks,rfl)
 | Ő s ks=>exact go c a.d_DEEDS_grow (s,ks,rfl)
 | ő s=>exact go e a.d_DEEDS_drop (s,rfl)
 | ĭ n=>exact go g a.d_DEEDS_take (n,rfl)
 | Ào=>exact go h a.d_DEEDS_counts rfl
 | ξ=>exact go i a.d_DEEDS_coming rfl
 | left=>exact go j a.d_DEEDS_left rfl
 | ů=>exact go k a.d_DEEDS_rows rfl
structure Bd (S:DS) (d i:Nat):Prop where
 few:ÎH<=16
 nb0:0<=S.nb
 nb1:S.nb<=(d:Int)
 lt:∀x∈S.P,0<=x.1/\x.1<S.nb
 len:∀x∈S.P,x.2.1.length<=5*d
 key:WY S.P 1000
 li:S.li.natAbs<=300*i
 lo:S.lo.natAbs<=300300*i
 nmz:∀e∈Ž,AZ e.1/\e.1.length<=8
def Od.deed:Od->Nat
 | .row _ _=>1
 | .grow _ _=>1
 | .drop _=>1
 | _=>0
def dds(os:Ę):Nat:=(ÂW Od.deed).sum
theorem Bd.sbd{S:DS}{d i:Nat}(h:Bd S d i)(hd:d<=36)(hi:i<=90):SBd S:=(ÁJ,h.nb0,by have:=h.nb1;lia,h.lt,λx hx=>by have:=ÀC x hx;lia,by have:=h.li;lia,by have:=h.lo;lia,ÁP)
theorem Bd.up{S:DS}{d i:Nat}(h:Bd S d i)(d':Nat):Bd S (d+d') (i+1):=(ÁJ,h.nb0,by have:=h.nb1;lia,h.lt,λx hx=>by have:=ÀC x hx;lia,ÀY,by have:=h.li;lia,by have:=h.lo;lia,ÁP)
theorem Bd.step{S m:DS}{o:Od}{a:ah}{d i:Nat}(h:Bd S d i)(hw:OdW o)(g:YQ S o a m):Bd m (d+Ê7) (i+1):=by
 have p:∀ {ks:À ah},KsS ks->∀s∈ks,ĝ<=1000:=λA s B=>Qk (A.2 s B).1 Ì;have z:HP o:=by
  cases o with
  | row s ks=>exact p hw.2
  | Ő s ks=>exact p hw.2
  | ő s=>trivial
  | ĭ n=>exact Qba (QG (show n<10 from hw) Ì)
  | Ào=>trivial
  | ξ=>trivial
  | left=>trivial
  | ů=>trivial
 obtain C|D:=g.bd ÀY z;have r:=h.li;have E:=h.lo;have c:m.li.natAbs<=300*(i+1)/\m.lo.natAbs<=300300*(i+1):=by lia
 clear C D r E z;cases g with
 | ÁL _=>exact ÀD _
 | ÁM _=>exact ÀD _
 | ÁN _=>exact ÀD _
 | Ào=>exact ÀD _
 | left=>exact ÀD _
 | ů=>exact ÀD _
 | Âi _=>exact ÀD _
 | com _ _ _=>exact ÀD _
 | row j t F G =>
  rename_i P b u lo v s ks k q;have nb0:0<=b:=h.nb0;have nb1:b<=(d:Int):=h.nb1;refine(by show (P++[(b,ks,0,)]).length<=16;rw[Qd,Qx];lia,by show 0<=b+1;lia,by show b+1<=#[fO,d];lia,λx hx=>?_,λx hx=>?_,λx hx=>?_,c.1,c.2,λe he=>?_)
  ·show 0<=x.1/\x.1<b+1;rcases ß hx with hx|hx
   ·have:0<=x.1/\x.1<b:=h.lt x hx;lia
   ·rw[Ý hx];show 0<=b/\b<b+1;lia
  ·rcases ß hx with hx|hx
   ·have:=ÀC x hx;lia
   ·rw[Ý hx];have:=hw.2.1;show ÁB<=5*(d+1);lia
  ·rcases ß hx with hx|hx
   ·exact ÀY x hx
   ·rw[Ý hx];exact p hw.2
  ·rcases ß he with he|he
   ·exact ÁP e he
   ·rw[Ý he];exact(hw.1.1,hw.1.2.2)
 | Ő j t F G =>
  rename_i P b u lo v s ks H k q;refine(by show (Wf P H.1 ks).length<=16;unfold Wf;rw[Qa];exact ÁJ,h.nb0,by have:b<=(d:Int):=h.nb1;show b<=ÓK;lia,λx hx=>?_,λx hx=>?_,HN ÀY _ (p hw.2),c.1,c.2,ÁP)
  ·rw[d9,y,l,hx];have:=h.lt y l;split<;>exact this
  ·rw[d9,y,l,hx];have:=ÀC y l;have:=hw.2.1;split
   ·show (y.2.1++ks).length<=5*(d+1);rw[Qd];lia
   ·lia
 | ő j t=>rename_i P b u lo v s n k q;refine(Qk (Qay _ _) ÁJ,h.nb0,by have:b<=(d:Int):=h.nb1;show b<=ÓK;lia,λx hx=>h.lt x #[tn].1,λx hx=>by have:=ÀC x #[tn].1;lia,λx hx=>ÀY x #[tn].1,c.1,c.2,λe he=>ÁP e #[wP].1)
 | ĭ j t =>
  rename_i P w b u lo v n ts k q;have I:∀x∈w,0<=x.1/\x.1<b:=λx hx=>by
   have:x.1∈Z1 P:=by rw[<- j.num];exact Qg (f:=Å1) hx
   obtain y|l|e:=ÊY;rw[<- e];exact h.lt y l
  have J:Ê8=ÆR:=by have:=#[eX,j.num];unfold Z1 at this;rw[yG]
  refine(by show Ê8<=16;rw[J];exact ÁJ,h.nb0,by have:b<=(d:Int):=h.nb1;show b<=ÓK;lia,I,λx hx=>?_,j.keyLe ÀY,c.1,c.2,ÁP);obtain y|l|e:=j.rowOf x hx;have:=ÀC y l;rw[<- e];lia
def Zv6:Sp:=λvs H Q _=>∃os:À Od,C6 (vs=[.str (ShT os)]) (os≠[]) (Ê6) (Àp<=90) (dds os<=36) (∀ (a:À ah) (S:DS) (l:aa) (H':Hp),We ÓL os a S->H l=af->H' l=U #[ei,ļ]->#[ga,u,H,H']->Q Đ H')
theorem Zrk(os:Ę)(i:Nat):dds Èn<=dds os:=by have h:=ŕ dds (QaR i os);unfold dds at h ⊢;rw[Qf,Qao]at h;lia
theorem Zqj{os:Ę}{i:Nat}{o:Od}(h:os[i]? = U o):dds (os.take (i+1))=dds Èn+Ê7:=by rw[QH,h];unfold dds;rw[Qf,Qao];rfl
theorem ZuW(T:Õ)(N:Å4)(gY:#[e6,5,"orders_in","text",HB])(gZ:Cf P w K mg Â 16 ax "Desk" ð (HA ax au ak))
  (gK:Ú0) (fT:Ú1) (fU:Ú2) (fe:Ú3) (dN:Ú4) (dO:Ú5) (ff:Ú6) (fg:Ú7) :
  Df P w K mg Â 18 "run" ["text"] Zv6:=by
 rw[d2,T.t_run.df,VR,vs,O];obtain os|rfl|h0|hw|wI|ze|q:=h;refine(_,#[Zc,#[sy,1,VR.nd,gY,O,Áf],#[Zc,#[Zu,2,VR.nd,â,(@Zu0 _ _ _ _ _ _ _ _ _ gZ O Êt Í Ì)],#[Zc,#[gB,3,VR.nd],#[Zc,#[XR,Γ,ÎE,#[d5,4,VR.nd,5,6],#[Zc,#[Zu,7,VR.nd,â,#[ZF,Pw,#[UO,N.m_DEEDS],‹4›]],#[Zg,#[ZL,#[ZZ,K,QC,QD,QE,Z0,‹3›,#[Zd,(@Zra _ _ _ _ _ _ _ _ _ _ ‹7› O #[fa,2,5,6] Êt Í Í)]]]]]],#[fg,3]]]]],_,rfl,os,rfl,h0,hw,wI,λol xs c s1 fj tz=>?_);rw[g6,AW,zc,lY,tz];intro d j kq zf ndd;have G:ZB c #[eJ,c,j,d,ax]:=λb o a=>by rw[Zf (Ze a kq),Zf (Ze a zf)];exact a
 have ir:#[eJ,c,j,d,ax] d=U (.ins ax j []):=Zb;generalize upd (upd c j (.own d)) d (.ins ax j [])=H2 at G ir ⊢;refine(d,j,rfl,ir,λX nd I mT v R hS J iW k3=>(rfl,ÀV,λl k=>?_));have Gx:#[eC,u,c,I]:=λb u a=>k3 b u (G b u a) (Ze a kq);have S:=Zi k Ź;rw[eS,pD,I,l,Ź];have D4:=R.same S;have wK:=S _ _ mT;have AX:c l=af:=by
  cases z:c l with
  | none=>rfl
  | some u=>rw[Gx l u z]at k;cases k
 have W:l≠d:=λz=>by rw[z,mT]at k;cases k
 have Gy:l≠nd:=λz=>by rw[z,R.at']at k;cases k
 have Y:¬ MFp X l:=R.mg.M.fp_fresh k;have Z:∀b u,c b=U u->#[gb,I,l] b=U u:=λb u a=>S _ _ (Gx b u a);have Db:c nd=af:=G.free iW;have Gz:∀b,MFp X b->c b=af:=λb a=>G.free (J b a);generalize upd I l (.lst [])=H4 at pD D4 wK Z ⊢;refine(_,rfl,ol,rfl,(_,É (Z _ _ AW)),?_);refine Rq (λi σ m=>(X4 λv4 v5 v6 v7:Ã V=>σ=[U (.str (ShT os)),U (.ref ol),U ÂV,U Đ,v4,v5,v6,v7])/\i<=Àp/\#[ga,u,c,m]/\X3 λp X t=>m l=U #[ei,p.map]/\We ÓL Èn p (dsO X t)/\Bd (dsO X t) (dds Èn) i/\m d=U #[zo,ax,j,X.m]/\DOk au ak m X nd t/\¬ MFp X d/\¬ MFp X l/\∀b,MFp X b->c b=af) ((_,_,_,_,rfl),Qt _,Z,[],X,[],pD,(by rw[hS];exact .nil),(by rw[hS];exact(Qt _,Qaj _,Qaj _,λx h=>(by cases h),λx h=>(by cases h),λx h=>(by cases h),Qt _,Qt _,λx h=>(by cases h))),wK,D4,v,Y,Gz) (λ_ _ _ _ h=>É (h.2.2.1 _ _ AW)) ?_ ?_
 ·rintro i y σ m B ⟨⟨v4,v5,v6,v7,rfl⟩,hi,r,p,X,t,C,D,yy,F,D5,v,GA,J⟩;rw[Qr]at B;cases L:xs[i]? with
  | none=>rw[L]at B;cases B
  | some x =>
  rw[fL,L,B,B];have bM:i<Àp:=by rw[<- zc];exact(Į L).1
  obtain⟨o,M⟩:∃o,os[i]? = U o:=(_,Qb bM);have uq:=hw o (Qp M);have g3:=yy.sbd (Qk (Zrk os i) ze) Á;have hx:=lY i x o L M;obtain f|eR|hfv:=ZsX N gK fT fU fe dN dO ff fg o;refine(x.1,_,rfl,ā (r _ _ hx.t),rfl,_,_,rfl,_,_,rfl,_,_,rfl,rfl,_,rfl,bc,Âl,.ref f,_,rfl,rfl,N.kd_DEEDS,eR,rfl,_,rfl,.inl #[ew,C],_,rfl,f,_,rfl,hfv,_,rfl,_,rfl,_,rfl,d,x.2.1,x.2.2,j,X,nd,t,o,rfl,F,v,D5,g3,r _ _ hx.s,r _ _ hx.f,uq,rfl,λX' gG a' H6 g=>?_);have qv:=g.k _ _ C GA Gy;have hd6:=g.k _ _ F v (λz=>by rw[z,D5.at']at F;cases F);have AY:¬ MFp X' l:=λz=>(g.fp l z).elim GA λz=>by rw[(C)]at z;cases z
  have GB:¬ MFp X' d:=λz=>(g.fp d z).elim v λz=>by rw[F]at z;cases z
  have al:ÎW=i:=by rw[D.len,QA];lia
  refine(l,_,_,rfl,rfl,qv,#[eV,al,ZA],(_,_,_,_,rfl),bM,λb u a=>?_,p++[a'],X',gG,?_,?_,?_,?_,?_,GB,AY,λb a=>?_)
  ·rw[Zf (Ze a AX)];exact g.k b u (r b u a) (λz=>by rw[J b z]at a;cases a) (λz=>by rw[z,Db]at a;cases a)
  ·rw[Zb,Qf];rfl
  ·rw[QH,M];exact .snoc D D5.ok g3 g.st
  ·rw[Zqj M];exact yy.step uq g.st
  ·rw[Zf W.symm,g.m];exact hd6
  ·refine g.D.keep λb o' a bP=>?_;rw[Zf (λz=>by
    rcases bP with y|y|⟨zs,rfl⟩
    ·exact AY #[ev,z,y]
    ·exact Gy ÓM
    ·rw[z,qv]at a;cases a)]
   exact a
  ·rcases g.fp b a with z|z
   ·exact J b z
   ·cases e:c b with
    | none=>rfl
    | some u=>rw[r b u e]at z;cases z
 ·rintro σ m ⟨⟨v4,v5,v6,v7,rfl⟩,hi,r,p,X,t,C,D,_⟩;rw[Qa,zc,Qz î]at D;exact(_,rfl,q p _ l m D (s1.free AX) C λb u a=>r b u (s1 b u a))
theorem Zsq(ss:Ê):Ĝ ss=((ss.zip (Îx 1)).all λp=>!decide Ú8):=by
 have h:∀ss:À ah,Ót LeS↔∀p∈ss.zip (Îx 1),LeS p.1 p.2:=λss=>by
  induction ss with
  | nil=>simp
  | Ë a r e =>
   cases r with
   | nil=>simp
   | Ë b r =>
    have c:(b::r).Pairwise LeS↔∀p∈(b::r).zip r,LeS p.1 p.2:=e;show _↔∀p∈(a,b,)::(b::r).zip r,LeS p.1 p.2;rw[Úm,c];refine(λ⟨f,i⟩ p hp=>?_,λh=>(λx hx=>?_,λp hp=>h p (Qm _ hp)))
    ·rcases ħ hp with rfl|hp
     ·exact f b Ó
     ·exact i p hp
    ·have d:LeS a b:=h (a,b,) Ó;rcases ħ hx with rfl|hx
     ·exact d
     ·have:=#[gt,c.mpr,p,hp];exact Ær ((Ós this).1 x hx)
 rw[QaN,Ic,h,Qag];exact(λg p hp=>by rw[Ń (g p hp)];rfl,λg p hp z=>by have:=g p hp;rw[đ z]at this;cases this)
def Hy:Sp:=λvs H Q _=>X2 λ(l:aa) (ss:À ah)=>C4 #[ff,l] #[sK,l] #[s6,300] (∀H',ZB H H'->Q (.bl (Ĝ ss)) H')
theorem Zru(T:Õ):Df P w K mg Â 1 "_law_in_order" Êm Hy:=by
 rw[d2,T.t_l_in_order.df,Zin,N,hr];rw[fY,l,c,I,h300];refine(_,#[Zg,#[Zl,#[Zn,(K6 K),Í,T.b.n_all,boot_all,#[Zd,#[W7,Tu,#[iZ,K,T.b.n_zip,#[Zd,‹0›,#[W9,(slL K),‹0›,#[Xy,Ü],(@Ws _)]]],#[em,1,Tu,2],Àk,(λ_ _ _ _=>#[XJ,Zo6,#[cw,1,Tu],#[cw,2,Tu],ú])]]]]],?_);have O:Yo (š Ä) (U (1:Int)) af=(Èo 1).map Ä:=by
  by_cases R:1<=Ņ
  ·exact(RF c 1 R).2
  ·have S:c=[]:=Äx Á;rw[S];rfl
 rw[iF,l,I,p,W,O];have m:=Zi W Ú9;rw[yV,n,H,p,Ú9];have o:=m _ _ I;generalize upd H p (.lst ((Èo 1).map Ä))=X at m n o ⊢;refine(.l l,.l p,š Ä,(Èo 1).map Ä,rfl,É o,É n,λD J=>?_);refine SO (λi zs r d=>(X2 λv z:Ã V=>r=[U Đ,v,z])/\(∃bs:À Ñ,zs=bs.map V.bl/\bs=((Üa).take i).map (λp=>!decide Ú8))/\i<=(Üa).length/\d D=U Àe/\ZB X d) ((af,af,rfl),([],rfl,rfl),Qt _,Zb,Zi J _) (λ_ _ _ _ h=>(É (h.2.2.2.2 _ _ o),É (h.2.2.2.2 _ _ n))) ?_ ?_
 ·rintro i zs r d x y t g j ⟨⟨v,z,rfl⟩,⟨bs,rfl,k⟩,hi,B,C⟩ Y;rw[Qr]at g j;cases F:c[i]? with
  | none=>rw[F]at g;cases g
  | some a =>
  cases G:(Èo 1)[i]? with
  | none=>rw[G]at j;cases j
  | some b =>
  rw[F]at g;rw[fL,G,j,g];cases j;have L:Üa[i]? = U (a,b,):=by rw[List.getElem?_zip_eq_some];exact(F,G)
  have Z:=(Į L).1;have wC:bs.length=i:=by rw[k,Qa,QA];lia
  have yJ:(Üa).length<=300:=by rw[Ûa];lia
  have st:=Zi Y (.tup [Ä a,.str b]);refine(t,_,rfl,ā Zb,rfl,_,_,rfl,_,_,rfl,rfl,_,rfl,_,rfl,_,_,rfl,rfl,st _ _ B,#[eV,wC,ZA],Ç2,(bs++[!decide (b.cps.toList<Òe)],by rw[Qf];rfl,?_),Z,Zb,λb' u M=>?_)
  ·rw[QH,L,Qf,<- k];rfl
  ·rw[Zf (Ze M J)];exact st _ _ (C b' u M)
 rintro zs r d ⟨⟨v,z,rfl⟩,⟨bs,rfl,k⟩,_,B,C⟩;rw[Qa,Qa,<- Ûa,Qz î]at k;refine(D,bs,rfl,É B,?_);have e:ÉD id=Ĝ c:=by rw[Zsq,k,List.all_map];rfl
 rw[e];exact q d (m.trans C)
structure AR where
 nm:ah
 t:aa
 n:Int
 k:aa
 ss:À ah
 g:Nat
def kvA(R:ñ):À Âa:=ł λe=>(.inr ä,.ref e.t,)
def dkR(rd:aa)(c:Int):À Âa:=[(.inr "rows",.ref rd,),(.inr "coming",.int c,)]
theorem Mt(rd:aa)(c:Int):((ÎX).map ù).Nodup:=by show [(Ál "rows" : Key),.inr "coming"].Nodup;refine Ûb (λm=>?_,Ûb (by simp,.nil));have:=Ën (Ý m);exact Ç this ö
theorem S7(rd:aa)(c:Int):Y3 ÎX (.inr "rows")=U (.ref rd):=UR (Mt rd c) (by unfold dkR;simp)
theorem Hw(rd:aa)(c:Int):Y3 ÎX (.inr "coming")=U (.int c):=UR (Mt rd c) (by unfold dkR;simp)
structure X0 (H:Hp) (d rd:aa) (R:ñ) (c:Int):Prop where
 at':H d=U (.dK ÎX)
 ů:H rd=U (.dK (kvA R))
 tup:∀e∈R,H e.t=U (.tup [.int e.n,.ref e.k,.int (e.g:Int)])/\H e.k=U #[ei,e.ss.map]
 nd:#[wO].Nodup
 ne:d≠rd
theorem X0.same{H H':Hp}{d rd:aa}{R:ñ}{c:Int}(D:X0 H d rd R c)(s:Àa):X0 H' d rd R c:=(s _ _ Ĵ,s _ _ Ák,λe he=>(s _ _ #[v4].1,s _ _ #[v4].2),D.nd,D.ne)
def Hv:Sp:=λvs H Q _=>vs=[]/\∀ (d rd:aa) (H':Hp),H d=af->H rd=af->X0 H' d rd [] 0->ZB H H'->Q ÂV H'
theorem Zp2(T:Õ):Df P w K mg Â 1 "_law_begun" [] Hv:=by
 refine T.t_l_begun.df Zmn #[iz,p] #[d3,p,a]
 ·obtain rfl|_:=h;rfl
 obtain rfl|q:=h;refine(_,#[Zg,#[Zl,(@ZsP _ _ _ _ _ (@KN _ _ _ _ _ _ _ _ _ á (@PN _ _) (@KN _ _ _ _ _ _ _ _ _ á Ü (@Zsu _ _))) rfl rfl ÁC #[ep,2,15])]],?_);rw[gZ,d,hd,c,g,H];generalize upd H d (.dK [])=k at c g ⊢;rw[gZ,r,a,i,l,k];have m:r≠d:=(Ze g a).symm;have n:=i _ _ g;have j:=c.free a;generalize upd k r (.dK [])=H2 at i l n ⊢;refine(n,dkR r 0,rfl,#[ep,2,15],?_);rw[Kx (dkR r 0) [] (by rw[Ûc];exact Mt r 0),Ûc];exact q d r _ hd j (Zb,#[hR,m,l],#[es,e,h],.nil,m.symm) λb u o=>by rw[Zf (Ze o hd)];exact i _ _ (c _ _ o)
structure ATo (H H':Hp) (d rd:aa) (R R':ñ) (c c':Int):Prop where
 D:X0 H' d rd R' c'
 k:∀b u,H b=U u->b≠d->b≠rd->H' b=U u
 kf:∀e∈R',(∃x∈R,x.k=e.k)\/H e.k=af
inductive WT:À AR->Int->Od->ah->À AR->Int->Prop
 | row {R:À AR} {c:Int} {s:ah} {ks:À ah} {t k:aa}:(∀e∈R,ä≠s)->Ĝ ks=true->Ân<=15->WT R c (.row s ks) "done" (R++[(s,t,c,k,ks,0)]) (c+1)
 | ÁL {R:À AR} {c:Int} {s:ah} {ks:À ah}:((∃e∈R,ä=s)\/Ĝ ks=false\/15<Ân)->WT R c (.row s ks) "refused" R c
 | Ő {R:À AR} {c:Int} {s:ah} {ks:À ah} {e:AR} {t k:aa}:e∈R->ä=s->Ĝ (Ö++ks)=true->WT R c (.grow s ks) "done" (ł λx=>if Υ=s then (s,t,e.n,k,Ö++ks,e.g) else x) c
 | ÁM {R:À AR} {c:Int} {s:ah} {ks:À ah}:((∀e∈R,ä≠s)\/∃e∈R,ä=s/\Ĝ (Ö++ks)=false)->WT R c (.grow s ks) "refused" R c
 | ő {R:À AR} {c:Int} {s:ah} {e:AR}:e∈R->ä=s->WT R c (.drop s) "done" (R.filter λx=>decide (Υ≠s)) c
 | ÁN {R:À AR} {c:Int} {s:ah}:(∀e∈R,ä≠s)->WT R c (.drop s) "refused" R c
structure S6 (R:ñ) (c:Int) (S:DS):Prop where
 nm:ł (λe=>(ä,e.n,))=Ž
 P:ł Îd=S.P
 c:c=S.nb
theorem WT.link{R H:ñ}{c I:Int}{o:Od}{a b:ah}{S J:DS}(h:WT R c o a H I)(L:S6 R c S)(ok:SOk S)(g:YQ S o b J):a=b/\S6 H I J:=by
 have d:∀ {s:ah},(∀e∈R,ä≠s)↔∀e∈Ž,e.1≠s:=λ{s}=>by rw[<- L.nm];exact(λh e j=>(by obtain x|l|rfl:=Ľ j;exact h x l),λh e j=>h _ (Qg (f:=ÎY) j))
 have len:Ân=ÎH:=by have:=#[eX,L.P];rwa [Qa]at this
 have mem:∀e∈R,(ä,e.n,)∈Ž/\(ÂR:ZG)∈S.P:=λe j=>(by rw[<- L.nm];exact Qg (f:=ÎY) j,by rw[<- L.P];exact Qg (f:=ÎZ) j);cases h with
 | row h1 m C =>
  rename_i s ks t k;cases g with
  | row g1 p A D =>
   rename_i P E K lo B k' M;have O:ł (λe=>(ä,e.n,))=B:=L.nm;have F:ł Îd=P:=L.P;have Q:c=E:=L.c;subst Q;refine(rfl,?_,?_,rfl)
   ·show (R++[_]).map _=B++[(s,c,)];rw[Qf,O];rfl
   ·show (R++[_]).map _=P++[(c,ks,0,)];rw[Qf,F];rfl
  | ÁL g1 =>
   rcases g1 with⟨e,j,z⟩|g1|g1
   ·exact Ç z (d.mp h1 e j)
   ·rw[hL,m,g1]
   ·lia
 | ÁL h1 =>
  cases g with
  | row g1 p A D =>
   rcases h1 with⟨e,j,z⟩|h1|h1
   ·exact Ç z (d.mpr g1 e j)
   ·rw[hL,p,h1]
   ·rename_i P E K lo B k' M;have h5:Ân=ÆR:=len;lia
  | ÁL _=>exact Î0
 | Ő h1 m C =>
  rename_i s ks e t k;rw[xc];cases g with
  | Ő g1 p A D =>
   rw[sv,p];refine(rfl,?_,?_,L.c)
   ·rw[Qo];refine Eq.trans (QJ λx l=>?_) L.nm;rw[70];split
    ·rename_i v;have r:=#[wA].1;rw[v]at r;have:=ÓN;injection this with _ this;rw[v,this]
    ·rfl
   ·rename_i P E K lo B k' M;have F:P=ł Îd:=L.P.symm;rw[Qo];show _=Wf P e.n ks;unfold Wf;rw[F,Qo];refine QJ λx l=>?_;rw[70];by_cases v:Υ=s
    ·have r:=#[wA].1;rw[v]at r;have u:=ÓN;injection u with _ u;have G:=Yh ÄT #[wA].2 w u;injection G with _ G;injection G with T V;have N:x.n=e.n:=u;rw[È v,È N,N,T,V]
    ·have W:¬ x.n=e.n:=λz=>v (by have:=Ur ok.ndN #[wA].1 i z;injection this);rw[iu,v,W]
  | ÁM g1 =>
   rcases g1 with g1|⟨y,X,g1,p⟩
   ·exact Ûd
   ·rw[sv,X];rw[show Ĝ Èa=false from p]at C;cases C
 | ÁM h1 =>
  cases g with
  | Ő g1 p A D =>
   rcases h1 with h1|⟨e,j,h1,m⟩
   ·exact Ûe
   ·obtain i|w:=mem e j;rw[h1]at i;rw[sv,p];rw[show Ĝ (Ö++_)=false from m]at A;cases A
  | ÁM _=>exact Î0
 | ő h1 m =>
  rename_i s e;rw[xc];cases g with
  | ő g1 p =>
   rename_i n k q;have u:=Yh ok.nd g1 i rfl;injection u with _ u;subst u;refine(rfl,?_,?_,L.c)
   ·have:=ŕ (ÓA λe:ah×Int=>decide (e.1≠s)) L.nm;rw[zk,Qaq]
   ·unfold Us;have:=ŕ (ÓA λx:ZG=>decide (x.1≠e.n)) L.P;rw[Qaq]at this;refine Eq.trans ?_ this;congr 1;refine QaU λx l=>ÇL ÚF
    ·have Y:x.n=e.n:=z;have:=Ur ok.ndN #[wA].1 i Y;rw[xL]
    ·have r:=#[wA].1;rw[(z)]at r;have:=ÓN;rw[xL]
  | ÁN g1=>exact Ûd
 | ÁN h1 =>
  cases g with
  | ő g1 _=>exact Ûe
  | ÁN _=>exact Î0
theorem ZqM(R:ñ):(kvA R).map ù=#[wO].map (Ál:ah->Key):=by unfold kvA;rw[Qo,Qo];rfl
theorem Zui{R:ñ}(nd:Ê9):((kvA R).map ù).Nodup:=by rw[ZqM];exact Úz
theorem S5{R:ñ}(nd:Ê9){e:AR}(h:e∈R):Y3 (kvA R) (.inr ä)=U (.ref e.t):=UR (Zui nd) (Qg (f:=ÓO) h)
theorem Ht{R:ñ}{s:ah}(h:∀e∈R,ä≠s):Y3 (kvA R) (.inr s)=af:=by
 cases a:Y3 (kvA R) (.inr s) with
 | none=>rfl
 | some v=>obtain e|b|z:=Ľ (US a);injection z with z _;exact Ç Å7 (h e b)
theorem Zqv(R:ñ)(s:ah):WE (kvA R) (.inr s)=kvA (R.filter λe=>decide (ä≠s)):=by unfold WE kvA;rw[Qaq];congr 1;exact QaU λe _=>ÇL #[rq,Ál,ä,Å7]
theorem Zsk{R:ñ}{s:ah}{e:AR}(he:e∈R)(hs:ä=s)(t k:aa)(ks:Ê):YT (kvA R) (.inr s) Ág=kvA (ł λx=>if Υ=s then (s,t,e.n,k,Ö++ks,e.g) else x):=by
 unfold YT;rw[È]
 ·unfold kvA;rw[Qo,Qo];refine QJ λx hx=>?_;rw[70];by_cases h:Υ=s
  ·rw[È ÊE,È h];show (#[sm,Υ],õ t,)=(.inr s,.ref t,);rw[h]
  ·rw[xJ]
 ·exact ÇS (_,Qg (f:=ÓO) he,đ (by rw[hs]))
theorem Zs3(rd:aa)(c v:Int):YT ÎX (.inr "coming") (.int v)=dkR rd v:=by have h:¬ (Ál "rows" : Key)=.inr "coming":=λz=>Ç Å7 ö;unfold YT dkR;rw[È (ÇS ((.inr "coming",.int c,),by simp,đ rfl))];rw[Ql,Ql,QaY,Æ h,È rfl]
theorem Zs1(R:ñ)(s:ah):(∀e∈R,ä≠s)\/∃e∈R,ä=s:=by
 by_cases h:∃e∈R,ä=s
 ·exact .inr h
 ·exact ÚA
def Hs:Sp:=λvs H Q _=>X9 λ(d rd b:aa) (R:À AR) (c:Int) (f s:ah) (ks:À ah) (o:Od)=>C8 (vs=[.ref d,.str f,.str s,.ref b]) Î1 (H b=U Ái) (U9 f s ks o) (KsS ks) (Ân<=30) ((∀e∈R,Ŝ<=180/\e.n<c)) (∀ (a:ah) (g:À AR) (h:Int) (H':Hp),WT R c o a g h->ATo H H' d rd R g c h->Q (.str a) H')
theorem ZmO(T:Õ)(gx:#[e6,1,"_law_in_order","_law_keys_here",Hy]):Df P w K mg Â 2 "_law_deed_due" Íu Hs:=by
 rw[d2,T.t_l_deed_due.df,TF,vs,I];obtain d|m|X|R|c|l|i|ks|o|rfl|D|mZ|ho|dD|h30|oM|q:=h;refine(_,#[Zc,#[Zu,4,TF.nd,â,ÓP],(@UQ _ _ _ _ _ #[ZK,#[Zk,YI,#[XJ,YI,‹1›,á,ú],#[XJ,(inG I),‹2›,‹4›,À8],ú],Èd,ë] #[Zc,#[ZK,#[ig,1],#[Zc,#[ZL,#[ZZ,K,Qai,QaQ,Ól,PD,‹4›,Ãx]],Èd],ë],(@UQ _ _ _ _ _ #[YD,#[ZY,#[ig,1],#[ZF,(ixG I),‹4›,‹2›],#[Yq,#[Zd,ÓP,Âk,Ü]]],#[d5,5,TF.nd,6,7]] (@UQ _ _ _ _ _ #[ZK,(@œ _ _ _ #[WI,(@VB _ _ _ _ #[XT,#[Zy,gx,I,#[Zd,#[rT,VX,6,3]],Í]]),#[WJ,(@œ _ _ _ #[Yb,#[ig,1],#[XS,#[Zk,Wt,#[Zn,T1,Í,Áe,Qy,Î2],Ü,ú]]])]]),Èd,ë] #[Zc,#[YD,#[Yq,#[Zd,‹5›,#[rT,VX,6,3],‹7›]],#[Xd,‹4›,‹2›,(Wp I)]],#[Zc,#[YD,#[Zn,(Rj rfl),Í,Ód,boot_max,#[Zd,ÓP,#[ha,Yf,5]]],#[Xd,‹0›,á,(Wp I)]],Èd]]))])],?_);have no:Ûf:=ÓQ;have stay:∀ {a:ah} {Y:Hp},WT R c o a R c->ZB H Y->Q (.str a) Y:=λst s=>q _ R c _ st (Ê0 s,λb u r _ _=>s b u r,λe j=>.inl (e,j,rfl));refine(_,rfl,d,_,rfl,ŉ (k:=Ëa) Ĵ (S7 m c),?_);have hrow:U9 l i ks o->(l = "row"/\o=.row i ks\/l = "grow"/\o=.grow i ks\/l = "drop"/\o=.drop i):=id;refine(λJ Y=>J=[U ÂV,U (.str l),U (.str i),U (.ref X),U ÅZ,af,af,af]/\Y=H/\(Ûg\/∃e∈R,ä=i/\(l = "grow"/\o=.grow i ks\/l = "drop"/\o=.drop i)),?_,?_)
 ·rcases Zs1 R i with L|⟨e,j,tN⟩
  ·have hv:=Ht L;refine(_,rfl,rfl,_,rfl,_,rfl,m,_,rfl,ŉ (k:=.inr i) Ák hv,rfl,_,rfl,?_);rcases ho with⟨rfl,rfl⟩|⟨rfl,rfl⟩|⟨rfl,rfl⟩
   ·rw[n2];exact YC ÁC (rfl,rfl,.inl (rfl,rfl,L))
   ·rw[fF,"grow"];exact YZ rfl (stay (.noGrow (.inl L)) Ãy)
   ·rw[fF,"drop"];exact YZ rfl (stay (.noDrop L) Ãy)
  ·subst tN;have hv:=S5 D.nd j;refine(_,rfl,rfl,_,rfl,_,rfl,m,_,rfl,ŉ (k:=.inr ä) Ák hv,rfl,_,rfl,?_);rcases ho with⟨rfl,rfl⟩|⟨rfl,rfl⟩|⟨rfl,rfl⟩
   ·rw[n2];exact YZ rfl (stay (.noRow (.inl (e,j,rfl))) Ãy)
   ·rw[fF,"grow"];exact YC ÁC (rfl,rfl,.inr (e,j,rfl,.inl ć))
   ·rw[fF,"drop"];exact YC ÁC (rfl,rfl,.inr (e,j,rfl,.inr ć))
 rintro J Y ⟨rfl,rfl,O⟩;have Dc:(∃e∈R,ä=i/\l = "drop"/\o=.drop i)\/(l ≠ "drop"/\(Ûg\/∃e∈R,ä=i/\l = "grow"/\o=.grow i ks)):=by
  rcases O with⟨rfl,h2,C⟩|⟨e,j,Z,⟨rfl,C⟩|⟨h2,C⟩⟩
  ·exact .inr (by ac_rfl,.inl (rfl,h2,C))
  ·exact .inr (by ac_rfl,.inr (e,j,Z,rfl,C))
  ·exact .inl (e,j,Z,h2,C)
 rcases Dc with⟨e,j,rfl,rfl,rfl⟩|⟨iW,O⟩
 ·refine Óe;refine(_,rfl,.inr #[rt,Ák],_,rfl,m,_,.inr ä,_,rfl,rfl,Ák,S5 D.nd j,?_);rw[Zqv];refine q "done" _ c _ (.drop j rfl) ((by rw[Zf D.ne];exact Ĵ,Zb,λx hx=>?_,D.nd.sublist Îv,D.ne),λb u r _ n2=>by rw[Zf n2];exact r,λx hx=>.inl (x,#[tn].1,rfl));obtain S|W:=ÄU x #[tn].1;exact(by rw[Zf (λz=>by rw[z,Ák]at S;cases S)];exact S,by rw[Zf (λz=>by rw[z,Ák]at W;cases W)];exact W)
 refine(_,rfl,rfl,_,rfl,YC (no iW) ?_);refine(λJ H1=>X4 λ(n:Int) (F:aa) (p:À ah) (g:Nat)=>J=Ûh/\ZB Y H1/\H1 F=U #[ei,p.map]/\ÎW<=180/\((l = "row"/\o=.row i ks/\(∀e∈R,ä≠i)/\n=c/\p=[]/\g=0)\/(l = "grow"/\o=.grow i ks/\∃e∈R,ä=i/\n=e.n/\p=Ö/\g=e.g)),?_,?_)
 ·rcases O with⟨rfl,h2,C⟩|⟨e,j,rfl,rfl,C⟩
  ·refine(_,rfl,rfl,_,rfl,YC (no ö) ?_);refine(_,rfl,d,_,rfl,ŉ (k:=.inr "coming") Ĵ (Hw m c),ÀV,λF fj=>(ÁI,λt ht=>?_));have s0:=Zi fj Ź;have G:=Zi ht (.tup [.int c,.ref F,.int 0]);refine(t,_,rfl,ā Zb,rfl,_,_,rfl,_,_,rfl,_,_,rfl,rfl,c,F,[],0,rfl,s0.trans G,G _ _ Zb,Qt _,.inl (rfl,h2,C,rfl,rfl,rfl))
  ·obtain S|W:=ÄU e j;refine(_,rfl,rfl,_,rfl,YZ rfl (_,rfl,_,rfl,m,_,rfl,ŉ (k:=.inr ä) Ák (S5 D.nd j),?_));exact(e.t,_,rfl,ā S,rfl,_,_,rfl,_,_,rfl,_,_,rfl,rfl,e.n,e.k,Ö,e.g,rfl,ÂC _,W,(oM e j).1,.inr (rfl,C,e,j,rfl,rfl,rfl,rfl))
 rintro J H1 ⟨n,F,p,g,rfl,G,fj,h180,O⟩;have D1:=Ê0 G;refine(λJ H2=>J=Ûh/\ZB H1 H2/\Ĝ (p++ks)=true/\(l = "row"->Ân<=15),?_,?_)
 ·refine(_,rfl,_,rfl,F,X,_,_,rfl,rfl,fj,G _ _ mZ,Ûi,λe2 tO=>?_);rw[<- Qf];have s2:=Zi tO ÓR;refine(e2,p++ks,rfl,Zb,(by rw[Qd];have:=dD.1;lia),λH3 s3=>(_,rfl,?_));have wP:=s2.trans s3;cases v:Ĝ (p++ks) with
  | false =>
   refine YH (YH (stay ?_ (Î3 wP)));rcases O with⟨_,rfl,_,_,rfl,_⟩|⟨_,rfl,e,j,Z,_,rfl,_⟩
   ·exact .noRow #[r6,v]
   ·exact .noGrow (.inr (e,j,Z,v))
  | true =>
   refine Y9 ?_;refine Èe;rcases O with⟨rfl,rfl,C,_⟩|⟨rfl,rfl,_⟩
   ·have ekl:#[hc,kvA,R]=(Ân:Int):=by unfold kvA;rw[Qa]
    refine YZ rfl (_,rfl,m,_,rfl,wP _ _ D1.rows,_,_,rfl,rfl,_,rfl,?_);rw[ekl];by_cases vn:15<Ân
    ·exact YZ Á (stay (.noRow (.inr (.inr vn))) (Î3 wP))
    ·exact YC Á (rfl,wP,rfl,λ_=>by lia)
   ·exact YC (no ö) (Y9 (rfl,wP,rfl,λz=>Ç z ö))
 rintro J H2 ⟨rfl,s2,v,vn⟩;have D2:=D1.same s2;have pi:=Î3 s2;have A0:=s2 _ _ fj;have A1:=pi _ _ mZ;clear G s2 D1 fj;refine(_,rfl,_,rfl,_,rfl,F,X,_,_,rfl,rfl,A0,A1,Ûi,λB l6=>(_,rfl,ÁI,λM cL=>?_));rw[<- Qf]at cL ⊢;have s3:=Zi l6 ÓR;have s4:=Zi cL ÓS;have zh:=s4 _ _ (Zb (H:=H2) (a:=B) (o:=.lst ((p++ks).map Ä)));have GC:(upd (upd H2 B ÓR) M ÓS) M=U ÓS:=Zb;have D4:=(D2.same s3).same s4;have kC:=(pi.trans s3).trans s4;generalize upd (upd H2 B (.lst ((p++ks).map Ä))) M (.tup [.int n,.ref B,.int (g:Int)])=H4 at zh GC D4 kC ⊢;have yZ:=pi.free l6;clear s3 s4 pi A0 A1 D2 l6 cL;obtain⟨N,c',GD,bK,GF,GG,wE⟩:X2 λ(N:À AR) (c':Int)=>YT (kvA R) (.inr i) (.ref M)=kvA N/\WT R c o "done" N c'/\(if n+1>c then n+1 else c)=c'/\(∀x∈N,x∈R\/(x.t=M/\x.n=n/\x.k=B/\x.ss=p++ks/\x.g=g))/\(N.map (·.nm)).Nodup:=by
  rcases O with⟨Z,rfl,L,rfl,rfl,rfl⟩|⟨_,rfl,e,j,rfl,rfl,rfl,rfl⟩
  ·refine(R++[(i,M,n,B,ks,0)],n+1,?_,.row L v (vn Z),È Á,λx hx=>?_,?_)
   ·rw[UV _ (Ht L)];unfold kvA;rw[Qf];rfl
   ·rcases ß hx with hx|hx
    ·exact .inl hx
    ·rw[Ý hx];exact .inr Îk
   ·rw[eW,D.nd,ha,r,y,hy];have:b=i:=by simpa using r
    rw[this];exact L y hy
  ·refine(_,c,Zsk j rfl M B ks,.grow j rfl v,Æ (by have:=(oM e j).2;lia),λx hx=>?_,?_)
   ·rw[d9,y,hy,hx];split
    ·exact .inr Îk
    ·exact .inl hy
   ·have:(ł λx=>if Υ=ä then ((ä,M,e.n,B,Ö++ks,e.g):AR) else x).map (·.nm)=ł (·.nm):=by
     rw[Qo];refine QJ λx _=>?_;rw[70];split
     ·rename_i h;exact h.symm
     ·rfl
    rw[this];exact D.nd
 have GH:#[sO,kvA,R]:=by unfold kvA;rw[kZ]
 refine(_,rfl,_,rfl,m,_,rfl,Xv.k (k:=.inr i) D4.rows GH,?_);rw[GD];have md:#[rr,H4,m,kvA,N] d=U (.dK (dkR m c)):=by rw[Zf D.ne];exact D4.at'
 refine(_,rfl,d,_,rfl,ŉ (k:=.inr "coming") md (Hw m c),_,rfl,_,_,rfl,rfl,_,_,rfl,_,rfl,d,_,rfl,Xv.k (k:=.inr "coming") md (by show 2<aq;exact ZA Ì),?_);rw[Zs3,GF];have Ċ:∀ {b:aa} {u:HO},H4 b=U u->(∀kv,u≠.dK kv)->(upd #[rr,H4,m,kvA,N] d (.dK (dkR m c'))) b=U u:=λ{b u} r hu=>by rw[Zf (λz=>by rw[z,D4.at']at r;cases r;exact hu _ rfl),Zf (λz=>by rw[z,D4.rows]at r;cases r;exact hu _ rfl)];exact r
 refine q "done" N c' _ bK ((Zb,by rw[Zf D.ne.symm];exact Zb,λx hx=>?_,wE,D.ne),λb u r n1 n2=>by rw[Zf n1,Zf n2];exact kC _ _ r,λx hx=>(GG x hx).elim (λh=>.inl (x,h,rfl)) λh=>.inr #[ed,h.2.2.1,yZ]);rcases GG x hx with h|⟨e1,e2,e3,e4,e5⟩
 ·obtain S|W:=D4.tup x h;exact(Ċ S Çm,Ċ W Çm)
 ·rw[e1,e2,e3,e4,e5];exact(Ċ GC Çm,Ċ zh Çm)
def OKs(z:ah):Prop:=∀c∈cds z,c<128
theorem AZ.oks{z:ah}(a:AZ z):OKs z:=λc h=>by have:=a c h;lia
theorem OKs.app{x y:ah}(a:OKs x)(b:OKs y):OKs (x++y):=λc h=>by rw[Wo]at h;exact(ß h).elim (a c) (b c)
theorem OKs.ok{z:ah}(a:OKs z):Íx z=true:=by unfold Íx;rw[Ø0];intro i hi;have:=a Á6[i] Ó;exact Ñs
theorem Hr:∀ss:À ah,(∀s∈ss,OKs s)->ÇH ÅN=true
 | [],_=>rfl
 | x::r,h=>by simp[ÇH,ÄG,(h x Ó).ok,Hr r λs hs=>h s Ùk]
theorem RB(ss:Ê)(h:∀s∈ss,OKs s):Äl ÍJ=true:=by simp[Äl,ÄG,ÅO,Hr ss h,NR]
theorem Hq{s k:ah}(hs:AZ s)(hk:AZ k):OKs (thT s k):=by
 have e:OKs (":" : ah):=by intro c a;rw[e1,":",a,58];decide
 have b:OKs (kT0 k):=by
  unfold kT0;split
  ·intro c a;rw[e1,"-",a,45];decide
  ·exact hk.oks
 exact(hs.oks.app e).app b
theorem Ho(ks:Ê):ÂI (.list (Ρ ÇI)) (.list [])=decide (ks=[]):=by
 cases ks with
 | nil=>simp[ÂI,ÅQ]
 | Ë a r=>simp[ÂI,ÅQ]
theorem ZlH{a s:ah}{ks:Ê}{o:Od}(h:U9 a s ks o)(hd:a = "drop"->ks=[]):ō " " (a::[s]++Ρ kT0)=Ū:=by
 rcases h with⟨rfl,rfl⟩|⟨rfl,rfl⟩|⟨rfl,rfl⟩
 ·rfl
 ·rfl
 ·rw[hd rfl];rfl
theorem Zor{a s:ah}{ks:Ê}{o:Od}(h:U9 a s ks o)(hs:NmS s)(hk:KsS ks):OdW o:=by
 rcases h with⟨rfl,rfl⟩|⟨rfl,rfl⟩|⟨rfl,rfl⟩
 ·exact(hs,hk)
 ·exact(hs,hk)
 ·exact hs
def YV(R:ñ):À ZG:=ł λe=>(e.n,(Ö,e.g,),)
def nmA(R:ñ):À (ah×Int):=ł λe=>(ä,e.n,)
theorem Hn{nm:ų}(nd:#[ms].Nodup){e:ah×Int}(he:e∈nm):Y0 nm e.2=e.1:=by
 unfold Y0;cases a:ÎF λx=>decide (x.2=e.2) with
 | none=>exact Ç ÎD (ÚM a e he)
 | some y =>
  have b:=Qab a;have c:y.2=e.2:=by have:=ÌX;simpa using this
  rw[Ur nd b he c];rfl
def XA(e:AR)(t:aa)(x:AR):AR:=if Υ=ä then (ä,t,e.n,e.k,Ö,e.g+1) else x
inductive ATk (R:ñ):À ah->À AR->Prop
 | nil:ATk R [] R
 | ė {R1:À AR} {ws:À ah} {e:AR} {z:ah} {t:aa}:ATk R ws R1->e∈R1->Ö[e.g]? = U z->Win (hdP (YV R1)) (Z1 (YV R1)) (U e.n)->ATk R (ws++[thT ä z]) (R1.map (XA e t))
theorem VG(R:ñ):Z1 (YV R)=ł (·.n):=by unfold Z1 YV;rw[Qo];rfl
theorem VF(R:ñ):(nmA R).map ě=ł (·.n):=by unfold nmA;rw[Qo];rfl
theorem U7(R:ñ):(nmA R).map ù=ł (·.nm):=by unfold nmA;rw[Qo];rfl
theorem Ms{a:ñ}{e:AR}{t:aa}(he:e∈a)(nd:#[hZ,ļ]):nmA (ļ (XA e t))=nmA a:=by
 unfold nmA;rw[Qo];refine QJ λx b=>?_;rw[70];unfold XA;split
 ·rename_i h;rw[zb,c,Υ,x,y.nm,b];rw[zb,d,ä,e,y.nm,he];have:=Yh Îp c d h;injection this with _ this;rw[this]
 ·rfl
theorem Zuy{a:ñ}{e:AR}{t:aa}(he:e∈a)(nd:#[hZ,ļ])(g:(ļ (·.n)).Nodup):YV (ļ (XA e t))=Xp (YV a) e.n:=by
 unfold YV Xp;rw[Qo,Qo];refine QJ λx d=>?_;rw[70];unfold XA WA;by_cases h:Υ=ä
 ·rw[zb,b,Υ,x,y.nm,d];rw[zb,c,ä,e,y.nm,he];have:=Yh Îp b c h;injection this with _ this;rw[È h,È (by rw[this]),this]
 ·rw[Æ h,Æ];intro i;rw[zb,b,x.n,x,y.n,d];rw[zb,c,e.n,e,y.n,he];have:=Yh #[ed,Qo,g] b c i;injection this with _ this;exact h (by rw[this])
theorem ATk.link{R d:ñ}{ws:Ê}(h:ATk R ws d)(nd:Ê9)(i:#[qP].Nodup):∃a,TkW (YV R) a (YV d)/\nmA d=nmA R/\ws=ļ λt=>thT (Y0 (nmA R) t.1) t.2.2:=by
 induction h with
 | nil=>exact([],.nil,rfl,rfl)
 | ė h b k hw l =>
  rename_i g ws e z t;obtain a|m|c|n:=l;have j:#[hZ,g.map]:=by rw[<- U7,c,U7];exact nd
  have o:(g.map (·.n)).Nodup:=by rw[<- VF,c,VF];exact i
  have st:Uu (YV g) ÂR z:=(Qg (f:=ÎZ) b,k,hw);refine(a++[(e.n,e.g,z,)],?_,by rw[Ms b j,c],?_)
  ·rw[Zuy b j o];exact m.snoc st
  ·rw[Qf,ÚC,<- n];have p:(ä,e.n,)∈nmA R:=by rw[<- c];exact Qg (f:=ÎY) b
   have:=Hn #[ed,VF,i] p;rw[show Y0 (nmA R) e.n=ä from this]
theorem ÓT{P:ý}(nd:ÂQ)(h:Win (hdP P) (Z1 P) af):YG P=0:=by
 have b:∀x∈P,x.2.1.length-x.2.2=0:=λx b=>by
  have:=h x.1 (Qg (f:=Å1) b);rw[MP nd b]at this;cases c:x.2.1[x.2.2]? with
  | none=>have:=List.getElem?_eq_none_iff.mp c;lia
  | some z=>rw[c]at this;cases this
 have g:∀P:À ZG,(∀x∈P,x.2.1.length-x.2.2=0)->YG P=0:=λP=>by
  induction P with
  | nil=>intro _;rfl
  | Ë a r d=>intro h;rw[ry,h1,e,d,x,b];unfold YG at e ⊢;rw[Ql,QR];lia
 exact g P b
inductive WS (R:ñ):Od->ah->À AR->Prop
 | left:WS R .left (WZ ((YG (YV R):Nat):Int)) R
 | ů:WS R .rows (blT (ł λe=>thO ä Ö[e.g]?)) R
 | Âi:Win (hdP (YV R)) (Z1 (YV R)) af->WS R .coming "-" R
 | com {e:AR} {z:ah}:e∈R->Ö[e.g]? = U z->Win (hdP (YV R)) (Z1 (YV R)) (U e.n)->WS R .coming (thT ä z) R
 | ĭ {R':À AR} {n:Nat} {ws:À ah}:ATk R ws R'->(ż=n\/ż<=n/\Win (hdP (YV R')) (Z1 (YV R')) af)->WS R (.take n) (blT ws) R'
theorem WS.link{R v:ñ}{c:Int}{o:Od}{a b:ah}{S w:DS}(h:WS R o a v)(L:S6 R c S)(ok:SOk S)(g:YQ S o b w):a=b/\S6 v c w:=by
 have i:YV R=S.P:=L.P;have r:nmA R=Ž:=L.nm;have nd:Ê9:=by rw[<- U7,r];exact ok.nd
 have p:#[qP].Nodup:=by rw[<- VG,i];exact ÄT
 have name:∀e∈R,Y0 Ž e.n=ä:=λe l=>by rw[<- r];exact Hn (nm:=nmA R) #[ed,VF,p] (Qg (f:=ÎY) l)
 have mem:∀e∈R,(ÂR:ZG)∈S.P:=λe l=>by rw[<- i];exact Qg (f:=ÎZ) l
 cases h with
 | left=>cases g;exact(by rw[i],L)
 | ů=>cases g;refine(?_,L);congr 1;unfold Wg;rw[<- i];unfold YV;rw[Qo];refine QJ λe l=>?_;show _=thO (Y0 Ž e.n) Ö[e.g]?;rw[name e l]
 | Âi j =>
  cases g with
  | Âi _=>exact Î0
  | com _ _ d=>rw[i]at j;exact nomatch j.one d
 | com j d m =>
  rename_i e z;rw[i]at m;cases g with
  | Âi s=>exact nomatch s.one m
  | com s C D=>have ex:=Yh ÄT (mem e j) s (Qu (m.one D));subst ex;rw[show Ö[e.g]? = U _ from C]at d;cases d;exact(by rw[<- name e j],L)
 | ĭ j d =>
  rename_i n ws;cases g with
  | ĭ E g2 =>
   rename_i P P' nb li lo nm F k q;have t:YV R=P:=i;have x:nmA R=nm:=r;obtain y|u|A|B:=j.link nd p;have hl:ι=ż:=by rw[B,Qa]
   have G:=u.left #[ed,VG,p];rw[t]at u G;have H:ι=F.length:=by
    rcases d with d|⟨d,m⟩
    ·lia
    ·have:=ÓT (by rw[VG,<- VF,A,VF];exact p) m;lia
   obtain I|J:=u.one ÄT E.tk H;refine(by rw[B,I,x],?_,?_,L.c)
   ·exact A.trans x
   ·exact J
inductive Wx:À Od->À ah->À AR->Int->Prop
 | nil:Wx [] [] [] 0
 | deed {os:À Od} {as:À ah} {R R':À AR} {c c':Int} {o:Od} {a:ah}:Wx os as R c->WT R c o a R' c'->Wx (os++[o]) (as++[a]) R' c'
 | ask {os:À Od} {as:À ah} {R R':À AR} {c:Int} {o:Od} {a:ah}:Wx os as R c->WS R o a R'->Wx (os++[o]) (as++[a]) R' c
theorem Wx.len{os:Ę}{b:Ê}{R:ñ}{c:Int}(h:Wx os b R c):Œ=Àp:=by
 induction h with
 | nil=>rfl
 | deed _ _ a=>rw[Qd,Qd,a];rfl
 | ask _ _ a=>rw[Qd,Qd,a];rfl
theorem Wx.link{os:Ę}{n:Ê}{R:ñ}{c:Int}(h:Wx os n R c):∀ {bs:À ah} {S:DS},We ÓL os bs S->n=bs/\S6 R c S:=by
 induction h with
 | nil =>
  intro bs S g;generalize e:([]:À Od)=os at g;cases g with
  | nil=>exact Ók
  | ė _ _ _ _=>simp at e
 | deed _ b d =>
  rename_i f i p q r c1 o a _;rw[tE];cases g with
  | nil=>simp at e
  | ė j k _ l=>obtain rfl|rfl:=Tf e;rw[kf]
 | ask _ b d =>
  rename_i f i p q r o a _;rw[tE];cases g with
  | nil=>simp at e
  | ė j k _ l=>obtain rfl|rfl:=Tf e;rw[kf]
theorem Zrj{s s' x f:ah}{a b:Int}(h:Yt [.inr s',.inl b,.inr f] [.inr s,.inl a,.inr x]=false):b=a\/Btr (cds s) a (cds s') b:=by
 rw[PU]at h;by_cases e:#[sm,s']=Ál s
 ·rw[È e,PU]at h;have g:s'=s:=Ën e;by_cases c:(Âq b:Key)=Âq a
  ·exact .inl (Æi c)
  ·rw[iv,c,h];have d:¬ b<a:=ÇE h;have i:b≠a:=λz=>c (by rw[(z)]);exact .inr (.inr (by rw[g,Jp],by lia))
 ·rw[w2];have d:¬ cds s'<cds s:=ÇE h;rw[NK]at d;have i:=VM (cds s') (cds s);have h3:ZS (cds s) (cds s')≠0:=λz=>e (by rw[ZsE (NP _ _ z)]);exact .inr (.inl Á)
def hdA(e:AR):Ã (À Key):=Ö[e.g]?.map λz=>[.inr z,.inl e.n,.inr ä]
def Yg(R:ñ):À (À Key):=R.filterMap hdA
theorem Hm(R:ñ)(e:AR):Yg (R++[e])=Yg R++(hdA e).toList:=by unfold Yg;rw[List.filterMap_append,Qa4,List.filterMap_nil];cases hdA e<;>rfl
theorem Mr{R:ñ}{k:À9}(h:k∈Yg R):∃e∈R,∃z,Ö[e.g]? = U z/\k=Ûj:=by
 rw[sA,e,b,h,ÔH,h];unfold hdA at h;cases a:Ö[e.g]? with
 | none=>rw[a]at h;cases h
 | some z=>rw[a]at h;cases h;exact(e,b,z,a,rfl)
theorem Hl{R:ñ}{e:AR}{z:ah}(he:e∈R)(hz:ÓF):[.inr z,.inl e.n,.inr ä]∈Yg R:=ÔG (e,he,by unfold hdA;rw[hz];rfl)
theorem Hk{R:ñ}(up:Èp):#[qP].Nodup:=ÓU (up.imp λh z=>by lia)
theorem RA{R:ñ}(up:Èp){e:AR}(he:e∈R):hdP (YV R) e.n=(Ö[e.g]?).map cds:=MP #[e5,VG,Hk,up] (x:=ÂR) (Qg (f:=ÎZ) he)
theorem Hj{R:ñ}(up:Èp){k:À9}(hk:k∈Yg R)(hm:∀u∈Yg R,Yt u k=false):∃e∈R,∃z,Ö[e.g]? = U z/\k=Ûj/\Win Ëb Ëc (U e.n):=by
 obtain e|d|z|h|rfl:=Mr hk;refine(e,d,z,h,rfl,?_,cds z,by rw[RA up d,h];rfl,λb i y c=>?_)
 ·rw[VG];exact Qg (f:=λe:AR=>e.n) d
 ·rw[VG]at i;rw[d9,x,j,i];rw[RA up j]at c;cases g:x.ss[x.g]? with
  | none=>rw[g]at c;cases c
  | some s'=>rw[g]at c;cases c;exact Zrj (hm _ (Hl j g))
theorem Hh{R:ñ}(up:Èp)(h:Yg R=[]):Win Ëb Ëc af:=λn hn=>by
 rw[VG]at hn;rw[d9,x,c,hn];rw[RA up c];cases d:x.ss[x.g]? with
 | none=>rfl
 | some z=>have:=Hl c d;rw[h]at this;cases this
structure ABd (R:ñ) (c:Int) (i:Nat):Prop where
 few:Ân<=16
 n:∀e∈R,0<=e.n/\e.n<c
 c0:0<=c
 c:c<=(i:Int)
 len:∀e∈R,Ŝ<=5*i/\e.g<=Ŝ
 key:∀e∈R,∀s∈Ö,ĝ<=40/\AZ s
 nmz:∀e∈R,NmS ä
 up:R.Pairwise λa b=>a.n<b.n
 nd:#[wO].Nodup
theorem ZuV{R:ñ}(nd:Ê9){x e:AR}(hx:x∈R)(he:e∈R)(h:Υ=ä):x=e:=by have a:(Υ,x,)∈ł λy=>(y.nm,y,):=#[fE,y.nm,hx];have b:(ä,e,)∈ł λy=>(y.nm,y,):=#[fE,y.nm,he];have:=Yh Îp a b h;injection this
theorem ABd.mono{R:ñ}{c:Int}{i:Nat}(h:Æb):ABd R c (i+1):=(ÁJ,h.n,h.c0,by have:=h.c;lia,λe he=>by have:=ÀC e he;lia,ÀY,ÁP,ÀD,h.nd)
theorem ABd.step{R v:ñ}{c w:Int}{i:Nat}{o:Od}{a:ah}(h:Æb)(hw:OdW o)(g:WT R c o a v w):ABd v w (i+1):=by
 have z:=h.c0;have ci:=h.c;cases g with
 | ÁL _=>exact h.mono
 | ÁM _=>exact h.mono
 | ÁN _=>exact h.mono
 | row f p C =>
  rename_i s ks t k;rw[el,q,j,hw];refine(by rw[Qd,Qx];lia,λe he=>?_,by lia,by lia,λe he=>?_,λe he=>?_,λe he=>?_,Úe (ÀD,Qa9 ..,λa l b n=>?_),?_)
  ·rcases ß he with he|he
   ·have:=h.n e he;lia
   ·rw[Ý he];show 0<=c/\c<c+1;lia
  ·rcases ß he with he|he
   ·have:=ÀC e he;lia
   ·rw[Ý he];have:=j.1;show ÁB<=_/\0<=ÁB;lia
  ·rcases ß he with he|he
   ·exact ÀY e he
   ·rw[Ý he];exact j.2
  ·rcases ß he with he|he
   ·exact ÁP e he
   ·rw[Ý he];exact q
  ·rw[Ý n];exact(h.n a l).2
  ·rw[eW,h.nd,l,n,y,r];have:b=s:=by simpa using n
   rw[this];exact f y r
 | Ő f p C =>
  rename_i s ks e t k;rw[el,q,j,hw];have m:∀x∈ł (λx=>if Υ=s then ((s,t,e.n,k,Ö++ks,e.g):AR) else x),x∈R\/x=(s,t,e.n,k,Ö++ks,e.g):=λx d=>by
   rw[d9,y,r,d];split
   ·exact Àt
   ·exact .inl r
  refine(by rw[Qa];exact ÁJ,λx d=>?_,z,by lia,λx d=>?_,λx d=>?_,λx d=>?_,?_,?_)
  ·rcases m x d with d|rfl
   ·exact h.n x d
   ·exact h.n e f
  ·rcases m x d with d|rfl
   ·have:=ÀC x d;lia
   ·have:=ÀC e f;have:=j.1;show (Ö++ks).length<=_/\e.g<=(Èa).length;rw[Qd];lia
  ·rcases m x d with d|rfl
   ·exact ÀY x d
   ·intro A hs';rcases ß hs' with hs'|hs'
    ·exact ÀY e f A hs'
    ·exact j.2 A hs'
  ·rcases m x d with d|rfl
   ·exact ÁP x d
   ·exact q
  ·have B:∀x∈R,(if Υ=s then (Ûk:AR) else x).n=x.n:=λx d=>by
    split
    ·rename_i u;rw[ZuV h.nd d f (u.trans p.symm)]
    ·rfl
   refine ÓU (h.up.imp_of_mem λl n D=>?_);rw[B _ l,B _ n];exact D
  ·rw[show (ł λx=>if Υ=s then (Ûk:AR) else x).map (·.nm)=ł (·.nm) from ?_]
   ·exact h.nd
   ·rw[Qo];refine QJ λx _=>?_;rw[70];split
    ·rename_i u;exact u.symm
    ·rfl
 | ő f p=>exact(Qk (Qay _ _) ÁJ,λe he=>h.n e #[wP].1,z,by lia,λe he=>by have:=ÀC e #[wP].1;lia,λe he=>ÀY e #[wP].1,λe he=>ÁP e #[wP].1,h.up.sublist QaF,h.nd.sublist (List.filter_sublist.map _))
theorem ABd.out{R:ñ}{c:Int}{i:Nat}(h:Æb){e:AR}{z:ah}{t:aa}(he:e∈R)(hz:ÓF):ABd Ëd c i:=by
 have hg:=(Į hz).1;have m:∀x∈ł (XA e t),x∈R\/x=(ä,t,e.n,e.k,Ö,e.g+1):=λx a=>by
  rw[d9,y,f,a];unfold XA;split
  ·exact Àt
  ·exact .inl f
 have b:=Ms (t:=t) he h.nd;refine(by rw[Qa];exact ÁJ,λx a=>?_,h.c0,h.c,λx a=>?_,λx a=>?_,λx a=>?_,?_,by rw[<- U7,b,U7];exact h.nd)
 ·rcases m x a with a|rfl
  ·exact h.n x a
  ·exact h.n e he
 ·rcases m x a with a|rfl
  ·exact ÀC x a
  ·have:=ÀC e he;show Ŝ<=_/\e.g+1<=Ŝ;lia
 ·rcases m x a with a|rfl
  ·exact ÀY x a
  ·exact ÀY e he
 ·rcases m x a with a|rfl
  ·exact ÁP x a
  ·exact ÁP e he
 ·have:=VF Ëd;rw[b,VF]at this;have d:#[qP].Pairwise (·<·):=ÓU ÀD;rw[this]at d;exact List.pairwise_map.mp d
theorem ABd.tk{R a:ñ}{c:Int}{i:Nat}{ws:Ê}(h:Æb)(g:ATk R ws a):ABd a c i:=by
 induction g with
 | nil=>exact h
 | ė _ b d _ e=>exact e.out b d
theorem WS.bd{R b:ñ}{c:Int}{i:Nat}{o:Od}{a:ah}(h:Æb)(g:WS R o a b):ABd b c i:=by
 cases g with
 | ĭ g _=>exact h.tk g
 | _=>exact h
def Mq:Sp:=λvs H Q _=>X5 λ(d rd:aa) (R:À AR) (c:Int) (i:Nat)=>C5 #[ff,d] Î1 (ABd R c i) (i<=40) (∀ (l:aa) (a:Wq) (H':Hp),H l=af->H' l=U (.lst (VW a))->AtT H' a->ļ ě=Yg R->ZB H H'->Q Đ H')
theorem Zmc(T:Õ):Df P w K mg Â 1 "_law_heads" Çw Mq:=by
 rw[d2,T.t_l_heads.df,UL,vs,W];obtain d|a|R|c|i|rfl|D|B|hi|q:=h;refine(_,#[Zc,#[gB,1,UL.nd],#[Zc,(@Zta _ _ _ #[XR,Γ,(@Zth _ _ _ _ #[sL,W]),#[rx,2,UL.nd],#[Zc,#[YD,#[ZF,(ixG W),#[sL,W],‹2›],#[d5,3,UL.nd,4,5]],#[Zg,#[ZK,#[Zk,Xl,‹5›,#[fd,4],ú],#[Zg,#[ZL,#[ZZ,K,QC,QD,QE,Z0,‹1›,#[Zd,#[Yq,#[Zd,#[rm,Àj,4,5],‹3›,‹2›]]]]]],ë]]]]),#[fg,1]]],ÀV,λl I=>?_);have X:=Zi I Ź;have N:#[gb,H,l] l=U (.lst (VW [])):=Zb;have j:=Ê0 X;rw[zc,J,X,N,j];have O:l≠a:=λz=>by have:=ÁK;rw[<- z,N]at this;cases this
 refine(a,_,ÁK,Μ,_,rfl,d,_,rfl,ŉ (k:=Ëa) j.at' (S7 a c),a,_,rfl,ÁK,λo=>?_);have Y:∀b u,J b=U u->b≠a->(upd J a ÓV) b=U u:=λb u m n=>by rw[Zf n];exact m
 rw[rl,GL,J,a,ÓV];generalize upd J a (.frz o (.dK (kvA R)))=Hz at Y GL ⊢;refine Zrp (λi Z C=>(X4 λv2 v3 v4 v5:Ã V=>Z=[U ÂV,U Đ,v2,v3,v4,v5])/\(∃p:Wq,C l=U (.lst (VW p))/\AtT C p/\p.map ě=Yg (R.take i)/\ÎW<=i)/\C a=U ÓV/\∀b u,J b=U u->b≠a->b≠l->C b=U u) ((af,af,af,af,rfl),([],Y _ _ N O,λt g=>(by cases g),rfl,Qj _),GL,λb u m n _=>Y b u m n) (λ_ _ _ h=>h.2.2.1) ?_ ?_
 ·rintro i ky x Z C F ⟨⟨v2,v3,v4,v5,rfl⟩,⟨p,r,G,L,bo⟩,v,y⟩;unfold kvA at F;rw[Qr]at F;cases M:R[i]? with
  | none=>rw[M]at F;cases F
  | some e =>
  rw[fL,M,F,F];have hm:=Qp M;have bM:=(Į M).1;obtain g|hk:=j.tup e hm;have nt:e.t≠a/\e.t≠l:=(λz=>(by rw[z,ÁK]at g;cases g),λz=>(by rw[z,N]at g;cases g));have nk:e.k≠a/\e.k≠l:=(λz=>(by rw[z,ÁK]at hk;cases hk),λz=>(by have:=ÄU e hm;rw[z,I]at this;exact Ç this.2 Ó));have nd:d≠l:=λz=>(by have:=Ĵ;rw[z,I]at this;cases this);have cL:=y _ _ g nt.1 nt.2;have l6:=y _ _ hk nk.1 nk.2;have ir:=y _ _ j.at' j.ne nd;have ė:R.take (i+1)=R.take i++[e]:=by rw[QH,M];rfl
  refine(_,rfl,d,_,rfl,ŉ (k:=Ëa) ir (S7 a c),_,rfl,a,_,rfl,Y7.fz (k:=.inr ä) v (S5 D.nd hm),e.t,_,rfl,ā cL,rfl,_,_,rfl,_,_,rfl,_,_,rfl,rfl,?_);have kR:(e.ss.map Ä).length=Ŝ:=Qa ..;refine(_,rfl,_,rfl,e.k,_,rfl,.inl (É l6),_,_,rfl,rfl,_,rfl,?_);rw[kR];by_cases hg:e.g<Ŝ
  ·refine YZ Á ?_;have hz:Ö[e.g]? = U Ö[e.g]:=Qb hg;refine(_,rfl,.inl #[ew,r],_,rfl,_,rfl,e.k,_,_,_,rfl,rfl,É l6,Ye #[sh,Qr,hz],_,rfl,_,rfl,ÁI,λt g=>?_);have st:=Zi g (.tup [.str Ö[e.g],.int e.n,.str ä]);have ntl:t≠l:=λz=>by rw[z,r]at g;cases g
   have ntr:t≠a:=λz=>by rw[z,v]at g;cases g
   refine(l,_,_,rfl,rfl,st _ _ r,?_,(_,_,_,_,rfl),(p++[(t,[.inr Ö[e.g],.inl e.n,.inr ä],)],?_,λu hu=>?_,?_,?_),?_,λb u m n1 n2=>?_)
   ·have:ÎW<=16:=by have:=ÄP;lia
    unfold VW;rw[kZ]
   ·rw[Zb];unfold VW;rw[Qf];rfl
   ·rcases ß hu with hu|hu
    ·rw[Zf (λz=>by have:=G u hu;rw[z,r]at this;cases this)];exact st _ _ (G u hu)
    ·rw[Ý hu];rw[Zf ntl];exact Zb
   ·rw[Qf,L,ė,Hm];unfold hdA;rw[hz];rfl
   ·rw[Qd,Qx];lia
   ·rw[Zf (λz=>O Äm)];exact st _ _ v
   ·rw[Zf n2];exact st _ _ (y b u m n1 n2)
  ·refine YC Á ((_,_,_,_,rfl),(p,r,G,?_,by lia),v,y);rw[L,ė,Hm];unfold hdA;rw[Q1 Á];exact(QX _).symm
 ·rintro Z C ⟨⟨v2,v3,v4,v5,rfl⟩,⟨p,r,G,L,bo⟩,v,y⟩;have aY:(kvA R).length=Ân:=Qa ..;rw[aY,Qz î]at L;refine(o,v,_,rfl,?_);have FU:=O;refine q l p _ I #[hR,O,r] (λu hu=>by rw[Zf (λz=>by have:=G u hu;rw[z,v]at this;cases this)];exact G u hu) L λb u m=>?_;by_cases S:b=a
  ·rw[S,Zb];rw[S,Ák]at m;exact m
  ·rw[Zf S];exact y b u (X b u m) S (Ze m I)
theorem Hg:∀L:À (À Key),(∀k∈L,X3 λz n s=>k=Î4/\AZ z/\AZ s)->ÇH (ĥ tD)=true/\Êy (ĥ tD)<=1
 | [],_=>(rfl,by simp[Êy])
 | k::r,h=>by obtain a|b:=Hg r λx hx=>h x (Qm _ hx);obtain z|n|s|rfl|d|e:=h k Ó;have c:tD Î4=.tuple [.str z,.int n,.str s]:=rfl;refine(by simp[ÇH,ÄG,c,d.ok,e.ok,a],?_);rw[Ql,c];simp only[Êy,ÅO];lia
theorem He(L:#[hf,Key])(h:#[rZ,k,L,k]):Äl (.list (ĥ tD))=true:=by obtain a|b:=Hg L h;simp[Äl,ÄG,ÅO,a];lia
theorem Hc(L:#[hf,Key]):ÂI (.list (ĥ tD)) (.list [])=decide (L=[]):=by
 cases L with
 | nil=>simp[ÂI,ÅQ]
 | Ë a r=>simp[ÂI,ÅQ]
theorem Rz{R:ñ}{c:Int}{i:Nat}(B:Æb):∀k∈Yg R,X3 λz n s=>k=Î4/\AZ z/\AZ s:=λk hk=>by obtain e|a|z|b|rfl:=Mr hk;exact(z,e.n,ä,rfl,(B.key e a z (Qp b)).2,(B.nmz e a).1)
def Ha:Sp:=λvs H Q _=>X5 λ(d rd:aa) (R:À AR) (c:Int) (i:Nat)=>C6 #[ff,d] Î1 (ABd R c i) (i<=40) ((∀H',Win Ëb Ëc af->ZB H H'->Q (.str "-") H')) (∀ (e:AR) (z:ah) H',e∈R->Ö[e.g]? = U z->Win Ëb Ëc (U e.n)->ZB H H'->Q (.str (thT ä z)) H')
theorem ZqV(T:Õ)(O:Ûl)(S:Ús):Df P w K mg Â 2 "_law_coming" Çw Ha:=by
 rw[d2,T.t_l_coming.df,TC,V,k];obtain d|v|R|c|i|rfl|D|B|X|Y|q:=h;refine(_,#[Zc,#[sy,1,TC.nd,O,k,Áf],#[Zc,#[ZK,#[fH,eqD,k,1],Èd,ë],#[Zc,#[YD,#[Zn,(KS K k),Í,Îg,Îh,Àl],#[d5,2,TC.nd,3,4]],#[Zg,#[Zl,#[ZM,Uf,#[ZM,Uf,‹4›,á],#[fy,S,k,Ãx]]]]]]],_,rfl,d,v,R,c,i,rfl,D,B,X,λl b y hl C F g Z=>?_);have De:(ÀS λt=>tD t.2)=(Yg R).map tD:=by rw[<- g,Qo];rfl
 rw[gC,G,jT,j];refine(.list ((Yg R).map tD),.list [],.lst #[rR,j,C] (by rw[<- De];exact ND b (λt a=>j _ _ (F t a))),.lst ÇJ .nil,He _ (Rz B),ö,_,rfl,?_);have I:=j _ _ C;have o:AtT #[gb,y,G] b:=λt a=>j _ _ (F t a);have p:=Z.trans j;generalize upd y G (.lst [])=J at I o p ⊢;rw[Æ (by exact Qw),Hc];by_cases m:Yg R=[]
 ·exact YZ m (Y J (Hh B.up m) p)
 ·have Dg:#[rZ,t,b,t.2]:=λt a=>Rz B t.2 (by rw[<- g];exact #[hr,a]);refine YC m (_,rfl,l,b,[false,true,false],rfl,É I,o,(λz=>m (by rw[<- g,z];rfl)),λt a=>?_,λt a qj=>?_)
  ·obtain z|n|s|e2|_:=Dg t a;rw[e2];rfl
  ·have hk:t.2∈Yg R:=by rw[<- g];exact #[hr,a]
   have hm:∀u∈Yg R,Yt u t.2=false:=λu L=>by rw[<- g]at L;rw[d9,x,hx,L];exact qj x hx
   obtain e|r|z|M|ek|W:=Hj B.up hk hm;have N:=o t a;rw[ek]at N;have kz:=B.key e r z (Qp M);have nz:=(B.nmz e r).2.2;rw[er,t.1,N];have wN:Èf:=by ac_rfl
   have k1:(kT0 z).length<=41:=by
    unfold kT0;split
    ·ac_rfl
    ·lia
   exact(_,rfl,ä, ":",rfl,rfl,Ĭ Á,_,rfl,z,rfl,ä ++ ":",kT0 z,rfl,rfl,Ĭ #[fe,QL],q e z J r M W p)
theorem Zs2{R:ñ}{e:AR}(he:e∈R)(t:aa):YT (kvA R) (.inr ä) Ág=kvA Ëd:=by
 unfold YT;rw[È]
 ·unfold kvA;rw[Qo,Qo];refine QJ λx hx=>?_;rw[70];unfold XA;by_cases h:Υ=ä
  ·rw[È ÊE,È h];show (#[sm,Υ],õ t,)=(.inr ä,.ref t,);rw[h]
  ·rw[xJ]
 ·exact ÇS (_,Qg (f:=ÓO) he,đ rfl)
theorem X0.out{H H':Hp}{d rd:aa}{R:ñ}{c:Int}{e:AR}{t:aa}(D:X0 H d rd R c)(he:e∈R)(ht:H' t=U (.tup [.int e.n,.ref e.k,.int #[fO,e.g]]))(k:#[eP,u,H,rd,H'])(hr:H' rd=U (.dK (kvA Ëd))):X0 H' d rd Ëd c:=by
 have f:∀ {b:aa} {u:HO},H b=U u->(∀h,u≠.dK h)->b≠rd:=λg i z=>by rw[z,Ák]at g;cases g;exact i _ rfl
 refine(k _ _ Ĵ D.ne,hr,λx j=>?_,by rw[<- U7,Ms he D.nd,U7];exact D.nd,D.ne);rw[d9,y,a,j];unfold XA;split
 ·exact(ht,k _ _ #[v4].2 (f #[v4].2 λ_ z=>by cases z))
 ·exact(k _ _ #[yu].1 (f #[yu].1 λ_ z=>by cases z),k _ _ #[yu].2 (f #[yu].2 λ_ z=>by cases z))
theorem G9{R:ñ}(up:Èp)(hw:Win Ëb Ëc af):Yg R=[]:=List.eq_nil_iff_forall_not_mem.mpr λk hk=>by obtain e|c|z|d|_:=Mr hk;have:=hw e.n (by rw[VG];exact Qg (f:=λe:AR=>e.n) c);rw[RA up c,d]at this;cases this
theorem ZvC{R:ñ}(up:Èp){x e:AR}(hx:x∈R)(he:e∈R)(h:x.n=e.n):x=e:=by have c:(x.n,x,)∈ł λy=>(y.n,y,):=#[fE,y.n,hx];have d:(e.n,e,)∈ł λy=>(y.n,y,):=#[fE,y.n,he];have:=Yh #[e5,Qo,Hk,up] c d h;injection this
theorem G8{s z:ah}(h1:Ê3)(h2:Ś<=40):(thT s z).length<=50:=by
 have wN:Èf:=by ac_rfl
 have k1:(kT0 z).length<=41:=by
  unfold kT0;split
  ·ac_rfl
  ·lia
 rw[qY];lia
def G7:Sp:=λvs H Q _=>X6 λ(d rd:aa) (R:À AR) (c:Int) (i m:Nat)=>C6 (vs=[.ref d,.int (m:Int)]) Î1 (ABd R c i) (i<=40) (m<=400) (∀ (ws:À ah) (a:À AR) (H':Hp),ATk R ws a->(ż=m\/ż<=m/\Win (hdP (YV a)) (Z1 (YV a)) af)->X0 H' d rd a c->#[eN,u,rd,H']->(∀x∈ws,ĕ<=50)->Q (.str (blT ws)) H')
theorem Zmg(T:Õ)(eZ:Ûl)(iz:#[e6,2,"_law_coming","_law_desk",Ha]):Df P w K mg Â 3 "_law_taken" Ív G7:=by
 rw[d2,T.t_l_taken.df,VP,vs,J];obtain d|F|R|c|i|m|rfl|D|B|hi|hm|q:=h;refine(_,#[Zc,#[gB,2,VP.nd],#[Zc,#[XR,Γ,#[V0,ÅM,Àl],#[rx,3,VP.nd],#[Zc,#[sy,4,VP.nd,eZ,J,Áf],#[Zg,#[ZK,#[fH,neD,J,4],#[Zc,#[ZL,#[ZZ,K,QC,QD,QE,Z0,‹2›,#[Zd,#[fy,iz,J,Áf]]]],#[Zc,#[Zu,5,VP.nd,â,#[ZF,(ixT K),#[Zn,(KS K J),Í,Îg,Îh,Î2],Ü]],#[Zc,#[YD,#[ZF,(ixG J),#[sL,J],‹5›],#[d5,6,VP.nd,7,8]],#[Zg,#[YD,#[Yq,#[Zd,‹6›,‹7›,#[ha,Yf,8]]],#[Xd,#[sL,J],‹5›,(Wp J)]]]]]],ë]]]],#[Zg,#[Zl,#[ZY,#[fH,neD,J,2],#[hi,Ãx],á]]]]],ÀV,λl hl=>?_);rw[g2,s1,hl,cH,H,l];have D1:=Ê0 s1;rw[zc,H1,s1,cH,D1];have nl:l≠F:=λz=>by have:=D1.rows;rw[<- z,cH]at this;cases this
 have nd:d≠l:=λz=>by have:=Ĵ;rw[gP,hl]
 refine(_,rfl,_,rfl,by lia,by lia,?_);refine Ui (λj σ L=>(X6 λv3 v4 v5 v6 v7 v8:Ã V=>σ=[U ÂV,U #[hx,m],U Đ,v3,v4,v5,v6,v7,v8])/\X2 λ(ws:À ah) (p:À AR)=>ATk R ws p/\L l=U #[ei,ÁE]/\X0 L d F p c/\(ż=j\/ż<=j/\Win (hdP (YV p)) (Z1 (YV p)) af)/\(∀x∈ws,ĕ<=50/\OKs x)/\(∀x∈p,x.k≠l)/\∀b u,H1 b=U u->b≠F->b≠l->L b=U u) ((af,af,af,af,af,af,rfl),[],R,.nil,cH,D1,.inl rfl,λx h=>(by cases h),λx hx z=>(by have:=(ÄU x hx).2;rw[z,hl]at this;cases this),λb u o _ _=>o) ?_ ?_
 ·rintro j σ L hj ⟨⟨v3,v4,v5,v6,v7,v8,rfl⟩,ws,p,fH,cb,D2,hw,v,wQ,k2⟩;have G:=B.tk fH;refine(_,rfl,d,F,p,c,i,rfl,D2,G,hi,λvT Z H3 hn3 Dh cW cq s3=>?_);have De:(Z.map λt=>tD t.2)=(Yg p).map tD:=by rw[<- cq,Qo];rfl
  rw[gC,e1,jT,s4];refine(.list ((Yg p).map tD),.list [],.lst #[rR,s4,Dh] (by rw[<- De];exact ND Z (λt C=>s4 _ _ (cW t C))),.lst ÇJ .nil,He _ (Rz G),ö,_,rfl,?_);have GN:=s4 _ _ Dh;have wR:AtT #[gb,H3,e1] Z:=λt C=>s4 _ _ (cW t C);have wT:=s3.trans s4;generalize upd H3 e1 (.lst [])=H4 at GN wR wT ⊢;clear s3 s4 cW Dh jT;rw[È rfl,Hc];have pD:=wT _ _ cb;have D4:=D2.same wT;by_cases pC:Yg p=[]
  ·rw[đ pC];refine Y9 ((_,_,_,_,_,_,rfl),ws,p,fH,pD,D4,   .inr (by lia,Hh G.up pC),v,wQ,λb u o N O=>wT _ _ (k2 b u o N O))
  ·rw[Ń pC];have GO:ż=j:=by
    rcases hw with hw|⟨_,hw⟩
    ·exact hw
    ·exact Ç (G9 G.up hw) pC
   refine YH (_,rfl,.inl #[ew,pD],_,rfl,d,F,p,c,i,rfl,D4,G,hi,λI hW S=>?_,λe z I M hz W S=>?_)
   ·exact Ç (G9 G.up hW) pC
   ·have qE:=S _ _ pD;have J':∀ {b:aa} {u:HO},I b=U u->(∀zs,u≠.lst zs)->b≠l:=λo hu z=>by rw[z,qE]at o;cases o;exact hu _ rfl
    refine(l,_,_,rfl,rfl,qE,#[eV,GO,ZA],?_);have X:=D4.same S;have k6:#[eP,u,I,l,Èq]:=λb u o n=>by rw[Zf n];exact o
    have qv:Èq l=U (.lst ((ws++[thT ä z]).map Ä)):=by rw[Zb,Qf];rfl
    have K':vT≠l:=(Ze cb hn3).symm;have D6:X0 Èq d F p c:=by have zj:∀ {b:aa} {u:HO},I b=U u->b≠l->Èq b=U u:=λ{b u} o n=>k6 b u o n;exact(zj X.at' nd,zj X.rows (λY=>nl Y.symm),λx hx=>(zj (X.tup x hx).1 (J' (X.tup x hx).1 λ_ Y=>by cases Y),zj (X.tup x hx).2 (wQ x hx)),X.nd,X.ne)
    have U':=k6 _ _ (S _ _ GN) K';have wU:AtT Èq Z:=λt C=>k6 _ _ (S _ _ (wR t C)) (J' (S _ _ (wR t C)) λ_ Y=>by cases Y);have V':#[eP,u,L,l,Èq]:=λb u o n=>k6 b u (S _ _ (wT _ _ o)) n;generalize upd I l (.lst (ÁE Ä++[Ä (thT ä z)]))=H6 at k6 qv D6 U' wU V' ⊢;have Dg:#[rZ,t,Z,t.2]:=λt C=>Rz G t.2 (by rw[<- cq];exact #[hr,C]);refine(_,rfl,vT,Z,[false,true,false],rfl,É U',wU,(λz=>pC (by rw[<- cq,z];rfl)),λt C=>?_,λt C qj=>?_)
    ·obtain z|n|s|e2|_:=Dg t C;rw[e2];rfl
    ·have hk:t.2∈Yg p:=by rw[<- cq];exact #[hr,C]
     have gP:∀u∈Yg p,Yt u t.2=false:=λu hu=>by rw[<- cq]at hu;rw[d9,x,hx,hu];exact qj x hx
     obtain g|gF|z'|m3|ek|W':=Hj G.up hk gP;have:=ZvC G.up gF M (Qu (W'.one W));subst this;have tZ:=wU t C;rw[ek]at tZ;refine(t.1,_,_,_,rfl,rfl,ā tZ,rfl,?_);obtain fX|fW:=D6.tup g M;refine(_,rfl,d,_,rfl,ŉ (k:=Ëa) D6.at' (S7 F c),_,rfl,F,_,rfl,ŉ (k:=.inr g.nm) D6.rows (S5 D6.nd M),g.t,_,rfl,ā fX,rfl,_,_,rfl,_,_,rfl,_,_,rfl,rfl,_,rfl,_,rfl,_,rfl,_,_,rfl,rfl,ÁI,λt2 cL=>?_);have lQ:=Zi cL ÓW;have D7:=D6.same lQ;have Y':∀b u,L b=U u->b≠l->(upd H6 t2 ÓW) b=U u:=λb u o n=>lQ _ _ (V' b u o n);have Z':=lQ _ _ qv;have ua:(upd H6 t2 ÓW) t2=U (.tup [.int g.n,.ref g.k,.int #[fO,g.g]]):=Zb;generalize upd H6 t2 (.tup [.int g.n,.ref g.k,.int ((g.g:Int)+1)])=H7 at D7 Y' Z' ua ⊢;have hsz:#[sO,kvA,p]:=by unfold kvA;rw[Qa];have:=G.few;exact ZA Á
     refine(_,rfl,d,_,rfl,ŉ (k:=Ëa) D7.at' (S7 F c),_,rfl,F,_,rfl,Xv.k (k:=.inr g.nm) D7.rows hsz,(_,_,_,_,_,_,rfl),ws++[thT g.nm z],p.map (XA g t2),fH.snoc M hz W,?_,?_,.inl #[sh,Qd,GO],λx hx=>?_,λx hx=>?_,λb u o N O=>?_)
     ·rw[Zf nl];exact Z'
     ·rw[Zs2 M];exact D7.out M (by rw[Zf (λY=>by rw[Y,D7.rows]at ua;cases ua)];exact ua) (λb u o n=>by rw[Zf n];exact o) Zb
     ·rcases ß hx with hx|hx
      ·exact v x hx
      ·rw[Ý hx];have N:=G.nmz g M;have O:=G.key g M z (Qp hz);exact(G8 N.2.2 O.1,Hq N.1 O.2)
     ·rw[d9,y,hy,hx];unfold XA;split
      ·exact wQ g M
      ·exact wQ y hy
     ·rw[Zf N];exact Y' _ _ (k2 b u o N O) O
 ·rintro σ L ⟨⟨v3,v4,v5,v6,v7,v8,rfl⟩,ws,p,fH,cb,D2,hw,v,wQ,k2⟩;rw[Qbd]at hw;have im:ż<=m:=by rcases hw with hw|hw<;>lia
  have Di:Èg:=by ac_rfl
  have zk:∀l:À ah,(∀x∈l,ĕ<=50)->(ÂN ÀT).sum<=50*Ů:=λl=>by
   induction l with
   | nil=>intro _;exact Qj _
   | Ë a r ih=>intro h;rw[ry,h5,h6,ih,u,hu];rw[Ql,QR,Qq];lia
  have hs:=zk ws λx hx=>(v x hx).1;rw[cW];refine(.list (ÁE ÇI),.list [],.lst #[rR,sz,cb] (UE ws),.lst ÇJ .nil,RB ws λx hx=>(v x hx).2,ö,_,rfl,?_);rw[È rfl,Ho];have fY:=sz _ _ cb;have D3:=D2.same sz;have k3:∀b u,H b=U u->b≠F->#[gb,L,z] b=U u:=λb u o n=>sz _ _ (k2 b u (s1 _ _ o) n (Ze o hl));generalize upd L z (.lst [])=H3 at fY D3 k3 ⊢;have q':=q ws p H3 fH hw D3 k3 λx hx=>(v x hx).1;unfold blT at q';by_cases hn:ws=[]
  ·rw[đ hn];rw[y3,hn,q'];exact Y9 q'
  ·rw[Ń hn];rw[iv,hn,q'];exact YH (rfl,_,rfl,_,l,ws,rfl,rfl,É fY,#[fe,Di],q')
theorem G6{sep:ah}(hs:OKs sep):∀ws:À ah,(∀z∈ws,OKs z)->OKs (Ĕ sep ws)
 | [],_=>λc h=>by cases (show c∈([]:À Nat) from h)
 | [x],h=>h x Ó
 | x::y::r,h=>((h x Ó).app hs).app (G6 hs (y::r) λz hz=>h z (Qm _ hz))
structure AL (H1 H:Hp) (d rd rl dl:aa) (R:ñ) (c:Int) (rs ds:Ê):Prop where
 same:ZB H1 H
 D:X0 H d rd R c
 hr:H rl=U #[ei,rs.map]
 hd:H dl=U #[ei,ds.map]
 ne:rl≠dl
 f0:H1 d=af
 f1:H1 rd=af
 f2:H1 rl=af
 f3:H1 dl=af
 kr:∀e∈R,e.k≠rl/\e.k≠dl
structure NA (H1:Hp) (d rd rl dl p:aa):Prop where
 d:p≠d
 rd:p≠rd
 rl:p≠rl
 dl:p≠dl
 f:H1 p=af
section
variable {H1 H H':Hp} {d rd rl dl p:aa} {R R':À AR} {c c':Int} {rs ds:À ah}
theorem AL.np(I:ÄV)(hp:H p=af):NA H1 d rd rl dl p:=((Ze Ëe hp).symm,(Ze Ëf hp).symm,(Ze ÀI hp).symm,(Ze ÀJ hp).symm,I.same.free hp)
theorem AL.on(I:ÄV)(s:Àa):AL H1 H' d rd rl dl R c rs ds:=(I.same.trans s,I.D.same s,s _ _ ÀI,s _ _ ÀJ,I.ne,I.f0,I.f1,I.f2,I.f3,I.kr)
theorem X0.keep(D:X0 H d rd R c)(h:∀b u,H b=U u->(b=d\/b=rd\/(∃xs,u=.tup xs)\/∃e∈R,b=e.k)->H' b=U u):X0 H' d rd R c :=
 (h _ _ Ĵ Ď,h _ _ Ák ÅE,λe a=>(h _ _ (ÄU e a).1 (.inr #[r6,ü]),h _ _ (ÄU e a).2 (.inr (.inr (.inr (e,a,rfl))))),D.nd,D.ne)
theorem AL.draw(I:ÄV)(n:NA H1 d rd rl dl p){q:Int}(L:Y6 H p q)(B:But p H H'):AL H1 H' d rd rl dl R c rs ds:=by
 obtain u1|u2|g|_:=L;refine(λb o f=>B b o (Æc b o f) (Ze f n.f),Î5 λb u f i=>B b u f λz=>?_,B _ _ ÀI n.rl.symm,B _ _ ÀJ n.dl.symm,I.ne,I.f0,I.f1,I.f2,I.f3,I.kr);rcases i with y|y|⟨xs,rfl⟩|⟨e,j,rfl⟩
 ·exact n.d ÓM
 ·exact n.rd ÓM
 ·rw[sq,g,f]
 ·have:=(I.D.tup e j).2;rw[z,g]at this;injection this with this;injection this with this;cases h:Ö with
  | nil=>rw[h]at this;cases this
  | Ë a r=>rw[h]at this;injection this with this _;cases this
theorem AL.pushR(I:ÄV)(x:ah):AL H1 (upd H rl (.lst (rs.map Ä++[Ä x]))) d rd rl dl R c (rs++[x]) ds:=by
 refine(λb o a=>by rw[Zf (Ze a I.f2)];exact Æc b o a,Î5 λb u a f=>?_,by rw[Zb,Qf];rfl,by rw[Zf I.ne.symm];exact ÀJ,I.ne,I.f0,I.f1,I.f2,I.f3,I.kr);rw[Zf (λz=>by
  rcases f with y|y|⟨xs,rfl⟩|⟨e,g,rfl⟩
  ·rw[eL,Ëe,y,ÀI]
  ·rw[eL,Ëf,y,ÀI]
  ·rw[sq,ÀI,a]
  ·exact(I.kr e g).1 z)]
 exact a
theorem AL.pushD(I:ÄV)(x:ah):AL H1 (upd H dl (.lst (ds.map Ä++[Ä x]))) d rd rl dl R c rs (ds++[x]):=by
 refine(λb o a=>by rw[Zf (Ze a I.f3)];exact Æc b o a,Î5 λb u a f=>?_,by rw[Zf I.ne];exact ÀI,by rw[Zb,Qf];rfl,I.ne,I.f0,I.f1,I.f2,I.f3,I.kr);rw[Zf (λz=>by
  rcases f with y|y|⟨xs,rfl⟩|⟨e,g,rfl⟩
  ·rw[eL,Ëe,y,ÀJ]
  ·rw[eL,Ëf,y,ÀJ]
  ·rw[sq,ÀJ,a]
  ·exact(I.kr e g).2 z)]
 exact a
theorem AL.nn(I:ÄV){b:aa}{zs:Ą}(hb:H b=U Àe):b≠d/\b≠rd:=(λz=>(by have:=Ëe;rw[<- z,hb]at this;cases this),λz=>(by have:=Ëf;rw[<- z,hb]at this;cases this))
theorem AL.to(I:ÄV)(g:ATo H H' d rd R R' c c'):AL H1 H' d rd rl dl R' c' rs ds:=by
 refine(λb o a=>g.k b o (Æc b o a) (Ze a I.f0) (Ze a I.f1),g.D,g.k _ _ ÀI (I.nn ÀI).1 (I.nn ÀI).2,g.k _ _ ÀJ (I.nn ÀJ).1 (I.nn ÀJ).2,I.ne,I.f0,I.f1,I.f2,I.f3,λe f=>?_);rcases g.kf e f with⟨x,h,z⟩|z
 ·rw[<- z];exact I.kr x h
 ·exact((Ze ÀI z).symm,(Ze ÀJ z).symm)
theorem ATk.ks{ws:Ê}(h:ATk R ws R'):∀e∈R',∃x∈R,x.k=e.k:=by
 induction h with
 | nil=>exact λe b=>(e,b,rfl)
 | @ė R1 ws c z t _ d _ _ a =>
  intro x f;rw[d9,y,g,f];unfold XA;split
  ·exact a c d
  ·exact a y g
theorem AL.ask{o:Od}{a:ah}(I:ÄV)(g:WS R o a R')(D:X0 H' d rd R' c)(k:#[eP,u,H,rd,H']):AL H1 H' d rd rl dl R' c rs ds:=by
 refine(λb o f=>k b o (Æc b o f) (Ze f I.f1),D,k _ _ ÀI (I.nn ÀI).2,k _ _ ÀJ (I.nn ÀJ).2,I.ne,I.f0,I.f1,I.f2,I.f3,λe h=>?_);cases g with
 | ĭ g _=>obtain x|i|z:=g.ks e h;rw[<- z];exact I.kr x i
 | _=>exact I.kr e h
theorem Y6.push{q:Int}{o:HO}(L:Y6 H p q)(h:p≠rl):Y6 (upd H rl o) p q:=by obtain a|b|c|d:=L;exact#[fp,h,c,d]
universe E
def Ww:À ah:=["a", "aa", "row", "take", "b", "drop", "zebra", "ab", "left", "abcdefgh", "z", "rows"]
theorem ZtT:∀s∈Ww,NmS s:=by
 have:∀s∈Ww,(s.cps.toList.all λc=>decide (97<=c/\c<=122))=true/\1<=ĝ/\ĝ<=8:=by ac_rfl
 intro s a;obtain b|d|e:=this s a;exact Ûm
def G5:Sp:=λvs H Q _=>X2 λ(l:aa) (ws:À ah)=>C5 #[ff,l] (H l=U #[ei,ÁE]) (ż<=90) ((∀s∈ws,ĝ<=1000)) (∀ (b:Ñ) H',ZB H H'->Q (.bl b) H')
theorem ZoT(T:Õ):Df P w K mg Â 1 "_law_is_short" Êl G5:=by
 rw[d2,T.t_l_is_short.df,Zio,B,hr];rw[sG,l,ws,t,wI,C];refine(_,#[Zg,#[Zl,#[XJ,Xl,#[Zn,(KQ K),Í,Îa,Îb,#[Zd,#[W7,R8,#[iL,K,‹0›],#[gk,1,R8],Àk,(λ_ _ _ _=>#[ZM,Yf,#[Zn,WH,#[ie,R8],Áe,Qy,#[Zd,#[cw,1,R8]]],Ü])]]],Ü,ú]]],?_);rw[sb,l,t,D,v];refine Vf (K:=K) (a:=l) (xs:=ÁE Ä) (λi zs j e=>(∃k:Ã V,j=[U Đ,k])/\(∃c:À Int,zs=š í/\Ņ=i/\∀m∈c,0<=m/\m<=2000)/\i<=ż/\e D=U Àe/\ZB H e) ((af,rfl),#[sc,u,F],Qt _,Zb,Zi v _) #[fu,t] ?_ ?_
 ·rintro i y zs j e d ⟨⟨k,rfl⟩,⟨c,rfl,n,o⟩,hi,p,r⟩;rw[Qr]at d;cases g:ws[i]? with
  | none=>rw[g]at d;cases d
  | some x =>
  rw[eh,g,d,G,ż];have I:=C x (Qp g);refine(_,rfl,x,rfl,Ĭ I,_,_,rfl,rfl,p,#[eV,n,ZA],ü,(c++[Òv+1],by rw[Qf];rfl,by rw[Qd,n];rfl,λm hm=>?_),G,Zb,λb u z=>?_)
  ·rcases ß hm with hm|hm
   ·exact o m hm
   ·rw[Ý hm];lia
  ·rw[rF,z,v,r,b,u]
 ·rintro zs j e ⟨⟨k,rfl⟩,⟨c,rfl,n,o⟩,_,p,r⟩;refine(D,c,rfl,É p,Á,(λm hm=>by have:=o m hm;lia),_,_,rfl,rfl,?_);exact q _ _ r
theorem YL.app{P a b:ý}{us c:Àn}{k q k' d:Int}(h:YL P us a k q)(g:YL a c b k' d):YL P (us++c) b (k+k') (q+d):=by
 induction g with
 | nil=>rw[QX,Qan,Qan];exact h
 | ė _ s e=>rw[<- Qap,<- Int.add_assoc,<- Int.add_assoc];exact .snoc e s
theorem TkW.first{P f:ý}{a:Àn}(h:TkW P a f):∀ {t:YO} {r:À YO},a=t::r->X2 λx z=>Uu P x z/\t=(x.1,x.2.2,z,):=by
 induction h with
 | nil=>intro t r e;cases e
 | @ė a g x z c i j =>
  intro t r e;by_cases d:a=[]
  ·subst d;have:g=P:=by
    generalize k:([]:À YO)=l at c;cases c with
    | nil=>rfl
    | ė _ _=>simp at k
   subst this;injection e with b _;exact(x,z,i,b.symm)
  ·obtain u|l|rfl:=Qaw d;injection e with b _;exact j (by rw[b])
inductive Xe:DS->À Od->À ah->DS->Prop
 | nil {S:DS}:Xe S [] [] S
 | Ë {S S1 S2:DS} {o:Od} {a:ah} {os:À Od} {as:À ah}:SOk S->SBd S->YQ S o a S1->Xe S1 os as S2->Xe S (o::os) (a::as) S2
theorem Xe.app{S S1 S2:DS}{os e:Ę}{f d:Ê}(h:Xe S os f S1)(g:Xe S1 e d S2):Xe S (os++e) (f++d) S2:=by
 induction h with
 | nil=>exact g
 | Ë a b c _ i=>exact .cons a b c (i g)
theorem Xe.part{os i:Ę}:∀ {S S2:DS} {e:À ah},Xe S (os++i) e S2->X3 λS1 f g=>e=f++g/\Xe S os f S1/\Xe S1 i g S2:=by
 induction os with
 | nil=>intro S S2 e h;exact(S,[],e,rfl,.nil,h)
 | Ë o os j =>
  intro S S2 e h;cases h with
  | Ë a b c d=>obtain S1|f|g|rfl|k|l:=j d;exact(S1,_::f,g,rfl,.cons a b c k,l)
theorem We.run{S d:DS}{os:Ę}{e:Ê}(h:We S os e d):Xe S os e d:=by
 induction h with
 | nil=>exact .nil
 | ė _ a b c f=>exact f.app (.cons a b c .nil)
def Wc:Od->Prop
 | .take n=>n<=8
 | .coming=>ŗ
 | .left=>ŗ
 | .counts=>ŗ
 | .rows=>ŗ
 | _=>Ē
def Uq:Od->Prop
 | .row _ _=>ŗ
 | .grow _ _=>ŗ
 | .drop _=>ŗ
 | _=>Ē
def tkN:Od->Nat
 | .take n=>n
 | _=>0
structure Mp (m:Nat) (G:Ę):Prop where
 ask:∀o∈G,Wc o
 sum:#[um].sum=m
 len:Àz<=6
 hd:X2 λn r=>G=.take n::r
def Up(w:ah):Prop:=(∀c∈cds w,c≠32)/\58∈cds w/\Ê8<=50/\OKs w
inductive XZ:À Od->À ah->À (À ah)->Prop
 | nil:XZ [] [] []
 | ĭ {n:Nat} {ws:À ah} {G:À Od} {C:À ah} {W:À (À ah)}:(∀w∈ws,Up w)->XZ G C W->XZ (.take n::G) (blT ws::C) (ws::W)
 | ξ {b:ah} {G:À Od} {C:À ah} {W:À (À ah)}:(∀x r,ÁQ=x::r->b=x)->XZ G C W->XZ (.coming::G) (b::C) ([]::W)
 | other {o:Od} {b:ah} {G:À Od} {C:À ah} {W:À (À ah)}:(o=.left\/o=.counts\/o=.rows)->XZ G C W->XZ (o::G) (b::C) ([]::W)
theorem XZ.lenC{G:Ę}{C:Ê}{W:ÀZ}(h:XZ G C W):Ãh=Àz/\W.length=Àz:=by
 induction h with
 | nil=>exact ć
 | ĭ _ _ a=>exact#[hB,a.1,a.2]
 | ξ _ _ a=>exact#[hB,a.1,a.2]
 | other _ _ a=>exact#[hB,a.1,a.2]
theorem XZ.drop{G:Ę}{C:Ê}{W:ÀZ}(h:XZ G C W):∀j,XZ (G.drop j) (C.drop j) (Èr j):=by
 induction h with
 | nil=>intro j;rw[ÓX,ÓX,ÓX];exact .nil
 | ĭ a b c=>intro j;cases j with
  | zero=>exact .take a b
  | succ j=>exact c j
 | ξ a b c=>intro j;cases j with
  | zero=>exact .coming a b
  | succ j=>exact c j
 | other a b c=>intro j;cases j with
  | zero=>exact .other a b
  | succ j=>exact c j
theorem XZ.ok{G:Ę}{C:Ê}{W:ÀZ}(h:XZ G C W):∀w∈ÁQ,Up w:=by
 induction h with
 | nil=>intro w m;cases m
 | ĭ a _ b=>intro w m;rw[Q7]at m;exact(ß m).elim (a w) (b w)
 | ξ _ _ b=>intro w m;rw[mX]
 | other _ _ b=>intro w m;rw[mX]
def KAZ(P:ý):Prop:=∀x∈P,∀s∈x.2.1,AZ s/\ĝ<=40
theorem ZoC{P:ý}{n:Int}{p:ah->Prop}(h:Ûn):∀x∈Xp P n,∀s∈x.2.1,p s:=λx hx s hs=>by
 rw[d9,y,a,hx];unfold WA at hs;split at hs
 ·exact h y a s hs
 ·exact h y a s hs
theorem TkW.keys{P b:ý}{c:Àn}{p:ah->Prop}(h:TkW P c b)(hp:Ûn):(∀x∈b,∀s∈x.2.1,p s)/\∀t∈c,p t.2.2:=by
 induction h with
 | nil=>exact(hp,λt m=>by cases m)
 | ė _ s a=>exact(ZoC a.1,λt m=>(ß m).elim (a.2 t) λm=>by rw[Ý m];exact a.1 _ s.1 _ (Qp s.2.1))
theorem YQ.kaz{S e:DS}{o:Od}{a:ah}(g:YQ S o a e)(hk:KAZ S.P)(d:OdW o):KAZ e.P:=by
 cases g with
 | row _ _ _ _=>exact λx c s b=>(ß c).elim (λm=>hk x m s b) λm=>by rw[Ý m]at b;exact((d.2.2 s b).2,(d.2.2 s b).1)
 | Ő _ _ _ _ =>
  intro x c s b;rw[d9,y,f,c];split at b
  ·rcases ß b with m|m
   ·exact hk y f s m
   ·exact((d.2.2 s m).2,(d.2.2 s m).1)
  ·exact hk y f s b
 | ő _ _=>exact λx c=>hk x (Ä1 c).1
 | ĭ g _=>exact(g.tk.keys (p:=Ûo) hk).1
 | _=>exact hk
theorem Zpx{nm:ų}(h:∀e∈nm,AZ e.1/\e.1.length<=8)(n:Int):AZ (Y0 nm n)/\(Y0 nm n).length<=8:=by
 unfold Y0;cases a:ÎF λe=>decide (e.2=n) with
 | none=>exact(λc m=>(by cases (show c∈([]:À Nat) from m)),#[ep,0,8])
 | some e=>exact h e (Qab a)
theorem Zv0{s k:ah}(hs:AZ s/\ĝ<=8)(hk:AZ k/\Åv<=40):Up (thT s k):=by
 have b:cds (":" : ah)=[58]:=by ac_rfl
 have d:cds ("-" : ah)=[45]:=by ac_rfl
 have e:∀c∈cds (kT0 k),c≠32:=by
  unfold kT0;split
  ·rw[d];intro c a;rw[Ý a];decide
  ·exact λc h=>by have:=hk.1 c h;lia
 refine(λc a=>?_,?_,G8 hs.2 hk.2,Hq hs.1 hk.1)
 ·unfold thT at a;rw[Wo,Wo,b]at a;rcases ß a with h|h
  ·rcases ß h with h|h
   ·have:=hs.1 c h;lia
   ·rw[Ý h];decide
  ·exact e c h
 ·unfold thT;rw[Wo,Wo,b];exact Æd (.inl (Æd (.inr Ó)))
theorem Zug{G:Ę}:∀ {S A:DS} {C:À ah},Î6->KAZ S.P->Xe S G C A->X5 λ(W:À (À ah)) (a:À YO) (b:À ZG) (k q:Int)=>XZ G C W/\YL S.P a b k q/\A=(b,S.nb,Δ+k,S.lo+q,Ž)/\ĳ=min #[um].sum (YG S.P)/\ÁQ=ļ λt=>thT (Y0 Ž t.1) t.2.2:=by
 induction G with
 | nil=>intro S A C _ _ h;cases h;exact([],[],S.P,0,0,.nil,.nil,by rw[Qan,Qan],by simp,rfl)
 | Ë o G l =>
  intro S A C E u h;cases h with
  | Ë ok bd st Ć =>
   have v:∀o∈G,Wc o:=λo h=>E o (Qm _ h);cases st with
   | ĭ g hl =>
    rename_i P F nb li lo nm n B H I;have kk:=g.tk.keys (p:=Ûo) u;obtain W|a|b|k|q|i|f|j|d|c:=l v (by exact kk.1) Ć;have J:=g.tk.left ÄT;refine(_::W,B++a,b,H+k,I+q,.take (λw m=>?_) i,g.app f,by rw[j];simp only[DS.mk.injEq,true_and,and_true];lia,?_,?_)
    ·rw[d9,t,K,m];exact Zv0 (Zpx bd.nmz _) (kk.2 t K)
    ·rw[Qd,Ql,QR];have h4':ĳ=min #[um].sum (YG F):=d;have wN:YG F+B.length=YG P:=J;show B.length+ĳ=min (n+#[um].sum) (YG P);lia
    ·rw[Q7,c,Qf]
   | Âi hw=>obtain W|a|b|k|q|i|f|j|d|c:=Ëg;have L:=ÓT ÄT hw;refine(_,a,b,k,q,.coming #[iw,x,r,e] i,f,j,by rw[Ql,QR];show _=min (0+_) _;rw[Qa0];exact d,c);rw[L]at d;have:a=[]:=Äx #[fe,d];rw[c,this]at e;cases e
   | com M N hw =>
    rename_i x z;obtain W|a|b|k|q|i|f|j|d|c:=Ëg;refine(_,a,b,k,q,.coming #[iw,y,r,e] i,f,j,by rw[Ql,QR];show _=min (0+_) _;rw[Qa0];exact d,c);cases a with
    | nil=>rw[c]at e;cases e
    | Ë t a=>rw[c]at e;injection e with e _;obtain x'|z'|D|rfl:=f.tk.first rfl;have ex:=Yh ÄT M D.1 (Qu (hw.one D.2.2));subst ex;have:=D.2.1;rw[N]at this;cases this;exact e
   | left=>obtain W|a|b|k|q|i|f|j|d|c:=Ëg;exact(_,a,b,k,q,.other Ď i,f,j,by rw[Ql,QR];show _=min (0+_) _;rw[Qa0];exact d,c)
   | Ào=>obtain W|a|b|k|q|i|f|j|d|c:=Ëg;exact(_,a,b,k,q,.other ÅE i,f,j,by rw[Ql,QR];show _=min (0+_) _;rw[Qa0];exact d,c)
   | ů=>obtain W|a|b|k|q|i|f|j|d|c:=Ëg;exact(_,a,b,k,q,.other (.inr ÂA) i,f,j,by rw[Ql,QR];show _=min (0+_) _;rw[Qa0];exact d,c)
   | _=>exact Ç (E _ (QU ..)) id
def Grp(o:Od)(G:Ę):Prop:=(Uq o/\G=[o])\/∃m,o=.take m/\Mp m G
inductive WR:À Od->À (À Od)->Prop
 | nil:WR [] []
 | Ë {o:Od} {G:À Od} {os:À Od} {gs:À (À Od)}:Grp o G->WR os gs->WR (o::os) (G::gs)
theorem WR.snoc{os:Ę}{b:ÄW}(h:WR os b){o:Od}{G:Ę}(g:Grp o G):WR (os++[o]) (b++[G]):=by
 induction h with
 | nil=>exact .cons g .nil
 | Ë a _ c=>exact .cons a c
theorem YQ.word{S b:DS}{o:Od}{a:ah}(g:YQ S o a b)(h:Uq o):a = "done"\/a = "refused":=by
 cases g with
 | row _ _ _ _=>exact ÀM
 | ÁL _=>exact Àt
 | Ő _ _ _ _=>exact ÀM
 | ÁM _=>exact Àt
 | ő _ _=>exact ÀM
 | ÁN _=>exact Àt
 | _=>exact Ëh
def Gok(o:Od)(G:Ę)(C:Ê)(a:ah):Prop:=(Uq o/\G=[o]/\C=[a]/\(a = "done"\/a = "refused"))\/X2 λm W=>o=.take m/\Mp m G/\XZ G C W/\a=blT ÁQ/\Î7<=m
inductive Al:À Od->À (À Od)->À (À ah)->À ah->Prop
 | nil:Al [] [] [] []
 | Ë {o:Od} {G:À Od} {C:À ah} {a:ah} {os:À Od} {gs:À (À Od)} {cs:À (À ah)} {as:À ah}:Gok o G C a->Al os gs cs as->Al (o::os) (G::gs) (C::cs) (a::as)
theorem Zpc{os:Ę}{i:ÄW}(g:WR os i):∀ {S S1 S2:DS} {d e:À ah},Ê6->KAZ S.P->Xe S os d S1->Xe S i.flatten e S2->∃b,e=b.flatten/\Al os i b d:=by
 induction g with
 | nil=>intro S S1 S2 d e _ _ f c;cases f;cases c;exact([],rfl,.nil)
 | Ë x _ p =>
  rename_i o G os i _;intro S S1 S2 d e hw s f c;cases f with
  | Ë ok bd st Ć =>
   rename_i T a d;rw[Q7]at c;obtain y|C|e|rfl|t|u:=c.part;have z:=hw o (QU ..);have v:=st.kaz s z;rcases x with⟨hd,rfl⟩|⟨m,rfl,j⟩
   ·cases t with
    | Ë _ _ A r=>cases r;obtain rfl|rfl:=st.one ok A;rw[mY];exact([a]::b,rfl,.cons (.inl (hd,rfl,rfl,st.word hd)) l)
   ·obtain W|ts|P'|k|q|f|c|B|n|w:=Zug j.ask s t;rw[j.sum]at n;cases st with
    | ĭ D E=>obtain rfl|rfl|rfl|rfl:=YL.one ÄT D c (E.trans n.symm);have F:y=_:=B;subst F;rw[mY];refine(C::b,rfl,.cons (.inr (m,W,rfl,j,f,by rw[w],?_)) l);rw[w,Qa,n];exact Nat.min_le_left ..
theorem Gok.len{o:Od}{G:Ę}{C:Ê}{a:ah}(h:Gok o G C a):Ãh=Àz/\0<Àz:=by
 rcases h with⟨_,rfl,rfl,_⟩|⟨m,W,_,b,c,_,_⟩
 ·exact(rfl,Nat.succ_pos 0)
 ·rw[g6,n,r,e,b.hd];exact(c.lenC.1,by rw[e];exact Nat.succ_pos _)
theorem Al.at'{os:Ę}{b:ÄW}{c:ÀZ}{d:Ê}(h:Al os b c d):∀ {i:Nat} {G:À Od},b[i]? = U G->X3 λo C a=>os[i]? = U o/\c[i]? = U C/\d[i]? = U a/\Gok o G C a:=by
 induction h with
 | nil=>intro i G h;cases i<;>cases h
 | Ë a _ e=>intro i G h;cases i with
  | zero=>cases h;exact(_,_,_,rfl,rfl,rfl,a)
  | succ i=>exact e h
theorem Al.len{os:Ę}{a:ÄW}{b:ÀZ}{c:Ê}(h:Al os a b c):ĳ=Œ/\Ņ=ĳ:=by
 induction h with
 | nil=>exact ć
 | Ë _ _ d=>exact#[hB,d.1,d.2]
theorem G3(o:Od)(os:Ę):dds (o::os)=Ê7+dds os:=rfl
theorem Zsd(xs ys:Ę):dds (xs++ys)=dds xs+dds ys:=by unfold dds;rw[Qf,Qao]
theorem Zsg{G:Ę}(h:∀o∈G,Wc o):dds G=0:=by
 induction G with
 | nil=>rfl
 | Ë o G a =>
  rw[G3,a λo m=>h o (Qm _ m)];have:=h o (QU ..);cases o with
  | row _ _=>exact ÓY
  | Ő _ _=>exact ÓY
  | ő _=>exact ÓY
  | _=>rfl
theorem Zwr{o:Od}(h:Wc o):OdW o:=by
 cases o with
 | row _ _=>exact Ëh
 | Ő _ _=>exact Ëh
 | ő _=>exact Ëh
 | ĭ n=>exact QaJ (show n<=8 from h) Ì
 | _=>trivial
theorem WR.flat{os:Ę}{a:ÄW}(h:WR os a)(hw:∀o∈os,OdW o):(∀o∈Ëi,OdW o)/\dds Ëi=dds os/\(os≠[]->Ëi≠[]):=by
 induction h with
 | nil=>exact(λo m=>(by cases m),rfl,λh=>Ç rfl h)
 | Ë g _ d =>
  rename_i o G os a _;obtain c|f|_:=d λo m=>hw o (Qm _ m);have i:=hw o (QU ..);rw[Q7,Zsd,G3,f];rcases g with⟨_,rfl⟩|⟨m,rfl,b⟩
  ·refine(λx m=>(ß m).elim (λm=>by rw[Ý m];exact i) (c x),rfl,λ_=>by simp)
  ·refine(λx m=>(ß m).elim (λm=>Zwr (b.ask x m)) (c x),by rw[Zsg b.ask];rfl,λ_ z=>?_);rw[g6,n,r,e,b.hd];rw[fL,e,z,z]
theorem Zr6(A C B:Ą):Yo (A++C++B) (U ÓZ) (U (ÓZ+(Ãh:Nat):Int))=C:=by unfold Yo;rw[show (ÓZ:Int)+#[g8,Ãh]=((A.length+Ãh:Nat):Int) by lia,Î8,Î8,Qd,Qd,Í6 Á,Í6 Á,Nat.add_sub_cancel_left,Qap,ÓI,List.take_left]
theorem Zmr{a:ÀZ}{i:Nat}{C:Ê}(h:a[i]? = U C):Ëi=(Ãi i).flatten++C++(a.drop (i+1)).flatten/\(Ãi (i+1)).flatten=(Ãi i).flatten++C:=by
 have b:=(Į h).1;have e:a[i]=C:=(Į h).2;refine(?_,by rw[QH,h,Qat];simp);have c:a=Ãi i++C::a.drop (i+1):=by rw[<- e,<- Qa3 b,QaR]
 have d:Ëi=(Ãi i++C::a.drop (i+1)).flatten:=ŕ List.flatten c;rw[d,Qat,Q7,Qap]
def V1:ah:=Ìl "abcdefghijklmnopqrstuvwxyz" 2
theorem Zte:∀a:Nat,a<26->∀k:Nat,k<12->((Üb).cps.toList.all λc=>decide (97<=c/\c<=122))=true/\1<=(Üb).length/\(Üb).length<=8:=by ac_rfl
theorem ZuJ{a k:Nat}(ha:a<26)(hk:k<12):NmS Üb:=by obtain b|d|e:=Zte a ha k hk;exact Ûm
theorem Mo(ss:Ê)(n:Nat):Yo Àw af (U (n:Int))=(ss.take n).map Ä/\Yo Àw (U (n:Int)) af=(Îx n).map Ä:=by
 by_cases h:n<=Ο
 ·exact RF ss n h
 ·have e:min n (Àw).length=Ο:=by rw[Qa];lia
  constructor
  ·unfold Yo;rw[Î8,Ó0,e,Qbg,Nat.sub_zero,Qz #[fe,Qa],Qz Á]
  ·unfold Yo;rw[Î8,Ó0,e,Qbh #[fe,Qa],Qbh Á,List.take_nil];rfl
def G2:Sp:=λvs H Q _=>X2 λ(p:aa) (c:Int)=>C4 #[ff,p] ÄE (c<2 ^ 40) (∀ (l:aa) (ns:À ah) (a:Int) (H':Hp),H l=af->H' l=U #[ei,Äa]->(∀s∈ns,NmS s)->1<=ĩ->ĩ<=20->Y6 H' p a->c<=a->a<=c+4->But p H H'->Q Đ H')
theorem Zn0(T:Õ)(S:ÄF):Df P w K mg Â 3 "_law_names" Äy G2:=by
 rw[d2,T.t_l_names.df,UK,vs,W];rw[fY,p,c,L,hc];refine(_,#[Zc,#[Zu,1,UK.nd,â,#[ZW,#[Za,á,#[Za,á,#[Za,á,#[Za,á,#[Za,á,#[Za,á,Ûp]]]]]]]],#[Zc,#[sy,2,UK.nd,S,W,Æe],(@UQ _ _ _ _ _ #[ZK,#[it,YI,S,W],#[Zc,#[Zu,3,UK.nd,Ån,#[ZM,K9,á,Ü]],#[Zc,#[Zu,4,UK.nd,Ån,#[fy,S,W,Æe]],#[Zg,#[UW,1,UK.nd,VO,Ûq,#[gk,5,VO],Àk,(λ_ _ _ _=>#[W9,ZuZ,#[cv,3,VO],#[Xy,Ûr],#[Xy,#[ZM,Yf,#[ZM,Yf,Ûr,Ü],#[ZM,U1,#[cw,5,VO],Ü]]]])]]]],ë] #[Zg,#[Zl,#[W9,(slL K),#[ZM,VX,#[fo,1,2],#[W9,(slL K),‹1›,(@Ws _),#[Xy,‹2›]]],(@Ws _),#[Xy,#[ZM,Yf,Ü,#[fy,S,W,Æe]]]]]])]],?_);have c0:=L.ge;refine(#[ep,12,aq],λl hl=>?_);rw[yV,X,H,l,Ó1];have s1:=Zi hl Ó1;have L1:=L.new (o:=.lst (Ww.map Ä)) hl;have ku:p≠l:=by obtain u|k:=L.here;exact Ze k hl
 have qF:l≠p:=ku.symm;show Uk _ _ _ _ (upd H l Ó1);have c9:∀s∈Ww,NmS s:=ZtT;have wC:Ww.length=12:=rfl;generalize upd H l (.lst (Ww.map Ä))=H3 at X s1 L1 ⊢;generalize Ww=Â at X c9 wC ⊢;have sH:=s1;have yt:=X;have L3:=L1;have x:=qF;clear s1 X L1 ku qF;refine#[gH,12,L3,H4,L4,B4];have B:=B4 _ _ yt x;have C:But p H H4:=λb o i n=>B4 b o (sH b o i) n;rw[fP,n,n,r,r.toNat];refine(λy H'=>X5 λ(f:aa) (Y:À ah) (c':Int) (v3 v4:Ã V)=>y=[U ş,U ą,U #[hx,n],v3,v4]/\H' f=U #[ei,Y.map]/\(∀s∈Y,NmS s)/\12<=Y.length/\Y.length<=12/\Y6 H' p c'/\c<=c'/\c'<=c+3/\But p H H'/\f≠p,?_,?_)
 ·refine(_,rfl,p,c+1,4,rfl,L4,by lia,by decide,by decide,λr2 H5 q0 q1 L5 B5=>(rfl,_,rfl,?_));have Z:=B5 _ _ B x;have vO:=C.trans B5;refine Y1 Å3 (λ_=>(l,Â,c+1+1,_,_,rfl,Z,c9,by lia,by lia,L5,by lia,by lia,vO,x));refine("abcdefghijklmnopqrstuvwxyz",2,rfl,rfl,by decide,by decide,ö,_,rfl,p,c+1+1,26,rfl,L5,by lia,by decide,by decide,λr3 H6 x0 x1 L6 B6=>?_);rw[fP,g,m,r3,r3.toNat];have hg:g<26:=by lia
  have B6':=vO.trans B6;refine(_,rfl,by decide,by decide,λD hD=>?_);have Cb:D≠p:=λz=>by obtain u|k:=L6.here;rw[r9,hD,k]
  refine PY (λj zs y H7=>(∃v:Ã V,y=[U ş,U Đ,U #[hx,n],U (.str V1),U #[hx,g],v])/\(∃ws:À ah,zs=ÁE Ä/\ż=j/\∀s∈ws,NmS s)/\H7 D=U Àe/\ZB H6 H7) ((af,rfl),#[sc,s,h],Zb,Zi hD _) ?_ ?_
  ·rintro j zs y H7 hj ⟨⟨v,rfl⟩,⟨ws,rfl,im,kD⟩,Dk,s7⟩;have F:j<12:=hj;have y9:=ZuJ hg F;rw[<- Int.zero_add (j:Int)]at y9;have h52:V1.length<=aq:=by rw[show V1.length=52 by ac_rfl];decide
   have hC:SX 2 Î9:=.inl ÇB;refine(_,rfl,_,rfl,_,rfl,_,_,rfl,rfl,hC,_,_,rfl,rfl,_,rfl,_,rfl,_,rfl,_,_,rfl,rfl,hC,_,_,rfl,rfl,_,_,rfl,rfl,_,rfl,_,_,rfl,rfl,by decide,_,_,rfl,rfl,_,rfl,V1,rfl,h52,Dk,#[eV,im,ZA],ü,(ws++[Ìn V1 (U ((g:Int)+2*Î9)) (U ((g:Int)+2*Î9+1+Î9 % 8))],by rw[Qf];rfl,by rw[Qd,im];rfl,λs hs=>?_),Zb,λb u i=>?_)
   ·rcases ß hs with hs|hs
    ·exact kD s hs
    ·rw[Ý hs];exact y9
   ·rw[rF,i,hD,s7,b,u]
  ·rintro zs y H7 ⟨⟨v,rfl⟩,⟨ws,rfl,im,kD⟩,Dk,s7⟩;have hwl':ż=12:=im;exact(D,ws,c+1+1+1,_,_,rfl,Dk,kD,by lia,by lia,L6.same s7,by lia,by lia,Çy B6' (Ãs s7),Cb)
 rintro y H8 ⟨f,d,c8,v3,v4,rfl,hf,zk,l12,l21,L8,g1,g2,B8,tM⟩;have hn21:n<12:=by lia
 clear c9 wC yt B B4 C L3 L4 x sH;have fr:∀ {b:aa},H8 b=af->H b=af:=λ{b} i=>by
  cases z:H b with
  | none=>rfl
  | some u =>
   by_cases G:b=p
   ·rw[el,u',t,L8.here];rw[eM,G,t,i]
   ·rw[B8 b u z G]at i;cases i
 obtain e1|e2:=Mo d n;rw[iF,f,hf,a,ha,e2];have s3:=Zi ha Ûs;rw[yV,wJ,H8,a,Ûs];have fY:=s3 _ _ hf;have L9:=L8.new (o:=.lst ((Ès n).map Ä)) ha;generalize upd H8 a (.lst ((Ès n).map Ä))=H9 at s3 wJ fY L9 ⊢;rw[iF,f,fY,b,i,e1];have s4:=Zi i Ût;rw[yV,I,H9,b,Ût];have J:=s4 _ _ wJ;have Dl:=L9.new (o:=.lst ((Äo n).map Ä)) i;generalize upd H9 b (.lst ((Äo n).map Ä))=iV at s4 I J Dl ⊢;have pr:(Ès n).length+(Äo n).length=ņ:=by rw[Q4,QA];lia
 refine(a,b,_,_,rfl,rfl,J,I,#[eV,Qa,Ĭ],λe he=>?_);rw[<- Qf];have s5:=Zi he Ûu;rw[rl,Z,iV,e,Ûu];have wV:=Dl.new (o:=.lst ((Üc).map Ä)) he;generalize upd iV e (.lst ((Ès n++Äo n).map Ä))=rA at s5 Z wV ⊢;have x:e≠p:=λz=>by obtain u|k:=Dl.here;rw[r9,he,k]
 refine(_,rfl,p,c8,6,rfl,wV,by lia,by decide,by decide,λr2 qk q0 q1 uu M=>?_);have N:=M _ _ Z x;rw[fP,m,m,r2,r2.toNat];have aY:(Üc).length=ņ:=by rw[Qd];exact pr
 have hm:3+m<=(Üc).length:=by lia
 have e3:=(RF Üc (3+m) hm).1;refine(_,_,rfl,rfl,_,rfl,e,_,rfl,É N,λw hw=>?_);rw[show ((3:Int)+(m:Int))=((3+m:Nat):Int) by lia,e3];have sB:But p H qk:=λO R ce n'=>M O R (s5 O R (s4 O R (s3 O R (B8 O R ce n')))) n';have hwH:H w=af:=by
  cases z:H w with
  | none=>rfl
  | some u =>
   by_cases G:w=p
   ·rw[el,u',t,uu.here];rw[eM,G,t,hw]
   ·rw[sB w u z G]at hw;cases hw
 refine q w ((Üc).take (3+m)) (c8+1) _ hwH Zb (λs hs=>?_) #[fe,QA] #[fe,QA] (uu.new hw) Á Á (Çy sB #[r0,hw]);have:=QaC hs;rcases ß this with h|h
 ·exact zk s (QaD h)
 ·exact zk s (QaC h)
def G1:Sp:=λvs H Q _=>X6 λ(p e sl:aa) (c:Int) (ns ss:À ah)=>C12 (vs=[.ref p,.ref e,.ref sl]) ÄE (c<2 ^ 39) (H e=U #[ei,Äa]) (1<=ĩ) #[su,20] ((∀s∈ns,NmS s)) #[sK,sl] ÍB ÍC (ÇC) (∀ (t a:aa) (b s:ah) (ks:À ah) (o:Od) (d:Int) (H':Hp),H t=af->H a=af->H' t=U (.tup [.str b,.str s,.ref a])->H' a=U Ái->U9 b s ks o->NmS s->KsS ks->(b = "drop"->ks=[])->Y6 H' p d->c<=d->d<=c+700->But p H H'->Q Ág H')
theorem Zrf(T:Õ)(aQ:ÄF)(fF:ÒU)(mh:Ûv):Df P w K mg Â 6 "_law_deed" Íw G1:=by
 rw[d2,T.t_l_deed.df,N4,vs,I];obtain p|nl|sl|c|J|B|rfl|L|hc|rR|iw|wG|eR|fo|fM|M|zo|q:=h;refine(_,#[Zc,#[Zu,3,N4.nd,â,#[ZF,Àj,#[ZW,Ûp],#[fy,aQ,I,Æe]]],#[Zc,#[Zu,4,N4.nd,â,#[ZY,#[it,Wt,aQ,I],#[rL,mh,I,2],#[rL,fF,I,2]]],#[Zg,#[Zl,#[Yq,#[Zd,‹3›,#[ZF,Àj,‹1›,#[Zy,aQ,I,#[Zd,‹0›,Ês],Í]],#[ZY,#[ig,3],Âk,‹4›]]]]]]],?_);have c0:=L.ge;refine(#[ep,6,aq],λa ha=>?_);have s1:=Zi ha (.lst Ïa);have um:#[hU,H,a,Ïa] a=U (.lst Ïa):=Zb;have L1:=L.new (o:=.lst Ïa) ha;have Ci:a≠p:=λz=>by obtain u|hu:=L.here;rw[r9,ha,hu]
 generalize upd H a (.lst [.str "row",.str "row",.str "row",.str "grow",.str "grow",.str "drop"])=H1 at s1 um L1 ⊢;refine#[gH,6,L1,H2,L2,B2];obtain⟨l,hwd,cW⟩:∃l:ah,(l = "row"\/l = "grow"\/l = "drop")/\atI [Ä "row",.str "row",.str "row",.str "grow",.str "grow",.str "drop"] r=U (.str l):=by
  rcases(show r=0\/r=1\/r=2\/r=3\/r=4\/r=5 by lia) with rfl|rfl|rfl|rfl|rfl|rfl
  ·exact Ó2
  ·exact Ó2
  ·exact Ó2
  ·exact(_,.inr Ď,rfl)
  ·exact(_,.inr Ď,rfl)
  ·exact(_,.inr ÂA,rfl)
 have k2:But p H H2:=λb o i n=>B2 b o (s1 b o i) n;have N:∀ {H':Hp} {d:Int} {b:aa},But p H H'->Y6 H' p d->H' b=af->H b=af:=λ{H' d b} B' L' i=>by
  cases z:H b with
  | none=>rfl
  | some u =>
   by_cases zp:b=p
   ·rw[el,u',C,L'.here];rw[eM,zp,C,i]
   ·rw[B' b u z zp]at i;cases i
 have O:∀ {b:aa},H b=af->b≠p:=λi z=>by obtain u'|C:=L.here;rw[sq,C,i]
 have R:∀ {b:aa} {xs:À V},H b=U (.lst (xs))->(∀x∈xs,∃z,x=.str z)->b≠p:=λ{b xs} i y z=>by obtain u1|u2|hp|_:=L;rw[sq,hp,i];obtain z'|m3:=y _ (QU ..);cases m3
 have A2:∀B:À ah,∀x∈B.map Ä,∃z,x=.str z:=λB x y=>by obtain s|_|rfl:=Ľ y;exact(s,rfl)
 have wW:=R fo (A2 B);have uv:=R rR (A2 J);refine(a,_,_,_,rfl,rfl,É (B2 _ _ um Ci),cW,_,rfl,p,c+1,6,rfl,L2,by lia,by decide,by decide,λr2 H4 q0 q1 L4 B4=>(_,_,rfl,rfl,_,rfl,?_));have D:But p H H4:=k2.trans B4;refine MQ (λv F=>X3 λ(k:aa) (ks:À ah) (d:Int)=>v=.ref k/\H k=af/\F k=U Ái/\ÁB<=5/\#[fV,ks,28]/\Y6 F p d/\c<=d/\d<=c+610/\But p H F) (λ_ Q' hq=>(_,rfl,_,rfl,p,sl,c+1+1,5,B,rfl,L4,by lia,by decide,by decide,D _ _ fo wW,fM,M,zo,λk ks d F f1 f2 f3 _ f5 S g1 g2 B5=>hq _ _ Ûw)) (λ_ Q' hq=>(_,rfl,_,rfl,p,sl,c+1+1,3,B,rfl,L4,by lia,by decide,by decide,D _ _ fo wW,fM,M,zo,λk ks d F f1 f2 f3 f5 S g1 g2 B5=>hq _ _ Ûw)) #[iw,v,F,hv]
 ·exact N D L4 f1
 ·exact N D L4 f1
 obtain k|ks|d|rfl|l9|zh|k5|dD|S|g1|g2|W:=hv;have nkl:k≠p:=O l9;have X:=W _ _ rR uv;refine(_,rfl,_,rfl,_,rfl,_,rfl,nl,_,rfl,.inl (É X),p,d,_,rfl,S,by lia,#[fe,Qa],#[fe,Qa],λj H6 j0 j1 Y B6=>?_);rw[Qa]at j1;rw[fP,j',m,j,j.toNat];have hj:j'<J.length:=by lia
 have Z:=eR _ (Qah hj);have G:=W.trans B6;have hk6:=B6 _ _ zh nkl;refine(nl,_,_,_,rfl,rfl,É (G _ _ rR uv),Ye (by rw[Qr,Qb hj];rfl),?_);have no:Ûf:=ÓQ;have fin:∀ (o:Od),U9 l J[j'] ks o->l ≠ "drop"->∀t,H6 t=af->Q Ág (upd H6 t (.tup [.str l,.str J[j'],.ref k])):=λo ho hd t g=>q t k l _ ks o (d+1) _ (N G Y g) l9 Zb (Zi g _ _ _ hk6) ho Z (k5,λx y=>(Qk (dD x y).1 Ì,(dD x y).2)) (λz=>Ç z hd) (Y.new g) Á Á (Çy G #[r0,g]);rcases hwd with rfl|rfl|rfl
 ·exact(_,rfl,rfl,_,rfl,YC (no ö) (_,rfl,ÁI,λt g=>fin _ (.inl ć) ö t g))
 ·exact(_,rfl,rfl,_,rfl,YC (no ö) (_,rfl,ÁI,λt g=>fin _ #[r6,ć] ö t g))
 ·refine(_,rfl,rfl,_,rfl,YZ rfl (ÀV,λe he=>(ÁI,λt g=>?_)));have s6:=Zi he Ź;refine q t e "drop" _ [] _ (d+1) _ (N G Y (s6.free g)) (N G Y he) Zb (Zi g _ _ _ Zb) (.inr (.inr ć)) Z (by decide,λx y=>by cases y) (λ_=>rfl) ((Y.new he).new g) Á Á (Çy G (Ãs (s6.trans (Zi g _))))
theorem G0:∀m:Nat,m<9 -> "take "++PV #[hx,m]=(À0 m).txt:=by ac_rfl
def GZ:Sp:=λvs H Q _=>X3 λ(p:aa) (c:Int) (m:Nat)=>C5 (vs=[.ref p,.int (m:Int)]) ÄE (c<2 ^ 39) (m<=8) (∀ (l:aa) (G:À Od) (a:Int) (H':Hp),H l=af->H' l=U Ëj->Mp m G->Y6 H' p a->c<=a->a<=c+20->But p H H'->Q Đ H')
abbrev PcI(p l:aa)(c:Int)(m:Nat)(H:Hp)(j:Nat)(a:Àh)(H':Hp):Prop:=(X3 λ(r:Nat) (b d:Ã V)=>a=[U ş,U #[hx,r],U Đ,b,d]/\r<=8/\∃G:À Od,H' l=U Ëj/\Î6/\#[um].sum+r=m/\Àz<=2*j/\(0<j->X2 λn g=>G=.take n::g)/\(j=3->r=0))/\(∃q:Int,Y6 H' p q/\c<=q/\q<=c+4*j)/\But p H H'
theorem Zon(T:Õ)(aQ:ÄF):Df P w K mg Â 3 "_law_pieces" ÅG GZ:=by
 rw[d2,T.t_l_pieces.df,TB,vs,O];obtain p|c|m|rfl|L|hc|hm|q:=h;refine(_,#[Zc,#[gB,2,TB.nd],#[Zc,#[XR,Γ,Ûq,#[rx,3,TB.nd],#[Zc,#[Zu,4,TB.nd,â,#[ZY,#[ec,Xl,3,Ü],#[Zy,aQ,O,#[Zd,‹0›,#[ha,Yf,1]],Í],‹1›]],#[Zc,#[ZL,#[ZZ,K,QC,QD,QE,Z0,‹2›,#[Zd,#[ZM,Uf,á,#[WW,(T7 K O),Å5,Å6,Î2]]]]],#[Zc,#[Zu,1,TB.nd,â,#[rT,U2,1,4]],#[Zg,#[ZK,#[it,YI,aQ,O],#[Zg,#[ZL,#[ZZ,K,QC,QD,QE,Z0,‹2›,#[Zd,#[ZF,Àj,#[ZW,#[Zd,á,á,á,á]],#[fy,aQ,O,Æe]]]]]],ë]]]]]],Ãt]],?_);have c0:=L.ge;refine#[rN,l,t];have s1:=Zi t Ź;have cH:#[gb,H,l] l=U (.lst ((([]:À Od).map ġ).map Ä)):=Zb;have L1:=L.new (o:=.lst []) t;have B:l≠p:=λz=>by obtain u|C:=L.here;rw[r9,t,C]
 have b1:But p H #[gb,H,l]:=Ãs s1;show Uk _ _ _ _ #[gb,H,l];rw[zc,H1,cH,L1,b1];clear s1;refine(_,rfl,by decide,by decide,?_);refine Ui (PcI p l c m H) ((m,af,af,rfl,hm,[],cH,#[es,o,h],by simp,Qj _,λh=>Ç h Ì,λh=>by cases h),(c,L1,Qaj _,by lia),b1) ?_ ?_
 ·clear cH L1 b1;rintro j σ H2 hj ⟨⟨r,v3,v4,rfl,hr8,G,R,S,iP,aY,W,_⟩,⟨D,L2,q2,q3⟩,X⟩;have hj3:j<3:=hj;refine Èc;refine MQ (λv d=>∃n:Nat,v=.int (n:Int)/\n<=r/\(j=2->n=r)/\(∃q:Int,Y6 d p q/\D<=q/\q<=D+1)/\But p H2 d) (λhc Q' hq=>(_,rfl,_,rfl,_,_,rfl,rfl,p,D,_,rfl,L2,by lia,by lia,by lia,λx d x0 x1 Y F=>hq _ _ (x.toNat,by rw[Öa x0],by lia,λz=>?_,#[s5,Y],F))) (λhc Q' hq=>(_,rfl,hq _ _ (r,rfl,Qj _,λ_=>rfl,#[s5,L2],Ãs (ÂC _)))) #[iw,v,d,hv]
  ·have:=Ī hc;lia
  obtain n|rfl|hnr|lR|⟨q4,Y,q5,q6⟩|F:=hv;have Dm:=F _ _ R B;have b3:=X.trans F;have I:=S8 (i:=(n:Int)) Á;have e5:#[fl,"take ",5]:=by ac_rfl
  have hgl:∀ {G:À Od},Àz<=6->(Ó4).length+1<=aq:=λ{G} h=>by rw[Qa,Qa];exact ÂS
  refine(_,rfl,.inl #[ew,Dm],_,rfl,.int (n:Int),_,rfl,.int _,I.1,I.2.1,I.2.2.1,_,_,rfl,rfl,?_,l,_,_,rfl,rfl,Dm,?_,?_)
  ·have:=I.2.2.2;rw[e5];exact Ĭ (by show _+(WZ (n:Int)).length<=_;lia)
  ·rw[Qa,Qa];exact ÂS
  rw[G0 n Á];have Do:#[hU,d,l,Ó3] l=U (.lst ((#[vs].map ġ).map Ä)):=by rw[Zb,Qf,Qf];rfl
  have L4:=Y.push (o:=.lst Ó3) Çk;have b4:But p H #[hU,d,l,Ó3]:=λb u a z=>by rw[Zf (Ze a t)];exact b3 b u a z
  generalize upd d l (.lst ((Âo ġ).map Ä++[Ä (À0 n).txt]))=H4 at Do L4 b4 ⊢;refine(_,rfl,_,rfl,_,_,rfl,rfl,?_);have er:(r:Int)-(n:Int)=((r-n:Nat):Int):=by lia
  show U6 1 (.int ((r:Int)-(n:Int))) _ _ _;rw[er];have rZ:∀o∈G++[À0 n],Wc o:=λo m=>(ß m).elim (S o) λm=>by rw[Ý m];show n<=8;lia
  have wX:(#[vs].map tkN).sum+(r-n)=m:=by rw[Qf,Qao];show (Âo tkN).sum+(n+0)+(r-n)=m;lia
  have Dp:#[vs].length<=2*j+1:=by rw[Qd];show Àz+1<=_;lia
  have wY:X2 λJ g=>G++[À0 n]=.take J::g:=by
   by_cases Dq:0<j
   ·rw[sA,J,g,e,W,Dq];exact(J,g++[À0 n],by rw[e];rfl)
   ·have:G=[]:=Äx Á;exact(n,[],by rw[this];rfl)
  generalize G++[À0 n]=Z at Do rZ wX Dp wY;clear Dm R b3 X F Y L2 S iP aY W I e5;refine(_,rfl,p,q4,3,rfl,L4,by lia,by decide,by decide,λy H5 y0 y1 L5 B5=>(rfl,_,rfl,?_));have Dr:=B5 _ _ Do B;have b5:=b4.trans B5;refine Y1 Å3 (λ_=>((r-n,_,_,rfl,by lia,Z,Dr,rZ,wX,by lia,λ_=>wY,λz=>by have:=lR Á;lia),#[s5,L5],b5));refine(_,rfl,.inl #[ew,Dr],#[ep,4,aq],λb a=>?_);have s6:=Zi a Ûx;rw[eS,M,H5,b,Ûx];have L6:=L5.same s6;have N:=s6 _ _ Dr;have nbp:b≠p:=λz=>by obtain u|C:=L5.here;rw[r9,a,C]
  have b6:But p H _:=Çy b5 (Ãs s6);generalize upd H5 b (.lst [.str "coming",.str "left",.str "counts",.str "rows"])=H6 at s6 M L6 N b6 ⊢;refine(_,rfl,p,q4+1,4,rfl,L6,by lia,by decide,by decide,λz H7 z0 z1 L7 B7=>?_);obtain⟨k,cW,yn,cL⟩:∃k:Od,atI [Ä "coming",.str "left",.str "counts",.str "rows"] z=U (.str k.txt)/\Wc k/\tkN k=0:=by
   rcases(show z=0\/z=1\/z=2\/z=3 by lia) with rfl|rfl|rfl|rfl
   ·exact(.coming,by rw[show Od.coming.txt = "coming" by ac_rfl];rfl,trivial,rfl)
   ·exact(.left,by rw[show Od.left.txt = "left" by ac_rfl];rfl,trivial,rfl)
   ·exact(.counts,by rw[show Od.counts.txt = "counts" by ac_rfl];rfl,trivial,rfl)
   ·exact(.rows,by rw[show Od.rows.txt = "rows" by ac_rfl];rfl,trivial,rfl)
  have hG7:=B7 _ _ N B;have b7:=b6.trans B7;refine(b,_,_,_,rfl,rfl,É (B7 _ _ M nbp),cW,l,_,_,rfl,rfl,hG7,?_,?_)
  ·rw[Qa,Qa];exact ÂS
  refine((r-n,_,_,rfl,by lia,Z++[k],by rw[Zb,Qf,Qf];rfl,λo m=>(ß m).elim (rZ o) λm=>by rw[Ý m];exact yn,?_,?_,λ_=>?_,λz=>by have:=lR Á;lia),(_,L7.push Çk,by lia,by lia),λb u a z=>by rw[Zf (Ze a t)];exact b7 b u a z)
  ·rw[Qf,Qao];show (Z.map tkN).sum+(tkN k+0)+(r-n)=m;lia
  ·rw[Qd];show Z.length+1<=_;lia
  ·rw[g6,J,g,e,wY];exact(J,g++[k],by rw[e];rfl)
 ·rintro σ H2 ⟨⟨r,v3,v4,rfl,hr8,G,R,S,iP,aY,W,dB⟩,⟨D,L2,q2,q3⟩,X⟩;have h0:=dB rfl;exact(_,rfl,q l G D H2 t R (S,by lia,aY,W Ì) L2 q2 (Int.le_trans q3 (by show c+4*3<=c+20;lia)) X)
theorem Mn(sep:ah):∀ {xs ys:À ah},xs≠[]->ys≠[]->Ĕ sep (xs++ys)=Ĕ sep xs++sep++Ĕ sep ys
 | [],_,h,_=>Ç rfl h
 | [x],[],_,h=>Ç rfl h
 | [x],y::r,_,_=>rfl
 | x::a::xs,ys,_,h=>by show x++sep++Ĕ sep ((a::xs)++ys)=(x++sep++Ĕ sep (a::xs))++sep++Ĕ sep ys;rw[Mn sep (xs:=a::xs) Ó h];simp only[PySem.Str.append_assoc]
theorem VE(ws:Ê):ō " " ws=Ĕ " " ws:=by simpa using ÅC Ê2 ws
def Yd(W:ÀZ):À ah:=(W.filter λws=>!ws.isEmpty).map (ō " ")
theorem Rx{W:ÀZ}:Yd W=[]↔ÁQ=[]:=by
 induction W with
 | nil=>exact(λ_=>rfl,λ_=>rfl)
 | Ë ws W a =>
  cases ws with
  | nil=>exact a
  | Ë w ws=>exact(λh=>(by cases h),λh=>(by cases h))
theorem Zmk(W:ÀZ):ō " " (Yd W)=ō " " ÁQ:=by
 rw[VE,VE];induction W with
 | nil=>rfl
 | Ë ws W a =>
  cases ws with
  | nil=>exact a
  | Ë w ws =>
   show Ĕ " " Üd=Ĕ " " ((w::ws)++ÁQ);rw[VE];by_cases h:ÁQ=[]
   ·rw[Rx.mpr h,h,QX];rfl
   ·rw[show Ĕ " " (w::ws)::Yd W=[Ĕ " " (w::ws)]++Yd W from rfl,Mn " " Ó (λz=>h (Rx.mp z)),Mn " " Ó h,a];rfl
theorem Mm:∀ {ws:À ah},(∀w∈ws,Ê8<=50)->(Ĕ " " ws).length<=51*ż
 | [],_=>by decide
 | [x],h=>by have:=h x Ó;show ĕ<=51*1;lia
 | x::y::r,h=>by
  have h1:=h x Ó;have h2:=Mm (ws:=y::r) λw m=>h w (Qm _ m);have a:Èg:=by ac_rfl
  show (x ++ " "++Ĕ " " (y::r)).length<=_;rw[Ûy,Ûy,Qq,a];lia
theorem ZoR{W:ÀZ}(h:∀w∈ÁQ,Ê8<=50):((Yd W).map ÀT).sum<=51*Î7:=by
 induction W with
 | nil=>exact Qj _
 | Ë ws W a =>
  have b:=a λw m=>h w (by rw[Q7];exact Æd (.inr m));rw[Q7,Qd];cases ws with
  | nil=>show _<=51*(0+_);rw[Qa0];exact b
  | Ë w ws=>have h1:=Mm (ws:=w::ws) λx m=>h x (by rw[Q7];exact Æd (.inl m));show ((Üd).map ÀT).sum<=_;rw[Ql,QR,VE];lia
theorem GY{W:ÀZ}:(Yd W).length<=W.length:=by unfold Yd;rw[Qa];exact Qay ..
theorem GX{c:Nat}:∀ {ws:À ah} {w:ah},w∈ws->c∈cds w->c∈cds (Ĕ " " ws)
 | [x],w,h,hc=>by rw[Ý h]at hc;exact hc
 | x::y::r,w,h,hc=>by
  show c∈cds (x ++ " "++Ĕ " " (y::r));rw[Wo,Wo];rcases ħ h with rfl|h
  ·exact Æd (.inl (Æd (.inl hc)))
  ·exact Æd (.inr (GX h hc))
theorem GW{ws:Ê}(h0:ws≠[])(h:∀w∈ws,Up w):blT ws=ō " " ws/\ō " " ws ≠ "-":=by refine(Æ h0,λz=>?_);obtain w|r|rfl:=Qaw h0;have:=GX (ws:=w::r) (QU ..) (h w (QU ..)).2.1;rw[<- VE,z,show cds ("-" : ah)=[45] by ac_rfl]at this;exact Ç (Ý this) Ì
theorem XZ.at'{G:Ę}{C:Ê}{W:ÀZ}(h:XZ G C W):∀ {i:Nat} {o:Od} {b:ah},G[i]? = U o->C[i]? = U b->∃ws,W[i]? = U ws/\((∃n,o=.take n/\b=blT ws/\∀w∈ws,Up w)\/ws=[]/\(o=.coming\/o=.left\/o=.counts\/o=.rows)):=by
 induction h with
 | nil=>intro i o b h;cases i<;>cases h
 | ĭ a _ e=>intro i o b c d;cases i with
  | zero=>cases c;cases d;exact(_,rfl,.inl (_,rfl,rfl,a))
  | succ i=>exact e c d
 | ξ a _ e=>intro i o b c d;cases i with
  | zero=>cases c;cases d;exact(_,rfl,.inr (rfl,.inl rfl))
  | succ i=>exact e c d
 | other a _ e=>intro i o b c d;cases i with
  | zero=>cases c;cases d;exact(_,rfl,.inr (rfl,.inr a))
  | succ i=>exact e c d
theorem Ml:∀n:Nat,n<9->Êc (À0 n).txt "take " = true:=by ac_rfl
def GV:Sp:=λvs H Q _=>X5 λ(a b:aa) (G:À Od) (C:À ah) (W:À (À ah))=>C8 #[gr,a,b] #[gf,a,Ó4] (H b=U Ëk) (XZ G C W) (Î6) (Àz<=6) (Î7<=10) (∀H',ZB H H'->Q (.str (blT ÁQ)) H')
abbrev JnI(a b:aa)(n:Nat)(W:ÀZ)(D:aa)(H:Hp)(i:Nat)(zs:Ą)(d:Àh)(c:Hp):Prop:=(X2 λe f:Ã V=>d=[U Ĩ,U ÀR,af,e,f])/\zs=#[wI].map Ä/\i<=n/\c D=U Àe/\ZB H c
theorem Zof(T:Õ):Df P w K mg Â 1 "_law_joined" ÅJ GV:=by
 rw[d2,T.t_l_joined.df,JM,vs,F];obtain a|b|G|C|W|rfl|ha|hb|M|jy|h6|h8|q:=h;refine(_,#[Zc,#[UW,2,JM.nd,UG,#[rV,0,1],#[em,3,UG,4],(λ_ _ _ _=>(@ZrR _ _ _ (@œ _ _ _ #[Yb,#[XT,#[ZZ,K,QO,QaV,QaW,Pt,#[cw,3,UG],#[Zd,á]]],#[XS,#[Zk,WQ,#[cw,4,UG],á,ú]]]))),(λ_ _ _ _=>#[cw,4,UG])],#[Zg,#[Zl,#[ZY,#[fH,neD,F,2],#[hi,Ãx],á]]]],?_);rw[el,lC,lW,M.lenC];refine(_,rfl,_,rfl,.l a,.l b,_,_,rfl,É ha,É hb,λD hD=>?_);refine Zoh (K:=K) (xs:=Ûz) (ys:=Å0 Ä) (JnI a b Àz W D H) #[hY,hD] (λ_ _ _ _ h=>(É (h.2.2.2.2 _ _ ha),É (h.2.2.2.2 _ _ hb))) ?_ ?_
 ·rintro i zs σ e x y r j k ⟨⟨v3,v4,rfl⟩,rfl,hi,g,N⟩ F;rw[Qo,Qr]at j;rw[Qr]at k;cases l:G[i]? with
  | none=>rw[l]at j;cases j
  | some o =>
  cases p:C[i]? with
  | none=>rw[p]at k;cases k
  | some t =>
  rw[l]at j;rw[fL,p,k,j];cases k;obtain ws|hw|bP:=M.at' l p;have O:i<Àz:=(Į l).1;have ho:=jy o (Qp l);have eT:Èt (i+1)=Èt i++[ws]:=by rw[QH,hw];rfl
  have R:Yd (Èt (i+1))=Yd (Èt i)++Yd [ws]:=by rw[eT];unfold Yd;rw[List.filter_append,Qf]
  have S:D≠r:=λz=>by rw[z,F]at g;cases g
  have I:Ïb D=U (.lst (#[wI].map Ä)):=by rw[Zf S];exact g
  have J:ZB H Ïb:=N.trans (Zi F _);have cL:Ïb r=U (.tup [Ä Ū,Ä t]):=Zb;show Uj K 2 _ _ _ Ïb _;generalize upd e r (.tup [Ä Ū,Ä t])=H2 at I J cL ⊢;rw[e3,r,cL];have lp:#[wI].length<=6:=Qk GY #[fe,QA];rcases bP with⟨n,rfl,rfl,d⟩|⟨rfl,X⟩
  ·have Y:=Ml n (by have:n<=8:=ho;lia);rw[ow];refine YH Èe;by_cases v:ws=[]
   ·subst v;refine WF rfl ÛA
   ·obtain e1|e2:=GW v d;refine RW (λz=>e2 (by rw[<- e1];injection z)) (_,rfl,I,#[e5,Qa,Ĭ,Á],Ç2,?_,O,Zb,λb' u ce=>by rw[Zf (Ze ce hD)];exact J _ _ ce);rw[R,Qf,e1];unfold Yd;rw[show ([ws].filter λws=>!ws.isEmpty)=[ws] by cases ws with
     | nil=>exact #[y5,v]
     | Ë _ _=>rfl]
    rfl
  ·have Y:Êc Ū "take " = false:=by rcases X with rfl|rfl|rfl|rfl<;>ac_rfl
   rw[ow];exact Y9 (Y9 ÛA)
 ·rintro zs σ e ⟨⟨v3,v4,rfl⟩,rfl,_,g,N⟩;have em:min (Ó4).length (Å0 Ä).length=Àz:=by rw[Qa,Qa,Qa,lC,Nat.min_self]
  rw[em,<- lW,Qz î]at g;have d:=M.ok;have cI:=ZoR (W:=W) λw m=>(d w m).2.2.1;have hpm:(Yd W).length<=6:=Qk GY Á;have Di:Èg:=by ac_rfl
  rw[gC,z,Z,sz];have hpo:∀x∈Yd W,OKs x:=λx m=>by obtain ws|v|rfl:=Ľ m;rw[VE];refine G6 (λc p=>?_) _ λz Z=>(d z (List.mem_flatten.mpr (ws,(Ä1 v).1,Z))).2.2.2;rw[e1," ",p,32];decide
  refine(.list ((Yd W).map ÇI),.list [],.lst #[rR,sz,g] (UE _),.lst ÇJ .nil,RB _ hpo,ö,_,rfl,?_);rw[È rfl,Ho];have jU:=sz _ _ g;have s3:=N.trans sz;generalize upd e z (.lst [])=H3 at jU s3 ⊢;have B:=q H3 s3;unfold blT at B;by_cases L:ÁQ=[]
  ·rw[đ (Rx.mpr L)];rw[y3,L,B];exact Y9 B
  ·rw[Ń (λz=>L (Rx.mp z))];rw[Æ L,<- Zmk]at B;exact YH (rfl,_,rfl,_,D,Yd W,rfl,rfl,É jU,#[fe,Di],B)
theorem Zlw:∀n:Nat,n<9->(À0 n).txt ≠ "coming":=by ac_rfl
def ZuG:Sp:=λvs H Q _=>X4 λ(a b:aa) (G:À Od) (C:À ah)=>C5 #[gr,a,b] #[gf,a,Ó4] (H b=U Ëk) (((∃o,G=[o]/\Uq o)\/∃W,XZ G C W/\Î6/\Àz<=6/\Î7<=10)) Ø1
theorem GU{o:Od}(h:Uq o):X2 λc r=>cds Ū=c::r/\c≠99/\c≠116:=by
 have e:∀ (w:ah) (ws:À ah),∃r,cds (ō " " (w::ws))=cds w++r:=λw ws=>by
  rw[VE];cases ws with
  | nil=>exact([],(QX _).symm)
  | Ë x r=>show ∃r',cds (w ++ " "++Ĕ " " (x::r))=_;rw[Wo,Wo,Qap];exact ü
 cases o with
 | row s ks=>obtain r|h:=e "row" (Od.sw ÎI++Od.fw ÎI);exact Ó5
 | Ő s ks=>obtain r|h:=e "grow" (Od.sw Ê1++Od.fw Ê1);exact Ó5
 | ő s=>obtain r|h:=e "drop" (Od.sw (.drop s)++Od.fw (.drop s));exact Ó5
 | _=>exact Ëh
abbrev CrI(a b:aa)(H:Hp)(c:Àh)(d:Hp):Prop:=(X3 λe f g:Ã V=>c=[U Ĩ,U ÀR,e,f,g])/\ZB H d
theorem GS{z:ah}{c:Nat}{r:Ō}(h:cds z=c::r)(hc:c≠116):Êc z "take " = false:=by
 unfold Êc;rw[StrLaws.subAt_eq,Qbg,show Áz=c::r from h,show ("take " : ah).length=5 by ac_rfl,show ("take " : ah).cps.toList=[116,97,107,101,32] by ac_rfl];have:((c::r).take 5 == [116,97,107,101,32])=false:=by rw[List.take_succ_cons];show ((c == 116)&&_)=false;rw[show (c == 116)=false by simp[hc]];rfl
 rw[this,Bool.and_false]
theorem Zsi(T:Õ)(gc:#[ef,1,"_law_joined",ÅJ,GV]):Df P w K mg Â 2 "_law_coming_right" ÅJ ZuG:=by
 rw[d2,T.t_l_coming_right.df,Sa,vs,N];obtain a|b|G|C|rfl|B|D|bP|q:=h;refine(_,#[Zc,#[XR,Γ,#[s1,Áf],#[hW,Sa.nd],#[Zg,#[ZK,(@œ _ _ _ #[Yb,#[ig,3],#[XS,#[Zk,Xl,#[ha,Yf,2],ÅK,ú]]]),#[Zc,#[Zu,4,Sa.nd,â,#[Zy,gc,N,#[Zd,#[fo,0,2],#[fo,1,2]],Í]],#[Zg,#[ZK,(@œ _ _ _ #[Yb,#[ec,WQ,4,á],#[XS,#[Zk,WQ,#[ZF,Àj,#[hJ,4],Ü],#[rm,Àj,1,2],ú]]]),ÁH,ë]]],ë]]],ÁH],_,rfl,a,_,rfl,É B,?_);refine SM (K:=K) (a:=a) (xs:=Ûz) (λ_=>CrI a b H) ((_,_,_,rfl),ÂC _) (λ_ _ _ h=>É (h.2 _ _ B)) ?_ ?_
 ·rintro i x σ l r u ⟨⟨v2,v3,v4,rfl⟩,O⟩ N;rw[Qo,Qr]at u;cases d:G[i]? with
  | none=>rw[d]at u;cases u
  | some o =>
  rw[eh,d,u,bM,Àz];have g:ZB H (upd l r Ó6):=O.trans (Zi N _);rw[eS,cL,l,r,Ó6];show Uj K 2 _ _ _ (upd l r Ó6) _;generalize upd l r (.tup [.int (i:Int),Ä Ū])=H2 at g cL ⊢;refine(r,_,rfl,ā cL,rfl,_,_,rfl,_,_,rfl,rfl,_,rfl,rfl,_,rfl,?_);have ec:cds ("coming" : ah)=[99,111,109,105,110,103]:=by ac_rfl
  have no:Ū ≠ "coming"->¬ Ä Ū=Ä "coming":=ÓQ;rcases bP with⟨o',rfl,hd⟩|⟨W,F,jy,h6,h8⟩
  ·have:o=o':=by
    cases i with
    | zero=>cases d;rfl
    | succ i=>cases d
   subst this;obtain c|rr|p|R|_:=GU hd;rw[nJ];rw[z,ec]at p;injection p with p _;exact R p.symm
  by_cases v:o=.coming
  ·subst v;have e0:Od.coming.txt = "coming":=by ac_rfl
   refine YZ (by rw[e0]) ?_;refine(_,rfl,_,_,rfl,rfl,_,rfl,a,_,rfl,.inl #[rR,g,B],_,_,rfl,rfl,_,rfl,?_);refine Y1 Å3 (λ_=>((_,_,_,rfl),g));rw[el,lC,lW,F.lenC];refine#[h2,a,g,B,I,i3];have p:=(Mo (Âo ġ) i).2;rw[p,<- ÒG];have S:=Zi i3 ÛB;rw[eS,X,H2,I,ÛB];have J:=ÈA S;generalize upd H2 I (.lst (((G.drop i).map ġ).map Ä))=H3 at S X J ⊢;refine#[h2,b,J,D,d2,ir];have R:=(Mo C i).2;rw[R];have Y:=Zi ir #[fx,C.drop,i];have gn:#[nV].flatten.length<=10:=by
    have e:ÁQ=(Èt i).flatten++#[nV].flatten:=by rw[<- Qat,QaR]
    rw[e,Qd]at h8;lia
   refine(I,d2,G.drop i,C.drop i,Èr i,rfl,Y _ _ X,Zb,F.drop i,λo m=>jy o (QaD m),by rw[Q4];lia,gn,λH5 s5=>?_);have Z:ZB H H5:=(Îi Y).trans s5;clear S Y s5 X J i3 ir;have y:=F.drop i;rw[Qa3 bM]at y;have hgi:G[i]=.coming:=by rw[Qb bM]at d;injection d
   rw[hgi]at y;obtain⟨t,hci,zt⟩:∃t,C[i]? = U t/\∀x r,(Èr i).flatten=x::r->t=x:=by
    have mR:i<Ãh:=by lia
    rw[Qa3 mR]at y;generalize hWd:Èr i=Wd at y ⊢;cases y with
    | ξ D _=>exact(C[i],Qb mR,λx r e=>D x r e)
    | other L _=>rcases L with h|h|h<;>cases h
   have k:∀w∈(Èr i).flatten,Up w:=(F.drop i).ok;by_cases M:#[nV].flatten=[]
   ·refine Èe;rw[M];exact WF rfl (Y9 ((_,_,_,rfl),Z))
   ·obtain e3|e4:=GW M k;refine Èe;rw[e3];refine RW (λz=>e4 ÛC) ?_;have e32:#[ft," ",32]:=by ac_rfl
    have jN:ÁD Üe " " = #[nV].flatten:=by rw[e32];exact Px M λw m z=>(k w m).1 32 z rfl
    have Cd:(Üe).length<=aq:=by rw[VE];have:=Mm (ws:=#[nV].flatten) λw m=>(k w m).2.2.1;exact ÂS
    rw[sA,w0,wr,rX,Qaw,M];refine(_,rfl,rfl,_, " ",rfl,rfl,ö,Cd,#[e5,jN,Ĭ,Á],λd3 mT=>?_);rw[jN];have s6:=Zi mT (.lst ((#[nV].flatten).map Ä));refine(d3,_,_,Ä w0,rfl,rfl,É Zb,Ye (j:=0) #[zj,rX],_,rfl,_,rfl,b,_,_,Ä t,rfl,rfl,É (s6 _ _ (Z _ _ D)),Ye #[sh,Qr,hci],rfl,_,rfl,?_);rw[zt w0 wr rX];exact WF rfl ((_,_,_,rfl),Z.trans s6)
  ·rw[nJ];have L:=jy o (Qp d);cases o with
   | ĭ n=>exact Zlw n (by have:n<=8:=L;lia) z
   | ξ=>exact v rfl
   | left=>exact Ç z ö
   | Ào=>exact Ç z ö
   | ů=>exact Ç z ö
   | _=>exact L
 ·rintro σ l ⟨_,O⟩;exact q l O
structure OG (H:Hp) (rl dl ol:aa) (ga:Ş) (gs:ÄW):Prop where
 at':H ol=U #[sZ,ga.map]
 len:ga.length=gs.length
 el:∀ (i:Nat) (r:aa) (G:À Od),ga[i]? = U r->gs[i]? = U G->H r=U Ëj
 ne:ol≠rl/\ol≠dl
 nel:∀r∈ga,r≠rl/\r≠dl/\r≠ol
section
variable {H H':Hp} {rl dl ol:aa} {ga:À aa} {gs:À (À Od)}
theorem OG.get(O:ÃE){r:aa}(h:r∈ga):∃G:À Od,H r=U Ëj:=by obtain i|a|rfl:=List.getElem_of_mem h;exact(gs[i]'#[ev,O.len,a],O.el i _ _ (Qb a) (Qb #[ev,O.len,a]))
theorem OG.keep(O:ÃE)(h:∀b u,H b=U u->(b=ol\/b∈ga)->H' b=U u):OG H' rl dl ol ga gs :=
 (h _ _ O.at' Ď,O.len,λi r G a c=>h _ _ (O.el i r G a c) (.inr (Qp a)),O.ne,O.nel)
theorem OG.same(O:ÃE)(s:Àa):OG H' rl dl ol ga gs:=O.keep λb u hb _=>s b u hb
theorem OG.but{p:aa}(O:ÃE)(B:But p H H')(h1:ol≠p)(h2:∀r∈ga,r≠p):OG H' rl dl ol ga gs:=O.keep λb u hb a=>B b u hb (Çi (λz=>by rw[(z)];exact h1) (h2 b))
theorem OG.fresh{p:aa}(O:ÃE)(hp:H p=af):ol≠p/\∀r∈ga,r≠p:=(Ze O.at' hp,λr hr z=>by obtain G|a:=O.get hr;rw[z,hp]at a;cases a)
theorem OG.push1(O:ÃE)(o:HO):OG (upd H rl o) rl dl ol ga gs:=O.keep λb u hb a=>by rw[Zf (Çi (λz=>by rw[(z)];exact O.ne.1) λm=>(O.nel b m).1)];exact hb
theorem OG.push2(O:ÃE)(o:HO):OG (upd H dl o) rl dl ol ga gs:=O.keep λb u hb a=>by rw[Zf (Çi (λz=>by rw[(z)];exact O.ne.2) λm=>(O.nel b m).2.1)];exact hb
theorem OG.dict{d:aa}{kvs:ś}(O:ÃE)(hd:H d=U Áa):ol≠d/\∀r∈ga,r≠d:=(λz=>(by have:=O.at';rw[z,hd]at this;cases this),λr hr z=>by obtain G|a:=O.get hr;rw[z,hd]at a;cases a)
theorem OG.more(O:ÃE){r:aa}{G:Ę}(hr:H r=U Ëj)(h:r≠rl/\r≠dl/\r≠ol):OG (upd H ol (.lst (ga.map õ++[õ r]))) rl dl ol (ga++[r]) (gs++[G]):=by
 refine(by rw[Zb,Qf];rfl,by rw[Qd,Qd,O.len];rfl,λi b d a c=>?_,O.ne,λb m=>?_)
 ·rw[Zf]
  ·rcases Ùt i ga.length with hi|hi|hi
   ·rw[QT hi]at a;rw[QT #[ev,O.len,hi]]at c;exact O.el i b d a c
   ·rw[sM,hi,a];rw[O.len,QY î,Ób]at c;cases a;cases c;exact hr
   ·have:=(Į a).1;rw[Qd]at this;exact Ç this (by simp;lia)
  ·rcases ß (Qp a) with m|m
   ·exact(O.nel b m).2.2
   ·rw[Ý m];exact h.2.2
 ·rcases ß m with m|m
  ·exact O.nel b m
  ·rw[Ý m];exact h
universe E
theorem Zma{a s:ah}{ks:Ê}{o:Od}(h:U9 a s ks o):Uq o:=by rcases h with⟨_,rfl⟩|⟨_,rfl⟩|⟨_,rfl⟩<;>trivial
theorem GR(os:Ę)(o:Od):dds (os++[o])=dds os+Ê7:=by unfold dds;rw[Qf,Qao];rfl
theorem Zsx(o:Od):Ê7<=1:=by cases o<;>first|exact Qj 1|exact Qt 1
theorem ABd.due{R:ñ}{c:Int}{i:Nat}(B:Æb)(hi:i<=36):Ân<=30/\∀e∈R,Ŝ<=180/\e.n<c:=(Qk ÄP Ì,λe he=>(by have:=(B.len e he).1;lia,(B.n e he).2))
theorem ZwM(H:Hp)(p:aa):∃c:Hp,#[ga,u,c,H]/\c p=af/\#[eN,u,p,c]:=by
 refine(λb=>if b=p then af else H b,λb u a=>?_,È rfl,λb u a z=>?_)
 ·have a:(if b=p then af else H b)=U u:=a;by_cases z:b=p
  ·rw[y3,z,a];cases a
  ·rwa [Æ z]at a
 ·show (if b=p then af else H b)=U u;rw[Æ z];exact a
theorem WR.len{os:Ę}{a:ÄW}(h:WR os a):Àp=ĳ:=by
 induction h with
 | nil=>rfl
 | Ë _ _ b=>rw[Qq,Qq,b]
theorem Y6.stay{H H':Hp}{p:aa}{q:Int}(L:Y6 H p q)(h:∀u,H p=U u->H' p=U u):Y6 H' p q:=by obtain a|b|c|d:=L;exact(a,b,h _ c,d)
theorem Zq7(xs:Ą)(x:V):Yo (xs++[x]) (U (-1)) af=[x]:=by
 have e:Ŷ (xs++[x]).length 0 (U (-1))=Ú:=by rw[Qd];show (if (-1:Int)<0 then ((-1:Int)+#[fO,Ú]).toNat else min (-1:Int).toNat (Ú+1))=Ú;rw[È Ì];lia
 unfold Yo;rw[e,Ó0,Qd,ÓI,show Ú+[x].length-Ú=1 by simp];rfl
theorem GQ{c:Ñ}(P:Prop){e:ÏD->Prop}{T:ÏE}{H:Hp}(h1:c=true->∀a:Ñ->Hp->Prop,(∀b H',(b=true->P)->ZB H H'->a b H')->e a)(q:∀b H',(b=true->P)->ZB H H'->T b H'):if c=true then e T else T false H:=by
 cases c with
 | true=>rw[È rfl];exact h1 rfl T q
 | false=>rw[Æ Qw];exact q false H #[y9,z] Ãy
theorem AL.updO{g H:Hp}{d rd rl dl ol:aa}{R:ñ}{c:Int}{i ds:Ê}{xs:Ą}{o:HO}(I:AL g H d rd rl dl R c i ds)(h:H ol=U ÁV)(j:ol≠rl)(k:ol≠dl)(f:g ol=af)(l:∀e∈R,e.k≠ol):AL g (upd H ol o) d rd rl dl R c i ds:=by
 refine(λb u a=>by rw[Zf (Ze a f)];exact Æc b u a,Î5 λb u a m=>?_,by rw[Zf j.symm];exact ÀI,by rw[Zf ÅP];exact ÀJ,I.ne,I.f0,I.f1,I.f2,I.f3,I.kr);rw[Zf (λz=>by
  rcases m with y|y|⟨xs,rfl⟩|⟨e,n,rfl⟩
  ·rw[eL,Ëe,y,h]
  ·rw[eL,Ëf,y,h]
  ·rw[sq,h,a]
  ·exact l e n z)]
 exact a
structure Sh (Hx H:Hp) (d rd rl dl ol:aa) (j:Nat):Prop where
 ex:X7 λ(os:À Od) (as:À ah) (R:À AR) (c:Int) (i:Nat) (ga:À aa) (gs:À (À Od))=>Wx os as R c/\AL Hx H d rd rl dl R c ÎU as/\ABd R c i/\i<=j/\Àp<=j/\dds os<=i/\Ê6/\WR os gs/\OG H rl dl ol ga gs/\gs.flatten.length<=60/\(0<j->os≠[])/\∀e∈R,e.k≠ol
def Zrg(K:Å):Sp:=λvs H Q _=>X2 λ(a:aa) (d:À Int)=>C4 #[ff,a] (SqL K H a (Àf í)) (ņ<=63) (∀ (t rl dl ol:aa) (ga:À aa) (b:À (À Od)) (os:À Od) (e:À ah) (R:À AR) (c:Int) (H':Hp),H' t=U (.tup [.ref rl,.ref dl,.ref ol])->H' rl=U ÎV->H' dl=U #[ei,e.map]->OG H' rl dl ol ga b->Wx os e R c->WR os b->Ê6->os≠[]->Àp<=25->dds os<=25->ÛD<=60->Q Ág H')
abbrev ShI(a b sl:aa)(c:Hp)(d rd rl dl ol:aa)(j:Nat)(e:Àh)(H:Hp):Prop:=(X7 λf g h i k l m:Ã V=>e=[U Ĩ,f,U ÀR,U (.ref sl),U ÂV,U (.ref rl),U (.ref dl),U (.ref ol),g,h,i,k,l,m])/\Sh c H d rd rl dl ol j
abbrev ShM(a p e sl:aa)(f:Hp)(d rd rl dl ol:aa)(j:Nat)(R:ñ)(c:Int)(os:Ę)(g:Ê)(ga:Ş)(b:ÄW)(h:Àh)(H':Hp):Prop:=(X4 λi k l m:Ã V=>h=[U Ĩ,U ş,U Š,U (.ref sl),U ÂV,U (.ref rl),U (.ref dl),U (.ref ol),U (.int (1+(j:Int))),U (.int (ÛD:Nat)),i,k,l,m])/\Y6 H' p 0/\AL f H' d rd rl dl R c ÎU g/\OG H' rl dl ol ga b
theorem Zoi(T:Õ)(iC:ÛE)(aQ:ÄF)(i8:#[ef,3,"_law_names",Äy,G2])(i9:ÛF)(i':Df P w K mg Â 1 "_law_begun" [] Hv)(gy:#[e6,1,"_law_is_short","_law_rows",G5])(j2:#[ef,6,"_law_deed",Íw,G1])(ja:#[ef,2,"_law_words",ÅH,HR])(gz:#[ef,2,"_law_deed_due",Íu,Hs])(jb:Df P w K mg Â 3 "_law_taken" Ív G7)(iA:#[ef,3,"_law_pieces",ÅG,GZ]):Df P w K mg Â 8 "_law_sheets" ÅI (Zrg K):=by
 rw[d2,T.t_l_sheets.df,Z4,vs,J];rw[fY,a,L,hS,vL];refine(_,#[Zc,#[sy,1,ÃF,iC,J,Æe],#[Zc,(@Zuh _ _ 2 3 _ _ _ _ _ _ _ _ _ _ _ rfl ÃF rfl rfl Ì rfl rfl #[Zd,#[se,i8,J],#[se,i9,J]] rfl Í),#[Zc,#[YD,#[Yq,#[Zd,(@ZtN _ _ _ _ _ _ _ _ i' J Êt Í Ì),Âk,Âk,Âk]],#[gT,K,4,#[Zo,#[rx,4,ÃF],#[d6,5,ÃF,6,7]]]],#[Zc,#[XR,Γ,(@LW _ _ _ _ _ _ _ rfl ÅM #[Zd,Ü,#[Zn,(Rj rfl),Í,Ód,boot_max,#[Zd,Ü,#[Zn,(LJ rfl),Í,Îg,Îh,#[Zd,ÅK,Ü]]]]] Í Í),#[rx,8,ÃF],#[Zc,#[Zu,1,ÃF,â,#[eH,iC,J,0,8]],(@UQ _ _ _ _ _ #[Zu,9,ÃF,â,#[Zn,(Yu K),Í,Áe,Qy,#[Zd,#[Zn,(J7 K),Í,Îa,Îb,#[Zd,‹7›,Âk]]]]] #[Zg,#[ZK,(@œ _ _ _ #[Yb,#[rp,Xl,ÛG],#[Yb,#[XT,#[Zy,gy,J,#[Zd,‹5›],Í]],#[XS,#[ec,Xl,9,Ü]]]]),#[Zc,#[YD,#[Zy,j2,J,#[fa,1,2,3],Í],#[d5,10,ÃF,11,12]],#[Zc,#[ZL,#[ZZ,K,QC,QD,QE,Z0,‹5›,#[Zd,#[Zy,ja,J,#[Zd,‹10›,#[ZW,#[Zd,‹11›]],‹12›],Í]]]],#[Zc,#[ZL,#[ZZ,K,QC,QD,QE,Z0,‹6›,#[Zd,#[Zy,gz,J,#[Zd,‹4›,‹10›,‹11›,‹12›],Í]]]],#[Zg,#[ZL,#[ZZ,K,QC,QD,QE,Z0,‹7›,#[Zd,#[W9,(slL K),‹5›,#[Xy,ÊA],(@Ws _)]]]]]]]],#[Zg,#[ZK,#[ec,Xl,9,Ü],#[Zc,#[Zu,13,ÃF,â,ÛG],#[Zc,#[ZL,#[ZZ,K,QC,QD,QE,Z0,‹5›,#[Zd,#[ZM,Uf,á,#[WW,(T7 K J),Å5,Å6,#[Zd,‹13›]]]]]],#[Zc,#[ZL,#[ZZ,K,QC,QD,QE,Z0,‹6›,#[Zd,#[eH,jb,J,4,13]]]],#[Zg,#[ZL,#[ZZ,K,QC,QD,QE,Z0,‹7›,#[Zd,#[eH,iA,J,1,13]]]]]]]],ë]]]])]],#[Zg,#[Zl,#[Yq,#[fa,5,6,7]]]]]]]],_,rfl,a,L,_,rfl,hS,vL,by decide,by decide,λp0 H1 wm L0 s1=>?_);refine(_,rfl,p0,0,rfl,L0,by decide,λnl ns c2 H2 A3 rR eR n1 n20 L2 g1 g2 B2=>?_);refine(_,rfl,p0,c2,rfl,L2,by lia,λsl ss c3 H3 A4 fo m1 m4 zo L3 g3 g4 B3=>?_);refine(_,_,rfl,?_);have uv:nl≠p0:=λz=>by obtain u|hu:=L0.here;rw[r9,A3,hu]
 have A5:=B3 _ _ rR uv;have s3:ZB H H3:=λb o C=>B3 b o (B2 b o (s1 b o C) (Ze C wm)) (Ze C wm);have wW:sl≠p0:=λz=>by obtain u|hu:=L2.here;rw[r9,A4,hu]
 obtain Hx|Dt|hx1|rH:=ZwM H3 p0;have hnlx:=rH _ _ A5 uv;have hslx:=rH _ _ fo wW;have sx:ZB H Hx:=λb o C=>rH _ _ (s3 _ _ C) (Ze C wm);have fx:∀ {b:aa},H3 b=af->Hx b=af:=λ{b} C=>by
  cases z:Hx b with
  | none=>rfl
  | some u=>rw[Dt _ _ z]at C;cases C
 have hc3:c3<2 ^ 38:=by lia
 clear B2 B3 L0 L2 g1 g2 g3 g4 rR A3 A4 uv wW;refine(rfl,λd rd Hb zf A6 D0 sb=>(ÀV,λn rJ=>(ÀV,λdl o7=>(ÀV,λv Z=>(#[ep,4,aq],λt Y=>(t,_,rfl,ā Zb,rfl,_,_,rfl,_,_,rfl,_,_,rfl,_,_,rfl,rfl,?_))))));rw[g2,s4,rJ,qG,Hb,n];generalize upd Hb n (.lst [])=H4 at s4 qG o7 Z Y ⊢;rw[g2,s5,o7,mi,H4,dl];generalize upd H4 dl (.lst [])=H5 at s5 mi Z Y ⊢;have I5:AL Hx H5 d rd n dl [] 0 [] []:=(λb u C=>s5 _ _ (s4 _ _ (sb _ _ (Dt _ _ C))),(D0.same s4).same s5,s5 _ _ qG,mi,Ze qG o7,fx zf,fx A6,fx (sb.free rJ),fx (sb.free (s4.free o7)),λe he=>by cases he);have s6:=Zi Z Ź;have wZ:#[gb,H5,v] v=U (.lst (([]:À aa).map õ)):=Zb;have A7:Hx v=af:=fx (sb.free (s4.free (s5.free Z)));have w6:v≠n/\v≠dl:=((Ze (s5 _ _ qG) Z).symm,(Ze mi Z).symm);generalize upd H5 v (.lst [])=H6 at s6 wZ Y ⊢;have s7:=Zi Y Ó7;have I7:=(I5.on s6).on s7;have O7:OG (upd H6 t Ó7) n dl v [] []:=(s7 _ _ wZ,rfl,λi r G e=>(by cases e),w6,λr m=>by cases m);show Uk _ _ _ _ (upd H6 t Ó7);generalize upd H6 t (.tup [.ref d,.ref n,.ref dl,.ref v])=H7 at I7 O7 ⊢;clear s4 s5 s6 s7 qG mi wZ I5 rJ o7 Z Y zf A6 D0 sb Dt hx1 rH fx fo A5 s3 L3;refine(_,rfl,a,_,rfl,.inl ((sx.trans I7.same).seq hS),_,_,rfl,_,_,rfl,_,_,rfl,?_);have hN:ÛH<=26/\9<=ÛH:=by split<;>(try split)<;>lia
 generalize (if (if (26:Int)<(((ĥ í).length:Nat):Int) then 26 else (((ĥ í).length:Nat):Int))>9 then (if (26:Int)<(((ĥ í).length:Nat):Int) then 26 else (((ĥ í).length:Nat):Int)) else 9)=N at hN ⊢;refine(by lia,?_);clear hc3;refine Ui (ShI a nl sl Hx d rd n dl v) ((_,_,_,_,_,_,_,rfl),([],[],[],0,0,[],[],.nil,I7,(Qt _,λe h=>(by cases h),Qaj _,Qaj _,λe h=>(by cases h),λe h=>(by cases h),λe h=>(by cases h),.nil,.nil),Qj _,Qj _,Qj _,#[es,o,h],.nil,O7,Qt _,(λh=>Ç h Ì),λe h=>by cases h)) ?_ ?_
 ·clear I7 O7;rintro j σ iV hj ⟨⟨v1,v8,v9,ux,uy,uz,uA,rfl⟩,⟨os,W,R,c,i,X,D,bK,I,B,hi,aY,kq,hw,m5,O,gn,cA,tE⟩⟩;have hj25:j<25:=by lia
  refine(_,rfl,_,rfl,a,L,_,rfl,(sx.trans Æc).seq hS,vL,by lia,by lia,λp rA hp wV rq=>?_);have np:=I.np hp;have op:=O.fresh hp;have tL:=I.on rq;have w8:=O.same rq;clear I O hp rq;have ey:(D.map λG=>(Âo ġ).map Ä).flatten=(D.flatten.map ġ).map Ä:=by rw[Qbu,Qbu,Qo];rfl
  refine(ShM a p nl sl Hx d rd n dl v j R c os W X D,?_,?_)
  ·rw[cW];refine(v,z,X,D.map λG=>(Âo ġ).map Ä,rfl,É (sz _ _ w8.at'),Zb,by rw[Qa];exact w8.len,λk r ys e1 e2=>?_,by rw[(ey),Qa,Qa];exact ÂS,λl H' hl s' _=>(l,_,rfl,.inl (É hl),(_,_,_,_,by rw[(ey),Qa,Qa];rfl),(wV.same sz).same s',(tL.on sz).on s',(w8.same sz).same s'));rw[Qr]at e2;cases hg:D[k]? with
   | none=>rw[hg]at e2;cases e2
   | some G=>rw[hg]at e2;cases e2;exact sz _ _ (w8.el k r G e1 hg)
  clear tL w8 wV ey;rintro σ qk ⟨⟨ux,uy,uz,uA,rfl⟩,uu,yq,Du⟩;have hlr:(ÎU).length<=25:=by rw[Qa];lia
  have B9:W.length<=25:=by rw[bK.len];lia
  have Z:X.length<=25:=by rw[Du.len,<- m5.len];lia
  refine(_,rfl,p,0,5,rfl,uu,by decide,by decide,by decide,λr H13 r0 r1 L13 Dv=>(_,_,rfl,rfl,_,rfl,?_));have Dw:=yq.draw np uu Dv;have O13:=Du.but Dv op.1 op.2;clear yq Du uu Dv;have pY:∀z∈ÂW ġ,Ś<=1000:=λz hz=>by obtain o|ho|rfl:=Ľ hz;exact Qk (Mu (hw o ho)) Ì
  refine GQ (Ël<60) (λ_ T' hT=>(_,rfl,n,ÂW ġ,rfl,Dw.hr,by lia,pY,λb H14 kC=>(_,rfl,GQ (Ël<60) (λ_ T2 hT2=>(_,rfl,_,_,rfl,rfl,_,rfl,hT2 _ _ (λz=>by have:=Ī z;lia) (ÂC _))) (λb2 zu hb2 s15=>hT b2 zu hb2 (kC.trans s15))))) (λb H14 C kC=>?_);have qH:=Dw.on kC;have xa:=O13.same kC;have r8:=L13.same kC;clear Dw O13 L13 kC pY;have c0:=r8.ge;refine Y1 (λCh=>?_) Å3
  ·have qr:=C Ch;refine(_,rfl,_,rfl,_,rfl,p,nl,sl,_,ns,ss,rfl,r8,by lia,qH.same _ _ hnlx,n1,n20,eR,qH.same _ _ hslx,m1,m4,zo,λt kl wd s ks o c' zu Y l9 ht15 xb ho hs hk hdr zw g1 g2 r9=>?_);rw[mZ];have nkr:kl≠n:=λz=>by have:=qH.hr;rw[<- z,l9]at this;cases this
   clear qH xa r8 r9 Y l9;rw[er,t,ht15];have wo:OdW o:=Zor ho hs hk;refine(_,rfl,.inl #[ew,qI.hr],_,rfl,_,rfl,#[ep,1,aq],λb C=>(_,rfl,?_));have xh:=Zi C (.lst [.str s]);refine(b,kl,wd,[s],ks,rfl,Zb,xh _ _ xb,#[ep,1,10],Qk hk.1 Ì,?_,(λx F=>by rw[Ý F];exact(Qk hs.2.2 Ì,hs.1)),(λx F=>(Qk (hk.2 x F).1 Ì,(hk.2 x F).2)),λuB zA=>?_)
   ·rcases ho with⟨rfl,_⟩|⟨rfl,_⟩|⟨rfl,_⟩<;>ac_rfl
   rw[ZlH ho hdr];have se:=(qI.on xh).on zA;have xi:=(xg.same xh).same zA;have A8:=zA _ _ (xh _ _ xb);clear qI xg zw xb xh zA C;refine#[sS,n,se.hr];have M:=se.pushR Ū;have S:=xi.push1 ÛI;have xj:(upd uB n ÛI) kl=U Ái:=by rw[Zf nkr];exact A8
   generalize upd uB n (.lst ((ÂW ġ).map Ä++[Ä Ū]))=H18 at M S xj ⊢;clear se xi A8;refine(_,rfl,.inl #[ew,M.hd],_,rfl,_,rfl,_,rfl,_,rfl,d,rd,kl,R,c,wd,s,ks,o,rfl,M.D,xj,ho,hk,(B.due Á).1,(B.due Á).2,λa2 R2 c2 Dx g tt=>?_);have uC:OG Dx n dl v X D:=S.keep λb u C bP=>tt.k b u C #[gy,S.dict,M.D.at'] #[gy,S.dict,M.D.rows];have xk:=M.to tt;have qJ:∀e∈R2,e.k≠v:=λe he=>by
    rcases tt.kf e he with⟨x,F,z⟩|z
    ·rw[<- z];exact tE x F
    ·exact(Ze S.at' z).symm
   refine#[sS,dl,xk.hd];have xl:=xk.pushD a2;have zB:=uC.push2 (.lst (W.map Ä++[Ä a2]));generalize upd Dx dl (.lst (W.map Ä++[Ä a2]))=H20 at xl zB ⊢;clear xk uC M S tt xj;refine(_,rfl,.inl #[ew,zB.at'],_,rfl,_,rfl,_,rfl,n,_,rfl,É xl.hr,λx F=>?_);have kj:Yo ((ÂW ġ++[Ū]).map Ä) (U (-1)) af=(([o]:À Od).map ġ).map Ä:=by rw[Qf];exact Zq7 _ _
   rw[(kj)];have s21:=Zi F ÛJ;rw[eS,A9,H20,x,ÛJ];have I21:=xl.on s21;have zC:=zB.same s21;have nx:x≠n/\x≠dl/\x≠v:=((Ze xl.hr F).symm,(Ze xl.hd F).symm,(Ze zB.at' F).symm);generalize upd H20 x (.lst ((([o]:À Od).map ġ).map Ä))=H21 at A9 I21 zC ⊢;refine(v,_,_,rfl,rfl,zC.at',Ç1,ÛK,(os++[o],W++[a2],R2,c2,i+1,X++[x],D++[[o]],bK.deed g,?_,B.step wo g,by lia,by rw[Qd];show Àp+1<=_;lia,by rw[GR];have:=Zsx o;lia,λy hy=>(ß hy).elim (hw y) λm=>by rw[Ý m];exact wo,m5.snoc (.inl (Zma ho,rfl)),zC.more A9 nx,?_,λ_=>by simp,qJ))
   ·rw[Qf];exact I21.updO zC.at' w6.1 w6.2 A7 qJ
   ·rw[Qat,Qd];show Ël+1<=60;lia
  refine Èc;rw[fz,xm]
  ·have Dy:=Ī xm;refine(_,rfl,p,_,9,rfl,r8,by lia,by decide,by decide,λm zu m0 m9 zw r9=>?_);rw[mZ];rw[fP,m,k,m,m.toNat];clear qH xa r8 r9;have gi:=S8 (i:=(m:Int)) Á;have e5:#[fl,"take ",5]:=by ac_rfl
   refine(_,rfl,.inl #[ew,qI.hr],_,rfl,.int (m:Int),_,rfl,.int _,gi.1,gi.2.1,gi.2.2.1,_,_,rfl,rfl,?_,n,_,_,rfl,rfl,qI.hr,Ç1,?_)
   ·have:=gi.2.2.2;rw[e5];exact Ĭ (by show _+(WZ (m:Int)).length<=_;lia)
   rw[G0 m Á];have sf:=qI.pushR (À0 m).txt;have xn:=xg.push1 (.lst ÛL);have Dz:=zw.push (o:=.lst ÛL) np.rl;generalize upd zu n (.lst ((ÂW ġ).map Ä++[Ä (À0 m).txt]))=H16 at sf xn Dz ⊢;clear qI xg zw;refine(_,rfl,.inl #[ew,sf.hd],_,rfl,_,rfl,d,rd,R,c,i,m,rfl,sf.D,B,by lia,by lia,λws R3 uB g Cz D3 k3 im=>?_);have ask:WS R (.take m) (blT ws) R3:=.take g Cz;have se:=sf.ask ask D3 k3;have xi:OG uB n dl v X D:=xn.keep λb u C bP=>k3 b u C #[gy,xn.dict,sf.D.rows];have L17:=Dz.stay (H':=uB) λu hu=>k3 _ _ hu np.rd;have qJ:∀e∈R3,e.k≠v:=λe he=>by obtain x|F|z:=g.ks e he;rw[<- z];exact tE x F
   refine#[sS,dl,se.hd];have M:=se.pushD (blT ws);have S:=xi.push2 (.lst ÛM);have DA:=L17.push (o:=.lst ÛM) np.dl;generalize upd uB dl (.lst (W.map Ä++[Ä (blT ws)]))=H18 at M S DA ⊢;clear se xi L17 sf xn Dz k3 D3;refine(_,rfl,.inl #[ew,S.at'],_,rfl,_,rfl,p,_,m,rfl,DA,by lia,by lia,λx G c' Dx F hx19 hp L19 g1 g2 B19=>?_);have xk:=M.draw np DA B19;have uC:=S.but B19 op.1 op.2;have nx:x≠n/\x≠dl/\x≠v:=((Ze M.hr F).symm,(Ze M.hd F).symm,(Ze S.at' F).symm);refine(v,_,_,rfl,rfl,uC.at',Ç1,ÛK,(os++[.take m],W++[blT ws],R3,c,i,X++[x],D++[G],bK.ask ask,?_,WS.bd B ask,by lia,by rw[Qd];show Àp+1<=_;lia,by rw[GR];exact kq,λy hy=>(ß hy).elim (hw y) λz=>by rw[Ý z];show m<10;lia,m5.snoc (.inr (m,rfl,hp)),uC.more hx19 nx,?_,λ_=>by simp,qJ))
   ·rw[Qf];exact xk.updO uC.at' w6.1 w6.2 A7 qJ
   ·rw[Qat,Qd];show Ël+([G]:À (À Od)).flatten.length<=60;have:=hp.len;rw[show ([G]:À (À Od)).flatten=G by simp];lia
  ·have Dy:¬ #[g8,Ël]<54:=λz=>xm ÅS;refine((_,_,_,_,_,_,_,rfl),(os,W,R,c,i,X,D,bK,qH,B,by lia,by lia,kq,hw,m5,xa,gn,λ_=>?_,tE));by_cases Dq:0<j
   ·exact cA Dq
   ·have h1:Àp=0:=by lia
    have h2:D=[]:=Äx #[ev,m5.len,h1];rw[h2]at Dy;exact Ç Ì Dy
 ·rintro σ H8 ⟨⟨v1,v8,v9,ux,uy,uz,uA,rfl⟩,⟨os,W,R,c,i,X,D,bK,I,B,hi,aY,kq,hw,m5,O,gn,cA,tE⟩⟩;refine(_,rfl,_,rfl,_,rfl,ÁI,λt Y=>?_);have s9:=Zi Y (.tup [.ref n,.ref dl,.ref v]);exact q t n dl v X D os W R c _ Zb (s9 _ _ ÀI) (s9 _ _ ÀJ) (O.same s9) bK m5 hw (cA Á) Á Á gn
def Rw(K:Å):Sp:=λvs H Q _=>X2 λ(a:aa) (ns:À Int)=>C4 #[ff,a] Òo #[su,63] (∀H',Q Æv H')
abbrev LwI(a rl dl ol b c:aa)(d:ÀZ)(n:Nat)(e:Hp)(i:Nat)(f:Àh)(g:Hp):Prop:=(X3 λh j k:Ã V=>f=[U Ĩ,U (.ref rl),U (.ref dl),U (.ref ol),U ÀR,U ÅB,U (.int ((Äo i).flatten.length:Nat)),h,j,k])/\i<=n/\ZB e g
theorem Zuj{f:aa}{fd:bx}(F:Fun K "law" "law" Vp f fd)(T:Õ)(TD:Å4):YU P w K mg Â CX0 20 f fd ÅI (Rw K):=by
 have jw:Ø7:=Zuv T;have iC:ÛE:=Zsr T;have B:ÄF:=Zs0 T jw;have i9:ÛF:=Zp7 T B;have l4:Ùm:=ZuT T B;have fF:ÒU:=Zsb T B l4;have mh:Ûv:=ZsH T fF;have jV:Df P w K mg Â 5 "_law_same" Çs (JF 4):=Jx T 4;have cS:Òy:=ZiB T;have gI:ÒE:=Zrt T cS;have ee:ÒI:=Zqg T;have l5:Ùu:=Zqx T gI ee;have gq:ÙE:=ZiE T cS ee;have cG:ÒV:=ZpO T l5;have bE:Í3:=ZoO T cG;have fE:ÒM:=Zpd T gI;have eW:ÒZ:=ZnY T;rw[y1,bD,ZsT,J,Zr1,bD];have eo:=ZmT T fE;have cr:=ZsL T J gq;have cT:=Je T J eW cr 8;have aV:=Zlx T cT;have gw:=Ziw T bE eo aV;have cj:=ZoX T J;have gv:=ZpV T bD;have fS:=Zo1 T J;rw[eb,dX,Zj7];rw[eb,fR,ZqI];have jY:Ù2:=Zuz T eW;have gr:=ZlU T jY;have dI:=ZqW T cr;have eK:=Zr0 T J gr dI;have gt:=ZsD T cj eK;have eX:=Zm2 T bE eo aV;rw[eb,ck,Zok];have eN:=ZkT T bD ck aV;have fu:=Zk8 T fE;have gu:=ZrT T ck bE J fu aV;rw[eb,dW,Zqk];rw[eb,uM,ZpW];have bX:=ZmV T cG dW;rw[y1,bW,ZmP,eM,ZrI,bX];have sg:=Zj4 T bD bW;have fQ:=Zq9 T bX bW;have eO:=ZtO T gt;rw[y1,fG,Zq1,gX,Zoe,fG];have ix:=Zpv T fG;rw[y1,fN,Zsm,fO,Zpr,fN];have fD:=Zoy T TD gX ix fO;rw[eb,eQ,Zu3];rw[eb,fP,Zs4];rw[y1,cU,ZtS,eY,ZoM,fP];rw[y1,br,Zn6,ja,Zn2,cU];have gK:=Zrc T eX eM;have fT:=Zo0 T gu fQ;have fU:=Zpb T eN;have dY:=Zrw T br;have dN:=Zkr T dX fR dY;have bY:=ZoS T eY;have bN:=Zms T bY;have fe:=Zmw T eO bN br;have iy:=Zm0 T TD fD eQ;have gY:=ZoL T iy;have gZ:=Zp5 T gw;have dO:=ZjQ T cj bN br;have ff:=Zl5 T gv;have fg:=ZmF T fS bY br;have xp:=ZuW T TD gY gZ gK fT fU fe dN dO ff fg;rw[eb,i',Zp2];rw[y1,gx,Zru,gz,ZmO,gx];rw[eb,eZ,Zmc];have iz:=ZqV T eZ cU;have jb:=Zmg T eZ iz;rw[y1,gy,ZoT,i8,Zn0,B];have j2:=Zrf T B fF mh;have iA:=Zon T B;rw[y1,gc,Zof,jA,Zsi,gc];have qK:=Zoi T iC B i8 i9 i' gy j2 ja gz jb iA;refine F.ok WB #[iz,vs] (λaO A Û s H vs Q E p h=>?_)
 ·obtain a|ns|rfl|_:=h;rfl
 rw[fY,a,sc,hS,vL];refine(_,#[Zc,#[YD,#[fy,qK,p,Áf],#[d5,1,Æf,2,3]],#[Zc,#[ZK,(@VB _ _ _ _ #[XT,#[Zy,jV,p,#[Zd,#[Zy,xp,p,#[Zd,#[hi,Àl]],Í],‹2›],Í]]),ÁH,ë],#[Zc,#[Zu,4,Æf,â,#[Zn,(J7 K),Í,Îa,Îb,#[Zd,‹3›,Âk]]],#[Zc,#[Zu,5,Æf,â,#[Zy,xp,p,#[Zd,#[ZZ,K,QO,Qad,Qae,(Vt K),á,Î2]],Í]],#[Zc,#[ZK,#[Zk,WQ,#[fd,5],#[fd,4],ú],ÁH,ë],#[Zc,#[Zu,6,Æf,â,Ü],#[Zc,#[XR,Γ,#[rV,3,2],#[gT,K,2,#[d4,7,Æf,8]],#[Zc,#[Zu,9,Æf,â,#[W9,(slL K),‹5›,#[Xy,‹6›],#[Xy,ÛN]]],#[Zc,#[Zu,6,Æf,â,ÛN],#[Zc,#[ZK,(@œ _ _ _ #[Yb,ÛO,#[XS,#[Zk,WQ,#[eH,gc,p,7,9],‹8›,ú]]]),ÁH,ë],#[Zc,#[ZK,(@œ _ _ _ #[Yb,(@VB _ _ _ _ ÛO),#[XS,#[Zk,(@neD _ K _ p Í),‹9›,#[ZW,#[Zd,‹8›]],ú]]]),ÁH,ë],#[Zg,#[ZK,(@VB _ _ _ _ #[XT,#[eH,jA,p,7,9]]),ÁH,ë]]]]]]],ÁH]]]]]]],_,rfl,a,sc,rfl,hS,vL,λt rl dl ol ga d os as R c H1 mX Ba xq O1 bK m5 hw cA hos kq gn=>?_);rw[er,t,mX];have B9:as.length=Àp:=bK.len;have e1:#[fl,"\n",1]:=by ac_rfl
 have iP:∀l:À Od,(∀o∈l,OdW o)->((ÂN ġ).map ÀT).sum<=612*Ů:=λl=>by
  induction l with
  | nil=>intro _;exact Qj _
  | Ë o r ih=>intro h;have h1:=Mu (h o Ó);have h2:=#[gt,ih,o',gf];rw[Ql,Ql,QR,Qq];lia
 have fs:∀ (Hx:Hp) (l:À ah),F2 (IsD Hx 3) (ÂN Ä) (ÂN Ä):=λHx l=>by
  induction l with
  | nil=>exact F2.nil
  | Ë s r ih=>exact .cons (Zqr (.inr (.inr (.inr (s,rfl))))) ih
 rw[sA,X,hdd2,Y,m5.flat,hw];have fM:=iP os hw;have hZ:=iP d.flatten X;clear iP;refine(rfl,_,rfl,_,rl,ÂW ġ,rfl,rfl,É Ba,#[sg,e1,Qa],os,rfl,cA,hw,by lia,by lia,λbs S l H2 xr hl cb k2=>?_);obtain e|_:=bK.link xr;subst e;have O2:OG H2 rl dl ol ga d:=O1.same k2;refine(_,rfl,.ref l,.ref dl,rfl,ZrU cb (k2 _ _ xq) #[fe,Qa] (fs H2 as),λH3 s3=>(_,rfl,Y9 ?_));have Z:=O2.same s3;have Bb:=s3 _ _ (k2 _ _ xq);clear O1 O2 Ba xq mX hl cb k2 s3 fs;have ey:(Àf λG=>(Âo ġ).map Ä).flatten=(d.flatten.map ġ).map Ä:=by rw[Qbu,Qbu,Qo];rfl
 rw[cW];refine(ol,z,ga,Àf λG=>(Âo ġ).map Ä,rfl,É (sz _ _ Z.at'),Zb,by rw[Qa];exact Z.len,λk r ys e1 D=>?_,by rw[(ey),Qa,Qa];exact ÂS,λwl H5 im s5 _=>?_)
 ·rw[Qr]at D;cases hg:d[k]? with
  | none=>rw[hg]at D;cases D
  | some G=>rw[hg]at D;cases D;exact sz _ _ (Z.el k r G e1 hg)
 rw[ey]at im;have O5:=(Z.same sz).same s5;have mi:=s5 _ _ (sz _ _ Bb);clear Z Bb sz s5 hz ey;refine(rfl,_,rfl,_,wl,d.flatten.map ġ,rfl,rfl,É im,#[sg,e1,Qa],d.flatten,rfl,Y cA,X,by lia,by lia,λcs S2 fl H6 xt hfl0 Bc k6=>?_);have O6:=O5.same k6;have Be:=k6 _ _ mi;have hwl6:=k6 _ _ im;have mR:cs.length=d.flatten.length:=xt.len;obtain u|rfl|al:=Zpc m5 hw #[es,x,m] xr.run xt.run;rw[el,al1,al2,al.len];clear O5 mi im k6 bK xr xt fM hZ;refine(_,rfl,fl,_,rfl,.inl (É Bc),_,rfl,wl,_,rfl,.inl (É hwl6),rfl,_,rfl,?_);refine WF (by rw[Qa,Qa,Qa,mR]) ?_;refine(_,rfl,_,rfl,.l ol,.l dl,_,_,rfl,É O6.at',É Be,?_);refine ZsB (K:=K) (xs:=ga.map õ) (ys:=as.map Ä) (LwI a rl dl ol wl fl u ņ H6) ((_,_,_,rfl),Qt _,ÂC _) (λ_ _ _ h=>(É (h.2.2 _ _ O6.at'),É (h.2.2 _ _ Be))) ?_ ?_
 ·rintro i x y σ L r hx hy ⟨⟨v7,v8,v9,rfl⟩,hi,s7⟩ p;rw[Qr]at hx hy;cases zD:ga[i]? with
  | none=>rw[zD]at hx;cases hx
  | some b =>
  rw[hL,zD,hx];have DB:i<ņ:=by rw[<- O6.len];exact(Į zD).1
  obtain⟨G,hG⟩:∃G,d[i]? = U G:=(_,Qb DB);obtain o|C|g|ho|hC|fX|gok:=al.at' hG;rw[hL,fX,hy];rw[el,lC,l0,gok.len];obtain ec1|ec2:=Zmr hC;have s8:ZB H6 Ó8:=s7.trans (Zi p _);have uh:Ó8 r=U (.tup [õ b,Ä g]):=Zb;show Uj K 2 _ _ _ Ó8 _;generalize upd L r (.tup [õ b,Ä g])=H8 at s8 uh ⊢;clear s7 p;rw[e3,r,uh];have hGr:=O6.el i b G zD hG;have DC:=s8 _ _ hGr;refine(_,rfl,_,rfl,_,rfl,_,rfl,_,rfl,b,_,rfl,.inl (É DC),_,_,rfl,rfl,_,rfl,fl,_,rfl,É (s8 _ _ Bc),λI htd=>?_);have kj:Yo ((u.flatten).map Ä) (U Ó9) (U (Ó9+ÛP))=Å0 Ä:=by rw[ec1,Qf,Qf,Qa,Qa,<- lC];have:=Zr6 ((u.take i).flatten.map Ä) (Å0 Ä) ((u.drop (i+1)).flatten.map Ä);rw[yG]
  rw[(kj)];have s9:=Zi htd Ëk;rw[eS,qL,H8,I,Ëk];have DD:=s8.trans s9;have v:=s9 _ _ DC;show Uk _ _ _ _ (upd H8 I Ëk);generalize upd H8 I (.lst (Å0 Ä))=H9 at s9 qL DD v ⊢;clear s9 s8 uh DC htd kj;refine(_,rfl,_,rfl,b,_,rfl,.inl (É v),_,_,rfl,rfl,?_);have eat:Ó9+ÛP=(((u.take (i+1)).flatten.length:Nat):Int):=by rw[ec2,Qd,Qa,Qa,lC];rfl
  show U6 6 (.int (_+_)) _ _ _;rw[eat];obtain M|g0|rfl:=Qaw (show G ≠ [] from λz=>by rw[(z)]at l0;exact Ç l0 Ì)
  refine ÛQ;rcases gok with⟨hd,e,rfl,DE⟩|⟨m,W,rfl,N,gM,rfl,hWm⟩
  ·injection e with D e3;subst D;subst e3;obtain c1|r1|h1|_|h3:=GU hd;rw[GS h1 h3];refine Y9 (Y9 ?_);refine ÛQ;rw[GS h1 h3];refine YH (_,rfl,_,rfl,#[ep,1,aq],λz hz=>?_);have sz:=Zi hz (.lst [Ä g]);have hOk:OKs g:=by
    have:∀x∈(["done", "refused"]:À ah),x.cps.toList.all (λc=>decide (c<128))=true:=by ac_rfl
    have h2:=this g (DE.elim (λz=>by rw[(z)];simp) λz=>by rw[(z)];simp);exact λc m=>Ī (Qag.mp h2 c m)
   refine(.list ÛR,.list ÛR,.lst #[rR,sz,qL] (UE _),.lst ÇJ (UE [g]),RB _ (λx m=>by rw[Ý m];exact hOk),RB _ (λx m=>by rw[Ý m];exact hOk),_,rfl,?_);rw[È rfl,Zox];refine Y9 ?_;refine(_,rfl,_,rfl,b,I,[M],[g],rfl,sz _ _ v,sz _ _ qL,.inl (M,rfl,hd),λiV O=>(_,rfl,Y9 ((_,_,_,rfl),DB,(DD.trans sz).trans O)))
  ·have qB:m<10:=hw _ (Qp ho);rw[g6,n,r0,er,N.hd];injection er with er1 er2;subst er1;have hn8:n<=8:=N.ask _ (QU ..);rw[Ml n Á];refine YH (_,rfl,_,rfl,b,I,_,C,W,rfl,v,qL,gM,N.ask,N.len,by lia,λiV O=>(_,rfl,rfl,_,rfl,?_));refine WF rfl ?_;refine(_,rfl,b,_,_,Ä (À0 n).txt,rfl,rfl,É (O _ _ v),Ye (j:=0) rfl,rfl,_,_,rfl,rfl,_,rfl,?_);rw[Ml n Á];refine Y9 (Y9 ?_);exact(_,rfl,_,rfl,b,I,_,C,rfl,O _ _ v,O _ _ qL,.inr (W,gM,N.ask,N.len,by lia),λrA rq=>(_,rfl,Y9 ((_,_,_,rfl),DB,(DD.trans O).trans rq)))
 ·rintro σ L ⟨⟨v7,v8,v9,rfl⟩,hi,s7⟩;exact q L
universe E
def FF(K:Å)(x q:ah)(st:aL)(f:aa):Prop:=X9 λ(b c:Ã aa) (sl:ĉ (Ã ae)) (d kV e g a ct:ae)=>ı f=U (d,b,.func #[gw,q,c,a],sl)/\Ée K a q=true/\À6 K ą=true
theorem ZD{K:Å}{h:aI}{mg:Ă}{x:ah}{st:aL}{ps:Ê}{f:aa}(X:Ŵ h)(G:h.Ns aM mg)(a:ī K aM x=U δ)(g:FF K x x st f)(hb:#[ej,e,d,i,x]):Top K mg x st ps:=by obtain od|d|sl|oc|kV|dc|b|cd|ct|l|c|k:=g;exact(_,_,WG (st:=st) l c k,QI X G a,#[qt].binds hb)
theorem XV{K:Å}{C:aa}{x q:ah}{st:aL}{ps:Ê}{f:aa}(a:Ĳ K æ x=U δ)(i:Ï2)(g:FF K x q st f)(hb:#[ej,e,d,h,q]):Yn K C x q st ps:=by obtain od|d|sl|oc|kV|dc|b|cd|ct|l|c|k:=g;exact(_,_,WG (st:=st) l c k,(a,i,k),#[qt].binds hb)
theorem Mj{K:Å}{h:aI}{mg:Ă}{C:aa}{x q:ah}{st:aL}{ps:Ê}{f:aa}(X:Ŵ h)(G:h.Ns aM mg)(m:#[hD,C])(e:À6 K æ=true)(j:ī K aM x=U (U æ))(a:#[h4,C,f])(i:Ï2)(g:FF K "__init__" q st f)(hb:∀ (kV n b:ae) (d:Ã aa) (o ct:ae) (us:À ae),Φ=Àu->bindArgs (Åm "__init__" q (Wr st) ÂB (Zh st) .none kV n b d o ct) Éb=pure ÆJ):UT K mg C x q st ps:=by obtain od|d|sl|oc|kV|dc|b|cd|ct|l|c|k:=g;exact(_,_,WG (st:=st) l c k,(m,a,i,e),#[qt].binds hb,QI X G j)
theorem Mi{n:Nat}{us:ê}(h:Φ=n+1):X2 λa r=>us=a::r/\Áv=n:=by obtain a|r|rfl:=List.exists_cons_of_length_eq_add_one h;exact(a,r,rfl,Nat.succ.inj h)
theorem YJ(us:ê)(h:Φ=1):∃a0,us=[a0]:=QaM.mp h
theorem YE(us:ê)(h:Φ=2):X2 λa0 a1=>us=[a0,a1]:=by obtain a|r|rfl|g:=Mi h;obtain b|rfl:=YJ r g;exact(a,b,rfl)
theorem XY(us:ê)(h:Φ=3):X3 λa0 a1 b=>us=[a0,a1,b]:=by obtain a|r|rfl|g:=Mi h;obtain c|d|rfl:=YE r g;exact(a,c,d,rfl)
theorem GP(us:ê)(h:Φ=4):X4 λa0 a1 b c=>us=[a0,a1,b,c]:=by obtain a|r|rfl|g:=Mi h;obtain d|e|f|rfl:=XY r g;exact(a,d,e,f,rfl)
theorem all_mk{l:ÐO}{w:aF}{K:Å}{h:aI}{mg:Ă}{fa:aa}(X:Ŵ h)(G:h.Ns aM mg)(hfa:mg "law" = U (.ref fa))
  {au ak ax ap aH ay ao ar:aa}
  {zE DF:ah} {DG:aa} {zF:ê} {zG:Ê} {xu:ê} {zH:Ñ} {xv:Ïc} {zI:ď} {zJ zK zL zM zN:ÃT}
  {xw zO:ah} {zP:aa} {xx:ê} {xy:Ê} {uD:ê} {xz:Ñ} {uE:Ïc} {xA:ď} {xB xC xD xE xF:ÃT}
  {m6 pG:ah} {pH:aa} {m7:ê} {m8:Ê} {mj:ê} {nc:Ñ} {ml:Ïc} {ng:ď} {nh ni nq nr nu:ÃT}
  {si uF:ah} {uG:aa} {sj:ê} {sk:Ê} {qN:ê} {sq:Ñ} {qO:Ïc} {sr:ď} {su sv sy sC sE:ÃT}
  {f0 f1 f2 f3 f4 f5 f6 f7 f8 f9 f10 f11 f12 f13 f14 f15 f16 f17 f18 f19 f20 f21 f22 f23 f24 DI DJ DK DL DM DN DO DP f33 f34 f35 f36 f37 f38 f39 f40 f41 f42 f43 f44 f45 f46 f47 f48 f49 f50 f51 f52 f53 f54 f55 f56 f57 DQ DR DT DU DW DX DY DZ D8 D9 Ea Eb Ec Ed Ee Ef Eg Eh Ei Ej Ek El:aa}
  {zQ kE qP pI pJ nv sG sI:Tok}
  {bL:aa} {oP:Åw} {uH:Nat}
  {dL:aa} {mn:ď} {mq:Nat} {mv:Ŭ} {jB jC:Tok}
  {bc:aa} {qQ:Åw} {xG:Nat}
  {bf:aa} {qR:Åw} {xH:Nat}
  {dM:aa} {mx:ď} {my:Nat} {mz:Ŭ} {jD:Tok} {fb:aa} {pK:ď} {pL:Nat} {pM:Ŭ} {kF:Tok}
  {dh:aa} {kG:ď} {kH:Nat} {kI:Ŭ} {jc:Tok} {eD:aa} {nw:ď} {nA:Nat} {nB:Ŭ} {j4:Tok}
  {dj:aa} {kJ:ď} {kK:Nat} {kL:Ŭ} {jd:Tok} {eE:aa} {nC:ď} {nD:Nat} {nE:Ŭ}
  {cC:aa} {jE:ď} {jF:Nat} {jG:Ŭ} {dk:aa} {kM:ď} {kN:Nat} {kO:Ŭ}
  {dr:aa} {kP:ď} {kQ:Nat} {kT:Ŭ} {je:Tok} {eG:aa} {nF:ď} {nG:Nat} {nH:Ŭ}
  {du:aa} {kU:ď} {kW:Nat} {kX:Ŭ} {eI:aa} {nJ:ď} {nK:Nat} {nL:Ŭ}
  {cE:aa} {jH:ď} {jI:Nat} {jJ:Ŭ} {dw:aa} {kY:ď} {kZ:Nat} {k7:Ŭ}
  {dA:aa} {la:ď} {lb:Nat} {lc:Ŭ} {eJ:aa} {nN:ď} {nO:Nat} {nP:Ŭ}
  (Em:#[eE,"Row",au]) (En:#[rC,au]) (Eo:#[e8,au]) (Ep:#[rs,au]) (Er:#[g3,au]) (Es:#[hD,au]) (Et:#[Xki,K,au])
  (lf:#[et,au,"all_keys"])
  (qS:#[et,au,"fars"])
  (qT:#[et,au,"gone"])
  (xI:#[eE,"Merge",ak]) (xJ:#[rC,ak]) (xK:#[e8,ak]) (xL:#[rs,ak]) (xM:#[g3,ak]) (xN:#[hD,ak]) (xO:#[Xki,K,ak])
  (nQ:#[et,ak,"best"])
  (j5:#[et,ak,"likened"])
  (lg:#[et,ak,"looked"])
  (iB:#[et,ak,"next_number"])
  (nR:#[et,ak,"rows"])
  (mB:#[et,ak,"stays"])
  (zR:#[eE,"Desk",ax]) (zS:#[rC,ax]) (zT:#[e8,ax]) (zU:#[rs,ax]) (zV:#[g3,ax]) (zW:#[hD,ax]) (zX:#[Xki,K,ax])
  (nU:#[et,ax,"merge"])
  (lh:#[et,ax,"numbers"])
  (nV:#[eE,"MergeError",ap])
  (tF:#[eE,"Full",aH])
  (qU:#[eE,"NoRow",ay])
  (iQ:#[eE,"OutOfOrder",ao])
  (mC:#[eE,"BadLine",ar])
  (mD:È4 K ÄD "__getattribute__" = U Øw)
  (mE:Øx K ap É7=true)
  (mF:Øy K ÄD É7 "__init__" = U (.val Äw))
  (tG:ı aH=U (Ài zE DF aH DG zF Çx true zG xu zH xv zI zJ zK zL zM zN "ValueError.__new__"))
  (zY:#[Xki,K,aH])
  (zZ:#[fk,Ň,Äw])
  (Aa:#[fI,Ň])
  (Ab:#[gz,Ň])
  (Ac:#[ez,Ň,ÀA])
  (Ad:#[e8,aH])
  (Ae:#[f1,Ň])
  (Af:#[gu,aH])
  (Ah:#[ez,Ň,Âc])
  (pN:#[ez,Ň,Ň])
  (jf:#[gG,Ň,ap])
  (nW:#[eK,Ň,ň])
  (jg:#[eK,Ň,ĵ])
  (lj:#[eK,Ň,ŀ])
  (xP:ı ay=U (Ài xw zO ay zP xx Çx true xy uD xz uE xA xB xC xD xE xF "ValueError.__new__"))
  (xQ:#[Xki,K,ay])
  (xR:#[fk,ň,Äw])
  (xS:#[fI,ň])
  (xT:#[gz,ň])
  (xU:#[ez,ň,ÀA])
  (xV:#[e8,ay])
  (xW:#[f1,ň])
  (xX:#[gu,ay])
  (xY:#[ez,ň,Âc])
  (mG:#[ez,ň,ň])
  (iI:#[gG,ň,ap])
  (nX:#[eK,ň,Ň])
  (iJ:#[eK,ň,ĵ])
  (j6:#[eK,ň,ŀ])
  (iR:ı ao=U (Ài m6 pG ao pH m7 Çx true m8 mj nc ml ng nh ni nq nr nu "ValueError.__new__"))
  (nY:#[Xki,K,ao])
  (nZ:#[ge,ĵ])
  (jK:Ĳ K ĵ "row" = U af)
  (iK:Ĳ K ĵ "place" = U af)
  (n5:#[fI,ĵ])
  (n6:#[gz,ĵ])
  (n8:#[ez,ĵ,ÀA])
  (n9:#[e8,ao])
  (oa:#[f1,ĵ])
  (og:#[gu,ao])
  (oh:#[ez,ĵ,Âc])
  (gA:#[ez,ĵ,ĵ])
  (gC:#[gG,ĵ,ap])
  (jh:#[eK,ĵ,Ň])
  (iM:#[eK,ĵ,ň])
  (ig:#[eK,ĵ,ŀ])
  (sJ:ı ar=U (Ài si uF ar uG sj Çx true sk qN sq qO sr su sv sy sC sE "ValueError.__new__"))
  (sK:#[Xki,K,ar])
  (sL:#[ge,ŀ])
  (lm:Ĳ K ŀ "line" = U af)
  (sM:#[fI,ŀ])
  (sN:#[gz,ŀ])
  (sO:#[ez,ŀ,ÀA])
  (sP:#[e8,ar])
  (sQ:#[f1,ŀ])
  (sR:#[gu,ar])
  (sS:#[ez,ŀ,Âc])
  (ji:#[ez,ŀ,ŀ])
  (ii:#[gG,ŀ,ap])
  (ln:#[eK,ŀ,Ň])
  (j7:#[eK,ŀ,ň])
  (ij:#[eK,ŀ,ĵ])
  (e6:#[f9,ap])
  (e7:#[rk,ÄD])
  (pO:#[f9,aH])
  (pP:#[rk,Ň])
  (mH:#[f9,ay])
  (mI:#[rk,ň])
  (gD:#[f9,ao])
  (gE:#[rk,ĵ])
  (jj:#[f9,ar])
  (jk:#[rk,ŀ])
  (hkg:ÔY)
  (hkt:ÔZ)
  (a0:#[eE,"halves",f0]) (g0:FF K "halves" "halves" Ps f0)
  (a1:#[eE,"way_up",f1]) (g1:FF K "way_up" "way_up" Pr f1)
  (a2:#[eE,"is_key",f2]) (g2:FF K "is_key" "is_key" Pq f2)
  (a3:#[eE,"alike",f3]) (g3:FF K "alike" "alike" Pp f3)
  (a4:#[eE,"liken",f4]) (g4:FF K "liken" "liken" Po f4)
  (a5:#[eE,"liken_from",f5]) (g5:FF K "liken_from" "liken_from" Pn f5)
  (a6:#[eE,"alike_from",f6]) (g6:FF K "alike_from" "alike_from" Pm f6)
  (a7:#[eE,"order_at",f7]) (g7:FF K "order_at" "order_at" Pk f7)
  (a8:#[eE,"first_break",f8]) (g8:FF K "first_break" "first_break" Pj f8)
  (a9:#[eE,"alikes",f9]) (g9:FF K "alikes" "alikes" Pg f9)
  (dR:#[eE,"refuse_break",f10]) (g10:FF K "refuse_break" "refuse_break" Pf f10)
  (jm:#[eE,"matches_up",f11]) (g11:FF K "matches_up" "matches_up" Pe f11)
  (oQ:#[eE,"read_word",f12]) (g12:FF K "read_word" "read_word" Pd f12)
  (qW:#[eE,"read_name",f13]) (g13:FF K "read_name" "read_name" Pc f13)
  (uO:#[eE,"read_key",f14]) (g14:FF K "read_key" "read_key" Pb f14)
  (Bg:#[eE,"read_number",f15]) (g15:FF K "read_number" "read_number" Pa f15)
  (a16:#[eE,"are_figures",f16]) (g16:FF K "are_figures" "are_figures" O9 f16)
  (a17:#[eE,"written_key",f17]) (g17:FF K "written_key" "written_key" O8 f17)
  (a18:#[eE,"written_thing",f18]) (g18:FF K "written_thing" "written_thing" O4 f18)
  (a19:#[eE,"with_blanks",f19]) (g19:FF K "with_blanks" "with_blanks" O0 f19)
  (a20:#[eE,"written_numbers",f20]) (g20:FF K "written_numbers" "written_numbers" Su f20)
  (a21:#[eE,"run",f21]) (g21:FF K "run" "run" OZ f21)
  (a22:#[eE,"orders_in",f22]) (g22:FF K "orders_in" "orders_in" OY f22)
  (a23:#[eE,"order_in",f23]) (g23:FF K "order_in" "order_in" TW f23)
  (a24:#[eE,"may_be_further",f24]) (g24:FF K "may_be_further" "may_be_further" OX f24)
  (a25:#[eE,"do_row",DI]) (g25:FF K "do_row" "do_row" OW DI)
  (a26:#[eE,"do_grow",DJ]) (g26:FF K "do_grow" "do_grow" OV DJ)
  (a27:#[eE,"do_drop",DK]) (g27:FF K "do_drop" "do_drop" OU DK)
  (a28:#[eE,"ask_coming",DL]) (g28:FF K "ask_coming" "ask_coming" OT DL)
  (a29:#[eE,"ask_take",DM]) (g29:FF K "ask_take" "ask_take" OR DM)
  (a30:#[eE,"ask_left",DN]) (g30:FF K "ask_left" "ask_left" OQ DN)
  (a31:#[eE,"ask_counts",DO]) (g31:FF K "ask_counts" "ask_counts" OP DO)
  (a32:#[eE,"ask_rows",DP]) (g32:FF K "ask_rows" "ask_rows" OO DP)
  (a33:#[eE,"written_things",f33]) (g33:FF K "written_things" "written_things" Ss f33)
  (a34:#[eE,"written_heads",f34]) (g34:FF K "written_heads" "written_heads" TV f34)
  (a35:#[eE,"_law_mix",f35]) (g35:FF K "_law_mix" "_law_mix" ON f35)
  (a36:#[eE,"_law_left",f36]) (g36:FF K "_law_left" "_law_left" OM f36)
  (a37:#[eE,"_law_pick",f37]) (g37:FF K "_law_pick" "_law_pick" OL f37)
  (a38:#[eE,"_law_stems",f38]) (g38:FF K "_law_stems" "_law_stems" Sr f38)
  (a39:#[eE,"_law_key",f39]) (g39:FF K "_law_key" "_law_key" Sq f39)
  (a40:#[eE,"_law_keys",f40]) (g40:FF K "_law_keys" "_law_keys" OK f40)
  (a41:#[eE,"_law_row",f41]) (g41:FF K "_law_row" "_law_row" OJ f41)
  (a42:#[eE,"_law_same",f42]) (g42:FF K "_law_same" "_law_same" So f42)
  (a43:#[eE,"_law_begun",f43]) (g43:FF K "_law_begun" "_law_begun" OI f43)
  (a44:#[eE,"_law_in_order",f44]) (g44:FF K "_law_in_order" "_law_in_order" Sn f44)
  (a45:#[eE,"_law_deed_due",f45]) (g45:FF K "_law_deed_due" "_law_deed_due" OH f45)
  (a46:#[eE,"_law_heads",f46]) (g46:FF K "_law_heads" "_law_heads" OF f46)
  (a47:#[eE,"_law_key_text",f47]) (g47:FF K "_law_key_text" "_law_key_text" OE f47)
  (a48:#[eE,"_law_coming",f48]) (g48:FF K "_law_coming" "_law_coming" OD f48)
  (a49:#[eE,"_law_taken",f49]) (g49:FF K "_law_taken" "_law_taken" OC f49)
  (a50:#[eE,"_law_names",f50]) (g50:FF K "_law_names" "_law_names" Sl f50)
  (a51:#[eE,"_law_words",f51]) (g51:FF K "_law_words" "_law_words" TU f51)
  (a52:#[eE,"_law_deed",f52]) (g52:FF K "_law_deed" "_law_deed" OB f52)
  (a53:#[eE,"_law_pieces",f53]) (g53:FF K "_law_pieces" "_law_pieces" OA f53)
  (a54:#[eE,"_law_sheets",f54]) (g54:FF K "_law_sheets" "_law_sheets" Oz f54)
  (a55:#[eE,"_law_is_short",f55]) (g55:FF K "_law_is_short" "_law_is_short" Sk f55)
  (a56:#[eE,"_law_joined",f56]) (g56:FF K "_law_joined" "_law_joined" Sj f56)
  (a57:#[eE,"_law_coming_right",f57]) (g57:FF K "_law_coming_right" "_law_coming_right" Oy f57)
  (a58:#[eE,"law",f58]) (l58:#[Xlk,K,f58,oc58,od58,"law","law",Vp,kV58,dc58,pm58,an58,Bf,ct58,sl58]) (c58:#[Xci,K,Bf,"law"]) (k58:#[Xki,K,f58])
  (a59:#[h4,ao,Eu]) (i59:#[Xif,K,Eu]) (l59:#[Xlk,K,Eu,oc59,od59,"__init__","OutOfOrder.__init__",Z7,kV59,dc59,pm59,an59,cd59,ct59,sl59]) (c59:#[Xci,K,cd59,"OutOfOrder.__init__"]) (k59:#[Xki,K,Eu])
  (a60:#[h4,ar,Ev]) (i60:#[Xif,K,Ev]) (l60:#[Xlk,K,Ev,oc60,od60,"__init__","BadLine.__init__",TR,kV60,dc60,pm60,an60,cd60,ct60,sl60]) (c60:#[Xci,K,cd60,"BadLine.__init__"]) (k60:#[Xki,K,Ev])
  (a61:#[h4,au,DQ]) (i61:#[Xif,K,DQ]) (g61:FF K "__init__" "Row.__init__" Ox DQ)
  (a62:#[Xfi,K,au,"to_go",DR]) (i62:#[Xif,K,DR]) (g62:FF K "to_go" "Row.to_go" Ow DR)
  (a63:#[Xfi,K,au,"head",DT]) (i63:#[Xif,K,DT]) (g63:FF K "head" "Row.head" Ov DT)
  (a64:#[Xfi,K,au,"lengthen",DU]) (i64:#[Xif,K,DU]) (g64:FF K "lengthen" "Row.lengthen" Ou DU)
  (a65:#[h4,ak,DW]) (i65:#[Xif,K,DW]) (g65:FF K "__init__" "Merge.__init__" Ot DW)
  (a66:#[hd,"coming",DX]) (i66:#[Xif,K,DX]) (g66:FF K "coming" "Merge.coming" Oq DX)
  (a67:#[hd,"take",DY]) (i67:#[Xif,K,DY]) (g67:FF K "take" "Merge.take" Op DY)
  (a68:#[hd,"take_few",DZ]) (i68:#[Xif,K,DZ]) (g68:FF K "take_few" "Merge.take_few" Oo DZ)
  (a69:#[hd,"left",D8]) (i69:#[Xif,K,D8]) (g69:FF K "left" "Merge.left" Si D8)
  (a70:#[hd,"heads",D9]) (i70:#[Xif,K,D9]) (g70:FF K "heads" "Merge.heads" Sg D9)
  (a71:#[hd,"likenings",Ea]) (i71:#[Xif,K,Ea]) (g71:FF K "likenings" "Merge.likenings" Om Ea)
  (a72:#[hd,"looks",Eb]) (i72:#[Xif,K,Eb]) (g72:FF K "looks" "Merge.looks" Ol Eb)
  (a73:#[hd,"add_row",Ec]) (i73:#[Xif,K,Ec]) (g73:FF K "add_row" "Merge.add_row" Oj Ec)
  (a74:#[hd,"drop_row",Ed]) (i74:#[Xif,K,Ed]) (g74:FF K "drop_row" "Merge.drop_row" Oi Ed)
  (a75:#[hd,"grow",Ee]) (i75:#[Xif,K,Ee]) (g75:FF K "grow" "Merge.grow" Oh Ee)
  (a76:#[hd,"row_of",Ef]) (i76:#[Xif,K,Ef]) (g76:FF K "row_of" "Merge.row_of" Og Ef)
  (a77:#[hd,"play_all",Eg]) (i77:#[Xif,K,Eg]) (g77:FF K "play_all" "Merge.play_all" Of Eg)
  (a78:#[hd,"play",Eh]) (i78:#[Xif,K,Eh]) (g78:FF K "play" "Merge.play" Oe Eh)
  (a79:#[hd,"send_out",Ei]) (i79:#[Xif,K,Ei]) (g79:FF K "send_out" "Merge.send_out" Oc Ei)
  (a80:#[hd,"play_again",Ej]) (i80:#[Xif,K,Ej]) (g80:FF K "play_again" "Merge.play_again" Ob Ej)
  (a81:#[hd,"meet",Ek]) (i81:#[Xif,K,Ek]) (g81:FF K "meet" "Merge.meet" Oa Ek)
  (a82:#[h4,ax,El]) (i82:#[Xif,K,El]) (g82:FF K "__init__" "Desk.__init__" N9 El)
  (Ai:#[sV,"DONE","done",zQ])
  (lq:#[gU,"MOST_FIGURES",9,kE])
  (qV:#[gU,"MOST_KEY",40,qP])
  (pQ:#[gU,"MOST_NAME",8,pI])
  (pR:#[gU,"MOST_ROWS",16,pJ])
  (oj:#[gU,"MOST_SIZES",12,nv])
  (sU:#[sV,"NOTHING","-",sG])
  (sV:#[sV,"REFUSED","refused",sI])
  (uI:#[eE,"BOUNDS",bL])
  (uJ:ı bL=U #[hp,oP,uH])
  (uK:Íb Êa oP.toList)
  (uL:(bL == bA)=false)
  (mJ:#[eg,bL,"many",dL])
  (mK:ı dL=U (.type "tuple",mn,.seq #[.int 0 jB,.int 1000000 jC] mq,mv))
  (xZ:#[eE,"DEEDS",bc])
  (x5:ı bc=U #[hp,qQ,xG])
  (x6:Íb Êa qQ.toList)
  (x8:(bc == bA)=false)
  (pS:#[eg,bc,"row",DI])
  (oo:#[eg,bc,"grow",DJ])
  (oq:#[eg,bc,"drop",DK])
  (lu:#[eg,bc,"coming",DL])
  (ou:#[eg,bc,"take",DM])
  (ox:#[eg,bc,"left",DN])
  (lv:#[eg,bc,"counts",DO])
  (oy:#[eg,bc,"rows",DP])
  (x9:#[eE,"FORMS",bf])
  (ya:ı bf=U #[hp,qR,xH])
  (yb:Íb Êa qR.toList)
  (yc:(bf == bA)=false)
  (pT:#[eg,bf,"row",fb])
  (pU:ı fb=U (.type "tuple",pK,.seq #[.ref dM,.str "key" kF] pL,pM))
  (mL:#[h5,dM,mx,jD,my,mz])
  (oz:#[eg,bf,"grow",eD])
  (oA:ı eD=U (.type "tuple",nw,.seq #[.ref dh,.str "key" j4] nA,nB))
  (lA:#[h5,dh,kG,jc,kH,kI])
  (oB:#[eg,bf,"drop",eE])
  (oC:#[eF,eE,nC,dj,nD,nE])
  (lB:#[h5,dj,kJ,jd,kK,kL])
  (lD:#[eg,bf,"coming",dk])
  (lE:#[eF,dk,kM,cC,kN,kO])
  (jL:#[gW,cC,jE,jF,jG])
  (oE:#[eg,bf,"take",eG])
  (oF:#[eF,eG,nF,dr,nG,nH])
  (lF:ı dr=U (.type "tuple",kP,.seq #[.str "many" je] kQ,kT))
  (oG:#[eg,bf,"left",eI])
  (oH:#[eF,eI,nJ,du,nK,nL])
  (lG:#[gW,du,kU,kW,kX])
  (lH:#[eg,bf,"counts",dw])
  (lI:#[eF,dw,kY,cE,kZ,k7])
  (jM:#[gW,cE,jH,jI,jJ])
  (oI:#[eg,bf,"rows",eJ])
  (oJ:#[eF,eJ,nN,dA,nO,nP])
  (lJ:#[gW,dA,la,lb,lc])
  (z0:#[eo,"abs"]) (z1:#[eo,"all"]) (z2:#[eo,"bool"]) (z3:#[eo,"enumerate"]) (z4:#[eo,"int"]) (z5:#[eo,"isinstance"]) (z6:#[eo,"len"]) (z7:#[eo,"list"]) (z8:#[eo,"max"]) (z9:#[eo,"min"]) (z10:#[eo,"range"]) (z11:#[eo,"sorted"]) (z12:#[eo,"str"]) (z13:#[eo,"sum"]) (z14:#[eo,"tuple"]) (z15:#[eo,"zip"]) :
  ∃fd:bx,#[hn,v,fd,"_law_script"]/\∀Â:aI,Ŵ Â->ÈC aM mg->YU l.prog w K mg Â CX0 20 fa fd ÅI (Rw K):=by
 have e:=hfa.symm.trans (QI X G a58);cases e;have T:Õ:=((QP X G z0,QP X G z1,QP X G z2,QP X G z3,QP X G z4,QP X G z5,QP X G z6,QP X G z7,QP X G z8,QP X G z9,QP X G z10,QP X G z11,QP X G z12,QP X G z13,QP X G z14,QP X G z15),ZD X G a0 g0 Ħ,ZD X G a1 g1 ķ,ZD X G a2 g2 Ħ,ZD X G a3 g3 ķ,ZD X G a4 g4 ķ,ZD X G a5 g5 Ε,ZD X G a6 g6 Ε,ZD X G a7 g7 Ε,ZD X G a8 g8 Ħ,ZD X G a9 g9 Ħ,ZD X G dR g10 ķ,ZD X G jm g11 ķ,ZD X G oQ g12 ķ,ZD X G qW g13 Ħ,ZD X G uO g14 Ħ,ZD X G Bg g15 Ε,ZD X G a16 g16 Ħ,ZD X G a17 g17 Ħ,ZD X G a18 g18 ķ,ZD X G a19 g19 Ħ,ZD X G a20 g20 Ħ,ZD X G a21 g21 Ħ,ZD X G a22 g22 Ħ,ZD X G a23 g23 Ħ,ZD X G a24 g24 ķ,ZD X G a25 g25 Ε,ZD X G a26 g26 Ε,ZD X G a27 g27 Ε,ZD X G a28 g28 Ε,ZD X G a29 g29 Ε,ZD X G a30 g30 Ε,ZD X G a31 g31 Ε,ZD X G a32 g32 Ε,ZD X G a33 g33 ķ,ZD X G a34 g34 ķ,ZD X G a35 g35 ķ,ZD X G a36 g36 ķ,ZD X G a37 g37 ķ,ZD X G a38 g38 Ħ,ZD X G a39 g39 ķ,ZD X G a40 g40 Ε,ZD X G a41 g41 Ε,ZD X G a42 g42 ķ,ZD X G a43 g43 (λ_ _ _ _ _ _ us hl=>match us,hl with|[],_=>rfl),ZD X G a44 g44 Ħ,ZD X G a45 g45 (λ_ _ _ _ _ _ us hl=>by obtain _|_|_|_|rfl:=GP us hl;exact rfl),ZD X G a46 g46 Ħ,ZD X G a47 g47 Ħ,ZD X G a48 g48 Ħ,ZD X G a49 g49 ķ,ZD X G a50 g50 Ħ,ZD X G a51 g51 Ε,ZD X G a52 g52 Ε,ZD X G a53 g53 ķ,ZD X G a54 g54 Ħ,ZD X G a55 g55 Ħ,ZD X G a56 g56 ķ,ZD X G a57 g57 ķ,(_,_,WG (st:=Z7) l59 c59 k59,((_,_,_,_,_,_,_,_,_,_,_,_,_,_,iR),a59,i59,nY,nZ),(WG (st:=Z7) l59 c59 k59).binds (ps:=Çt) Ε,QI X G iQ),(_,_,WG (st:=TR) l60 c60 k60,((_,_,_,_,_,_,_,_,_,_,_,_,_,_,sJ),a60,i60,sK,sL),(WG (st:=TR) l60 c60 k60).binds (ps:=Êh) ķ,QI X G mC),Mj X G Es Et Em a61 i61 g61 ķ,XV a62 i62 g62 Ħ,XV a63 i63 g63 Ħ,XV a64 i64 g64 ķ,Mj X G xN xO xI a65 i65 g65 ķ,XV a66 i66 g66 Ħ,XV a67 i67 g67 Ħ,XV a68 i68 g68 ķ,XV a69 i69 g69 Ħ,XV a70 i70 g70 Ħ,XV a71 i71 g71 Ħ,XV a72 i72 g72 Ħ,XV a73 i73 g73 ķ,XV a74 i74 g74 ķ,XV a75 i75 g75 Ε,XV a76 i76 g76 ķ,XV a77 i77 g77 Ħ,XV a78 i78 g78 ķ,XV a79 i79 g79 ķ,XV a80 i80 g80 Ε,XV a81 i81 g81 (λ_ _ _ _ _ _ us hl=>by obtain _|_|_|_|rfl:=GP us hl;exact rfl),Mj X G zW zX zR a82 i82 g82 Ħ,(En,Eo,Ep,Er),lf,qS,qT,(xJ,xK,xL,xM),nQ,j5,lg,iB,nR,mB,(zS,zT,zU,zV),nU,lh,#[il,Ai],#[il,lq],#[il,qV],#[il,pQ],#[il,pR],#[il,oj],#[il,sU],#[il,sV],QI X G nV,QI X G tF,QI X G qU,QI X G iQ,QI X G mC,(_,_,_,_,_,_,_,_,_,_,_,_,_,_,_,_,tG),(_,_,_,_,_,_,_,_,_,_,_,_,_,_,_,_,iR),(mD,mE,mF),jK,iK,lm,((_,_,_,_,_,_,_,_,_,_,_,_,_,_,tG),zZ,zY,QI X G tF),((_,_,_,_,_,_,_,_,_,_,_,_,_,_,xP),xR,xQ,QI X G qU),(Aa,Ab,Ac,Ad,Ae,Af),Sy e6 e7 jf,Sz,WN mH mI nW pN,WN gD gE jg pN,WN jj jk lj pN,Sx Ah,(xS,xT,xU,xV,xW,xX),Sy e6 e7 iI,WN pO pP nX mG,Sz,WN gD gE iJ mG,WN jj jk j6 mG,Sx xY,(n5,n6,n8,n9,oa,og),Sy e6 e7 gC,WN pO pP jh gA,WN mH mI iM gA,Sz,WN jj jk ig gA,Sx oh,(sM,sN,sO,sP,sQ,sR),Sy e6 e7 ii,WN pO pP ln ji,WN mH mI j7 ji,WN gD gE ij ji,Sz,Sx sS,hkg,hkt)
 have TD:Å4:=(QI X G uI,((_,_,uJ,uK),uL),(_,mJ,XI mK Èu (.cons ü Æg)),QI X G xZ,((_,_,x5,x6),x8),λf h=>by have e:=#[fU,a25];cases e;exact pS,λf h=>by have e:=#[fU,a26];cases e;exact oo,λf h=>by have e:=#[fU,a27];cases e;exact oq,λf h=>by have e:=#[fU,a28];cases e;exact lu,λf h=>by have e:=#[fU,a29];cases e;exact ou,λf h=>by have e:=#[fU,a30];cases e;exact ox,λf h=>by have e:=#[fU,a31];cases e;exact lv,λf h=>by have e:=#[fU,a32];cases e;exact oy,QI X G x9,((_,_,ya,yb),yc),(_,_,pT,XI mL Ïd Æg,XI pU Èu (.cons rfl Æg)),(_,_,oz,XI lA Ïd Æg,XI oA Èu (.cons rfl Æg)),(_,_,oB,XI lB Ïd Æg,XI oC Èu Ôa),#[f6,lD,jL,lE],(_,_,oE,XI lF Ïd Æg,XI oF Èu Ôa),#[f6,oG,lG,oH],#[f6,lH,jM,lI],#[f6,oI,lJ,oJ]);exact(Åm "law" "law" (Wr Vp) (XO Vp) (Zh Vp) .none kV58 dc58 pm58 an58 Bf ct58,λs v=>.of_eq rfl,λbase _ _=>Zuj (WG (st:=Vp) l58 c58 k58) T TD)
theorem walk{l:ÐO}{q:aw}{e:Ê}{g:ÐG}{b:aF->aI->Prop}{d:DefRec}{K:Params->Å}(hn:l.most=U 63)(i:ÐH)
  (j:∀ (w:aF) (h:aI),b w h->(Ét).In h)
  (F:∀ (w:aF) (mg:ah->Ã ae) (fa:aa) (h:aI),(Ét).In h->h.Ns aM mg->mg Ér=U (.ref fa) ->
   ∃c:bx,#[hn,u,c,"_law_script"]/\∀Â:aI,(Ét).In Â->ÈC aM mg->YU l.prog w Ét mg Â CX0 20 fa c ÅI (Rw Ét)) :
  PySem.W.WalkO q e g b Ìb d [] ÐJ :=
 L2.walk_of (n:=63) (k:=20) (x := "_law_script") (CX:=λ_=>CX0) (sp:=λw=>Rw Ét) hn Ì i (rfl,by decide,by decide,rfl) j F (λ_ _ a m o _ p=>(a,m,rfl,p,o,λ_=>rfl)) λ_ _ _ _ _ z=>z
universe E.My
open PySem PySem.W PyProof.Rows
namespace PySem.W.Fast
def tw0:=Nat
example:=#[4692589726353147911,4363651837619989479,17130848372995943358,7929246728303508096,16751401696785168130,7058953499786313133,3126334748188430916,8455715362881771396,724111818968148719,15977085223030087887,9672650765330672230,3127351016578706385,16560487648500211665,9799691625266528723,17956744942359766517,580318169399920309,13377178002947788204,8625623888961559598,16271172564068566457,18437364101630104208,7600993012975169936,6679930614453369810,2276386903395985117,13202976633136583316,8815558689419042580,3991271228532266100,15718106017980803359,14932224312397841526,5923493286895796321,1203857764735303521,764609343643302945,6032590675100701240,18026603250398489656,10348604205978313656,9730842353855184323,8381514260699175546,1332748867037275674,3359521549909924954,12441319488769031089,12076552286770999081,12932058044406587467,16343266399728306593,10557673406664776774,4687734165214457684,9118484378767169415,4269467173480828179,9943993472269706588,18184305944892762971,15610995453032438943,1143289974783146426,13797397164383010261,755123872593116753,17354000277874876201,7790054064094006580,16447299725453168478,7404699317773835714,2313673271443791567,12076691371610841863,12482263373153447391,15355039028359713602,823898709852026248,17510157461414213129,11805819226104036478,11586827656892768366,13593257114103916935,3775402177523502111,451349019429417547,8935438293831718103,1123136703947953390,18086744217880661767,14807556759601721074,1999855263450664651,9485420054846564988,6576727578235805772,12950271479810790807,16446106255797702906,8858077879947836064,14951679808644055923,7281181059578136010,8874560893217895348,4474748812621729402,14175049024590168149,1613221822215743668,6725117232326550132,9061433258724868445,14734727649728523862,12016077084849181473,812274600852670767,3533261754591036892,172252560378232700,8228005215215968524,10029199390732042206,12404916565138844923,10266277524312089722,6896237508493669963,340467267108355943,4585066263385355402,13238030849396580887,14847674704153767748,8256308446893252372,3567987836959975862,7863767475467060816,13560048991405063483,4292655146325141593,2932206856254423177,14362098500603590401,14365737254792520633,326324978195491308,13281884795997800063,15602178870466696214,9980278459894847553,9369075722580569654,11840774010505136262,13302980442434844127,71884600004591211,1879059506156889370,944469282090829870,11836322732192737721,6483459118966516955,16190864654379309845,992317789315433977,9156019188194246839,2201597851417082747,1485668698190467884,6200591637421148425,11171210406029176298,3819904750176446817,15744010242890137621,3251177506662898556,1696862481478939603,15798827869609076471,2770461955591060903,17733708728299150919,5647239271301528879,10086004836246371763,11992031807750044179,476726459398968467,850668383841425489,4147660834233942253,12717426734051632198,1536556122452619764,18423336527972366610,8069123194689203506,14863860096903818068,15236426626486658466,3025741904588280025,12766519554816159186,12414788246614667358,15682271299918766025,352125228380039059,262580169552852704,14766030849927734667,11172644907726124242,2595905442683999904,1640203914843788893,17467358501116852966,576076249350648489,8677379872731939652,2190082394338837973,4217386436850547876,15134818047687493031,15340945854788839984,14470436405798731529,1642677465209665936,13481093546565108276,15648274999933812663,18325707881233831177,7153798996442633768,14015307636372727345,14303381352044282331,394801302444521571,9066927291793626925,11351354045209707391,2525737449727386527,16684300544131362839,9983056240499617671,5803224364359236836,9376043553625963401,14559119807798590573,4393812184759510594,15153464007408002019,1989445940246402906,2174614088583612977,13632527778615964617,6090288809959724666,5852709639001334768,2129552570036611162,9983261589891189232,2558246845769208973,4081385938082592629,10804592716581073038,8622725853933416738,18121631789152504056,6592332160304985840,2147136009424178254,3663662680528666944,16803392144653510374,5624544745255106486,15344207527991889002,15026300818754908885,7518927549828844894,17902446228314426775,2352131266450129666,1599717618541658850,6738798347147191851,8170067827634639559,1063709346150042537,925473535879428994,6874106131044143045,4041248056251570567,6434956085718482806,15312395962713123360,13042253863125022884,5180918033185298678,11623019185727473973,852066538095321990,3167803986720708534,8763086339959527645,17477430705595781744,849644638333768848,13771515051919603415,11124604199627915402,4276436509928464840,3337203575137740708,17010271757109704653,12277617555385485257,17314733542297428570,11676727584831696682,18229171187828759173,17197668916538612362,827518836696896400,3032809495189077221,16563892571915624937,4292932675952886990,3981394504323309725,16646430804255550038,12798364311041437515,12348904795257969325,7157591731230050338,864830818032845614,17768740079433922217,11077587260634699622,10043418880725531059,11434847153580024330,10063486282680491682,1744826525863848377,3724162482529601074,9328715507523409504,5514766073095241737,8401016143654651694,1340286534117808619,3389199239747056398,915476193816354931,12951811560850401442,14414719188460028772,4362535090021884392,5900596945569915213,16054243357090103383,14586547876935355092,17130340506422083952,7055809787993729784,14297553260706337693,1851021774945534429,11384717917907789237,3372452836728282354,8221523201371508780,8751360675899955323,12506641237013840662,8685299378612339733,1213910647695477783,17042739413144999488,13756628496872253696,634623529246120516,11987624744761892326,1004402763903331409,11866845467958885869,1672485561575854892,6990320064943225001,6762683837886836460,11363606704394344437,11784734499749664556,9419650316344911705,12167305332717947808,5810242114470606105,2082723948691738911,12121200011075828808,1025488169060678531,11994438551733462801,4673690042700945288,16772997793503484671,17203344528653096801,2795096047646386422,14532286309567866567,13402020667415552517,12028722644242094042,14632814781913128004,519970156643374206,4310341357545313599,7338013292060402497,4230550677383546253,293739394035414517,18109700476123256384,17575853485525475150,16376942805831575628,1954482157577390807,12871785147970412936,12648660154811811913,504207412993225104,9685797810434209308,31015880900705414,10628425270141567956,17350797076538335352,17555362136705052992,1714960903003445056,13109021345447754692,14564695274012242368,14419051577139263237,14969666284103296954,7944126686202273305,5443450298621387536,17060953070137514486,8517676579652660500,10676347813709399204,3919684366917882558,11896833483957848710,2745538080665670112,10308948496670431808,7535258546774517323,2567334078628652737,7447073364469319367,10413342706662912732,29257998478663890,3742347522026839285,10076436667833698301,12541217278714400873,5594400489363652203,15851230624738732941,2123178663156750411,4662615642064327168,15351372259776379238,2422759169285366392,2880770826761776785,3089199754504891766,10053292706918841879,312977813783798630,15620812640995408552,2596698031029144437,11161811067344558070,10340517883541163370,12038091495380725293,6019704619338541807,6881603462379655522,9740032502206320788,3580112298404361505,5983186828294280100,14308903912474520906,8332815664407658218,13271621149963488898,95946789544963906,4299462747524612230,9380908377032679095,2357803881000069001,11489327660724893272,9745685724891211863,16603866246226061081,1801236801536732593,11941693536209081135,14891543281593355797,949658827053283261,11447114922684648689,2416804050342428118,15007584705819903683,9582258277556233980,5264031577253963784,7711204691655316346,4026741644148201537,13660182577450792103,7442293046597260879,8083922345737613268,17985602800466977695,12358820931163447671,5751057576128415304,1751441755371714001,4673072750638030406,13174109825859293568,12726034152816550246,10630482584026252827,17057514948573721836,5238507181849008962,5123468702986812350,1306961597048982422,3435203742613947266,14311693119170232598,3064697964948679157,15616613442864263534,3808035603310518872,8943762780010285247,4395278232705522538,12002897690042111333,2994281835022868903,6295044476965479115,15110201766272192212,16647538629404649210,3253832311019805154,10480808727865737776,5295963979290383994,15146205174336125275,7906424092536079066,8620110543838065691,6243692021780163687,11080289531819318025,11940981196016090318,9216200254883072863,15358509703860495959,5652463566233163505,1461983926098097956,2646837381170558661,7770029862229378619,16675171236640626461,11418754240550909953,15926299535500824726,7660298593472350486,7546528104391377080,16487759190295501160,7955667084519184173,15685116400125242513,10497623963723560052,17623850378876270249,9686633811813201098,7469988520072361106,6933488198144400547,5820256306091588912,3567543643584777501,1237791833548075030,6206223127819494740,8735588642258942686,265950040680592310,17003815107683465350,645523383610644998,8986170890714318820,5651379456774091615,6461173983227781099,3214390194210731869,13724771800894562804,4828417449334940767,16195066678724365295,11065058824514670543,9697952704086201289,8529364392688662401,16844574061817071094,13133793639853279358,2812987433932128686,3376188481031010827,8414644136108123238,2720186494706436902,13086392347405606755,15270247018968528992,2145698368402790443,4517506789690636077,17272713746948178448,8678329896066874891,13741367933010832763,3018827228340011731,18131599782047313713,18373765588917449896,12698026736313657827,14752133929787618455,15544736628490634634,3325889054575927093,9143595203720079424,9433701615315014701,1964323903661992815,8982329708586840104,14952651074614358870,12801668867630386521,9996029556335684990,986289758456823567,13815448377039598927,506952399678758527,13164404700259840839,5765655209267292508,11518736302878075460,7993908190172739817,8842713218567127301,1787156748734103566,16592826098889082585,2352402500708309624,18350844792550139572,10546295814929554464,10140512697506580270,8524600128484896880,15880681258652714136,9683311862418894792,17412278188864994030,3341535513580225751,16144840770727623974,1724368586511664168,10038326185783761966,2550602965703497548,3746549133372444461,3570832190118283464,2323256936576126708,89671005494437098,14809666938342280028,10942982819670987252,13518346655445154697,6370011885235306020,13474379305057392498,14234202605216053387,6059088762285599368,7824132185272686126,4886108052617245167,10821816874293946968,17888856637072468676,6484619931493389667,7090256914473145391,7741057492534050011,14450656660869264204,16363004302122511377,16500497967882396808,16015888732435571563,15398911359218768463,5410481383784100516,7559057133817246125,1207600967538742820,8532836724719893621,8124237129145380478,9211858489294595963,11362448059941825766,16018291145924129154,2991595491006752753,6467973692222481012,4060827553030653133,10882840375437745797,5916875347482377815,14623225877251400799,15355101894594675698,6325251691660120197,9846312685262873821,2309480529348039629,12754334748039575822,13516484986990221175,11235328028912948586,4927374633449629407,18358302075119263219,16500018766549628113,4117374153056028579,15129193826945352623,15475322995933295512,15516183951526719652,12923161406333741207,5818053120412414661,736697872545923790,3428588075792386417,835991661548981739,5431772137985879860,8641579111089041035,12119584452908613102,12015704661074867706,12058050080520588789,14564176635270882266,7016505908316399172,13865568492292549792,4171763178900891208,7551468328586563412,10702138573810049711,6850618901859395428,3941173745207185519,15895185029765247851,17451241020067761905,13046352322310495857,9261205764257135425,16851409238812919482,8071619692869708577,10845553336320179147,15954806124524150533,16764428893218149528,5492698966934253343,1134100575375790293,17774989276669151691,3649789416941637876,2224701971529630971,3462722815039283033,7757509723381954490,18277219105213744939,337971089909087619,18415802739653820448,11065822128087277042,7931121611755422758,3711949410860999234,5777821319575391718,3103503137606973857,15360541761890720758,6699179001546915183,13669977025329460655,8012560099535751843,8802375833254087041,6545277351383552898,10339044397138665296,7707373626840462697,3360143086551971378,5843644457654895460,16518009109893111516,7336572075035960303,14189644383314838916,4284722302557669329,7612269111321723806,13329991454263471324,8614930442812966793,5542830583028695792,2765356133927395910,10803316170884884604,17752378944554195823,15232171549946902153,7009756369491973034,1687601215011144090,17721731030194191329,16495645480977683515,7384914462239497885,2926099420949877217,6096559867587394163,5551401540581760580,3746680227693576096,10014616962364199030,11505665500717653595,2060683591188834655,2188423281720276174,10585121544807824863,12474867131476128189,5946765656313387882,3135645630568962570,12121503248051050938,3295330591664155425,12000563693742804132,3483860359339270161,14323170008396266494,2148932432311722321,16812731813773499539,4498884336998535374,7648836585549607979,18132053474761185159,8660404756938701183,9438920735294540988,15074723956286301444,7083743228905507250,2301641413302660691,189022763267023531,3438309196226820909,17334562601699539034,7483640100870590133,2356100314713886516,10006027678829030902,2480747725732061167,16021890380162330246,14408473318674787527,5884741789947835648,13410916703621131289,11248437134792826108,7574731726311481183,14080850475359053735,14238724467317194504,3459566766740109293,3098776735733421631,1113251812723807489,13430956413680270495,5376672361848770206,5362878238907702953,16837226492980280248,4872597009206446262,14720236270478814263,10393411777355547730,8550158091966073916,2831633794252762537,8953022098859672105,11592004687958820011,10118659882182151497,15015978810424721209,5243050630762995615,6799463841641830169,1390353318738465087,15857127287928062029,6685331438748150799,15828961126716588323,7889808740071481339,2580719757954027696,12502269903968509360,17633998721010968001,7573579670932119146,16960229778742152729,17938043134766416963,2074352406326214109,15287390383482723732,1669569562794343558,420486631015593714,4831799012961952191,733528803168646698,3597127007024231225,291826206700956382,16817919219994973808,1256158875792179115,6741875948263192180,239733489635536403,2669514386250332036,2813241993772592331,14239800274398593641,5201251075902373514,912348201083579501,1297802859576604224,16377142902263339413,13508732256250399088,17068489474423778224,7030848064742330944,1649166169406168750,14288876752890735834,7342595868008793293,3866709699968622852,5689737082737019796,7786991990018803577,17516589557515004536,10893448788973886768,6483686936540533869,12130335492401051637,16043241764119042272,5653644003795901075,10195181644417572483,9166409141908257978,17297799854233010873,8798267823300250633,142763215976135037,2769674341311527247,7041602259362596725,15078960124977238063,6357137108776156415,5321049407586680883,13556268735563522890,1156144490538542021,16956965719541926601,11982698585211442732,847916921761778723,7203446080766551800,13142870781479487725,13062651439902990576,7368546493297307834,6625796653780389528,7323966440275004708,9365049591362611733,5882942236606141098,17664040064382752257,2048181124165321000,1954377718828184675,8104712713013840086,11549919478512108554,14456783865938728454,14141870836018190648,8845479336372124430,15523161283572676084,3478442402406459850,17358152673048220416,6472396156496139869,14727689418087639422,14867108377137022972,11762591061883827057,15762944244431260286,18359305065074824558,5291609297628903529,2423520836800401520,3231774897120109670,5730973037263651953,11487603058927304459,13282590564145261806,10348998976356296396,15112305646426747380,4355408012056003283,11322871886255422933,7929929330372783208,8204100916174480739,9446290844639661706,8387587922138510579,1251241353128706348,9405873302412598808,2813713785662015422,8196636378433805481,12807200248208644208,12462807850660332308,8091974809848526843,12161502558388139325,7128827071613587213,16026988408875948502,16876490042399217204,12412450270325463091,13670106283273662792,10917131915935564664,13255853986899625353,4846495165516600661,8941542406343893211,2506478257486122259,6551079563104098210,16369360226383749559,13723923739366973869,13428107440555318202,18043307176446957386,16189352949351534045,17786866519885430630,2427022419592885740,13743068043260005388,192502527627681206,9333643753531201153,10806643635676324437,5839662633812181907,16921247221349374547,2559764262138431799,10226205934207629200,4351808097524565657,11415486920579077874,8718171830076898448,15904301615720333250,5831689048889222587,12129029071239104636,16731147928208421223,12899852040055558864,8176404083989966175,1916291239380039157,2968508338614846184,6897735220099420408,6725650029654193811,8877989437357348481,8286856004706128469,5842802196640698454,9746202375059296783,16747363087089604597]
universe E.PySem.W.Fast
set_option maxRecDepth 100000 in
set_option maxHeartbeats 0 in
theorem PySem.Challenge.cw_mergetree_k73_whole_sheets_walked_holds : PySem.Challenge.rw_mergetree_k73_whole_sheets_walked.Holds := by
 w_on;o_law;k_head;(case hw=>w_witness2)
 k_fill
 refine My.walk (l:=PySem.Challenge.rw_mergetree_k73_whole_sheets_walked) rfl rfl (λw h Y=>PySem.W.kIn_of Y) ?F;case F =>
  intro w mg fa h KX G hmg
  refine' My.all_mk KX G hmg ?q00 ?q10 ?q20 ?q30 ?q40 ?q50 ?q60 ?q70 ?q80 ?q90 ?qa0 ?qb0 ?qc0 ?qd0 ?qe0 ?qf0 ?qg0 ?qh0 ?qi0 ?qj0 ?qk0 ?ql0 ?qm0 ?qn0 ?qo0 ?qp0 ?qq0 ?qr0 ?qs0 ?qt0 ?qu0 ?qv0 ?qw0 ?qx0 ?qy0 ?qz0 ?q01 ?q11 ?q21 ?q31 ?q41 ?q51 ?q61 ?q71 ?q81 ?q91 ?qa1 ?qb1 ?qc1 ?qd1 ?qe1 ?qf1 ?qg1 ?qh1 ?qi1 ?qj1 ?qk1 ?ql1 ?qm1 ?qn1 ?qo1 ?qp1 ?qq1 ?qr1 ?qs1 ?qt1 ?qu1 ?qv1 ?qw1 ?qx1 ?qy1 ?qz1 ?q02 ?q12 ?q22 ?q32 ?q42 ?q52 ?q62 ?q72 ?q82 ?q92 ?qa2 ?qb2 ?qc2 ?qd2 ?qe2 ?qf2 ?qg2 ?qh2 ?qi2 ?qj2 ?qk2 ?ql2 ?qm2 ?qn2 ?qo2 ?qp2 ?qq2 ?qr2 ?qs2 ?qt2 ?qu2 ?qv2 ?qw2 ?qx2 ?qy2 ?qz2 ?q03 ?q13 ?q23 ?q33 ?q43 ?q53 ?q63 ?q73 ?q83 ?q93 ?qa3 ?qb3 ?qc3 ?qd3 ?qe3 ?qf3 ?qg3 ?qh3 ?qi3 ?qj3 ?qk3 ?ql3 ?qm3 ?qn3 ?qo3 ?qp3 ?qq3 ?qr3 ?qs3 ?qt3 ?qu3 ?qv3 ?qw3 ?qx3 ?qy3 ?qz3 ?q04 ?q14 ?q24 ?q34 ?q44 ?q54 ?q64 ?q74 ?q84 ?q94 ?qa4 ?qb4 ?qc4 ?qd4 ?qe4 ?qf4 ?qg4 ?qh4 ?qi4 ?qj4 ?qk4 ?ql4 ?qm4 ?qn4 ?qo4 ?qp4 ?qq4 ?qr4 ?qs4 ?qt4 ?qu4 ?qv4 ?qw4 ?qx4 ?qy4 ?qz4 ?q05 ?q15 ?q25 ?q35 ?q45 ?q55 ?q65 ?q75 ?q85 ?q95 ?qa5 ?qb5 ?qc5 ?qd5 ?qe5 ?qf5 ?qg5 ?qh5 ?qi5 ?qj5 ?qk5 ?ql5 ?qm5 ?qn5 ?qo5 ?qp5 ?qq5 ?qr5 ?qs5 ?qt5 ?qu5 ?qv5 ?qw5 ?qx5 ?qy5 ?qz5 ?q06 ?q16 ?q26 ?q36 ?q46 ?q56 ?q66 ?q76 ?q86 ?q96 ?qa6 ?qb6 ?qc6 ?qd6 ?qe6 ?qf6 ?qg6 ?qh6 ?qi6 ?qj6 ?qk6 ?ql6 ?qm6 ?qn6 ?qo6 ?qp6 ?qq6 ?qr6 ?qs6 ?qt6 ?qu6 ?qv6 ?qw6 ?qx6 ?qy6 ?qz6 ?q07 ?q17 ?q27 ?q37 ?q47 ?q57 ?q67 ?q77 ?q87 ?q97 ?qa7 ?qb7 ?qc7 ?qd7 ?qe7 ?qf7 ?qg7 ?qh7 ?qi7 ?qj7 ?qk7 ?ql7 ?qm7 ?qn7 ?qo7 ?qp7 ?qq7 ?qr7 ?qs7 ?qt7 ?qu7 ?qv7 ?qw7 ?qx7 ?qy7 ?qz7 ?q08 ?q18 ?q28 ?q38 ?q48 ?q58 ?q68 ?q78 ?q88 ?q98 ?qa8 ?qb8 ?qc8 ?qd8 ?qe8 ?qf8 ?qg8 ?qh8 ?qi8 ?qj8 ?qk8 ?ql8 ?qm8 ?qn8 ?qo8 ?qp8 ?qq8 ?qr8 ?qs8 ?qt8 ?qu8 ?qv8 ?qw8 ?qx8 ?qy8 ?qz8 ?q09 ?q19 ?q29 ?q39 ?q49 ?q59 ?q69 ?q79 ?q89 ?q99 ?qa9 ?qb9 ?qc9 ?qd9 ?qe9 ?qf9 ?qg9 ?qh9 ?qi9 ?qj9 ?qk9 ?ql9 ?qm9 ?qn9 ?qo9 ?qp9 ?qq9 ?qr9 ?qs9 ?qt9 ?qu9 ?qv9 ?qw9 ?qx9 ?qy9 ?qz9 ?q0a ?q1a ?q2a ?q3a ?q4a ?q5a ?q6a ?q7a ?q8a ?q9a ?qaa ?qba ?qca ?qda ?qea ?qfa ?qga ?qha ?qia ?qja ?qka
  case q00|q10|q20|q30|q40|q50|q60|q70|q80|q90|qa0|qb0|qc0|qd0|qe0|qf0|qg0|qh0|qi0|qj0|qk0|ql0|qm0|qn0|qo0|qp0|qq0|qr0|qs0|qt0|qu0|qv0|qw0|qx0|qy0|qz0|q01|q11|q21|q31|q41|q51|q61|q71|q81|q91|qa1|qb1|qc1|qd1|qe1|qf1|qg1|qh1|qi1|qj1|qk1|ql1|qm1|qn1|qo1|qp1|qq1|qr1|qs1|qt1|qu1|qv1|qw1|qx1|qy1|qz1|q02|q12|q22|q32|q42|q52|q62|q72|q82|q92|qa2|qb2|qc2|qd2|qe2|qf2|qg2|qh2|qi2|qj2|qk2|ql2|qm2|qn2|qo2|qp2|qq2|qr2|qs2|qt2|qu2|qv2|qw2|qx2|qy2|qz2|q03|q13|q23|q33|q43|q53|q63|q73|q93|qb3|qd3|qf3|qh3|qj3|ql3|qn3|qp3|qr3|qt3|qv3|qx3|qz3|q14|q34|q54|q74|q94|qb4|qd4|qf4|qh4|qj4|ql4|qn4|qp4|qr4|qt4|qv4|qx4|qz4|q15|q35|q55|q75|q95|qb5|qd5|qf5|qh5|qj5|ql5|qn5|qp5|qr5|qt5|qv5|qx5|qz5|q16|q36|q56|q76|q96|qb6|qd6|qf6|qg6|qh6|qi6|qj6|qk6|ql6|qm6|qn6|qo6|qp6|qq6|qr6|qs6|qt6|qu6|qw6|qx6|qz6|q07|q27|q37|q57|q67|q87|q97|qb7|qc7|qe7|qf7|qh7|qi7|qk7|ql7|qn7|qo7|qq7|qr7|qt7|qu7|qw7|qx7|qz7|q08|q28|q38|q58|q68|q88|q98|qb8|qc8|qe8|qf8|qh8|qi8|qk8|ql8|qn8|qo8|qp8|qq8|qr8|qs8|qt8|qu8|qv8|qw8=>k_is
  case qx8=>exact((_,_,rfl,rfl),À1,À1,À1,Μ)
  case qy8=>first|rfl|decide
  case qz8|q09|q19|q29=>k_is
  case q39=>exact ÛS
  case q49=>first|rfl|decide
  case q59|q69|q79|q89|q99|qa9|qb9|qc9|qd9|qe9=>k_is
  case qf9=>exact ÛS
  case qg9=>first|rfl|decide
  case qh9|qi9|qj9|qk9|ql9|qm9|qn9|qo9|qp9|qq9|qr9|qs9|qt9|qu9|qv9|qw9|qx9|qy9|qz9|q0a|q1a|q2a|q3a|q4a|q5a|q6a|q7a|q8a|q9a|qaa|qba|qca|qda|qea|qfa|qga|qha|qia|qja|qka=>k_is
  case q83|qa3|qc3|qe3|qg3|qi3|qk3|qm3|qo3|qq3|qs3|qu3|qw3|qy3|q04|q24|q44|q64|q84|qa4|qc4|qe4|qg4|qi4|qk4|qm4|qo4|qq4|qs4|qu4|qw4|qy4|q05|q25|q45|q65|q85|qa5|qc5|qe5|qg5|qi5|qk5|qm5|qo5|qq5|qs5|qu5|qw5|qy5|q06|q26|q46|q66|q86|qa6|qc6|qe6|qv6|qy6|q17|q47|q77|qa7|qd7|qg7|qj7|qm7|qp7|qs7|qv7|qy7|q18|q48|q78|qa8|qd8|qg8|qj8|qm8=>exact(_,_,_,_,_,_,_,_,_,by k_is,by k_is,by k_is)
end
