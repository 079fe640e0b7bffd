import PyProof.Rows.All
import Wide.All
import OpenK.AllK
import Wide.FinOn
import Lean
import PyProof.EqAt
import PyProof.EqKinds
import PyProof.TupleCall
import PyProof.AttrMissHeap
import KE.KEqDict
import KE.KItemsList
import PyProof.WalksMore
import PyProof.TupleOfStr
import PyProof.DictWalks
import PyProof.WalkInts
import PyProof.ExcClass3
import PyProof.StationsW
import OpenK.KCall
import PyProof.RulesAs
import PyProof.Ns1
import PyProof.InstStoreFacts
import PyProof.ExcBaseAll.ValueError
import PyProof.ExcArgs
import KE.KIsAll
import PyProof.Rows.CountFlat
import PyProof.StrBlockL
import OpenK.KTop
import PyProof.StrLawsTight
import PyProof.Rows.StrFin3
import KE.KUnpackStar
import PyProof.Conv_int_bool
import PySem.Challenge.RW_mergetree_k50_desks_asked
set_option maxHeartbeats 4000000
set_option maxRecDepth 100000
open PySem renaming Value->aa,Addr->ae,wpAny_bind->ah,Shared->aj,sizeLine->aq,Str->ak,wpAny_pure->av,PyData->aE,wpAny->ar,Program->ay,starEach->aG,mainGlobals->aL,model->ax,Heap->aI,Around->aD,World->aF,Expr->aK,NameKind->aV,Stmt->aM,Builtin->aS,compareOp->aQ,sliceBounds->dJ,wpAny_holding->aT,PassesOwn->bu,Obj->aN,wpAny_seqItems->bj,wpAny_field->bg,sizeLine_eq->aO,assignEach->ce,compEnvC->bM,attributeBase->bE,wpAny_setField_rec->bY,sysModules->bD,wpAny_passesOwn->cn,wpAny_truthy_bool->bq,strIterType->cb,foldedSetIterable->cr,codeAny->bL,Scope->bh,backTo->bo,wpAny_getItem_str_slice->cI,FuncData->bA,wpAny_standAt->bx,wpAny_pyIter_list->cu,wpAny_newObj_type->bz,wpAny_call_entry->bU,bootBuiltins->c9,wpAny_mono->ba,wpAny_Call_Name_kw->bi,tupleKind_room_in1->bZ,wpAny_letGo->dL,wpAny_Call_method0_late->dZ,keywordEach->cG,wpAny_tryCatch->cY,letOwnedTupleGo->dM
open Option renaming some->U,none->af
local macro_rules(kind:=Lean.Parser.Command.mutual)
|s=>if !s[1][0][1].getKind==``Lean.Parser.Command.example then Lean.Macro.throwUnsupported else
 let N:=fun k c=>Lean.Syntax.node .none k c
 let A:=fun v=>Lean.Syntax.atom .none v
 let L:=fun c=>N `null c
 let key:=fun (a:Array Lean.Syntax)=>let k:=a.getD 0 .missing;k.getId.toString++(if k.isIdent then "" else (k.isNatLit?.getD 0).repr)++"/"++a.size.repr
 let put:=fun (f:Lean.Syntax→Lean.Syntax) (s:Lean.Syntax)=>s.rewriteBottomUp f
 let par:=fun (c:Lean.Syntax)=>N ``Lean.Parser.Tactic.paren #[A "(",c[1],A ")"]
 let sub:=fun (t:Lean.Data.Trie (Array Lean.Name×Lean.Syntax))=>put fun s=>
  let look:=fun (a:Array Lean.Syntax)=>match t.find? (key a) with
   |some (p,b)=>if p.isEmpty then b else put (fun v=>match v with|.ident _ _ n _=>(match p.idxOf? n with|some i=>a[i+1]!|none=>v)|_=>v) b
   |none=>s
  match s with
  |.ident _ r n _=>if n.toString.front.toNat>191 then look #[s] else .ident .none r n []
  |.atom _ v=>A v
  |.node _ k c=>
   if k==`«term#[_,]» then look s[1].getSepArgs
   else if k==``Lean.Parser.Command.declaration&&(s[1].getKind==``Lean.Parser.Command.definition||s[1].getKind==``Lean.Parser.Command.abbrev||s[1].getKind==``Lean.Parser.Command.instance) then s.setArg 0 (s[0].setArg 4 (L #[N ``Lean.Parser.Command.noncomputable #[A "noncomputable"]]))
   else if k==``Lean.Parser.Tactic.rwSeq&&s[3].getNumArgs==0 then
    let a:=s[2][1].getSepArgs
    if a.any (·[0].getNumArgs>0) then s else
    let a:=a.map (·[1])
    let b:=if a.size==1&&(a.getD 0 s).getKind==``Lean.Parser.Term.byTactic then a.getD 0 s else look a
    if b.getKind==``Lean.Parser.Term.byTactic then par b else s
   else if k==``Lean.Parser.Tactic.show&&s[1].getKind==``Lean.Parser.Term.byTactic then par s[1]
   else if k==``Lean.Parser.Term.tuple&&s[1].getNumArgs>0&&s[1][2].getNumArgs%2==1 then
    N ``Lean.Parser.Term.anonymousCtor #[A "⟨",L (#[s[1][0],A ","]++s[1][2].getArgs),A "⟩"]
   else if k==``Lean.Parser.Tactic.obtain&&s[1][0][0].getNumArgs>1 then
    let lo:=fun q=>N ``Lean.Parser.Tactic.rcasesPatMed #[L #[q]]
    s.setArg 1 (L #[lo (N ``Lean.Parser.Tactic.rcasesPat.tuple #[A "⟨",Lean.Syntax.mkSep (s[1][0][0].getSepArgs.map fun q=>N ``Lean.Parser.Tactic.rcasesPatLo #[lo q,L #[]]) (A ","),A "⟩"])])
   else s
  |_=>s
 let x:=fun (c:Lean.Syntax)=>c[1][2][1][1].getSepArgs
 let t:=(x s[1][0]).foldl (fun t y=>
  let a:=y[1].getSepArgs
  t.insert (key a.pop) ((a.extract 1 (a.size-1)).map (·.getId),sub t a.back!)) {}
 let r:=s[1].getArgs.foldl (fun r c=>
  if c[1].getKind==``Lean.Parser.Command.example then (if r.isEmpty then r else (x c).foldl (fun q y=>q.push (r.back!.setArg 1 (r.back![1].setArg 1 (N ``Lean.Parser.Command.declId #[Lean.mkIdent (.mkSimple s!"tw{y.isNatLit?.getD 0}"),L #[]])))) r)
  else if c.getKind==``Lean.Parser.Command.universe then
   let n:=c[1][0].getId
   r.push (N ``Lean.Parser.Command.end #[A "end",L (if n==`E then #[] else #[Lean.mkIdent (n.replacePrefix `E .anonymous),L #[]])])
  else r.push (sub t c)) #[]
 return L r
mutual
example:=#[#[À,List],
#[Â,base],
#[Ã,Option],
#[Ä,V.str],
#[Æ,if_pos],
#[Ç,if_neg],
#[Ê,absurd],
#[Ë,s.heap],
#[Ì,X.env],
#[Í,SqL.of],
#[Î,cons],
#[Ï,Bool],
#[Ð,s.heap.objs.size],
#[Ò,e.ss],
#[Ó,data],
#[Õ,heap],
#[Ú,e.nm],
#[Ü,outer],
#[ß,h.get?],
#[á,aa.ref],
#[â,T.cl_Merge],
#[ã,xs.length],
#[è,X.xe],
#[é,s.heap.get?],
#[ê,I.hok],
#[ë,Ql.mp],
#[ì,V.int],
#[î,toks],
#[ñ,prog],
#[ò,Qh.mp],
#[ö,X.prog],
#[ø,kvs.length],
#[ù,V.ref],
#[û,SqT.of],
#[ÿ,h'.get?],
#[ā,Array],
#[Ă,rest],
#[ă,eval],
#[Ĉ,ns.length],
#[ĉ,R.map],
#[ċ,keep],
#[Č,x.length],
#[č,D.nx],
#[Ď,arrOf],
#[ď,Z7.k'],
#[Đ,X.nb],
#[đ,PySem.W.kitOne],
#[ē,small],
#[ĕ,decide_eq_false],
#[ė,False],
#[Ę,more],
#[ě,decide_eq_true],
#[Ĝ,sortedS],
#[ĝ,D.at'],
#[ğ,X.mg],
#[Ġ,I.kIn],
#[ģ,N.length],
#[Ĥ,c.length],
#[ĥ,ys.length],
#[Ħ,Qp.mp],
#[ħ,b.length],
#[Ī,PySem.W.findIn],
#[ī,ss.length],
#[ĭ,e.ss.length],
#[İ,its.toArray],
#[ı,X.env.locals],
#[Ĳ,QM.mp],
#[Ĵ,call],
#[ĵ,PySem.W.nsIn],
#[ķ,kitOne],
#[ĸ,L.map],
#[ĺ,h.objs.size],
#[Ļ,K.lookup],
#[ļ,iter],
#[Ľ,z.length],
#[ľ,a.length],
#[Ŀ,of_decide_eq_true],
#[ŀ,aW.size],
#[Ń,X.rd],
#[ń,s.toks],
#[Ņ,T.cl_Row],
#[ņ,M.rows],
#[Ň,snoc],
#[ň,X.li],
#[ŉ,X.lo],
#[ŋ,String],
#[ō,congrArg],
#[ŏ,c.map],
#[Ő,wpS_bind],
#[Œ,X.base],
#[œ,items],
#[ŕ,a.map],
#[ŗ,Zt16],
#[Ř,PW.pt],
#[ś,l.length],
#[ŝ,s.length],
#[Š,I.loc],
#[š,I.tok],
#[Ť,T.na_Merge_rows],
#[ť,ws.length],
#[Ŧ,D.rows],
#[Ũ,Qg.mp],
#[ū,c.names.lookup],
#[Ŭ,wpS_pure],
#[ŭ,SortedToK],
#[Ů,ks.map],
#[ů,y.length],
#[Ų,M.nd],
#[ų,o.data],
#[Ŵ,K.In],
#[ŵ,X.s₀.heap.objs.size],
#[Ŷ,rawInt],
#[ŷ,True.intro],
#[Ÿ,vs.length],
#[ż,j.heap.objs.size],
#[Ž,Zt32],
#[Ε,HT.sIx],
#[Ζ,SortSt],
#[Θ,IsTup],
#[Ι,free],
#[Κ,X.stack],
#[Λ,I.bare],
#[Μ,cont],
#[Ο,ks.length],
#[Ρ,wpAny_loadPart_at],
#[Φ,X.sd],
#[Χ,S.nm],
#[Ψ,T.cl_Desk],
#[Ω,Od.txt],
#[β,x.nm],
#[δ,X.env.cells.lookup],
#[ε,I.free],
#[ζ,I.ok],
#[μ,d.length],
#[ν,kindOf],
#[ο,dict],
#[ρ,IsPair],
#[υ,kitCls],
#[χ,bu.never],
#[ψ,D.sep],
#[ω,R.length],
#[Àa,Sum.inr],
#[Àb,aa.none],
#[Àc,True],
#[Àd,I.cell],
#[Àe,I.pin],
#[Àf,s.heap.push],
#[Àh,value],
#[Àj,a.heap.objs.size],
#[Àl,h.elim],
#[Àp,I.src_off],
#[Àq,L.length],
#[Àr,M.length],
#[Às,excClassObj],
#[Àt,ak.join],
#[Àu,rows],
#[Àx,grow],
#[Ày,drop],
#[Àz,take],
#[ÀA,X.fs],
#[ÀB,I.len],
#[ÀC,I.freeC],
#[ÀD,s'.heap],
#[ÀF,ps.length],
#[ÀJ,Txt.join],
#[ÀL,h.len],
#[ÀM,bump],
#[ÀN,many],
#[ÀP,D.nd],
#[ÀQ,I.hr],
#[ÀR,us.length],
#[ÀS,fs.length],
#[ÀU,s₀],
#[ÀV,Model],
#[ÀX,c.heap.objs.size],
#[ÀY,I.laid],
#[À0,f.toks],
#[À1,P.map],
#[À2,h.up],
#[À3,M.each],
#[À7,Ne.symm],
#[À9,I.turned],
#[Áa,List.lookup],
#[Áb,PySem.W.keepIn],
#[Ác,vs.toArray],
#[Ád,f.length],
#[Áe,pendingOf],
#[Áh,wpAny_isSubtype_exc],
#[Ái,T.b.n_len],
#[Ám,os.length],
#[Áo,o.txt],
#[Áp,I.hd],
#[Áq,List.mem_cons],
#[Ár,aa.str],
#[Ás,I.ok.kind],
#[Át,holding],
#[Áx,I.ok.hd],
#[Áz,ak.empty],
#[ÁA,r.length],
#[ÁC,List.replicate],
#[ÁG,Keyed],
#[ÁH,κ.kle],
#[ÁK,f.objs.size],
#[ÁN,Txt.split],
#[ÁO,ws.map],
#[ÁR,kitAny],
#[ÁS,aE.canLay0],
#[ÁT,aE.depthAll],
#[ÁU,h.few],
#[ÁW,j.rows],
#[ÁY,B.few],
#[ÁZ,h.nmz],
#[Á0,D.tup],
#[Á1,slots],
#[Á5,I.list],
#[Âa,z.cps.toList],
#[Âb,names],
#[Âc,f.heap.objs.size],
#[Âd,z.cps],
#[Âe,j.extBut],
#[Âh,of_decide_eq_false],
#[Âi,d.map],
#[Âj,h0.get?],
#[Âl,b.map],
#[Âm,r.map],
#[Âr,aE.canLayAll0],
#[Âs,aE.depth],
#[Âu,M.few],
#[Âx,o.first],
#[Ây,o.sw.length],
#[Âz,List.find?_cons],
#[ÂA,Sum.inl],
#[ÂC,X.outer],
#[ÂD,X.env.kindOf],
#[ÂF,assign],
#[ÂG,I.kept],
#[ÂI,A.units],
#[ÂJ,cLine],
#[ÂN,c.names],
#[ÂO,List.range],
#[ÂP,compPost],
#[ÂR,IsZip],
#[ÂS,i.extBut],
#[ÂT,List.not_mem_nil],
#[ÂU,or_false],
#[ÂV,SeqAt.shaped],
#[ÂW,aE.eqv],
#[ÂX,SortKind],
#[ÂZ,x.snd],
#[Â0,l.map],
#[Â2,kvs.map],
#[Â7,M.same],
#[Â8,T.na_Merge_best],
#[Ãc,h.num],
#[Ãe,T.na_Desk_merge],
#[Ãf,D.stay],
#[Ãg,B.nmz],
#[Ãi,os.map],
#[Ãj,W0.nd],
#[Ãk,aa.int],
#[Ãl,aa.type],
#[Ãn,AllBare],
#[Ão,GenState],
#[Ãp,o.cls],
#[Ãq,False.elim],
#[Ãr,wpAny_rule],
#[Ãs,pyNext],
#[Ãy,k.toNat],
#[ÃA,ns.map],
#[ÃC,X.env.scope.names.lookup],
#[ÃH,items.size],
#[ÃI,A.in1],
#[ÃJ,atKey],
#[ÃK,B.get?],
#[ÃL,i.objs.size],
#[ÃP,g.map],
#[ÃQ,aE.str],
#[ÃW,coming],
#[Ã0,Sum.inl.inj],
#[Ã1,QY.mp],
#[Ã2,a.names.lookup],
#[Ã3,e.symm],
#[Ã5,standAt],
#[Ã7,I.tuple],
#[Äb,binaryOp],
#[Äc,j.length],
#[Äe,getMethod],
#[Äh,hr.mono],
#[Än,wpAny_call],
#[Äp,I.ok.mod.kin],
#[Äq,bindL],
#[Är,bindC],
#[Äs,envOfC],
#[Ät,s.heap.update],
#[Äv,aV.free],
#[Äx,f.heap.push],
#[Äz,z.cps.size],
#[ÄA,S.raw],
#[ÄB,d.objs.size],
#[ÄC,d.extBut],
#[ÄD,c.objs.size],
#[ÄE,PyProof.Rows.KeyKind],
#[ÄG,pairsOf],
#[ÄJ,d.take],
#[ÄL,valueAt],
#[ÄN,c.val],
#[ÄO,L2.St],
#[ÄX,But.trans],
#[Ä0,Spec.ltCps],
#[Ä2,T.na_Row_all_keys],
#[Ä7,h.key],
#[Åc,nm.map],
#[Åd,D.same],
#[Åf,D.mg.M],
#[Åg,T.na_Desk_numbers],
#[Ål,Sum.inr.inj],
#[Åm,aa.bool],
#[Ån,Paired],
#[Åp,PySem.W.instObj],
#[Åq,s.gens],
#[År,Drawn],
#[Ås,I.base],
#[Åw,assignInOrder_cons],
#[Åx,c.toks],
#[Åy,pyIter],
#[ÅA,fs.lookup],
#[ÅB,PySem.W.isFn],
#[ÅC,I.write],
#[ÅD,typeLookup],
#[ÅE,its.toArray.size],
#[ÅF,aN.mapSeq],
#[ÅG,if_false],
#[ÅH,a.get?],
#[ÅI,callerA],
#[ÅJ,PySem.W.fnOf],
#[ÅK,env.cells],
#[ÅM,List.length_nil],
#[ÅN,z.symm],
#[ÅO,aE.layable0],
#[ÅP,κ.blt],
#[ÅQ,failedOf],
#[ÅS,NonIncK],
#[ÅT,wpAny_updateSeq],
#[ÅW,decide_eq_decide.mpr],
#[ÅX,j.map],
#[ÅY,call_meetsIn],
#[ÅZ,merged],
#[Å1,aN.mapFields],
#[Å3,X.mkd],
#[Æc,best'],
#[Æf,T.na_Merge_stays],
#[Æk,noRow],
#[Æl,noGrow],
#[Æm,noDrop],
#[Æp,B.len],
#[Æq,D.ok.ndN],
#[Æs,VW.nd],
#[Æt,c.drop],
#[Æw,d.drop],
#[Æy,List.lookup_cons],
#[Æz,beq_eq_false_iff_ne.mpr],
#[ÆC,xs.map],
#[ÆD,g.get?],
#[ÆE,env.kindOf],
#[ÆF,I.ok.noex],
#[ÆG,I.base.free],
#[ÆH,s.heap.FunFrames],
#[ÆI,I.hok.fresh],
#[ÆJ,d.trans],
#[ÆL,aI.SameBut],
#[ÆO,wpAny_execs_nil],
#[ÆP,pos.line],
#[ÆQ,g.length],
#[ÆS,c.heap.push],
#[ÆT,c.heap],
#[ÆV,i.length],
#[ÆW,PySem.W.emptyDict],
#[ÆX,fs.map],
#[ÆZ,A.deeper],
#[Æ0,Calls.spliced_cons],
#[Æ1,a.toks],
#[Æ2,BindsTo],
#[Æ4,I.ok.frames],
#[Æ5,codeAny_mono],
#[Æ7,bv.atName],
#[Æ8,callWith],
#[Ça,P.length],
#[Çb,S.kind],
#[Çc,IntsAre],
#[Çd,s.TypeIs],
#[Çe,getItem],
#[Çg,if_true],
#[Çi,call_meets],
#[Çj,ZB.refl],
#[Çl,noteFrame],
#[Çm,j.heap],
#[Çn,aS.SmallTypes.nextOf],
#[Ço,f.extBut],
#[Çp,S2.raw_keep],
#[Çq,l.extBut],
#[Çr,h.push],
#[Çv,ns.take],
#[Çw,κ.keyOf],
#[Çy,wpS_forRange],
#[ÇC,k.length],
#[ÇD,g.toList],
#[ÇE,z.elim],
#[ÇG,B.symm],
#[ÇL,w.cps.toList],
#[ÇM,seqObj],
#[ÇT,But.same],
#[ÇZ,T.b.n_range],
#[Ç5,risingS],
#[Ç8,T.na_Row_gone],
#[Ç9,Btr.total],
#[Èa,Win.both],
#[Èb,N.headD],
#[Èc,N.getLastD],
#[Èd,QaI.mpr],
#[Èf,h.rows],
#[Èg,h.stays],
#[Èj,M.stays],
#[Èl,M.ne_sd],
#[Èv,ak.ofString],
#[Èy,T.b.n_str],
#[Èz,boot_str],
#[ÈE,o.sing],
#[ÈF,o.furt],
#[ÈI,ok.ndP],
#[ÈM,R.take],
#[ÈO,I.same],
#[ÈP,Od.take],
#[ÈS,DecidableEq],
#[ÈT,PySem.Within],
#[ÈU,Un.kept],
#[ÈV,base.Ns],
#[ÈW,X.base.get?],
#[ÈX,X.H₀],
#[ÈY,I.base.keep],
#[ÈZ,I.ok.above],
#[È0,I.base.slot],
#[È1,I.ok.bsz],
#[È2,I.base.frzs],
#[È3,I.step],
#[È4,s.drawn],
#[È5,o.slots],
#[È9,its.toList],
#[Éa,assignInOrder],
#[Éc,Operator],
#[Éd,wpAny_bindName],
#[Ée,h.IsListIter],
#[Éf,Qac.mp],
#[Ég,T.keep],
#[Ék,setAttr],
#[Ém,A.under],
#[Én,Yo.some_of],
#[Ép,PySem.W.specialIn],
#[Éu,Result],
#[Év,ps.zip],
#[Éz,PySem.W.codeIn],
#[ÉA,d.typeIs],
#[ÉB,ak.length],
#[ÉC,typeIs_str],
#[ÉD,its.length],
#[ÉF,Calls.callWith_builtin],
#[ÉH,I.fresh],
#[ÉJ,d.name],
#[ÉM,a.getD],
#[ÉN,Or.inr],
#[ÉO,Decidable],
#[ÉP,d.names],
#[ÉQ,Bool.false_eq_true],
#[ÉV,bs.all],
#[ÉW,out.toList],
#[ÉX,Src.at_keep],
#[ÉY,wpAny_setField],
#[ÉZ,aN.data_mapFields],
#[É0,h.extBut],
#[É2,S1.its],
#[É3,S2.its],
#[É5,not_or],
#[É7,I.reads],
#[É8,m.extBut],
#[É9,X.A.units],
#[Êa,wpS_get],
#[Êc,x.cps.toList],
#[Êe,wpAny_typeOf],
#[Êf,this.symm],
#[Êg,checkBuiltinCall],
#[Êi,o.getD],
#[Êj,stored],
#[Êo,a.objs.size],
#[Êt,decide_eq_true_eq],
#[Êw,OsState],
#[Êx,excMatches],
#[Êy,a.dict],
#[ÊA,f.get?],
#[ÊD,PySem.W.subIn],
#[ÊE,join_plain_closes],
#[ÊF,w.params],
#[ÊG,p.length],
#[ÊQ,lcp_nil'],
#[ÊW,T.b.n_isinstance],
#[ÊX,boot_isinstance],
#[ÊY,T.b.n_list],
#[ÊZ,boot_list],
#[Ê0,aE.eqvAll],
#[Ê4,Win.both'],
#[Ê5,Win.congr],
#[Ê8,YE.one],
#[Ëb,R.at'.ob],
#[Ëd,M1.rows],
#[Ëh,hM.mem],
#[Ël,Mg.stays],
#[Ëm,Qan.mp],
#[Ëo,nm.length],
#[Ëq,nm.filter],
#[Ëu,o.fw.length],
#[Ëv,o.fw.map],
#[Ëw,o.deed],
#[Ëy,QaY.mpr],
#[ËC,Xv.map],
#[ËD,Xu.map],
#[ËE,o2.txt],
#[ËF,bindName],
#[ËG,List.length_cons],
#[ËH,List.size_toArray],
#[ËI,aa.float],
#[ËK,Paired.mapP],
#[ËM,g.trans],
#[ËN,a.slots],
#[ËO,I.ok.mod],
#[ËQ,I.base.tups],
#[ËS,I.base.tbls],
#[ËV,N.Nodup],
#[ËW,I.ok.has],
#[Ë0,swapsWith],
#[Ë1,assignInOrder_nil],
#[Ë2,unpackItems],
#[Ë3,Flow.next],
#[Ìc,PySem.W.lookIn],
#[Ìf,PySem.W.plainGet],
#[Ìg,Nat.le_of_eq],
#[Ìi,A.depth],
#[Ìj,aD.under],
#[Ìk,Code.isFrame],
#[Ìl,r.append],
#[Ìt,subscriptTail],
#[Ìu,subscripted],
#[Ìz,l.row.toRowW],
#[ÌB,hr.units],
#[ÌC,ForInStep.yield],
#[ÌD,N'.length],
#[ÌE,aV.cell],
#[ÌG,comprehension],
#[ÌH,newList],
#[ÌI,sep.length],
#[ÌJ,Txt.mul],
#[ÌK,n.toNat],
#[ÌL,Txt.slice],
#[ÌN,Src.at_obj],
#[ÌO,wpAny_callSpecial?_slot],
#[ÌQ,c.typeIs],
#[ÌR,F.slot_tuple_iterator_next],
#[ÌU,F.slot_zip_next],
#[ÌW,S2.at_keep],
#[ÌX,N.extBut],
#[ÌY,t.extBut],
#[ÌZ,S1.value],
#[Ì0,S2.value],
#[Ì7,KeyOrd.kle_trans],
#[Ía,minRun'],
#[Íc,vs.toArray.size],
#[Íe,updateSeq],
#[Íf,wpAny_newList],
#[Íg,aI.size_update],
#[Íh,size_push'],
#[Íi,y.cps.toList],
#[Ín,richCompare],
#[Ío,b.toList],
#[Íp,F.length],
#[Ír,o.isSome],
#[Íx,p.typeIs],
#[Íz,typeLookup_type],
#[ÍA,builtinLookup_eq_fast],
#[ÍB,ks.take],
#[ÍG,a.toList],
#[ÍJ,storeInDict],
#[ÍP,occurrences],
#[ÍQ,PySem.W.KeysLit],
#[ÍT,items.toList.take],
#[ÍU,items.toList.drop],
#[ÍW,Made.int],
#[Îg,aE.strOk],
#[Îh,T.b.n_int],
#[Îi,boot_int],
#[Îw,Win.sing],
#[Îx,Win.left],
#[Îy,Win.right],
#[ÎC,r.at'.ks],
#[ÎD,r.at'.fs],
#[ÎF,Nat.pow_succ],
#[ÎH,ux.symm],
#[ÎI,M1.each],
#[ÎN,T.na_Merge_next_number],
#[ÎR,Rd.mono],
#[ÎS,T.b.n_min],
#[ÎT,boot_min],
#[ÎW,Function.comp],
#[Î3,ss.drop],
#[Î4,a.natAbs],
#[Î6,strLen_append],
#[Ïb,S.nm.map],
#[Ïc,S.P.length],
#[Ïf,D.nmlen],
#[Ïg,D.mg.M.each],
#[Ïh,D.ok.nd],
#[Ïl,List.nil_append],
#[Ïq,G.trans],
#[Ït,S.length],
#[Ïu,I.D.at'],
#[Ïv,I.D.rows],
#[Ïy,sb.free],
#[Ïz,J.length],
#[ÏC,Int.toNat_natCast],
#[ÏD,Paired.length],
#[ÏE,ZG.append],
#[ÏL,List.mem_range.mpr],
#[ÏM,builtinsNs],
#[ÏN,env.cells.lookup],
#[ÏO,X.env.scope.kind],
#[ÏP,X.s₀.heap.get?],
#[ÏQ,X.env.scope],
#[ÏR,I.ok.exfs],
#[ÏX,storeName],
#[ÏZ,wpAny_Name],
#[Ï2,wpAny_execs_cons],
#[Ï3,inplaceOp],
#[Ï4,swapsWithSole],
#[Ï5,swappedStores],
#[Ï8,IsTup.new],
#[Ï9,wpAny_pyNext_list_item],
#[Ða,I.list_inj],
#[Ðb,wpAny_pyNext_list_end],
#[Ðd,j.unpinned],
#[Ðh,behindInMarks],
#[Ðl,beq_iff_eq.mp],
#[Ðm,PySem.W.takerIn],
#[Ðp,wpAny_nsSet1],
#[Ðq,wpAny_lookBehind],
#[Ðr,pastItsLine_dict],
#[Ðs,PySem.W.hasDictIn],
#[Ðy,plainObj_wpAny_Assign_Attribute],
#[ÐA,Code.frames],
#[ÐB,Calls.spliced_nil],
#[ÐC,d.hok.fresh],
#[ÐD,I.stkFree],
#[ÐG,PySem.W.callWith_K0],
#[ÐI,List.of_mem_zip],
#[ÐK,cellsFrom],
#[ÐN,a.heap.push],
#[ÐO,seqIndex_of],
#[ÐP,seqIndex_neg],
#[ÐQ,its'.toArray],
#[ÐR,SeqAt.EqAt],
#[ÐS,List.all_cons],
#[ÐV,Calls.evalArgs_plain],
#[Ð1,c.heap.Ns],
#[Ð2,c.heap.get?],
#[Ð3,DictEntry],
#[Ð6,closureFor],
#[Ð8,X.env.cells],
#[Ð9,env.scope.kind],
#[Ña,beq_self_eq_true],
#[Ñc,I.ok.glob],
#[Ñf,Walks.list],
#[Ñi,a.cps.size],
#[Ñj,Nat.succ_mul],
#[Ñk,h.IsStrIter],
#[Ñl,aN.isFreed_of_fields],
#[Ñm,z.cps.all],
#[Ñp,wpAny_attempt],
#[Ñq,wpAny_updateSeq_pair],
#[Ñr,D.TOi2.symm],
#[Ñs,wpAny_newTuple],
#[Ñt,D.TOz.symm],
#[Ñu,D.i1z.symm],
#[Ñv,isInstance],
#[Ñw,Src.iter_at],
#[Ñx,Src.pyIter],
#[ÑC,Inv.readsAll],
#[ÑH,aS.List.listItems],
#[ÑK,KeyOrd.kle_of_klt],
#[ÑL,KK_mirror_equal],
#[ÑN,wpS_modify],
#[ÑP,sortedHeap],
#[ÑQ,sortedAll],
#[ÑS,slot_list_sort],
#[ÑT,entry_list_sort],
#[ÑY,List.zipIdx_cons],
#[ÑZ,Array.all_eq_true],
#[Ñ0,PyProof.Rows.KeysOf],
#[Ñ1,items.toList],
#[Ñ3,get?_update_seq],
#[Ñ4,s.heap.IsList],
#[Ñ6,codeAny_call_builtin_at],
#[Ñ7,List.filter_cons],
#[Òf,tupleKind],
#[Òg,I.base.there],
#[Òj,List.append_assoc],
#[Òp,h'.FunFrames],
#[Òq,setFlight],
#[Òw,bm.contains],
#[Òx,wpAny_madeBy_exc],
#[Òy,a.contains],
#[ÒB,wpAny_onRaise],
#[ÒF,i.heap.get?],
#[ÒG,PySem.W.kitCls],
#[ÒK,partsBetween],
#[ÒL,F.slot_str_split],
#[ÒN,F.entry_str_split],
#[ÒP,a.cps.toList],
#[ÒR,List.drop_zero],
#[Ò7,Nat.succ_le_succ],
#[Ò9,Int.emod_nonneg],
#[Óa,List.length],
#[Óc,Bool.eq_false_iff.mpr],
#[Óe,T.b.n_tuple],
#[Óf,boot_tuple],
#[Óg,T.b.n_zip],
#[Ól,T.b.n_enumerate],
#[Ón,List.map_drop],
#[Óu,T.na_Row_fars],
#[ÓA,T.b.n_sorted],
#[ÓB,boot_sorted],
#[ÓF,T.na_Merge_likened],
#[ÓO,T.b.n_sum],
#[ÓS,Nat.sub_self],
#[ÓU,T.b.n_max],
#[ÓX,ts.length],
#[Ó2,PySem.F.type_dict_pop],
#[Ó3,Re.at'.ob],
#[Ó7,List.map_take],
#[Ó8,a.natAbs.log2],
#[Ôa,List.pairwise_cons.mp],
#[Ôb,ss.Pairwise],
#[Ôg,List.length_pos_iff.mpr],
#[Ôj,X.L.length],
#[Ôm,List.filter],
#[ÔP,List.length_map],
#[ÔQ,List.mem_cons_of_mem],
#[ÔR,Bool.and_eq_true],
#[ÔS,Array.length_toList],
#[ÔU,wpAny_eqBool_int],
#[ÔV,SeqAt.EqAt.int_str],
#[ÔW,SeqAt.EqAt.str_int],
#[ÔX,wpAny_eqBool_str],
#[ÔY,PySem.W.methodObj],
#[Ô1,X.s₀.heap.FunFrames],
#[Ô2,aI.get?_none_of_le],
#[Ô3,Array.append_assoc],
#[Ô8,wpAny_loadName_local],
#[Ô9,wpAny_loadName_cell],
#[Õa,Calls.Name_function_global],
#[Õh,wpAny_assign_Name],
#[Õj,unpackItems_tuple],
#[Õz,PySem.W.handedIn],
#[ÕA,PySem.W.plainGet_of],
#[ÕB,PySem.W.bind_fn],
#[ÕC,PySem.W.plainOver],
#[ÕE,aI.Ns1.of_empty],
#[ÕH,PySem.W.kitx_none],
#[ÕI,PySem.W.kitx_bool],
#[ÕJ,PySem.W.kitx_int],
#[ÕK,PySem.W.kitx_str],
#[ÕL,PySem.W.kitx_float],
#[ÕN,PySem.W.kitx_tuple],
#[ÕP,PySem.W.kitx_own],
#[ÕU,PySem.W.makesIn],
#[ÕX,sc.names.lookup],
#[ÕY,PySem.W.cellsFrom_some],
#[ÕZ,List.getElem?_replicate],
#[Õ2,PyProof.Rows.callWith_builtin1],
#[Õ5,subscriptTail_builtinR],
#[Õ6,slot_list_getitem.lookup],
#[Õ9,SeqAt.EqAt.int_int],
#[Öa,SeqAt.EqAt.str_str],
#[Ög,PySem.evalArgs_none],
#[Öh,Nat.le_of_not_lt],
#[Öj,List.forIn_cons],
#[Öq,theTreesLotGoes],
#[Öw,wpAny_newFunctionEnv],
#[ÖL,List.mem_iff_getElem.mp],
#[ÖM,List.mem_range.mp],
#[ÖO,Int.mul_le_mul_of_nonneg_left],
#[ÖT,F.entry_tuple_iterator_next],
#[ÖV,aI.SameBut.update],
#[ÖW,aN.cls_mapFields],
#[Ö2,F.entry_zip_next],
#[Ö3,F.args_zip_next_1],
#[Ö4,aS.SmallTypes.ownedTupleHandOut],
#[Ö6,wpAny_isInstance],
#[Ö9,wpAny_pyIter_zip],
#[Øc,wpAny_pyIter_enum],
#[Øf,wpAny_Dict_empty],
#[Ør,Array.toList_inj.mp],
#[Øt,PyProof.Rows.lt_int],
#[Øv,PyProof.Rows.lt_str],
#[Øw,wpAny_forIn_list],
#[Øy,Array.toList_map],
#[Øz,wpAny_loadPart'],
#[ØD,Option.isSome_map],
#[ØE,wpAny_getItem_of],
#[ØJ,wpAny_Call_method],
#[ØK,PySem.F.type_dict_get],
#[ØM,List.mem_map.mpr],
#[ØN,PySem.W.kdl_dict],
#[ØS,PySem.F.slot_dict_values],
#[ØT,PySem.F.slot_dict_items],
#[ØU,wpAny_dictSet_pairs],
#[ØV,getAttr?_keys_list],
#[ØW,getattributeRaised],
#[Ø0,aS.Dict.pairItems],
#[Ø1,aS.Dict.updateFrom],
#[Ø2,List.getElem?_cons_zero],
#[Ø3,wpAny_specialOf],
#[Ø4,PySem.F.slot_dict_getitem.lookup],
#[Ø7,EntryCells.newEntry],
#[Ùn,aI.get?_push_at],
#[Ùo,codeAny_call_builtin],
#[Ùq,PySem.wpAt_bind],
#[Ùr,PySem.wpAt_of_wpAny],
#[Ùs,codeAny_call_builtin_code],
#[ÙA,wpAny_check_type_call_sub],
#[ÙC,FormattedValue_plain],
#[ÙE,PySem.W.readsIn],
#[ÙF,PySem.W.findCls],
#[ÙP,ne_true_of_eq_false],
#[ÙR,PySem.W.mapOf_K],
#[ÙU,wpAny_Try_except],
#[ÙX,Calls.call_function_entry],
#[ÙY,g.toList.toArray],
#[Ù5,PySem.W.takesIn],
#[Ù6,z.cps.toList.length],
#[Úo,List.replicate_succ'],
#[Úx,List.range_succ],
#[ÚE,List.cons_lt_cons_iff],
#[ÚG,List.take_append_drop],
#[ÚI,List.find?_cons_of_pos],
#[ÚQ,T.na_Merge_looked],
#[ÚY,Nat.min_eq_left],
#[Ú7,Option.bind_some],
#[Ûb,List.mem_reverse.mp],
#[Ûq,List.pairwise_append.mpr],
#[Ûw,PySem.ofString_length],
#[Ûx,T.xb_MergeError],
#[ÛA,List.pairwise_cons],
#[ÛJ,Nat.not_lt_zero],
#[ÛN,List.map_singleton],
#[ÛS,List.lookup_cons_self],
#[ÛU,T.t_OutOfOrder_init.cls],
#[ÛX,List.find?_eq_none.mp],
#[Üb,List.getElem?_take],
#[Ük,List.length_zip],
#[ÜR,aS.SmallTypes.ownedTupleIsFree],
#[ÜS,codeAny_builtin],
#[ÜT,I.mod.glob.keeps],
#[ÜU,Code.quiet_builtin],
#[ű,(rfl,rfl,by ac_rfl,by ac_rfl,by ac_rfl,by decide,by ac_rfl,by ac_rfl)],
#[Þ,(rfl,rfl,rfl,by ac_rfl,rfl,by ac_rfl,by ac_rfl)],
#[1,a_,(λ_ _ _ _ _ _ us hl=>by obtain _|h:=a_ us hl;subst h;exact rfl)],
#[2,a_,(λ_ _ _ _ _ _ us hl=>by obtain _|_|h:=a_ us hl;subst h;exact rfl)],
#[3,a_,(λ_ _ _ _ _ _ us hl=>by obtain _|_|_|h:=a_ us hl;subst h;exact rfl)],
#[ú,(by ac_rfl)],
#[Á,(by lia)],
#[à,(Or.inl rfl)],
#[Ö,(by simp)],
#[È,(by rfl)],
#[É,(by decide)],
#[Å,PySem.W.Frag],
#[Ğ,(.inl rfl)],
#[9,x_,PySem.wpAny (PySem.model (x_).prog (x_).w) (x_).A],
#[Xns,a_,b_,c_,ĵ a_ mainGlobals b_=some (some (.ref c_))],
#[Xfi,a_,b_,c_,d_,Ī a_ (.ref b_) c_=some (some (.ref d_))],
#[Xlk,z_,a_,b_,c_,d_,e_,f_,g_,h_,i_,j_,k_,l_,m_,(z_).lookup a_=some (b_,c_,.func (ÅJ d_ e_ (Wz f_) (XY f_) (Zg f_) .none g_ h_ i_ j_ k_ l_),m_)],
#[Xci,a_,b_,c_,Éz a_ b_ c_=true],
#[Xki,a_,b_,Áb a_ (.ref b_)=true],
#[Xif,a_,b_,ÅB a_ (.ref b_)=true],
#[Zd,a_,b_,@Zd _ _ _ _ _ a_ b_],
#[Zu,a_,b_,c_,d_,@Zu _ _ a_ _ _ _ _ b_ rfl c_ d_ (by rfl) (by trivial)],
#[ZK,a_,b_,c_,@ZK _ _ _ _ _ _ _ _ a_ b_ c_],
#[Û,@Zj _ _ _ _],
#[Zh,a_,@Zh _ _ _ a_],
#[Zm,a_,@Zm _ _ _ _ a_],
#[Z4,a_,b_,c_,@Z4 _ _ _ _ _ _ _ _ a_ b_ c_],
#[Zk,a_,b_,c_,d_,@Zk _ _ _ _ _ _ _ _ a_ b_ c_ d_],
#[Zo,a_,b_,c_,d_,e_,@Zo _ _ _ _ _ _ _ _ _ a_ b_ c_ d_ e_ (by decide) (by decide) (by rfl) (by rfl)],
#[Za,a_,b_,@Za _ _ _ _ _ a_ b_ (by rfl)],
#[ÈR,@Ze _],
#[Ze,a0_,#[Za,a0_,ÈR]],
#[Ze,a0_,a1_,#[Za,a0_,#[Za,a1_,ÈR]]],
#[Ze,a0_,a1_,a2_,#[Za,a0_,#[Za,a1_,#[Za,a2_,ÈR]]]],
#[Ze,a0_,a1_,a2_,a3_,#[Za,a0_,#[Za,a1_,#[Za,a2_,#[Za,a3_,ÈR]]]]],
#[Ze,a0_,a1_,a2_,a3_,a4_,#[Za,a0_,#[Za,a1_,#[Za,a2_,#[Za,a3_,#[Za,a4_,ÈR]]]]]],
#[ZD,a_,b_,c_,@ZD _ _ _ _ _ _ _ a_ b_ c_ (λ_ _=>rfl)],
#[ZZ,a_,@ZZ _ _ _ _ a_],
#[W4,a_,b_,c_,d_,@W4 _ _ _ _ _ _ _ _ _ a_ (by rfl) b_ c_ d_ (by decide) (by decide) (by rfl) (by rfl)],
#[XQ,a_,b_,c_,d_,@XQ _ _ _ _ _ _ _ _ a_ b_ c_ d_],
#[YC,a_,b_,@YC _ _ _ _ _ _ a_ b_ (by rfl) (by rfl) (by rfl)],
#[Xg,a_,b_,c_,@Xg _ _ _ _ _ _ _ a_ b_ c_ (by intro _;rfl)],
#[ZN,a_,b_,c_,@ZN _ _ _ _ _ _ _ _ a_ b_ c_],
#[ï,@Zw _],
#[Zz,a_,b_,c_,d_,@Zz _ _ _ _ _ _ _ _ _ _ _ a_ b_ c_ (by trivial) d_ (by decide) (by rfl) (by rfl)],
#[Ý,@Zl _ _ _ _],
#[XX,a_,b_,c_,d_,e_,@XX _ _ _ _ _ _ _ _ _ _ _ _ _ _ a_ rfl rfl rfl b_ c_ d_ e_ (by intro _;rfl)],
#[V6,a_,b_,@V6 _ _ _ _ _ _ rfl a_ b_ (by rfl)],
#[pv,a_,b_,@pv _ a_ _ _ (by rfl) b_ (by decide) (by decide)],
#[cg,a_,b_,@cg _ _ _ _ _ _ _ _ _ _ _ a_ b_ rfl (by ac_rfl) (by rfl)],
#[cv,a_,b_,@cv _ _ _ _ _ _ _ _ _ _ _ a_ b_ rfl (by ac_rfl) (by rfl) (by decide) (by decide)],
#[YN,a_,b_,c_,d_,e_,f_,@YN _ _ _ _ _ _ _ _ _ _ _ _ a_ b_ c_ d_ e_ f_ (by rfl) (by rfl) (by rfl) (by rfl) (by rfl)],
#[Xt,a_,b_,@Xt _ _ _ _ _ _ _ a_ b_],
#[Xh,a_,@Xh _ _ _ _ a_],
#[Xi,a_,@Xi _ _ _ a_ (by intro _;rfl)],
#[Yx,a_,@Yx _ _ _ _ _ a_],
#[XF,a_,b_,@XF _ _ _ _ a_ b_ (by rfl) (by decide) (by decide)],
#[W5,a_,b_,@W5 _ _ _ _ _ _ _ a_ b_],
#[W6,a_,@W6 _ _ _ _ a_],
#[iZ,a_,b_,c_,@iZ _ a_ _ _ _ _ _ _ _ _ b_ c_ (by rfl) (by rfl) (by rfl) (by rfl)],
#[gT,a_,b_,c_,@gT _ a_ _ _ _ b_ _ c_ (by rfl) (by rfl) (by rfl) (by rfl)],
#[Zp,a_,b_,@Zp _ _ _ _ _ a_ b_ (by rfl)],
#[ÈG,@Z0 _],
#[cw,a_,b_,@cw _ _ _ _ _ _ _ _ _ _ _ a_ b_ rfl (by ac_rfl) (by rfl) (by decide) (by decide)],
#[ş,@ZU _ _ _],
#[XI,a_,b_,c_,d_,@XI _ _ _ _ _ _ _ _ a_ rfl b_ c_ d_ (by intro _;rfl)],
#[Zy,a_,b_,c_,@Zy _ _ a_ _ b_ rfl c_ (by trivial)],
#[ZM,a_,@ZM _ _ _ _ a_ (by rfl)],
#[iE,a_,b_,c_,@iE _ a_ _ _ _ _ _ _ _ b_ c_ (by rfl) (by rfl) (by rfl)],
#[WL,a_,b_,c_,d_,@WL _ _ _ _ _ _ _ _ _ _ a_ b_ c_ d_],
#[ZH,a_,@ZH _ _ _ _ _ a_ (by rfl)],
#[Yi,a_,b_,c_,d_,@Yi _ _ _ _ _ _ _ _ _ _ _ _ a_ b_ c_ d_ (by trivial) (by rfl)],
#[X0,a_,b_,@X0 _ _ _ _ _ _ _ _ a_ b_ (by rfl)],
#[Ën,@Xz _ _],
#[VB,a_,b_,c_,@VB _ _ _ _ _ _ _ _ _ _ a_ b_ c_],
#[XA,a_,b_,c_,d_,e_,@XA _ _ _ _ _ _ _ _ _ _ _ _ _ _ _ a_ b_ c_ d_ e_ (by trivial) (by rfl) (by rfl) (by rfl)],
#[Ub,a_,b_,c_,@Ub _ _ _ _ _ _ _ _ _ _ _ _ a_ b_ c_ (by trivial) (by rfl) (by decide) (by rfl) (by rfl)],
#[iL,a_,b_,@iL _ a_ _ _ _ b_ (by rfl)],
#[VZ,a_,@VZ _ _ _ _ a_ (by rfl) (by decide)],
#[VY,a_,@VY _ _ _ _ _ _ a_],
#[Yd,a_,b_,@Yd _ _ _ _ _ a_ b_],
#[UN,a_,b_,c_,d_,e_,f_,@UN _ _ _ _ _ _ _ _ _ _ _ _ _ _ _ _ a_ b_ c_ d_ e_ f_ (by trivial) (by rfl) (by rfl) (by rfl)],
#[Sz,a_,b_,c_,d_,@Sz _ _ _ _ _ _ _ _ _ _ _ _ a_ b_ c_ d_ (by trivial) (by rfl) (by decide) (by rfl) (by rfl)],
#[UP,a_,@UP _ _ _ _ a_ (by rfl) (by decide)],
#[WE,a_,b_,@WE a_ _ _ _ _ _ b_ (by rfl) (by rfl)],
#[UV,a_,b_,c_,d_,e_,f_,g_,@UV _ _ _ _ _ a_ _ _ _ _ _ _ _ _ _ _ _ _ b_ rfl (Or.inl rfl) c_ rfl rfl rfl d_ e_ f_ g_ (by rfl) (by intro _;rfl) (by trivial)],
#[Ù,ZO K mg aw am aA ap aJ aB ao au],
#[Èk,(Zv "likened" (.int 0) (Zv "next_number" (.int (ś:Int)) (Zv "rows" (.ref c) [])))],
#[h,((Àf (ÇM "list" #[] 0)).update Ð (ÅF λx=>x++Ác))],
#[Ĩ,(x == ("__debug__" : ak))=false],
#[θ,aG (e::es) Ì=(false,ă e Ì,)::aG es Ì],
#[ä,Inv X ai σ H s],
#[Ŝ,["desk", "singles", "further"]],
#[Ô,(ax ñ w)],
#[Å4,ß C=U (Às nm q C N bs (.ref B::Yv) cL sn sub ab bX dd k0 k1 k2 k3 k5 "ValueError.__new__")],
#[ÔO,(λaP f A Ü s H vs Q E hr h=>?_)],
#[Äw,(Y5 Ð8 ÂN [])],
#[À4,Xk _ _ _ _ _ _ ú ú ú ú ú ú],
#[ÀK,(lcp (cds x) (cds y):Nat)],
#[ÃN,["_law_left_here", "_law_stems_here", "_law_most"]],
#[Èt,(by nofun)],
#[Ân,#[.ref T,.none,.none,.none,.bool false,.none]],
#[ũ,(Ð+1)],
#[y,by refine(λi m ys a H=>m=ø-i/\i<=ø/\Pv i ys a H,(ø,by simp,Qs _,h0),?_);rintro i m ys a H ⟨rfl,hi,p⟩;have q:=hl i ys a H p],
#[Υ,(by show 0<=aq;decide)],
#[ð,aa->aj->Prop],
#[ËZ,(ok.mod,ok.kind,ok.glob,ok.blt,ok.above,ok.inj,ok.has,ok.cab,ok.hd,ok.frames,ok.stk,ok.exf,ok.bs,ok.bsz,ok.noex,ok.exfs,ok.funs,ok.frf)],
#[Ģ,#[ZH,‹0›]],
#[D,by rintro i zs k a C F r L R ⟨⟨I,J,rfl⟩,rfl,d,l,S⟩ hr;have W:i<ã:=(Ũ L).1;have X:D≠r:=Zf l hr;have M:ZB H (upd a r (.tup [C,F])):=ÆJ (Zi hr _);refine(r,_,rfl,û Zb,rfl,_,_,rfl,_,_,rfl,rfl,_,rfl,_,rfl,C,F,rfl,(hi i C F L R).mono M,λY N=>?_);have Z:Y D=U (.lst (ÁC i (.bl true))):=N _ _ (by rw[Zc X];exact l);refine(Z,(by rw[QaS];exact Zs Á),(_,_,rfl),?_,?_,Zb,W)],
#[ü,(_,rfl)],
#[ÁB,(bo pos (aG es Ì)).any (·.1)=false],
#[G,by subst m hw n;obtain q|t|Q|x|y|A:=j it Ö;obtain B|C:=p;obtain D|a|F:=I.dictF B hd;have l:ø=D.length:=ľ],
#[Ài,(λz=>nomatch z)],
#[É6,(YG X c N' C s H fp)],
#[Ø,À Int],
#[ÀZ,(by with_unfolding_all rfl)],
#[Ā,ak->Ã aa],
#[ÓN,(upd (upd (upd Z B (.dT [])) m (.ins am g (Zv "stays" (.ref B) (Zv "looked" (.int 0) Èk)))) m (.ins am g (Zv "best" .non (Zv "stays" (.ref B) (Zv "looked" (.int 0) Èk)))))],
#[ġ,(ax ö X.w)],
#[Ć,À (ae×aN)],
#[P,(((Ät a (ÅF λ_=>#[])).push { cls:=.type "tuple",Ó:=.seq vs.toArray.toList.toArray }).push { cls:=.type "list",Ó:=.seq ([]:À aa).toArray })],
#[ÀI,(.type "BaseException")],
#[ÀG,(.ref Âc)],
#[Ãx,∀vs H Q E,sp vs H Q E->Ÿ=ÀF],
#[Ē,(Ď st)],
#[Ñ,À ak],
#[À5,(_,_,rfl,rfl)],
#[ÇY,Df P w K mg Â 2 "_law_pick" ["_law_left_here", "_law_many"] Vi],
#[Ş,(.lst [])],
#[Η,(λ_ _ _ _=>(@Ye _))],
#[Äj,YY ö X.w X.K ğ Œ CX k f fd ps sp],
#[Ò0,["_law_left_here", "_law_desk", "_law_names_here", "_law_stems_here", "_law_rows", "_law_free", "_law_there", "_law_way", "_law_name", "_law_last"]],
#[æ,(.ref C)],
#[Éo,(U (.builtin "object.__setattr__"))],
#[13,by have L:Inv X A B H { s with Õ:=f,î:=ń+1 }:=À9 (t':=ń+1) (λb o a e=>(J.2 b a).trans e) n p q u x;obtain o|e|c|d:=id D;exact(_,rfl,U6 (s:={ s with Õ:=f,î:=ń+1 }) e c d É (.str ⟨#[Âd[i]]⟩,H,L,ü,(rfl,_,C,rfl),D,λb a=>(g b a).1))],
#[Ŕ,(rfl,rfl)],
#[Ào,(ss.map Ä)],
#[ξ,(ÃA ì)],
#[Ű,(".0",.«local»,)],
#[18,by have e1:=Qw (wa.one B);have e2:=Qw (wb.one u);subst e1;subst e2;have e3:=Qw (rZ.symm.trans G);have e4:=Qw (r6.symm.trans D);subst e3;subst e4],
#[19,by subst e;obtain o|e|c|d:=st;exact(o,e,λv z=>by rw[d]at z;cases z)],
#[ÁL,(by intro z;cases z)],
#[ÏS,∀b∈ch,(b∈X.ex\/ŵ<=b)/\b≠ı/\(∀x c,δ x=U c->c≠b)/\∀p∈X.pn++ai,p.1≠b],
#[ÇK,(.builtin "object.__class__")],
#[Èe,(mgF rd nb li lo sd aH)],
#[Ç1,(upd H c (.tup (["list", "tuple"].map V.ty)))],
#[ÈN,(upd I l (.lst (ÁO Ä++[Ä (thT Ú z)])))],
#[Ág,(.frz o (.dK kvs))],
#[Δ,ā (Ã aa)],
#[28,(mgF rd nb li lo sd a)],
#[Ċ,(.ref f)],
#[Î5,∀ {x y:ak} {n m:Nat},Č<=n->ů<=m->n+m<=10000->(x++y).length<=n+m],
#[Ák,#[Ze,‹1›]],
#[Îv,(upd (upd H k (.lst (Âi Ä))) p (.ins aw c (Zv "all_keys" (.ref k) [])))],
#[ÆM,X.fn x=true\/ÃC x=U .local],
#[Ýc,(show false=true from c)],
#[Ôt,(rfl,rfl,rfl,λi k c v b=>(by have b:([]:À ak)[i]? = U k:=b;rw[List.getElem?_nil]at b;cases b),.inl Ŕ,Qs _)],
#[Ü9,(ÌL V8 (U ((a:Int)+2*(k:Int))) (U ((a:Int)+2*(k:Int)+1+(k:Int) % 8)))],
#[Å2,((env::Ü).filterMap (·.frame))],
#[Ær,(_,_,c,by assumption,by assumption)],
#[ÁM,(by show 3<=aq;decide)],
#[Ä4,ZR cR cM H m rd sd L s nb li lo aH],
#[Äo,(.Call (.Name x p) (e::es) [] pos)],
#[ÇQ,["_law_word", "_law_parts", "_law_keys_here"]],
#[Èh,Mf P w K mg Â 2 aw "head" ["self"] (Ve aw)],
#[ÜK,(if (if (30:Int)<(((ĸ ì).length:Nat):Int) then 30 else (((ĸ ì).length:Nat):Int))>9 then (if (30:Int)<(((ĸ ì).length:Nat):Int) then 30 else (((ĸ ì).length:Nat):Int)) else 9)],
#[ÄV,["desk", "singles", "keys"]],
#[ÇX,#[Zo,(Yk K),È,Ái,Qy,#[Ze,‹0›]]],
#[47,by rintro i c d _ _ ⟨rfl,rfl⟩;show wpS _ _ _ _ (get >>= _) _ _;refine Ő (Êa ?_);show wpS _ _ _ _ (if (Áe d).size<=1 then _ else _) _ _;rw[Æ r];exact Ŭ (Ŭ (q _ g j k))],
#[ÄQ,(.builtin "ValueError.__init__")],
#[τ,(h,g,d,t,os)],
#[Æ6,(.Call (.Attribute o m bv) (e::es) [] pos)],
#[Ŗ,À (Key×V)],
#[52,by have G:ZB H Ç1:=Zi u _;refine SS (K:=K) (xs:=xs) (ys:=ys) (λi zs k a=>(X2 λI J=>k=[U (.ref p),U (.ref m),I,J])/\zs=ÁC i (.bl true)/\ZB H a/\a D=U (.lst zs)/\i<=ã) ?_ ?_ ?_ ?_],
#[ÄS,["one", "other", "far"]],
#[Â9,((lcp (cds i) z:Nat):Int)],
#[ÁX,(.lst (Ů Ä))],
#[Ç0,#[Zo,WK,È,Ái,Qy,#[Ze,‹0›]]],
#[57,by simp only[Áq,ÂT,ÂU]at d],
#[Α,À (ak×Int)],
#[Á6,(by show 2<=aq;decide)],
#[ÈL,(.frz o (.dK (kvA R)))],
#[Ôd,(_,rfl,_,rfl,_,_,rfl,rfl,_,rfl,Y0 g (_,rfl,_,_,rfl,rfl,_,rfl,Y0 i (_,rfl,q)))],
#[Án,DOk cR cM H X nd nm],
#[Ên,(upd B Âc (.dK []))],
#[Ţ,(ZW I q Ö)],
#[ÙK,(U (.builtin "BaseException.__getattribute__"))],
#[ÒW,["row", "first", "others", "single_kinds", "further_kind", "many", "singles", "further"]],
#[67,by obtain _|q1|q2|q3|q4|_:=f3 b k;have z1:=I4.ok.exf b (by rw[<- w];exact k);refine(hn b k,z1.1,I4.ok.exfs b (by rw[<- w];exact k),.inl (by rw[<- w];exact k),z1.2,λp hp=>?_)],
#[ÕR,(.builtin "type.__call__" (.ref C::us,kw))],
#[69,by refine ah ?_;simp only[ÑY,List.zipIdx_nil,Öj,List.forIn_nil];refine ah (ah (ÒB ?_));show ar _ _ (Çn (.ref i1) >>= _) _ _ _],
#[ÎJ,Df P w K mg Â 5 "refuse_break" ["number", "keys"] (Tq K)],
#[ÎM,(Zv "rows" (.ref c) [])],
#[Åj,AL H1 H d rd rl dl R c rs ds],
#[ÃE,Ñ0 κ aW],
#[74,by simp only[ÎW]],
#[75,by show ar _ _ (ÜR (.ref z) >>= _) _ _ _;unfold ÜR;refine ah (ah (bg hz rfl (x:=.none) rfl (av ?_)));simp only[Çg]],
#[76,by refine(_,rfl,_,_,rfl,rfl,_,rfl,?_);rw[j,Tu,ĕ Á];refine Y8 (_,rfl,_,_,rfl,rfl,_,rfl,?_);rw[k,Tu,ĕ Á];exact Y8 ((_,rfl),rfl)],
#[Èp,((lcp (cds i) (cds l):Nat):Int)],
#[78,(Àf { cls:=.type "range",Ó:=.fields #[.int lo t,.int a u,.int 1 v] })],
#[Âo,(.type "ValueError")],
#[80,by show ar _ _ (if (á t == Àb)=true then _ else _) _ _ s;rw[Ç (show ¬ ((á t == Àb)=true) from Qu)];show ar _ _ (field (.ref it) 1 >>= _) _ _ s],
#[Ëe,(((kvM L).length:Nat):Int)],
#[82,(bM c Äw Ð Ì)],
#[Ëk,[.inl (ZX M).1,.inl (ZX M).2]],
#[Ŏ,X.calm=true],
#[ÎK,Mf P w K mg Â 13 am "play_all" ["self"] (Tj aw am)],
#[86,(ÍU 1)],
#[Ôf,(_,rfl,rfl,_,rfl,Y1 (λd=>Ê (Ŀ d) ú) (λ_=>?_))],
#[Åi,R.Pairwise λa b=>a.n<b.n],
#[ÈB,(Ëq λe=>decide (e.1≠s))],
#[90,by have f1:=tc_lookup;have f2:=tc_bind æ;have hT:(τ:aj).TypeIs æ "type":=(_,a,rfl);refine Än (codeAny_of_tree ?_);show ar _ _ (callAny æ _) _ _ _],
#[ÌM,(post_val_or_str (Qk (Txt.slice_le z _ _) c,a))],
#[Ãh,#[ZZ,ÈR]],
#[ÊP,["_law_desk", "_law_word", "_law_many"]],
#[ÚZ,(upd (upd (upd t m (.ins am g (Zv "next_number" (.int (ś:Int)) ÎM))) m (.ins am g Èk)) m (.ins am g (Zv "looked" (.int 0) Èk)))],
#[ÂY,ÄE],
#[Àk,PA X (e::es) t],
#[Íw,(ÆZ (Äs c (Zg st) Ð f a))],
#[Äa,(_,Qt _ rfl,rfl,rfl)],
#[99,by rw[show Zv f v ((k,x,)::r)=(if k=f then (k,v,)::r else (k,x,)::Zv f v r) from rfl]],
#[aa,by intro ai s σ H xs us Q I r h],
#[Â4,["one", "other"]],
#[Ç2,["list", "tuple"]],
#[Íb,(setPending b ((Áe b).push (0,ŀ,0,)))],
#[Ãb,(e.n,(Ò,e.g,),)],
#[Æd,#[ZD,(ixL K),‹1›,Û]],
#[Å8,#[ZD,(ixL K),‹0›,Û]],
#[ai,by subst o;refine Ő ?_;rw[moveDown'_eq];refine ÑN (Ŭ ?_);exact(rfl,b.set (bubble_perm _ _ _),Ld (by rw[b.size];lia) m d f g)],
#[ÃM,(ĺ+1)],
#[ÜM,(.lst [.str "coming",.str "take",.str "rows",.str "left",.str "take"])],
#[Í1,["_law_left_here", "_law_stems_here"]],
#[Ò1,["_law_left_here", "_law_desk", "_law_names_here", "_law_stems_here"]],
#[Ě,Ã ae],
#[ÃS,Ã (ae×Int×Int)],
#[ap,by rw[<- l]at G;have W:Inv X L M H { s with Õ:=g }:=À9 (t':=ń) (λb o f e=>(T.2 b f).trans e) q t x y A;obtain o1|Y|Z|d1:=id G],
#[ÈQ,(by show 2<=100;decide)],
#[ar,by rintro zs k a ⟨_,rfl,d,l,_⟩;refine(D,ÁC (min ã ĥ) true,rfl,Í (by rw[List.map_replicate];exact l),?_)],
#[ÛB,#[Zh,#[ZN,(@Ř _ _ _ #[W5,#[Zk,Rj,‹1›,Ý,(Zq _)],#[W6,#[Zk,Lh,‹1›,Ý,(Zq _)]]]),#[Zh,#[Zm,(@U7 _ _ _ _)]],ï]]],
#[å,À aa],
#[Ó4,(upd (upd H c (.lst ((i++ks).map Ä))) p (.ins aw d (YV c f g)))],
#[ÙQ,(ÒK z (ÍP z y 0 Ľ (Ľ+1)) ů)],
#[Ą,["self"]],
#[Ü0,(Çr { cls:=.type "dict",Ó:=.dict #[] })],
#[ÚO,(.tup [.int (ZT (cds x) (cds y)),.int ÀK,.int (ÀK-(u:Int)+1)])],
#[Öp,∀ {j:Type} {t:Sem j} {Q:j->aj->Prop} {s:aj},ar Ô A t Q E s->ar Ô A t Q (notedBy Ô A env λe s'=>R (.error e) s') s ],
#[ÇW,(by decide,by decide)],
#[Ðw,Ë0 Àh (U (.Attribute o f dr)) ÆP Ì=pure false],
#[aE,by show ar _ _ (Át [.ref #[h].objs.size] (Ĵ (.builtin "list.sort") [.ref #[h].objs.size]) >>= λ_=>ret (.ref #[h].objs.size)) _ _ _],
#[Îc,["_law_desk", "_law_rows", "_law_heads_here"]],
#[Àn,ÏQ=o],
#[ÉS,(upd G Âc Ş)],
#[Âk,(ZL ö X.w)],
#[ÃX,(YD X.L e.n ks k' a)],
#[Ãw,(ÆI (Qf _))],
#[Ëf,(.lst ((ZC L).map ì))],
#[Âv,(.inr (.inl z))],
#[ÈJ,#[Zk,YS,‹1›,Ý,(Zq _)]],
#[aO,by exact .inl ((q,by lia),hd ys a H (e ▸ p))],
#[aP,by show wpS _ _ _ _ (forIn [:(Ē).size] (af,(),) _ >>= _) _ _;refine Ő ?_;refine Çy (λi c d=>c=(af,(),)/\d=a) ?_ ?_ Ŕ],
#[ÍF,∀ys a H,Pv ø ys a H->Q (.ref D) H],
#[Î0,#[Zo,(Yk K),È,Ái,Qy,#[Ze,‹2›]]],
#[aS,by show ar _ _ (field (.ref z) 2 >>= _) _ _ _;refine ah (bg hz rfl (x:=.bool false) rfl ?_);show ar _ _ (field (.ref z) 3 >>= _) _ _ _],
#[aT,by rintro r s6 ⟨u,hr,h6⟩;subst hr;refine thn h6 ?_;rintro _ s7 ⟨x,H7,I7,r7,y7,rp,Bc⟩;have Be:=I7.pinned (ir Bc) (T.obj _ _ rp)],
#[Æ9,(backToKw pos (cG [] Ì))],
#[ć,(.ref l)],
#[ÃF,(by lia,by lia)],
#[ÃR,Ŀ d],
#[ÁQ,["_law_desk"]],
#[ÃV,(λ_ _ h=>h.unwish)],
#[Ü1,(Ät T (Å1 (·.setIfInBounds 3 Àb)))],
#[Æo,(YU X.L e.n)],
#[Åh,(ĉ (·.nm)).Nodup],
#[Ĭ,(.ref ao)],
#[ź,⟨#[c]⟩],
#[ÆU,∀x,cr ļ Ì x=pure x],
#[Áy,Ê Ýc Qu],
#[Â5,["self", "keys"]],
#[í,À AR],
#[Ôy,(Ãi Ω)],
#[ÁI,(by rw[Qa];lia)],
#[ÖG,∀ {rq:St} {V:Hp} {s9:aj},Inv Y ([]++U5 fp s7.heap) rq V s9->Inv Y [] rq V s9/\tn (i+1) s9.heap/\∀b∈fp,V b=af],
#[bc,by refine(_,rfl,rfl,_,rfl,YO Ài ?_)],
#[Åz,(.ref Ð)],
#[Ķ,(.ref au)],
#[Êv,((X.pn++ai).map (·.1))],
#[bg,by subst j hw l;obtain n|p|G|q|u|x:=g it Ö],
#[bh,by refine wpAny_comprehension_free (use:=use) rfl hs rj Çb S.loc (thn (hi Z s σ H _ I h) λv s1 h1=>thn h1 λyf f h2=>?_)],
#[Ùp,(i.update e λo=>{ o with ο:=U ÃL }).get? e=U { cls:=.ref C,ο:=U ÃL,Ó:=.fields Ân }],
#[Ðc,aG [a,b] Ì=[(false,ă a Ì,),(false,ă b Ì,)]],
#[Î7,∀ {x:ak},Č<=10000->Č<=aq],
#[bl,by refine(Υ,λl I=>?_);have M:=Zi I Ş;have J:(upd H l Ş) l=U Ş:=Zb;generalize upd H l (.lst [])=N at M J ⊢],
#[ÇN,["_law_found", "_law_due"]],
#[Ýa,(Æw n++ÄJ n)],
#[Â3,(YW (YR ZJ))],
#[Ñz,∀ {b:ae} {o:aN},é b=U o->Ð≠b],
#[Í7,["self", "one", "other", "far"]],
#[ÁP,["self", "n"]],
#[ÒZ,["_law_desk", "_law_word", "_law_name", "_law_keys_here"]],
#[ÃU,(hdM (ÀM L e.n))],
#[Ç6,(ě z)],
#[ÅU,(by show 0<=_;lia)],
#[Ł,(.ref aJ)],
#[ł,(.ref aB)],
#[ÀW,(.Name x pos)],
#[Ø9,∀h',Xp B Å2 h'->Òp Â (env::Ü)->Ys NB h' e cls dd (Ŷ L)->Q () { s with Õ:=h' }],
#[ÊI,["one", "other", "at"]],
#[Ìw,(by simp only[ËH]<;>lia)],
#[Óm,((ÂO i).map λj=>.int (WZ c j))],
#[Ô6,(λb o e n t hx=>?_,λb o e n t hx=>?_,ÆG,λb o e hx=>?_,ËQ,È2,ËS)],
#[bG,by rw[Ç Qu];obtain b1|b2|b3:=qd I9;obtain m'|gz|w9:=vt _ _ _ q9;exact(m',gz,i+1,ys,kC,V,b1,b2,b3,w9)],
#[Ôh,Df P w K mg Â 1 "_law_key_text" ["_law_key_here"] Uw],
#[ÊT,(∀s∈ss,ŝ<=24/\AZ s)],
#[Èo,((lcp (cds l) z:Nat):Int)],
#[Òz,#[.ref ĺ,.none,.none,.none,.bool false,.none]],
#[Ìy,(bo br (aG es Ì)).any (·.1)=false],
#[ÄF,Wy ñ w A s k0 κ],
#[ÀH,À (κ×V)],
#[Äy,(.builtin "sorted")],
#[ÄY,#[Zh,#[Zm,‹2›]]],
#[Îu,Mf P w K mg Â 1 aw "to_go" Ą (Tr aw)],
#[ý,(cds x)],
#[õ,À ZA],
#[Îk,(.lst (Wv.map Ä))],
#[ÒE,(.Raise (U (.Call (.Name x p) (e::es) [] br)) af pos)],
#[Ìn,(.Call (.Attribute o m bv) [] [] pos)],
#[ÓJ,#[Zo,T8,È,Ái,Qy,#[Ze,Ģ]]],
#[Ê2,#[Ze,‹0›]],
#[Ès,λe:ZA=>(e.n,(Ò,e.g,),)],
#[ÇO,["self", "row", "place"]],
#[Ź,Ã Int],
#[ÀO,(dsO X nm)],
#[Ø6,(a++ÁC k af)],
#[Ïj,((o.sw++o.fw).map Ä)],
#[b4,(XH CX0 P w K mg Â N c (Zg st) f a A Ü s H E)],
#[Úa,(_,rfl,_,_,rfl,rfl,.inr (JJ _),_,rfl,_,rfl,_,_,rfl,rfl,.inl ÇW,_,_,rfl,rfl,ÁM,λp b=>?_)],
#[ÍE,∀i ys a H,Pv i ys a H->H d=U Ág],
#[ÍL,(∀b o,ß b=U o->ÿ b=U o)],
#[Îl,#[Zo,(Yk K),È,Ái,Qy,Ák]],
#[Êq,Nat->À V->ÄO->Hp->Prop],
#[ÓG,Df P w K mg Â 1 "halves" ["numbers"] (RX K true)],
#[ÑR,(ÇM "list" Ác 0)],
#[cc,(Àf { cls:=.type "dict",Ó:=.dict #[] })],
#[ÔN,(.cons rfl (.cons rfl .nil))],
#[Ôn,#[Zh,#[Zm,(WF T.g_REFUSED)]]],
#[cf,by intro b o e;have e1:=N b o (M b o e);rw[Zc (λz=>by subst z;exact nomatch (G b o e).symm.trans t)];exact e1],
#[ÄM,À (À Key×V)],
#[Üp,[U (.ref d),U (.str l),U (.str i),U (.ref X),U (.ref m),U (.int n),U (.ref F),U (.int (g:Int))]],
#[Àm,ZV N N' o c],
#[Òs,Κ=Ì::ÂC/\X.env.frame=U ı],
#[Á3,Unit->aj->Prop],
#[ËY,(x == ("__classdict__" : ak))=false],
#[ÙG,(Às nm q C N bs (.ref B::Yv) true sn sub ab bX dd k0 k1 k2 k3 k5 "ValueError.__new__")],
#[ÅL,(ÌD-ģ)],
#[ÊB,(.type "type")],
#[ÖH,(I9.unpinned,Ég _ _ _ rp λb k A e=>(I9.pin (b,A,) (QD _ (QD _ (U4 k e)))).1,λb k=>?_)],
#[cs,by intro ai s σ H x y v u Q I a b h],
#[ÜC,(λc f=>Ŀ (Qae.mp b c f),d,e)],
#[ÄT,["numbers", "n"]],
#[Ôp,Df P w K mg Â 1 "with_blanks" ["words"] (RE K)],
#[Ñn,(∃o,ÿ e=U o/\Ãp=.type "StopIteration")],
#[Éq,(by rw[e];exact ŷ)],
#[ÁF,(.type "str")],
#[Æb,(.dK (kvM L))],
#[Ëj,#[ZD,(ixT K),‹2›,Û]],
#[ËL,∀b u,ß b=U u->ÿ b=U u],
#[Ýf,(bM c Äw ż Ì)],
#[ĩ,(.ref a)],
#[Ïw,#[Zz,M,N,#[Ze,‹0›,Û],È]],
#[ÓC,Df P w K mg Â 4 "first_break" ["keys"] (RY K)],
#[Ĕ,(cds y)],
#[þ,(Zq _)],
#[Új,#[Zo,(WS K),È,ÊW,ÊX,#[Ze,‹0›,#[XF,T.b.n_bool,boot_bool]]]],
#[Ïs,[.inr z,.inl n,.inr s]],
#[cM,(zH5 Ë S1 S2 a b)],
#[ÜQ,((_,_,rfl,rfl),À5,À5,À5,À5,À5,À5,À5,À5,À5,À5,À5,ŷ)],
#[Õo,(λi m b H=>m=ã-i/\i<=ã/\Pv i b H,(ã,by simp,Qs _,h0),?_)],
#[Îq,(_,rfl,rfl,_,rfl,YO ÁL ?_)],
#[cQ,by refine ÜS KI ?_;rw[aD.under_plainId SD _];show ar _ ÃI (Ãs (.ref I) >>= _) _ _ s],
#[Ê1,(∀s∈ss,ŝ<=1000)],
#[Êb,(ÄG vs)],
#[Ê3,(@Up _ _ _ _ _ _ Uo Û)],
#[Ś,(.ref e)],
#[Æj,(":" : ak).length=1],
#[Úh,#[Zo,(WS K),È,ÊW,ÊX,#[Ze,‹1›,#[XF,Èy,Èz]]]],
#[Úi,#[Zo,(WS K),È,ÊW,ÊX,#[Ze,‹0›,#[XF,Èy,Èz]]]],
#[cY,by simp only[Áq,ÂT,ÂU]at A],
#[cZ,by refine .inr ((q,r),Pv (i+1),λjs aU t u=>(ø-(i+1),by lia,rfl,r,u),λx t y=>?_)],
#[c0,by show ÃC y.1=_\/ÃC y.1=_;rw[ho];exact(S.free y hy hf).2],
#[ÒH,[.Tuple [.Name x m,.Name y n,.Name z r] kt pt]],
#[Òo,(show (á T != Àb)=true from by simp)],
#[Îr,(upd d p (.tup [.int i,.str y]))],
#[ÂQ,(ľ:Int)],
#[ſ,(Y9 M n)],
#[ÂK,(.type "list")],
#[ÇP,["self", "n", "keys"]],
#[Ëg,(by rw[Qa];exact Zs Á)],
#[Ξ,(Ď d)],
#[ÐL,(XH CX P w K mg Â N d a f g A Ü s H E)],
#[Æn,(Ål z)],
#[ÔJ,(.tup [.int g.n,.ref g.k,.int ((g.g:Int)+1)])],
#[ÊU,#[pv,0,(ÉN à)]],
#[Åe,#[WE,K,‹0›]],
#[df,((Ü0).update x λo=>{ cls:=Ãp,ο:=U ĺ,Ó:=ų,Á1:=È5 })],
#[dg,by refine ÙX kind_sorted plain_sorted entry_sorted (args_sorted1 ć) ?_],
#[dh,by intro X hP hw hK f i ai s σ H E I g st hg;subst hP hw hK;obtain J|L|⟨a,b',M⟩|N|O:=st],
#[ÇR,["desk", "things"]],
#[Å7,["_law_left_here"]],
#[Æi,Vj K w mg bQ bn bp],
#[Âq,(·.length)],
#[ÜV,(Àf ÆW)],
#[ÐU,(if ([]:À Keyword).isEmpty then 0 else 1)],
#[dp,(f.2 b (Qz (QB (Qr e) (I.ok.cab x c S hc))))],
#[Òh,(.DictComp kx vx [(tg,ļ,dP,0)] c pos)],
#[Ói,#[Zo,(Yk K),È,Ái,Qy,#[Ze,‹3›]]],
#[ÜD,#[Za,Ý,#[Za,Ý,#[Za,Ý,#[Za,Ý,#[Ze,Ý,Ý,Ý,Ý,Ý]]]]]],
#[dt,by subst t hw y;obtain ⟨l,f⟩|g:=st;obtain M|p|B:=A;obtain its|C|D|_:=Á5 p],
#[du,by rw[list_sort_plain];refine ah (Uh ha rfl ?_);show ar _ _ (Íe a (λx=>#[]) >>= _) _ _ _],
#[dv,by obtain u|rfl:=hq],
#[ÕF,Ép K ÇK "__get__" = U (U (.builtin "getset_descriptor.__get__"))],
#[Áv,(Áx hc)],
#[ÍK,(.type "object")],
#[dz,by rw[List.getElem?_set_ne (À7 w)]at l;obtain O|P|q:=W j y G g l J;refine(O,P,?_)],
#[dA,by obtain z|lo|i|l|g|C|D|j|m|n|E:=(show Z8 ö X.w k ÆT d (.dK f) from A.hok d _ B)],
#[Öi,(λr g=>r=.ok (.ret (.bool true))/\OldK ÆT g.heap/\g.os=c.os/\Ãn g.gens)],
#[ž,(λd=>?_)],
#[Ýd,(show false=true from f)],
#[ą,(hdM L)],
#[Β,(.tup xs)],
#[Ż,(.lst zs)],
#[Ûh,(.ins aw dp (YV e.k e.f ((e.g+1:Nat):Int)))],
#[Áf,(.dK kvs)],
#[Çf,ĕ Á],
#[Ét,(false,ă e Ì,)],
#[ÔA,(.lst ([("" : ak)].map Ä))],
#[ÔC,(.ins aA c [("merge",.ref m,)])],
#[Û6,(rfl,rfl,(e ks h.2).2.2,g s h.1,.inr (rfl,(e ks h.2).1),(e ks h.2).2.1)],
#[dO,by refine(ÌQ,λb q=>?_,g);cases q;obtain ob|_|_|h|i|_:=c;exact(ob,h,i.2.1)],
#[dP,by refine ah (ah (ÒB ?_));show ar _ _ (Çn (.ref i2) >>= _) _ _ _],
#[Ñd,Ê (QB (Qr e) (Qk È1 z)) (Qag _)],
#[Ós,Df P w K mg Â 3 "alikes" ["row"] (R5 K)],
#[ÓL,(upd (upd H7 G (.own u)) u (.ins aw G []))],
#[ÛV,(Yq aA aw am λo=>X2 λs ks=>o=.grow s ks)],
#[Ùl,ß C=U (Às nm q C N bs bm true sn sub ab bX dd k0 k1 k2 k3 k5 bH)],
#[ÍZ,["_law_cell", "_law_k"]],
#[ÂE,X.N[i]? = U x],
#[ő,Int×Int],
#[À6,HOk P w H h],
#[Êu,A.frames=U (env::Ü)],
#[Ñ5,(∀b o,é b=U o->ÿ b=U o)],
#[Òn,(·.setIfInBounds 1 (á ÄD))],
#[Íq,(kvs.any λa=>decide (a.1=k))],
#[ÃB,(k == Äv)],
#[Àv,(ZP X.L)],
#[ÎX,(Z9 8 (ZC L) e.n)],
#[ÛT,(Yq aA aw am λo=>X2 λs ks=>o=.row s ks)],
#[Ôu,(.tail _ (.tail _ (.head _)))],
#[Æx,(.cons ü .nil)],
#[És,(.builtin "isinstance")],
#[Ñe,(.ListComp iM [(tg,ļ,dP,0)] c pos)],
#[Ìm,(.Call (.Name x p) [] [] pos)],
#[Û8,#[YN,Q0,PySem.F.slot_str_split,PySem.F.type_str_split,Kg,‹0›,#[Ze,Ý]]],
#[ed,a_,b_,c_,d_,by refine a_ b_ Èt (λaP f A Ü s H c_ Q E d_ h=>?_)],
#[ee,a_,b_,(λaP f A Ü s H a_ Q E b_ h=>?_)],
#[ef,a_,b_,c_,d_,#[gT,K,3,#[Zp,#[Zy,a_,b_,à],#[Zp,#[Zy,c_,b_,à],#[Zp,#[Zy,d_,b_,à],ÈG]]]]],
#[eg,a_,(by simpa using a_)],
#[eh,a_,b_,c_,#[Zp,#[Zy,a_,b_,à],#[Zp,#[Zy,c_,b_,à],ÈG]]],
#[ei,a_,b_,(by rw[a_];exact b_)],
#[ej,a_,b_,c_,d_,#[Zp,#[Zy,a_,b_,à],#[Zp,#[Zy,c_,b_,à],#[Zp,#[Zy,d_,b_,à],ÈG]]]],
#[ek,a_,b_,c_,d_,e_,by refine(_,rfl,_,rfl,d,aA,a_,_,_,rfl,b_,Ψ,Åg,WD ..,nd,_,rfl,ď (k:=.inr c_) ĝ d_,_,rfl,e_ ?_)],
#[el,a_,b_,c_,d_,e_,(_,rfl,_,rfl,d,aA,a_,_,_,rfl,b_,Ψ,Åg,WD ..,nd,_,rfl,ď (k:=.inr c_) ĝ d_,_,rfl,e_ ?_)],
#[em,a_,b_,c_,by obtain a_|b_|rfl:=Ħ c_],
#[en,a_,(.lst (a_ Ä))],
#[eo,a_,b_,c_,d_,Df P w K mg Â a_ b_ c_ d_],
#[ep,a_,b_,by have a_:=b_ T (P:=P) (w:=w) (Â:=Â)],
#[eq,a_,b_,c_,#[Zk,a_,‹b_›,c_,þ]],
#[er,a_,a_ T (P:=P) (w:=w) (Â:=Â)],
#[es,a_,b_,c_,(thn (a_ b_ s c_ H _ I h) ?_)],
#[et,a_,b_,c_,ĵ K a_ b_ = U (U (.ref c_))],
#[eu,a_,b_,c_,d_,∀ (kV a_ b:aa) (b_:Ã ae) (c_ ct:aa) (us:À aa),ÀR=ÀF->bindArgs (ÅJ x d_ (Wz st) (XY st) (Zg st) .none kV a_ b b_ c_ ct) (us,[])=pure (Év us)],
#[ev,a_,ĵ K aL a_ = U af],
#[ew,a_,b_,c_,by obtain a_|b_:=c_],
#[ex,a_,b_,c_,(λ_ _ _ _=>#[gT,K,2,#[Zp,#[cg,a_,b_],#[Zp,#[cg,c_,b_],ÈG]]])],
#[ey,a_,b_,c_,#[Zo,(WS K),È,ÊW,ÊX,#[Ze,‹a_›,#[XF,b_,c_]]]],
#[ez,a_,b_,c_,d_,by rw[a_]at b_;cases b_;have c_:i<d_:=(Ũ a_).1],
#[eA,a_,(by rw[Qa,a_];exact Zs Á)],
#[eB,a_,b_,(λa_ b_=>by cases b_)],
#[eC,a_,ō Óa a_],
#[eD,a_,(λ_ _ _ _ h=>Í (h.2.2.2.2 _ _ a_))],
#[eE,a_,b_,c_,(a_ b_ s c_ H _ I h)],
#[eF,a_,b_,Ī K (.ref a_) b_ = U af],
#[eG,a_,(rfl,_,Í a_)],
#[eH,a_,b_,c_,#[Zp,#[cg,a_,b_],#[Zp,#[cg,c_,b_],ÈG]]],
#[eI,a_,(a_,.«local»,)],
#[eJ,a_,b_,(by show a_<=b_;decide)],
#[eK,a_,b_,c_,(∀b a_,H b=U a_->b≠b_->c_ b=U a_)],
#[eL,a_,b_,c_,d_,e_,(ÅJ x a_ (Wz st) (XY st) (Zg st) .none kV b_ c_ d_ e_ ct)],
#[eM,a_,b_,by refine(λi m ys a_ H=>m=b_-i/\i<=b_/\Pv i ys a_ H,(b_,by simp,Qs _,h0),?_);rintro i m ys a_ H ⟨rfl,hi,p⟩],
#[eN,a_,b_,by obtain a_|rfl:=b_],
#[eO,a_,by refine(λi m a H=>m=a_-i/\i<=a_/\Pv i a H,(a_,by simp,Qs _,h0),?_);rintro i m a H ⟨rfl,hi,p⟩],
#[eP,a_,b_,ÊD K a_ b_=U true],
#[eQ,a_,b_,c_,d_,(show ∃a_,u=b_ c_ a_ from d_)],
#[eR,a_,by rw[Zc (λz=>by rw[z,a_]at this;cases this)];exact this],
#[eS,a_,b_,(by rw[<- a_];exact b_)],
#[eT,a_,b_,c_,d_,Mf P w K mg Â a_ am b_ c_ (d_ aw am)],
#[eU,a_,by obtain u|rfl|a_:=X1 r;cases a_],
#[eV,a_,b_,(λa A Ü s H vs Q E a_ h=>b_ a f A Ü s H vs Q E a_ h)],
#[eW,a_,b_,by refine(a_,_,rfl,û b_,rfl,_,_,rfl,_,_,rfl,_,_,rfl,rfl,?_)],
#[eX,a_,b_,(a_,_,rfl,û b_,rfl,_,_,rfl,_,_,rfl,_,_,rfl,rfl,?_)],
#[eY,a_,b_,c_,d_,(upd (upd a_ b_ (.own c_)) c_ (.ins d_ b_ []))],
#[eZ,a_,b_,c_,d_,e_,by subst a_;cases (show u=á b from b_);obtain z|c_|d_|c|e_:=V0 ê e],
#[e0,a_,b_,#[Xns,K,a_,b_]],
#[e1,a_,b_,ÊD K a_ b_=U false],
#[e2,a_,b_,c_,#[Zk,(@a_ _ K _ b_ È),‹c_›,Ãh,þ]],
#[e3,a_,b_,c_,by intro a_ s b_ H c_ I h],
#[e4,a_,b_,c_,by rw[a_,b_]at c_;cases c_],
#[e5,a_,b_,#[Ze,‹a_›,‹b_›]],
#[e6,a_,b_,c_,d_,e_,by have a_:=b_ ż j c_ fp;have d_:=e_ ż j c_ fp],
#[e7,a_,b_,c_,d_,∀b a_,b_ b=U c_->d_ b=U c_],
#[e8,a_,b_,∀t∈a_,∃its:À aa,ZG (t.2.map kV) its/\Θ b_ t.1 İ],
#[e9,a_,b_,c_,d_,by cases (show u=á b from a_);obtain z|b_|c_|c|d_:=V0 ê e],
#[fa,a_,λc H R=>b c H λx a=>X2 λd kvs=>x=.ref d/\a d=U Áf/\∀o,R (a_ d o kvs) (upd a d Ág)],
#[fb,a_,b_,c_,∀C s H fp,a_ É6 b_ c_],
#[fc,a_,b_,c_,d_,e_,by rw[Qe];refine QaW.mpr (a_,by simp,λa b_ b c_=>?_);rw[em,d_,e_,b_]],
#[fd,a_,b_,c_,(by rw[a_];exact b_ c_)],
#[fe,a_,b_,c_,(∀b o,a_ b=U o->b≠m->b≠b_->c_ b=U o)],
#[ff,a_,b_,c_,(λa_ o b_ e=>c_ a_ o b_ e)],
#[fg,a_,b_,c_,d_,∀b a_,b_ b=U a_->b≠c_->d_ b=U a_],
#[fh,a_,(λi m a H=>m=a_-i/\i<=a_/\Pv i a H,(a_,by simp,Qs _,h0),?_)],
#[fi,a_,Ðs K a_=true],
#[fj,a_,b_,c_,d_,e_,Ļ a_=U (.type "tuple",b_,.seq #[.ref c_,.none] d_,e_)],
#[fk,a_,b_,bE a_ b_ Ì (ă a_ Ì)=ă a_ Ì],
#[fl,a_,by refine(λi m a H=>m=a_-i/\i<=a_/\Pv i a H,(a_,by simp,Qs _,h0),?_)],
#[fm,a_,by rw[Zc (λz=>by rw[z,a_]at this;cases this)]],
#[fn,a_,b_,c_,d_,by obtain⟨a_,rfl⟩:∃b_:Nat,c_=(b_:Int):=(d_,by lia)],
#[fo,a_,(.builtin a_)],
#[fp,a_,b_,c_,d_,#[Zz,a_,b_,#[Ze,‹c_›,‹d_›],È]],
#[fq,a_,#[Zh,#[Zm,‹a_›]]],
#[fr,a_,(ă a_ Ì)],
#[fs,a_,aG [a_] Ì=[(false,ă a_ Ì,)]],
#[ft,a_,∀a_ s',XE X E a_ s'->è a_ s'],
#[fu,a_,#[ZD,(ixG a_),‹0›,Ý]],
#[fv,a_,b_,c_,d_,by have a_:(upd b_ c_ d_) c_=U d_:=Zb],
#[fw,a_,b_,Ī K a_ "__init__" = U (U b_)],
#[fx,a_,b_,c_,by exact(_,a_,λb_ c_=>by cases c_)],
#[fy,a_,b_,c_,by have:=a_;rw[<- b_,z,c_]at this;cases this],
#[fz,a_,b_,c_,d_,e_,by refine QaW.mpr (a_,by simp,λa b_ b c_=>?_);rw[em,d_,e_,b_]],
#[fA,a_,b_,c_,(_,a_,λb_ c_=>by cases c_)],
#[fB,a_,b_,c_,#[Ze,‹a_›,‹b_›,‹c_›]],
#[fC,a_,b_,c_,(∀a_ b_,N a_ b_->∃c_,c_<m/\W (i+1) c_ a_ b_)],
#[fD,a_,b_,c_,(a,b,by rw[Zc a_];exact b_,c_)],
#[fE,a_,b_,c_,ZR a_ b_ H m rd sd L s nb li lo c_],
#[fF,a_,b_,c_,(∀b a_,b_ b=U a_->c_ b=U a_)],
#[fG,a_,(ÆZ (Äs a_ (Zg st) Ð f a))],
#[fH,a_,(ÆS { cls:=.type a_,Ó:=.fields #[.ref d] })],
#[fI,a_,(a_ λt=>á t.1)],
#[fJ,a_,b_,(∀s∈a_,ŝ<=b_/\AZ s)],
#[fK,a_,b_,c_,(.tup [.int a_,.int (b_:Int),.str c_])],
#[fL,a_,(by rw[a_];lia)],
#[fM,a_,b_,c_,(show Z8 ö X.w H Ë a_ (.dK b_) from ê a_ _ c_)],
#[fN,a_,b_,(.lst ((a_ b_).map Ä))],
#[fO,a_,b_,(λ_ _ _ _=>#[cg,a_,b_])],
#[fP,a_,(a_,.globalImplicit,)],
#[fQ,a_,by refine Y1 (λa_=>?_) (λa_=>?_)],
#[fR,a_,b_,#[Zz,a_,C,#[Ze,‹b_›,Û],È]],
#[fS,a_,b_,c_,d_,by obtain its|a_|b_|c_:=Á5 d_],
#[fT,a_,b_,a_ ö X.w X.K ğ Œ k C b_ ps sp],
#[fU,a_,b_,Qd (f:=λy:AR=>(a_,y,)) b_],
#[fV,a_,by rw[ĕ (no ú:¬ Ä a_ = Ä "row")]],
#[fW,a_,Ī K a_ "__getattribute__" = U ÙK],
#[fX,a_,b_,c_,by rw[a_]at b_;cases c_],
#[fY,a_,(by rw[a_];decide)],
#[fZ,a_,ÃC a_=U .local],
#[f0,a_,((a_+1:Nat):Int)],
#[f1,a_,["self", a_]],
#[f2,a_,b_,(a_ : ak)=⟨[b_].toArray⟩],
#[f3,a_,b_,c_,by rw[a_,b_,mR]at c_;refine thn c_ ?_],
#[f4,a_,b_,by refine(_,rfl,m,am,a_,_,rfl,b_,â,Â8,We ..,?_);rw[RR]],
#[f5,a_,b_,by exact .inr (by rw[show b=a_ from z];exact b_)],
#[f6,a_,b_,(.inr (.inr (.inr (a_,b_,.inl z))))],
#[f7,a_,Ī K a_ "__class__" = U (U ÇK)],
#[f8,a_,b_,(a_,g,d,b_,os)],
#[f9,a_,b_,c_,d_,by obtain a|b|a_|b_:=c_;exact(a,b,by rw[Zc d_];exact a_,b_)],
#[ga,a_,b_,#[ZM,#[YN,QE,QF,QG,Z3,‹a_›,#[Ze,‹b_›]]]],
#[gb,a_,b_,by exact(a_ e b_).keep (Zc a.symm) (Zc b.symm) (Zc c.symm)],
#[gc,a_,PySem.W.isClsIn K a_=true],
#[gd,a_,Ī K a_ "__setattr__" = U Éo],
#[ge,a_,b_,hdS (Zt64 (a_ (b_ ZJ)))],
#[gf,a_,b_,(upd a_ b_ Ş)],
#[gg,a_,b_,c_,(thn #[eE,a_,b_,b] λu g ⟨y,i,j,k,c_⟩=>thn (ha b_ g b i _ j c_) ?_)],
#[gh,a_,b_,c_,(_,rfl,m,am,dx,_,_,rfl,a_,â,b_,c_ ..,_,_,rfl,rfl,dx,_,a_,We ..,?_)],
#[gi,a_,b_,(ha pos a_ s b_ H _ I h)],
#[gj,a_,b_,c_,hdS (Zt64 (a_ (b_ (c_ ZJ))))],
#[gk,a_,b_,c_,d_,by refine(_,rfl,m,am,dx,_,_,rfl,a_,â,b_,c_ ..,_,_,rfl,rfl,dx,_,a_,We ..,?_);rw[d_]],
#[gl,a_,b_,(_,rfl,m,am,a_,_,rfl,b_,â,Â8,We ..,?_)],
#[gm,a_,b_,c_,d_,by obtain a_|b_|rfl|c_|d_|q:=h],
#[gn,a_,b_,c_,by refine(_,rfl,m,am,dx,_,_,rfl,a_,â,b_,c_ ..,_,_,rfl,rfl,dx,_,a_,We ..,?_)],
#[go,a_,(Äs a_ (Zg st) Ð f a)],
#[gp,a_,b_,by refine(_,rfl,m,am,a_,_,rfl,b_,â,Â8,We ..,?_)],
#[gq,a_,Qd (f:=λt:ae×À Key=>t.2) a_],
#[gr,a_,b_,(.str a_,H,š _,ü,b_)],
#[gs,a_,(upd a_ D (.lst (ys++[y])))],
#[gt,a_,b_,c_,a_ λb_ c_=>h b_ (Qm _ c_)],
#[gu,a_,b_,#[ew,a_,b_,M.ob]],
#[gv,a_,(QL X G a_).symm.trans h],
#[gw,a_,b_,c_,by obtain a_|g|d|b_|os:=c_],
#[gx,a_,PySem.W.mroIn K a_ ÍK=U true],
#[gy,a_,Ī K a_ "__getattr__" = U af],
#[gz,a_,b_,c_,d_,by obtain a_|e|d:=T.obj _ _ b_ b c_;exact(d_ (b,a_,) (QD _ (QD _ (U4 c_ e)))).2.1],
#[gA,a_,b_,c_,d_,e_,by have a_:=Zi b_ Ş;have c_:(upd d_ e_ Ş) e_=U (.lst (([]:À ak).map Ä)):=Zb],
#[gB,a_,b_,(a_ : ak).length=b_],
#[gC,a_,((af,rfl),rfl,Qs _,Zb,Zi a_ _)],
#[gD,a_,b_,(.lst ((a_++b_).map Ä))],
#[gE,a_,b_,c_,d_,(upd a_ b_ (.lst ((c_ d_).map Ä))) b_=U (.lst ((c_ d_).map Ä))],
#[gF,a_,(_,Í a_)],
#[gG,a_,(λz=>a_ (.inl z))],
#[gH,a_,b_,c_,by refine(_,rfl,Υ,λa_ b_=>?_);have c_:=Zi b_ Ş],
#[gI,a_,b_,(∀x a_,δ x=U a_->a_≠b_)],
#[gJ,a_,b_,c_,by exact(a,b,by rw[Zc a_];exact b_,c_)],
#[gK,a_,b_,#[Yi,a_,â,b_,‹0›]],
#[gL,a_,b_,c_,d_,e_,by have a_:(upd b_ c_ (.lst ((d_ e_).map Ä))) c_=U (.lst ((d_ e_).map Ä)):=Zb],
#[gM,a_,b_,by rw[ew,a_,b_,M.ob]],
#[gN,a_,b_,ÊD K a_ (.ref b_)=U true],
#[gO,a_,(.tup [.int (ZX a_).1,.int (ZX a_).2])],
#[gP,a_,b_,(by rw[show b=a_ from z];exact b_)],
#[gQ,a_,b_,c_,d_,(upd a_ b_ (.dK (c_ d_)))],
#[gR,a_,by exact Q9 a_ Ġ ŷ f e Ài c],
#[gS,a_,b_,c_,d_,e_,Inv X a_ b_ c_ { d_ with Õ:=e_ }],
#[gU,a_,b_,c_,d_,e_,by rintro u a_ ⟨x,b_,c_,d_,a,dx,fs,ex,e_,l,q⟩;subst ex;obtain rfl:u=á a:=d_],
#[gV,a_,b_,c_,d_,(.ListComp a_ [(b_,ļ,c_,0)] d_ pos)],
#[gW,a_,b_,#[YN,QE,QF,QG,Z3,‹a_›,#[Ze,‹b_›]]],
#[gX,a_,b_,((lcp a_ b_:Nat):Int)],
#[gY,a_,by rw[z,a_]at this;cases this],
#[gZ,a_,(by show a_<=_;rw[(aO)];decide)],
#[g0,a_,b_,#[Zk,a_,‹b_›,#[Zo,WK,È,Ái,Qy,Ák],þ]],
#[g1,a_,b_,c_,ĵ K aL a_ = U (U (.int b_ c_))],
#[g2,a_,b_,#[Zz,a_,b_,Ák,È]],
#[g3,a_,Ī K (.ref a_) "__setattr__" = U Éo],
#[g4,a_,by exact nomatch z.one a_],
#[g5,a_,b_,c_,d_,e_,by have a_:(Áz++(b_ : ak)).length<=0+c_:=z É É É;have d_:=z a_ e_ É],
#[g6,a_,#[eq,Xe,a_,ş]],
#[g7,a_,b_,c_,(∀b o,H b=U o->¬ Fp m a_ b_ L b->c_ b=U o)],
#[g8,a_,b_,c_,d_,by have a_:(upd b_ c_ #[en,d_]) c_=U #[en,d_]:=Zb],
#[g9,a_,b_,c_,d_,e_,by intro a_ b_;have c_:=Zi b_ (.dK []);have d_:(upd e_ a_ (.dK [])) a_=U (.dK []):=Zb],
#[ha,a_,#[Zh,#[Zm,a_]]],
#[hb,a_,(WI a_ rfl ú)],
#[hc,a_,b_,#[Zu,a_,b_,à,Ãh]],
#[hd,a_,b_,(a_ b_=U .cell\/a_ b_=U .free)],
#[he,a_,b_,c_,d_,by rw[e3,a_,b_,Q];refine bi (W7 I c_ hm ?_ d_)],
#[hf,a_,by exact Q8 a_ Ġ ŷ e Ài h],
#[hg,a_,b_,(∀H,SqT K H a_ [.ref b_,.non])],
#[hh,a_,b_,by have a_:(kvA R).length=ω:=Qa ..;rw[a_,Qv (Qf _)]at b_],
#[hi,a_,b_,by rw[a_]at this;exact Ê this (Qbi.mpr b_)],
#[hj,a_,b_,#[WL,(slL K),‹a_›,(@WA _ _ _ ‹b_›),(@V3 _)]],
#[hk,a_,b_,c_,d_,Df P w K mg Â a_ b_ [c_] d_],
#[hl,a_,b_,c_,ZR cR cM a_ X.m Ń b_ c_ s' Đ (ň+k) (ŉ+q) (Yz w)],
#[hm,a_,#[cM].get? (a_ Ë S1 S2 a b).objs.size=U _],
#[hn,a_,b_,c_,d_,by subst a_;obtain z|b_|c_|c|d_:=Wg ê e],
#[ho,a_,b_,(a_,_,rfl,û b_,rfl,_,_,rfl,_,_,rfl,rfl,?_)],
#[hp,a_,b_,c_,(upd a_ b_ #[en,c_]) b_=U #[en,c_]],
#[hq,a_,#[Zo,(Yk K),È,Ái,Qy,#[Ze,‹a_›]]],
#[hr,a_,b_,(a_ Ë S1 S2 a b).objs.size=Ð+b_],
#[hs,a_,b_,c_,d_,∀a_ b_,a_≠c_->d_ a_=U b_->ÿ a_=U b_],
#[ht,a_,b_,c_,(∀ (s:aj) (a_:aa),Æ2 s b_ ([a_],[]) [(c_,a_,)])],
#[hu,a_,b_,c_,(XH (CX1 P w) P w K mg Â N a_ b_ f c_ A Ü s H E)],
#[hv,a_,b_,(.type "dict",af,.dict a_ b_,#[])],
#[hw,a_,b_,c_,d_,e_,by have a_:atI [ì b_,.int c_] d_=U (.int e_):=XZ (j:=d_) rfl],
#[hx,a_,b_,c_,d_,e_,by have a_:=h a Ö;have b_:=#[gt,c_,d_,e_]],
#[hy,a_,a_->aj->Prop],
#[hz,a_,b_,(S1.at_keep (λo e=>a_ _ o D.i1z e) b_)],
#[hA,a_,nomatch z.one a_],
#[hB,a_,b_,by refine(a_,_,rfl,û b_,rfl,_,_,rfl,_,_,rfl,rfl,?_)],
#[hC,a_,b_,(@a_ _ _ _ _ ‹b_›)],
#[hD,a_,b_,c_,d_,by obtain a_|b_|c_:=d_],
#[hE,a_,b_,c_,by intro a_ s b_ H c_ us Q I r h],
#[hF,a_,b_,(SqL a_ H p b_\/SqT a_ H p b_)],
#[hG,a_,(.int (a_:Int))],
#[hH,a_,b_,((a_ : ak) = b_)],
#[hI,a_,b_,by rw[Ç a_]at b_],
#[hJ,a_,À (ak×a_)],
#[hK,a_,by have hb:(g == a_)=false:=Æz h],
#[hL,a_,(λ_ _ _ _ h=>h.2.2.2.2 _ _ a_)],
#[hM,a_,b_,by rw[Ç a_,Ç b_]],
#[hN,a_,b_,by intro ai s σ H x y v u Q I a_ b_ h],
#[hO,a_,ÕU K a_=true],
#[hP,a_,by rw[<- a_]at this;exact this],
#[hQ,a_,b_,#[Yd,(@a_ _ _ _ _ ‹b_›),#[Yd,Ý,(@UQ _)]]],
#[hR,a_,b_,{ a_ with Õ:=b_ }],
#[hS,a_,b_,(by rw[Zc a_];exact b_)],
#[hT,a_,b_,c_,(.lst (a_ λb_=>ù c_))],
#[hU,a_,b_,c_,(λa_ b_ c_=>?_)],
#[hV,a_,((a_:Nat):Int)],
#[hW,a_,(∀b∈fp,a_ b=af)],
#[hX,a_,b_,c_,d_,(.DictComp a_ d [(b_,ļ,c_,0)] d_ pos)],
#[hY,a_,((af,af,rfl),rfl,Qs _,Zb,Zi a_ _)],
#[hZ,a_,λ_ _ _ _ _ st h=>a_ st h],
#[h0,a_,b_,by refine a_ b_ Èt ÔO],
#[h1,a_,b_,(.tup [.int a_,.int b_])],
#[h2,a_,b_,by unfold a_ at b_;rw[Qq]at b_],
#[h3,a_,b_,∀b u,a_ b=U u->b≠b_->(upd a_ b_ ÈL) b=U u],
#[h4,a_,b_,#[Xfi,K,a_,"__init__",b_]],
#[h5,a_,b_,#[Xfi,K,am,a_,b_]],
#[h6,a_,b_,c_,d_,e_,Ļ a_=U (.type "tuple",b_,.seq #[.str "name" c_] d_,e_)],
#[h7,a_,b_,c_,(_,_,a_,Xo b_ #[eJ,0,100] .nil,Xo c_ ÈQ ÔN)],
#[h8,a_,Pv 0 [] Ø6 #[gf,a_,D]],
#[h9,a_,ÂI+a_<ÂJ],
#[ia,a_,(by show a_<1000;decide)],
#[ib,a_,a_ tm=U (.tup ((Ëk:À Key).map kV))],
#[ic,a_,b_,c_,d_,e_,by obtain z|a_|b_|c_|d_:=e_ ê e],
#[id,a_,b_,a_ λ_ _ _ _ _ _ _ q=>b_ q],
#[ie,a_,b_,#[ZD,(ixG a_),Ģ,‹b_›]],
#[ig,a_,b_,(.inr (.inr (.inr (a_,b_,z))))],
#[ih,a_,a_ ÏQ x],
#[ii,a_,b_,c_,(λa_ b_ c_=>Qc _ c_)],
#[ij,a_,(_,QL X G a_)],
#[ik,a_,b_,(á a_::b_).contains ÀI=true],
#[il,a_,b_,#[Zk,a_,b_,Û,þ]],
#[im,a_,b_,(((a_ b_).length:Nat):Int)],
#[io,a_,b_,c_,by have a_:(Áz++(b_ : ak)).length<=0+c_:=z É É É],
#[ip,a_,b_,c_,d_,by have a_:=z b_ (show (c_ : ak).length<=d_ by decide) É],
#[iq,a_,b_,(_,rfl,a_,_,_,_,rfl,rfl,Í b_,rfl,?_)],
#[ir,a_,a_ ö X.w X.K ğ Œ k x ps sp],
#[it,a_,b_,[.int a_,.int b_]],
#[iu,a_,b_,(∀t∈a_,b_ t.1=U (.tup [kV t.2.1,t.2.2]))],
#[iv,a_,b_,c_,d_,e_,by have a_:=Zi b_ (.dK []);have c_:(upd d_ e_ (.dK [])) e_=U (.dK []):=Zb],
#[iw,a_,b_,c_,Ļ a_=U (.type "dict",af,.dict b_ c_,#[])],
#[ix,a_,(.tup (a_ kV))],
#[iy,a_,(.type a_)],
#[iz,a_,(∀u∈a_,Y2 u.2 t.2=false)],
#[iA,a_,b_,by rw[<- z,a_]at b_;cases b_],
#[iB,a_,(by rw[Qq,Qb a_]<;>rfl)],
#[iC,a_,b_,c_,d_,(λ_ _ _ _=>#[gT,K,3,#[Zp,#[cg,a_,b_],#[eH,c_,b_,d_]]])],
#[iD,a_,(ÇT (Zi a_ _))],
#[iF,a_,(λa_ H Q E h=>?_)],
#[iG,a_,b_,c_,by obtain m|⟨o,_,_,a_,_⟩|_:=b_;exact c_ _ _ a_ ÅN],
#[iH,a_,b_,c_,by rw[show nd=a_ from z,b_]at c_;cases c_],
#[iI,a_,b_,by refine(_,rfl,a_,_,_,_,rfl,rfl,Í b_,rfl,?_)],
#[iJ,a_,b_,c_,d_,e_,by refine(_,rfl,_,rfl,_,rfl,a_,_,rfl,Í b_,λc_ d_=>?_);rw[e_]],
#[iK,a_,b_,c_,d_,(_,rfl,_,rfl,_,rfl,a_,_,rfl,Í b_,λc_ d_=>?_)],
#[iM,a_,b_,c_,by obtain f|fd|F|a_|b_|c_:=F.ex],
#[iN,a_,by obtain o|B|e|_:=ÌN a_],
#[iO,a_,b_,(upd a_ b_ (.dK []))],
#[iP,a_,b_,(upd a_ e (exN e C (U b_)))],
#[iQ,a_,b_,#[Xg,Ģ,‹a_›,(Ww b_)]],
#[iR,a_,b_,#[Zz,a_,b_,Ê2,È]],
#[iS,a_,b_,by rw[Æ a_,Æ b_]],
#[iT,by refine ÜS F.entry_min_loop ?_;show ar _ _ (seqItems? (.ref S) >>= _) _ _ _],
#[iU,by have q:=(ÄN k).isSome_eq;rw[ØD]at q;rw[<- q,<- l];exact h _ (š _)],
#[ÄR,⟨#[(48)+n]⟩],
#[iW,by rw[aa];obtain i|j|rfl|q:=h;obtain u|w'|rfl|⟨t,rfl⟩|⟨t',rfl⟩:=S0 r],
#[Äu,Zn N ps (Zg st)],
#[Äk,YB X.K fd ps ds],
#[Á9,A.handled=af],
#[i1,(show ė from r)],
#[Ú2,(by rcases dU with z|z|z<;>rw[z];exact n1.symm;exact n2.symm;exact n3.symm)],
#[ÉL,(K ÊF)],
#[ÇV,((Ç2).map Ãl)],
#[Í6,["self", "meeting", "comer"]],
#[i6,by rw[ew,A,B,y];obtain C|f|D:=I.dictF A hd;have p:ø=C.length:=Ád],
#[Òm,e ∉ (env::Ü).filterMap (·.frame)],
#[ÙO,[λv=>ËF Ì z v,λv=>ËF Ì y v,λv=>ËF Ì x v]],
#[ÐM,V->Ã Int->Ã Int->Hp->VK->Prop],
#[Ðx,(.Assign [.Attribute o f dr] Àh pos)],
#[jb,by rw[Zc (Zf this hu),Zc (Zf this qD)];exact this],
#[Ù3,["_law_left_here", "_law_some", "_law_first", "_law_letters", "_law_at"]],
#[Ö5,(∀c o,c≠z->c≠TO->c≠i1->c≠i2->é c=U o->ÿ c=U o)],
#[ØL,(λxs H Q=>X2 λa kvs=>xs=[ù a]/\H a=U Áf/\Q (.int ø) H)],
#[Ùg,(λT=>NB ŵ H Êv T/\(hideAll Ë ch).get? T=af)],
#[ÛF,(_,rfl,rfl,_,rfl,Y1 (λd=>nomatch (Ŀ d)) (λ_=>?_))],
#[jh,by obtain gX|r1|m1|f1:=I.src C;obtain ij|r2|m2|f2:=I.src F;have T:=g z Ö],
#[ÁV,(Çj H)],
#[ç,(Qf _)],
#[ÎU,#[ZD,(ixT K),‹3›,Û]],
#[Îo,ě rfl],
#[ÊK,["number", "keys"]],
#[Ê9,À (Int×Ã ak)],
#[Üf,Df P w K mg Â 15 "ask_take" Ŝ (Yq aA aw am λo=>∃n,o=.take n)],
#[Óq,(upd (upd H f A) r B)],
#[Ä5,#[Ze,‹2›]],
#[Üv,∀l:À ak,(∀x∈l,Č<=50)->(Â0 Âq).sum<=50*ś],
#[Îb,["_law_desk", "_law_many"]],
#[ţ,À Nat],
#[Üe,Df P w K mg Â 15 "do_drop" Ŝ (Yq aA aw am λo=>∃s,o=.drop s)],
#[Åa,(Ĥ:Int)],
#[Ûf,([("all_keys",.ref k,),("fars",.ref f,),("gone",.int g,)]:À (ak×V))],
#[ÂM,(ÉN rfl)],
#[Ū,(.ref p)],
#[jz,by rw[exec_Assign_arm];refine ah (bx ?_);rw[hs];refine ah (av ?_);rw[Ç É]],
#[Ï6,[.Tuple [.Name x g,.Name y k] kt pt]],
#[jB,(Äx { cls:=.type "list",Ó:=.seq ([]:À aa).toArray })],
#[Üa,(p,_,rfl,û Zb,rfl,_,_,rfl,_,_,rfl,rfl,_,rfl,rfl,_,rfl,?_)],
#[ØB,ÆD S=U { cls:=.type "list",Ó:=.seq #[.ref t.1,.ref t.1] c }],
#[Ù0,["_law_left_here", "_law_stems_here", "_law_letters", "_law_tail"]],
#[Üg,Df P w K mg Â 15 "ask_coming" Ŝ (Yq aA aw am λo=>o=.coming)],
#[ÎV,(rfl,rfl,rfl,rfl,rfl)],
#[ÔG,λe:AR=>((.inr Ú:Key),ù e.t,)],
#[jI,by obtain g|d|r:=e.get b;rw[show its[k]? = U u from f]at d;cases d;exact r],
#[Í9,["word", "least", "most"]],
#[Í0,["_law_script", "_law_k"]],
#[Âg,SB k0 aW st],
#[Çx,KeyOrd.kle_refl _],
#[Å0,ā Ð3],
#[Ðn,(λy=>if y=name then U v else mA y)],
#[ÏF,(Òf (ZL P w))],
#[jQ,(f.2 b (Qz (QB (Qr e) ÈZ)))],
#[Ît,(YV k f g)],
#[Àg,(U Ċ)],
#[Õp,(Rm ha hb I h λv u f x y g i j k q=>c d f e g x y v u Q i j k q)],
#[ÔH,(.tup [.int n,.ref B,.int (g:Int)])],
#[ÁE,(.lst ys)],
#[ÚP,(.ins am dx (mgF j l (p+1) lo C r))],
#[ÐZ,(.call (.ref fa) ([.ref a],[]))],
#[Îp,#[Zh,#[Zm,(@U7 _ _ _ _)]]],
#[Ó9,#[Zd,Ën,#[Zd,Ën,#[Zh,Ën]]]],
#[Úy,(_,rfl,_,rfl,y,rfl,ē i,rfl,_,rfl,Y1 (λc=>?_) (λc=>?_))],
#[j1,by simp only[ÔP];rw[Ç Á]],
#[Òl,ÆH Â (env::Ü)],
#[ó,(·.1)],
#[ÒU,(ÇM "list" ÙY 0)],
#[Î9,(_,rfl,rfl,_,rfl,?_)],
#[Û0,Df P w K mg Â 3 "written_heads" ["desk", "heads"] (MQ K aA)],
#[Üi,Df P w K mg Â 15 "ask_rows" Ŝ (Yq aA aw am λo=>o=.rows)],
#[Üh,Df P w K mg Â 15 "ask_left" Ŝ (Yq aA aw am λo=>o=.left)],
#[Ó1,(L++[(i,u,k,f,l,0)])],
#[π,(.ref D)],
#[ÔB,(.lst ((Ôy).map Ä))],
#[kc,by rw[show its.toArray.any (eqU x)=its.any (eqU x) by simp,P9 r fs];exact q],
#[Ët,[thT (YT nm e.n) z]],
#[į,À ZI],
#[Ãv,Ãq a],
#[Õ3,(thn #[gi,a,b] λk l ⟨m,n,o,q,u⟩=>hc a l b n m k Q o q u)],
#[ÐJ,(Äs a b Ð f c)],
#[ÃG,(Ď a)],
#[ÀE,(.lst xs)],
#[ÃO,(.lst Ào)],
#[ÙH,(.Call (.Attribute (.Name x p) "__init__" bv) (e::es) [] pos)],
#[km,by obtain rfl|L:=d j;obtain rfl|m:=b.link L k l;exact(rfl,m)],
#[Ì6,(o,k it Ö o e,r)],
#[ko,by simp only[dJ,Ε,Option.getD_none,show (1:Int)>0 by decide,Çg]],
#[kp,by rintro v j ⟨x,g,i,k,d⟩;obtain c|rfl|d:=d;cases k;refine bq ?_],
#[Ùj,YY ö X.w X.K ğ Œ (CX1 ö X.w) k f fd ps sp],
#[Ìv,V->À V->Hp->VK->Prop],
#[ÎE,Ts _ _ _ ú ú ú],
#[Ðj,Ī K æ name=U af],
#[ĳ,À aK],
#[Ít,À (À Key×ae×aa)],
#[ÎP,(λe=>(e.n,(Ò,e.g,),))],
#[Ìx,(bv.endLine == br.line)],
#[Úp,(ÁC (min ã ĥ) true).all id=true],
#[Ä3,(ĸ toL)],
#[ØA,(.builtin "min.loop" { pos:=[.ref I,.none,.ref S],kw:=kw })],
#[Ĺ,#[1,YH]],
#[Ùb,∀b o,é b=U o->(∀g,ų≠.fields g)->b≠T],
#[Ü2,(XH (CX1 P w) P w K mg Â N b (Zg st) f a A Ü s H E)],
#[ÓV,(_,rfl,rfl,_,rfl,Y0 rfl ?_)],
#[ÒV,["_law_left_here", "_law_many"]],
#[ÊO,["_law_keys_here"]],
#[Éb,V->V->Hp->VK->Prop],
#[ÕT,(thn #[gi,g,i] λus s1 ⟨vs,H1,a,r,q⟩=>(a.kIn,?_))],
#[Ò6,(if b=true then (1:Int) else 0)],
#[Éx,(aG (e::es) Ì)],
#[ÚS,(.tup [.int D,.int (ÀK:Int)])],
#[Áw,(.ref it)],
#[kN,by have:ÃC x=U .free:=hk;rw[k]at this;cases this],
#[ÌP,Èv "__next__"],
#[Ν,[.ref p]],
#[ÌT,SU z TI TO i1 i2 S1 S2],
#[Î8,(Ï->Hp->Prop)->Prop],
#[Úg,(.lst [.str "ababcz",.str "abcdefghijklmnopqrstuvwxyz"])],
#[ÍV,(#[86].length-(2-1-1))],
#[Úe,(_,rfl,by unfold AZ cds;ac_rfl,by ac_rfl,by ac_rfl)],
#[Ùi,(F,h,T,i,j,G,J,K,L,N,O,k,l,P,n,hideAll_none _ Ö)],
#[kW,by rw[cs];obtain i|j|rfl|rfl|q:=h;rw[eN,t,a];rw[eN,c,b]],
#[kX,by refine((o,e,ex.1),λa g=>?_);cases g;exact(o,e,ex.2.1)],
#[Ç3,(ss.map ÃQ)],
#[ÍO,(ÁK+1)],
#[k0,(Xw n ks k f x)],
#[ÚX,(.tup [.int (i:Int),.ref x.1])],
#[Ój,(.lst (ÃP Ä++[.str k]))],
#[Úv,(.lst ((ÂO ī).map λj=>.int (WZ ss j)))],
#[Óh,#[XQ,YS,‹0›,‹1›,þ]],
#[Ŋ,#[2,Yy]],
#[ÅR,(rfl,?_)],
#[Ä6,(λ_ _=>rfl)],
#[Ä8,(ZY P).Nodup],
#[Ã8,(EP X a b Q)],
#[Ëx,([],0,0,0,[])],
#[lb,by subst w;rw[fX,B,g,g];rw[List.getElem?_set_self Y]at l;cases l],
#[lc,by rw[gw,b,tk,s];have f1:=F.conv_sub_int;have f2:=F.madeHere_int],
#[ld,by rw[Qa];exact Zs Á],
#[ι,Zt k X.A],
#[Ök,Y5 a ((n,k,)::r) b=Y5 a r ((n,(a.lookup n).getD 0,)::b)],
#[ÐF,Áb X.K Ċ=true],
#[Éh,Nat->St->Hp->Prop],
#[ÃD,ā ÁG],
#[ÃT,2<=Àr],
#[ÃY,.inr "rows"],
#[Îz,(λe=>decide (e.1=k))],
#[ÍH,(Çl Ś env)],
#[Ì9,(mirror_perm _ _ _ _)],
#[ÎL,(.ins am g ÎM)],
#[ÓP,((ĭ:Int)-(e.g:Int))],
#[Ód,#[eo,1,"alike_from",ÄS,R8]],
#[ÔI,#[eo,1,"_law_heads",ÁQ,Rw]],
#[ô,#[9,X]],
#[Úl,(_,rfl,_, "bool",_,_,rfl,.bl b,Jv K,_,rfl,YM ?_)],
#[lv,by obtain _|_|_|_|o|_|_|e|ex|_:=ê p _ b;exact(o,e,ex)],
#[ÛO,(X.m,Ń,f,X.L++[e],s',Đ+1,ň+k,ŉ+q,w)],
#[Ùk,∀self:aa,refuseLoop self "__setattr__" bm=pure ()],
#[Ûy,M1f P w K mg Â 1 am "row_of" ÁP (Na aw am aB)],
#[Û3,Df P w K mg Â 4 "written_things" ÇR (MP K aA)],
#[lA,(Äx { cls:=.type "dict",Ó:=.dict #[] })],
#[Ún,((af,af,rfl),rfl,Ïq (Zi t _),Zb,Qs _)],
#[lC,by show wpS _ _ _ _ (get >>= _) _ _;refine Ő (Êa ?_)],
#[lD,by show ar _ _ (ÅD æ _) _ _ _;refine(QaB X2 m).at ?_],
#[lE,by rw[Ba];obtain W|⟨m0,w0⟩|turn:=hR Âc hD],
#[Ìe,H a=U (.ins C dx fs)],
#[ÜI,AL H1 H d rd rl dl R c (Ãi Ω++[Áo]) as],
#[ÜP,(upd H2 dl (.lst (J.map Ä++[Ä (blT ws)])))],
#[lI,(low n (Z9 8 N n) i)],
#[Û5,(Ů Ä)],
#[Èu,(Ò++ks)],
#[Ál,(Y7 M n)],
#[Ãd,(X.L++[e])],
#[Ïr,(ĉ (·.n)).Nodup],
#[Ìo,(ÆI (QV _))],
#[Àw,(.ref d)],
#[ÂB,(.frz o u)],
#[È8,x ≠ "__name__"],
#[lS,by rintro _ s8 ⟨kC,H8,I8,q8⟩;have P2:=fG _ s8 kC H8 _ I8 q8],
#[lT,by refine Y1 (λd=>Ê (Ŀ d) e) (λ_=>Y8 ?_)],
#[Õi,[λv=>ËF Ì y v,λv=>ËF Ì x v]],
#[ÊM,["kind", "many"]],
#[Áu,PE X a ta],
#[ę,(·.2)],
#[lY,(backToKw br (cG [] Ì))],
#[ÓI,(ZT ý Ĕ=0/\I.n<J.n)],
#[ÁD,(Xr N vs)],
#[ËB,(ĉ (XN e t))],
#[ÒJ,((ÁN z y).map Ä)],
#[Óp,#[eo,1,"order_at",ÊI,RZ]],
#[l4,by refine ah (Íf ?_ ÅU)],
#[Ñy,(zH1 c S1 a,g,d,tk,os)],
#[Ä9,λx:ZI=>x.1],
#[l7,by refine ÉF rfl (Ög ?_)],
#[l8,by obtain _|q1|_|q3|q4|q5:=f3 b k;exact(q3,q1,q4,q5)],
#[ÒX,["desk", "heads", "names"]],
#[ÌS,Ã aa->aj->Prop],
#[Ò8,(by show (0:Int)<_;decide)],
#[Į,(ZC L)],
#[ÄZ,(Í Zb)],
#[Äd,#[iy,"int"]],
#[ÄU,#[f1,"row"]],
#[Öe,typeOf #[fo,id]=pure #[iy,"method_descriptor"]],
#[ÙI,YY ö X.w X.K ğ Œ CX0 k f fd ps sp],
#[ÜB,(s.cps.toList.all λc=>decide (97<=c/\c<=122))],
#[η,[.ref a]],
#[ς,À Key],
#[Ûz,D1f P w K mg Â 5 "refuse_break" ÊK (Nb K ao)],
#[Ïa,(ě rfl)],
#[Ùd,(NB ŵ a ((X.pn++d).map ó))],
#[Ér,Ð],
#[ÇA,(_,rfl,q)],
#[Èm,(_,_,rfl)],
#[Ës,(_,_,_,rfl)],
#[Ðo,{ s with î:=ń+1 }],
#[ÇF,env.frame=U L],
#[ÑB,ū x=U .local],
#[ÉE,Ê Ýd Qu],
#[É4,[z,TI,TO,i1,i2]],
#[ÊL,["name", "key"]],
#[Ðk,ÅB K Ċ=true],
#[ŧ,À ae],
#[ÇB,À (κ×aa)],
#[Ös,(∀f h j,N f h j->∃l,l<m/\W (i+1) l f h j)],
#[Ð0,(λf vs=>PySem.call f vs)],
#[ÊC,(j.objs.size+1)],
#[Ðf,(f (.int i t) (.int j u))],
#[ÐX,(ak->Ã aa)->aI->Prop],
#[Ê7,(Yf s k v)],
#[Åb,(YU L e.n)],
#[ÜW,(XH CX P w K mg Â N o j f t A Ü s H E)],
#[ÂH,(š _)],
#[ÚT,(.tup [.int (Èb 0),.int (Èc 0)])],
#[ÇS,(.ref ap::Yv)],
#[Ãz,(.inr rfl)],
#[Ëp,#[iL,K,‹1›]],
#[ÇU,#[hV,Ãy]],
#[Ôo,#[Zh,#[Zm,(WF T.g_DONE)]]],
#[Èi,#[Ze,‹3›]],
#[ÜE,#[ZK,XR,#[cv,4,VT],#[ZK,V5,Û,#[cw,5,VT]]]],
#[Ïm,λe:AR=>(Ú,e.n,)],
#[Ïn,λe:AR=>(Ãb:ZI)],
#[Øh,é a=U (ÇM "list" Ác n)],
#[mV,by rw[Æ d]at h2;rw[Æ (f.trans d)];exact ih h1 h2],
#[mW,by have c:=congrFun ih n;unfold hdL at c ⊢;rw[QaA,QaA,d]],
#[ÜJ,(upd H' dl (.lst (as.map Ä++[Ä a])))],
#[Ü8,(c.zip (Æt 1))],
#[ÒQ,(Àt ź ws)],
#[Ìs,([]:À (ae×aN))],
#[Î2,(YD L e.n ks k' a)],
#[Ì8,(KK κ Ē (n-1))],
#[ÍR,(A.mark (U Ś))],
#[ÀT,(.ref x)],
#[Áj,(.ref r)],
#[Ûu,#[Ze,‹1›,#[ZK,Wi,#[ZH,‹3›],‹2›]]],
#[Ñb,ū x=U .free],
#[ÑM,Ã Nat->Ζ->Prop],
#[Ùm,(∀a dx,ß x=U a->Êy=U dx->b≠dx)],
#[Üo,(l = "row"/\o=.row i ks/\∀e∈R,Ú≠i)],
#[Ó6,(e.g<ĭ\/ks=[])],
#[Õ1,(ÅJ name d D m a F kV G L M g ct)],
#[ÒO,(F.args_str_split_2 _ _)],
#[ÜF,(.lst ((Ýa).map Ä))],
#[Ók,#[eo,2,"alike",Â4,R9]],
#[ÜH,#[Zz,jJ,F,#[Ze,‹0›,‹3›,Û],È]],
#[Öz,(λx=>([]:À (ak×aa)).reverse.lookup x)],
#[Ür,(by rw[Qa,Qa];have:=dh.1;exact ē Á)],
#[Ùy,(á C::.ref B::Yv).contains æ=true],
#[ÛP,(.inr (.inr (.inr (x,(Ã1 f).1,z))))],
#[ÖF,(0,[],_,_,I4,vp,λb k=>(f3 b k).1,?_)],
#[Ôq,∀e∈nm,e.1.length<=8],
#[nn,by rw[Zc (λz=>by rw[z,e]at q;cases q;exact a)];exact q],
#[Ím,k.isLeft=m.isLeft],
#[Éi,aa->aa->Sem aa],
#[Îa,["_law_key_here"]],
#[ÍD,List.find?_some a],
#[Γ,À aM],
#[ÚW,Cf P w K mg Â 4 aw "Row" Â5 (N0 aw)],
#[È6,Ï->Hp->Prop],
#[ÔL,ATo H H' d rd R R' c c'],
#[Æa,2<=ģ],
#[Â6,(λ_=>?_)],
#[ÉT,(λ_ _=>ė)],
#[ÉU,(ys.map Ä)],
#[Ýb,(os++[ÈP 1000000])],
#[nB,(Åc ę)],
#[ØY,(ÅZ [] (ÍB i))],
#[ÅV,(Ů kV)],
#[ËJ,(ÆX ó)],
#[Ü5,(Z9 k ſ n)],
#[Å9,(U (m:Int))],
#[ÆR,(Qz (Qr e))],
#[ÏV,(ÆG b o e n a)],
#[Ñ2,(.ok (.ret (.ref t.1)))],
#[Å5,(.inr Ğ)],
#[ÎO,(.frz g Æb)],
#[Ìr,((p,w,)::P.zip vs)],
#[Ûm,(((ŏ λu=>ù u.1).length:Nat):Int)],
#[ÎY,#[gX,Ĕ,ý]],
#[nP,#[ew,j5,dQ,M2.ob]],
#[Îf,#[eI,"_law_name"]],
#[ÛW,#[Ze,#[ZD,(ixG p),Åe,‹3›],‹2›]],
#[nS,by rintro c d ⟨rfl,rfl⟩;exact Ŭ (q _ g j k)],
#[nT,by obtain s|j:=D.ok.has (show x∈(ÀO).P from b)],
#[nU,by have p:c.heap.DictOf Âk d i:=(g,C,D,j,m,n,E)],
#[nV,by have m:=one d;have p:=one j;subst l;subst m;subst p],
#[nW,by have e:=ÁA;simp only[ÔS]at e],
#[Ùc,T4 B Â NB env Ü L e cls dd Ë],
#[ÉR,(λ_ _ z=>z)],
#[Ú9,(upd f o (.lst (h.map ù++[.ref y])))],
#[ÇH,(exN e C af)],
#[Èr,(ÀM L e.n)],
#[Ö7,(S1.raw_keep #[ff,c,n,ÄC] D.s1z H)],
#[n3,(ĉ λe=>(ĭ:Int)-(e.g:Int))],
#[Çs,(Qaq É _)],
#[ÇJ,(.ref ÃM)],
#[Ød,(.Call (.Name "enumerate" p) [l] [] pos)],
#[Ûo,#[Zk,Rk,ÓJ,#[VZ,T.g_MOST_ROWS],þ]],
#[ÚU,#[W4,KA,ÊY,ÊZ,#[Ze,Ģ]]],
#[n9,by rw[ě (rfl:Ä "row" = Ä "row")]],
#[Ûk,RK _ #[ei,Ãc,nd] s.1 (Ũ s.2.1).1],
#[ÚV,(upd G m (.ins am z (mgF j p t i g u)))],
#[Τ,(ixL K)],
#[Óo,(by rw[e];exact Îo)],
#[ÓE,#[VB,‹0›,Û,Uk]],
#[γ,#[3,Ya]],
#[Ün,∀ {a b:ak},a≠b->¬ Ä a=Ä b],
#[oi,by show (af,0+ŀ,)=(af,ŀ,);rw[Nat.zero_add]],
#[oj,by rw[e,a,ÒR,Nat.sub_zero,Ó7]],
#[ok,by refine ah (av ?_)],
#[ol,by obtain u|rfl|t|rfl:=X1 r],
#[om,by obtain o|p|q:=B d e m;exact(o,p,d,e,l,q)],
#[Í8,["kind", "word"]],
#[ÖC,Y.env=bM c Äw ż Ì],
#[ÌA,(λ_ _ _=>ė)],
#[ÁJ,(Key×V)],
#[ÎG,(F,D,(ÀK:Int),)],
#[Ât,(.ref t)],
#[Íy,(.frz g (.dK f))],
#[Ù8,#[Zo,LZ,È,T.b.n_abs,boot_abs,Ä5]],
#[Üq,(_,rfl,rfl,_,rfl,YO (no ú) ?_)],
#[Úk,(_,rfl,_,rfl,rfl,_,rfl,Y0 rfl ?_)],
#[ÚJ,∀t,v=U t->H t.1=U #[h1,t.2.1,t.2.2]],
#[oA,by intro s a;obtain b|d|e:=this s a;exact ÜC],
#[ÊN,["_law_rows"]],
#[Êm,ZL ö X.w],
#[ÖK,Q9 Qa8 Ġ (o,j,m.1) f e Ài c],
#[ÖJ,Q9 Qa7 Ġ (_,j,rfl) f e Ài c],
#[Ãu,PE X o ta],
#[Ė,À V],
#[È7,Inv X a b H s],
#[ÃZ,ABd R c i],
#[Ôr,(∃s,(s,u.2.1,)∈nm)],
#[ÏW,(λz=>a (by simp[z]))],
#[Ñh,(upd H l #[en,ŕ])],
#[Õc,(thn (ha b s d H Q I h) λc s1 e=>?_)],
#[Òr,(Ŷ ı)],
#[ÜZ,(ÄG #[fI,f.map])],
#[ÑO,(keyKind' Ác)],
#[ÏG,(ÅA f)],
#[Êp,(ŏ ę)],
#[ÍC,(Âl ę)],
#[oT,(á C::a)],
#[Ãm,(a == bD)],
#[Ð4,(Wl ÆT H)],
#[Ëc,(N.map ì)],
#[Óz,(ĸ ó)],
#[ØP,(Itk d o kvs)],
#[Øq,((#[h].push ÑR).get? ũ)=U ÑR],
#[Ôw,#[pv,4,(ÉN à)]],
#[ÊS,#[iy,"tuple"]],
#[Õb,#[fd,Ñc,ÜT,I.bk]],
#[Ò3,#[eI,"_law_key_here"]],
#[o4,by subst f hw g;obtain m|p|D|q|r|u:=d it Ö],
#[o5,by rw[arm_exec_Raise];refine ah (bx (Kk hr.hd ?_))],
#[o6,by obtain m|rd|sd|L|s|nb|li|lo|S|l|N|rfl|_:=h],
#[o7,by obtain F|h|T|i|j|G|J|K|L|N|O|k|l|P|n:=x.ex],
#[Öf,bE o name Ì #[fr,o]=ă o Ì],
#[Ö0,ρ Ë TI (.ref i1) (.ref i2)],
#[Üz,(λz=>hn (List.map_eq_nil_iff.mp z))],
#[Ú5,(@KN _ _ _ _ _ _ _ _ Ģ È È)],
#[Øa,(.Call (.Name "zip" p) [a,b] [] pos)],
#[Ù7,((a % 2147483629+k*k*7919+11)*48271)],
#[À8,.inr rfl],
#[Ús,[U Ū,U ć,U (.int N),U Áj,F,G]],
#[ÄI,(À Key)],
#[Ùe,ŵ<=Ð],
#[pi,by rw[<- (ÄN k).isSome_eq,<- l];exact h _ ÂH],
#[ÕD,(Åp C Ð)],
#[Ï1,(a,b,I.unwish,q)],
#[Õq,(.int (g i j),H,š _,ü,q)],
#[pm,by subst e;exact f.fpOk ç (f.hok.fresh ç)],
#[pn,by rw[e3,a,b,Q];refine bi (VF I c hm d ?_ f g)],
#[po,by rw[bg];have C:Âd[i]? = U Âd[i]:=Qaw m],
#[pp,by rw[j]at z;have:=ō (λs:ak=>s.cps[0]?) z],
#[Úb,q p _ b (_,_,Zb,Qbk _) (Zi b _)],
#[Öy,ż=Âc+1],
#[ps,by have:=UB n _ k h;refine(λz=>?_,λm a=>?_)],
#[ÐY,d.params.defaults=[]],
#[Âp,["word"]],
#[Ù2,["desk", "singles", "keys", "name"]],
#[Îd,["_law_script"]],
#[Âf,Zt j X.A],
#[ÍI,YB X.K fd ps []],
#[ÖB,Ég 0 _ _ fW λb _ A e=>qa b A e],
#[ÕO,Q8 Qa8 Ġ (o,g,l.1) e Ài h],
#[ÕM,Q8 Qa7 Ġ (_,g,rfl) e Ài h],
#[Ìa,OpR X (aQ op) r],
#[Á2,À Env],
#[ÏT,HOk ö X.w H' h'],
#[Á7,ā aa],
#[Á4,.inl rfl],
#[ÚH,(λe=>if e.1=k then (e.1,v,) else e)],
#[Ô4,(λb ps e=>(#[],by rw[e];simp))],
#[Îj,(upd H l Îk)],
#[ÆA,(upd H a o)],
#[ØX,(Êj kvs x.1 x.2)],
#[Æ3,(Év us)],
#[ÈH,(os.take i)],
#[ÚF,(if (hd n).isSome then U n else af)],
#[Òt,(hideAll_get _ f hc)],
#[ÈC,(hdM Æo)],
#[Èq,(ÀM L n)],
#[Å6,(YJ Â3)],
#[ÜX,(YG X c N' Ð s H fp)],
#[ÎA,(Ã0 z)],
#[pW,(ĉ (·.nm))],
#[Ðu,(Nat.lt_succ_self _)],
#[ÓW,(À3 e he).at'.ob],
#[Æv,(ĸ tD)],
#[p0,(I.ok.bs b o e)],
#[ÕQ,(Ém ÕR)],
#[Â1,(.ref b)],
#[Çk,(.ok .next)],
#[ÒI,(.Tuple [a,b,c] t A)],
#[Ðv,(.Attribute e f pos)],
#[Èw,#[ha,Ý]],
#[Ç7,#[ha,ş]],
#[Èx,#[gB," ",1]],
#[Çh,#[fo,"len"]],
#[Í4,#[f1,"numbers"]],
#[Øm,#[P].get? a=U (ÇM "list" #[] _)],
#[ÓK,Ëe=(Àq:Int)],
#[qd,by rw[Qa,Qa]at this;exact this],
#[qe,by refine Ő (wpS_lift (Ãr ÅR))],
#[qf,by intro b hb;exact(List.eq_of_mem_replicate hb)],
#[Ú8,(Z2 s (ZX M)=af\/Z2 s (ZX M)=U af)],
#[Ô0,(ÔY Ċ (.ref y))],
#[Ùf,(NB ŵ H Êv)],
#[Òv,(a,b,I.unpnd,q)],
#[Õn,∀b H,Pv ã b H->č b H],
#[ql,by rw[Æ rfl]],
#[qm,by rw[e];exact r.fpOk ç (r.hok.fresh ç)],
#[qn,by rw[Qb l]at c;rw[Qb Á]at e;cases c;cases e],
#[qo,by injection this],
#[Êr,i=ø],
#[ÏI,e=x\/H e=U (.own x)],
#[ÑV,ě Á],
#[Óx,[.inl k.1,.inl k.2]],
#[Éy,Zt (k+1) X.A],
#[Äl,ZG dvs ds],
#[Ã4,X.N.Nodup],
#[Äm,Wj CX X E],
#[Ði,VC Ë x dx C mA],
#[Ã6,PE X b tb],
#[Äf,Ã aa],
#[ÄK,KV kvs vs],
#[Äg,Cls X.K C],
#[Äi,(vs++dvs)],
#[Ü7,(o.kinds.map Ä)],
#[Ëz,(hdP (Y6 R))],
#[qF,(Äs o j Ð f t)],
#[ÒT,(ŏ λk=>kV k.1)],
#[ÊV,(by trivial)],
#[ÑJ,(by show i-1<_;lia)],
#[Ñg,(by rw[Qa]at a;lia)],
#[Øk,(aS.«list.sort» { pos:=η })],
#[ÊH,(YJ (YW ZJ))],
#[qM,(WJ (st:=st) l c k)],
#[ÙD,(U #[fo,"type.__getattribute__"])],
#[Ä1,(Qb Á)],
#[ÙS,(PySem.strKind_is ö X.w z t)],
#[ÄW,(.ref ap)],
#[Êz,(.ref B::Yv)],
#[Ü3,(.lst [.int a,.int b,.int (c+1)])],
#[Út,(.list (([]:À ak).map ÃQ))],
#[Êh,(.inl Ŕ)],
#[ÉI,(.bool true)],
#[ÙT,((X.pnd d).wish (XE (X.pnd d) E))],
#[ÊR,#[iy,"bool"]],
#[Él,#[hy,Éu]],
#[Øp,#[h].objs.size=Ð+1],
#[ÊJ,#[f1,"line"]],
#[Ót,#[X0,‹0›,Û]],
#[ÍX,(_,rfl,?_)],
#[Ýe,λb k=>QB (vm b k) #[fd,p9,QV,_]],
#[q4,by simp only[Vx,↓reduceIte]],
#[q5,by show wpS _ _ _ _ (if f>0 then _ else _) _ _],
#[q6,by refine Ő (w_rev ?_)],
#[q7,by have r:=h.each e he;rw[ew,dy,c,r.at'.ob]],
#[ÔT,ĕ (λq=>nomatch q)],
#[Ìp,ğ x=U æ],
#[Ë7,Int->Int->Prop],
#[Öb,(λw hw=>P8 b c r fs w #[eg,hw])],
#[rc,(Ç (ÙP a))],
#[Üx,(ĉ λe=>thO Ú Ò[e.g]?)],
#[Îm,(HO.lst.inj e)],
#[ÖU,(F.args_tuple_iterator_next_1 _)],
#[În,(.int #[f0,k])],
#[ÛR,(.inr (.inr (.inl (z.trans i))))],
#[ÜL,((Ôy).map Ä++[Ä Áo])],
#[Í5,#[f1,"number"]],
#[Úf,#[Zz,C,F,#[Ze,ÊU,Û],È]],
#[ØZ,(o,B,C,a.heap D _ N c,Ă)],
#[ÏJ,∃u,ÿ e=U u],
#[rn,by unfold thT;rw[QI,QI]],
#[ÑF,[Àj]],
#[ÙZ,["_law_left_here", "_law_some"]],
#[ÑD,É9+64<ÂJ],
#[ØO,Py a i kvs[i].1 kvs[i].2 (Qb C)],
#[Ôl,(λz=>ψ Âv)],
#[ÓQ,(λe=>(e.1,e.2.2,))],
#[ÒM,(ÉC _ _ _)],
#[Üj,(p.2.cps.toList<p.1.cps.toList)],
#[Ûv,(by rw[Qa,Qa];exact ē Á)],
#[ÜA,(by rw[Qa,Qa,Qx];exact Zs Á)],
#[ÑU,(args_list_sort _)],
#[ÖX,(Çn (.ref i))],
#[ÙL,(PySem.W.clsIn K D).isSome=true],
#[ØI,(PySem.F.args_dict_get_3 _ _ _)],
#[Ùt,(ÜU _ FV.quiet)],
#[Ú6,(.tup [kV (.inl e.n),.ref e.p])],
#[Ï7,(.Tuple [a,b] l m)],
#[ÙB,(.FormattedValue e (-1) af pos)],
#[Õe,(.BoolOp .And (a::b::Ă) pos)],
#[Ðz,#[eQ,t,Ãk,i,d]],
#[rJ,by subst a;rw[Æ rfl]at q],
#[rK,by have vn:∀b∈fp,b<ż:=Ýe],
#[rL,a_,PySem.W.typeIn K a_=U ÊB],
#[rM,a_,b_,c_,d_,by have a_:(upd b_ c_ d_) c_=U d_:=Zb],
#[rN,a_,(Ð+a_)],
#[rO,a_,b_,c_,d_,∀b o,a_ b=U o->b≠b_->(upd c_ b_ d_) b=U o],
#[rP,a_,b_,c_,(λh z=>h (by show (a_ b_:Key)=_;rw[z]),λh z=>h c_)],
#[rQ,a_,b_,c_,#[ZD,a_,‹b_›,‹c_›]],
#[rR,a_,b_,#[fX,a_,b_,b_]],
#[rS,a_,ÕC K a_=true],
#[rT,a_,(.inr (.inl (rfl,.inl (_,a_))))],
#[rU,a_,b_,(Ε a_ a_ b_-Ε a_ 0 lo)],
#[rV,a_,by refine ah (seqEpoch_at a_ rfl ?_)],
#[rW,a_,b_,hdS (Zt64 (a_ b_))],
#[rX,a_,b_,#[ew,a_,b_,D.mg.M.ob]],
#[rY,a_,b_,[.ref a_,.ref b_]],
#[rZ,a_,b_,#[ZK,a_,‹b_›,Û]],
#[r0,a_,(ZW I q (ō not a_))],
#[r1,a_,b_,c_,by rw[e3,a_,b_,Q];refine QaR (pl:=pl) #[es,he,a_,b_] c_],
#[r2,a_,Ìf K a_ Áz=true],
#[r3,a_,b_,c_,d_,by rw[a_ (λb_=>by rw[b_,c_]at d_;cases d_)];exact d_],
#[r4,a_,b_,c_,(_,rfl,_, a_,_,_,rfl,.int i,b_ K,_,rfl,c_ ?_)],
#[r5,a_,b_,c_,(@a_ _ _ _ _ _ _ _ _ _ _ d.xc b_ ‹0› ‹c_› È)],
#[r6,a_,by show (ZY (ZP a_)).Nodup;rw[<- XO];exact Ų],
#[r7,a_,b_,c_,d_,e_,by obtain d|a_|b_|c_|X|nd|d_|o|rfl|e_|jf|D|B|fP|hJ|hw|rfl|q:=h],
#[r8,a_,#[gT,K,2,#[eh,2,a_,3]]],
#[r9,a_,b_,(a_++ÁC b_ af)],
#[sa,a_,b_,#[Zy,a_,b_,à]],
#[sb,a_,b_,c_,(a_,_,_,rfl,rfl,b_,#[eA,c_],?_)],
#[sc,a_,#[e7,o,ß,o,a_]],
#[sd,a_,b_,∀b∈fp,Xs X a_ b_ b],
#[se,a_,b_,c_,by refine(_,rfl,_, a_,_,_,rfl,.int i,b_ K,_,rfl,c_ ?_)],
#[sf,a_,b_,c_,#[ZN,#[Zk,(a_ b_),‹3›,c_,ÀZ],Ôn,ï]],
#[sg,a_,b_,c_,by rw[fX,a_,b_,b_];have c_:=Qn a_;have cq:=(Ũ a_).1],
#[sh,a_,b_,c_,by refine(a_,_,_,rfl,rfl,b_,#[eA,c_],?_)],
#[si,a_,b_,c_,by obtain a_|b_:=Òg b o e c_],
#[sj,a_,by have hb:(g == a_)=true:=beq_iff_eq.mpr h],
#[sk,a_,b_,(by rw[a_,b_];lia)],
#[sl,a_,b_,[.ref a_,.int b_]],
#[sm,a_,b_,c_,(a_,b_,)∈ŕ λy=>(c_,y,)],
#[sn,a_,b_,c_,d_,Ļ a_=U (.type "tuple",b_,.seq #[] c_,d_)],
#[so,a_,(Àa a_:Key)],
#[sp,a_,b_,by rw[ew,a_,b_,D.mg.M.ob]],
#[sq,a_,b_,(.Attribute o a_ b_)],
#[sr,a_,b_,c_,∀a_∈b_,X3 λz n s=>c_=Ïs/\AZ z/\AZ s],
#[ss,a_,b_,c_,Inv X a_ b_ H { s with Õ:=c_,î:=tk }],
#[st,a_,b_,by rw[e3,a_,b_,R];refine thn #[eE,hl,a_,b_] ?_],
#[su,a_,(show b∈([]:À ae) from a_)],
#[sv,a_,(∀H,SqT K H a_ [.str "name"])],
#[sw,a_,b_,(.inr (a_,_,rfl,rfl,b_))],
#[sx,a_,b_,(.compLoop a_ 0 b_ ÀG Ýf)],
#[sy,a_,b_,by rw[Zc (Zf a_ b_)]],
#[sz,a_,#[X0,‹0›,(@a_ _ _)]],
#[sA,a_,b_,([],rfl,rfl,λa_ b_=>by cases b_)],
#[sB,a_,b_,c_,d_,e_,by rw[Zc (Zf a_ b_)];exact c_ _ _ (d_ e_ u a_)],
#[sC,a_,b_,by refine(a_,b_,?_)],
#[sD,a_,(.int (a_ ý Ĕ))],
#[sE,a_,b_,Ã7 (û (K:=X.K) (a_ t b_))],
#[sF,a_,b_,#[Zu,3,a_,à,‹b_›]],
#[sG,a_,b_,c_,d_,e_,by rw[Zc (Zf a_ b_)];exact c_ d_ e_ a_],
#[sH,a_,(.inl (rfl,.inl (_,a_)))],
#[sI,a_,b_,c_,d_,e_,(by rw[<- a_];exact RS b_ (λt c_=>d_ _ _ (e_ t c_)))],
#[sJ,a_,(by rw[a_];rfl)],
#[sK,a_,b_,a_ (ZW I q (ō not b_))],
#[sL,a_,(.lst (YL a_))],
#[sM,a_,b_,by have a_:=(Ũ b_).1],
#[sN,a_,by obtain f|a_|F|m|b:=T.ex],
#[sO,a_,a_ (t':=Åx) λb o e=>Qc _ e],
#[sP,a_,b_,by exact a_ (ZW I q (ō not b_))],
#[sQ,a_,b_,∀ys a_ H,Pv b_ ys a_ H->Q π H],
#[sR,a_,b_,c_,#[XA,a_,â,b_,‹0›,c_]],
#[sS,a_,(by rw[a_];simp)],
#[sT,a_,b_,by rw[e4,z,a_,b_]],
#[sU,a_,b_,c_,a_ r λb_ c_=>h b_ (Qm _ c_)],
#[sV,a_,b_,c_,∀b o,H b=U o->b≠a_->b≠b_->c_ b=U o],
#[sW,a_,b_,(Qd (f:=λx:ZA=>(a_,x,)) b_)],
#[sX,a_,b_,by rw[Æ a_]at b_],
#[sY,a_,(Υ,λr a_=>?_)],
#[sZ,a_,b_,c_,d_,e_,by rintro zs a_ b_ ⟨⟨c_,rfl⟩,rfl,_,d_,e_⟩],
#[s0,a_,b_,c_,by obtain a_|b_|c_:=Ħ this],
#[s1,a_,by have ex:=ok.row1 a_ w g1 i;subst ex],
#[s2,a_,b_,ÄX a_ (ÇT b_)],
#[s3,a_,λb a_=>Qah _ _ (À7 a_)],
#[s4,a_,b_,c_,d_,e_,by have a_:=À3 e b_;rw[ew,c_,d_,e_]],
#[s5,a_,b_,c_,d_,by obtain its|a_|b_|c_:=Ã7 d_],
#[s6,a_,(Í (Zi l Ş _ _ a_))],
#[s7,a_,b_,(by rw[a_];exact Qs _,by rw[a_,b_])],
#[s8,a_,b_,c_,#[ZK,a_,‹b_›,‹c_›]],
#[s9,a_,(.inr (.inl a_))],
#[ta,a_,a_->Ζ->Prop],
#[tb,a_,b_,c_,by rw[e3,e,f,a_];refine b_ #[es,c_,e,f]],
#[tc,a_,(∃m,W 0 m a_ H)],
#[td,a_,∀a H,Pv a_ a H->č a H],
#[te,a_,b_,a_ b_=U .cell\/a_ b_=U .free],
#[tf,a_,b_,c_,d_,e_,by obtain a_|b_|rfl|c_|d_|e_|q:=h],
#[tg,a_,b_,c_,by obtain a_|b_|rfl|c_|q:=h],
#[th,a_,ÂR a_ z TI TO .ellipsis],
#[ti,a_,b_,(.int a_,H,š _,ü,b_)],
#[tj,a_,by rw[eN,t,a_]],
#[tk,a_,(U (.ref a_))],
#[tl,a_,b_,(mirror Ē a_ b_ ((b_-a_) / 2))],
#[tm,a_,b_,(a_ b_).length<aq],
#[tn,a_,b_,c_,#[Yi,a_,Ņ,b_,‹c_›]],
#[tp,a_,b_,c_,d_,(a_ _ _ b_ (λz=>by rw[z,c_]at d_;cases d_))],
#[tq,a_,b_,c_,d_,e_,by obtain a_|b_|c_:=d_ e_],
#[tr,a_,Ĝ a_=true],
#[ts,a_,a_<Ð],
#[tt,a_,#[ei,a_,ŷ]],
#[tu,a_,b_,(∀s∈a_,ŝ<=b_)],
#[tv,a_,b_,c_,d_,(by rw[<- a_ b_ c_];exact d_)],
#[tw,a_,b_,(λ_ _ _ _=>#[cw,a_,b_])],
#[tx,a_,b_,c_,ĵ K aL a_ = U (U (.str b_ c_))],
#[ty,a_,(ÂA a_:Key)],
#[tz,a_,(upd H a_ ÁE)],
#[tA,a_,b_,Ui (X:=X) S a_ Äw b_ x],
#[tB,a_,#[V6,ÇZ,#[Ze,a_]]],
#[tC,a_,b_,c_,(λa_=>Ê b_ c_)],
#[tD,a_,∀b∈a_ M n,b∈M],
#[tE,a_,b_,c_,((Ïg a_ b_).str _ (Qn c_))],
#[Ø8,∀T,Ð<=T->NB T],
#[tG,by show ar _ _ (seqItems? Ât >>= _) _ _ s],
#[tH,by refine T.t_Merge_play.mf Wf #[iF,vs] ÔO],
#[tI,by obtain L|g:=È0 b o e n t hx],
#[Öo,Ê rfl (S.nocell _ (SV q))],
#[ÛG,[U (.str d),U ĩ,U Â1,v]],
#[ÆY,Yt X.K C f],
#[ÕG,Ù5 K ÇK=U true],
#[Õy,Ìf K C name=true],
#[Ût,(λe=>(e.1,e.2.2.1[e.2.2.2]?,))],
#[Öd,(λa c i e=>f its d g a c i e)],
#[ÙN,(upd l ÍO (exN ÍO C af))],
#[Øu,(aQ .Lt (.str x t) (.str y u))],
#[Øs,(aQ .Lt (.int i t) (.int j u))],
#[ÈD,(ZC Æo)],
#[ÓR,(Z9 k M n)],
#[Ëi,(Z9 8 N n)],
#[tW,(ÁC ÌK a.cps)],
#[Èn,(À Int)],
#[ÙW,(BL e d _ _ _ _ (I4.mkd e) bJ)],
#[ÛH,(.lst ([.str d]++e.map Ä))],
#[Ç4,(.list [])],
#[ÆN,(.bl true)],
#[Õg,(.BoolOp .Or (a::b::Ă) pos)],
#[Üu,#[eo,2,"_law_coming",ÁQ,ME]],
#[Üd,#[eo,15,"do_grow",ÄV,ÛV]],
#[ÚL,(λz=>?_,λz=>?_,λz=>?_)],
#[ÛQ,(λa z=>a ?_,λa z=>a ?_)],
#[Éw,(us,[])],
#[ÉK,(t,rfl)],
#[ÑG,(rfl,rfl,rfl)],
#[Ôv,(WW [],WW [])],
#[ub,by rw[hI,a,q];rw[ĕ (HL a)]],
#[Ër,ŝ<=8],
#[ud,by obtain m|hn|_:=id F.loc;rw[Yl]at hn],
#[ue,by obtain f0|f1|f2|f3|f4|f5:=n it Ö],
#[Ìd,Ĉ<=aq],
#[ug,by intro bs S g;generalize e:f++[o]=os at g],
#[Øl,Ñ3 ha (λ_=>#[])],
#[Ìq,ak->Ã aV],
#[Ïi,a ks h.2 z hz],
#[Ü4,[.inl (ZX N).1,.inl (ZX N).2]],
#[Ù1,["one", "other", "far", "at"]],
#[ÒY,["desk", "heads"]],
#[ÖD,Y.env.locals=ż],
#[ÙV,X.A.frames=U (Ì::ÂC)],
#[ÛK,Qbe _ (λa b c z=>c Æn) nd],
#[Ìh,PE X Àh tv],
#[Åv,PE X e te],
#[Ív,À (TE×TE)],
#[Éj,Ŵ Ë],
#[Ë5,Inv X c d H s],
#[ÐW,ÆI ç],
#[Ñ8,H b=U #[ix,k.map]],
#[Êk,H a=U Áf],
#[Ō,Gl X x],
#[Æu,.inr Ú],
#[ÓD,(∃xs,o=.tup xs)],
#[ÐT,(λx=>x.1.isSome)],
#[Ûe,(λj hj=>by rw[Wt,Ç hj])],
#[Ë8,(tOp r ta tb)],
#[Õw,(p f D g E x y v u _ F B l G)],
#[Ôx,(Ây:Int)],
#[ÓY,(low e.n ÎX i)],
#[ËT,(frs Κ)],
#[ÑI,(by show i<_;lia)],
#[ÖI,(ba lp ÉR λ_ _ z=>ÇE)],
#[ÕW,(á ũ::us)],
#[uM,([]:À Keyword)],
#[Ðt,(Zv f y fs)],
#[uO,(Zv f v fs)],
#[ËA,(ZY (Y6 R))],
#[ÆB,(ZL P w)],
#[Ü6,(Yf s (ZX M) (U (S,R,Èp,)))],
#[ÖN,(ÀJ sep ys)],
#[ÒS,(Àa:ak->Key)],
#[Üw,(ĉ nkA)],
#[ØH,(PySem.F.args_dict_get_2 _ _)],
#[Ë4,(Itl K a)],
#[Øj,(Fin.done (Flow.ret Àb))],
#[Õv,(.Compare a [op,i] [b,c] pos)],
#[Ëa,(Į).Nodup],
#[ÓT,#[im,Âi,ì]],
#[ÉG,#[ii,_,_,q]],
#[ÓZ,#[hT,ŏ,u,u.1]],
#[Ãt,#[hJ,aa]],
#[u4,#[gM,dx,hm]],
#[ÚN,#[eo,2,"liken_from",ÄS,N4]],
#[Üc,#[eo,15,"do_row",ÄV,ÛT]],
#[Ô5,#[e7,u,é,u,ÿ]],
#[Üt,(s,t,e.n,k,Ò++ks,e.g)],
#[Ön,∀b∈fp,b<Ð],
#[Öv,∀b∈fp,b<Âc],
#[Õ7,Ù6=Ľ],
#[vc,by show ar _ _ (field Áw 0 >>= _) _ _ s],
#[vd,by rw[ò hx]],
#[ve,by obtain ⟨T,j⟩|_|_:=ê e _ he],
#[ÖA,o9.extBut b A ÆR (Qc _ e)],
#[Õu,lastMarks [op,i] [b,c]=false],
#[vh,by have N:=C e he;rw[ew,de,gv,N.at'.ob]],
#[Öu,Ð6 c Ì=pure Äw],
#[ÙM,Ê this (Qbi.mpr (QV _))],
#[ØG,[Ét,(false,ă f Ì,)]],
#[ÕS,Vz P w K mg Â A Ü s H],
#[Øi,Ñ0 κ Êb],
#[ÙJ,(λv fj dS=>ah (bx (av dS)))],
#[ÚM,(upd H sd (.dT (kvS Ê7)))],
#[ÖS,(Çn Áw)],
#[Ö8,(Qc _ (Qc _ (Qt _ (l _ _))))],
#[Ú4,(.tup [.int t.2.1,oV t.2.2])],
#[Õd,(.BoolOp .And (b::Ă) pos)],
#[ÛE,#[XQ,VE,‹0›,Ý,þ]],
#[Û2,λu:ae×Int×Ã ak=>u.2],
#[ÚA,¬ lcp ý Ĕ=ů],
#[vw,by rw[cs];obtain rfl|q:=h;cases b],
#[ř,ń],
#[vy,by rintro rfl;have e:=Äp a o hk],
#[vz,by have:=RO h;refine(λz=>?_,λm=>?_)],
#[Ôs,Ò[e.g]? = U z],
#[ÖY,cb z = "str_ascii_iterator"],
#[ÑA,ÀX],
#[ØC,[(Èv "default",d,)]],
#[ÔF,XU ok.nd r i rfl],
#[Òb,À (Ã aK)],
#[ÛL,.inl λe a z=>h (e,a,z)],
#[ÓH,(λb o h _ _=>h)],
#[ÔE,(z.symm.trans y)],
#[Øn,(vs.toArray.zip Ác)],
#[Ûs,(upd H a (.dK (kvM Åb)))],
#[Ûp,(upd G g (.dK (kvM Ó1)))],
#[ÛM,(nm++[(s,Đ,)])],
#[Øe,(j.cps.toList<i.cps.toList)],
#[Õr,(i.cps.toList<j.cps.toList)],
#[ÑW,(f.symm.trans e)],
#[ÑX,(e.trans d.symm)],
#[ÏK,(c b _ q λz=>z)],
#[Õ8,(by rw[d];exact(_,l,q))],
#[Á8,(ak×V)],
#[Òe,(aG [e,f] Ì)],
#[Ú0,(Zv "looked" (.int 0) Èk)],
#[ÚC,(Zv "all_keys" (.ref k) [])],
#[Òc,(YX kvs p.1 p.2)],
#[Ôc,(WF T.g_NOTHING)],
#[Úq,(ÔQ _ hs)],
#[Ùz,(ÜU _ ú)],
#[Úu,(.list ((y::B).map ÃQ))],
#[ÐH,(.cons rfl .nil)],
#[Õf,(.BoolOp .Or (b::Ă) pos)],
#[ÛD,#[hk,1,"is_key","thing",MY]],
#[Ûl,#[fK,u.2.1,u.2.2.1,u.2.2.2]],
#[Ôe,#[eq,YS,0,Ý]],
#[ÚK,#[eo,4,"_law_keys",ÃN,N7]],
#[Úr,#[eo,3,"_law_key",Í1,N9]],
#[Úc,#[eo,1,"_law_mix",ÍZ,Oe]],
#[Üy,([],rfl,#[eB,t,h],rfl)],
#[ÜN,("take",rfl,.inr Ğ)],
#[Ùa,∀b o,ÃK b=U o->b≠T],
#[Îs,λz=>d Ç6],
#[ËX,λ_ _=>ė],
#[wf,by show wpS _ _ _ _ (modify _ >>= _) _ _],
#[Øo,Ñ4 l Ác],
#[wh,by refine T.t_l_same.df J0 #[iF,vs] ÔO],
#[ÄP,ae->Prop],
#[ÄH,[.ref l]],
#[Öl,Y5 a ((n,k,)::r) b=Y5 a r b],
#[ÖZ,ÂR Ë z TI TO .none],
#[ËP,Àd x c e],
#[ÍN,Ãq l],
#[ËU,(λ_ _ e=>e)],
#[ØF,(upd H a (.dK (WH kvs k)))],
#[ÍM,(toString i)],
#[ØQ,(t.endLine == u.line)=true],
#[ÔZ,(show ß a=U _ from x)],
#[Ïe,(s,e.n,)∈nm],
#[Û4,(o.sw++o.fw)],
#[ÈA,(kvN nm)],
#[ÛI,(Ů kT0)],
#[ÌV,(dL (av ?_))],
#[Öx,(by intro y hy;simp at hy)],
#[Ã9,(ax P w)],
#[Ë9,(ZW I q rfl)],
#[Òa,(YX kvs k v)],
#[ÍY,(YJ (YR ZJ))],
#[ÍS,(St->XK)->TS],
#[Ô7,(ÈY b o e n t hx)],
#[wG,(Á0 e he)],
#[Íj,#[ix,Ů]],
#[Í2,#[f1,"rows"]],
#[Í3,#[f1,"many"]],
#[ÜG,#[eo,5,"_law_row",ÃN,NR]],
#[ÏY,(v,H,I,r,h)],
#[Û9,(a,_,rfl,Í t,?_)],
#[ÜO,(_,_,_,_,_,_,_,_,rfl)],
#[Ôz,∀o∈os,OdW o],
#[Øg,Ŭ (q n st B o p S)],
#[wQ,by rw[hx,h5,h6,ih,u,hu];rw[Qj,QR,QA]],
#[ÖR,s.heap.IsTupleIter it t i],
#[wS,by rw[Qa]at j1;rw[fn,j',m,j,j.toNat]],
#[ÒA,rest.length<=aq],
#[wU,by refine Ő ?_],
#[ÒD,ÀF<=1000],
#[Úz,inj (Ŀ c)],
#[Üm,Ê rfl (d.mp h1 _ g1)],
#[Êl,Z7 H a y o],
#[Ðe,V->Hp->VK->Prop],
#[Ð5,PySem.W.OpenLaw],
#[Øb,Nat->À V->St->Hp->Prop],
#[Âw,À Od],
#[Ês,À ÁG],
#[Çz,À Ï],
#[Ñ9,H a=U (.dT kvs)],
#[Òk,ā (Int×aa)],
#[ÛY,(∀e∈nm,e.1.length<=8)],
#[Óy,(λz=>h (NY z))],
#[Øx,(λa b=>Y2 b.2 a.2=false)],
#[Çt,(ys++[y])],
#[Ø5,(upd H p (.tup [kV k,x]))],
#[Ór,(upd Óq t T)],
#[ÛZ,(thO (YT nm h.2.1) h.2.2)],
#[Ò5,(ī:Int)],
#[ÈK,(no ú)],
#[ÒC,(ne this ÁL)],
#[xh,(mem x l)],
#[Çu,(e ▸ p)],
#[Ïk,(dkR rd c)],
#[Ê6,(by rw[h])],
#[Ùw,(by rw[QN,FV.noName];rfl)],
#[Ùv,(by rw[QN,FV.noAttr];rfl)],
#[Ðg,(Äb .Add)],
#[Óv,(ZT x y=0/\a<b)],
#[Ó5,(YD L n ks k f)],
#[Ís,(Y4 kvs k)],
#[Ï0,(X.wish E)],
#[Òu,(X.pnd ai)],
#[É1,(Qt _ rfl)],
#[xu,(Ã1 he)],
#[xv,(Nat.log2_lt z)],
#[Õl,(Itr lo n)],
#[ÏU,(ÀC x c e)],
#[ÑE,(DVs.mono s hs)],
#[Òi,(DHs.mono s hs)],
#[Û7,(.tail _ (.tail _ Ôu))],
#[Ôi,(.lst [.str d])],
#[Õt,(.Compare a [op] [b] pos)],
#[ÔD,((d+_:Nat):Int)],
#[ÆK,#[ih,Loc]],
#[Êd,#[hy,Ï]],
#[xG,#[hI,e,h]],
#[xH,#[hD,ok,j,a,st]],
#[ÔK,#[gQ,M,g,kvA,R]],
#[Ûd,#[eo,2,"way_up",ÄT,Nm]],
#[Üs,[.inr z,.inl e.n,.inr Ú]],
#[Öc,(ń+1,by rw[QC,c])],
#[Ûj,#[eT,3,"coming",Ą,Nw]],
#[Ûr,#[eT,1,"row_of",ÁP,RJ]],
#[ÇI,#[eB,_,z]],
#[Ùh,(by simp,λT' d=>?_)],
#[Úm,(_,rfl,_,rfl,rfl,?_)],
#[xR,by rw[tj,hp];rw[dv]],
#[xS,by rw[ě rfl]],
#[xT,by obtain i|w:=mem e h1;rw[m]at i],
#[xU,by obtain a|q:=ÑC I c f],
#[xV,by have f3:=Ka;have f4:=J9;have f5:=J8],
#[Õs,Ðh op b=false],
#[Ül,Ê m (d.mpr g1 e h1)],
#[Öt,(∀p∈X.pn++Z,p.1≠C)],
#[Û1,(λt=>(t.2.1,U t.2.2.2,))],
#[Ú1,(upd H a (.frz j Æb))],
#[Ûi,(by show ¬ 2<=1;decide)],
#[Õ4,(by rw[d];simpa using k)],
#[ÚD,([]:À Á8).length=0],
#[x4,(ÂO ĺ)],
#[Úd,(Ò9 _ Á)],
#[Úw,(.lst (Óm++[.int z]))],
#[Õm,(((a-lo).toNat:Nat):Int)],
#[Ù9,(((ξ).length:Nat):Int)],
#[Ù4,("_law_left_here",.free,)],
#[Öm,#[hd,o.names.lookup,y.1]],
#[ÚB,#[eo,3,"liken",Â4,N5]],
#[Ïo,(rfl,L)],
#[Ûa,(_,λaU H' h=>h,?_)],
#[ÌF,(?_,?_)],
#[ÖQ,(.str _,H,I,ü,q)],
#[Ö1,Çd (.ref z) "zip"],
#[yh,by rw[Ç (λz=>h Æn),Ç h]],
#[yi,by rw[Qj,QS]at nd],
#[yj,by obtain y|A|S|B|C|D:=j it Ö],
#[Ë6,i=ã],
#[ÏH,ĺ<=a],
#[Ùx,Ùn rfl rfl],
#[Íl,ZE (kV m) q],
#[Ík,ZE (kV k) p],
#[ÐE,ğ x=U Ċ],
#[Ûg,Win ą Į (U e.n)],
#[ÏA,Ã Ï],
#[Ãa,À Yh],
#[Íu,KT H kvs xs],
#[ÖE,HOk ö X.w l t.heap],
#[Ôk,ψ (.inl z)],
#[ØR,A.freeze B ŷ j],
#[ÎQ,1<Ĉ],
#[Õk,(∀b∈fp,Xs X ai H b)],
#[yz,(ys.map Âq)],
#[Ób,(Č:Int)],
#[Ð7,(x == n)=false],
#[ÖP,(n == 1||ľ == 0)],
#[ÓM,(ś:Int)],
#[Ú3,(kvM L).length=Àq],
#[Õx,(if i<0 then -i else i)],
#[Ì5,(Äh a)],
#[Ó0,(hdM (L++[e]))],
#[Ì4,(g i2 Ö)],
#[Ì3,(g i1 Ö)],
#[Ì2,(g TO Ö)],
#[yL,(dJ lo a af n)],
#[Ño,(by size_fits)],
#[Ùu,(by rw[QN,FV.hasB,Qas])],
#[Ów,(ae×Int×Int)],
#[ÕV,(á ũ::(us++ds))],
#[Òd,(aG [e] Ì)],
#[Æh,(ZC X.L)],
#[ÂL,(XY st)],
#[yT,(Um f y fs)],
#[ÛC,(Qn (i:=i) #[ei,Qav,g])],
#[Î1,(Qbj _ QaE)],
#[yW,(ÕA a)],
#[Íd,(À7 u)],
#[Õ0,(List.take_sublist _ _)],
#[Ûc,(Ûb j)],
#[y0,(ĸ (·.p))],
#[Ör,(J.stop i c/\Q π c)],
#[y2,(ÜT I.bk)],
#[ËR,(G b o e a)],
#[y4,(Á0 y f)],
#[y5,(Á0 e n)],
#[Ïx,(0+(j:Int))],
#[Åu,(.str x)],
#[Æg,(.ref m)],
#[Ì1,(.ref ũ)],
#[Åo,(.own a)],
#[Åt,(.int i)],
#[Ïp,(.inr Ú)],
#[Åk,(.inl i)],
#[ze,((Z2 s (ZX M)).map stV)],
#[Ïd,#[gG,ψ]],
#[Ìb,#[fo,"min"]],
#[zh,#[fI,Âi]],
#[ÜY,#[fI,ŕ]],
#[ÎZ,#[ei,Qo,nd]],
#[ÚR,#[eT,3,"meet",Í7,Ny]],
#[ÏB,#[eJ,1,100]],
#[Îe,#[eI,"row"]],
#[Ò4,#[eI,"_law_n"]],
#[Ò2,#[eI,"_law_k"]],
#[ÔM,(Ôy).length=n],
#[Ûn,#[Zu,2,Sf.nd,à,Ģ]],
#[ÎB,#[Zh,Ën]],
#[Æe,.inl e.n],
#[zt,a_,b_,∀a_ s',Inv X ai σ b_ s'->ZE v a_->Q a_ s'],
#[zu,a_,hdS (Zt64 (ŗ (YQ a_)))],
#[zv,a_,b_,c_,∀a_ b_,H a_=U (.tup b_)->c_ a_=U (.tup b_)],
#[zw,a_,b_,c_,∀b a_,H b=U a_->b≠b_->c_ b=U a_],
#[zx,a_,(ce a_ Ì)],
#[zy,a_,b_,c_,ÆL a_ b_ c_],
#[zz,a_,hdS (Ž (ŗ a_))],
#[zA,a_,b_,(.bl a_,H,I,rfl,b_)],
#[zB,a_,b_,by unfold a_ at b_ ⊢],
#[zC,a_,by rw[this]at a_;cases a_],
#[zD,a_,b_,Qd (f:=λx:α×a=>a_) b_],
#[zE,a_,by rw[Ç a_]],
#[zF,a_,d.fpOk a_ (ÐC a_)],
#[zG,a_,(λz=>(a_ _ z).2.1 rfl)],
#[zH,a_,b_,c_,d_,e_,by obtain oc|od|kV|a_|b_|c_|d_|ct|mP|rfl|lk|e_:=F.ex],
#[zI,a_,ų=.dict a_ ep],
#[zJ,a_,[.str x,.str y,.int a_]],
#[zK,a_,b_,c_,d_,e_,by have a_:#[sm,b_,c_,d_]:=#[fU,d_,e_]],
#[zL,a_,b_,c_,d_,(lcp x a_<=lcp b_ c_/\lcp d_ z=lcp x a_)],
#[zM,a_,b_,by have a_:=b_ h2;rw[z,a_]at this],
#[zN,a_,b_,c_,d_,(_,rfl,a_,rfl,#[gF,b_],λc_ d_=>?_)],
#[zO,a_,(∀f,Yo ÏG (a_ f))],
#[zP,a_,b_,c_,(a_,Âe _ _ b_ c_)],
#[zQ,a_,b_,by obtain e|n|ne|a_|d:=Àe p b_],
#[zR,a_,by rw[a_]at this;exact this],
#[zS,a_,b_,c_,(thn #[eE,he,a_,b_] λu c_ a=>?_)],
#[zT,a_,b_,(.lst ((a_ b_ n).map ì))],
#[zU,a_,b_,c_,(.ins a_ b_ (dkF c_ nd))],
#[zV,a_,b_,by rw[a_,Zb];rw[a_,Ŧ]at b_;exact b_]]
inductive X2 {t0 t1:Type} (p:t0->t1->Prop):Prop where
 | mk (a0:t0) (a1:t1) (h:p a0 a1)
inductive X3 {t0 t1 t2:Type} (p:t0->t1->t2->Prop):Prop where
 | mk (a0:t0) (a1:t1) (a2:t2) (h:p a0 a1 a2)
inductive X4 {t0 t1 t2 t3:Type} (p:t0->t1->t2->t3->Prop):Prop where
 | mk (a0:t0) (a1:t1) (a2:t2) (a3:t3) (h:p a0 a1 a2 a3)
inductive X5 {t0 t1 t2 t3 t4:Type} (p:t0->t1->t2->t3->t4->Prop):Prop where
 | mk (a0:t0) (a1:t1) (a2:t2) (a3:t3) (a4:t4) (h:p a0 a1 a2 a3 a4)
inductive X6 {t0 t1 t2 t3 t4 t5:Type} (p:t0->t1->t2->t3->t4->t5->Prop):Prop where
 | mk (a0:t0) (a1:t1) (a2:t2) (a3:t3) (a4:t4) (a5:t5) (h:p a0 a1 a2 a3 a4 a5)
inductive X7 {t0 t1 t2 t3 t4 t5 t6:Type} (p:t0->t1->t2->t3->t4->t5->t6->Prop):Prop where
 | mk (a0:t0) (a1:t1) (a2:t2) (a3:t3) (a4:t4) (a5:t5) (a6:t6) (h:p a0 a1 a2 a3 a4 a5 a6)
inductive X8 {t0 t1 t2 t3 t4 t5 t6 t7:Type} (p:t0->t1->t2->t3->t4->t5->t6->t7->Prop):Prop where
 | mk (a0:t0) (a1:t1) (a2:t2) (a3:t3) (a4:t4) (a5:t5) (a6:t6) (a7:t7) (h:p a0 a1 a2 a3 a4 a5 a6 a7)
inductive X9 {t0 t1 t2 t3 t4 t5 t6 t7 t8:Type} (p:t0->t1->t2->t3->t4->t5->t6->t7->t8->Prop):Prop where
 | mk (a0:t0) (a1:t1) (a2:t2) (a3:t3) (a4:t4) (a5:t5) (a6:t6) (a7:t7) (a8:t8) (h:p a0 a1 a2 a3 a4 a5 a6 a7 a8)
inductive X10 {t0 t1 t2 t3 t4 t5 t6 t7 t8 t9:Type} (p:t0->t1->t2->t3->t4->t5->t6->t7->t8->t9->Prop):Prop where
 | mk (a0:t0) (a1:t1) (a2:t2) (a3:t3) (a4:t4) (a5:t5) (a6:t6) (a7:t7) (a8:t8) (a9:t9) (h:p a0 a1 a2 a3 a4 a5 a6 a7 a8 a9)
inductive X11 {t0 t1 t2 t3 t4 t5 t6 t7 t8 t9 iq:Type} (p:t0->t1->t2->t3->t4->t5->t6->t7->t8->t9->iq->Prop):Prop where
 | mk (a0:t0) (a1:t1) (a2:t2) (a3:t3) (a4:t4) (a5:t5) (a6:t6) (a7:t7) (a8:t8) (a9:t9) (fE:iq) (h:p a0 a1 a2 a3 a4 a5 a6 a7 a8 a9 fE)
inductive X12 {t0 t1 t2 t3 t4 t5 t6 t7 t8 t9 iq jp:Type} (p:t0->t1->t2->t3->t4->t5->t6->t7->t8->t9->iq->jp->Prop):Prop where
 | mk (a0:t0) (a1:t1) (a2:t2) (a3:t3) (a4:t4) (a5:t5) (a6:t6) (a7:t7) (a8:t8) (a9:t9) (fE:iq) (lM:jp) (h:p a0 a1 a2 a3 a4 a5 a6 a7 a8 a9 fE lM)
inductive X13 {t0 t1 t2 t3 t4 t5 t6 t7 t8 t9 iq jp lN:Type} (p:t0->t1->t2->t3->t4->t5->t6->t7->t8->t9->iq->jp->lN->Prop):Prop where
 | mk (a0:t0) (a1:t1) (a2:t2) (a3:t3) (a4:t4) (a5:t5) (a6:t6) (a7:t7) (a8:t8) (a9:t9) (fE:iq) (lM:jp) (oY:lN) (h:p a0 a1 a2 a3 a4 a5 a6 a7 a8 a9 fE lM oY)
inductive X14 {t0 t1 t2 t3 t4 t5 t6 t7 t8 t9 iq jp lN pY:Type} (p:t0->t1->t2->t3->t4->t5->t6->t7->t8->t9->iq->jp->lN->pY->Prop):Prop where
 | mk (a0:t0) (a1:t1) (a2:t2) (a3:t3) (a4:t4) (a5:t5) (a6:t6) (a7:t7) (a8:t8) (a9:t9) (fE:iq) (lM:jp) (oY:lN) (qW:pY) (h:p a0 a1 a2 a3 a4 a5 a6 a7 a8 a9 fE lM oY qW)
inductive X15 {t0 t1 t2 t3 t4 t5 t6 t7 t8 t9 iq jp lN pY u0:Type} (p:t0->t1->t2->t3->t4->t5->t6->t7->t8->t9->iq->jp->lN->pY->u0->Prop):Prop where
 | mk (a0:t0) (a1:t1) (a2:t2) (a3:t3) (a4:t4) (a5:t5) (a6:t6) (a7:t7) (a8:t8) (a9:t9) (fE:iq) (lM:jp) (oY:lN) (qW:pY) (u4:u0) (h:p a0 a1 a2 a3 a4 a5 a6 a7 a8 a9 fE lM oY qW u4)
inductive X16 {t0 t1 t2 t3 t4 t5 t6 t7 t8 t9 iq jp lN pY u0 DW:Type} (p:t0->t1->t2->t3->t4->t5->t6->t7->t8->t9->iq->jp->lN->pY->u0->DW->Prop):Prop where
 | mk (a0:t0) (a1:t1) (a2:t2) (a3:t3) (a4:t4) (a5:t5) (a6:t6) (a7:t7) (a8:t8) (a9:t9) (fE:iq) (lM:jp) (oY:lN) (qW:pY) (u4:u0) (A2:DW) (h:p a0 a1 a2 a3 a4 a5 a6 a7 a8 a9 fE lM oY qW u4 A2)
set_option Elab.async false
set_option linter.all false
local macro_rules|`(tactic|nofun)=>`(tactic|(intro _ _ _ _ h;repeat(first|(obtain h|_:=h;subst h;rfl)|(cases h;rename_i h))))
local macro_rules|`(tactic|ac_rfl)=>`(tactic|decide +kernel)
def Qa:=@ÔP
def Qb:=@List.getElem?_eq_getElem
def Qc:=@PySem.Heap.get?_push_of_some
def Qd:=@List.mem_map_of_mem
def Qe:=@List.map_append
def Qf:=@Nat.le_refl
def Qg:=@List.getElem?_eq_some_iff
def Qh:=@List.mem_singleton
def Qi:=@List.length_append
def Qj:=@List.map_cons
def Qk:=@Nat.le_trans
def Ql:=@List.mem_append
def Qm:=@ÔQ
def Qn:=@List.mem_of_getElem?
def Qo:=@List.map_map
def Qp:=@List.mem_map
def Qq:=@List.getElem?_map
def Qr:=@PySem.Heap.lt_size
def Qs:=@Nat.zero_le
def Qt:=@PySem.Heap.get?_push_size
def Qu:=@Bool.false_ne_true
def Qv:=@List.take_of_length_le
def Qw:=@Option.some.inj
def Qx:=@List.length_take
def Qy:=@PySem.boot_len
def Qz:=@Nat.ne_of_lt
def QA:=@ËG
def QB:=@Nat.lt_of_lt_of_le
def QC:=@ËH
def QD:=@List.mem_append_right
def QE:=@PySem.F.plainAttrs_list
def QF:=@PySem.F.slot_list_append
def QG:=@PySem.F.type_list_append
def QH:=@List.take_add_one
def QI:=@PySem.Str.length_append
def QJ:=@List.map_congr_left
def QK:=@List.length_singleton
def QL:=@PySem.W.mg_of
def QM:=@Áq
def QN:=@List.contains_cons
def QO:=@PySem.W.mg_none_of
def QP:=@List.getD_eq_getElem?_getD
def QR:=@List.sum_cons
def QS:=@List.nodup_cons
def QT:=@List.getElem?_append_left
def QU:=@List.mem_append_left
def QV:=@Nat.le_succ
def QW:=@List.getElem?_eq_none
def QX:=@Nat.ne_of_gt
def QY:=@List.mem_filter
def QZ:=@List.length_drop
def Q0:=@PySem.F.plainAttrs_str
def Q1:=@PySem.Heap.size_push
def Q3:=@ÔR
def Q4:=@List.getElem_mem
def Q5:=@PySem.Heap.get?_update_self
def Q6:=@PySem.F.plainAttrs_dict
def Q7:=@List.getElem?_append_right
def Q8:=@PySem.W.kia_one
def Q9:=@PySem.W.kia_tup
def Qaa:=@PySem.Heap.get?_update_of_ne
def Qab:=@List.append_nil
def Qac:=@List.mem_filterMap
def Qad:=@PySem.W.callWith_K
def Qae:=@List.all_eq_true
def Qaf:=@PyProof.Rows.callWith_type1
def Qag:=@Nat.lt_irrefl
def Qah:=@PySem.Heap.get?_update_other
def Qai:=@PySem.F.slot_dict_get
def Qaj:=@PySem.F.slot_str_join
def Qak:=@PySem.F.type_str_join
def Qal:=@List.mem_cons_self
def Qam:=@List.mem_of_mem_take
def Qan:=@List.length_eq_zero_iff
def Qao:=@List.filter_map
def Qap:=@PySem.mem_of_lookup
def Qaq:=@Nat.add_lt_add_left
def Qar:=@ÔS
def Qas:=@Bool.or_true
def Qat:=@Array.getElem?_eq_some_iff
def Qau:=@List.getElem?_toArray
def Qav:=@Array.getElem?_toList
def Qaw:=@Array.getElem?_eq_getElem
def Qax:=@List.mem_of_find?_eq_some
def Qay:=@List.getLastD_eq_getLast?
def Qaz:=@List.sum_append
def QaA:=@Âz
def QaB:=@PySem.W.looks_findIn
def QaC:=@List.mem_of_mem_drop
def QaD:=@List.filterMap_cons
def QaE:=@List.filter_sublist
def QaF:=@Æy
def QaG:=@Nat.lt_add_of_pos_right
def QaH:=@List.pairwise_singleton
def QaI:=@List.any_eq_true
def QaJ:=@Nat.le_of_lt
def QaK:=@List.zip_cons_cons
def QaL:=@PySem.F.entry_dict_get
def QaM:=@List.find?_cons_of_neg
def QaN:=@Nat.add_sub_cancel
def QaO:=@List.length_eq_one_iff
def QaP:=@Int.add_zero
def QaQ:=@Bool.eq_iff_iff
def QaR:=@PySem.W.methodCall_KW
def QaS:=@List.length_replicate
def QaT:=@List.length_filter_le
def QaU:=@PySem.F.slot_dict_pop
def QaV:=@List.reverse_cons
def QaW:=@List.nodup_append
def QaX:=@List.filter_congr
def QaY:=@List.pairwise_map
def QaZ:=@List.map_nil
def Qa0:=@Nat.le_add_right
def Qa1:=@List.getElem?_eq_none_iff
def Qa2:=@PySem.Heap.get?_update_ne
def Qa3:=@List.any_cons
def Qa4:=@List.getLast?_eq_getLast
def Qa5:=@Nat.lt_of_le_of_lt
def Qa6:=@Int.emod_lt_of_pos
def Qa7:=@PySem.W.kitx_list
def Qa8:=@PySem.W.kitx_dict
def Qa9:=@ÏC
def Qba:=@Array.getElem?_eq_none
def Qbb:=@Nat.lt_trans
def Qbc:=@Option.map_eq_some_iff
def Qbd:=@List.drop_of_length_le
def Qbe:=@List.Pairwise.map
def Qbf:=@List.length_pos_of_mem
def Qbi:=@Nat.not_lt
def Qbj:=@List.Sublist.map
def Qbk:=@Int.le_refl
namespace L2
open PySem PySem.Spec PyProof.Rows
abbrev Key:=Sum Int ak
def VG:Key->aa->Ï
 | .inl k,v=>aa.isInt k v
 | .inr x,v=>aa.isStrOf x v
def Mx(w:aF):Key->Int
 | .inl k=>hashInt k
 | .inr x=>hashStr w x
theorem WC:∀ {k:Key} {v:aa},VG k v=true->(X2 λi t=>k=ÂA i/\v=Ãk i t)\/(X2 λx t=>k=Àa x/\v=Ár x t)
 | .inl i,v,h=>by obtain t|e:=aa.isInt_shape (k:=i) (v:=v) h;exact .inl (i,t,rfl,e)
 | .inr x,v,h=>by obtain t|e:=aa.isStrOf_shape (x:=x) (v:=v) h;exact .inr (x,t,rfl,e)
theorem Zn1(i:Int)(t:Tok):VG Åk (.int i t)=true:=by simp[VG,aa.isInt]
theorem ZoM(x:ak)(t:Tok):VG (.inr x) (.str x t)=true:=by simp[VG,aa.isStrOf]
theorem Zuj(a b:Int):decide (#[ty,a]=ÂA b)=(a == b):=by
 by_cases e:a=b
 ·subst e;simp
 ·have h:¬ #[ty,a]=ÂA b:=λq=>e (Ã0 q);rw[ĕ h];exact(Æz e).symm
theorem Zub(a b:ak):decide (#[so,a]=Àa b)=decide (a=b):=by
 by_cases e:a=b
 ·subst e;simp
 ·have h:¬ #[so,a]=Àa b:=λq=>e (Ål q);rw[ĕ h,ĕ e]
theorem Zvg(a:Int)(b:ak):decide (#[ty,a]=Àa b)=false:=ÔT
theorem ZuP(a:ak)(b:Int):decide (#[so,a]=ÂA b)=false:=ÔT
def ZL(ñ:ay)(w:aF):PySem.KeyKind ñ w Key where
 is:=VG
 hash:=Mx w
 inj:=λv a b g f=>by
  rcases WC g with⟨i,t,rfl,rfl⟩|⟨x,t,rfl,rfl⟩
  ·rcases WC f with⟨j,u,rfl,e⟩|⟨y,u,rfl,e⟩
   ·injection e with c _;rw[c]
   ·exact nomatch e
  ·rcases WC f with⟨j,u,rfl,e⟩|⟨y,u,rfl,e⟩
   ·exact nomatch e
   ·injection e with c _;rw[c]
 byValue:=λk v h=>by rcases WC h with⟨i,t,rfl,rfl⟩|⟨x,t,rfl,rfl⟩<;>rfl
 pyHash:=λd h=>by
  rcases WC d with⟨i,t,rfl,rfl⟩|⟨x,t,rfl,rfl⟩
  ·exact wpAny_pyHash_int h
  ·exact wpAny_pyHash_str h
 eqBool:=λl d h=>by
  rcases WC l with⟨i,t,rfl,rfl⟩|⟨x,t,rfl,rfl⟩
  ·rcases WC d with⟨j,u,rfl,rfl⟩|⟨y,u,rfl,rfl⟩
   ·rw[Zuj]at h;exact ÔU h
   ·rw[Zvg]at h;exact ÔV i t y u _ _ _ _ h
  ·rcases WC d with⟨j,u,rfl,rfl⟩|⟨y,u,rfl,rfl⟩
   ·rw[ZuP]at h;exact ÔW x t j u _ _ _ _ h
   ·rw[Zub]at h;exact ÔX h
 «strs»:=λk x t v h=>by
  rcases WC h with⟨i,u,rfl,e⟩|⟨y,u,rfl,e⟩
  ·exact nomatch e
  ·injection e with c _;subst c;cases v<;>rfl
theorem Zl9(ñ:ay)(w:aF)(k:Key)(v:aa):(ZL ñ w).is k v=VG k v:=rfl
theorem Zk5(ñ:ay)(w:aF)(i:Int)(t:Tok):(ZL ñ w).is Åk (.int i t)=true:=Zn1 i t
theorem Zlz(ñ:ay)(w:aF)(x:ak)(t:Tok):(ZL ñ w).is (.inr x) (.str x t)=true:=ZoM x t
inductive V where
 | non|bl (b:Ï)|int (i:Int)|str (x:ak)|byt (b:ā UInt8)|flt (b:UInt64)|ref (a:ae)|ty (n:ŋ)
 deriving ÈS
def ZE:V->aa->Prop
 | .non,u=>u=Àb
 | .bl b,u=>u=Åm b
 | .int i,u=>∃t,u=Ãk i t
 | .str x,u=>∃t,u=Ár x t
 | .byt b,u=>∃t,u=aa.bytes b t
 | .flt b,u=>∃t,u=ËI b t
 | .ref a,u=>u=á a
 | .ty n,u=>u=Ãl n
abbrev ZG:À V->À aa->Prop:=Ån ZE
theorem ZG.length{xs:Ė}{us:å}(r:ZG xs us):ã=ÀR:=ÏD r
theorem ZG.get:∀ {xs:À V} {us:À aa} {i:Nat} {x:V},ZG xs us->xs[i]? = U x->∃u,us[i]? = U u/\ZE x u
 | _,_,_,_,.nil,e=>by simp at e
 | _,_,0,_,.cons r _,e=>by simp at e;subst e;exact(_,rfl,r)
 | _,_,i+1,x,.cons _ t,e=>by obtain u|h1|h2:=ZG.get (i:=i) (x:=x) t #[eg,e];exact(u,by simpa using h1,h2)
theorem ZG.set{x:V}{u:aa}(r:ZE x u):∀ {xs:À V} {us:À aa} (i:Nat),ZG xs us->ZG (xs.set i x) (us.set i u)
 | _,_,_,.nil=>.nil
 | _,_,0,.cons _ t=>.cons r t
 | _,_,i+1,.cons q t=>.cons q (ZG.set r i t)
theorem ÏE:∀ {xs ys:À V} {us ws:À aa},ZG xs us->ZG ys ws->ZG (xs++ys) (us++ws)
 | _,_,_,_,.nil,s=>s
 | _,_,_,_,.cons r t,s=>.cons r (ÏE t s)
theorem ZG.take:∀ {xs:À V} {us:À aa} (n:Nat),ZG xs us->ZG (xs.take n) (us.take n)
 | _,_,0,_=>.nil
 | _,_,_+1,.nil=>.nil
 | _,_,n+1,.cons r t=>.cons r (ZG.take n t)
theorem ZG.drop:∀ {xs:À V} {us:À aa} (n:Nat),ZG xs us->ZG (xs.drop n) (us.drop n)
 | _,_,0,r=>r
 | _,_,_+1,.nil=>.nil
 | _,_,n+1,.cons _ t=>ZG.drop n t
def Yo:Ã V->Ã aa->Prop
 | some v,U u=>ZE v u
 | none,af=>Àc
 | _,_=>ė
def KV{κ:Type}:À (κ×V)->À (κ×aa)->Prop:=Ån λ(p:κ×V) (q:κ×aa)=>p.1=q.1/\ZE p.2 q.2
def kV:Key->V
 | .inl i=>.int i
 | .inr x=>.str x
inductive HO where
  | lst (xs:À V)
  | tup (xs:À V)
  | dK (kvs:À (Key×V))|dT (kvs:À (À Key×V))
  | set (S:Int->Ï) (n:Nat)
  | ins (C dx:ae) (fs:À (ak×V))
  | own (x:ae)
  | xd (fs:À (ak×V))
  | met (f x:ae)
  | rng (lo hi:Int)
  | frz (o:aN) (u:HO)
  | tbl (ps:ā aa)
  | ext (φ:aI->Prop)
abbrev Hp:=ae->Ã HO
def upd(H:Hp)(a:ae)(o:HO):Hp:=λb=>if b=a then U o else H b
theorem Zb{H:Hp}{a:ae}{o:HO}:upd H a o a=U o:=by unfold upd;rw[Æ rfl]
theorem Zc{H:Hp}{a b:ae}{o:HO}(h:b≠a):upd H a o b=H b:=by unfold upd;rw[Ç h]
theorem Zr0{H:Hp}{a:ae}{o u:HO}:upd ÆA a u=upd H a u:=by funext b;unfold upd;split<;>rfl
theorem Rt{H:Hp}{a b:ae}{o u:HO}(h:H a=U o)(h':H b=U u)(d:o≠u):a≠b:=by intro e;subst e;rw[h]at h';exact d (Qw h')
theorem Zf{H:Hp}{a b:ae}{o:HO}(h:H a=U o)(h':H b=af):a≠b:=by intro e;subst e;rw[h]at h';cases h'
section
variable (P:ay) (w:aF)
def Z8(H:Hp)(h:aI)(a:ae):HO->Prop
 | .lst xs=>ã<=aq/\X2 λ(its:À aa) (n:Nat)=>ZG xs its/\ß a=U { cls:=.type "list",Ó:=.seq İ n }
 | .tup xs=>ã<=aq/\∃its:À aa,ZG xs its/\Θ h a İ
 | .dK b=>ħ<=aq/\Ãm=false/\∃g,KV b g/\h.DictOf ÆB a g
 | .dT b=>ħ<=aq/\Ãm=false/\∃xs:À (À Key×ae×aa),
   Ån (λ(p:À Key×V) (q:À Key×ae×aa)=>p.1=q.1/\H q.2.1=U #[ix,p.1.map]/\ZE p.2 q.2.2) b xs /\
   X3 λo i l=>ß a=U o/\o.ExactDict/\ų=.dict i l/\i.toList=ÆC (entryOfKey ÏF)/\(ÆC ó).Nodup
 | .set S n=>h.SetOf (intKind P w) a S n
 | .ins C d fs=>H d=U Åo/\ÀS<=1000/\d≠a/\ß a=U (Åp C d) /\
   ∃c,h.Ns1 d c/\#[zO,c]/\ÈT c ËJ
 | .own _=>∃o,ß a=U o
 | .xd fs=>∃c,h.Ns1 a c/\∀f,Yo ÏG (c f)
 | .rng lo m=>X3 λt u v=>ß a=U { cls:=.type "range",Ó:=.fields #[.int lo t,.int m u,.int 1 v] }
 | .frz o u=>ß a=U o/\Z8 H h a u
 | .tbl r=>ß a=U { cls:=.none,Ó:=.fields r }
 | .met f x=>ß a=U (ÔY Ċ ÀT)
 | .ext e=>e h/\(∃o,ß a=U o)/\∀j k:aI,e j->(∀o,j.get? a=U o->k.get? a=U o)->e k
def HOk(H:Hp)(h:aI):Prop:=∀a o,H a=U o->Z8 P w H h a o
universe E
section
variable {P:ay} {w:aF} {H H':Hp} {h h':aI} {a:ae} {o:HO}
theorem Z8.lt(x:Z8 P w H h a o):a<ĺ:=by
 cases o with
 | lst c=>obtain _|_|_|_|e:=x;exact Qr e
 | tup c=>obtain _|_|_|p:=x;exact p.lt
 | dK b=>obtain _|_|_|_|o|_|_|e|_:=x;exact Qr e
 | dT b=>obtain _|_|_|_|o|_|_|e|_:=x;exact Qr e
 | set S n=>obtain o|_|_|_|e|_:=x;exact Qr e
 | ins C dx fs=>obtain _|_|_|e|_:=x;exact Qr e
 | own y=>obtain _|e:=x;exact Qr e
 | xd fs=>obtain _|⟨_,_,_,e,_⟩|_:=x;exact Qr e
 | rng lo hi=>obtain _|_|_|e:=x;exact Qr e
 | frz ob u=>obtain e|_:=x;exact Qr e
 | tbl ps=>exact Qr ÔZ
 | met f y=>exact Qr ÔZ
 | ext φ=>obtain _|⟨_,e⟩|_:=x;exact Qr e
theorem ËK{α c:Type}{F G:α->c->Prop}:∀ {d:À α} {e:À c},Ån F d e->(∀a b,F a b->G a b)->Ån G d e
 | _,_,.nil,_=>.nil
 | _,_,.cons r t,f=>.cons (f _ _ r) (ËK t f)
theorem Z8.stay(x:Z8 P w H h a o)(k:∀b u,(b=a\/H b=U Åo)->ß b=U u->ÿ b=U u)
  (B:∀b,H b=U Åo->H' b=U Åo) (ht:#[e7,xs,H,Β,H']):Z8 P w H' h' a o:=by
 induction o with
 | lst xs=>obtain z|its|n|r|e:=x;exact(z,its,n,r,k _ _ Ğ e)
 | tup xs=>obtain z|its|r|g|e|c:=x;exact(z,its,r,g,k _ _ Ğ e,c)
 | dK l=>obtain z|y|D|r|g|i|j|e|c:=x;exact(z,y,D,r,g,i,j,k _ _ Ğ e,c)
 | dT l=>obtain z|y|xs|r|g|i|j|e|c:=x;exact(z,y,xs,ËK r λp q z=>(z.1,ht _ _ z.2.1,z.2.2),g,i,j,k _ _ Ğ e,c)
 | set S n=>obtain g|i|j|t|e|c:=x;exact(g,i,j,t,k _ _ Ğ e,c)
 | ins C dx fs=>obtain d|z|ne|e|m|⟨s,i,j,E,c⟩|r:=x;exact(B _ d,z,ne,k _ _ Ğ e,m,(s,i,j,k _ _ (.inr d) E,c),r)
 | own y=>obtain g|e:=x;exact(g,k _ _ Ğ e)
 | xd fs=>obtain m|⟨s,i,j,e,c⟩|r:=x;exact(m,(s,i,j,k _ _ Ğ e,c),r)
 | rng lo hi=>obtain t|u|v|e:=x;exact(t,u,v,k _ _ Ğ e)
 | frz g u F=>obtain e|q:=x;exact(k _ _ Ğ e,F q)
 | tbl A=>have e:ß a=U { cls:=.none,Ó:=.fields A }:=x;show ÿ a=U { cls:=.none,Ó:=.fields A };exact k a _ Ğ e
 | met f y=>have e:ß a=U Ô0:=x;show ÿ a=U Ô0;exact k a _ Ğ e
 | ext φ=>obtain p|⟨o,e⟩|st:=x;exact(st _ _ p λo q=>k _ _ Ğ q,(o,k _ _ Ğ e),st)
theorem HOk.lt(x:À6)(e:H a=U o):a<ĺ:=(x a o e).lt
theorem HOk.fresh(x:À6)(e:ÏH):H a=af:=by
 cases q:H a with
 | none=>rfl
 | some u=>exact Ê (QB (x.lt q) e) (Qag _)
theorem HOk.kept(x:À6)(k:ËL):HOk P w H h':=λa o e =>
 (x a o e).stay (λb u _ q=>k b u q) (λ_ q=>q) λ_ _ q=>q
theorem HOk.laid(x:À6)(k:ËL)(hp:ÏH)(new:Z8 P w ÆA h' a o):HOk P w ÆA h':=λb u e=>by
 have d:=x.fresh hp;by_cases f:b=a
 ·subst f;rw[rR,Zb,e];exact new
 ·rw[Zc f]at e;exact(x b u e).stay (λc v _ q=>k c v q) (λc q=>by rw[Zc (Zf q d)];exact q) λc xs q=>by rw[Zc (Zf q d)];exact q
universe E
def Rd(H:Hp)(a:ae)(u:HO):Prop:=H a=U u\/∃o,H a=U ÂB
theorem Rd.ok{P:ay}{w:aF}{H:Hp}{h:aI}{a:ae}{u:HO}(r:Rd H a u)(x:À6):Z8 P w H h a u:=by
 rcases r with r|⟨o,r⟩
 ·exact x a u r
 ·obtain _|q:=x a _ r;exact q
def Mut:Ã HO->Prop
 | some (.lst _)=>Àc
 | some (.dK _)=>Àc
 | some (.dT _)=>Àc
 | some (.set _ _)=>Àc
 | some (.ins _ _ _)=>Àc
 | some (.ext _)=>Àc
 | _=>ė
section
variable {P:ay} {w:aF} {H:Hp} {h h':aI} {x e:ae} {o':HO}
theorem HOk.write(ok:À6)(a:Mut (H x))(he:ÏI)(k:#[hs,b,u,e,ß])(l:ÏJ)
  (new:Z8 P w (upd H x o') h' x o'):HOk P w (upd H x o') h':=λb u q=>by
 have i:∀c y,H c=U (.own y)->c≠x:=λc y r z=>by subst z;rw[r]at a;exact a
 have m:∀c d,H c=U (.tup d)->c≠x:=λc d r z=>by subst z;rw[r]at a;exact a
 by_cases f:b=x
 ·subst f;rw[rR,Zb,q];exact new
 ·rw[Zc f]at q;by_cases g:b=e
  ·have j:H b=U (.own x):=by
    rcases he with z|z
    ·exact Ê (ËM z) f
    ·rw[g];exact z
   rw[fX,q,j,j];rw[ew,v,n,l];exact(v,by rw[g];exact n)
  ·refine(ok b u q).stay (λc v hc r=>k c v ?_ r) (λc r=>by rw[Zc (i c b r)];exact r) λc d r=>by rw[Zc (m c d r)];exact r
   rcases hc with rfl|hc
   ·exact g
   ·rintro rfl;rcases he with z|z
    ·exact i c b hc z
    ·rw[rR,hc,z];exact f rfl
universe E
structure Un (fs ex:ŧ) (H H':Hp) (h h':aI):Prop where
 ċ:∀b o,ß b=U o->H b=af->b ∉ fs->b ∉ ex->ÿ b=U o
 slot:∀b o,ß b=U o->H b=af->b∈fs->b ∉ ex->∃sl,ÿ b=U { o with Á1:=sl }
 Ι:∀b o,ß b=U o->H b=af->b ∉ ex->H' b=af
 there:∀b o,ß b=U o->b ∉ ex->∃o',ÿ b=U o'
 tups:∀b xs,H b=U Β->H' b=U Β
 frzs:∀b o u,H b=U ÂB->H' b=U ÂB
 tbls:∀b ps,H b=U (.tbl ps)->∃Ę,H' b=U (.tbl (ps++Ę))
section
variable {fs uc ex ex':À ae} {H H1 H2:Hp} {h h1 h2 h':aI} {a x e:ae} {o:HO}
theorem Un.any(u:Un fs ex H H1 h h1){b:ae}{ob:aN}(q:ß b=U ob)(n:H b=af)(hx:b ∉ ex):∃sl,h1.get? b=U { ob with Á1:=sl }:=by
 by_cases a:b∈fs
 ·exact u.slot b ob q n a hx
 ·exact(ob.slots,u.keep b ob q n a hx)
theorem ÈU(k:ËL):Un fs ex H H h h' :=
 (λb a q _ _ _=>k b a q,λb a q _ _ _=>(ËN,k b a q),λ_ _ _ n _=>n,λb a q _=>(a,k b a q),λ_ _ q=>q,λ_ _ _ q=>q,λ_ ps q=>(#[],by rw[q];simp))
theorem Un.refl:Un fs ex H H h h:=ÈU λ_ _ q=>q
theorem Un.laid(k:ËL)(hp:ÏH)(c:H a=af):Un fs ex H ÆA h h' where
 ċ:=λb u q _ _ _=>k b u q
 slot:=λb u q _ _ _=>(u.slots,k b u q)
 Ι:=λb u q n _=>by rw[Zc (Qz (QB (Qr q) hp))];exact n
 there:=λb u q _=>(u,k b u q)
 tups:=λb d q=>by rw[Zc (Zf q c)];exact q
 frzs:=λb u d q=>by rw[Zc (Zf q c)];exact q
 tbls:=λb ps q=>(#[],by rw[Zc (Zf q c),q];simp)
theorem Un.write(a:Mut (H x))(he:ÏI)(k:#[hs,b,u,e,ß])(i:ÏJ):Un fs ex H (upd H x o) h h':=by
 have d:∀b,H b=af->b≠x:=λb n z=>by subst z;rw[n]at a;exact a
 have f:∀b,H b=af->b≠e:=λb n z=>by
  subst z;rcases he with r|r
  ·exact d b n r
  ·rw[fX,n,r,r]
 have c:∀b u,H b=U u->¬ Mut (U u)->b≠x:=λb u q j z=>by subst z;rw[q]at a;exact j a
 refine⟨λb u q n _ _=>k b u (f b n) q,λb u q n _ _=>(u.slots,k b u (f b n) q),λb u q n _=>by rw[Zc (d b n)];exact n,λb u q _=>?_,
  λb l q=>by rw[Zc ÏK];exact q,λb u l q=>by rw[Zc ÏK];exact q,λb ps q=>(#[],by rw[Zc ÏK,q];simp)⟩
 by_cases g:b=e
 ·subst g;exact i
 ·exact(u,k b u g q)
universe E
def trk(h:aI)(H:Hp):À ae:=#[x4].filter λa=>(H a).isSome
def Wl(h:aI)(H:Hp):aI:=PySem.W.hideAll h (trk h H)
theorem ZnX(h:aI)(H:Hp):(Wl h H).objs.size=ĺ:=PySem.W.hideAll_size _ _
theorem ZqC{h:aI}{H:Hp}{b:ae}{o:aN}(e:ß b=U o)(n:H b=af):(Wl h H).get? b=U o :=
 PySem.W.hideAll_get _ e λa=>by have q:(H b).isSome=true:=(Ã1 a).2;rw[n]at q;simp at q
theorem ZsH{h:aI}{H:Hp}{b:ae}{o:aN}(e:(Wl h H).get? b=U o):ß b=U o/\H b=af:=by
 have a:ß b=U o:=PySem.W.of_hideAll (trk h H) e;refine(a,?_);cases q:H b with
 | none=>rfl
 | some x=>have c:b∈trk h H:=List.mem_filter.mpr (ÏL (Qr a),by simp[q]);have z:(Wl h H).get? b=af:=PySem.W.hideAll_none (trk h H) c;rw[fX,z,e,e]
def ZsA(g h:aI)(L:ae):À (ae×aN):=#[x4].filterMap λa=>if a=L\/(ÆD a).isSome=true then af else (ß a).map λo=>(a,o,)
def Ă(g h:aI)(L d:ae):À (ae×aN):=(ZsA g h L).filter λp=>decide (p.1≠d)
structure Mod (K:Å) (mg:Ā) (Â:aI):Prop where
 kin:Ŵ Â
 glob:ÈV aL mg
 blt:∃mb,ÈV ÏM mb/\∀x:ak,x ≠ "__name__"->mb x=c9 x
 nolimit:base.NoLimit
structure Cx where
 ñ:ay
 w:aF
 K:Å
 mg:ak->Ã aa
 Â:aI
 A:aD
 N:À ak
 ÀU:aj
 H₀:Hp
 env:Env
 Ü:À Env
 stack:À Env
 ex:À ae
 fn:ak->Ï
 calm:Ï
 pn:À (ae×aN)
 xe:aa->aj->Prop
def frs(l:Á2):À ae:=l.filterMap (·.frame)
abbrev Cx.fs(X:Cx):À ae:=frs ÂC
def Vis(a:bh)(x:ak):Prop:=Ã2 x=U .local\/Ã2 x=U .cell\/Ã2 x=U .free
def Loc(a:bh)(x:ak):Prop:=Ã2 x=U .local\/Ã2 x=U .cell
def Zw2(env:Env)(h:aI)(m:Ā)(x:ak)(u:aa):Prop :=
 (ÆE x=U .local/\m x=U u)\/(#[hd,ÆE,x]/\∃c,ÏN x=U c/\h.IsCell c (U u))
structure Cx.Ok (X:Cx):Prop where
 mod:Mod X.K ğ Œ
 kind:ÏO=.function
 glob:X.env.globals=aL
 blt:X.env.builtins=ÏM
 above:ŵ<=ı
 inj:∀x y c,δ x=U c->δ y=U c->x=y
 has:∀x,#[hd,ÂD,x]->∃c,δ x=U c
 cab:∀x c,X.fn x=true->δ x=U c->ŵ<=c
 hd:X.calm=true->X.A.handled=af
 frames:X.A.frames=U Κ
 stk:Κ=ÂC\/(Κ=Ì::ÂC/\X.env.frame=U ı)
 exf:∀b∈X.ex,b≠ı/\∀x c,δ x=U c->c≠b
 bs:∀b o,ÈW b=U o->ÏP b=U o/\ÈX b=af
 bsz:X.base.objs.size<=ŵ
 noex:∀b o,ÈW b=U o->b ∉ X.ex
 exfs:∀b∈X.ex,b ∉ ÀA
 funs:Ô1 Œ ÂC
 frf:∀b∈ÀA,ÈX b=af
structure Inv (X:Cx) (ai:Ć) (σ:À (Ã V)) (H:Hp) (s:aj):Prop where
 ok:X.Ok
 os:s.os=X.s₀.os
 bare:Ãn Åq
 Â:Un ÀA X.ex ÈX H X.s₀.heap Ë
 loc:∃m,s.heap.Ns ı m/\∀ (i:Nat) (x:ak) (v:V),X.N[i]? = U x->σ[i]? = U (U v)->Vis ÏQ x->∃u,ZE v u/\Zw2 Ì Ë m x u
 cell:∀x c,δ x=U c->∃v,s.heap.IsCell c v
 Ι:H ı=af
 freeC:∀x c,δ x=U c->H c=af
 pin:∀p∈X.pn++ai,é p.1=U p.2/\H p.1=af/\p.1≠ı/\p.1 ∉ ÀA/\∀v,p.2.data≠.cell v
 hok:HOk ö X.w H Ë
 len:σ.length=X.N.length
section
variable {X:Cx} {ai:À (ae×aN)} {σ:À (Ã V)} {H H':Hp} {s:aj} {h':aI}
theorem Cx.Ok.nofr(ok:X.Ok){b:ae}{o:aN}(e:ÈW b=U o):b ∉ ÀA:=λhb=>by have:=(ok.funs.mem hb).1;rw[e]at this;cases this
theorem Inv.bs(I:ä):∀b o,ÈW b=U o->é b=U o/\H b=af:=λb o e =>
 (ÈY b o #[p0].1 #[p0].2 (I.ok.nofr e) (ÆF b o e),ÆG b o #[p0].1 #[p0].2 (ÆF b o e))
theorem Inv.bk(I:ä):∀b o,ÈW b=U o->é b=U o:=λb o e=>(I.bs b o e).1
theorem Inv.mod(I:ä):Mod X.K ğ Œ:=ËO
theorem Inv.kIn(I:ä):X.K.In Ë:=I.ok.mod.kin.keeps I.bk
theorem Inv.lt(I:ä):ı<Ð:=let ⟨_,a,_⟩:=Š;a.lt
theorem Inv.sz(I:ä):ŵ<=Ð:=Qk ÈZ (QaJ I.lt)
theorem Inv.nofs(I:ä){a:ae}(h:Ð<=a):a ∉ ÀA:=λhb=>by obtain _|o|b|_:=I.ok.funs.mem hb;exact Ê (QB (Qr b) (Qk I.sz h)) (Qag _)
theorem Inv.cne(I:ä):∀x c,δ x=U c->c≠ı:=λx c e z=>by obtain v|o|a|b:=ËP;obtain m|⟨o',es,ep,d,f,_⟩|_:=Š;rw[z,d]at a;cases a;rw[f]at b;cases b
theorem Inv.funs(I:ä):ÆH Œ ÂC:=by
 have all:∀ (l:À Env),(∀b∈frs l,b∈ÀA)->Ô1 Œ l->ÆH Œ l:=by
  intro l;induction l with
  | nil=>intro _ _;trivial
  | Î env r g=>intro f h;obtain i|⟨L,o,a,j,k,m⟩|n:=h;have c:L∈ÀA:=f L (by unfold frs;rw[QaD,a];exact Qal);obtain sl|e:=È0 L o k (I.ok.frf L c) c λz=>ÏR L z c;exact(i,(L,_,a,j,e,m),g (λb d=>f b (by unfold frs;rw[QaD,a];exact Qm _ d)) n)
 exact all ÂC (λ_ d=>d) I.ok.funs
theorem Inv.stack(I:ä):ÆH Œ Κ:=by
 rcases I.ok.stk with e|⟨e,a⟩
 ·rw[e];exact I.funs
 ·rw[e];obtain m|b|_:=Š;refine .cons #[fY,Ás] a b ?_ I.funs;exact Ô2 (Qk È1 ÈZ)
theorem Inv.stkSub(I:ä):∀b∈frs Κ,b∈ı::ÀA:=λb hb=>by
 rcases I.ok.stk with e|⟨e,a⟩
 ·rw[e]at hb;exact Qm _ hb
 ·rw[e]at hb;unfold frs at hb;rw[QaD,a]at hb;exact hb
theorem Inv.stkFree(I:ä):∀b∈frs Κ,H b=af:=λb hb=>by
 rcases Ĳ (I.stkSub b hb) with e|hb
 ·rw[e];exact ε
 ·obtain _|o|a|_:=I.ok.funs.mem hb;exact ÆG b o a (I.ok.frf b hb) λz=>ÏR b z hb
theorem Inv.step{g':ā Ão}{t':Nat}{d':År}{ch:ŧ}(I:ä)
  (w:ÏS)
  (ċ:∀b o,b≠ı->b ∉ ÀA->b ∉ ch->é b=U o->H b=af->ÿ b=U o)
  (slot:∀b o,b≠ı->b∈ÀA->b ∉ ch->é b=U o->H b=af->∃sl,ÿ b=U { o with Á1:=sl }) (Ι:∀b o,b ∉ ch->é b=U o->H b=af->H' b=af)
  (h:∀b o,b ∉ ch->é b=U o->∃y,ÿ b=U y)
  (A:#[zv,b,g,H']) (B:∀b o u,H b=U ÂB->H' b=U ÂB) (C:∀b F,H b=U (.tbl F)->∃Ę,H' b=U (.tbl (F++Ę)))
  (R:∀m,s.heap.Ns ı m->h'.Ns ı m) (J:ÏT) (S:Ãn g') :
  Inv X ai σ H' { s with Õ:=h',gens:=g',drawn:=d',î:=t' }:=by
 have M:∀b o,ÏP b=U o->b≠ı:=λb o e=>Qz (QB (Qr e) ÈZ);have G:∀b o,ÏP b=U o->b ∉ X.ex->b ∉ ch:=λb o e a j=>by
  rcases(w b j).1 with z|z
  ·exact a z
  ·exact Ê (QB (Qr e) z) (Qag _)
 have N:∀x c,δ x=U c->∀v,s.heap.IsCell c v->h'.IsCell c v:=λx c e v ⟨o,t,K⟩=>by
  have D:c ∉ ch:=λz=>(w c z).2.2.1 x c e rfl;by_cases O:c∈ÀA
  ·obtain sl|q:=slot c o (I.cne x c e) O D t ÏU;exact(_,q,K)
  ·exact(o,ċ c o (I.cne x c e) O D t ÏU,K)
 refine(ζ,I.os,S,(λb o e n j a=>?_,λb o e n j a=>?_,λb o e n a=>?_,λb o e a=>?_,λb g e=>A b g (ËQ b g e),λb o g e=>B b o g (È2 b o g e),λb F e=>?_),?_,λx c e=>?_,?_,λx c e=>?_,λp P=>?_,J,ÀB)
 ·exact ċ b o (M b o e) j ËR (ÈY b o e n j a) ÏV
 ·obtain sl|f:=È0 b o e n j a;obtain L|E:=slot b _ (M b o e) j ËR f ÏV;exact(L,E)
 ·rw[si,y,f,a];exact Ι b y ËR f ÏV
 ·rw[si,y,f,a];exact h b y ËR f
 ·obtain T|f:=ËS b F e;obtain V|E:=C b _ f;exact(T++V,by rw[E,Ô3])
 ·rw[hD,m,W,Y,Š];refine(m,R m W,λi x v f E Z=>?_);obtain u|r|l:=Y i x v f E Z;rw[sC,u,r];rcases l with l|⟨k,c,e,z⟩
  ·exact .inl l
  ·exact .inr (k,c,e,N x c e _ z)
 ·obtain v|z:=ËP;exact(v,N x c e v z)
 ·obtain m|⟨o,_,_,t,_⟩|_:=Š;exact Ι _ o #[zG,w] t ε
 ·obtain v|o|t|K:=ËP;exact Ι c o (λz=>(w c z).2.2.1 x c e rfl) t ÏU
 ·rw[zQ,Q,P];have D:p.1 ∉ ch:=λz=>(w p.1 z).2.2.2 p P rfl;exact(ċ p.1 p.2 ne Q D e n,Ι p.1 p.2 D e n,ne,Q,d)
theorem Inv.un{t':Nat}(I:ä)(u:Un ÀA [] H H' Ë h')(hok:ÏT):Inv X ai σ H' { s with Õ:=h',î:=t' }:=by obtain m|⟨o,es,ep,c,r⟩|_:=id Š;obtain sl|f:=u.any c ε Ö;exact È3 (g':=Åq) (d':=È4) (ch:=[]) (λ_ z=>nomatch z) (λb o _ a _ e n=>u.keep b o e n a Ö) (λb o _ a _ e n=>u.slot b o e n a Ö) (λb o _ e n=>u.free b o e n Ö) (λb o _ e=>u.there b o e Ö) u.tups u.frzs u.tbls (λm' g=>by obtain o'|h|i|d|j:=g;rw[c]at d;cases d;exact(_,h,i,f,j)) hok Λ
theorem Inv.call{g':ā Ão}{t':Nat}{d':År}{ch:ŧ}(I:ä)(u:Un ËT ch H H' Ë h')(hok:ÏT)(i:Ãn g')
  (f:ÏS) :
  Inv X ai σ H' { s with Õ:=h',gens:=g',drawn:=d',î:=t' }:=by
 obtain m|⟨o,es,ep,g,r⟩|_:=id Š;obtain sl|d:=u.any g ε λz=>(f _ z).2.1 rfl;exact È3 (ch:=ch) f (λb o d j a e n=>u.keep b o e n (λz=>(Ĳ (I.stkSub b z)).elim d j) a) (λb o _ _ a e n=>u.any e n a) (λb o a e n=>u.free b o e n a) (λb o a e=>u.there b o e a) u.tups u.frzs u.tbls (λm' k=>by obtain o'|l|q|h|t:=k;rw[g]at h;cases h;exact(_,l,q,d,t)) hok i
theorem Inv.turned{t':Nat}{it:ae}(I:ä)(k:#[hs,b,o,it,é])(g:H it=af)(d:it≠ı)
  (h1:it∈X.ex\/ŵ<=it) (h2:∀x c,δ x=U c->c≠it) (h:∀p∈X.pn++ai,p.1≠it):Inv X ai σ H { s with Õ:=h',î:=t' }:=by
 have f:∀b u,H b=U u->b≠it:=λb u e z=>by rw[z,g]at e;cases e
 refine È3 (g':=Åq) (d':=È4) (ch:=[it]) (λb i=>?_) (λb o _ _ a e _=>k b o ÏW e) (λb o _ _ a e _=>(È5,k b o ÏW e)) (λ_ _ _ _ n=>n)
  (λb o a e=>(o,k b o ÏW e)) ËU (λ_ _ _ e=>e) Ô4 (λm j=>?_) #[hU,b,u,e] Λ
 ·have e:b=it:=by simpa using i
  subst e;exact(h1,d,h2,h)
 ·obtain o|l|t|w|r:=j;exact(o,l,t,k _ o (À7 d) w,r)
 ·refine(ê b u e).stay (λc v a q=>k c v ?_ q) (λ_ q=>q) λ_ _ q=>q;rcases a with z|z
  ·rw[z];exact f b u e
  ·exact f c _ z
theorem Inv.tok(I:ä)(t:Nat):Inv X ai σ H { s with î:=t }:=I.un (h':=Ë) (t':=t) Un.refl ê
theorem Inv.kept{t':Nat}(I:ä)(k:Ô5):Inv X ai σ H { s with Õ:=h',î:=t' }:=I.un (ÈU k) (I.hok.kept k)
theorem Inv.laid{a:ae}{o:HO}{t':Nat}(I:ä)(k:Ô5)(hp:Ð<=a)(new:Z8 ö X.w ÆA h' a o) :
  Inv X ai σ ÆA { s with Õ:=h',î:=t' }:=I.un (Un.laid k hp (ÆI hp)) (I.hok.laid k hp new)
theorem Inv.write{x e:ae}{o:HO}{t':Nat}(I:ä)(a:Mut (H x))(he:ÏI)(k:#[hs,b,u,e,é])(c:ÏJ)
  (new:Z8 ö X.w (upd H x o) h' x o):Inv X ai σ (upd H x o) { s with Õ:=h',î:=t' }:=I.un (Un.write a he k c) (I.hok.write a he k c new)
theorem Inv.pins_of{a:Ć}(I:ä)(h:∀p∈a,é p.1=U p.2/\H p.1=af/\p.1≠ı/\p.1 ∉ ÀA/\∀v,p.2.data≠.cell v):Inv X a σ H s :=
 (ζ,I.os,Λ,Ås,Š,Àd,ε,ÀC,λp b=>(ë b).elim (λz=>Àe p (QU _ z)) (h p),ê,ÀB)
theorem Mw{N:Ñ}(c:ËV){i j:Nat}{x:ak}(a:N[i]? = U x)(b:N[j]? = U x):i=j:=by obtain h1|d:=Ũ a;obtain h2|e:=Ũ b;exact(List.getElem_inj c).mp (ÆJ Ã3)
theorem Mv{M:ÀV}{A:aD}{E:ð}{i:Nat}{x:ak}{v:V}{u:aa}{Q:Á3}(I:ä)(T:Ã4)(B:ÂE)(hx:ÆK)(r:ZE v u)
  (h:∀s',Inv X ai (σ.set i (U v)) H s'->(∃a,ÆL a Ë ÀD/\(a=ı\/δ x=U a))->Q () s') (hf:ÆM:=by first|exact Á4|exact À8|assumption):ar M A (ÏX Ì x u) Q E s:=by
 rw[tq,m,F,W,id,Š];have lO:(ÏO == .class||(ÏO == .module&&ı != X.env.globals))=false:=by rw[Ás];rfl
 have Y:i<σ.length:=by rw[ÀB];exact(Ũ B).1
 have cne:=I.cne;have Z:∀ {a:ae} {h':aI},(∃o,é a=U o/\H a=af)->ÆL a Ë h'->HOk ö X.w H h':=λ{a h'} ha f b ob e=>by
  obtain _|_|gx:=ha;refine(ê b ob e).stay (λc C hc q=>(f.2 c ?_).trans q) (λ_ q=>q) λ_ _ q=>q;rintro rfl;rcases hc with rfl|hc
  ·rw[rR,gx,e]
  ·rw[rR,gx,hc]
 rcases hx with hk|hk
 ·refine wpAny_storeName_local hk F #[hU,h',qX,f] lO;obtain oL|_|_|lP|_:=id F;refine h _ (ζ,I.os,Λ,Ô6,(_,qX,λj y G g l J=>?_),λy c e=>?_,ε,ÀC,λp K=>?_,Z (oL,lP,ε) f,by simpa using ÀB) (_,f,.inl rfl)
  ·exact#[jQ].trans Ô7
  ·rw[tI];exact(L,#[jQ].trans g)
  ·rw[si,N,g,hx];exact(N,#[jQ].trans g)
  ·by_cases w:j=i
   ·rw[lb];exact(u,r,.inl (hk,by simp))
   ·rw[dz];rcases q with⟨k,e⟩|⟨k,c,e,z⟩
    ·refine .inl (k,?_);have:y≠x:=λe=>w (Mw T g (e ▸ B));simp[this,e]
    ·exact .inr (k,c,e,z.sameBut f (cne y c e))
  ·obtain C|z:=Àd y c e;exact(C,z.sameBut f (cne y c e))
  ·rw[zQ,R,K];exact((f.2 p.1 ne).trans e,n,ne,R,d)
 ·have S:X.fn x=true:=by
   rcases hf with z|z
   ·exact z
   ·rw[rR,z,hk]
  obtain c|hc:=ËW x (.inl hk);obtain C|z:=Àd x c hc;refine wpAny_storeName_cell Ás hk hc z #[hU,h',u7,f];rw[tq,oc,D8,D9,id,z];refine h { s with Õ:=h' } (ζ,I.os,Λ,Ô6,(m,F.sameBut f (À7 (cne x c hc)),λj y G g l J=>?_),λy D e=>?_,ε,ÀC,λp K=>?_,Z (oc,D8,ÀC x c hc) f,by simpa using ÀB) (c,f,.inr hc)
  ·exact#[dp].trans Ô7
  ·rw[tI];exact(L,#[dp].trans g)
  ·rw[si,N,g,hx];exact(N,#[dp].trans g)
  ·by_cases w:j=i
   ·rw[lb];exact(u,r,.inr (.inl hk,c,hc,u7))
   ·rw[dz];rcases q with q|⟨k,D,e,z'⟩
    ·exact .inl q
    ·refine .inr (k,D,e,z'.sameBut f ?_);rintro rfl;exact w (Mw T g (I.ok.inj _ _ _ e hc ▸ B))
  ·by_cases Ea:D=c
   ·subst Ea;exact(_,u7)
   ·obtain w2|z2:=Àd y D e;exact(w2,z2.sameBut f Ea)
  ·rw[zQ,R,K];refine((f.2 p.1 ?_).trans e,n,ne,R,d);intro q;rw[q,D8]at e;have q':oc=p.2:=Qw e;exact d C #[eS,q',D9]
theorem V7{M:ÀV}{A:aD}{E:ð}{i:Nat}{x:ak}{v:V}{u:aa}{Q:Á3}(I:ä)(a:Ã4)(b:ÂE)(hx:ÆK)(r:ZE v u)
  (h:∀s',Inv X ai (σ.set i (U v)) H s'->Q () s') (c:ÆM:=by first|exact Á4|exact À8|assumption):ar M A (ÏX Ì x u) Q E s :=
 Mv I a b hx r (λs' d _=>h s' d) c
theorem Inv.call'{s':aj}{ch:ŧ}(I:ä)(a:s'.os=s.os)(u:Un ËT ch H H' Ë ÀD)(hok:HOk ö X.w H' ÀD)(d:Ãn s'.gens)
  (f:ÏS):Inv X ai σ H' s':=by
 obtain h'|g'|d'|t'|g:=s';have e:g=s.os:=a;subst e;exact I.call (g':=g') (t':=t') (d':=d') u hok d f
universe E
abbrev XK:=aa->Ã ae->Hp->Prop
abbrev St:=À (Ã V)
abbrev VK:=V->Hp->Prop
abbrev TE:=St->Hp->VK->Prop
abbrev TT:=St->Hp->(Ï->Hp->Prop)->Prop
abbrev TA:=St->Hp->(À V->Hp->Prop)->Prop
structure XS where
 nx:St->Hp->Prop
 rt:VK
 bk:St->Hp->Prop:=ËX
 ct:St->Hp->Prop:=ËX
abbrev TS:=XS->St->Hp->Prop
def EP(X:Cx)(b:Ć)(c:St)(Q:VK)(u:aa)(s':aj):Prop:=X2 λv a=>Inv X b c a s'/\ZE v u/\Q v a
def TP(X:Cx)(c:Ć)(d:St)(Q:È6)(b:Ï)(s':aj):Prop:=∃a,Inv X c d a s'/\Q b a
def AP(X:Cx)(b:Ć)(c:St)(Q:À V->Hp->Prop)(us:å)(s':aj):Prop:=X2 λvs a=>Inv X b c a s'/\ZG vs us/\Q vs a
def SP(X:Cx)(c:Ć)(D:XS)(f:Flow)(s':aj):Prop :=
 match f with
 | .next=>X2 λb a=>Inv X c b a s'/\č b a
 | .brk=>X2 λb a=>Inv X c b a s'/\D.bk b a
 | .cont=>X2 λb a=>Inv X c b a s'/\D.ct b a
 | .ret u=>X3 λv b a=>Inv X c b a s'/\ZE v u/\D.rt v a
def PE(X:Cx)(e:aK)(t:TE):Prop :=
 ∀ (b:À (ae×aN)) (s:aj) (a:St) (H:Hp) (Q:VK),Inv X b a H s->t a H Q->ô #[fr,e] (EP X b a Q) è s
def PT(X:Cx)(e:aK)(t:TT):Prop :=
 ∀ (b:À (ae×aN)) (s:aj) (a:St) (H:Hp) (Q:Ï->Hp->Prop),Inv X b a H s->t a H Q->ô (isTrue e Ì #[fr,e]) (TP X b a Q) è s
def PW(X:Cx)(e:aK)(t:TT):Prop :=
 ∀ (c:Sem aa) (b:À (ae×aN)) (s:aj) (a:St) (H:Hp) (Q:Ï->Hp->Prop),Inv X b a H s->t a H Q->ô (isTrue e Ì c) (TP X b a Q) è s
theorem Ř{X:Cx}{e:aK}{t:TT}(h:PW X e t):PT X e t:=h _
def PA(X:Cx)(d:ĳ)(t:TA):Prop :=
 ∀ (a:Pos) (c:À (ae×aN)) (s:aj) (b:St) (H:Hp) (Q:À V->Hp->Prop),Inv X c b H s->t b H Q->ô (spliced (bo a (aG d Ì))) (AP X c b Q) è s
def PS(X:Cx)(st:aM)(t:TS):Prop :=
 ∀ (a:À (ae×aN)) (s:aj) (b:St) (H:Hp) (D:XS),Inv X a b H s->t D b H->ô (exec st Ì) (SP X a D) è s
def PSs(X:Cx)(st:Γ)(t:TS):Prop :=
 ∀ (a:À (ae×aN)) (s:aj) (b:St) (H:Hp) (D:XS),Inv X a b H s->t D b H->ô (execs st Ì) (SP X a D) è s
theorem thn{α:Type}{t:Sem α}{Q b:α->aj->Prop}{M:ÀV}{A:aD}{E:ð}{s:aj}(h:ar M A t Q E s)(c:∀a s,Q a s->b a s):ar M A t b E s:=ba h c λ_ _ x=>x
section
variable {X:Cx}
inductive EA {α:Type} (A B:α->Prop):Prop where
 | mk (v:α) (a:A v) (b:B v)
def S9(i:Nat):TE:=λa H Q=>EA (λv=>a[i]? = U (U v)) (λv=>Q v H)
def tC(v:V):TE:=λ_ H Q=>Q v H
theorem Rs{i:Nat}{x:ak}{pos:Pos}(f:ÂE)(g:#[ih,Vis])(hd:Ĩ:=by decide)(j:ËY:=by decide):PE X ÀW (S9 i):=by
 rw[e3,k,n,Q];rw[hD,v,e,h,h];rw[hD,m,o,p,Š];obtain u|r|l:=p i x v f e g;have a:EP X k n Q u s:=ÏY;rcases l with⟨hk,q⟩|⟨hk,c,b,d⟩
 ·exact ÏZ (Ô8 Ás hk o q a) hd
 ·rcases hk with hk|hk
  ·exact ÏZ (Ô9 Ás hk b d a) hd
  ·exact ÏZ (wpAny_loadName_free Ás hk b d a j) hd
theorem Zj{i j pos}:PE X (.Constant Åt j pos) (tC Åt):=λ_ _ _ H _ I h=>wpAny_Constant_int #[ti,i,h]
theorem U7{b j pos}:PE X (.Constant (.bool b) j pos) (tC (.bl b)):=λ_ _ _ H _ I h=>Constant_bool #[zA,b,h]
theorem ZU{j pos}:PE X (.Constant .none j pos) (tC .non):=λ_ _ _ H _ I h=>Constant_none (.non,H,I,rfl,h)
theorem Zl{x j pos}:PE X (.Constant Åu j pos) (tC Åu):=λ_ _ _ H _ I h=>Calls.Constant_str #[gr,x,h]
def Gl(X:Cx)(x:ak):Prop:=ÂD x=U .globalImplicit
theorem W7{E:ð}{a:Ć}{s:aj}{b:St}{H:Hp}{x:ak}{u:aa}{pos:Pos}{Q:ð}(I:È7)(c:Ō)(hm:ğ x=U u)(h:Q u s)
  (hd:Ĩ:=by decide):ô #[fr,ÀW] Q E s :=
 Õa Ás c (Calls.loadGlobal_global Õb hm h) hd
theorem VF{E:ð}{a:Ć}{s:aj}{b:St}{H:Hp}{x:ak}{u:aa}{pos:Pos}{Q:ð}(I:È7)(c:Ō)(hm:ğ x=af)(d:c9 x=U u)(h:Q u s)
  (e:È8:=by decide) (hd:Ĩ:=by decide):ô #[fr,ÀW] Q E s:=by
 rw[hD,mb,f,g,I.mod.blt];exact Õa Ás c (Calls.loadGlobal_builtin Õb hm #[fd,I.ok.blt,f.keeps,I.bk] ((g x e).trans d) h) hd
theorem Mu{x:ak}{v:V}{u:aa}{pos:Pos}(a:Ō)(hm:ğ x=U u)(r:ZE v u)(hd:Ĩ:=by decide):PE X ÀW (tC v) :=
 λ_ _ _ H _ I h=>W7 I a hm ÏY hd
theorem Ztb{x:ak}{v:V}{u:aa}{pos:Pos}(a:Ō)(hm:ğ x=af)(b:c9 x=U u)(r:ZE v u)(c:È8:=by decide)(hd:Ĩ:=by decide):PE X ÀW (tC v) :=
 λ_ _ _ H _ I h=>VF I a hm b ÏY c hd
variable {a b:aK} {ta tb:TE} {pos:Pos}
def tB(t:TE):TT:=λa H Q=>t a H λx b=>EA (λc=>x=.bl c) (λc=>Q c b)
theorem Xi{e:aK}{t:TE}(h:PE X e t)(he:∀a,isTrue e Ì a=(do let v <- a;Ã5 e.pos;Át [v] (truthy v)):=by intro _;rfl):PT X e (tB t):=by intro b s c H Q I hw;refine isTrue_plain (thn (h b s c H _ I hw) ?_) (he _);rintro v s1 ⟨x,f,g,i,j⟩;obtain d|rfl|q:=j;cases i;exact bq (f,g,q)
variable {tA ye:TT} {Ă:À aK}
def Zw7(t u:TT):TT:=λa H Q=>t a H λc b=>if c=true then u a b Q else Q false b
def tOr(t u:TT):TT:=λa H Q=>t a H λc b=>if c=true then Q true b else u a b Q
def Zw5(t:TT):TT:=λa H Q=>t a H λc b=>Q (!c) b
theorem Xh(ha:PT X a tA):PW X (.BoolOp .And [a] pos) tA:=by
 intro wh b s d H Q I h;refine isTrue_and Õc;cases c with
 | true=>exact isTrue_and_nil e
 | false=>exact e
theorem W6(ha:PT X a tA):PW X (.BoolOp .Or [a] pos) tA:=by
 intro wh b s d H Q I h;refine isTrue_or Õc;cases c with
 | false=>exact isTrue_or_nil e
 | true=>exact e
theorem Xt(ha:PT X a tA)(hb:PW X Õd ye):PW X Õe (Zw7 tA ye):=by
 intro j d s e H Q I h;refine isTrue_and #[es,ha,d,e];rintro c k ⟨f,g,i⟩;cases c with
 | true=>exact hb j d k e f Q g i
 | false=>exact(f,g,i)
theorem W5(ha:PT X a tA)(hb:PW X Õf ye):PW X Õg (tOr tA ye):=by
 intro j d s e H Q I h;refine isTrue_or #[es,ha,d,e];rintro c k ⟨f,g,i⟩;cases c with
 | true=>exact(f,g,i)
 | false=>exact hb j d k e f Q g i
theorem Ut(ha:PT X a tA):PT X (.UnaryOp .Not a pos) (Zw5 tA):=by intro b s d H Q I h;exact isTrue_not (ha b s d H (λc e=>Q (!c) e) I h)
def Zvw(ta tb:TE):TE:=λa H Q=>ta a H λx b=>∃c,x=.bl c/\if c=true then tb a b Q else Q (.bl false) b
def ZwP(ta tb:TE):TE:=λa H Q=>ta a H λx b=>∃c,x=.bl c/\if c=true then Q ÆN b else tb a b Q
def ZvK(ta:TE):TE:=λa H Q=>ta a H λx b=>∃c,x=.bl c/\Q (.bl (!c)) b
theorem Us{op}{t:TE}(h:PE X a t):PE X (.BoolOp op [a] pos) t:=λb s c H Q I hw=>BoolOp_one (h b s c H Q I hw)
theorem Ur(ha:Áu)(hb:PE X Õd tb):PE X Õe (Zvw ta tb):=by
 rw[tb,Q,BoolOp_and,ha];rw[kp];cases c with
 | true=>exact hb e j f g Q i d
 | false=>exact(.bl false,g,i,rfl,d)
theorem ZvC(ha:Áu)(hb:PE X Õf tb):PE X Õg (ZwP ta tb):=by
 rw[tb,Q,BoolOp_or,ha];rw[kp];cases c with
 | false=>exact hb e j f g Q i d
 | true=>exact(.bl true,g,i,rfl,d)
theorem Zu2(ha:Áu):PE X (.UnaryOp .Not a pos) (ZvK ta):=by intro d s e H Q I h;refine UnaryOp_ #[es,ha,d,e];rintro v s1 ⟨x,f,g,i,b⟩;obtain c|rfl|b:=b;cases i;exact not_of (bq (.bl (!c),f,g,rfl,b))
def tIf(t:TT)(ta tb:TE):TE:=λa H Q=>t a H λc b=>if c=true then ta a b Q else tb a b Q
theorem Z4{c:aK}(hc:PT X c tA)(ha:Áu)(hb:Ã6):PE X (.IfExp c a b pos) (tIf tA ta tb):=by
 rw[tb,Q,wpAny_IfExp,hc];rintro d g ⟨i,j,k⟩;cases d with
 | true=>exact ha e g f i Q j k
 | false=>exact hb e g f i Q j k
universe E
def SqL(K:Å)(H:Hp)(a:ae)(xs:Ė):Prop :=
 Rd H a ÀE \/
  X3 λ(o:aN) (its:ā aa) (n:Nat)=>Ļ a=U o/\Ãp=.type "list"/\o.dict=af/\ų=.seq its n/\its.size<=aq/\ZG xs È9
def SqT(K:Å)(H:Hp)(a:ae)(xs:Ė):Prop :=
 Rd H a Β \/
  X3 λ(o:aN) (its:ā aa) (n:Nat)=>Ļ a=U o/\Ãp=.type "tuple"/\ų=.seq its n/\its.size<=aq/\ZG xs È9
def Zw1:aa->Ã V
 | .none=>U .non
 | .bool b=>U (.bl b)
 | .int i _=>U Åt
 | .str x _=>U Åu
 | .bytes b _=>U (.byt b)
 | .float b _=>U (.flt b)
 | .ref a=>U ĩ
 | .type n=>U (.ty n)
 | _=>af
theorem ZE.abs{x:V}{u:aa}(r:ZE x u):Zw1 u=U x:=by
 cases x with
 | non=>cases r;rfl
 | bl _=>cases r;rfl
 | int _=>obtain t|rfl:=r;rfl
 | str _=>obtain t|rfl:=r;rfl
 | byt _=>obtain t|rfl:=r;rfl
 | flt _=>obtain t|rfl:=r;rfl
 | ref _=>cases r;rfl
 | ty _=>cases r;rfl
theorem ZE.inj{x y:V}{u:aa}(r:ZE x u)(q:ZE y u):x=y:=Qw (r.abs.symm.trans q.abs)
theorem ZG.inj:∀ {xs ys:À V} {us:À aa},ZG xs us->ZG ys us->xs=ys
 | _,_,_,.nil,.nil=>rfl
 | _,_,_,.cons r t,.cons a t'=>by rw[r.inj a,ZG.inj t t']
section
variable {X:Cx} {ai:À (ae×aN)} {σ:St} {H:Hp} {s:aj} {a:ae} {xs ys:À V}
theorem Í{K:Å}(h:H a=U ÀE):SqL K H a xs:=.inl (.inl h)
theorem û{K:Å}(h:H a=U Β):SqT K H a xs:=.inl (.inl h)
theorem Inv.list(I:ä)(h:SqL X.K H a xs):∃its:À aa,ZG xs its/\PlainL Ë a İ/\ã<=aq:=by
 rcases h with h|⟨o,its,n,b,c,d,f,hz,r⟩
 ·obtain z|its|n|r|e:=h.ok ê;exact(its,r,(_,n,e,rfl,rfl,rfl),z)
 ·refine(È9,r,(o,n,Ġ a o b,c,d,by simpa using f),?_);rw[nW];lia
theorem Inv.tuple(I:ä)(h:SqT X.K H a xs):∃its:À aa,ZG xs its/\Θ Ë a İ/\ã<=aq:=by
 rcases h with h|⟨o,its,n,b,c,d,hz,r⟩
 ·obtain z|its|r|p:=h.ok ê;exact(its,r,p,z)
 ·refine(È9,r,(o,Ġ a o b,c,n,by simpa using d),?_);rw[nW];lia
theorem Inv.list_inj(I:ä)(h:SqL X.K H a xs)(h':SqL X.K H a ys):xs=ys:=by
 obtain its|r|⟨o,n,e,_,_,d⟩|_:=Á5 h;obtain b|g|⟨o',n',c,_,_,f⟩|_:=Á5 h';rw[fX,e,c,c];rw[d]at f;injection f with i _;have:its=b:=by simpa using ō Array.toList i
 subst this;exact r.inj g
theorem Inv.tuple_inj(I:ä)(h:SqT X.K H a xs)(h':SqT X.K H a ys):xs=ys:=by
 obtain its|r|⟨o,e,_,n,d⟩|_:=Ã7 h;obtain b|g|⟨o',c,_,n',f⟩|_:=Ã7 h';rw[fX,e,c,c];rw[d]at f;injection f with i _;have:its=b:=by simpa using ō Array.toList i
 subst this;exact r.inj g
universe E
abbrev Cx.wish(X:Cx)(E:ð):Cx:={ X with xe:=E }
abbrev Cx.nox(X:Cx):Cx:=X.wish λ_ _=>ė
theorem Cx.Ok.wish{X:Cx}(ok:X.Ok)(E:ð):(Ï0).Ok :=
 ËZ
theorem Cx.Ok.unwish{X:Cx}{E:ð}(ok:(Ï0).Ok):X.Ok :=
 ËZ
section
variable {X:Cx} {ai:À (ae×aN)} {σ:St} {H:Hp} {s:aj} {E:aa->aj->Prop}
theorem Inv.wish(I:ä)(E:ð):Inv Ï0 ai σ H s:=(I.ok.wish E,I.os,Λ,Ås,Š,Àd,ε,ÀC,Àe,ê,ÀB)
theorem Inv.unwish(I:Inv Ï0 ai σ H s):Inv X ai σ H s:=(I.ok.unwish,I.os,Λ,Ås,Š,Àd,ε,ÀC,Àe,ê,ÀB)
theorem SP.unwish{D:XS}{f:Flow}{s':aj}(h:SP Ï0 ai D f s'):SP X ai D f s':=by
 cases f with
 | next=>obtain a|b|I|q:=h;exact Ï1
 | brk=>obtain a|b|I|q:=h;exact Ï1
 | Μ=>obtain a|b|I|q:=h;exact Ï1
 | ret u=>obtain v|a|b|I|r|q:=h;exact(v,a,b,I.unwish,r,q)
theorem PSs.nox{st:Γ}{t:TS}(h:PSs X.nox st t):PSs X st t:=λai s σ H D I hw =>
 ba (h ai s σ H D (I.wish _) hw) (λ_ _ q=>q.unwish) λ_ _ z=>Ãq z
universe E
section
variable {X:Cx} {st:aM} {Ă:À aM} {t u:TS} {e:aK} {te:TE} {pos:Pos}
def Zvp:TS:=λD a H=>č a H
def Mt(t u:TS):TS:=λD a H=>t { D with nx:=u D } a H
theorem Zw:PSs X [] Zvp:=λ_ _ a H _ I h=>ÆO (a,H,I,h)
theorem Zd(h1:PS X st t)(h2:PSs X Ă u):PSs X (st::Ă) (Mt t u):=by
 rw[e3,a,b,D];refine Ï2 (thn (h1 a s b H { D with nx:=u D } I h) λf c q=>?_);cases f with
 | next=>obtain d|e|g|q:=q;exact h2 a c d e D g q
 | ret v=>exact q
 | brk=>exact q
 | Μ=>exact q
theorem Zh(h1:PS X st t):PSs X [st] t:=by
 rw[e3,a,b,D];refine Ï2 (thn (h1 a s b H D I h) λf s1 q=>?_);cases f with
 | next=>exact ÆO q
 | ret v=>exact q
 | brk=>exact q
 | Μ=>exact q
theorem Inv.quiet{a:Ć}{b:St}{H:Hp}{s:aj}(I:È7):interactive Ì=false:=by simp[interactive,Ás]
def Zvq(te:TE):TS:=λD a H=>te a H λ_ b=>č a b
theorem ZM(he:Åv)(hs:Ë0 e af ÆP Ì=pure false:=by rfl):PS X (.Expr e pos) (Zvq te):=by intro b s a H D I h;exact wpAny_Expr_any (thn #[eE,he,b,a] λv s1 ⟨x,c,d,r1,f⟩=>(a,c,d,f)) I.quiet hs
def ZwV(te:TE):TS:=λD a H=>te a H D.rt
theorem Zm(he:Åv):PS X (.Return (U e) pos) (ZwV te):=by intro b s a H D I h;exact wpAny_Return_some (thn #[eE,he,b,a] λv s1 ⟨x,c,d,f,g⟩=>(x,a,c,d,f,g))
def Zxc(c:TT)(t u:TS):TS:=λD a H=>c a H λb d=>if b=true then t D a d else u D a d
theorem ZN{c:aK}{a b:Γ}{g:TT}(hc:PT X c g)(ha:PSs X a t)(hb:PSs X b u):PS X (.If c a b pos) (Zxc g t u):=by
 rw[tb,D,wpAny_If,hc];rintro d i ⟨j,k,l⟩;cases d with
 | true=>exact ha e i f j D k l
 | false=>exact hb e i f j D k l
universe E
abbrev TG:=V->St->Hp->(St->Hp->Prop)->Prop
abbrev TGs:=À V->St->Hp->(St->Hp->Prop)->Prop
def PG(X:Cx)(e:aK)(t:TG):Prop :=
 ∀ (a:À (ae×aN)) (s:aj) (b:St) (H:Hp) (v:V) (u:aa) (Q:St->Hp->Prop),Inv X a b H s->ZE v u->t v b H Q ->
  ô (ÂF e Ì u) (λ_ f=>X2 λc d=>Inv X a c d f/\Q c d) è s
def PGs(X:Cx)(g:ĳ)(t:TGs):Prop :=
 ∀ (a:À (ae×aN)) (s:aj) (b:St) (H:Hp) (c:À V) (d:À aa) (Q:St->Hp->Prop),Inv X a b H s->ZG c d->t c b H Q ->
  ô (Éa (#[zx,g].map ę) d) (λ_ h=>X2 λe f=>Inv X a e f h/\Q e f) è s
abbrev S8:=V->V->V->Hp->(Hp->Prop)->Prop
def Rr(X:Cx)(t:S8):Prop :=
 ∀ (a:À (ae×aN)) (s:aj) (b:St) (H:Hp) (o i v:V) (c d u:aa) (Q:Hp->Prop),Inv X a b H s->ZE o c->ZE i d->ZE v u->t o i v H Q ->
  ô (setItem c d u) (λ_ f=>∃e,Inv X a b e f/\Q e) è s
abbrev TIp:=Éb
def PIp(X:Cx)(op:Éc)(t:TIp):Prop :=
 ∀ (a:À (ae×aN)) (s:aj) (b:St) (H:Hp) (x y:V) (v u:aa) (Q:VK),Inv X a b H s->ZE x v->ZE y u->t x y H Q ->
  ô (Ï3 op v u) Ã8 è s
section
variable {X:Cx} {pos:Pos}
def S7(i:Nat):TG:=λv a H Q=>Q (a.set i (U v)) H
theorem Zy{i:Nat}{x:ak}(a:Ã4)(b:ÂE)(hx:ÆK)(c:ÆM:=by first|exact Á4|exact À8|assumption):PG X ÀW (S7 i):=by intro ai s σ H v u Q I r h;exact Õh (V7 I a b hx r (λs' d=>(_,H,d,h)) c)
def Ms:TGs:=λvs a H Q=>vs=[]/\Q a H
inductive RGc (vs:Ė) (B:V->À V->Prop):Prop where
 | mk (v:V) (r:À V) (e:vs=v::r) (q:B v r)
def Mr(t:TG)(u:TGs):TGs:=λvs a H Q=>RGc vs λv r=>t v a H λb c=>u r b c Q
theorem Z0:PGs X [] Ms:=by intro ai s a H vs us Q I r h;obtain e|h:=h;subst e;cases r;exact Ë1 (a,H,I,h)
theorem Zp{e:aK}{a:ĳ}{t:TG}{u:TGs}(h1:PG X e t)(h2:PGs X a u)
  (hs:(ce (e::a) Ì).map ę=ÂF e Ì::#[zx,a].map ę:=by rfl):PGs X (e::a) (Mr t u):=by
 rw[hE,b,c,vs];obtain v|vr|d|h:=h;subst d;cases r with
 | Î r f=>rw[hs];refine Åw (thn (h1 b s c H _ _ _ I r h) ?_);rintro _ g ⟨i,j,k,l⟩;exact h2 b g i j _ _ Q k f l
inductive RGt (K:Å) (H:Hp) (n:Nat) (v:V) (B:À V->Prop):Prop where
 | mk (a:ae) (xs:À V) (e:v=.ref a) (s:SqT K H a xs) (l:ã=n) (q:B xs)
def Mq(K:Å)(n:Nat)(t:TGs):TG:=λv a H Q=>RGt K H n v λxs=>t xs a H Q
theorem Zur{c:ĳ}{k:Nat}{t:TGs}{n:Nat}(hc:Ŏ)(h:PGs X c t)
  (i:#[zx,c].length=n:=by rfl) (j:#[zx,c].findIdx? ó=af:=by rfl):PG X (.Tuple c k pos) (Mq X.K n t):=by
 intro d s f H v u Q I r hw;obtain a|l|m|p|q|hw:=hw;subst m;cases r;rw[s5,g,w,hz,p];refine assign_Tuple_tuple Áv w (by simp[i,<- q,ÆQ]) j λx y=>?_;have z:#[gS,d,f,H,s,x]:=ÂG (t':=ř) λb o e=>y b o ÆR e;exact h d _ f H l _ Q z #[eg,g] hw
def ZwJ(to b:TE)(t:S8):TG:=λv a H Q=>to a H λo c=>b a c λi d=>t o i v d λe=>Q a e
theorem Xg{o i:aK}{to e:TE}{t:S8}(f:PE X o to)(g:PE X i e)(hs:Rr X t)
  (ha:∀v,ÂF (.Subscript o i pos) Ì v=(do
   let a <- Át [v] (ă o Ì);let b <- Át [v,a] (ă i Ì)
   Ã5 pos
   Át [v,a,b] (setItem a b v)
   release [v,a,b] []):=by intro _;rfl):PG X (.Subscript o i pos) (ZwJ to e t):=by
 intro d s c H v u Q I r h;rw[ha];refine ah (aT #[es,f,d,c]);rintro a j ⟨x,k,l,m,n⟩;refine ah (aT (thn (g d j c k _ l n) ?_));rintro b p ⟨y,q,w,z,A⟩;refine ah (bx (ah (aT (thn (hs d p c q x y v a b u _ w m z r A) ?_))));rintro _ s3 ⟨B,C,D⟩;exact wpAny_release (c,B,C,D)
def Rq(b:TE)(g:TG):TS:=λD a H=>b a H λx c=>g x a c č
theorem YC{a e:aK}{b:TE}{g:TG}(he:PE X e b)(f:PG X a g)(hs:Ï4 [a] e ÆP Ì=pure false:=by rfl)(hw:Ï5 [a] e Ì=pure af:=by rfl)
  (i:(ce [a] Ì).map ę=[ÂF a Ì]:=by rfl):PS X (.Assign [a] e pos) (Rq b g):=by
 rw[e3,c,d,D];refine wpAny_Assign_stores #[es,he,c,d] hs hw;rintro v j ⟨x,k,l,m,n⟩;rw[i];exact thn (f c j d k x v _ l m n) λ_ s2 q=>q
theorem Zu{i:Nat}{x:ak}{e:aK}{a:TE}{b:Pos}(c:Ã4)(d:ÂE)(hx:ÆK)(he:PE X e a)(hs:Ë0 e (U (.Name x b)) ÆP Ì=pure false:=by rfl)(f:ÆM:=by first|exact Á4|exact À8|assumption) :
  PS X (.Assign [.Name x b] e pos) (Rq a (S7 i)):=by
 rw[e3,g,j,D];refine wpAny_Assign_Name #[es,he,g,j] hs;rintro v s1 ⟨y,k,l,m,n⟩;exact V7 l c d hx m (λs2 o=>(_,k,o,n)) f
def ZwK(i j:Nat)(b:TA):TS:=λD a H=>b a H λvs c=>X2 λv w=>vs=[v,w]/\č ((a.set i (U v)).set j (U w)) c
theorem Zux{i j:Nat}{x y:ak}{a b:aK}{r:TA}{g k pt:Pos}{kt l m}(hc:Ŏ)(t:Ã4)(C:ÂE)(E:X.N[j]? = U y)(F:i≠j)
  (hx:#[fZ,x]) (hy:#[fZ,y]) (ha:PA X [a,b] r)
  (hw:Ï5 Ï6 Ï7 Ì=pure (U [x,y]))
  (hs:Ï4 Ï6 Ï7 ÆP Ì=pure false:=by rfl) :
  PS X (.Assign Ï6 Ï7 pos) (ZwK i j r):=by
 rw[e3,u,z,D];rw[jz];refine ah (Tuple_ (thn (ha _ u s z H _ I h) ?_));rintro G c ⟨vs,A,J,K,n⟩;obtain v|w|L|n:=n;subst L;obtain⟨d,f,rfl,M,N⟩:X2 λd f=>G=[d,f]/\ZE v d/\ZE w f:=by
  cases K with
  | Î p q =>
   cases q with
   | Î O P=>cases P;exact(_,_,rfl,p,O)
 refine bz ?_ Á6;have Q:Inv X u z A { c with Õ:=ÆS { cls:=.type "tuple",Ó:=.seq [d,f].toArray } }:=#[sO,J.kept];rw[hw];rw[ok];show ô (do rule "assign.swapped-stores";let œ <- Ë2 (.ref ÀX) 2 af;Éa Õi items.reverse;pure Ë3) _ _ _;refine ah (Ãr (ah (Õj (œ:=#[d,f]) Áv (Ï8 ÆT _) λh' R=>?_)));have S:=Q.kept (h':=h') (t':=Åx) λb o e=>R b o ÆR e;show ar _ _ (Éa Õi [f,d] >>= λ_=>pure Ë3) _ _ _;refine ah (Åw (Éd (V7 S t E (.inl hy) N (λs2 T=>?_) (.inr hy))));refine Åw (Éd (V7 T t C (.inl hx) M (λs3 B=>Ë1 (av ?_)) (.inr hx)));rw[List.set_comm _ _ (À7 F)]at B;exact(_,A,B,n)
def Zxb(i:Nat)(b:TE)(c:TIp):TS:=λD a H=>∃x,a[i]? = U (U x)/\b a H λy d=>c x y d λz e=>č (a.set i (U z)) e
theorem Zu5{i:Nat}{x:ak}{e:aK}{b:TE}{op:Éc}{d:TIp}{j:Pos}(n:Ã4)(f:ÂE)(hx:ÆK)(he:PE X e b)(o:PIp X op d)(p:ÆM:=by first|exact Á4|exact À8|assumption) :
  PS X (.AugAssign (.Name x j) op e pos) (Zxb i b d):=by
 rw[e3,a,g,D];rw[hD,v,q,h,h];rw[hD,m,t,A,Š];have B:#[ih,Vis]:=by rcases hx with k|k;exact .inl k;exact .inr (.inl k)
 obtain u|r|l:=A i x v f q B;refine wpAny_AugAssign_Name ?_;have go:ô #[fr,e] (λw C=>ô (Ï3 op u w) (λr E=>ô (ÏX Ì x r) (λ_=>SP X a D .next) è E) è C) è s:=by refine thn #[eE,he,a,g] ?_;rintro w F ⟨y,G,J,K,L⟩;refine thn (o a F g G v y u w _ J r K L) ?_;rintro z s2 ⟨zv,M,N,O,P⟩;exact V7 N n f hx O (λs3 Q=>(_,M,Q,P)) p
 rcases l with⟨hk,R⟩|⟨hk,c,S,T⟩
 ·exact Ô8 Ás hk t R go
 ·rcases hk with hk|hk
  ·exact Ô9 Ás hk S T go
  ·rcases hx with k|k
   ·rw[kN]
   ·rw[kN]
def ipI(f:Int->Int->Int):TIp:=λx y H Q=>X2 λi j=>x=.int i/\y=.int j/\Q (.int (f i j)) H
theorem ZtU:PIp X .Add (ipI λi j=>i+j):=by intro ai s σ H x y v u Q I a b h;obtain i|j|c|d|q:=h;subst c;subst d;obtain t|rfl:=a;obtain t'|rfl:=b;exact iadd_int #[ti,_,q]
universe E
section
variable {X:Cx} {pos:Pos}
def ZuS(c:TT)(h:TS):TS:=λD a H=>∃W:Nat->St->Hp->Prop,(∃m,W m a H)/\∀m a H,W m a H ->
 c a H λb d=>if b=true then ∃N:St->Hp->Prop,(∀e f,N e f->∃g,g<m/\W g e f)/\h { D with nx:=N,ct:=N,bk:=č } a d else č a d
theorem Rp{c:aK}{r:Γ}{t:TT}{u:TS}(hp:bu ġ X.A Ì è)(hc:PT X c t)(hb:PSs X r u):PS X (.While c r [] pos) (ZuS t u):=by
 rw[e3,k,C,D];obtain W|⟨E,F⟩|a:=h;refine wpAny_While (codeAny_whileLoop (λn G=>X2 λw x=>Inv X k w x G/\W n w x) ?_ E (C,H,I,F));rintro n J ⟨g,y,K,L⟩;refine cn hp (thn (hc k J g y _ K (a n g y L)) ?_);rintro b M ⟨z,A,i⟩;cases b with
 | true =>
  rw[hD,N,B,i,i];rw[ql];refine cn hp (thn (hb k M g z _ A i) λf s3 j=>?_);cases f with
  | next=>obtain d|e|l|m:=j;rw[om]
  | Μ=>obtain d|e|l|m:=j;rw[om]
  | brk=>exact j
  | ret v=>exact j
 | false=>rw[Ç Qu];exact ÆO (g,z,A,i)
universe E
structure It where
 go:Nat->Hp->Prop
 yld:Nat->Hp->V->Hp->Prop
 stop:Nat->Hp->Prop
def Xs(X:Cx)(a:Ć)(H:Hp)(b:ae):Prop :=
 H b=af/\b≠ı/\b ∉ ÀA/\(b∈X.ex\/ŵ<=b)/\#[gI,c,b]/\∀p∈X.pn++a,p.1≠b
theorem Inv.fpOk{X:Cx}{a:Ć}{f:St}{H d:Hp}{s:aj}{b:ae}(I:Inv X a f H s)(hb:Ð<=b)(g:d b=af):Xs X a d b:=by
 refine(g,QX (QB I.lt hb),I.nofs hb,.inr (Qk I.sz hb),λx c e z=>?_,λp h z=>?_)
 ·obtain v|q:=ËP;exact Ê (QB q.lt #[ei,z,hb]) (Qag _)
 ·exact Ê (QB (Qr (Àe p h).1) #[ei,z,hb]) (Qag _)
structure WB (P:ay) (w:aF) (K:Å) (tg:aK) (J:It) (fp:ŧ) (it:ae) (tn:Nat->aI->Prop):Prop where
 mem:it∈fp
 obj:∀i h,tn i h->∀b∈fp,∃o,ß b=U o/\∀v,ų≠.cell v
 ċ:∀i h h',tn i h->(∀b∈fp,∀o,ß b=U o->ÿ b=U o)->tn i h'
 item:∀ (X:Cx),ö=P->X.w=w->X.K=K->X.calm=true->∀ (i:Nat) (ai:À (ae×aN)) (s:aj) (σ:St) (H:Hp) (E:aa->aj->Prop),Inv X ai σ H s->Õk->tn i Ë->J.go i H ->
  ar Ã9 X.A (Ãs Áw) (λr s1=>∃u,r=U u /\
   ar Ã9 X.A (dM tg Áw u) (λ_ s2=>X2 λx H'=>Inv X ai σ H' s2/\ZE x u/\J.yld i H x H'/\tn (i+1) s2.heap/\∀b∈fp,H' b=af) E s1) E s
 done:∀ (X:Cx),ö=P->X.w=w->X.K=K->X.calm=true->∀ (i:Nat) (ai:À (ae×aN)) (s:aj) (σ:St) (H:Hp) (E:aa->aj->Prop),Inv X ai σ H s->Õk->tn i Ë->J.stop i H ->
  ar Ã9 X.A (Ãs Áw) (λr s1=>r=af/\Inv X ai σ H s1) E s
 self:∀ (A:aD) (i:Nat) (s:aj) (Q:aa->aj->Prop) (E:aa->aj->Prop),tn i Ë->Q Áw s->ar Ã9 A (Åy Áw) Q E s
abbrev TI:=St->Hp->(It->Hp->Prop)->Prop
def PIE(X:Cx)(c:Ć)(g:St)(h:aK)(R:It->Hp->Prop)(i:aa)(d:aj):Prop :=
 X5 λ(e:ae) (fp:À ae) (f:Nat->aI->Prop) (J:It) (a:Hp)=>i=.ref e/\Inv X c g a d/\WB ö X.w X.K h J fp e f/\f 0 d.heap/\(∀b∈fp,Xs X c a b)/\R J a
def PI(X:Cx)(c ļ:aK)(d:TI):Prop :=
 ∀ (b:À (ae×aN)) (s:aj) (a:St) (H:Hp) (R:It->Hp->Prop),Inv X b a H s->d a H R ->
  ô #[fr,ļ] (λv e=>ô (Åy v) (PIE X b a c R) è e) è s
theorem U6{M:ÀV}{A:aD}{E:ð}{s:aj}{b:aK}{it:ae}{u:aa}{o:aN}{n:ŋ}{vs:Á7}{Q:Á3}(c:é it=U o)(hc:Ãp=.type n)(hd:ų=.fields vs)
  (d:["enumerate", "zip", "dict_itemiterator", "dict_reverseitemiterator", "odict_iterator", "itertools.zip_longest", "itertools.pairwise"].contains n=false) (a:Q () s):ar M A (dM b Áw u) Q E s:=by
 unfold dM;cases b<;>first
  | exact av a
  | (cases u<;>first
    | exact av a
    | (refine ah (wpAny_load c ?_);rw[hc,hd];show ar M A (if (["enumerate", "zip", "dict_itemiterator", "dict_reverseitemiterator", "odict_iterator", "itertools.zip_longest", "itertools.pairwise"].contains n&&vs[0]? == U (Ŷ _))=true then _ else _) Q E s;rw[Ç (by intro h;rw[d,Bool.false_and]at h;cases h)];exact av a))
def Itl(K:Å)(a:ae):It :=
 (λi H=>X2 λb x=>SqL K H a b/\b[i]? = U x,λi H x c=>c=H/\∀b,SqL K H a b->b[i]? = U x,λi H=>∃b,SqL K H a b/\ħ<=i)
def Itr(lo:Int)(n:Nat):It:=(λi _=>i<n,λi H x a=>a=H/\x=.int (lo+i),λi _=>n<=i)
theorem ZoQ{P:ay}{w:aF}{K:Å}{M:aK}(a it:ae):WB P w K M Ë4 [it] it (λi h=>Ée it a i) where
 mem:=by simp
 obj:=λi h st b f=>by
  have e:b=it:=by simpa using f
  rw[19]
 ċ:=λi h g st k=>st.at λo e=>k it Ö o e
 item:=by intro X m hw n F i G s J H E I j st q;subst m hw n;obtain N|x|l|r:=q;rw[fS,t,p,O,l];rw[tq,u,Q,R,t.get,r];rw[yj];refine Ï9 st p.isList (x:=u) #[eg,Q] λg L T=>?_;have V:#[gS,G,J,H,s,g]:=À9 (t':=ř) (λb o f e=>(T.2 b f).trans e) y A B C D;obtain o|e|c|d:=id L;exact(u,rfl,U6 (s:=#[hR,s,g]) e c d É (x,H,V,R,(rfl,λys W=>by rw[Ða W l];exact r),L,λb f=>(j b f).1))
 done:=by intro X m hw n F i G s J H E I j st q;subst m hw n;rw[hD,N,l,r,q];rw[fS,t,p,O,l];rw[yj];have hl:=t.length;exact Ðb (Áx F) st p.isList (by simp;lia) λg Y=>(rfl,À9 (t':=ř) #[ff,b,f,Y] y A B C D)
 self:=#[hZ,wpAny_pyIter_listiter]
theorem Zl1{P:ay}{w:aF}{K:Å}{B:aK}(it:ae)(lo:Int)(n:Nat):WB P w K B Õl [it] it (λi h=>IsRangeIter h it (lo+(i:Nat)*1) ((n:Int)-(i:Nat)) 1) where
 mem:=by simp
 obj:=λi h st b a=>by
  have e:b=it:=by simpa using a
  subst e;exact(_,st,λv z=>by have C:Data.fields _=Data.cell v:=z;cases C)
 ċ:=λi h c st k=>k it Ö _ st
 item:=by intro X f hw g j i x s y H E I d st l;rw[o4];have W:=Walks.range (ñ:=ö) (w:=X.w) (Áx j) it lo 1 n;refine W.item i s _ _ l st λv c tk F A kk=>?_;rw[tj,F];have G:#[ss,x,y,c]:=À9 (λb o a e=>kk b o #[eg,a] e) m p q r u;refine(_,rfl,U6 (s:={ s with Õ:=c,î:=tk }) (n := "range_iterator") A rfl rfl É (.int (lo+i),H,G,(t,?_),Ŕ,A,λb a=>(d b a).1));rw[Int.mul_one]
 done:=by intro X f hw g j i x s y H E I d st l;rw[o4];exact wpAny_pyNext_range_end (Áx j) st (by have:n<=i:=l;lia) λc J=>(rfl,À9 (t':=ř) #[ff,b,a,J] m p q r u)
 self:=#[hZ,wpAny_pyIter_rangeiter]
section
variable {X:Cx} {tg:aK}
def Mp(K:Å)(c:TE):TI:=λd H R=>c d H λx b=>∃a,x=.ref a/\(∃xs,SqL K b a xs)/\R Ë4 b
theorem Zst{l:aK}{f:TE}(hl:PE X l f):PI X tg l (Mp X.K f):=by
 rw[st,g,i];rintro v c ⟨x,j,d,k,m⟩;obtain a|e|⟨xs,n⟩|q:=m;subst e;cases k;obtain its|rv|p|hz:=d.list n;refine cu p.isList ?_;refine(ÀX,[ÀX],_,_,j,rfl,d.kept (t':=Åx) λb o e=>Qc _ e,ZoQ a _,Äa,λb r=>?_,q);have e:b=ÀX:=by simpa using r
 subst e;exact #[zF,ç]
theorem Mo{c:Ć}{d:St}{H:Hp}{s:aj}{R:It->Hp->Prop}{E:ð}{lo a:Int}{t u v:Tok}{tk:Nat}(I:Ë5)(h1:-(2 ^ 62)<=lo)(h2:lo<2 ^ 62)(g:-(2 ^ 62)<=a)(h:a<2 ^ 62)
  (q:R (Itr lo (a-lo).toNat) H):ô (Åy Åz) (PIE X c d tg R) E { s with Õ:=Àf { cls:=.type "range",Ó:=.fields #[.int lo t,.int a u,.int 1 v] },î:=tk }:=by
 refine wpAny_pyIter_range (IsRange.new ..) (small_one h1 h2 g h) ?_;have f:Inv X c d H { s with Õ:=Àf { cls:=.type "range",Ó:=.fields #[.int lo t,.int a u,.int 1 v] },î:=tk }:=ÂG λb o e=>Qc _ e;refine⟨#[78].objs.size,[#[78].objs.size],_,_,H,rfl,
  f.kept (t':=tk) λb o e=>Qc _ e,Zl1 _ lo (a-lo).toNat,?_,λb i=>?_,q⟩
 ·have j:lo+#[hV,0]*1=lo:=by simp
  have k:Õm-#[hV,0]=aS.Range.rangeSize lo a 1:=by rw[rangeSize_one];split<;>lia
  show IsRangeIter _ _ (lo+#[hV,0]*1) (Õm-#[hV,0]) 1;rw[j,k];exact Qt _ rfl
 ·have e:b=#[78].objs.size:=by simpa using i
  rw[pm]
def ZvB(a:TA):TI:=λb H R=>a b H λvs c=>∃j:Int,vs=[.int j] /\ -(2 ^ 62)<=j/\j<2 ^ 62/\R (Itr 0 j.toNat) c
def Zvx(a:TA):TI:=λb H R=>a b H λvs c=>X2 λi j:Int=>vs=#[it,i,j]/\(-(2 ^ 62)<=i/\i<2 ^ 62 /\ -(2 ^ 62)<=j/\j<2 ^ 62)/\R (Itr i (j-i).toNat) c
theorem V6{a:aK}{c:TA}{p pos:Pos}(d:Gl X "range")(hm:ğ "range" = af)(ha:PA X [a] c)(hs:#[fs,a]:=by rfl):PI X tg (.Call (.Name "range" p) [a] [] pos) (ZvB c):=by
 rw[e3,f,g,R];refine Call_ (VF I d hm boot_range (Qaf (thn #[gi,f,g] ?_) hs rfl));rintro us s1 ⟨vs,H1,i,k,b⟩;obtain j|e|b|l|q:=b;subst e;cases k with
 | Î r m=>cases m;rw[tj,r];exact call_range_1 (Mo i Á Á b l #[eg,q])
theorem Mn{a b:aK}{f:TA}{p pos:Pos}(k:Gl X "range")(hm:ğ "range" = af)(ha:PA X [a,b] f)(hs:Ðc:=by rfl)(g:#[fs,b]:=by rfl) :
  PI X tg (.Call (.Name "range" p) [a,b] [] pos) (Zvx f):=by
 rw[e3,l,m,R];refine Call_ (VF I k hm boot_range (Qaf (thn #[gi,l,m] ?_) (by rw[hs,g]) #[sJ,g]));rintro us s1 ⟨vs,H1,n,o,c⟩;obtain i|j|e|⟨c,u,v,w⟩|q:=c;subst e;cases o with
 | Î r d =>
  cases d with
  | Î x d=>cases d;rw[tj,r];rw[eN,t',x];exact call_range_2 (Mo n c u v w q)
def ZwM(e:TI)(g:TG)(f:TS):TS:=λD a H=>e a H λJ h=>∃W:Nat->Nat->St->Hp->Prop,(∃m,W 0 m a h)/\∀i m a H,W i m a H ->
 (J.stop i H/\č a H)\/(J.go i H/\∃N:St->Hp->Prop,#[fC,c,b,d]/\∀x b,J.yld i H x b->g x a b λj k=>f { D with nx:=N,ct:=N,bk:=č } j k)
def U5(fp:ŧ)(h:aI):À (ae×aN):=fp.filterMap λb=>(ß b).map λo=>(b,o,)
theorem U4{fp:ŧ}{h:aI}{b:ae}{o:aN}(hb:b∈fp)(e:ß b=U o):(b,o,)∈U5 fp h:=Qac.mpr (b,hb,by rw[e];rfl)
theorem Zo2{fp:ŧ}{h:aI}{p:ae×aN}(hp:p∈U5 fp h):p.1∈fp/\ß p.1=U p.2:=by
 rw[tq,b,a,e,Éf,hp];cases q:ß b with
 | none=>rw[q]at e;cases e
 | some o=>rw[q]at e;have c:(b,o,)=p:=Qw e;subst c;exact(a,q)
theorem Inv.pinned{a:Ć}{c:St}{H:Hp}{s:aj}{fp:ŧ}(I:Inv X a c H s)(h:#[sd,a,H])(i:∀b∈fp,∃o,é b=U o/\∀v,ų≠.cell v):Inv X (a++U5 fp Ë) c H s :=
 I.pins_of λp j=>(ë j).elim (λz=>Àe p (QD _ z)) λz=>by obtain f|e:=Zo2 z;obtain k|l|m|_:=h p.1 f;obtain o|g|d:=i p.1 f;rw[fX,e,g,g];exact(e,k,l,m,d)
theorem Inv.unpinned{a pl:Ć}{b:St}{H:Hp}{s:aj}(I:Inv X (a++pl) b H s):Inv X a b H s:=I.pins_of λp hp=>Àe p (QD _ (QU _ hp))
theorem XI{ļ:aK}{K:Γ}{L:TI}{g:TG}{M:TS}{pos:Pos}(hp:bu ġ X.A Ì è)(hc:Ŏ)(hi:PI X tg ļ L)(hg:PG X tg g)(hb:PSs X K M)
  (hs:ÆU:=by intro _;rfl):PS X (.For tg ļ K [] pos) (ZwM L g M):=by
 rw[e3,p,O,D];refine wpAny_For (thn #[eE,hi,p,O] λv s1 h1=>thn h1 λyf s2 h2=>?_) hs;obtain it|fp|P|J|H2|e|I2|T|dj|Q|W|⟨m0,w0⟩|q:=h2;subst e;have A:∀ {k:Hp},#[hW,k]->∀b∈fp,Xs X p k b:=λhn b hb=>(hn b hb,(Q b hb).2);refine codeAny_forLoop_any (λn R=>X3 λi t k=>Inv X p t k R/\P i R.heap/\#[hW,k]/\W i n t k) ?_ m0 (0,O,H2,I2,dj,λb hb=>(Q b hb).1,w0);rintro n S ⟨i,w,z,V,Y,Z,w3⟩;rcases q i n w z w3 with⟨stop,qn⟩|⟨go,N,hN,step⟩
 ·refine cn hp (thn (T.done X rfl rfl rfl hc i p S w z è V (A Z) Y stop) ?_);rintro r s4 ⟨B,I4⟩;subst B;exact ÆO (w,z,I4,qn)
 ·refine cn hp (thn (T.item X rfl rfl rfl hc i p S w z è V (A Z) Y go) ?_);rintro r s4 ⟨u,B,h4⟩;subst B;refine cn hp (thn h4 ?_);rintro _ s5 ⟨x,H5,I5,r5,y5,C,qZ⟩;have E:=I5.pinned (A qZ) (T.obj _ _ C);refine cn hp (thn (hg _ s5 w H5 x u _ E r5 (step x H5 y5)) ?_);rintro _ s6 ⟨F,H6,I6,q6⟩;refine cn hp (thn (hb _ s6 F H6 _ I6 q6) λf G l=>?_);have again:∀ {a:St} {c:Hp},Inv X (p++U5 fp s5.heap) a c G->N a c->∃m,m<n/\X3 λi t k=>Inv X p t k G/\P i G.heap/\#[hW,k]/\W i m t k:=λ{a c} j y=>by obtain m'|hm|w7:=hN a c y;refine(m',hm,i+1,a,c,Ðd,Ég _ _ _ C λb hb o e=>(j.pin (b,o,) (QD _ (QD _ (U4 hb e)))).1,λb hb=>?_,w7);rw[gz,o,C,hb,j.pin]
  cases f with
  | next=>obtain a|c|j|y:=l;exact again j y
  | Μ=>obtain a|c|j|y:=l;exact again j y
  | brk=>obtain a|c|j|l:=l;exact(a,c,Ðd,l)
  | ret v=>obtain x7|a|c|j|r7|l:=l;exact(x7,a,c,Ðd,r7,l)
universe E
theorem Ro{K:Å}{a:ae}{xs:Ė}{g:TG}{j:TS}{D:XS}{b:St}{H:Hp}(Pv:Éh)(h0:Pv 0 b H)(hl:∀i b H,i<=ã->Pv i b H->SqL K H a xs)
  (hs:∀i x b H,xs[i]? = U x->Pv i b H->g x b H λd f=>j { D with nx:=Pv (i+1),ct:=Pv (i+1),bk:=č } d f) (hd:Õn) :
  ∃W:Nat->Nat->St->Hp->Prop,#[tc,b]/\∀i m b H,W i m b H ->
   ((Ë4).stop i H/\č b H)\/((Ë4).go i H/\∃N:St->Hp->Prop,#[fC,h,c,k]/\∀x c,(Ë4).yld i H x c->g x b c λd f=>j { D with nx:=N,ct:=N,bk:=č } d f):=by
 refine Õo;rintro i m b H ⟨rfl,n,p⟩;have q:=hl i b H n p;by_cases l:i<ã
 ·refine .inr ((xs,xs[i],q,by simp[l]),Pv (i+1),λh c o=>(ã-(i+1),by lia,rfl,l,o),λx c y=>?_);rw[ew,e,y,y];subst e;exact hs i x b _ (y xs q) p
 ·have e:Ë6:=by lia
  subst e;exact .inl ((xs,q,Qf _),hd b H p)
theorem Uq{lo:Int}{n:Nat}{g:TG}{j:TS}{D:XS}{a:St}{H:Hp}(Pv:Éh)(h0:Pv 0 a H)
  (hs:∀i a H,i<n->Pv i a H->g (.int (lo+i)) a H λc d=>j { D with nx:=Pv (i+1),ct:=Pv (i+1),bk:=č } c d) (hd:#[td,n]) :
  ∃W:Nat->Nat->St->Hp->Prop,#[tc,a]/\∀i m a H,W i m a H ->
   ((Õl).stop i H/\č a H)\/((Õl).go i H/\∃N:St->Hp->Prop,#[fC,f,b,k]/\∀x b,(Õl).yld i H x b->g x a b λc d=>j { D with nx:=N,ct:=N,bk:=č } c d):=by
 rw[eO,n];by_cases h:i<n
 ·refine .inr (h,Pv (i+1),λf b l=>(n-(i+1),by lia,rfl,h,l),λx b y=>?_);rw[ew,e,y,y];subst e y;exact hs i a _ h p
 ·have e:i=n:=by lia
  subst e;exact .inl (Qf _,hd a H p)
abbrev R2:=Éb
def OpR(X:Cx)(f:Éi)(r:R2):Prop :=
 ∀ (a:À (ae×aN)) (s:aj) (b:St) (H:Hp) (x y:V) (v u:aa) (Q:VK),Inv X a b H s->ZE x v->ZE y u->r x y H Q ->
  ô (f v u) Ã8 è s
def UnR(X:Cx)(f:aa->Sem aa)(r:Ðe):Prop :=
 ∀ (a:À (ae×aN)) (s:aj) (b:St) (H:Hp) (x:V) (v:aa) (Q:VK),Inv X a b H s->ZE x v->r x H Q ->
  ô (f v) Ã8 è s
def YZ(X:Cx)(f:aa)(r:À V->Hp->VK->Prop):Prop :=
 ∀ (a:À (ae×aN)) (s:aj) (b:St) (H:Hp) (c:À V) (d:À aa) (Q:VK),Inv X a b H s->ZG c d->r c H Q ->
  ô (Ĵ f d) Ã8 è s
def tOp(r:R2)(b c:TE):TE:=λa H Q=>b a H λx d=>c a d λy e=>r x y e Q
def tUn(r:Ðe)(a:TE):TE:=λb H Q=>a b H λx c=>r x c Q
inductive RI2 (x y:V) (B:Ë7):Prop where
 | mk (i j:Int) (a:x=.int i) (b:y=.int j) (q:B i j)
inductive RI3 (x y:V) (C B:Ë7):Prop where
 | mk (i j:Int) (a:x=.int i) (b:y=.int j) (c:C i j) (q:B i j)
def rI(C:Ë7)(g:Int->Int->V):R2:=λx y H Q=>RI3 x y C (λi j=>Q (g i j) H)
def rI0(g:Int->Int->V):R2:=λx y H Q=>RI2 x y (λi j=>Q (g i j) H)
def rU(g:Int->V):V->Hp->VK->Prop:=λx H Q=>EA (λi=>x=.int i) (λi=>Q (g i) H)
section
variable {X:Cx} {a b c:aK} {ta tb tc:TE} {pos:Pos}
theorem Rm(ha:Áu)(hb:Ã6){e:Ć}{s:aj}{c:St}{H:Hp}{R:V->V->Hp->Prop}(I:Inv X e c H s)
  (h:ta c H λx i=>tb c i λy d=>R x y d) {Q:ð} {f:Éi}
  (j:∀v u g x y d,Inv X e c d g->ZE x v->ZE y u->R x y d->ô (f v u) Q è g) :
  ô #[fr,a] (λv k=>ô #[fr,b] (λu l=>ô (f v u) Q è l) è k) è s:=by
 refine thn #[eE,ha,e,c] ?_;rintro v m ⟨x,i,n,o,p⟩;refine thn (hb e m c i _ n p) ?_;rintro u g ⟨y,d,q,r,t⟩;exact j v u g x y d q o r t
theorem ZK{op:Éc}{r:R2}(c:OpR X (Äb op) r)(ha:Áu)(hb:Ã6):PE X (.BinOp a op b pos) Ë8:=by intro d s e H Q I h;exact wpAny_BinOp Õp
theorem Up{op:UnaryOp}{r:Ðe}(d:UnR X (unaryOp op) r)(ha:Áu):PE X (.UnaryOp op a pos) (tUn r ta):=by intro b s c H Q I h;exact UnaryOp_ (thn #[eE,ha,b,c] λv e ⟨x,f,g,i,j⟩=>d b e c f x v Q g i j)
theorem opI{f:Éi}{C:Ë7}{g:Int->Int->Int}
  (rule:∀ (i j:Int) (t u:Tok) (s:aj) (Q:aa->aj->Prop) (E:aa->aj->Prop),C i j->Q (.int (g i j) ń) { s with î:=ń+1 }->ô Ðf Q E s) :
  OpR X f (rI C λi j=>.int (g i j)):=by
 rw[cs];obtain i|j|rfl|rfl|c|q:=h;rw[tj,a];rw[eN,d,b];exact rule i j t d s _ _ c Õq
theorem Mm{f:Éi}{g:Int->Int->Int}
  (rule:∀ (i j:Int) (t u:Tok) (s:aj) (Q:aa->aj->Prop) (E:aa->aj->Prop),Q (.int (g i j) ń) { s with î:=ń+1 }->ô Ðf Q E s) :
  OpR X f (rI0 λi j=>.int (g i j)):=by
 rw[kW];exact rule i j t c s _ _ Õq
theorem S6{f:Éi}{g:Int->Int->Ï}
  (rule:∀ (i j:Int) (t u:Tok) (s:aj) (Q:aa->aj->Prop) (E:aa->aj->Prop),Q (.bool (g i j)) s->ô Ðf Q E s) :
  OpR X f (rI0 λi j=>.bl (g i j)):=by
 rw[kW];exact rule i j t c s _ _ (.bl (g i j),H,I,rfl,q)
def ZwY(i j:Int):Prop:=0<j/\j<1073741824
def Ml(i j:Int):Prop:=0<=j/\j<=1000000/\i.natAbs<2 ^ 64
def S5(i j:Int):Prop:=(-(2 ^ 64)<i/\i<2 ^ 64)\/(-(2 ^ 64)<j/\j<2 ^ 64)
theorem S5.ok{i j:Int}(h:S5 i j):IntMulOk i j:=by
 rcases h with⟨a,b⟩|⟨a,b⟩
 ·exact .of_left (intBits_le_64 a b)
 ·exact .of_right (intBits_le_64 a b)
theorem XR:OpR X Ðg (rI0 λi j=>.int (i+j)):=#[id,Mm,add_int]
theorem U3:OpR X (Äb .Sub) (rI0 λi j=>.int (i-j)):=#[id,Mm,sub_int]
theorem V5:OpR X (Äb .Mult) (rI S5 λi j=>.int (i*j)):=opI λ_ _ _ _ _ _ _ hc q=>mul_int q hc.ok
theorem Rl:OpR X (Äb .FloorDiv) (rI ZwY λi j=>.int (i / j)):=opI λi j _ _ _ _ _ hc q=>by have h1:(0:Int)<j:=hc.1;have h2:j<1073741824:=hc.2;exact floordiv_int Á (by rw[Int.fdiv_eq_ediv_of_nonneg i Á];exact q) (.inl (PyProof.noPylong_small Á))
theorem U2:OpR X (Äb .Mod) (rI (λ_ j=>0<j) λi j=>.int (i % j)):=opI λi j _ _ _ _ _ hc q=>by have h1:(0:Int)<j:=hc;exact mod_int' Á (by rw[Int.fmod_eq_emod_of_nonneg i Á];exact q)
theorem Zuy:OpR X (Äb .Pow) (rI Ml λi j=>.int (i ^ j.toNat)):=opI λ_ _ _ _ _ _ _ hc q=>pow_int_small hc.1 hc.2.1 hc.2.2 q
theorem unI{f:aa->Sem aa}{g:Int->Int}
  (rule:∀ (i:Int) (t:Tok) (s:aj) (Q:aa->aj->Prop) (E:aa->aj->Prop),Q (.int (g i) ń) { s with î:=ń+1 }->ô (f (.int i t)) Q E s) :
  UnR X f (rU λi=>.int (g i)):=by
 intro ai s σ H x v Q I a h;obtain i|rfl|q:=h;rw[tj,a];exact rule i t s _ _ (.int (g i),H,š _,ü,q)
theorem Uo:UnR X (unaryOp .USub) (rU λi=>.int (-i)):=unI λ_ _ _ _ _ q=>neg_int q
universe E
def Mj:V->V->Ï
 | .non,.non=>true|.non,.int _=>true|.int _,.non=>true|.non,.bl _=>true|.bl _,.non=>true|.non,.str _=>true|.str _,.non=>true
 | .int _,.int _=>true|.bl _,.bl _=>true|.str _,.str _=>true|.byt _,.byt _=>true
 | .int _,.str _=>true|.str _,.int _=>true|.bl _,.str _=>true|.str _,.bl _=>true
 | _,_=>false
def rEq:R2:=λx y H Q=>Mj x y=true/\Q (.bl (decide (x=y))) H
def rNe:R2:=λx y H Q=>Mj x y=true/\Q (.bl (!decide (x=y))) H
theorem Mi{i j:Int}:decide (ì i=ì j)=(i == j):=by rw[QaQ];simp
theorem Me{i j:Ï}:decide (V.bl i=V.bl j)=(i == j):=by rw[QaQ];simp
theorem Md{i j:ak}:decide (Ä i=Ä j)=(i == j):=by rw[QaQ];simp
theorem Mc{i j:ā UInt8}:decide (V.byt i=V.byt j)=(i.toList == j.toList):=by rw[QaQ];cases i;cases j;simp
section
variable {X:Cx} {a b c:aK} {ta tb tc:TE} {pos:Pos}
theorem ZW{a:Ć}{b:St}{H:Hp}{s:aj}{Q:VK}{k k':Ï}(I:È7)(q:Q (.bl k) H)(e:k=k'):EP X a b Q (.bool k') s:=by subst e;exact#[zA,k,q]
theorem YS:OpR X (aQ .Eq) rEq:=by
 rw[hN,d,a];rw[ew,c,q,h];cases x with
 | non =>
  cases d;cases y with
  | non=>cases a;exact PySem.EqNone.eq_none_none Ţ
  | bl j=>cases a;exact PySem.EqNone.eq_none_bool Ţ
  | int j=>obtain b|rfl:=a;exact PySem.EqNone.eq_none_int Ţ
  | str j=>obtain b|rfl:=a;exact PySem.EqNone.eq_none_str Ţ
  | _=>exact Áy
 | bl i =>
  cases d;cases y with
  | non=>cases a;exact PySem.EqNone.eq_bool_none Ţ
  | bl j=>cases a;exact eq_bool (ZW I q Me)
  | str j=>obtain b|rfl:=a;exact PySem.EqMixed.eq_bool_str Ţ
  | _=>exact Áy
 | int i =>
  rw[tj,d];cases y with
  | non=>cases a;exact PySem.EqNone.eq_int_none Ţ
  | int j=>obtain b|rfl:=a;exact eq_int (ZW I q Mi)
  | str j=>obtain b|rfl:=a;exact PySem.EqMixed.eq_int_str Ţ
  | _=>exact Áy
 | str i =>
  rw[tj,d];cases y with
  | non=>cases a;exact PySem.EqNone.eq_str_none Ţ
  | bl j=>cases a;exact PySem.EqMixed.eq_str_bool Ţ
  | int j=>obtain b|rfl:=a;exact PySem.EqMixed.eq_str_int Ţ
  | str j=>obtain b|rfl:=a;exact eq_str (ZW I q Md)
  | _=>exact Áy
 | byt i =>
  rw[tj,d];cases y with
  | byt j=>obtain b|rfl:=a;exact PySem.W.eq_bytes (ZW I q Mc)
  | _=>exact Áy
 | _=>cases y<;>exact Áy
theorem VE:OpR X (aQ .NotEq) rNe:=by
 rw[hN,d,a];rw[ew,c,q,h];cases x with
 | non =>
  cases d;cases y with
  | non=>cases a;exact PySem.EqNone.ne_none_none Ţ
  | bl j=>cases a;exact PySem.EqNone.ne_none_bool Ţ
  | int j=>obtain b|rfl:=a;exact PySem.EqNone.ne_none_int Ţ
  | str j=>obtain b|rfl:=a;exact PySem.EqNone.ne_none_str Ţ
  | _=>exact Áy
 | bl i =>
  cases d;cases y with
  | non=>cases a;exact PySem.EqNone.ne_bool_none Ţ
  | bl j=>cases a;rw[sP,ne_bool,Me]
  | str j=>obtain b|rfl:=a;exact PySem.EqMixed.ne_bool_str Ţ
  | _=>exact Áy
 | int i =>
  rw[tj,d];cases y with
  | non=>cases a;exact PySem.EqNone.ne_int_none Ţ
  | int j=>obtain b|rfl:=a;rw[sP,ne_int,Mi]
  | str j=>obtain b|rfl:=a;exact PySem.EqMixed.ne_int_str Ţ
  | _=>exact Áy
 | str i =>
  rw[tj,d];cases y with
  | non=>cases a;exact PySem.EqNone.ne_str_none Ţ
  | bl j=>cases a;exact PySem.EqMixed.ne_str_bool Ţ
  | int j=>obtain b|rfl:=a;exact PySem.EqMixed.ne_str_int Ţ
  | str j=>obtain b|rfl:=a;rw[sP,ne_str,Md]
  | _=>exact Áy
 | byt i =>
  rw[tj,d];cases y with
  | byt j=>obtain b|rfl:=a;rw[sP,PySem.W.ne_bytes,Mc]
  | _=>exact Áy
 | _=>cases y<;>exact Áy
theorem WT:OpR X (aQ .Lt) (rI0 λi j=>.bl (decide (i<j))):=#[id,S6,lt_int]
theorem V4:OpR X (aQ .LtE) (rI0 λi j=>.bl (decide (i<=j))):=#[id,S6,le_int]
theorem Wk:OpR X (aQ .Gt) (rI0 λi j=>.bl (decide (j<i))):=#[id,S6,gt_int]
theorem Rk:OpR X (aQ .GtE) (rI0 λi j=>.bl (decide (j<=i))):=#[id,S6,ge_int]
theorem Rj:OpR X (aQ .Lt) (λx y H Q=>X2 λi j=>x=.str i/\y=.str j/\Q (.bl (decide Õr)) H):=by intro ai s σ H x y v u Q I a b h;obtain i|j|rfl|rfl|q:=h;obtain t|rfl:=a;obtain t'|rfl:=b;exact lt_str Ë9
theorem Xe:OpR X (aQ .Is) (λx y H Q=>y=.non/\Q (.bl (decide (x=.non))) H):=by
 rw[vw];refine is_none_gen (ZW I q ?_);cases x<;>first
  | (cases a;rfl)
  | (obtain t|rfl:=a;rfl)
theorem S4:OpR X (aQ .IsNot) (λx y H Q=>y=.non/\Q (.bl (!decide (x=.non))) H):=by
 rw[vw];refine isnot_none_gen (ZW I q ?_);cases x<;>first
  | (cases a;rfl)
  | (obtain t|rfl:=a;rfl)
theorem Zq(b:aK){op:CmpOp}(h:op≠.In:=by decide)(h2:op≠.NotIn:=by decide):Ðh op b=false:=by
 have a:(op == CmpOp.In)=false:=by cases op<;>first|rfl|exact Ê rfl h
 have c:(op == CmpOp.NotIn)=false:=by cases op<;>first|rfl|exact Ê rfl h2
 cases b<;>simp[Ðh,a,c]
theorem XQ{op:CmpOp}{r:R2}(c:Ìa)(ha:Áu)(hb:Ã6)(hm:Õs):PE X Õt Ë8:=by intro d s e H Q I h;exact wpAny_Compare1 Õp hm
def Mb(t:TE):TT:=λa H Q=>t a H λx b=>EA (λk=>x=.bl k) (λk=>Q k b)
theorem Zk{op:CmpOp}{r:R2}(g:Ìa)(ha:Áu)(hb:Ã6)(hm:Õs):PT X Õt (Mb Ë8):=by
 rw[e3,d,f,Q];refine wpAny_isTrue_Compare1 (thn #[eE,ha,d,f] λv i ⟨x,j,l,m,n⟩=>thn (hb d i f j _ l n) λu o ⟨y,p,q,t,w⟩=>
  thn (g d o f p x y v u _ q m t w) λc s3 ⟨z,A,B,C,k,e,D⟩=>?_) hm
 subst e;cases C;exact bq (A,B,D)
def Ma(r c:R2)(ta tb tc:TE):TE:=λa H Q=>ta a H λx d=>tb a d λy e=>r x y e λz b=>∃k,z=.bl k /\
 (if k=true then tc a b λf g=>c y f g Q else Q (.bl false) b)
theorem Zrj{op i:CmpOp}{r j:R2}(p:Ìa)(q:OpR X (aQ i) j)(ha:Áu)(hb:Ã6)(hc:PE X c tc)
  (hm:Õu:=by with_unfolding_all rfl):PE X Õv (Ma r j ta tb tc):=by
 rw[e3,f,g,Q];refine Compare_chain (thn #[eE,ha,f,g] λv t ⟨x,w,A,B,C⟩=>chain_link (thn (hb f t g w _ A C) λu D ⟨y,E,F,l,G⟩=>
  thn Õw λd J ⟨z,m,n,K,k,e,o⟩=>?_)) hm
 subst e;cases K;refine bq ?_;cases k with
 | false=>exact ite_ff (.bl false,m,n,rfl,o)
 | true=>exact ite_tt (chain_last (thn (hc f J g m _ n o) λL M ⟨N,O,P,R,S⟩=>q f M g O y N u L Q P l R S))
theorem Ri{op i:CmpOp}{r j:R2}(p:Ìa)(q:OpR X (aQ i) j)(ha:Áu)(hb:Ã6)(hc:PE X c tc)
  (hm:Õu:=by with_unfolding_all rfl):PT X Õv (Mb (Ma r j ta tb tc)):=by
 rw[e3,f,g,Q];refine isTrue_chain (thn #[eE,ha,f,g] λv t ⟨x,w,A,B,C⟩=>test_link (thn (hb f t g w _ A C) λu D ⟨y,E,F,l,G⟩=>
  thn Õw λd J ⟨z,m,n,K,k,e,o⟩=>?_)) hm
 subst e;cases K;refine bq ?_;cases k with
 | false=>obtain k'|L|M:=o;cases L;exact ite_ff (m,n,M)
 | true=>refine ite_tt (test_last (thn (hc f J g m _ n o) λN O ⟨P,R,S,T,V⟩=>thn (q f O g R y P u N _ S l T V) ?_));rintro d' s5 ⟨z2,W,Y,Z,k2,e2,q5⟩;subst e2;cases Z;exact bq (W,Y,q5)
theorem U1:(aq:Nat)<2 ^ 63:=by rw[(aO)];decide
theorem VD:OpR X Ðg (λx y H Q=>X2 λi j=>x=.str i/\y=.str j/\ÆV+Äc<=aq/\Q (.str (i++j)) H):=by intro ai s σ H x y v u Q I a b h;obtain i|j|rfl|rfl|c|q:=h;obtain t|rfl:=a;obtain d|rfl:=b;exact add_str (λd tk=>(.str (i++j),H,š _,ü,q)) c
theorem X1{x:V}{us:å}(r:ZG [x] us):∃u,us=[u]/\ZE x u:=by
 cases r with
 | Î a b=>cases b;exact(_,rfl,a)
theorem S0{x y:V}{us:å}(r:ZG [x,y] us):X2 λu a=>us=[u,a]/\ZE x u/\ZE y a:=by
 cases r with
 | Î b c =>
  cases c with
  | Î d e=>cases e;exact(_,_,rfl,b,d)
theorem LZ:YZ X #[fo,"abs"] (λxs H Q=>∃i,xs=[.int i]/\Q (.int Õx) H):=by intro ai s σ H xs us Q I r h;obtain i|rfl|q:=h;obtain u|rfl|t|rfl:=X1 r;exact call_abs_int λu tk=>(.int Õx,H,š _,ü,q)
theorem Rh(hc:Ŏ):YZ X #[fo,"max"] (λxs H Q=>X2 λi j=>xs=#[it,i,j]/\Q (.int (if j>i then j else i)) H):=by
 rw[iW];refine max_two_ints Áv λh' tk k=>(_,H,ÂG k,?_,q);by_cases a:j>i
 ·rw[iS,a,a];exact ü
 ·rw[hM,a,a];exact ü
theorem LY(hc:Ŏ):YZ X Ìb (λxs H Q=>X2 λi j=>xs=#[it,i,j]/\Q (.int (if j<i then j else i)) H):=by
 rw[iW];refine min_two_ints Áv λh' tk k=>(_,H,ÂG k,?_,q);by_cases a:j<i
 ·rw[iS,a,a];exact ü
 ·rw[hM,a,a];exact ü
theorem LX:YZ X Äd (λxs H Q=>(∃i,xs=[.int i]/\Q Åt H)\/∃k,xs=[.bl k]/\Q (.int (if k then 1 else 0)) H):=by
 rw[aa];rcases h with⟨i,rfl,q⟩|⟨k,rfl,q⟩
 ·rw[ol];exact call_int_int (.int i,H,I,ü,q)
 ·rw[eU,a];exact call_int_bool (.int (if k then 1 else 0),H,š _,ü,q)
universe E
structure VC (h:aI) (x dx C:ae) (mA:Ā):Prop where
 obj:ß x=U (Åp C dx)
 ns:h.Ns1 dx mA
 ne:dx≠x
theorem Zow{h:aI}{dx:ae}{mA:Ā}(n:h.Ns1 dx mA):∃b,ß dx=U b/\∀name,Ìc name b=U (mA name):=by
 obtain o|c|ep|d|f|g|_|i:=n;refine(o,d,λname=>?_);have e:=i name;unfold nsFind findBy at e;rw[<- Array.find?_toList]at e;unfold Ìc;rw[f];dsimp only;split
 ·rename_i y q;rw[q]at e;exact ō U e
 ·rename_i q;rw[q]at e;have a:c.toList.any (·.refKey)=false:=by rw[List.any_eq_false];intro y j;obtain z|t|k:=g y (Array.mem_toList_iff.mp j);simp[DictEntry.refKey,k]
  have l:¬ c.toList.any (·.refKey)=true:=by rw[a];exact Qu
  rw[zE,l];exact ō U e
theorem VC.look{h:aI}{x dx C:ae}{mA:Ā}(I:VC h x dx C mA):∃a,PySem.W.InstAt h x (Åp C dx) C (U a)/\∀name,Ìc name a=U (mA name) :=
 let ⟨a,b,c⟩:=Zow I.ns
 (a,(I.obj,rfl,rfl,b),c)
section
variable {ñ:ay} {w:aF} {A:aD} {E:aa->aj->Prop} {s:aj} {K:Å} {x dx C f:ae} {mA:ak->Ã aa} {name:ak} {v:aa}
theorem ZrY{a:Ï}{Q:ð}(X:Éj)(I:Ði)(b:Õy)(c:#[fi,C])
  (ha:Ðj) (d:mA name=U v) (e:Õz v=true) (h:Q v { s with î:=ń+1 }) :
  ar Ô A (getAttr ÀT name a) Q E s:=by
 rw[hD,od,J,f,I.look];exact PySem.W.get_value X J (ÕA b).1 (PySem.W.findObj_own c ha rfl (by rw[f,d])) e h
theorem ZqO{pl:Sem Ï}{Q:aa×À aa->aj->Prop}(X:Éj)(I:Ði)(a:Õy)
  (b:Ī K æ name=U Àg) (ht:Ðk) (c:mA name=af) (h:Q (.ref f,[.ref x],) s) :
  ar Ô A (Äe ÀT name pl) Q E s:=by
 rw[hD,d,J,e,I.look];exact PySem.W.method_fn X J #[yW].1 #[yW].2 b (Ðl ht) (by show (Ìc name d).map (·.isSome)=U false;rw[e,c];rfl) h
theorem Zr7{ns:Ñ}{Q:Á3}(X:Éj)(I:Ði)
  (hs:#[gd,æ]) (hp:#[rS,C]) (ht:Ðm K C name=U af) (e:#[fi,C])
  (hw:ÈT mA ns) (hsz:Ìd)
  (h:∀h',VC h' x dx C Ðn->ÆL dx Ë h'->Q () { s with Õ:=h',î:=ń+2 }) :
  ar Ô A (Ék ÀT name v) Q E s:=by
 rw[hD,od,J,hl,I.look];refine PySem.W.set_plain X J hs (PySem.W.osa_open (s:=Ðo) (r:=af) X J hp ht λb=>?_);rw[tq,cd,f,g,PySem.W.any_some,e];have i:é x=U (.ref C,U dx,.plain,#[]):=I.obj;refine ah (av (ah (ah (wpAny_loadPart i (ah (PySem.W.Looks.here (s:=Ðo) (PySem.W.looks_clsIn X f) ?_))))));rw[g];refine av (a:=U dx) (ah (av (ah ?_)));refine Ðp (s:=Ðo) I.ns λh' c d=>?_;obtain oD|Ee|Ef|j|k|l:=c.count (PySem.Within.cons name v hw);refine ah (Ðq j (by rw[k];exact Ðr (Qk l #[fL,QA])) ?_);exact av (h _ ((d.2 _ (À7 I.ne)).trans I.obj,c,I.ne) d)
theorem Zpb{R:Él}{vs:å}{kw:Ãt}(X:Éj)(hm:#[hO,C])
  (a:#[fw,æ,Ċ]) (b:PySem.W.typeIn K Ċ=U #[iy,"function"])
  (h:bL Ô (Ém (.builtin "type.__call__" (.ref C::vs,kw))) (.call Ċ (.ref ũ::vs,kw)) (PySem.W.InitBack ũ R)
   { s with Õ:=(Àf ÆW).push (Åp C Ð) }) :
  bL Ô A (.call æ (vs,kw)) R s:=by
 rw[gw,hh,t,s];exact PySem.W.make_core (PySem.W.makes_of X hm) (QaB X a) (λself=>ÕB X self b) Ğ h
universe E
def Zv(f:ak)(v:V):À Á8->À Á8
 | []=>[(f,v,)]
 | (g,x,)::r=>if g=f then (g,v,)::r else (g,x,)::Zv f v r
theorem Zr(f g:ak)(v:V):∀fs:À (ak×V),#[uO].lookup g=if g=f then U v else ÅA g
 | []=>by
  show Áa g [(f,v,)]=_;by_cases h:g=f
  ·rw[sj,f];simp only[Áa,hb,Æ h]
  ·rw[hK,f];simp only[Áa,hb,Ç h]
 | (k,x,)::r=>by
  have b:=Zr f g v r;rw[99];by_cases a:k=f
  ·rw[Æ a];by_cases h:g=k
   ·rw[sj,k];simp only[Áa,hb,Æ (h.trans a)]
   ·rw[hK,k];simp only[Áa,hb,Ç (λe:g=f=>h (e.trans a.symm))]
  ·rw[zE,a];by_cases h:g=k
   ·rw[sj,k];simp only[Áa,hb,Ç (λe:g=f=>a (h.symm.trans e))]
   ·rw[hK,k];simp only[Áa,hb];exact b
theorem Um(f:ak)(v:V):∀fs:À (ak×V),f∈#[uO].map ó/\∀g,g∈ÆX ó->g∈#[uO].map ó
 | []=>(by simp[Zv],λg h=>by simp at h)
 | (k,x,)::r=>by
  obtain i1|i2:=Um f v r;rw[99];by_cases a:k=f
  ·rw[Æ a];subst a;exact(by simp,λg h=>by simpa using h)
  ·rw[zE,a];refine(?_,λg h=>?_)
   ·rw[Qj];exact Qm _ i1
   ·rw[Qj]at h ⊢;rcases Ĳ h with e|e
    ·exact List.mem_cons.mpr (.inl e)
    ·exact Qm _ (i2 g e)
theorem LW(f:ak)(v:V):∀fs:À (ak×V),#[uO].length<=ÀS+1
 | []=>by simp[Zv]
 | (k,x,)::r=>by
  have ih:=LW f v r;rw[99];by_cases a:k=f
  ·rw[Æ a,QA,QA];lia
  ·rw[Ç a,QA,QA];lia
theorem Én{v:V}{o:Äf}(r:Yo (U v) o):∃u,o=U u/\ZE v u:=by
 cases o with
 | none=>exact#[i1].elim
 | some u=>exact(u,rfl,r)
theorem Yo.none_of{o:Äf}(r:Yo af o):o=af:=by
 cases o with
 | none=>rfl
 | some u=>exact#[i1].elim
theorem ZoI{v:V}{u:aa}(r:ZE v u):Õz u=true:=by
 cases v with
 | non=>cases (show u=Àb from r);rfl
 | bl b=>cases (show u=Åm b from r);rfl
 | int i=>obtain t|e:=#[eQ,t,Ãk,i,r];cases e;rfl
 | str x=>obtain t|e:=#[eQ,t,Ár,x,r];cases e;rfl
 | byt b=>obtain t|e:=#[eQ,t,aa.bytes,b,r];cases e;rfl
 | flt b=>obtain t|e:=#[eQ,t,ËI,b,r];cases e;rfl
 | ref a=>cases (show u=á a from r);rfl
 | ty n=>cases (show u=Ãl n from r);rfl
section
variable {P:ay} {w:aF} {H H':Hp} {h h':aI} {a C dx:ae} {fs uc:À (ak×V)}
theorem Ul(hok:À6)(e:Ìe):∃mA,VC h a dx C mA/\#[zO,mA]/\ÈT mA ËJ/\ÀS<=1000/\H dx=U Åo:=by obtain d|z|ne|b|mA|n|r|q:=(show Z8 P w H h a (.ins C dx fs) from hok a _ e);exact(mA,(b,n,ne),r,q,z,d)
universe E
structure Cls (K:Å) (C:ae):Prop where
 pg:Ìf K C Áz=true
 hd:Ðs K C=true
 po:ÕC K C=true
 sa:Ī K æ "__setattr__" = U Éo
theorem Cls.get{K:Å}{C:ae}(c:Cls K C)(f:ak):Ìf K C f=true:=c.pg
def Yt(K:Å)(C:ae)(f:ak):Prop:=Ī K æ f=U af
theorem Yt.taker{K:Å}{C:ae}{f:ak}(n:Yt K C f):Ðm K C f=U af:=by unfold Ðm;rw[show Ī K æ f=U af from n];rfl
structure Con (K:Å) (C:ae) (f:ak) (v:V) (u:aa):Prop where
 at_:Ī K æ f=U (U u)
 rel:ZE v u
 get:Ép K u "__get__" = U af
 cp:PySem.W.copiedNames.contains f=false
structure U0 (K:Å) (C:ae) (m:ak) (f:ae):Prop where
 at_:Ī K æ m=U Àg
 fn:ÅB K Ċ=true
 kp:Áb K Ċ=true
section
variable {X:Cx} {ai:À (ae×aN)} {σ:St} {H:Hp} {s:aj} {a C dx:ae} {fs:À (ak×V)} {f:ak} {v:V} {A:aD} {E:aa->aj->Prop}
theorem LV{b:Ï}{Q:ð}(I:ä)(e:Ìe)(c:Äg)(n:ÆY)(l:ÅA f=U v)
  (h:#[zt,u,H]):ar ġ A (getAttr ĩ f b) Q E s:=by
 obtain g|O|r|_|_|_:=Ul ê e;obtain u|i|d:=Én (v:=v) (o:=g f) (by rw[<- l];exact r f);exact ZrY Ġ O (c.get f) c.hd n i (ZoI d) (h u _ ÂH d)
theorem Rg{m:ak}{g:ae}{pl:Sem Ï}{Q:aa×À aa->aj->Prop}(I:ä)(e:Ìe)(c:Äg)(k:U0 X.K C m g)(l:ÅA m=af)
  (h:Q (.ref g,η,) s):ar ġ A (Äe ĩ m pl) Q E s:=by
 obtain b|O|r|_|_|_:=Ul ê e;have d:b m=af:=Yo.none_of (by rw[<- l];exact r m);exact ZqO Ġ O (c.get m) k.at_ k.fn d h
theorem LU{y:V}{u:aa}{Q:Á3}(I:ä)(e:Ìe)(c:Äg)(n:ÆY)(hl:ÀS<1000)(l:ZE y u)
  (h:∀s',Inv X ai σ (upd H a (.ins C dx Ðt)) s'->Q () s'):ar ġ A (Ék ĩ f u) Q E s:=by
 obtain i|O|r|j|_|k:=Ul ê e;have m:(ËJ).length<=aq:=by rw[Qa,aO];lia
 refine Zr7 Ġ O c.sa c.po n.taker c.hd j m λp d t=>h _ ?_;have v:∃o,p.get? dx=U o:=let ⟨o,_,_,w,_⟩:=d.ns;(o,w);refine ÅC (x:=a) (e:=dx) Éq (.inr k) (λb q B z=>(t.2 b B).trans z) v ?_;refine(by rw[Zc O.ne];exact k,?_,O.ne,d.obj,_,d.ns,λg=>?_,λg D=>?_)
 ·have:=LW f y fs;lia
 ·show Yo ((Ðt).lookup g) (if g=f then U u else i g);rw[Zr];by_cases q:g=f
  ·rw[iS,q,q];exact l
  ·rw[hM,q,q];exact r g
 ·by_cases q:g=f
  ·rw[q];exact#[yT].1
  ·refine#[yT].2 g (j g λz=>D ?_);show (if g=f then U u else i g)=af;rw[zE,q];exact z
theorem Inv.made(I:ä):Inv X ai σ #[eY,H,Ð,ũ,C]
  { s with Õ:=(Àf ÆW).push (Åp C Ð) }:=by
 have c:(ÜV).get? Ð=U ÆW:=Qt Ë rfl;have d:((ÜV).push ÕD).get? ũ=U ÕD:=by have:=Qt ÜV (o:=Åp C Ð) rfl;rwa [Q1]at this
 have f:(ÜV).Ns Ð (λ_=>af):=(ÆW,#[],_,c,rfl,(λe g=>Ê g Ö),λ_=>rfl);have h:=ÀY (a:=Ér) (o:=.own ũ) (h':=Àf ÆW) (t':=ř) #[ii,b,u,q] ç (_,c);refine h.laid (a:=Ð+1) (o:=.ins C Ð []) (t':=ř) #[ii,b,u,q] (Ìg (Q1 _ _)) ?_;have ne:Ð≠Ð+1:=Qz Ðu;refine(by rw[Zc ne,Zb],Qs _,ne,d,λ_=>af,(ÕE f).at λo q=>Qc _ q,λ_=>ŷ,λy i=>Ê rfl i)
theorem ZsI{ñ:ay}{w:aF}{env:Env}{e:aK}{f:ak}{pos:Pos}{s:aj}{Q:ð}(hb:bE e f env (ă e env)=ă e env)
  (h:ar Ô A (ă e env) (λo a=>ar Ô A (getAttr o f true) Q E a) E s):ar Ô A (ă Ðv env) Q E s :=
 Attribute_any_ h (by rw[arm_eval_Attribute,hb])
universe E
inductive Zw8 (K:Å) (f:ak) (x:V) (H:Hp) (B:V->Prop):Prop where
 | mk (a C dx:ae) (fs:À (ak×V)) (v:V) (e:x=.ref a) (g:H a=U (.ins C dx fs)) (c:Cls K C) (n:Yt K C f) (l:ÅA f=U v) (q:B v)
def LS(K:Å)(b:TE)(f:ak):TE:=λc H Q=>b c H λx a=>Zw8 K f x a (λv=>Q v a)
inductive RSF (K:Å) (f:ak) (x:V) (H:Hp) (B:ae->HO->Prop) (y:V):Prop where
 | mk (a C dx:ae) (fs:À (ak×V)) (e:x=.ref a) (g:H a=U (.ins C dx fs)) (c:Cls K C) (n:Yt K C f) (l:ÀS<1000) (q:B a (.ins C dx (Zv f y fs)))
def ZwI(K:Å)(d e:TE)(f:ak):TS:=λD b H=>e b H λy g=>d b g λx c=>RSF K f x c (λa o=>č b (upd c a o)) y
def LR(X:Cx)(op:Éc)(rd:Éb):Prop :=
 ∀ (a:À (ae×aN)) (s:aj) (b:St) (H:Hp) (x y:V) (u v:aa) (Q:VK),Inv X a b H s->ZE x u->ZE y v->rd x y H Q->ô (Ï3 op u v) Ã8 è s
def ZrZ(K:Å)(h i:TE)(rd:Éb)(f:ak):TS:=λD b H=>h b H λx d=>X5 λa C dx fs v=>x=.ref a/\d a=U (.ins C dx fs)/\Cls K C/\Yt K C f/\ÅA f=U v /\
 i b d λy j=>rd v y j λz e=>X2 λg c=>e a=U (.ins C g c)/\Ĥ<1000/\č b (upd e a (.ins C g (Zv f z c)))
section
variable {X:Cx} {o e Àh:aK} {f:ak} {pos dr e7:Pos} {ta tv:TE}
theorem ZH(he:PE X e ta)(hb:#[fk,e,f]):PE X Ðv (LS X.K ta f):=by intro b s d H Q I h;refine ZsI hb #[es,he,b,d];rintro u s1 ⟨x,g,i,j,a,C,dx,fs,v,ex,k,c,n,l,q⟩;subst ex;obtain rfl:u=á a:=j;exact LV i k c n l λu' s2 m o=>(v,g,m,o,q)
theorem X0(ha:Ãu)(e:Ìh)(hs:Ðw):PS X Ðx (ZwI X.K ta tv f):=by intro d s b H D I h;refine Ðy #[gg,e,d,q] hs;rintro m s2 ⟨x,H2,p,r,a,C,dx,fs,ex,t,c,n,l,v⟩;subst ex;obtain rfl:m=á a:=r;exact LU p t c n l k λs3 w=>(b,_,w,v)
theorem VB{op:Éc}{rd:Éb}(ha:Ãu)(g:Ìh)(d:LR X op rd):PS X (.AugAssign #[sq,f,e7] op Àh pos) (ZrZ X.K ta tv rd f):=by intro e s b H D I h;refine wpAny_AugAssign_AttributeAny #[es,ha,e,b];rintro i s1 ⟨x,j,k,m,a,C,dx,fs,v,ex,p,c,n,l,q⟩;subst ex;obtain rfl:i=á a:=m;refine LV k p c n l λu r t w=>thn (g e r b j _ t q) λA B ⟨y,E,F,G,J⟩=>thn (d e B b E v y u A _ F w G J) ?_;rintro w4 s4 ⟨z,H3,K,L,vb,uc,M,N,O⟩;exact LU K M c n N L λs5 P=>(b,_,P,O)
def ZwL:V->V->Hp->VK->Prop:=λx y H Q=>RI2 x y (λi j=>Q (.int (i+j)) H)
theorem Uk:LR X .Add ZwL:=by rintro ai s σ H x y u v Q I b c ⟨i,j,rfl,rfl,q⟩;obtain t|rfl:=#[eQ,t,Ãk,i,b];obtain a|rfl:=(show ∃a,v=Ãk j a from c);exact PyProof.Rows.iadd_int (.int (i+j),H,š _,ü,q)
universe E
section
variable {X:Cx} {ai:À (ae×aN)} {σ:St} {H:Hp} {s:aj} {A:aD} {E:aa->aj->Prop} {Q:aa->aj->Prop} {c:aa} {b:Ï}
inductive Xd (K:Å) (H:Hp):V->aa->Prop where
 | non:Xd K H .non (.type "NoneType")
 | bl (x:Ï):Xd K H (.bl x) (.type "bool")
 | int (i:Int):Xd K H (.int i) (.type "int")
 | str (x:ak):Xd K H (.str x) (.type "str")
 | flt (x:UInt64):Xd K H (.flt x) (.type "float")
 | lst {a:ae} {xs:À V} (e:H a=U (.lst xs)):Xd K H (.ref a) (.type "list")
 | frz {a:ae} {o:aN} {xs:À V} (e:H a=U (.frz o (.lst xs))):Xd K H (.ref a) (.type "list")
 | tup {a:ae} {xs:À V} (e:H a=U (.tup xs)):Xd K H (.ref a) (.type "tuple")
 | dK {a:ae} {kvs:À (Key×V)} (e:H a=U (.dK kvs)):Xd K H (.ref a) (.type "dict")
 | dT {a:ae} {kvs:À (À Key×V)} (e:H a=U (.dT kvs)):Xd K H (.ref a) (.type "dict")
 | ins {a C dx:ae} {fs:À (ak×V)} (e:H a=U (.ins C dx fs)) (cl:Cls K C) (ha:Ī K (.ref C) "__class__" = U (U (.builtin "object.__class__")))
   (hn:ÕF) (fK:ÕG)
   (hm:#[gx,C]):Xd K H ĩ æ
theorem Zn0{x:V}{u t:aa}(I:ä)(d:ZE x u)(ty:Xd X.K H x t)(e:đ X.K t c=U b)(h:∀tk,Q (.bool b) { s with î:=tk }) :
  ar ġ A (Ĵ És [u,c]) Q E s:=by
 cases ty with
 | non=>cases (show u=Àb from d);rw[hf,ÕH]
 | bl y=>cases (show u=Åm y from d);rw[hf,ÕI]
 | int i=>obtain t|q:=Ðz;cases q;rw[hf,ÕJ]
 | str y=>obtain t|q:=#[eQ,t,Ár,y,d];cases q;rw[hf,ÕK]
 | flt y=>obtain t|q:=#[eQ,t,ËI,y,d];cases q;rw[hf,ÕL]
 | @lst a k f=>cases (show u=á a from d);obtain _|_|n|_|g:=(show Z8 ö X.w H Ë a (.lst k) from ê a _ f);exact ÕM
 | @frz a r k f=>cases (show u=á a from d);obtain _|_|_|n|_|g:=(show Z8 ö X.w H Ë a (.frz r (.lst k)) from ê a _ f);exact ÕM
 | @tup a k f=>cases (show u=á a from d);obtain _|_|_|p:=(show Z8 ö X.w H Ë a (.tup k) from ê a _ f);obtain o|g|l|_:=p;exact Q8 ÕN Ġ (o,g,l) e Ài h
 | @dK a j f=>cases (show u=á a from d);obtain _|_|vs|_|p:=#[fM,a,j,f];obtain o|v|w|g|l|_:=p;exact ÕO
 | @dT a j f=>cases (show u=á a from d);obtain _|_|k|_|o|v|w|g|l|_:=(show Z8 ö X.w H Ë a (.dT j) from ê a _ f);exact ÕO
 | @ins a C dx fs f m B D F G=>cases (show u=á a from d);obtain mA|O|_:=Ul ê f;obtain od|J|_:=O.look;exact Q8 (ÕP (m.get _) m.hd B D F G) Ġ J e Ài h
universe E
structure Zt (k:Nat) (A:aD):Prop where
 hd:A.handled=af
 dp:Ìi+3*k+5<recursionLimit
 un:ÂI+16*k+200<ÂJ
 gd:A.guards=U []
theorem Zt.mono{j k:Nat}{A:aD}(r:Zt k A)(h:j<=k):Zt j A:=(r.hd,by have:=r.dp;lia,by have:=r.un;lia,r.gd)
theorem Zt.deeper{k:Nat}{A:aD}(r:Zt (k+1) A)(env:Env):Zt k (ÆZ env) :=
 (r.hd,by have:=r.dp;show Ìi+1+3*k+5<_;lia,by have:=r.un;show ÂI+3+16*k+200<_;lia,r.gd)
theorem ZmA{A:aD}{C:ae}{us:å}{kw:Ãt}:(ÕQ).depth=Ìi+1:=by first|rfl|simp[Ìj,Code.weight,Code.isCreation,Code.isGuard,Code.isCaller,ÐA,Ìk,guardIds]
theorem Zmn{A:aD}{C:ae}{us:å}{kw:Ãt}:(ÕQ).units=ÂI+1:=by first|rfl|simp[Ìj,Code.cUnits,ÐA,Ìk]
theorem Zt.make{k:Nat}{A:aD}(r:Zt (k+1) A)(C:ae)(us:å)(kw:Ãt):Zt k ÕQ :=
 (r.hd,by have:=r.dp;rw[ZmA];lia,by have:=r.un;rw[Zmn];lia,by rw[show (Ém ÕR).guards=A.guards from by first|rfl|simp[Ìj,pushGuards,Code.guards,Code.isGuard,guardIds]];exact r.gd)
theorem Zt.depth{k:Nat}{A:aD}(r:Zt k A):Ìi<recursionLimit:=by have:=r.dp;lia
theorem Zt.units{k:Nat}{A:aD}(r:Zt k A):ÂI+64<ÂJ:=by have:=r.un;lia
def VA:TA:=λ_ H Q=>Q [] H
def ZvS(b:TE)(c:TA):TA:=λa H Q=>b a H λx d=>c a d λxs e=>Q (x::xs) e
section
variable {X:Cx} {e:aK} {es:À aK} {te:TE} {t:TA} {pos:Pos}
theorem Ze:PA X [] VA:=λ_ _ _ _ H Q I h=>ÐB ([],H,I,.nil,h)
theorem Za(ha:Åv)(hr:PA X es t)(hs:θ:=by rfl):PA X (e::es) (ZvS te t):=by intro pos a s b H Q I h;rw[hs];show ar _ _ (spliced (Ét::bo pos (aG es Ì))) _ _ s;refine Æ0 #[es,ha,a,b];rintro u c ⟨x,d,f,g,i⟩;exact thn (hr pos a c b d _ f i) λus s2 ⟨j,k,l,m,n⟩=>(x::j,k,l,.cons g m,n)
def Zw3(t:TA):TE:=λb H Q=>t b H λxs a=>ã<=aq/\∀p,a p=af->Q Ū (upd a p Β)
def ZwX(t:TA):TE:=λb H Q=>t b H λxs a=>ã<=aq/\∀p,a p=af->Q Ū (upd a p ÀE)
theorem Yx{f}(h:PA X es t):PE X (.Tuple es f pos) (Zw3 t):=by intro g s i H Q I j;refine wpAny_Tuple_spliced (thn (h pos g s i H _ I j) λk a ⟨l,c,d,r,z,q⟩=>(by rw[<- ÁA];exact z,?_));have m:c Àj=af:=ÐC ç;refine(.ref Àj,upd c Àj (.tup l),d.laid (t':=Æ1) #[ii,b,u,e] ç ?_,rfl,q _ m);exact(z,k,r,(_,Qt _ rfl,rfl,_,rfl))
theorem ZZ(h:PA X es t):PE X (.List es pos) (ZwX t):=by intro f s g H Q I i;refine wpAny_List_spliced (thn (h pos f s g H _ I i) λj a ⟨k,c,d,r,z,q⟩=>(by rw[<- ÁA];exact z,?_));have l:c Àj=af:=ÐC ç;refine(.ref Àj,upd c Àj (.lst k),d.laid (t':=Æ1) #[ii,b,u,e] ç ?_,rfl,q _ l);exact(z,j,0,r,Qt _ rfl)
universe E
abbrev Sp:=À V->Hp->VK->XK->Prop
abbrev CXT:=À Env->Hp->aj->XK->aa->aj->Prop
structure Vz (P:ay) (w:aF) (K:Å) (mg:Ā) (Â:aI) (A:aD) (Ü:Á2) (s:aj) (H:Hp):Prop where
 frames:A.frames=U Ü
 mod:Mod K mg Â
 bs:∀b o,base.get? b=U o->é b=U o/\H b=af
 bsz:base.objs.size<=Ð
 funs:ÆH Â Ü
 frf:∀b∈frs Ü,H b=af
 hok:HOk P w H Ë
 bare:Ãn Åq
def CE(Ü:Á2)(P:ay)(w:aF)(H:Hp)(s:aj)(Q:VK)(u:aa)(s':aj):Prop :=
 X2 λv a=>s'.os=s.os/\Ãn s'.gens/\Un (frs Ü) [] H a Ë ÀD/\HOk P w a ÀD/\ZE v u/\Q v a
def CR(CX:CXT)(Ü:Á2)(P:ay)(w:aF)(H:Hp)(s:aj)(Q:VK)(E:XK)(r:Éu)(s':aj):Prop :=
 match r with
 | .ok (.ret u)=>CE Ü P w H s Q u s'
 | .ok _=>ė
 | .error e=>CX Ü H s E e s'
structure YY (P:ay) (w:aF) (K:Å) (mg:Ā) (Â:aI) (CX:CXT) (k:Nat) (f:ae) (fd:bA) (ps:Ñ) (sp:Sp):Prop where
 len:∀vs H Q E,sp vs H Q E->Ÿ=ÀF
 run:∀ (A:aD) (Ü:À Env) (s:aj) (H:Hp) (args:Args) (us:À aa) (vs:À V) (Q:VK) (E:XK),Zt k A->Vz P w K mg Â A Ü s H->Æ2 s fd args Æ3->ZG vs us->sp vs H Q E ->
  bL Ã9 A (.call Ċ args) (CR CX Ü P w H s Q E) s
theorem YY.mono{P:ay}{w:aF}{K:Å}{mg:Ā}{Â:aI}{CX:CXT}{j k:Nat}{f:ae}{a:bA}{ps:Ñ}{sp:Sp}(F:YY P w K mg Â CX j f a ps sp)(h:j<=k) :
  YY P w K mg Â CX k f a ps sp:=(F.len,λA Ü s H args us vs Q E hr=>F.run A Ü s H args us vs Q E (Äh h))
theorem YY.imp{P:ay}{w:aF}{K:Å}{mg:Ā}{Â:aI}{CX:CXT}{k:Nat}{f:ae}{b:bA}{ps:Ñ}{sp c:Sp}(F:YY P w K mg Â CX k f b ps sp)
  (h:∀vs H Q E,c vs H Q E->sp vs H Q E):YY P w K mg Â CX k f b ps c :=
 (λvs H Q E q=>F.len vs H Q E (h _ _ _ _ q),λA a s H args d vs Q E e g i j l=>F.run A a s H args d vs Q E e g i j (h _ _ _ _ l))
theorem Vz.make{P:ay}{w:aF}{K:Å}{mg:Ā}{Â:aI}{A:aD}{Ü:Á2}{s:aj}{H:Hp}(e:ÕS)(C:ae)(us:å)(kw:Ãt) :
  Vz P w K mg Â ÕQ Ü s H:=(by first|exact e.frames|(simpa [Ìj,Code.envs,Ìk,pushEnvs] using e.frames),e.mod,e.bs,e.bsz,e.funs,e.frf,e.hok,e.bare)
section
variable {X:Cx} {ai:À (ae×aN)} {σ:St} {H:Hp} {s s':aj}
theorem Inv.env0(I:ä):Vz ö X.w X.K ğ Œ X.A Κ s H :=
 (Æ4,ËO,I.bs,Qk È1 I.sz,I.stack,ÐD,ê,Λ)
theorem Inv.after{Q:VK}{u:aa}(I:ä)(h:CE Κ ö X.w H s Q u s'):EP X ai σ Q u s':=by obtain v|e|os|a|un|c|r|q:=h;obtain f|g|d|t|i:=s';obtain rfl:i=s.os:=os;exact(v,e,I.call (h':=f) (g':=g) (d':=d) (t':=t) (ch:=[]) un c a (λb z=>Ê z Ö),r,q)
universe E
def SY(sp:Sp)(dvs:Ė)(E:XK)(t:TA):TE:=λa H Q=>t a H λvs b=>sp Äi b Q E
inductive RMt (C:ae) (m:ak) (x:V) (H:Hp) (B:Prop):Prop where
 | mk (a dx:ae) (fs:À (ak×V)) (e:x=.ref a) (g:H a=U (.ins C dx fs)) (l:ÅA m=af) (q:B)
def SX(C:ae)(m:ak)(sp:Sp)(dvs:Ė)(E:XK)(c:TE)(t:TA):TE:=λa H Q=>c a H λx b=>RMt C m x b (t a b λvs d=>sp (x::Äi) d Q E)
def SW(C:ae)(sp:Sp)(dvs:Ė)(E:XK)(t:TA):TE:=λb H Q=>t b H λvs a=>∀x dx,a x=af->a dx=af->dx≠x ->
 sp (.ref x::Äi) #[eY,a,dx,x,C] (λv c=>v=.non/\Q ÀT c) E
def YB(K:Å)(b:bA)(ps:Ñ)(ds:å):Prop :=
 ∀ (s:aj) (a:À aa),Ŵ Ë->(a++ds).length=ÀF->Æ2 s b (a,[]) (Év (a++ds))
theorem YB.all{K:Å}{a:bA}{ps:Ñ}(h:∀us:À aa,ÀR=ÀF->bindArgs a Éw=pure Æ3):YB K a ps []:=λs us _ hl=>by rw[Qab]at hl ⊢;exact .of_eq (h us hl)
def Wj(CX:CXT)(X:Cx)(E:XK):Prop:=∀ (a:À (ae×aN)) (b:St) (H:Hp) (s:aj) (e:aa) (s':aj),Inv X a b H s->CX Κ H s E e s'->è e s'
section
variable {X:Cx} {CX:CXT} {k:Nat} {f C:ae} {fd:bA} {ps:À ak} {sp:Sp} {dvs:À V} {ds:À aa} {E:XK} {x m:ak} {p pos bv:Pos} {e o:aK} {es:À aK} {ta:TE} {t:TA}
theorem Uj{b:Ć}{c:St}{H:Hp}{s:aj}{Q:VK}{us:å}{vs:Ė}(F:Äj)(hr:ι)(hb:Äk)(hd:Äl)(hx:Äm)
  (I:Inv X b c H s) (r:ZG vs us) (h:sp Äi H Q E):ô (Ĵ Ċ us) (EP X b c Q) è s:=by
 have d:ZG Äi (us++ds):=Ìl hd;have g:(us++ds).length=ÀF:=by rw[<- μ];exact F.len _ _ _ _ h
 refine Än (Æ5 (F.run X.A Κ s H Éw (us++ds) Äi Q E hr I.env0 (hb s us Ġ g) d h) λr i a=>?_);cases r with
 | error e=>exact hx b c H s e i I a
 | ok j =>
  cases j with
  | ret u=>exact I.after a
  | next=>exact Ãv
  | brk=>exact Ãv
  | Μ=>exact Ãv
theorem Zsc(F:Äj)(hr:ι)(b:Ō)(hm:ÐE)(hk:ÐF)(hb:Äk)(hd:Äl)(hx:Äm)
  (ha:Àk) (c:Ĩ:=by decide) (he:θ:=by rfl) (d:ÁB:=by rfl) :
  PE X Äo (SY sp dvs E t):=by
 rw[he,g,i,b,c];refine Qad (h₀:=Œ) Äp hk ÕT he d;exact Uj F hr hb hd hx a r q
theorem Zpj(F:Äj)(hr:ι)(a:Ō)(hm:ÐE)(hk:ÐF)(hb:Äk)(hd:Äl)(hx:Äm)
  (b:Ĩ:=by decide):PE X Ìm (SY sp dvs E VA):=by
 rw[he,ai,σ,a,b];exact ÐG Ġ hk (Uj (us:=[]) F hr hb hd hx I .nil h)
theorem ZsY{pl:Sem Ï}(he:Ãu)(c:Äg)(hm:U0 X.K C m f)(F:Äj)(hr:ι)(hb:Äk)(hd:Äl)(hx:Äm)(ha:Àk)
  (n:θ:=by rfl) (p:ÁB:=by rfl)
  (v:ă Æ6 Ì=(do
   let b <- ă o Ì
   Ã5 Æ7
   let (f,first) <- Át [b] (Äe b m pl)
   Æ8 pos f first (bo pos Éx) Æ9):=by rfl) :
  PE X Æ6 (SX C m sp dvs E ta t):=by
 rw[r1,d,g,v];rw[gU,w,y,i,z,A];refine Rg i A c hm l ?_;refine Qad (first:=η) (h₀:=Œ) Äp hm.kp (thn (ha pos d w g y _ i q) λus s2 ⟨vs,H2,j,r,B⟩=>(j.kIn,?_)) n p;exact Uj (us:=.ref a::us) (vs:=.ref a::vs) F hr hb hd hx j (.cons rfl r) B
theorem ZqG{pl:Sem Ï}(he:Ãu)(c:Äg)(hm:U0 X.K C m f)(F:Äj)(hr:ι)(hb:Äk)(hd:Äl)(hx:Äm)
  (ht:ă Ìn Ì=(do
   let d <- ă o Ì
   Ã5 Æ7
   let (f,first) <- Át [d] (Äe d m pl)
   Æ8 pos f first (bo pos (aG [] Ì)) Æ9):=by rfl) :
  PE X Ìn (SX C m sp dvs E ta VA):=by
 rw[r1,e,g,ht];rw[gU,s1,H1,b,i,j];refine Rg b j c hm l ?_;exact ÐG (first:=η) b.kIn hm.kp (Uj (us:=η) (vs:=η) F hr hb hd hx b ÐH q)
structure Mk (K:Å) (C f:ae):Prop where
 makes:ÕU K C=true
 init:Ī K æ "__init__" = U Àg
 fn:ÅB K Ċ=true
 kp:Áb K æ=true
theorem LQ{c:Ć}{d:St}{H:Hp}{s:aj}{Q:VK}{us:å}{vs:Ė}(M:Mk X.K C f)(F:Äj)(hr:Éy)(hb:Äk)(hd:Äl)
  (hx:Äm) (I:Ë5) (r:ZG vs us)
  (h:∀x dx,H x=af->H dx=af->dx≠x->sp (.ref x::Äi) #[eY,H,dx,x,C] (λv j=>v=.non/\Q ÀT j) E) :
  ô (Ĵ æ us) (EP X c d Q) è s:=by
 have g:=h ũ Ð Ìo Ãw (Qz Ðu);have b:=Inv.made (C:=C) I;have i:ZG (ù ũ::Äi) ÕV:=.cons rfl (Ìl hd);have l:(á ũ::us++ds).length=ÀF:=by have e:=ÆV;rw[F.len _ _ _ _ g]at e;exact Ã3
 refine Än (Zpb (f:=f) Ġ M.makes M.init (Ðl M.fn) (Æ5 (F.run _ Κ _ _ (á ũ::us,[]) ÕV _ _ E (hr.make C us [])
  (b.env0.make C us []) (hb _ ÕW b.kIn l) i g) λr m a=>?_))
 cases r with
 | error e=>exact hx c d _ _ e m b a
 | ok n =>
  cases n with
  | ret u=>obtain v|o|p|q|t|w:=b.after a;subst t;exact(q,(ù ũ,o,p,rfl,w))
  | next=>exact Ãv
  | brk=>exact Ãv
  | Μ=>exact Ãv
theorem Zr8(M:Mk X.K C f)(F:Äj)(hr:Éy)(b:Ō)(hm:Ìp)(hb:Äk)(hd:Äl)(hx:Äm)
  (ha:Àk) (c:Ĩ:=by decide) (he:θ:=by rfl) (d:ÁB:=by rfl) :
  PE X Äo (SW C sp dvs E t):=by
 rw[he,g,i,b,c];refine Qad (h₀:=Œ) Äp M.kp ÕT he d;exact LQ M F hr hb hd hx a r q
theorem Zp0(M:Mk X.K C f)(F:Äj)(hr:Éy)(a:Ō)(hm:Ìp)(hb:Äk)(hd:Äl)(hx:Äm)
  (b:Ĩ:=by decide):PE X Ìm (SW C sp dvs E VA):=by
 rw[he,ai,σ,a,b];exact ÐG Ġ M.kp (LQ (us:=[]) M F hr hb hd hx I .nil h)
universe E
section
variable {X:Cx} {CX:CXT} {k:Nat} {f C:ae} {fd:bA} {ps ks:À ak} {sp:Sp} {E:XK} {x m:ak} {p pos bv kpos:Pos} {e o:aK} {es:À aK} {kws:À Keyword} {te ta:TE} {t tk:TA} {nm:Ã ak}
structure KBinds (K:Å) (fd:bA) (ps ks:Ñ) (g:À aa->À aa->À aa) (gV:À V->À V->À V):Prop where
 to:∀ (s:aj) (us ws:À aa),Ŵ Ë->(g us ws).length=ÀF->Æ2 s fd (us,ks.zip ws) (Év (g us ws))
 rel:∀ {vs:À V} {us:À aa} {zs:À V} {ws:À aa},ZG vs us->ZG zs ws->ZG (gV vs zs) (g us ws)
variable {g:À aa->À aa->À aa} {gV:À V->À V->À V}
universe E
structure Zn (N P:Ñ) (sc:bh):Prop where
 kind:sc.kind=.function
 co:sc.isCoroutine=false
 gen:sc.isGenerator=false
 nd:ËV
 pre:N.take Ça=P
 par:∀x∈P,ÕX x=U .local\/ÕX x=U .cell
 nofree:∀y∈sc.names,y.2≠.free
theorem LO{ν:Ìq}{x:ak}:∀ {binds:À (ak×aa)} {m:ak->Ã aa},(∀v,(x,v,) ∉ binds)->Äq ν binds m x=m x
 | [],_,_=>rfl
 | (n,v,)::r,m,h=>by
  unfold Äq;rw[LO λw hw=>h w (Qm _ hw)];split
  ·have:x≠n:=by rintro rfl;exact h v Qal
   simp[this]
  ·rfl
theorem LN{ν:Ìq}{x:ak}:∀ {binds:À (ak×aa)} {m:ak->Ã aa},(∀v,(x,v,) ∉ binds)->Är ν binds m x=m x
 | [],_,_=>rfl
 | (n,v,)::r,m,h=>by
  unfold Är;rw[LN λw hw=>h w (Qm _ hw)];split
  ·rfl
  ·have:x≠n:=by rintro rfl;exact h v Qal
   simp[this]
theorem LM{ν:Ìq}{x:ak}{v:aa}:∀ {P:À ak} {vs:À aa} {i:Nat} {m:ak->Ã aa},P.Nodup->P[i]? = U x->vs[i]? = U v->ν x=U .local ->
  Äq ν (P.zip vs) m x=U v
 | [],_,_,_,_,h,_,_=>by simp at h
 | _::_,[],_,_,_,_,h,_=>by simp at h
 | p::P,w::vs,0,m,nd,h1,h2,hk=>by simp at h1 h2;subst h1;subst h2;show Äq ν Ìr m p=_;unfold Äq;rw[LO λv a=>(QS.mp nd).1 (ÐI a).1,Æ hk];simp
 | p::P,w::vs,i+1,m,nd,h1,h2,hk=>by show Äq ν Ìr m x=_;unfold Äq;exact LM (i:=i) (QS.mp nd).2 #[eg,h1] #[eg,h2] hk
theorem LL{ν:Ìq}{x:ak}{v:aa}:∀ {P:À ak} {vs:À aa} {i:Nat} {m:ak->Ã aa},P.Nodup->P[i]? = U x->vs[i]? = U v->ν x≠U .local ->
  Är ν (P.zip vs) m x=U v
 | [],_,_,_,_,h,_,_=>by simp at h
 | _::_,[],_,_,_,_,h,_=>by simp at h
 | p::P,w::vs,0,m,nd,h1,h2,hk=>by simp at h1 h2;subst h1;subst h2;show Är ν Ìr m p=_;unfold Är;rw[LN λv a=>(QS.mp nd).1 (ÐI a).1,Ç hk];simp
 | p::P,w::vs,i+1,m,nd,h1,h2,hk=>by show Är ν Ìr m x=_;unfold Är;exact LL (i:=i) (QS.mp nd).2 #[eg,h1] #[eg,h2] hk
def Xr(N:Ñ)(vs:Ė):St:=vs.map U++ÁC (ģ-Ÿ) af
def XH(CX:CXT)(P:ay)(w:aF)(K:Å)(mg:Ā)(Â:aI)(N:Ñ)(a:ak)(b:bh)(f:ae)(c:aa)(A:aD)(Ü:Á2)(s:aj)(H:Hp)(E:XK):Cx where
 ñ:=P
 w:=w
 K:=K
 mg:=mg
 Â:=Â
 A:=ÆZ ÐJ
 N:=N
 ÀU:=s
 H₀:=H
 env:=Äs a b Ð f c
 Ü:=Ü
 stack:=Äs a b Ð f c::Ü
 ex:=[]
 calm:=true
 fn:=λ_=>true
 pn:=[]
 xe:=λe g=>ar Ã9 (ÆZ ÐJ) (leaving ÐJ e) (λ_ d=>CX Ü H s E e d) (λh d=>CX Ü H s E h d) g
theorem LK{a:bh}{n:Nat}{x:ak}(h:Ã2 x=U .cell):∃c,(ÐK n a.names []).lookup x=U c:=by have q:=ÕY a.names n [] (.inl h);exact Option.isSome_iff_exists.mp q
theorem Zou{CX:CXT}{P:ay}{w:aF}{K:Å}{mg:Ā}{Â:aI}{N ps:Ñ}{o:ak}{j:bh}{f:ae}{t:aa}{A:aD}{Ü:Á2}{s F:aj}{H:Hp}{E:XK}{us:å}{vs:Ė}
  (S:Zn N ps j) (hd:Á9) (g:ÕS) (hl:Ÿ=ÀF) (r:ZG vs us)
  (x:InCallC s Ð (Äq #[qF].kindOf Æ3 λ_=>af) (ÐK ũ j.names []) (Är #[qF].kindOf Æ3 λ_=>af) F) :
  Inv ÜW [] ÁD H F:=by
 have cV:ÀF<=ģ:=by have:=#[eC,S.pre];rw[Qx]at this;lia
 obtain B|tk|rfl|G:=x.done;have D:∀b:ae,b ∉ (ÜW).ex:=λb z=>Ê #[su,z] Ö;refine⟨(g.mod,Çb,rfl,rfl,Qf _,λy z c B d=>?_,λy hy=>?_,λy c _ h=>?_,λ_=>hd,aD.frames_deeper g.frames,.inr Ŕ,λb z=>Ê z (D b),g.bs,g.bsz,λb _ _=>D b,λb z=>Ê z (D b),g.funs,g.frf),
  rfl,g.bare,ÈU G,(_,x.toInCall.ns,λi y v B d h3=>?_),λy c h=>(_,x.cell y c h),g.hok.fresh ç,λy c h=>?_,λp l=>Ê (show p∈Ìs from l) Ö,g.hok.kept G,?_⟩
 ·exact name_of_addr x.apart (Qap B) (Qap d)
 ·have hy:#[te,j.names.lookup,y]:=hy;rcases hy with hy|hy
  ·exact LK hy
  ·exact Ê rfl (S.nofree _ (Qap hy))
 ·exact QaJ (x.above y c (Qap h))
 ·have C:i<Ÿ:=by
   unfold Xr at d;by_cases C:i<Ÿ
   ·exact C
   ·rw[Q7 #[eg,C]]at d;rw[ÕZ]at d;split at d<;>cases d
  have J:vs[i]? = U v:=by
   unfold Xr at d;rw[QT #[eg,C],Qq]at d;cases e:vs[i]? with
   | none=>rw[e]at d;cases d
   | some a=>rw[e]at d;cases d;rfl
  rw[tq,u,I,L,r.get,J];have l:ps[i]? = U y:=by rw[<- S.pre,List.getElem?_take_of_lt Á];exact B
  have m:ps.Nodup:=by rw[<- S.pre];exact S.nd.sublist Õ0
  rw[sC,u,L];rcases S.par y (Qn l) with k|k
  ·exact .inl (k,LM m l I k)
  ·obtain c|e:=LK (n:=Ð+1) k;refine .inr (.inl k,c,e,?_);have q:=x.cell y c e;rw[LL m l I (by show j.names.lookup y≠_;rw[k];decide)]at q;exact q
 ·exact g.hok.fresh (QaJ (x.above y c (Qap h)))
 ·unfold Xr;show _=ģ;rw[Qi,Qa,QaS];lia
theorem LJ{CX:CXT}{P:ay}{w:aF}{K:Å}{mg:Ā}{Â:aI}{k:Nat}{f:ae}{name d:ak}{D:Arguments}{m:Γ}{a:bh}{F kV G L g ct T:aa}{M W:Ě}
  {X:Δ} {N ps:Ñ} {sp:Sp} (lk:Ļ f=U (T,W,.func Õ1,X)) (Y:Éz K g d=true) (S:Zn N ps a)
  (len:Ãx)
  (Z:∀ (A:aD) (Ü:À Env) (s:aj) (H:Hp) (vs:À V) (Q:VK) (E:XK),Zt k (ÆZ (Äs d a Ð f g))->sp vs H Q E ->
   ∃t,PSs ÐL m t/\t { nx:=λ_ c=>Q .non c,rt:=Q } ÁD H) :
  YY P w K mg Â CX (k+1) f Õ1 ps sp:=by
 refine(len,λA Ü s H args us vs Q E p i hb r O=>?_);have hl:=len _ _ _ _ O;have KX:Éj:=i.mod.kin.keeps λb o e=>(i.bs b o e).1;have z:s.heap.NoLimit:=i.mod.nolimit.keeps λb o e=>(i.bs b o e).1;have A5:∀y∈Év us,Ã2 y.1=U .local\/(Ã2 y.1=U .cell/\((ÐK ũ a.names []).lookup y.1).isSome=true):=λ⟨n,v⟩ hy=>by
  rcases S.par n (ÐI hy).1 with q|q
  ·exact .inl q
  ·exact .inr (q,ÕY _ _ _ (.inl q))
 refine codeAny_call_function p.depth (KX _ _ lk) rfl S.co S.gen rfl (PySem.W.codeRec_of KX Y) (hb _ _ _ _ ?_);refine wpAny_newFunctionEnv_cells Çb A5 λenv he R x=>?_;subst he;refine(z.keeps x.toInCall.keep,codeAny_func ?_);obtain t|ht|hq:=Z A Ü s H vs Q E (p.deeper _) O;have I:Inv ÐL [] ÁD H R:=Zou S p.hd i hl r x;refine ba (ht [] R ÁD H _ I hq) #[hU,fl,B,h] λe B h=>h;have j:∀ {l:St} {c:Hp} {v:V} {u:aa},Inv ÐL [] l c B->ZE v u->Q v c->CE Ü P w H s Q u B :=
  λ{l c v u} J C q=>(v,c,J.os,J.bare,J.base,J.hok,C,q)
 cases fl with
 | ret u=>obtain v|l|c|J|C|q:=h;exact j J C q
 | next=>obtain l|c|J|q:=h;exact j (v:=V.non) (u:=Àb) J rfl q
 | brk=>obtain _|_|_|q:=h;exact Ãq q
 | Μ=>obtain _|_|_|q:=h;exact Ãq q
section
variable {X:Cx} {x:ak} {p pos:Pos} {e:aK} {es:À aK} {t:TA} {id T:ŋ} {r:À V->Hp->VK->Prop}
def tCB(r:À V->Hp->VK->Prop)(t:TA):TE:=λa H Q=>t a H λvs b=>r vs b Q
theorem Zo(hc:YZ X #[fo,id] r)(c:Ō)(hm:ğ x=af)(d:c9 x=U #[fo,id])(ha:Àk)(f:È8:=by decide)(g:Ĩ:=by decide)
  (i:θ:=by rfl) (j:ÁB:=by rfl):PE X Äo (tCB r t):=by
 rw[pn];exact Õ2 Õ3 i j
theorem W4(hc:YZ X (.type T) r)(c:Ō)(hm:ğ x=af)(d:c9 x=U (.type T))(ha:Àk)(f:È8:=by decide)(g:Ĩ:=by decide)
  (i:θ:=by rfl) (j:ÁB:=by rfl):PE X Äo (tCB r t):=by
 rw[pn];exact Qaf Õ3 i j
universe E
universe E.L2
namespace HT
open PySem PyProof.Rows
section
variable {ñ:ay} {w:aF} {A:aD} {E:aa->aj->Prop} {s:aj}
def sIx(n d:Nat):Ã Int->Nat
 | none=>d
 | some v=>if v<0 then (v+(n:Int)).toNat else min v.toNat n
theorem sIx_none(n d:Nat):sIx n d af=d:=rfl
theorem sIx_nat(n d k:Nat):sIx n d (U (k:Int))=min k n:=by show (if (k:Int)<0 then ((k:Int)+(n:Int)).toNat else min (k:Int).toNat n)=min k n;rw[Ç Á,Qa9]
universe E
universe E.HT
namespace L2
open PySem PySem.Spec PyProof.Rows
abbrev TO:=St->Hp->(Ã Int->Hp->Prop)->Prop
def PO(X:Cx)(e:Ã aK)(t:TO):Prop :=
 ∀ (b:À (ae×aN)) (s:aj) (a:St) (H:Hp) (Q:Ã Int->Hp->Prop),Inv X b a H s->t a H Q ->
  ô (evalPart e Ì) (λu d=>X2 λo c=>Inv X b a c d/\IsPart u o/\Q o c) è s
def Zr6:TO:=λ_ H Q=>Q af H
def Zww(t:TE):TO:=λa H Q=>t a H λx b=>EA (λi=>x=.int i) (λi=>Q (U i) b)
theorem ZlW{ns:Ø}:∀ {us:À aa},ZG ξ us->Çc us ns:=by
 induction ns with
 | nil=>intro us r;rw[rR,QaZ,r];exact .nil
 | Î n ns a =>
  intro us r;rw[Qj]at r;cases r with
  | Î b c=>obtain t|e:=b;subst e;exact .cons n t (a c)
section
variable {X:Cx} {e:aK} {te:TE} {lo hi:Ã aK} {tl th:TO} {pos p2:Pos}
theorem V3:PO X af Zr6:=by intro ai s σ H Q I h;rw[evalPart_none];exact av (af,H,I,.none,h)
theorem WA(h:Åv):PO X (U e) (Zww te):=by intro a s b H Q I hw;rw[evalPart_some];refine thn (h a s b H _ I hw) ?_;rintro u s1 ⟨x,c,d,f,g⟩;obtain i|rfl|q:=g;obtain t|rfl:=f;exact(U i,c,d,.int i t,q)
def SlR(X:Cx)(r:ÐM):Prop :=
 ∀ (a:À (ae×aN)) (s:aj) (b:St) (H:Hp) (x:V) (v c d:aa) (lo hi:Ã Int) (e:ae) (Q:VK),Inv X a b H s->ZE x v->s.heap.IsSliceOf e c d .none->IsPart c lo->IsPart d hi->r x lo hi H Q ->
  X2 λT id=>ÅD (.type T) "__getitem__" = pure (U #[fo,id])/\Çd v T/\ô (Çe v Ś) Ã8 è s
def tSl(r:ÐM)(te:TE)(tl th:TO):TE:=λa H Q=>te a H λx b=>tl a b λl c=>th a c λu d=>r x l u d Q
theorem WL{r:ÐM}(hr:SlR X r)(he:Åv)(hl:PO X lo tl)(hu:PO X hi th):PE X (.Subscript e (.Slice lo hi af p2) pos) (tSl r te tl th):=by intro c s d H Q I h;refine Subscript_ #[es,he,c,d];rintro v j ⟨x,k,m,n,o⟩;refine wpAny_Slice (thn (hl c j d k _ m o) λf p ⟨l,t,w,y,z⟩=>thn (hu c p d t _ w z) ?_);rintro g a ⟨u,i,A,B,C⟩;rw[evalPart_none];refine av ?_;have D:Inv X c d i { a with Õ:=ÐN { cls:=.type "slice",Ó:=.fields #[f,g,.none] } }:=A.kept (t':=Æ1) λb ob q=>Qc _ q;obtain T|id|E|F|G:=hr c { a with Õ:=ÐN { cls:=.type "slice",Ó:=.fields #[f,g,.none] } } d i x v f g l u Àj Q D n (aI.IsSliceOf.new ..) y B C;show ô (Ìt e (.Slice lo hi af p2) v (.ref Àj)) (EP X c d Q) è { a with Õ:=ÐN { cls:=.type "slice",Ó:=.fields #[f,g,.none] } };exact tail_any (ops:=[.ref Àj,v]) F E G ÀZ
def Yg(xs:Ė)(lo hi:Ź):À V:=(xs.drop (Ε ã 0 lo)).take #[rU,ã,hi]
theorem Zlj(xs:Ė)(lo hi:Ź):(Yg xs lo hi).length<=ã:=by unfold Yg;rw[Qx,QZ];lia
universe E
def ixN(n:Nat)(i:Int):Ã Nat:=if 0<=i then (if i<n then U i.toNat else af) else if -(n:Int)<=i then U (i+n).toNat else af
def atI{α:Type}(xs:À α)(i:Int):Ã α:=(ixN ã i).bind λj=>xs[j]?
theorem LI{n:Nat}{i:Int}{j:Nat}(h:ixN n i=U j):seqIndex? i n=U j/\j<n /\ -(n:Int)<=i/\i<n:=by
 unfold ixN at h;by_cases b:0<=i
 ·rw[sX,b,h];by_cases a:i<n
  ·rw[sX,a,h];have e:i.toNat=j:=Qw h;exact(by rw[ÐO b a,e],by lia,by lia,a)
  ·rw[hI,a,h];cases h
 ·rw[hI,b,h];by_cases a:-(n:Int)<=i
  ·rw[sX,a,h];have e:(i+n).toNat=j:=Qw h;exact(by rw[ÐP Á a,e],by lia,a,by lia)
  ·rw[hI,a,h];cases h
theorem Rc{α:Type}{xs:À α}{i:Int}{v:α}(h:atI xs i=U v):∃j,seqIndex? i ã=U j/\xs[j]? = U v/\j<ã /\ -(ã:Int)<=i/\i<ã:=by
 unfold atI at h;cases e:ixN ã i with
 | none=>rw[e]at h;cases h
 | some j=>rw[e]at h;obtain a|b|c|d:=LI e;exact(j,a,h,b,c,d)
theorem XZ{α:Type}{xs:À α}{j:Nat}{v:α}(h:xs[j]? = U v):atI xs (j:Int)=U v:=by
 have hj:j<ã:=(Ũ h).1;have e:ixN ã (j:Int)=U j:=by unfold ixN;rw[iS,Á,Á];simp
 unfold atI;rw[e];exact h
theorem Zp7{α:Type}(xs:À α)(v:α):atI (xs++[v]) (-1)=U v:=by
 have a:(xs++[v]).length=ã+1:=by simp
 have e:ixN (xs++[v]).length (-1)=U ã:=by unfold ixN;rw[a,Ç É,Æ Á];congr 1;lia
 unfold atI;rw[e];show (xs++[v])[ã]? = U v;simp
def Zss(b:aK):Prop:=∀o i,Ìu b false o i=operate [o,i] (Çe o i)
def IxR(X:Cx)(r:R2):Prop :=
 ∀ (Àh a:aK) (b:À (ae×aN)) (s:aj) (c:St) (H:Hp) (x y:V) (v u:aa) (Q:VK),Inv X b c H s->ZE x v->ZE y u->r x y H Q ->
  Ìu a false v u=operate [v,u] (Çe v u)->ô (Ìt Àh a v u) (EP X b c Q) è s
def MtR(X:Cx)(id:ŋ)(r:Ìv):Prop :=
 ∀ (a:À (ae×aN)) (s:aj) (b:St) (H:Hp) (x:V) (c:À V) (v:aa) (d:À aa) (Q:VK),Inv X a b H s->ZE x v->ZG c d->r x c H Q ->
  ô (Ĵ #[fo,id] (v::d)) Ã8 è s
section
variable {X:Cx} {a b:aK} {ta tb:TE} {pos:Pos}
theorem ZD{r:R2}(hr:IxR X r)(ha:Áu)(hb:Ã6)(hs:Zss b):PE X (.Subscript a b pos) Ë8:=by intro c s d H Q I h;exact Subscript_ (Rm ha hb I h λv u e x y f g i j q=>hr a b c e d f x y v u Q g i j q (hs _ _))
inductive RIx (S:ae->À V->Prop) (x y:V) (B:V->Prop):Prop where
 | mk (p:ae) (xs:À V) (i:Int) (v:V) (a:x=.ref p) (b:y=.int i) (c:S p xs) (d:atI xs i=U v) (q:B v)
def LH(K:Å):R2:=λx y H Q=>RIx (SqL K H) x y (λv=>Q v H)
def LG(K:Å):R2:=λx y H Q=>RIx (SqT K H) x y (λv=>Q v H)
def ZwS:R2:=λx y H Q=>X3 λz i c=>x=.str z/\y=.int i/\Ľ<=aq/\atI Âa i=U c/\Q (.str ź) H
theorem ZsW:IxR X (LH X.K):=by
 intro Àh fX e s f H x y v u Q I m n h g;obtain p|xs|i|z|rfl|rfl|o|A|q:=h;cases m;rw[tj,n];rw[fS,r,c,hz,o];obtain j|b|B|h3|C|D:=Rc A;rw[tq,w,k,E,r.get,B];have F:=ÁA;have hn:=U1;have a:EP X e f Q w s:=(z,H,I,E,q);by_cases l:0<=i
 ·have d:i.toNat=j:=by rw[ÐO l D]at b;exact Qw b
  exact item_listR c.isList l Á Õ4 a g
 ·have d:(i+(ÅE:Int)).toNat=j:=by rw[ÐP Á C]at b;rw[QC,<- F];exact Qw b
  exact Õ5 (x:=w) c.isList.typeIs Õ6
   (wpAny_getItem_list_neg (Q:=λr G=>r=w/\EP X e f Q r G) c.isList Á (by rw[QC]<;>lia) Á Õ4 (rfl,a)) g
theorem ZuC:IxR X (LG X.K):=by
 intro Àh fX b s c H x y v u Q I e f h g;obtain p|xs|i|z|rfl|rfl|k|l|q:=h;cases e;rw[tj,f];rw[s5,r,d,hz,k];obtain j|m|n|h3|h4|h5:=Rc l;rw[tq,w,o,A,r.get,n];have B:=ÁA;have hn:=U1;have a:EP X b c Q w s:=(z,H,I,A,q);exact Õ5 (x:=w) ÉA slot_tuple_getitem.lookup
  (getItem_tuple (j:=j) (Q:=λr C=>r=w/\EP X b c Q r C) d Á Á (by rw[QC,<- B];exact m) #[eg,o] (rfl,a)) g
theorem UZ:IxR X ZwS:=by
 intro Àh fX ai s σ H x y v u Q I b d h e;obtain z|i|c|rfl|rfl|hz|f|q:=h;rw[tj,b];rw[eN,t',d];obtain j|a|g|h3|k|l:=Rc f;have m:Õ7:=by simp[ÉB]
 rw[m]at a k l;have hn:=U1;exact tail_any (ÉC s z t) slot_str_getitem.lookup (getItem_str (c:=c) (by have n:decide (i < -(2 ^ 63:Int))=false:=Çf;have o:decide (i>=2 ^ 63)=false:=Çf;rw[n,o,Bool.or_false]) (by rw[a];simpa using g) #[gr,ź,q]) e
theorem ZmB(its:å)(n j:Nat)(u:aa):ÅF (·.setIfInBounds j u) { cls:=.type "list",Ó:=.seq İ n }={ cls:=.type "list",Ó:=.seq (its.set j u).toArray n }:=by simp[ÅF]
theorem Inv.lst{a:Ć}{b:St}{H:Hp}{s:aj}{p:ae}{xs:Ė}(I:È7)(h:H p=U ÀE) :
  X2 λ(its:À aa) (n:Nat)=>ZG xs its/\é p=U { cls:=.type "list",Ó:=.seq İ n }/\ã<=aq:=by
 obtain z|its|n|r|e:=ê p _ h;exact(its,n,r,e,z)
theorem Inv.lstUpd{c:Ć}{d:St}{H:Hp}{s:aj}{p:ae}{xs ys:Ė}{its its':å}{n a:Nat}{f:aN->aN}(I:Ë5)(h:H p=U ÀE)
  (i:é p=U { cls:=.type "list",Ó:=.seq İ n }) (g:f { cls:=.type "list",Ó:=.seq İ n }={ cls:=.type "list",Ó:=.seq ÐQ a }) (r:ZG ys its') (hz:ĥ<=aq) (t:Nat) :
  Inv X c d #[tz,p] { s with Õ:=Ät p f,î:=t }:=by
 have e:(Ät p f).get? p=U { cls:=.type "list",Ó:=.seq ÐQ a }:=by rw[Q5 f i (by rw[g]<;>rfl),g]
 refine ÅC (x:=p) (e:=p) (by rw[h];trivial) Ğ (λb u j q=>(Qah _ _ (À7 j)).trans q) (_,e) ?_;exact(hz,its',a,r,e)
def Zwe:V->V->V->Hp->(Hp->Prop)->Prop:=λo i v H Q=>X4 λp xs k j=>o=.ref p/\i=.int k/\H p=U ÀE/\ixN ã k=U j/\Q (upd H p (.lst (xs.set j v)))
theorem LF:Rr X Zwe:=by
 intro w s x H o i v ov iv u Q I y z A h;obtain p|B|k|j|rfl|rfl|e|C|q:=h;cases y;rw[tj,z];obtain its|n|r|b|D:=I.lst e;obtain a|h2|f|g:=LI C;have c:=ÁA;have hn:=U1;have l:Inv X w x (upd H p (.lst (B.set j v))) { s with Õ:=Ät p (ÅF (·.setIfInBounds j u)) } :=
  I.lstUpd e b (ZmB its n j u) (r.set A j) #[ei,List.length_set,D] ń
 by_cases m:0<=k
 ·have d:Ãy=j:=by rw[ÐO m g]at a;exact Qw a
  exact PySem.W.ki_setAt b m Á (by rw[QC,<- c];exact g) Õ8
 ·have d:(k+(ÅE:Int)).toNat=j:=by rw[ÐP Á f]at a;rw[QC,<- c];exact Qw a
  exact PySem.W.ki_setBack b Á (by rw[QC,<- c];exact f) Á Õ8
theorem ZjW(lo a:Ź)(n:Nat):#[yL].1=((Ε n 0 lo:Nat):Int)/\#[yL].2.1=((Ε n n a:Nat):Int)/\#[yL].2.2=1:=by
 refine(?_,?_,rfl)
 ·cases lo with
  | none=>simp[dJ,Ε]
  | some i =>
   rw[ko];by_cases h:i<0
   ·simp only[h,Çg]<;>lia
   ·simp only[h,ÅG]<;>lia
 ·cases a with
  | none=>simp[dJ,Ε]
  | some i =>
   rw[ko];by_cases h:i<0
   ·simp only[h,Çg]<;>lia
   ·simp only[h,ÅG]<;>lia
theorem Zir(its:å)(lo a:Ź):slicePick İ lo a af=((its.drop (Ε ÉD 0 lo)).take #[rU,ÉD,a]).toArray:=by obtain b|c|d:=ZjW lo a ÅE;unfold slicePick;rw[b,c,d];simp only[sliceRange_one,pick_run,ËH]<;>rfl
inductive RSl (K:Å) (x:V) (lo hi:Ź) (H:Hp) (B:ae->Hp->Prop):Prop where
 | mk (a:ae) (xs:À V) (e:x=.ref a) (s:SqL K H a xs) (q:∀p,H p=af->B p (upd H p (.lst (Yg xs lo hi))))
def LD(K:Å):V->Ã Int->Ã Int->Hp->VK->Prop:=λx lo a H Q=>RSl K x lo a H λp b=>Q Ū b
theorem Zs4:SlR X (LD X.K):=by intro ai s σ H x v vl vu lo d sl Q I f g i j h;obtain a|c|rfl|k|q:=h;cases f;obtain its|r|e|l:=Á5 k;have m:=ÁA;refine("list",_,Õ6,e.isList.typeIs,?_);refine wpAny_getItem_list_slice e.isList g i j .none Ö ?_ (by rw[QC]<;>lia);rw[Zir,<- m];refine(.ref Ð,_,ÀY (t':=ř) (o:=.lst (Yg c lo d)) #[ii,b,ob,q] ç ?_,rfl,q _ Ãw);exact(Qk (Zlj c lo d) l,_,0,(r.drop (Ε Ĥ 0 lo)).take #[rU,Ĥ,d],Qt _ rfl)
def Xc:V->Ï
 | .non=>true
 | .bl _=>true
 | .int _=>true
 | .str _=>true
 | _=>false
def eqV:V->V->Ï
 | .non,.non=>true
 | .bl a,.bl b=>a == b
 | .bl a,.int b=>(if a then 1 else 0) == b
 | .int a,.bl b=>a == (if b then 1 else 0)
 | .int a,.int b=>a == b
 | .str a,.str b=>a == b
 | _,_=>false
theorem Zu6{A:aD}{s:aj}{y x:V}{u v:aa}(e:ZE y u)(c:ZE x v)(g:Xc y=true)(f:Xc x=true):ÐR A s u v (eqV y x):=by
 cases y with
 | non =>
  cases e;cases x with
  | non=>cases c;exact SeqAt.EqAt.same _
  | bl b=>cases c;exact SeqAt.EqAt.none_bool b
  | int b=>obtain t|rfl:=c;exact SeqAt.EqAt.none_int b t
  | str b=>obtain t|rfl:=c;exact SeqAt.EqAt.none_str b t
  | _=>exact ÉE
 | bl a =>
  cases e;cases x with
  | non=>cases c;exact SeqAt.EqAt.bool_none a
  | bl b=>cases c;exact SeqAt.EqAt.bool_bool a b
  | int b=>obtain t|rfl:=c;exact SeqAt.EqAt.bool_int a b t
  | str b=>obtain t|rfl:=c;exact SeqAt.EqAt.bool_str a b t
  | _=>exact ÉE
 | int a =>
  rw[eN,d,e];cases x with
  | non=>cases c;exact SeqAt.EqAt.int_none a d
  | bl b=>cases c;exact SeqAt.EqAt.int_bool a d b
  | int b=>obtain t|rfl:=c;exact Õ9 a d b t
  | str b=>obtain t|rfl:=c;exact ÔV a d b t
  | _=>exact ÉE
 | str a =>
  rw[eN,d,e];cases x with
  | non=>cases c;exact SeqAt.EqAt.str_none a d
  | bl b=>cases c;exact SeqAt.EqAt.str_bool a d b
  | int b=>obtain t|rfl:=c;exact ÔW a d b t
  | str b=>obtain t|rfl:=c;exact Öa a d b t
  | _=>exact ÉE
 | _=>exact Ê (show false=true from g) Qu
def eqU(x:V)(u:aa):Ï:=match u with
 | .none=>eqV .non x
 | .bool b=>eqV (.bl b) x
 | .int i _=>eqV Åt x
 | .str z _=>eqV (.str z) x
 | _=>false
theorem LC{x y:V}{u:aa}(r:ZE y u)(f:Xc y=true):eqU x u=eqV y x:=by
 cases y with
 | non=>cases r;rfl
 | bl b=>cases r;rfl
 | int i=>obtain t|rfl:=r;rfl
 | str z=>obtain t|rfl:=r;rfl
 | _=>exact ÉE
theorem P9{x:V}:∀ {xs:À V} {us:À aa},ZG xs us->xs.all Xc=true->us.any (eqU x)=xs.any λy=>eqV y x
 | _,_,.nil,_=>rfl
 | y::xs,u::us,.cons r t,f=>by rw[ÐS,Q3]at f;rw[Qa3,Qa3,LC r f.1,P9 t f.2]
theorem P8{A:aD}{s:aj}{x:V}{v:aa}(a:ZE x v)(b:Xc x=true):∀ {xs:À V} {us:À aa},ZG xs us->xs.all Xc=true->∀u∈us,ÐR A s u v (eqU x u)
 | _,_,.nil,_=>λu hu=>by cases hu
 | y::xs,u::us,.cons r t,f=>λc hu=>by
  rw[ÐS,Q3]at f;rcases Ĳ hu with rfl|hu
  ·rw[LC r f.1];exact Zu6 r a f.1 b
  ·exact P8 a b t f.2 c hu
def inV(x:V)(xs:Ė):Ï:=xs.any λy=>eqV y x
def rIn(K:Å)(a:Ï):R2:=λx y H Q=>X2 λp xs=>y=.ref p/\#[hF,K,xs]/\Xc x=true/\xs.all Xc=true/\Q (.bl (if a then !inV x xs else inV x xs)) H
theorem Zov:OpR X (aQ .In) (rIn X.K false):=by
 rw[hN,b,d];rw[tf,p,xs,hq,c,fs];cases d;rcases hq with hq|hq
 ·rw[fS,r,a,e,hq];refine SeqAt.in_listAt (eqU x) a.isList Öb (.bl _,H,I,rfl,?_);rw[kc]
 ·rw[s5,r,a,e,hq];refine SeqAt.in_tupleAt (eqU x) a Öb (.bl _,H,I,rfl,?_);rw[kc]
theorem ZjJ:YZ X Çh (λxs H Q=>X2 λp ys=>xs=Ν/\#[hF,X.K,ys]/\Q (.int ĥ) H):=by
 rw[aa];rw[tg,p,ys,hq];rw[eU,d];have hn:=U1;rcases hq with hq|hq
 ·rw[fS,a,b,e,hq];have c:=ľ;exact Calls.call_len_list b.isList Ìw (.int ĥ,H,š _,Öc,q)
 ·rw[s5,a,b,e,hq];have c:=ľ;exact len_tuple b Ìw (.int ĥ,H,š _,Öc,q)
theorem WK:YZ X Çh (λxs H Q=>∃z,xs=[.str z]/\Ľ<=aq/\Q (.int Ľ) H):=by intro ai s σ H xs us Q I r h;obtain z|rfl|hz|q:=h;obtain u|rfl|t|rfl:=X1 r;have hn:=U1;exact len_str Á (.int Ľ,H,š _,ü,q)
theorem ZjT:YZ X ÂK (λxs H Q=>X2 λp ys=>xs=Ν/\#[hF,X.K,ys]/\∀l,H l=af->Q ć #[tz,l]):=by
 rw[hE,w,x,xs];rw[tg,p,ys,hq];rw[eU,y];have f:∀ (its:À aa),ZG ys its->ĥ<=aq->∀ (a:aI) (c:Nat),#[fF,v,é,ÅH] ->
   ÅH Ð=U { cls:=.type "list",ο:=af,Ó:=.seq İ c,Á1:=#[] }->EP X w x Q Åz { s with Õ:=a }:=λits d g a c i e =>
  (.ref Ð,_,ÀY (t':=ř) i ç (show Z8 ö X.w _ a _ ÁE from(g,its,c,d,e)),rfl,q _ Ãw)
 rcases hq with hq|hq
 ·rw[fS,d,j,g,hq];have z:=μ;obtain o|k|m|n|t:=j.isList;exact call_list_seq p Ğ k m t Öd Ìw
 ·rw[s5,d,j,g,hq];have z:=μ;obtain o|k|m|n|t:=j;exact call_list_seq p Ãz k m t Öd Ìw
def tyV(K:Å)(T:ŋ)(x:V)(H:Hp):Prop:=match x with
 | .str _=>T = "str"
 | .int _=>T = "int"
 | .ref p=>(T = "list"/\∃b,SqL K H p b)\/(T = "tuple"/\∃o,Ļ p=U o/\Ãp=.type "tuple"/\o.dict=af) \/
   (T = "dict"/\((∃a,H p=U (.dK a))\/∃a,H p=U (.dT a)))\/(T = "set"/\X2 λS n=>H p=U (.set S n))
 | _=>ė
theorem LB{j:Ć}{k:St}{H:Hp}{s:aj}{T:ŋ}{x:V}{v:aa}(I:Inv X j k H s)(r:ZE x v)(ty:tyV X.K T x H) :
  Çd v T/\∀a,v=.ref a->∃ob,é a=U ob/\ob.dict=af:=by
 cases x with
 | str z=>obtain t|rfl:=r;cases (show T = "str" from ty);exact(ÉC s z t,λ_ e=>nomatch e)
 | int i=>obtain t|rfl:=r;cases (show T = "int" from ty);exact(typeIs_int s i t,λ_ e=>nomatch e)
 | ref p =>
  cases r;rcases ty with⟨rfl,xs,l⟩|⟨rfl,o,b,m,d⟩|⟨rfl,b⟩|⟨rfl,S,n,b⟩
  ·obtain its|_|h|_:=Á5 l;refine(h.isList.typeIs,λa e=>?_);cases e;obtain o|n|e|c|d|_:=h;exact(o,e,d)
  ·refine((o,Ġ p o b,m),λa e=>?_);cases e;exact(o,Ġ _ o b,d)
  ·have z:∃o,é p=U o/\o.ExactDict:=by
    rcases b with⟨f,b⟩|⟨f,b⟩
    ·rw[lv]
    ·rw[lv]
   rw[hD,o,e,ex,z];rw[kX]
  ·obtain o|_|_|_|e|ex|_:=ê p _ b;rw[kX]
 | _=>exact Ãq ty
def Zw0(K:Å)(T:ŋ)(r:Ìv)(to:TE):TE:=λb H Q=>to b H λx a=>tyV K T x a/\r x [] a Q
def tBM(K:Å)(T:ŋ)(r:Ìv)(to:TE)(t:TA):TE:=λa H Q=>to a H λx b=>tyV K T x b/\t a b λxs c=>r x xs c Q
variable {o e:aK} {es:À aK} {to:TE} {t:TA} {name:ak} {bv br:Pos} {T id:ŋ} {r:V->À V->Hp->VK->Prop}
theorem ZuK(e:PlainAttrs T)(slot:Slot T name id)(f:Öe)(hm:MtR X id r)(g:PE X o to)
  (i:Öf:=by rfl) (j:Ìx=true:=by rfl):PE X (.Call (.Attribute o name bv) [] [] br) (Zw0 X.K T r to):=by
 rw[e3,a,b,Q];refine dZ i j #[es,g,a,b];rintro v k ⟨x,l,c,d,ty,m⟩;obtain n|p:=LB c d ty;exact(T,id,e,slot,f,n,p,ÉF rfl (Ög (hm a k b l x [] v [] Q c d .nil m)))
theorem YN(g:PlainAttrs T)(slot:Slot T name id)(i:Öe)(hm:MtR X id r)(j:PE X o to)(ha:Àk)
  (k:Öf:=by rfl)
  (l:((bo br Éx).all (λx=>!x.1)&&#[lY].all ÐT
   && decide ((e::es).length+#[uM].length+ÐU<30))=true:=by rfl)
  (m:Ìx=true:=by rfl) (n:θ:=by rfl) (p:Ìy:=by rfl) :
  PE X (.Call (.Attribute o name bv) (e::es) [] br) (tBM X.K T r to t):=by
 rw[e3,a,b,Q];refine wpAny_Call_method_late k l m rfl #[es,j,a,b];rintro v q ⟨x,u,c,d,ty,w⟩;obtain y|z:=LB c d ty;refine(T,id,g,slot,i,y,z,?_);have f:=ha br a q b u _ c w;rw[n]at f ⊢;refine ÉF (by show (false||(bo br (aG es Ì)).any ó)=false;rw[p]<;>rfl) (ÐV ?_);exact thn f λA B ⟨C,D,E,F,G⟩=>hm a B b D x C v A Q E d F G
universe E
def MtM(X:Cx)(id:ŋ)(r:Ìv):Prop :=
 ∀ (a:À (ae×aN)) (s:aj) (b:St) (H:Hp) (x:V) (c:À V) (v:aa) (d:À aa) (Q:VK),Inv X a b H s->ZE x v->ZG c d->r x c H Q ->
  ô (Ĵ #[fo,id] (v::d)) Ã8 è s
theorem ZG.one:∀ {x:V} {us:À aa},ZG [x] us->∃u,us=[u]/\ZE x u
 | _,_,.cons r .nil=>(_,rfl,r)
theorem ZG.two:∀ {x y:V} {us:À aa},ZG [x,y] us->X2 λu v=>us=[u,v]/\ZE x u/\ZE y v
 | _,_,_,.cons r (.cons q .nil)=>(_,_,rfl,r,q)
theorem ZG.zero:∀ {us:À aa},ZG [] us->us=[]
 | _,.nil=>rfl
theorem ZG.reverse{xs:Ė}{us:å}(h:ZG xs us):ZG xs.reverse us.reverse:=by
 induction h with
 | nil=>exact .nil
 | Î r t a=>rw[QaV,QaV];exact ÏE a (.cons r .nil)
section
variable {X:Cx} {ai:À (ae×aN)} {σ:St} {H:Hp} {s:aj} {l b:ae} {xs ys zs:À V}
theorem Inv.lset{its its':å}{n:Nat}{f:ā aa->ā aa}{t':Nat}(I:ä)(a:H l=U ÀE)
  (e:é l=U { cls:=.type "list",Ó:=.seq İ n }) (b:f İ=ÐQ) (c:ZG ys its') (hz:ĥ<=aq) :
  Inv X ai σ #[tz,l] { s with Õ:=Ät l (ÅF f),î:=t' }:=by
 have q:=PySem.IsL.update e f;rw[b]at q;refine ÅC (x:=l) (e:=l) (by rw[a];exact trivial) Ğ (λb' u d g=>(Qah Ë (ÅF f) (À7 d)).trans g) (_,q) ?_;exact(hz,its',_,c,q)
theorem Inv.lnew{its:å}{t':Nat}(I:ä)(a:ZG ys its)(hz:ĥ<=aq) :
  Inv X ai σ #[tz,Ð] { s with Õ:=Àf { cls:=.type "list",Ó:=.seq İ },î:=t' } :=
 ÀY ÉG ç (hz,its,0,a,Qt _ rfl)
theorem Inv.fresh(I:ä):H Ð=af:=ÐW
theorem Inv.lstM(I:ä)(a:H l=U ÀE):ã<=aq/\X2 λ(its:À aa) (n:Nat)=>ZG xs its/\ã=ÉD/\é l=U { cls:=.type "list",Ó:=.seq İ n }:=by obtain z|its|n|r|e:=ê l _ a;exact(z,its,n,r,ÁA,e)
universe E
section
variable {X:Cx}
inductive RAp (x:V) (vs:Ė) (H:Hp) (B:Hp->Prop):Prop where
 | mk (l:ae) (xs:À V) (y:V) (a:x=.ref l) (b:vs=[y]) (c:H l=U (.lst xs)) (d:ã<aq) (q:B (upd H l (.lst (xs++[y]))))
def Zs2:V->À V->Hp->VK->Prop:=λx vs H Q=>RAp x vs H λa=>Q .non a
theorem Z3:MtM X "list.append" Zs2:=by intro ai s σ H x vs v us Q I b c h;obtain l|xs|y|rfl|rfl|a|hz|q:=h;cases b;obtain u|rfl|d:=c.one;obtain z|its|n|r|hl|e:=I.lstM a;refine Çi F.slot_list_append (_,e,rfl) F.entry_list_append (F.args_list_append_2 _ _) (PySem.list_append l İ n u #[fL,QC]) (e,?_);refine(.non,_,I.lset (its':=its++[u]) a e Ö (Ìl (.cons d .nil)) ?_,rfl,q);rw[Qi,QK];lia
def Zpm:V->À V->Hp->VK->Prop:=λx vs H Q=>X2 λl xs=>x=.ref l/\vs=[]/\H l=U ÀE/\Q .non (upd H l (.lst xs.reverse))
theorem ZlV:MtM X "list.reverse" Zpm:=by intro ai s σ H x vs v us Q I b c h;obtain l|xs|rfl|rfl|a|q:=h;cases b;have d:=c.zero;subst d;obtain z|its|n|r|hl|e:=I.lstM a;refine Çi F.slot_list_reverse (_,e,rfl) F.entry_list_reverse (F.args_list_reverse_1 _) (AutoSeq1.list_reverse_list_0 l İ n #[fL,QC]) (e,?_);refine(.non,_,I.lset (its':=its.reverse) a e Ö r.reverse ?_,rfl,q);rw[List.length_reverse];lia
def Zw4:R2:=λx y H Q=>X4 λl b xs zs=>x=.ref l/\y=.ref b/\H l=U ÀE/\H b=U Ż/\ã+zs.length<=aq/\∀p,H p=af->Q Ū (upd H p (.lst (xs++zs)))
theorem Wi:OpR X Ðg Zw4:=by
 rw[hN,c,d];obtain l|b|xs|zs|rfl|rfl|f|g|hz|q:=h;cases c;cases d;obtain z|its|n|r|hl|e:=I.lstM f;obtain z2|a|n2|i|bN|j:=I.lstM g;refine PySem.P.add_list e j ?_ #[sk,QC,QC];have k:İ++a.toArray=(its++a).toArray:=by simp
 rw[k];exact(.ref _,_,I.lnew (t':=ř) (Ìl i) #[fL,Qi],rfl,q _ ÉH)
universe E
universe E.L2
namespace Att
open PySem PySem.W PySem.Calls PyProof.Rows
theorem ZgZ{P:Params}{h:aI}:∀ (ns:À Int) (vs:À aa),WellAll P h vs (ÃA WData.int)->Çc vs ns:=by
 intro ns;induction ns with
 | nil=>intro vs w;rw[rR,QaZ,w];exact .nil
 | Î n ns c =>
  intro vs w;rw[Qj]at w;cases w with
  | Î a b=>cases a;exact .cons _ _ (c _ b)
theorem Zo4{l:OpenLaw}{n:Nat}(i:l.most=U n){P:Params}{h:aI}{args:À WData}{e:å}
  (f:l.row.toRowW.claim.pre args=true) (j:WellAll P h e args) :
  X3 λa vs ns=>e=[á a]/\args=[WData.list (ÃA WData.int)]/\ß a=U { cls:=.type "list",Ó:=.seq Ác }/\Çc vs ns/\Ĉ<=n:=by
 have k:WShape.hasAll [] args [.list .int]=true:=(pre_splitW f).1;have g:l.pre.holds [] { args:=args }=true:=(pre_splitW f).2;obtain d|r|rfl|m|o:=hasAllW_cons k;obtain rfl:=hasAllW_nil o;obtain xs|rfl|p:=hasW_list m;obtain ns|rfl:=items_int p;have s:Ĉ<=n:=by
  unfold OpenLaw.pre at g;have b:(WTm.not (.lt (.lit #[hG,n]) (.len (.arg 0)))).holds [] { args:=[.list (ÃA .int)] }=true:=by have b:=(holds_andW g).1;rw[i]at b;exact b
  have c:=condW_of b (w_not (w_lt w_lit (w_len_list (w_arg rfl))));rw[Qa]at c;refine Öh λq=>?_;have t:(n:Int)<#[hV,Ĉ]:=by lia
  first
   | (rw[ě t]at c;exact Ê c É)
   | (simp at c;lia)
 cases j with
 | Î u v =>
  cases v;cases u with
  | list w x=>exact(_,_,ns,rfl,rfl,w,ZgZ ns _ x,s)
theorem Zon(l:OpenLaw)(args:À WData):l.row.toRowW.claim.post args ÉI args=true :=
 postW_of (r:=Ìz) (X:=(true == true))
  (show WShape.has [] ÉI .bool=true by first|rfl|decide|simp[WShape.has,WShape.arms,WShape.armsAll])
  (show (WTm.eq .res (.lit ÉI)).value [] { args:=args,res:=U ÉI,after:=args }=U (.bool (true == true)) from w_eq_bool (w_res rfl) w_lit) rfl
theorem attach_call{l:OpenLaw}{n:Nat}{q:ay}{j:Ñ}{k:ÐX}{m:aF->aI->Prop}{d:DefRec}
  (s:l.most=U n) (t:ÐY)
  (Ĵ:∀ (w:aF) (ÀU b:aj) (mg g:ak->Ã aa) (fa:ae) (o:aN) (h c i:aa) (a:ae) (vs:À aa) (ns:À Int),
   Ground q j [] k w ÀU mg g b.heap->m w b.heap ->
   b.heap.get? fa=U o->ų=.func (docDef ÉJ d.params d.body d.scope h c i)->b.heap.CodeRec c ÉJ->mg ÉJ=U (.ref fa) ->
   b.heap.get? a=U { cls:=.type "list",Ó:=.seq Ác }->Çc vs ns->Ĉ<=n->b.gens = #[] ->
   bL (ax l.prog w) ÅI ÐZ (λr e=>r=.ok (.ret ÉI)/\OldK b.heap e.heap/\e.os=b.os/\Ãn e.gens) b) :
  WalkO q j k m Ìz d [] Ð0:=by
 intro w ÀU b mg g G Y fa o h c i u kV v x y p hmg z args vf as A hlay o7 B kB;obtain rfl:u=.none:=Dflts.none p t;obtain rfl:kV=.none:=Dflts.noKw p;obtain a|vs|ns|rfl|rfl|C|D|E:=Zo4 s A B;refine enter_call (Æ5 (Ĵ w ÀU b mg g fa o h c i a vs ns G Y v (fd_plain x) y hmg C D E z) λr e F=>?_);obtain rfl|H|I|J:=F;exact(.inl (.bool true,.bool true,[],rfl,λ_=>rfl,.bool true,Zon l _,λ_=>(List.Pairwise.nil,λ_ K=>(nomatch K))),H,I,J)
universe E.Att
namespace L2
open PySem PySem.Spec PyProof.Rows
theorem LA:∀ {vs:À aa} {ns:À Int},Çc vs ns->ZG ξ vs
 | _,_,.nil=>.nil
 | _,_,.cons n t h=>.cons ÉK (LA h)
def P7(H:Hp):Prop:=∀b,H b=af\/X2 λo xs=>H b=U (.frz o ÀE)
theorem Zq4{P:ay}{w:aF}{K:Å}{mg A:Ā}{CX:CXT}{k:Nat}{fa a:ae}{D:bA}{x:ak}{sp:Sp}{c:aj}{vs:å}{ns:Ø}
  (KX:Ŵ ÆT) (E:Ð1 aL mg) (hb:Ð1 ÏM A) (Q:∀x:ak,x ≠ "__name__"->A x=c9 x) (R:c.heap.NoLimit) (S:c.gens = #[])
  (ha:Ð2 a=U { cls:=.type "list",Ó:=.seq Ác }) (G:Çc vs ns) (hl:Ìd) (hr:Zt k ÅI)
  (F:∀f:aI,Ŵ f->f.Ns aL mg->YY P w K mg f CX k fa D [x] sp) (T:∀ (s:aj) (u:aa),Æ2 s D ([u],[]) [(x,u,)])
  (W:∀H:Hp,P7 H->SqL K H a ξ->sp η H (λv _=>v=.bl true) λ_ _ _=>ė)
  (X:∀H e g,CX [] H c ÌA e g->ė) :
  bL Ã9 ÅI ÐZ Öi c:=by
 have I:=LA G;have Y:=G.length;have core:∀H:Hp,P7 H->SqL K H a ξ->HOk P w H ÆT->(∀b,H b≠af->b=a)->(H a≠af->Ļ a=af) ->
   bL Ã9 ÅI ÐZ Öi c:=by
  intro H J Z i L hK;have M:∀ {b:ae} {o:aN},Ð2 b=U o->H b=af->(Ð4).get? b=U o:=λe n=>ZqC e n;have vd:∀ {b:ae} {o:aN} {j:ā Ð3} {l:Nat},Ð2 b=U o->ų=.dict j l->H b=af:=λ{b o j l} e d=>by
   cases q:H b with
   | none=>rfl
   | some u=>have B:b=a:=L b #[sS,q];subst B;rw[rR,ha,e];have d':Data.seq Ác _=Data.dict j l:=d;cases d'
  have y:∀ {b:ae} {m:ak->Ã aa},Ð1 b m->(Ð4).Ns b m:=λ{b m} ⟨o,j,l,e,d,r⟩=>(o,j,l,M e (vd e d),d,r);have N:Ŵ Ð4:=λb o e=>M (KX b o e) (by
   cases q:H b with
   | none=>rfl
   | some u=>have B:b=a:=L b #[sS,q];subst B;rw[hK #[sS,q]]at e;cases e)
  have hM:Mod K mg Ð4:=(N,y E,(A,y hb,Q),let ⟨mc,h1,h2⟩:=R;(mc,y h1,h2));have e0:Vz P w K mg Ð4 ÅI [] c H:=(rfl,hM,λb o e=>ZsH e,Ìg (ZnX _ _),trivial,λb hb=>Ê #[su,hb] Ö,i,.of_eq S);refine Æ5 ((F _ N (y E)).run ÅI [] c H ([.ref a],[]) η η _ _ hr e0 (T c ĩ) ÐH (W H J Z)) λr g h=>?_;cases r with
  | error e=>exact(X H e g h).elim
  | ok fl =>
   cases fl with
   | next=>exact Ãq h
   | brk=>exact Ãq h
   | Μ=>exact Ãq h
   | ret u =>
    obtain v|H'|os|p|un|Ek|r'|q:=h;have q':v=.bl true:=q;subst q';obtain rfl:u=Åm true:=r';refine(rfl,OldK.of_keep λb o e=>?_,os,p);cases q:H b with
    | none=>exact un.keep b o e q (by intro z;exact Ê #[su,z] Ö) Ö
    | some u =>
     rcases J b with z|⟨ob,xs,z⟩
     ·rw[fX,q,z,z]
     ·have z2:=un.frzs b ob _ z;obtain O|_:=i b _ z;obtain e2|_:=Ek b _ z2;rw[fX,e,O,O];exact e2
 cases C:Ļ a with
 | some o=>have e:=KX a o C;rw[rR,ha,e];refine core (λ_=>af) (λ_=>.inl rfl) (.inr (_,Ác,_,C,rfl,rfl,rfl,by rw[QC,Y];exact hl,by simpa using I)) (λb u z=>by have t:(af:Ã HO)=U u:=z;cases t) (λb z=>Ê rfl z) λz=>Ê rfl z
 | none =>
  refine core (λb=>if b=a then U (.frz { cls:=.type "list",Ó:=.seq Ác } (.lst ξ)) else af) (λb=>?_) (.inl (.inr ({ cls:=.type "list",Ó:=.seq Ác },Æ rfl))) #[hU,b,u,z] (λb z=>?_) λ_=>C
  ·by_cases hb:b=a
   ·exact .inr (_,_,Æ hb)
   ·exact .inl (Ç hb)
  ·by_cases hb:b=a
   ·have t:=(Æ hb).symm.trans z;cases t;subst hb;exact(ha,by rw[Qa];exact hl,vs,_,I,ha)
   ·have t:=(Ç hb).symm.trans z;cases t
  ·by_cases hb:b=a
   ·exact hb
   ·exact Ê (Ç hb) z
theorem walk_of{l:Ð5}{n k:Nat}{q:ay}{i:Ñ}{j:ÐX}{c:aF->aI->Prop}{d:DefRec}{K:Params->Å}{CX:aF->CXT}{sp:aF->Sp}{x:ak}
  (m:l.most=U n) (p:n<=aq) (r:ÐY) (hr:Zt k ÅI)
  (t:∀ (w:aF) (h:aI),c w h->(ÉL).In h)
  (F:∀ (w:aF) (mg:ak->Ã aa) (fa:ae) (h:aI),(ÉL).In h->h.Ns aL mg->mg ÉJ=U (.ref fa) ->
   ∃b:bA,#[ht,u,b,x] /\
    ∀Â:aI,(ÉL).In Â->ÈV aL mg->YY l.prog w ÉL mg Â (CX w) k fa b [x] (sp w))
  (y:∀ (w:aF) (H:Hp) (a:ae) (ns:À Int),Ĉ<=n->P7 H->SqL ÉL H a ξ->sp w η H (λv _=>v=.bl true) λ_ _ _=>ė)
  (z:∀ (w:aF) (H:Hp) (s:aj) (e:aa) (s':aj),CX w [] H s ÌA e s'->ė) :
  PySem.W.WalkO q i j c Ìz d [] Ð0:=by
 refine Att.attach_call m r λw ÀU A mg mb fa o pm cd fF a vs ns G Y ho hd gy hmg B C g D=>?_;have KX:=t w _ Y;obtain b|E|I:=F w mg fa _ KX G.T.g hmg;exact Zq4 KX G.T.g G.T.b G.T.builtins G.T.nolimit D B C (Qk g p) hr I E (λH J L=>y w H a ns g J L) λH e s'=>z w H A e s'
def Ym(s:aM)(j:Nat):aM:=match s with
 | .ClassDef _ _ _ a _ _ _ _ _ _ _=>ÉM j (.Pass (0,0,0,0))
 | _=>.Pass (0,0,0,0)
def Wz(s:aM):Arguments:=match s with
 | .FunctionDef _ a _ _ _ _ _ _ _ _=>a
 | _=>{ posonlyargs:=[],args:=[],vararg:=af,kwonlyargs:=[],kw_defaults:=[],kwarg:=af,defaults:=[] }
def XY(s:aM):À aM:=match s with
 | .FunctionDef _ _ b _ _ _ _ _ _ _=>b
 | _=>[]
def Zg(s:aM):bh:=match s with
 | .FunctionDef _ _ _ _ _ _ a _ _ _=>a
 | _=>{ kind:=.function,Âb:=[],isGenerator:=false,isCoroutine:=false }
abbrev CX0:CXT:=λ_ _ _ _ _ _=>ė
abbrev E0:XK:=λ_ _ _=>ė
theorem Vy{X:Cx}:Wj CX0 X E0:=λ_ _ _ _ _ _ _ h=>Àl
structure Fun (K:Å) (x aY:ak) (st:aM) (f:ae) (fd:bA):Prop where
 ex:X9 λ(oc:aa) (od:Ã ae) (kV fF pm:aa) (an:Ã ae) (aP ct:aa) (mP:ā (Ã aa)) =>
  fd=ÅJ x aY (Wz st) ÂL (Zg st) .none kV fF pm an aP ct/\Ļ f=U (oc,od,.func fd,mP)/\Éz K aP aY=true
 kp:Áb K Ċ=true
section
variable {P:ay} {w:aF} {K:Å} {mg:ak->Ã aa} {Â:aI}
theorem Fun.ok{x b:ak}{st:aM}{f:ae}{c:bA}{N ps:Ñ}{k:Nat}{sp:Sp}(F:Fun K x b st f c)(S:Äu)(len:Ãx)
  (d:∀ (a:aa) (A:aD) (Ü:À Env) (s:aj) (H:Hp) (vs:À V) (Q:VK) (E:XK),Zt k #[fG,b]->sp vs H Q E ->
   ∃t,PSs (XH CX0 P w K mg Â N b (Zg st) f a A Ü s H E).nox ÂL t/\t { nx:=λ_ e=>Q .non e,rt:=Q } ÁD H):YY P w K mg Â CX0 (k+1) f c ps sp:=by
 rw[zH,fF,pm,an,a,g];refine LJ lk g S len λA Ü s H vs Q E i j=>?_;obtain t|h|q:=d a A Ü s H vs Q E i j;exact(t,h.nox,q)
theorem Fun.binds{x e:ak}{st:aM}{f:ae}{g:bA}{ps:Ñ}(F:Fun K x e st f g)
  (h:#[eu,a,c,d,e]):YB K g ps []:=by
 rw[zH,a,b,c,d,gy];exact .all (h kV a b c d ct)
theorem WJ{x a:ak}{st:aM}{f:ae}{h:aa}{i d:Ě}{j:Δ}{kV e g b ct:aa}(l:Ļ f=U (h,i,.func #[eL,a,e,g,d,b],j))
  (c:Éz K b a=true) (k:Áb K Ċ=true):Fun K x a st f #[eL,a,e,g,d,b]:=((h,i,kV,e,g,d,b,ct,j,rfl,l,c),k)
universe E
theorem UY{A:aD}{k:Nat}(hr:Zt k A):ÂI+1<ÂJ:=Qa5 (Nat.add_le_add_left (by decide:1<=64) _) ÌB
theorem Zs{n:Nat}(h:n<=1000):n<aq:=Qa5 h É
section
variable {X:Cx}
theorem pv(i:Nat){x:ak}{pos:Pos}(a:ÂE:=by rfl)(b:#[ih,Vis]:=by first|exact Or.inl rfl|exact ÉN à|exact ÉN ÂM)(hd:Ĩ:=by decide)
  (c:ËY:=by decide):PE X ÀW (S9 i):=Rs a b hd c
universe E
theorem Y8{A B:Prop}(h:B):if false=true then A else B:=by rw[Ç Qu];exact h
theorem YM{A B:Prop}(h:A):if true=true then A else B:=by rw[Æ rfl];exact h
theorem Y1{c A B:Prop}[ÉO c](h1:c->A)(h2:¬ c->B):if c then A else B:=by
 by_cases h:c
 ·rw[Æ h];exact h1 h
 ·rw[zE,h];exact h2 h
theorem UX{c A B:Prop}[ÉO c](hc:c)(h:B):if (!decide c)=true then A else B:=by rw[ě hc];exact Y8 h
def ZB(H a:Hp):Prop:=#[e7,o,H,o,a]
theorem Çj(H:Hp):ZB H H:=λ_ _ h=>h
theorem ZB.trans{H d e:Hp}(a:ZB H d)(b:ZB d e):ZB H e:=λc o h=>b c o (a c o h)
theorem ZB.free{H a:Hp}(e:ZB H a){l:ae}(h:a l=Option.none):H l=Option.none:=by
 cases q:H l with
 | none=>rfl
 | some o=>rw[e l o q]at h;cases h
theorem ZB.seq{K:Å}{H b:Hp}{a:ae}{xs:Ė}(e:ZB H b)(h:SqL K H a xs):SqL K b a xs:=by
 rcases h with(h|⟨o,h⟩)|h
 ·exact .inl (.inl (e _ _ h))
 ·exact .inl (.inr (o,e _ _ h))
 ·exact .inr h
def Y5(b:#[hJ,ae]):À (ak×aV)->À (ak×ae)->À (ak×ae)
 | [],a=>a
 | (n,k,)::r,a=>if k == .free then Y5 b r ((n,(b.lookup n).getD 0,)::a) else Y5 b r a
theorem Lz{d:bh}{env:Env}(h:∀y∈ÉP,y.2=.free->∃c,ÏN y.1=U c) :
  Ð6 d env=pure (Y5 ÅK ÉP []):=by
 have go:∀ (a:À (ak×aV)) (b:À (ak×ae)),(∀y∈a,y.2=.free->∃c,ÏN y.1=U c) ->
   (forIn a b λ(x:ak×aV) (r:À (ak×ae))=>if (x.2 == Äv)=true then (do let c <- cellOf env x.1;pure (ÌC ((x.1,c,)::r))) else pure (ÌC r):Sem (À (ak×ae)))=pure (Y5 ÅK a b):=by
  intro a;induction a with
  | nil=>intro b _;rfl
  | Î y r j =>
   intro b f;rw[ew,n,k,y];rw[Öj];cases e:(k == Äv) with
   | false =>
    have g:Y5 ÅK ((n,k,)::r) b=Y5 ÅK r b:=by show (if ÃB=true then _ else _)=_;rw[e];rfl
    rw[g,<- j b λz i=>f z (Qm _ i)];simp only[e,ÉQ,ÅG,pure_bind]
   | true =>
    have m:k=.free:=by simpa using e
    obtain c|l:=f (n,k,) Qal m;have g:Y5 ÅK ((n,k,)::r) b=Y5 ÅK r ((n,c,)::b):=by show (if ÃB=true then _ else _)=_;rw[e,l];rfl
    have o:cellOf env n=pure c:=by unfold cellOf;rw[l]
    rw[g,<- j ((n,c,)::b) λz i=>f z (Qm _ i)];simp only[e,Çg,o,pure_bind]
 have q:=go ÉP [] h;unfold Ð6;first
  | (rw[show (forIn ÉP ([]:À (ak×ae)) _:Sem (À (ak×ae)))=pure (Y5 ÅK ÉP []) from q];rfl)
  | (simp only[bind_pure];exact q)
  | exact q
theorem P6(a:#[hJ,ae]):∀ (Âb:À (ak×aV)) (b:À (ak×ae)) (x:ak) (c:ae),(Y5 a Âb b).lookup x=U c ->
  (∃y∈Âb,y.1=x/\y.2=.free/\c=(a.lookup x).getD 0)\/b.lookup x=U c
 | [],b,x,c,h=>.inr h
 | (n,k,)::r,b,x,c,h=>by
  by_cases hk:ÃB=true
  ·have e:Ök:=by show (if ÃB=true then _ else _)=_;rw[Æ hk]
   rw[e]at h;rcases P6 a r _ x c h with⟨y,d,q⟩|q
   ·exact .inl (y,Qm _ d,q)
   ·rw[QaF]at q;by_cases f:(x == n)=true
    ·rw[f]at q;have g:x=n:=by simpa using f
     subst g;exact .inl ((x,k,),Qal,rfl,by simpa using hk,(Qw q).symm)
    ·have g:Ð7:=by simpa using f
     rw[g]at q;exact .inr q
  ·have e:Öl:=by show (if ÃB=true then _ else _)=_;rw[zE,hk]
   rw[e]at h;rcases P6 a r _ x c h with⟨y,d,q⟩|q
   ·exact .inl (y,Qm _ d,q)
   ·exact .inr q
theorem P0(a:#[hJ,ae]):∀ (Âb:À (ak×aV)) (b:À (ak×ae)) (x:ak),((∃y∈Âb,y.1=x/\y.2=.free)\/∃c,b.lookup x=U c) ->
  ∃c,(Y5 a Âb b).lookup x=U c
 | [],b,x,h=>by
  rcases h with⟨y,hy,_⟩|h
  ·cases hy
  ·exact h
 | (n,k,)::r,b,x,h=>by
  by_cases hk:ÃB=true
  ·have e:Ök:=by show (if ÃB=true then _ else _)=_;rw[Æ hk]
   rw[e];refine P0 a r _ x ?_;by_cases d:(x == n)=true
   ·exact .inr (_,by rw[QaF,d])
   ·have f:Ð7:=by simpa using d
    rcases h with⟨y,hy,q⟩|⟨c,q⟩
    ·rcases Ĳ hy with rfl|hy
     ·exact Ê #[eg,q.1.symm] d
     ·exact .inl (y,hy,q)
    ·exact .inr (c,by rw[QaF,f];exact q)
  ·have e:Öl:=by show (if ÃB=true then _ else _)=_;rw[zE,hk]
   rw[e];refine P0 a r _ x ?_;rcases h with⟨y,hy,q⟩|h
   ·rcases Ĳ hy with rfl|hy
    ·exact Ê #[eg,q.2] hk
    ·exact .inl (y,hy,q)
   ·exact .inr h
structure ZV (N N':Ñ) (o c:bh):Prop where
 kind:c.kind=.function
 okind:o.kind=.function
 nocell:∀y∈ÂN,y.2≠.cell
 loc:∀y∈ÂN,y.2=.local->ū y.1=U .local
 Ι:∀y∈ÂN,y.2=.free->ū y.1=U .free/\Öm
 len:ģ<=ÌD
 same:∀i∈ÂO ģ,∀x∈N'[i]?,ū x=U .local\/ū x=U .free->ū x=U .free/\N[i]? = U x
 nd:N'.Nodup
def YG(X:Cx)(c:bh)(a:Ñ)(C:ae)(s:aj)(H:Hp)(fp:ŧ):Cx :=
 { X with N:=a,ÀU:=s,H₀:=H,env:=bM c (Y5 Ð8 ÂN []) C Ì,Ü:=Κ,stack:=Κ,ex:=fp,fn:=λ_=>false,pn:=[],xe:=λ_ _=>ė }
theorem Ly{env:Env}(c:Ð9=.function):∀ (Âb:À (ak×aV)) (x:ak),
  (names.map λ(p:ak×aV)=>if (p.2 == Äv&&Ð9 == .function&&ÆE p.1 == U .cell)=true then (p.1,ÌE,) else (p.1,p.2,)).lookup x =
   match names.lookup x with
   | some .free=>if ÆE x=U .cell then U .cell else U .free
   | k=>k
 | [],x=>rfl
 | (n,k,)::r,x=>by
  have ih:=Ly c r x;rw[Qj];by_cases f:(x == n)=true
  ·have a:x=n:=by simpa using f
   subst a;have d:Áa x ((x,k,)::r)=U k:=by rw[QaF];simp
   rw[d];by_cases e:k=.free
   ·subst e;by_cases b:ÆE x=U .cell
    ·simp[Æy,c,b]
    ·simp[Æy,c,b]
   ·have g:ÃB=false:=by simpa using e
    rw[g];simp only[Bool.false_and,ÉQ,ÅG,Æy,Ña];all_goals (cases k<;>first|rfl|exact Ê rfl e)
  ·have a:Ð7:=by simpa using f
   have d:Áa x ((n,k,)::r)=Áa x r:=by rw[QaF,a]
   rw[d,<- ih];by_cases b:(k == Äv&&Ð9 == .function&&ÆE n == U .cell)=true
   ·simp only[b,Çg,Æy,a]
   ·simp only[b,ÅG,Æy,a,ÉQ]
section
variable {X:Cx} {N N':À ak} {o c:bh}
theorem Ui(S:Àm)(a:Àn)(b:#[hJ,ae])(C:ae)(x:ak):(bM c b C Ì).kindOf x =
  match ū x with
  | some .free=>if ÂD x=U .cell then U .cell else U .free
  | k=>k:=Ly (env:=Ì) #[ei,a,S.okind] ÂN x
theorem SV{Âb:#[hJ,aV]}{x:ak}{k:aV}(h:names.lookup x=U k):(x,k,)∈Âb:=Qap h
theorem UW(S:Àm)(g:Àn)(ok:X.Ok){x:ak}{a:ae}(h:(Äw).lookup x=U a) :
  δ x=U a/\ū x=U .free:=by
 rcases P6 _ _ _ _ _ h with⟨y,i,rfl,j,e⟩|q
 ·have d:=S.free y i j;have k:#[te,ÂD,y.1]:=by show ÃC y.1=_\/ÃC y.1=_;rw[g];exact d.2
  obtain b|f:=ok.has y.1 k;rw[f]at e;exact(by rw[f,e];rfl,d.1)
 ·cases q
theorem Lx(S:Àm)(d:Àn)(ok:X.Ok){x:ak}(h:Ñb):∃a,(Äw).lookup x=U a/\δ x=U a:=by obtain a|b:=P0 Ð8 ÂN [] x (.inl ((x,.free,),SV h,rfl,rfl));exact(a,b,(UW S d ok b).1)
theorem ZrQ(S:Àm)(f:Àn){l:Ć}{n:St}{H:Hp}{s:aj}{fp:ŧ}(I:Inv X l n H s)
  (i:#[sd,l,H]) (ht:Ön):(ÜX).Ok where
 mod:=ËO
 kind:=Çb
 glob:=Ñc
 blt:=I.ok.blt
 above:=Qf _
 inj:=λx y a p r=>I.ok.inj x y a (UW S f ζ p).1 (UW S f ζ r).1
 has:=λx t=>by
  have e:=#[tA,f,Ð];have g:#[82].kindOf x=U .cell\/#[82].kindOf x=U .free:=t;rw[e]at g;cases q:ū x with
  | none=>rw[q]at g;rcases g with z|z<;>cases z
  | some k =>
   by_cases m:k=.free
   ·subst m;obtain a|u|_:=Lx S f ζ q;exact(a,u)
   ·rw[q]at g;have v:k=.cell:=by cases k<;>first|rfl|exact Ê rfl m|(rcases g with z|z<;>cases z)
    subst v;exact Öo
 cab:=λx a h=>by cases (show false=true from h)
 hd:=Áx
 frames:=Æ4
 stk:=Á4
 exf:=λb d=>(Qz (ht b d),λx a h=>(i b d).2.2.2.2.1 x a (UW S f ζ h).1)
 bs:=λb j e=>I.bs b j e
 bsz:=Qk È1 I.sz
 noex:=λb j e d=>by
  rcases(i b d).2.2.2.1 with z|z
  ·exact ÆF b j e z
  ·exact Ñd
 exfs:=λb d w=>by
  rcases Ĳ (I.stkSub b w) with z|z
  ·exact(i b d).2.1 z
  ·exact(i b d).2.2.1 z
 funs:=I.stack
 frf:=ÐD
theorem Lw(S:Àm)(t:X.N=N)(g:Àn){C:Ć}{f:St}{H:Hp}{s:aj}{fp:ŧ}{w:aI}{tk:Nat}{D:Ā}(I:Inv X C f H s)
  (F:#[sd,C,H]) (ht:Ön) (G:w.Ns Ð D) (hk:#[e7,ob,é,ob,w.get?]) :
  Inv ÜX [] #[r9,f,ÅL] H { s with Õ:=w,î:=tk } where
 ok:=ZrQ S g I F ht
 os:=rfl
 bare:=Λ
 Â:=ÈU hk
 loc:=by
  refine(D,G,λi x v J j K=>?_);rw[hD,m,hn,L,Š];have M:Ád=ģ:=by rw[ÀB,t]
  have y:i<Ád:=by
   by_cases y:i<Ád
   ·exact y
   ·rw[Q7 Á,ÕZ]at j;split at j<;>cases j
  have O:f[i]? = U (U v):=by rw[QT y]at j;exact j
  have E:=#[tA,g,Ð];have P:ū x=U .local\/ū x=U .free:=by
   have n:#[82].kindOf x=U .local\/#[82].kindOf x=U .cell\/#[82].kindOf x=U .free:=K;rw[E]at n;cases q:ū x with
   | none=>rw[q]at n;rcases n with z|z|z<;>cases z
   | some k =>
    cases k with
    | «local»=>exact Á4
    | Ι=>exact À8
    | cell=>exact Öo
    | _=>rw[q]at n;rcases n with z|z|z<;>cases z
  obtain A|B:=S.same i (ÏL Á) x (by rw[show N'[i]? = U x from J];rfl) P;have hok:#[te,ÂD,x]:=by show ÃC x=_\/ÃC x=_;rw[g];exact(S.free _ (SV A) rfl).2
  obtain u|r|l:=L i x v #[ei,t,B] O (.inr hok);refine(u,r,.inr ÌF)
  ·show (bM c Äw Ð Ì).kindOf x=U .cell\/#[82].kindOf x=U .free;rw[E,A];show (if ÂD x=U .cell then U ÌE else U Äv)=U .cell\/(if ÂD x=U .cell then U ÌE else U Äv)=U .free;by_cases q:ÂD x=U .cell
   ·rw[Æ q];exact Á4
   ·rw[zE,q];exact À8
  ·obtain a|Q|R:=Lx S g ζ A;rw[sC,a,Q];rcases l with⟨z,_⟩|⟨_,a',e,ob,T,V⟩
   ·rcases hok with q|q<;>rw[q]at z<;>cases z
   ·rw[fX,R,e,e];exact(ob,hk _ _ T,V)
 cell:=λx a h=>by obtain v|ob|e|d:=Àd x a (UW S g ζ h).1;exact(v,ob,hk _ _ e,d)
 Ι:=ÐW
 freeC:=λx a h=>ÀC x a (UW S g ζ h).1
 pin:=λp W=>Ê (show p∈Ìs from W) Ö
 hok:=I.hok.kept hk
 len:=by
  have M:Ád=ģ:=by rw[ÀB,t]
  have:=S.len;show (f++ÁC ÅL af).length=ÌD;rw[Qi,QaS];lia
universe E
abbrev PZ(a:ĳ)(env:Env):Sem Ï :=
 forIn a true λk r=>if r=true then do let ok <- isTrue k env (ă k env);pure (ÌC ok) else pure (ÌC r)
def PTs(X:Cx)(c:ĳ)(t:TT):Prop :=
 ∀ (b:À (ae×aN)) (s:aj) (a:St) (H:Hp) (Q:Ï->Hp->Prop),Inv X b a H s->t a H Q->ô (PZ c Ì) (TP X b a Q) è s
def Vx:TT:=λ_ H Q=>Q true H
theorem Ye{X:Cx}:PTs X [] Vx:=λ_ _ _ H _ I h=>wpAny_tests_nil (H,I,h)
theorem Lv{X:Cx}{e:aK}{t:TT}(h:PT X e t):PTs X [e] t:=λa s b H Q I q=>wpAny_tests_one (h a s b H Q I q)
section
variable {ñ:ay} {w:aF} {A:aD} {R:Éu->aj->Prop} {s:aj}
theorem Zj0{c b ļ:aK}{d:ĳ}{k:bh}{pos:Pos}{it f:aa}{env:Env}{E:ð}(I:#[hy,Nat])
  (B:∀e s',E e s'->ė)
  (turn:∀n s,I n s->ar Ô A (Ãs it) (λr g=>match r with
   | none=>R Çk g
   | some v=>ar Ô A (dM b it v) (λ_ ÀU=>ar Ô A (ÂF b env v) (λ_ l =>
     ar Ô A (PZ d env) (λok i =>
      if ok=true then ar Ô A (ă c env) (λx o =>
       ar Ô A (Ĵ #[fo,"list.append"] [f,x]) (λ_ p=>∃m,m<n/\I m p) E o) E i
      else ∃m,m<n/\I m i) E l) E ÀU) E g) E s)
  (n:Nat) (h:I n s):bL Ô A (.compLoop #[gV,c,b,d,k] 0 it f env) R s:=by
 have go:Öp:=
  λ{j t Q s} q=>ba q ÉR λe s' z=>(B e s' z).elim
 refine codeAny_loop rfl I #[hU,n,s,C] n h;show ar _ A ((compTurn #[gV,c,b,d,k] 0 it f env).onRaise (λx=>do Çl x env;Öq x)) _ _ s;refine wpAny_noted ?_;rw[compTurn_list];refine ah (bx (ah (thn (go (turn n s C)) λr g u=>?_)));cases r with
 | none=>exact av u
 | some v =>
  refine ah (thn (go u) λ_ ÀU a=>ah (thn (go a) λ_ l D=>ah (thn (go D) λok i y=>?_)));cases ok with
  | false=>exact av (rfl,y)
  | true=>exact ah (ah (thn (go y) λx o F=>ah (thn (go F) λ_ p G=>av (av (rfl,G)))))
universe E
def V2(J:It)(D:ae)(k:Nat)(q:St)(r:Hp)(g:TG)(s:TT)(t:TE)(Q:VK):Prop :=
 ∃W:Nat->Nat->À V->St->Hp->Prop,(∃m,W 0 m [] #[r9,q,k] #[gf,r,D]) /\
  ∀i m a e c,W i m a e c->Ör \/
   (J.go i c/\∃N:À V->St->Hp->Prop,Ös/\∀x n,J.yld i c x n->g x e n λd u=>s d u λb o =>
    if b=true then t d o λy p=>p D=U (.lst a)/\ľ<aq/\N (a++[y]) d (upd p D (.lst (a++[y]))) else N a d o)
def PY(n:Nat)(c:TI)(g:TG)(d:TT)(e:TE):TE:=λa H Q=>c a H λJ b=>∀D,b D=af->V2 J D n a b g d e Q
section
variable {X:Cx} {N N':À ak} {o c:bh}
theorem Lu{iM tg ļ:aK}{dP:ĳ}{pos dr:Pos}{wi:TI}{g:TG}{tc:TT}{te:TE}{use:Ã (aa->Sem Unit)}{QQ:ð}(S:Àm)(hN:X.N=N)(ho:Àn)(hc:Ŏ)
  (hi:PI X tg ļ wi) (hg:#[fb,PG,tg,g]) (ht:#[fb,PTs,dP,tc]) (he:#[fb,PE,iM,te])
  (hs:ÆU) {Z:Ć} {s:aj} {σ:St} {H:Hp} {Q:VK} (I:Inv X Z σ H s) (h:PY ÅL wi g tc te σ H Q)
  (post:∀ (D C:ae) (t:aj) (l:Hp) (m:ak->Ã aa),Inv X Z σ l t->l C=af->t.heap.Ns C m->C≠ı->ŵ<=C->#[gI,a,C]->Öt ->
   Q π l->ÂP ġ X.A è use QQ π C Çk t) :
  ô (ÌG Ñe c Ì dr (ÌH []) false #[fr,ļ] use) QQ è s:=by
 have rj:Öu:=Lz λy hy hf=>by refine ËW y.1 ?_;rw[c0]
 rw[bh];obtain it|fp|tn|J|G|e|I2|T|dj|f2|hR:=h2;subst e;have hD:G Âc=af:=I2.fresh;have M:Inv X Z σ ÉS { f with Õ:=Äx { cls:=.type "list",Ó:=.seq ([]:À aa).toArray } } :=
  I2.lnew (ys:=[]) (its:=[]) (t':=À0) .nil (Qs _)
 have vm:Öv:=λb k=>by obtain A|e|_:=T.obj 0 _ dj b k;exact Qr e
 refine bz (Öw S.nocell Öx #[hU,K,o8,o9] Çb);have O:∃j:aj,j={ f with Õ:=Äx { cls:=.type "list",Ó:=.seq ([]:À aa).toArray } }:=ü;rw[ew,j,rm,O];have O:Çm=Äx { cls:=.type "list",Ó:=.seq ([]:À aa).toArray }:=by rw[rm]
 have p9:Öy:=by rw[O,Q1]
 rw[rK];have f3:#[sd,Z,ÉS]:=λb k=>(by rw[Zc (Qz (vm b k))];exact(f2 b k).1,(f2 b k).2);have fW:tn 0 Çm:=Ég 0 _ _ dj λb _ A e=>by rw[O];exact Qc _ e
 rw[<- rm]at M;show bL ġ X.A (.compStart _ 0 Áw ÀG (bM c Äw #[jB].objs.size Ì))
  (ÂP ġ X.A è use QQ ÀG #[jB].objs.size)
  { f with Õ:=K,î:=À0+([]:À (ak×aa)).length }
 have eJ:K.Ns ż Öz:=by rw[O];exact o8
 have qa:#[e7,A,j.heap.get?,A,K.get?]:=λb A e=>by rw[O]at e;exact ÖA
 rw[<- O];have Ba:({ f with Õ:=K,î:=À0+([]:À (ak×aa)).length }:aj)={ j with Õ:=K,î:=À0 }:=by rw[rm];rfl
 rw[lE];have I4:=Lw (tk:=À0) S hN ho M f3 vn eJ qa;have vp:tn 0 K:=ÖB;generalize w:YG X c N' ż j (upd G Âc (.lst [])) fp=Y at I4;have P:Y.prog=ö:=by rw[<- w];rfl
 have R:Y.w=X.w:=by rw[<- w];rfl
 have YK:Y.K=X.K:=by rw[<- w];rfl
 have Yc:Y.calm=true:=by rw[<- w];exact hc
 have YA:Y.A=X.A:=by rw[<- w];rfl
 have qb:ÖC:=by rw[<- w];rfl
 have Yl:ÖD:=by rw[qb];rfl
 have mR:Y.xe=λ_ _=>ė:=by rw[<- w];rfl
 rw[e6,vq,hg,ÉS,fG,ht];have gP:=he ż j ÉS fp;rw[w]at vq fG gP;have ir:∀ {B:Hp},#[hW,B]->∀b∈fp,Xs Y [] B b:=λ{B} hn b k=>by
  rw[67];have rn:p∈Ìs:=by
   have:Y.pn=[]:=by rw[<- w];rfl
   rw[this]at hp;exact hp
  cases rn
 have fin:∀ (t:aj) (L:St) (l:Hp),Inv Y [] L l t->Q ÀG l->ÂP ġ X.A è use QQ ÀG ż Çk t:=λt L l F q=>by
  rw[ud];have pb:l ż=af:=by have:=F.free;rw[zR,Yl]
  have un:Un ËT fp ÉS l Çm t.heap:=by have:=F.base;rw[hP,w]
  have Bb:t.os=j.os:=by have:=F.os;rw[hP,w]
  have jt:ÖE:=by have:=F.hok;rw[P,R]at this;exact this
  refine post _ _ t l m (M.call' (s':=t) (ch:=fp) Bb un jt F.bare λb k=>?_) pb hn (QX M.lt) M.sz #[hU,x,a,e] (λp hp=>?_) q
  ·rw[l8]
  ·obtain v|A|e'|_:=M.cell x a e;exact Qz (Qr e')
  ·exact Qz (Qr (M.pin p hp).1)
 have qc:bL ġ X.A #[sx,Ñe,Áw]
   (ÂP ġ X.A è use QQ ÀG ż) { j with Õ:=K,î:=À0 }:=by
  rw[<- qb,<- YA];refine Zj0 (E:=ËX) (λn s'=>X4 λi ys aU B=>Inv Y [] aU B s'/\tn i ÀD/\#[hW,B]/\W i n ys aU B) ÉR ?_ m0
   ÖF
  ·rintro n t ⟨i,ys,L,l,F,o6,qZ,w5⟩;rcases turn i n ys L l w5 with⟨stop,qn⟩|⟨go,Nn,vt,step⟩
   ·refine thn (T.done Y P R YK Yc i [] t L l _ F (ir qZ) o6 stop) ?_;rintro r s6 ⟨hr,I6⟩;subst hr;have fq:=fin s6 L l I6 qn;rw[<- YA]at fq;exact fq
   ·refine thn (T.item Y P R YK Yc i [] t L l _ F (ir qZ) o6 go) ?_;rw[aT];have qd:ÖG:=λ{rq V s9} I9=>by refine ÖH;rw[gz,A,rp,k,I9.pin]
    have P1:=vq _ s7 L H7 x u _ Be r7 (step x H7 y7);rw[f3,P,R,P1];rw[lS];rw[f3,P,R,P2];rintro ok s9 ⟨V,I9,q9⟩;cases ok with
    | false=>rw[Ç Qu]at q9;rw[bG]
    | true=>rw[Æ rfl]at q9;rw[ql];have P3:=gP _ s9 kC V _ I9 q9;rw[f3,P,R,P3];rintro y qe ⟨vy,ju,Bf,Bg,Bh,hsz,q10⟩;have P4:=Z3 (X:=Y) _ qe kC ju ÀG [vy] ÀG [y] (λ_ B=>Nn (ys++[vy]) kC B) Bf rfl (.cons Bg .nil) (_,ys,vy,rfl,rfl,Bh,hsz,q10);rw[f3,P,R,P4];rintro _ qf ⟨_,rA,rB,_,q11⟩;rw[tq,b1,b2,b3,qd,rB];obtain m'|gz|w11:=vt _ _ _ q11;exact(m',gz,i+1,ys++[vy],kC,rA,b1,b2,b3,w11)
  ·exact w0
 have lp:=T.self X.A 0 { j with Õ:=K,î:=À0 } (λBi s'=>bL ġ X.A #[sx,Ñe,Bi]
   (ÂP ġ X.A è use QQ ÀG ż) s') ÉT vp qc
 exact codeAny_compStart_list qc ÖI
theorem Inv.let{c:Ć}{d:St}{H:Hp}{s:aj}{C:ae}{h':aI}(I:Ë5)(f:H C=af)(g:C≠ı)(h1:ŵ<=C)
  (h2:∀x a,δ x=U a->a≠C) (h:∀p∈X.pn++c,p.1≠C) (hs:#[zy,C,Ë,h']):Inv X c d H { s with Õ:=h' } :=
 À9 (t':=ř) (λb i j e=>hs.extBut b i j e) f g (.inr h1) h2 h
theorem XX{b a ļ:aK}{d:ĳ}{pos:Pos}{e:TI}{g:TG}{f:TT}{i:TE}(S:Àm)(j:X.N=N)(k:Àn)(hc:Ŏ)
  (l:PI X a ļ e) (n:#[fb,PG,a,g]) (ht:#[fb,PTs,d,f]) (he:#[fb,PE,b,i])
  (hs:ÆU:=by intro _;rfl) :
  PE X #[gV,b,a,d,c] (PY ÅL e g f i):=by
 rw[e3,ai,σ,Q];rw[eval_ListComp];refine Lu (use:=af) S j k hc l n ht he hs I h λD C s5 p m r t u v w y z q=>(m,u,λh' A=>?_);exact(.ref D,p,r.let t v w y z A,rfl,q)
theorem UV{i:Nat}{x:ak}{e b ļ:aK}{f:ĳ}{pos d k:Pos}{l:TI}{g:TG}{n:TT}{p:TE}(w:Ã4)(hx:ÂE)(hl:ÆK)(S:Àm)(y:X.N=N)(A:Àn)(hc:Ŏ)
  (B:PI X b ļ l) (E:#[fb,PG,b,g]) (ht:#[fb,PTs,f,n]) (he:#[fb,PE,e,p])
  (F:Ë0 #[gV,e,b,f,c] (U (.Name x d)) k.line Ì=pure true)
  (hs:ÆU:=by intro _;rfl) (G:ÆM:=by first|exact Á4|exact À8|assumption) :
  PS X (.Assign [.Name x d] #[gV,e,b,f,c] k) (Rq (PY ÅL l g n p) (S7 i)):=by
 rw[e3,J,σ,D];rw[exec_Assign_Name_used _ _ _ _ F];refine ah (bx (ah ?_));show ar _ X.A (do let _ <- ÌG (.ListComp e [⟨b,ļ,f,0⟩] c pos) c Ì _ (ÌH []) false (ă ļ Ì) (U (ÂF (.Name x d) Ì))) _ _ s;refine ah (thn (Lu (QQ:=λ_ r=>SP X J D .next r) (use:=U (ÂF (.Name x d) Ì)) S y A hc B E ht he hs I h ?_) λ_ r K=>av (av K));intro L C s5 M m O P Q t R u T q;show ar _ X.A (ÂF (.Name x d) Ì (.ref L)) _ _ _;refine Õh (Mv (v:=.ref L) O w hx hl rfl (?_) G);rintro s6 V ⟨a,W,Y⟩;have j:C≠a:=by
  rcases Y with z|z
  ·rw[z];exact t
  ·exact(u x a z).symm
 exact(m,Q.sameBut W j,λh' Z=>(_,M,V.let P t R u T Z,q))
universe E
theorem PX{ys:Ñ}:∀ {us:À aa},ZG ÉU us->StrsAre us ys:=by
 induction ys with
 | nil=>intro us r;rw[rR,QaZ,r];exact .nil
 | Î y ys a =>
  intro us r;rw[Qj]at r;cases r with
  | Î b c=>obtain t|e:=b;subst e;exact .cons _ _ (a c)
theorem PV:∀ {vs:À aa} {ys:À ak},StrsAre vs ys->ZG ÉU vs
 | _,_,.nil=>.nil
 | _,_,.cons _ t h=>.cons ÉK (PV h)
section
variable {X:Cx}
def Ls(K:Å):À V->Hp->VK->Prop:=λxs H Q=>X4 λx c t b=>xs=[x,.ty c]/\Xd K H x t/\đ K t (.type c)=U b/\Q (.bl b) H
theorem Zq1:YZ X És (Ls X.K):=by intro ai s σ H xs us Q I r h;obtain x|c|t|b|rfl|ty|e|q:=h;obtain u|w'|rfl|a|d:=S0 r;cases d;exact Zn0 I a ty e λtk=>(.bl b,H,š _,rfl,q)
def Lr(K:Å):À V->Hp->VK->Prop:=λxs H Q=>X5 λ(x:V) (a:ae) (c:À ŋ) (t:aa) (b:Ï)=>xs=[x,.ref a]/\H a=U (.tup (ŏ V.ty))/\Xd K H x t/\PySem.W.kitAny K t (ŏ Ãl)=U b/\Q (.bl b) H
theorem Zsj{a:À ŋ}:∀ {us:À aa},ZG (ŕ V.ty) us->us=ŕ Ãl:=by
 induction a with
 | nil=>intro us r;rw[rR,QaZ,r];rfl
 | Î y ys b =>
  intro us r;rw[Qj]at r;cases r with
  | Î c d=>rw[show _=Ãl y from c,b d];rfl
theorem Zn4:YZ X És (Lr X.K):=by
 rw[hE,w,A,k];obtain x|B|D|t|b|rfl|E|ty|e|q:=h;obtain u|w'|rfl|d|F:=S0 r;cases F;obtain _|its|G|⟨K,f,L,n,M⟩:=ê B _ E;have N:=Zsj G;subst N;obtain P|R|S|sl:=K;have T:P=Ãl "tuple":=L;have V:S=Data.seq (D.map Ãl).toArray n:=M;subst T;subst V;have c:∀tk,EP X w A Q (.bool b) { s with î:=tk }:=λtk=>(.bl b,H,š _,rfl,q);cases ty with
 | non=>cases (show u=Àb from d);rw[gR,ÕH]
 | bl y=>cases (show u=Åm y from d);rw[gR,ÕI]
 | int i=>obtain t|q:=Ðz;cases q;rw[gR,ÕJ]
 | str y=>obtain t|q:=#[eQ,t,Ár,y,d];cases q;rw[gR,ÕK]
 | flt y=>obtain t|q:=#[eQ,t,ËI,y,d];cases q;rw[gR,ÕL]
 | @lst a k g=>cases (show u=á a from d);obtain _|_|n|_|j:=(show Z8 ö X.w H Ë a (.lst k) from ê a _ g);exact ÖJ
 | @frz a W k g=>cases (show u=á a from d);obtain _|_|_|n|_|j:=(show Z8 ö X.w H Ë a (.frz W (.lst k)) from ê a _ g);exact ÖJ
 | @tup a k g=>cases (show u=á a from d);obtain _|_|_|p:=(show Z8 ö X.w H Ë a (.tup k) from ê a _ g);obtain o|j|m|_:=p;exact Q9 ÕN Ġ (o,j,m) f e Ài c
 | @dK a l g=>cases (show u=á a from d);obtain _|_|vs|_|p:=#[fM,a,l,g];obtain o|Y|Z|j|m|_:=p;exact ÖK
 | @dT a l g=>cases (show u=á a from d);obtain _|_|k|_|o|Y|Z|j|m|_:=(show Z8 ö X.w H Ë a (.dT l) from ê a _ g);exact ÖK
 | @ins a C dx fs g v ha hn fK hm=>cases (show u=á a from d);obtain mA|O|_:=Ul ê g;obtain R|J|_:=O.look;exact Q9 (ÕP (v.get _) v.hd ha hn fK hm) Ġ J f e Ài c
theorem ZpM(hc:Ŏ):YZ X #[fo,"all"] (λxs H Q=>X2 λ(p:ae) (bs:À Ï)=>xs=Ν/\SqL X.K H p (bs.map V.bl)/\Q (.bl (ÉV id)) H):=by
 rw[aa];rw[tg,p,bs,t];rw[eU,w];rw[fS,f,x,hz,t];have g:=x.isList;have y:#[ts,p]:=by obtain _|e|_:=g;exact Qr e
 refine call_all_walk (cu g ?_);refine⟨Ð,[Ð,p],[Ð],ÅE,_,_,λi=>(bs[i]?).getD true,rfl,Ñf (A:=X.A.in1) Áv _ p (Qz y) İ,
  ((_,Qt _ rfl,rfl,rfl),g.push _),λi v B C E' D E=>?_,λh' tk F=>?_⟩
 ·have m:its[i]? = U v:=by simpa using D
  have c:i<ÉD:=(Ũ m).1;have a:=Ád;have j:(bs.map V.bl)[i]? = U (V.bl (bs[i]' Ñg)):=by rw[Qq,Qb Ñg];rfl
  rw[tq,u',d,k,f.get,j];rw[fX,m,d,d];obtain rfl:v=Åm _:=k;have n:C ((bs[i]?).getD true) B:=E;rw[Qb Ñg]at n;exact bq n
 ·have e:((ÂO ÅE).all λi=>(bs[i]?).getD true)=ÉV id:=by
   have a:=Ád;rw[Qa]at a;rw[QC,<- a,QaQ,Qae,Qae];constructor
   ·intro z b j;obtain i|c|rfl:=ÖL j;have:=z i (ÏL c);rw[Qb c]at this;exact this
   ·intro z i c;have o:=ÖM c;rw[Qb o];exact z _ (Q4 o)
  refine(.bl (ÉV id),H,ÂG λb G l=>F b G (λJ=>?_) (Qc _ l),by rw[e];rfl,q);rw[ò J]at l;exact Qag _ (Qr l)
theorem Zkj:YZ X Äy (λxs H Q=>X2 λ(p:ae) (ss:À ak)=>xs=Ν/\SqL X.K H p Ào/\ī<64 /\
  ∀ (l:ae) (a:À ak),H l=af->a.Perm ss->Ĝ a=true->Q ć Ñh):=by
 rw[aa];rw[gm,p,ss,d,mT];rw[eU,f];rw[fS,b,g,i,d];have j:=ħ;rw[Qa]at j i;refine sorted_strs g.isList (PX b) Á λout a k c m=>?_;obtain e|n:=sortedAll_at Ë its out;have hp:=c.length_eq;refine(.ref ũ,_,ÀY (t':=ř) (o:=.lst (ŕ Ä)) (λ_ _=>sortedAll_old) (QV _) (by rw[Qa];lia,ÉW,e,PV k,by simpa using n),rfl,q _ a Ìo c m)
theorem Zsd:MtR X "str.join" (λx vs H Q=>X3 λ(sep:ak) (p:ae) (ys:À ak)=>x=.str sep/\vs=Ν/\SqL X.K H p ÉU/\#[yz].sum+ĥ*ÌI<=16777216/\Q (.str ÖN) H):=by intro ai s σ H x vs v us Q I a b h;obtain sep|p|ys|rfl|rfl|c|d|q:=h;obtain t|rfl:=a;obtain u|rfl|e:=b.one;cases e;obtain its|f|g|_:=Á5 c;exact join_list g.isList (PX f) d λt' k=>(.str _,H,š _,ü,q)
theorem Lq:OpR X (Äb .Mult) (λx y H Q=>X2 λa n=>x=.str a/\y=.int n/\0<=n/\n<=1000000/\ÂQ*n<=1000000/\Q (.str (ÌJ a n)) H):=by
 rw[hN,g,i];obtain a|n|rfl|rfl|j|l|h2|q:=h;rw[tj,g];rw[eN,t',i];have m:ľ*ÌK<=1000000:=by
  have e:((ľ*ÌK:Nat):Int)=ÂQ*n:=by rw[Int.natCast_mul,Int.toNat_of_nonneg j]
  lia
 refine PySem.P.mul_str ?_ (λb c=>?_) (λb c=>?_) ?_
 ·have o:decide (n < -(2 ^ 63:Int))=false:=Çf;have f:decide (n>=2 ^ 63)=false:=Çf;rw[o,f];rfl
 ·have p:(1:Int)<=n:=by lia
  have q1:ÂQ*1<=ÂQ*n:=ÖO p (Int.natCast_nonneg _);have q2:(1000000:Int)<=(2 ^ 63-1) / n:=by rw[Int.le_ediv_iff_mul_le Á];have:(1000000:Int)*n<=1000000*1000000:=ÖO l É;lia
  lia
 ·unfold aS.Str.tooLong;have r:aq=16777216:=aO;exact Çf
 ·have e:ÌJ a n=if n<1 then Áz else if ÖP=true then a else ⟨#[tW].foldl (·++·) #[]⟩:=rfl
  rw[e]at q;by_cases b:n<1
  ·rw[Æ b]at q ⊢;exact(by decide,.str _,H,š _,ü,q)
  ·rw[Ç b]at q ⊢;by_cases c:ÖP=true
   ·rw[Æ c]at q ⊢;exact ÖQ
   ·rw[Ç c]at q ⊢;refine(?_,.str _,H,š _,ü,q);have w:∀ (k:Nat) (d:ā Nat),((ÁC k a.cps).foldl (·++·) d).size=d.size+k*Ñi:=by
     intro k;induction k with
     | zero=>intro d;simp
     | succ k z=>intro d;rw[List.replicate_succ,List.foldl_cons,z,Array.size_append,Ñj];lia
    show (#[tW].foldl (·++·) #[]).size<=aq;rw[w];have f:Ñi=ľ:=rfl;have:ÌK*Ñi<=1000000:=by rw[f,Nat.mul_comm];exact m
    have r:aq=16777216:=aO;simp only[ËH,ÅM];lia
def ZwQ:V->Ã Int->Ã Int->Hp->VK->Prop:=λx lo a H Q=>∃z,x=.str z/\Ľ<=aq/\Q (.str (ÌL z lo a)) H
theorem Zvi:SlR X ZwQ:=by
 intro m s n H x v vl vu lo o sl Q I p b r e h;obtain z|rfl|c|q:=h;rw[tj,p];have a:∀f k,EP X m n Q (.str (ÌL z lo o) f) { s with î:=k }:=λf k=>(.str _,H,š _,ü,q);refine("str",_,PySem.F.slot_str_getitem.lookup,ÉC _ _ _,?_);cases r with
 | none =>
  cases e with
  | none=>exact cI (l:=af) (u:=af) (st:=af) b rfl ÌM
  | int j d=>exact cI (l:=af) (u:=U (j,d,)) (st:=af) b rfl ÌM
 | int i g =>
  cases e with
  | none=>exact cI (l:=U (i,g,)) (u:=af) (st:=af) b rfl ÌM
  | int j d=>exact cI (l:=U (i,g,)) (u:=U (j,d,)) (st:=af) b rfl ÌM
universe E
inductive Src where
 | l (a:ae)|t (a:ae)|s (z:ak)
def Src.val:Src->V
 | .l a=>.ref a
 | .t a=>.ref a
 | .s z=>.str z
def Zsx(c:Nat):V:=.str ź
def Src.its(K:Å)(H:Hp):Src->À V->Prop
 | .l a,xs=>SqL K H a xs
 | .t a,xs=>SqT K H a xs
 | .s z,xs=>xs=z.cps.toList.map Zsx
def Src.at(h:aI)(i:ae):Src->Nat->Prop
 | .l a,k=>Ée i a k
 | .t a,k=>h.IsTupleIter i a k
 | .s z,k=>∃tk,Ñk i (cb z) z tk k
def Src.raw(h:aI):Src->À aa->Prop
 | .l a,us=>h.IsList a us.toArray
 | .t a,us=>h.IsTuple a us.toArray
 | .s _,_=>Àc
def Src.fit:Src->À aa->Nat->aa->Prop
 | .l _,us,k,u=>us[k]? = U u
 | .t _,us,k,u=>us[k]? = U u
 | .s z,_,k,u=>X2 λc tk=>Âd[k]? = U c/\u=.str ź tk
def Src.many:Src->À aa->Nat
 | .l _,us=>ÀR
 | .t _,us=>ÀR
 | .s z,_=>Äz
def Src.off:Src->ae->Prop
 | .l a,b=>a≠b
 | .t a,b=>a≠b
 | .s _,_=>Àc
theorem ÌN{h:aI}{i:ae}:∀ {S:Src} {k:Nat},S.at h i k->X2 λo vs=>ß i=U o/\ų=.fields vs
 | .l _,_,⟨o,e,_,d⟩=>(o,_,e,d)
 | .t _,_,⟨o,e,_,d⟩=>(o,_,e,d)
 | .s _,_,⟨_,o,e,_,d⟩=>(o,_,e,d)
theorem ÉX{h h':aI}{i:ae}(k':∀o,ß i=U o->ÿ i=U o):∀ {S:Src} {k:Nat},S.at h i k->S.at h' i k
 | .l _,_,⟨o,e,d⟩=>(o,k' o e,d)
 | .t _,_,⟨o,e,d⟩=>(o,k' o e,d)
 | .s _,_,⟨tk,o,e,d⟩=>(tk,o,k' o e,d)
theorem Src.raw_keep{h h':aI}{b:ae}(k':#[hs,c,o,b,ß]):∀ {S:Src} {us:À aa},S.off b->ÄA h us->ÄA h' us
 | .l _,_,f,⟨o,e,d⟩=>(o,k' _ o f e,d)
 | .t _,_,f,⟨o,e,d⟩=>(o,k' _ o f e,d)
 | .s _,_,_,_=>trivial
section
variable {ñ:ay} {w:aF} {A:aD} {E:aa->aj->Prop} {s:aj}
theorem ZjE{it t:ae}{i:Nat}{œ:Á7}{x:aa}{Q:ð}(c:ÖR)(ht:s.heap.IsTuple t œ)(hx:œ[i]? = U x)
  (d:∀h',h'.IsTupleIter it t (i+1)->ÆL it Ë h'->Q x { s with Õ:=h' }):ar Ô A ÖS Q E s:=by
 obtain o|b|e|a:=id c;obtain ol|f|_|nl|g:=ht;unfold Çn;refine ah (ÌO (name:=ÌP) ÌQ ÌR
  (bU ÌR ÌQ ÖT ?_ ÖU))
 rw[vc];refine ah (bg b a (x:=.ref t) rfl ?_);rw[80];refine ah (bg b a (x:=.int i 0) rfl ?_);rw[tG];refine ah (bj f g ?_);simp only[ÏC,hx];refine ah (ÉY b a Ö (av (x,rfl,av (d _ ?_ (ÖV ..)))));exact⟨_,Q5 _ b (Ñl (ÉZ a _)),(ÖW ..).trans e,by
  rw[ÉZ a];simp[Ŷ]⟩
theorem PU{i:ae}{k:Nat}{us:å}{Q:ð}:∀ {S:Src},S.at Ë i k->ÄA Ë us->k<S.many us ->
  (∀h' tk u,S.fit us k u->S.at h' i (k+1)->ÆL i Ë h'->Q u { s with Õ:=h',î:=tk })->ar Ô A ÖX Q E s
 | .l a,c,h,b,g=>wpAny_nextOf_list_item c h (x:=us[k]'b) #[fd,Qau,Qb,b] λh' d f=>g h' ń _ (Qb b) d f
 | .t a,c,h,b,g=>ZjE c h (x:=us[k]'b) #[fd,Qau,Qb,b] λh' d f=>g h' ń _ (Qb b) d f
 | .s z,⟨tk,c⟩,h,b,g=>by
  have j:Âd[k]? = U Âd[k]:=Qaw b;by_cases l:Ñm (·<128)=true
  ·have e:ÖY:=by unfold cb;rw[Æ l]
   rw[e]at c;exact wpAny_nextOf_ascii_item c j λh' d f=>g h' _ _ (_,_,j,rfl) (tk,by rw[e];exact d) f
  ·have e:cb z = "str_iterator":=by unfold cb;rw[zE,l]
   rw[e]at c;exact wpAny_nextOf_wide_item c j λh' d f=>g h' _ _ (_,_,j,rfl) (tk,by rw[e];exact d) f
theorem ZgK{it t:ae}{i:Nat}{œ:Á7}{Q:ð}(f:Á9)(b:ÖR)(ht:s.heap.IsTuple t œ)(hx:œ[i]? = af)
  (g:∀h' e,aI.ExtBut it Ë h'->Ñn->E Ś { s with Õ:=h' }):ar Ô A ÖS Q E s:=by
 obtain o|c|hc|d:=id b;obtain ol|h|_|nl|j:=ht;unfold Çn;refine ah (ÌO (name:=ÌP) b.typeIs ÌR
  (bU ÌR b.typeIs ÖT ?_ ÖU))
 rw[vc];refine ah (bg c d (x:=.ref t) rfl ?_);rw[80];refine ah (bg c d (x:=.int i 0) rfl ?_);rw[tG];refine ah (bj h j ?_);simp only[ÏC,hx];refine ah (Ãr (ah (ÉY c d Ö ?_)));show ar _ _ (newExc #[iy,"StopIteration"] [] >>= _) _ _ _;refine ah ?_;simp only[newExc,newTuple];refine ah (bz ?_ Ño);refine ah (m:=firstArgMember _ _) (wpAny_of_eq (a:=Àb) (by first|rfl|(simp only[firstArgMember];rfl)) ?_);refine bz ?_ Ño;simp only[raiseNew];refine ah (wpAny_handled ?_);first|rw[show A.in1.handled=af from f]|rw[f]
 refine ah (av (wpAny_throw ?_));exact g _ _ (((ÖV ..).extBut.push _).push _) (_,Qt _ rfl,rfl)
theorem Lp{i:ae}{k:Nat}{us:å}{Q:ð}(f:Á9):∀ {S:Src},S.at Ë i k->ÄA Ë us->S.many us<=k ->
  (∀h' e,aI.ExtBut i Ë h'->Ñn->E Ś { s with Õ:=h' })->ar Ô A ÖX Q E s
 | .l a,b,g,d,c=>wpAny_nextOf_list_end f b g #[fd,Qau,QW,d] c
 | .t a,b,g,d,c=>ZgK f b g #[fd,Qau,QW,d] c
 | .s z,⟨tk,b⟩,g,d,c=>by
  have h:Âd[k]? = af:=Qba d;by_cases j:Ñm (·<128)=true
  ·have e:ÖY:=by unfold cb;rw[Æ j]
   rw[e]at b;exact wpAny_nextOf_ascii_end f b h c
  ·have e:cb z = "str_iterator":=by unfold cb;rw[zE,j]
   rw[e]at b;exact wpAny_nextOf_wide_end f b h c
structure SU (z TI TO i1 i2:ae) (S1 S2:Src):Prop where
 TIz:TI≠z
 TOz:TO≠z
 i1z:i1≠z
 i2z:i2≠z
 TITO:TI≠TO
 TIi1:TI≠i1
 TIi2:TI≠i2
 TOi1:TO≠i1
 TOi2:TO≠i2
 i12:i1≠i2
 s1z:S1.off z
 s1TO:S1.off TO
 s1i1:S1.off i1
 s1i2:S1.off i2
 s2z:S2.off z
 s2TO:S2.off TO
 s2i1:S2.off i1
 s2i2:S2.off i2
theorem Zph{z TI TO i1 i2:ae}{S1 S2:Src}{k:Nat}{q r:å}{a b:aa}{Q:ÌS}(D:ÌT)
  (hz:ÖZ) (Z:Ö0) (jv:ρ Ë TO a b)
  (h1:S1.at Ë i1 k) (h2:S2.at Ë i2 k) (r1:S1.raw Ë q) (r2:S2.raw Ë r) (m1:k<S1.many q) (m2:k<S2.many r)
  (hQ:∀h' tk x y,S1.fit q k x->S2.fit r k y->ÂR h' z TI TO (Ŷ Ð)->ρ h' TO x y->S1.at h' i1 (k+1)->S2.at h' i2 (k+1)->ρ h' Ð x y->h'.objs.size=Ð+1 ->
   (∀c o,c≠z->c≠TO->c≠i1->c≠i2->é c=U o->ÿ c=U o)->Q (U Åz) { s with Õ:=h',î:=tk }) :
  ar Ô A (Ãs (.ref z)) Q E s:=by
 have O:Ö1:=(_,hz,rfl);unfold Ãs;refine ah (Ñp (ÌO (name:=ÌP) O ÌU (bU ÌU O Ö2 ?_ (Ö3 _))));rw[aS];refine ah (bg hz rfl (x:=.ref TI) rfl (ah (bj Z rfl ?_)));rw[75];refine ah (Ãr (ah (bg hz rfl (x:=.ref TO) rfl (ah (bY hz Ö λP B f=>?_)))));replace B:ÂR P z TI TO .ellipsis:=B;rw[69];refine ah (PU (S:=S1) (us:=q) (k:=k) #[hz,Ço,h1] (S1.raw_keep #[ff,c,n,Ço] D.s1z r1) m1 λC Bk x fx vA jV=>av ?_);have h:#[zy,i1,P,C]:=jV;have R:ρ C TO a b:=É0 _ _ D.TOi1 (Ço _ _ D.TOz jv);refine ah (bj R rfl (ah (Ñq R λG H jW=>ah ÌV)));replace H:ρ G TO x b:=H;have i:#[zy,TO,C,G]:=jW;rw[dP];refine ah (PU (S:=S2) (us:=r) (k:=k)
  (ÌW (λo e=>ÂS _ o Ñr (É0 _ o D.i12.symm (Ço _ o D.i2z e))) h2)
  (Çp #[ff,c,n,ÂS] D.s2TO (Çp #[ff,c,n,É0] D.s2i1 (Çp #[ff,c,n,Ço] D.s2z r2))) m2 λI Bl y fy Bm pc=>av ?_)
 have j:#[zy,i2,G,I]:=pc;have T:ρ I TO x b:=Âe _ _ D.TOi2 H;refine ah (bj T rfl (ah (Ñq T λd t pe=>ah (dL (av (av ?_))))));replace t:ρ d TO x y:=t;have l:#[zy,TO,I,d]:=pe;refine ah (bj t rfl (ah (Ñs ?_)));have m:ÄB=Ð:=by rw[l.1,j.1,i.1,h.1,f.1]
 have V:#[th,d]:=Çq _ _ Ñt (Âe _ _ D.i2z.symm (ÂS _ _ Ñt (É0 _ _ Ñu B)));have Bo:∀c o,c≠z->c≠TO->c≠i1->c≠i2->é c=U o->d.get? c=U o:=λc o g u J K e =>
  Çq _ _ u (Âe _ _ K (ÂS _ _ u (É0 _ _ J (Ço _ _ g e))))
 have Bp:S1.at d i1 (k+1):=S1.at_keep (λo e=>Çq _ o D.TOi1.symm (Âe _ o D.i12 (ÂS _ o D.TOi1.symm e))) vA;have Bq:S2.at d i2 (k+1):=ÌW (λo e=>Çq _ o Ñr e) Bm;have W:z<ÄB:=Qr V;show ar _ _ (Ö4 (.ref z) (.ref ÄB) >>= _) _ _ _;refine ah ?_;unfold Ö4;have Br:ÂR (d.push { cls:=.type "tuple",Ó:=.seq #[x,y] }) z TI TO .ellipsis:=Qc _ V;refine ah (bY Br Ö λEp L M=>?_);replace L:ÂR Ep z TI TO (Ŷ ÄB):=L;refine bY L Ö λp v N=>?_;replace v:ÂR p z TI TO (Ŷ ÄB):=v;have up:∀c o,c≠z->d.get? c=U o->p.get? c=U o:=λc o g e=>ÌX _ _ g (M.extBut _ _ g (Qc _ e));have X:ρ p ÄB x y:=ÌX _ _ (QX W) (M.extBut _ _ (QX W) É1);have Y:p.objs.size=ÄB+1:=by rw[N.1,M.1,Q1]
 rw[m]at v X Y;refine av (_,rfl,av ?_);show Q #[tk,ÄB] _;rw[m];exact hQ p Bl x y fx fy v (up _ _ D.TOz t) #[hz,up,Bp] (ÌW (λo e=>up _ o D.i2z e) Bq) X Y λc o g u J K e=>up c o g (Bo c o g u J K e)
theorem ZqS{z TI TO i1 i2:ae}{S1 S2:Src}{k:Nat}{g m:å}{a b:aa}{Q:ÌS}(G:Á9)(D:ÌT)
  (hz:ÖZ) (P:Ö0) (R:ρ Ë TO a b)
  (h1:S1.at Ë i1 k) (h2:S2.at Ë i2 k) (H:S1.raw Ë g) (V:S2.raw Ë m) (W:S1.many g<=k\/S2.many m<=k)
  (X:∀h' tk,Ö5->Q af { s with Õ:=h',î:=tk }) :
  ar Ô A (Ãs (.ref z)) Q E s:=by
 have I:Ö1:=(_,hz,rfl);unfold Ãs;have done:∀ (h':aI) (tk:Nat) (e:ae),Ö5->Ñn ->
   ar Ô A (do if (<- Ñv Ś #[iy,"StopIteration"]) then pure af else throw Ś:Sem (Ã aa)) Q E { s with Õ:=h',î:=tk }:=λh' tk e Y ⟨o,Z,hc⟩=>
  ah (Ö6 (T := "StopIteration") (b:=true) (o,Z,hc) isSubtype_stop (av (X h' tk Y)))
 refine ah (Ñp (ÌO (name:=ÌP) I ÌU (bU ÌU I Ö2 ?_ (Ö3 _))));rw[aS];refine ah (bg hz rfl (x:=.ref TI) rfl (ah (bj P rfl ?_)));rw[75];refine ah (Ãr (ah (bg hz rfl (x:=.ref TO) rfl (ah (bY hz Ö λJ p d=>?_)))));replace p:ÂR J z TI TO .ellipsis:=p;rw[69];by_cases m1:k<S1.many g
 ·have m2:S2.many m<=k:=by rcases W with z'|z';lia;exact z'
  refine ah (PU (S:=S1) (us:=g) (k:=k) #[hz,ÄC,h1] Ö7 m1 λh Bk x fx vA q=>av ?_);have i:#[zy,i1,J,h]:=q;have K:ρ h TO a b:=ÂS _ _ D.TOi1 (ÄC _ _ D.TOz R);refine ah (bj K rfl (ah (Ñq K λu lK r=>ah ÌV)));have t:#[zy,TO,h,u]:=r;rw[dP];refine ah (Lp (S:=S2) (us:=m) (k:=k) G
   (ÌW (λo e=>ÌY _ o Ñr (ÂS _ o D.i12.symm (ÄC _ o D.i2z e))) h2)
   (Çp #[ff,c,n,ÌY] D.s2TO (Çp #[ff,c,n,ÂS] D.s2i1 (Çp #[ff,c,n,ÄC] D.s2z V))) m2 λiw e L v=>?_)
  rw[hD,y,f,j,v];have M:#[th,iw]:=L _ _ D.i2z.symm (ÌY _ _ Ñt (ÂS _ _ Ñu p));have B:e≠z:=λx=>by subst x;rw[fX,M,f,f];simp at j
  exact bY M Ö λdN _ N=>done dN _ e (λc o l c2 C c4 x=>ÌX _ _ l (L _ _ c4 (ÌY _ _ c2 (ÂS _ _ C (ÄC _ _ l x))))) (y,ÌX _ _ B f,j)
 ·refine ah (Lp (S:=S1) (us:=g) (k:=k) G #[hz,ÄC,h1] Ö7 Á λh e q v=>?_);rw[hD,y,f,j,v];have O:#[th,h]:=q _ _ Ñu p;have B:e≠z:=λx=>by subst x;rw[fX,O,f,f];simp at j
  exact bY O Ö λu _ r=>done u _ e (λc o l _ C _ x=>r.extBut _ _ l (q _ _ C (ÄC _ _ l x))) (y,r.extBut _ _ B f,j)
universe E
def Src.iter(tk:Tok):Src->aN
 | .l a=>{ cls:=.type "list_iterator",Ó:=.fields #[.ref a,.int 0 0] }
 | .t a=>{ cls:=.type "tuple_iterator",Ó:=.fields #[.ref a,.int 0 0] }
 | .s z=>{ cls:=.type (cb z),Ó:=.fields #[.str z tk,.int 0 0] }
def Src.value(tk:Tok):Src->aa
 | .l a=>.ref a
 | .t a=>.ref a
 | .s z=>.str z tk
theorem Ñw{h:aI}{i:ae}{tk:Tok}:∀ {S:Src},ß i=U (S.iter tk)->S.at h i 0
 | .l _,e=>(_,e,rfl,rfl)
 | .t _,e=>(_,e,rfl,rfl)
 | .s _,e=>(tk,_,e,rfl,rfl)
theorem Ñx{ñ:ay}{w:aF}{A:aD}{E:ð}{s:aj}{tk:Tok}{us:å}{Q:ð}:∀ {S:Src},ÄA Ë us ->
  Q Åz { s with Õ:=Àf (S.iter tk) }->ar Ô A (Åy (S.value tk)) Q E s
 | .l _,r,q=>cu r q
 | .t _,r,q=>wpAny_pyIter_tuple r q
 | .s _,_,q=>wpAny_pyIter_strU q
theorem Src.raw_push{h:aI}{ob:aN}:∀ {S:Src} {us:À aa},ÄA h us->ÄA (Çr ob) us
 | .l _,_,⟨o,e,d⟩=>(o,Qc _ e,d)
 | .t _,_,⟨o,e,d⟩=>(o,Qc _ e,d)
 | .s _,_,_=>trivial
abbrev zH1(h:aI)(S1:Src)(a:Tok):aI:=Çr (S1.iter a)
abbrev zH2(h:aI)(S1 S2:Src)(a b:Tok):aI:=(zH1 h S1 a).push (S2.iter b)
abbrev zH3(h:aI)(S1 S2:Src)(a b:Tok):aI:=(zH2 h S1 S2 a b).push { cls:=.type "tuple",Ó:=.seq #[.ref ĺ,.ref (zH1 h S1 a).objs.size] }
abbrev zH4(h:aI)(S1 S2:Src)(a b:Tok):aI:=(zH3 h S1 S2 a b).push { cls:=.type "tuple",Ó:=.seq #[.none,.none] }
abbrev zH5(h:aI)(S1 S2:Src)(a b:Tok):aI:=(zH4 h S1 S2 a b).push { cls:=.type "zip",Ó:=.fields #[.none,.bool false,.bool false,.ref (zH2 h S1 S2 a b).objs.size,.ref (zH3 h S1 S2 a b).objs.size] }
theorem ZrU(S1 S2:Src)(a e:Tok)(f i:å) :
  Meets (aS.«zip.__new__» ([.type "zip",ÌZ a,Ì0 e],[])) (λ_ R s=>S1.raw Ë f/\S2.raw Ë i /\
   R (.ok (.ret (.ref (zH4 Ë S1 S2 a e).objs.size))) { s with Õ:=zH5 Ë S1 S2 a e }) :=
 .of_wp λb w A R s h=>by
  rw[gw,c,tk,s];rw[hD,l,m,h,h];have jz:=sub_zip;have j:∀ {A:aD} {E:aa->aj->Prop} {Q:aa->aj->Prop},Q (.ref ÄD) Ñy->ar (ax b w) A (Åy (ÌZ a)) Q E #[f8,c,tk]:=
   λ{A E Q} q=>Ñx (s:=#[f8,c,tk]) (us:=f) l q
  have k:∀ {A:aD} {E:aa->aj->Prop} {Q:aa->aj->Prop},Q (.ref (zH1 c S1 a).objs.size) (zH2 c S1 S2 a e,g,d,tk,os)->ar (ax b w) A (Åy (Ì0 e)) Q E Ñy:=
   λ{A E Q} q=>Ñx (s:=Ñy) (us:=i) (S2.raw_push m) q
  generalize ÌZ a=v1 at j ⊢;generalize Ì0 e=v2 at k ⊢
  wp_walk using j,k
  exact(_,rfl,h)
section
variable {ñ:ay} {w:aF} {A:aD} {E:aa->aj->Prop} {s:aj}
theorem ZqZ{S1 S2:Src}{a b:Tok}{j k:å}{Q:ð}(q:S1.raw Ë j)(r:S2.raw Ë k)
  (h:∀h',ÂR h' #[rN,4] #[rN,2] #[rN,3] .none->ρ h' #[rN,2] Åz Ì1 ->
   ρ h' #[rN,3] .none .none->S1.at h' Ð 0->S2.at h' ũ 0->h'.objs.size=Ð+5 ->
   (∀c o,é c=U o->ÿ c=U o)->Q (.ref #[rN,4]) { s with Õ:=h' }) :
  ar Ô A (Ĵ #[iy,"zip"] [ÌZ a,Ì0 b]) Q E s:=by
 refine callType_new F.called_zip É (F.typeCall_zip_2 _ _) (F.newCall_zip_2 _ _) (λobj=>F.args_object_init_3 obj _ _) F.entry_zip_new (ZrU S1 S2 a b j k) (q,r,?_);have d:(zH1 Ë S1 a).objs.size=Ð+1:=Q1 ..;have e:#[hr,zH2,2]:=by rw[Q1,d]
 have f:#[hr,zH3,3]:=by rw[Q1,e]
 have g:#[hr,zH4,4]:=by rw[Q1,f]
 have t:#[cM].objs.size=Ð+5:=by rw[Q1,g]
 have l:∀ (tk:Tok) (S:Src),(S.iter tk).isFreed=false:=λtk S=>by cases S<;>rfl
 have i:#[hm,zH4]:=Qt _ rfl;have m:#[hm,zH3]:=Qc _ É1;have n:#[hm,zH2]:=Qc _ (Qc _ É1);have p:#[cM].get? (zH1 Ë S1 a).objs.size=U (S2.iter b):=Qc _ Ö8;have u:#[cM].get? Ð=U (S1.iter a):=Qc _ (Qc _ Ö8);show _/\_;rw[e,f,g]at i;rw[d,e]at n;rw[f]at m;rw[d]at p;rw[g];exact⟨(_,i,rfl),h _ i n m (Ñw u) (Ñw p) t λc o x =>
  Qc _ (Qc _ (Qc _ (Qc _ (Qc _ x))))⟩
universe E
def Itz(K:Å)(S1 S2:Src):It :=
 ⟨λi H=>X2 λa b=>É2 K H a/\É3 K H b/\i<ľ/\i<ħ,
  λi H v c=>∃p,H p=af/\v=.ref p/\∀a b,É2 K H a->É3 K H b->∀x y,a[i]? = U x->b[i]? = U y->c=upd H p (.tup [x,y]),
  λi H=>X2 λa b=>É2 K H a/\É3 K H b/\(ľ<=i\/ħ<=i)⟩
section
variable {X:Cx} {ai:À (ae×aN)} {σ:St} {H:Hp} {s:aj}
theorem Inv.src(I:ä):∀ {S:Src} {xs:À V},S.its X.K H xs->∃us,ÄA Ë us/\S.many us=ã/\∀k u x,S.fit us k u->xs[k]? = U x->ZE x u
 | .l a,xs,h=>by obtain its|e|pl|_:=Á5 h;refine(its,pl.isList,e.length.symm,λk u x f b=>?_);rw[jI]
 | .t a,xs,h=>by obtain its|e|pl|_:=Ã7 h;refine(its,pl,e.length.symm,λk u x f b=>?_);rw[jI]
 | .s z,xs,h=>by
  refine([],trivial,?_,λk u x f b=>?_)
  ·rw[show xs=_ from h,Qa];simp[Src.many]
  ·obtain c|tk|d|i:=f;subst i;rw[show xs=_ from h,Qq]at b;have j:Âa[k]? = U c:=by simpa using d
   rw[fX,j,b,b];exact(tk,rfl)
theorem Inv.src_off(I:ä){b:ae}(hb:Xs X ai H b):∀ {S:Src} {xs:À V},S.its X.K H xs->S.off b
 | .l a,xs,h=>by
  rcases h with(h|⟨ob,h⟩)|⟨o,its,n,hk,_⟩
  ·exact Zf h hb.1
  ·exact Zf h hb.1
  ·rw[vy];rcases hb.2.2.2.1 with z|z
   ·exact ÆF a o e z
   ·exact Ñd
 | .t a,xs,h=>by
  rcases h with(h|⟨ob,h⟩)|⟨o,its,n,hk,_⟩
  ·exact Zf h hb.1
  ·exact Zf h hb.1
  ·rw[vy];rcases hb.2.2.2.1 with z|z
   ·exact ÆF a o e z
   ·exact Ñd
 | .s z,xs,h=>trivial
theorem Inv.zipped{fp:ŧ}{h':aI}{tk:Nat}{x y:V}{u v:aa}(I:ä)(g:#[sd,ai,H])(k:ZE x u)(l:ZE y v)
  (hp:ρ h' Ð u v) (hfh:∀b∈fp,∃o,ÿ b=U o) (hk:∀c o,c ∉ fp->é c=U o->ÿ c=U o) :
  Inv X ai σ (upd H Ð (.tup [x,y])) { s with Õ:=h',î:=tk }:=by
 have p:H Ð=af:=ÉH;have ne:∀b a,é b=U a->b≠Ð:=λb a e=>Qz (Qr e);have h:∀b u,H b=U u->b≠Ð:=λb u e=>Zf e p;have i:∀b u,H b=U u->b ∉ fp:=λb u e d=>by rw[(g b d).1]at e;cases e
 refine È3 (g':=Åq) (d':=È4) (ch:=fp) (λb d=>((g b d).2.2.2.1,(g b d).2.1,(g b d).2.2.2.2.1,(g b d).2.2.2.2.2))
  (λb a _ _ f e _=>hk b a f e) (λb a _ _ f e _=>(ËN,hk b a f e)) (λb a _ e n=>by rw[Zc (ne b a e)];exact n) (λb a f e=>(a,hk b a f e))
  (λb t e=>by rw[Zc (h b _ e)];exact e) (λb a u e=>by rw[Zc (h b _ e)];exact e) (λb ps e=>(#[],by rw[Zc (h b _ e),e];simp)) (λm w=>?_) #[hU,b,j,e] Λ
 ·obtain a|A|B|C|r:=w;exact(a,A,B,hk _ a #[zG,g] C,r)
 ·by_cases d:b=Ð
  ·subst d;rw[rR,Zb,e];exact(by show 2<=aq;decide,[u,v],.cons k (.cons l .nil),(_,hp,rfl,_,rfl))
  ·rw[Zc d]at e;refine(ê b j e).stay (λc D f q=>hk c D ?_ q) (λc q=>by rw[Zc (h c _ q)];exact q) λc t q=>by rw[Zc (h c _ q)];exact q
   rcases f with z|z
   ·rw[z];exact i b j e
   ·exact i c _ z
universe E
theorem Zqh{P:ay}{w:aF}{K:Å}{fY:ĳ}{x1:Nat}{e7:Pos}{S1 S2:Src}{z TI TO i1 i2:ae}
  (Q:TI≠z) (Y:TO≠z) (Z:i1≠z) (d4:i2≠z) (d5:TI≠TO) (d6:TI≠i1) (d7:TI≠i2) (d8:TO≠i1) (d9:TO≠i2) (qh:i1≠i2) :
  WB P w K (.Tuple fY x1 e7) (Itz K S1 S2) É4 z
   (λi h=>ÂR h z TI TO .none/\ρ h TI (.ref i1) (.ref i2)/\(X2 λa b=>ρ h TO a b)/\S1.at h i1 i/\S2.at h i2 i) where
 mem:=by simp
 obj:=λi h st b A=>by
  obtain J|L|⟨a,b',M⟩|N|O:=st;have nf:∀ {o:aN} {B:ā aa},ų=.fields B->∀v,ų≠.cell v:=λd v e=>by rw[d]at e;cases e
  rw[cY];rcases A with rfl|rfl|rfl|rfl|rfl
  ·exact(_,J,nf rfl)
  ·rw[fx,L,v,e]
  ·rw[fx,M,v,e]
  ·obtain o|B|e|d:=ÌN N;exact(o,e,nf d)
  ·obtain o|B|e|d:=ÌN O;exact(o,e,nf d)
 ċ:=λi h R st k=>by obtain J|L|⟨a,b',M⟩|N|O:=st;exact(k z Ö _ J,k TI Ö _ L,(a,b',k TO Ö _ M),ÉX (λo e=>k i1 Ö o e) N,ÉX (λo e=>k i2 Ö o e) O)
 item:=by
  rw[dh];obtain xs|ys|C|F|l1|l2:=hg;rw[jh];have D:ÌT:=⟨Q,Y,Z,d4,d5,d6,d7,d8,d9,qh,Àp T C,Àp Ì2 C,Àp Ì3 C,Àp Ì4 C,
   Àp T F,Àp Ì2 F,Àp Ì3 F,Àp Ì4 F⟩
  refine Zph D J L M N O r1 r2 Á Á λR tk x y fx fy a1 a2 a3 a4 a5 a6 a7=>?_;have rx:=f1 i x _ fx (Qb l1);have ry:=f2 i y _ fy (Qb l2);refine(_,rfl,wpAny_letOwnedTupleGo_zip a1 λph Ab qi=>?_);have j:#[zy,z,R,ph]:=qi;have Ac:ρ R TI (.ref i1) (.ref i2):=a7 _ _ Q d5 d6 d7 L;have lt:Ñz:=λe=>QX (Qr e);have hzs:Ð≠z:=lt J;have I2:Inv X ai σ (upd H Ð (.tup [xs[i],ys[i]])) { s with Õ:=ph,î:=tk }:=by
   refine I.zipped (fp:=É4) g rx ry (Âe _ _ hzs a5) (λb A=>?_) λc o f e=>?_
   ·rw[cY];rcases A with rfl|rfl|rfl|rfl|rfl
    ·exact(_,Ab)
    ·exact#[zP,_,Q,Ac]
    ·exact#[zP,_,Y,a2]
    ·rw[iN,a3];exact#[zP,o,Z,e]
    ·rw[iN,a4];exact#[zP,o,d4,e]
   ·simp only[Áq,ÂT,ÂU,É5]at f;exact Âe _ _ f.1 (a7 c o f.1 f.2.2.1 f.2.2.2.1 f.2.2.2.2 e)
  refine(.ref Ð,_,I2,rfl,(Ð,ÉH,rfl,λxs' js w1 w2 x' y' e1 e2=>?_),(Ab,Âe _ _ Q Ac,(_,_,Âe _ _ Y a2),ÉX (λo e=>Âe _ o Z e) a3,ÉX (λo e=>Âe _ o d4 e) a4),λb A=>?_)
  ·have same:∀ {S:Src} {us B:À V},S.its X.K H us->S.its X.K H B->us=B:=λ{S us B} p q=>by
    cases S with
    | l a=>exact Ða p q
    | t a=>exact I.tuple_inj p q
    | s z=>rw[show us=_ from p,show B=_ from q]
   have e3:=same w1 C;have e4:=same w2 F;subst e3;subst e4;rw[Qb l1]at e1;rw[Qb l2]at e2;cases e1;cases e2;rfl
  ·rw[Zc (λe=>by
    obtain⟨o,e1,_⟩:∃o,é b=U o/\Àc:=by
     rw[cY];rcases A with rfl|rfl|rfl|rfl|rfl
     ·exact(_,J,trivial)
     ·exact(_,L,trivial)
     ·exact(_,M,trivial)
     ·rw[iN,N];exact(o,e,trivial)
     ·rw[iN,O];exact(o,e,trivial)
    exact lt e1 Ã3)]
   exact(g b A).1
 done:=by
  rw[dh];obtain xs|ys|C|F|l:=hg;rw[jh];have D:ÌT:=⟨Q,Y,Z,d4,d5,d6,d7,d8,d9,qh,Àp T C,Àp Ì2 C,Àp Ì3 C,Àp Ì4 C,
   Àp T F,Àp Ì2 F,Àp Ì3 F,Àp Ì4 F⟩
  refine ZqS (Áx f) D J L M N O r1 r2 Á λR tk hk=>(rfl,?_);have W:∀c o,c ∉ É4->é c=U o->R.get? c=U o:=λc o f e=>by simp only[Áq,ÂT,ÂU,É5]at f;exact hk c o f.1 f.2.2.1 f.2.2.2.1 f.2.2.2.2 e
  have ud:∀b u,H b=U u->b ∉ É4:=λb u e A=>by rw[(g b A).1]at e;cases e
  refine È3 (g':=Åq) (d':=È4) (ch:=É4) (λb A=>((g b A).2.2.2.1,(g b A).2.1,(g b A).2.2.2.2.1,(g b A).2.2.2.2.2))
   (λb G _ _ f e _=>W b G f e) (λb G _ _ f e _=>(G.slots,W b G f e)) (λb G _ e n=>n) (λb G f e=>(G,W b G f e))
   (λb xs e=>e) (λb G u e=>e) Ô4 (λm hm=>?_) #[hU,b,ub,e] Λ
  ·obtain G|es|ep|ho|r:=hm;exact(G,es,ep,W _ G #[zG,g] ho,r)
  ·refine(ê b ub e).stay (λc w' f q=>W c w' ?_ q) (λc q=>q) λc xs q=>q;rcases f with z'|z'
   ·rw[z'];exact ud b ub e
   ·exact ud c _ z'
 self:=λ_ _ _ _ _ st h=>Ö9 st.1 h
def Lm(K:Å)(b:TA):TI:=λc H R=>b c H λvs a=>X4 λS1 S2 xs ys=>vs=[Src.val S1,Src.val S2]/\É2 K a xs/\É3 K a ys/\R (Itz K S1 S2) a
theorem Zu9{X:Cx}{a b:aK}{g:TA}{p pos:Pos}{y:ĳ}{A:Nat}{B:Pos}(C:Gl X "zip")(hm:ğ "zip" = af)(ha:PA X [a,b] g)
  (hs:Ðc:=by rfl) (i:#[fs,b]:=by rfl) :
  PI X (.Tuple y A B) Øa (Lm X.K g):=by
 rw[e3,j,k,R];refine Call_ (VF I C hm boot_zip (Qaf (thn #[gi,j,k] ?_) (by rw[hs,i]) #[sJ,i]));rintro us c ⟨vs,m,d,f,D⟩;obtain S1|S2|xs|ys|e|E|F|q:=D;subst e;obtain u1|u2|rfl|G|J:=f.two;have o:∀ {S:Src} {u:aa},ZE S.val u->∃tk,u=S.value tk:=λ{S u} r=>by
  cases S with
  | l a=>exact(0,r)
  | t a=>exact(0,r)
  | s z=>obtain tk|e:=r;exact(tk,e)
 obtain t1|rfl:=o G;obtain t2|rfl:=o J;obtain gX|f|m1|f1:=d.src E;obtain ij|K|m2|f2:=d.src F;refine ZqZ f K λL v M N O P a3 Q=>Ö9 v ?_;have T:#[gS,j,k,m,c,L]:=d.kept (t':=Åx) Q;have n:=ÑA;refine⟨_,_,_,_,m,rfl,T,Zqh (S1:=S1) (S2:=S2) (z:=ÀX+4) (TI:=ÀX+2) (TO:=ÀX+3) (i1:=ÑA) (i2:=ÀX+1)
  (Qz Çs) (Qz Çs) (Qz (QaG É)) (Qz Çs)
  (Qz Çs) (QX (QaG É)) (QX Çs) (QX (QaG É))
  (QX Çs) (Qz (QaG É)),(v,M,(_,_,N),O,P),λb w=>?_,q⟩
 have x:ÀX<=b:=by
  simp only[Áq,ÂT,ÂU]at w;rcases w with rfl|rfl|rfl|rfl|rfl
  ·exact Qa0 _ 4
  ·exact Qa0 _ 2
  ·exact Qa0 _ 3
  ·exact Qf _
  ·exact Qa0 _ 1
 exact #[zF,x]
section
variable {X:Cx} (K:Å)
theorem ixL(h:X.K=K:=by rfl):IxR X (LH K):=by subst h;exact ZsW
theorem ixT(h:X.K=K:=by rfl):IxR X (LG K):=by subst h;exact ZuC
theorem slL(h:X.K=K:=by rfl):SlR X (LD K):=by subst h;exact Zs4
def Zwb:À V->Hp->VK->Prop:=λxs H Q=>X2 λp ys=>xs=Ν/\#[hF,K,ys]/\Q (.int ĥ) H
theorem Yk(h:X.K=K:=by rfl):YZ X Çh (Zwb K):=by subst h;exact ZjJ
theorem WS(h:X.K=K:=by rfl):YZ X És (Ls K):=by subst h;exact Zq1
theorem Zwz(h:X.K=K:=by rfl):YZ X És (Lr K):=by subst h;exact Zn4
def ZwA:À V->Hp->VK->Prop:=λxs H Q=>X2 λ(p:ae) (bs:À Ï)=>xs=Ν/\SqL K H p (bs.map V.bl)/\Q (.bl (ÉV id)) H
theorem Ll(hc:Ŏ:=by rfl)(h:X.K=K:=by rfl):YZ X #[fo,"all"] (ZwA K):=by subst h;exact ZpM hc
def ZvZ:À V->Hp->VK->Prop:=λxs H Q=>X2 λ(p:ae) (ss:À ak)=>xs=Ν/\SqL K H p Ào/\ī<64 /\
  ∀ (l:ae) (a:À ak),H l=af->a.Perm ss->Ĝ a=true->Q ć Ñh
theorem Zw6(h:X.K=K:=by rfl):YZ X Äy (ZvZ K):=by subst h;exact Zkj
def Zwh:V->À V->Hp->VK->Prop:=λx vs H Q=>X3 λ(sep:ak) (p:ae) (ys:À ak)=>x=.str sep/\vs=Ν/\SqL K H p ÉU/\#[yz].sum+ĥ*ÌI<=16777216/\Q (.str ÖN) H
theorem UU(h:X.K=K:=by rfl):MtR X "str.join" (Zwh K):=by subst h;exact Zsd
theorem iL{b l:aK}{a:TE}(hl:PE X l a)(h:X.K=K:=by rfl):PI X b l (Mp K a):=by subst h;exact Zst hl
theorem gT{a:ĳ}{k:Nat}{t:TGs}{n:Nat}{pos:Pos}(h:PGs X a t)(b:X.K=K:=by rfl)(hc:Ŏ:=by rfl)
  (c:#[zx,a].length=n:=by rfl) (d:#[zx,a].findIdx? ó=af:=by rfl):PG X (.Tuple a k pos) (Mq K n t):=by subst b;exact Zur hc h c d
theorem iZ{a b:aK}{c:TA}{p pos:Pos}{d:ĳ}{e:Nat}{f:Pos}(hm:ğ "zip" = af)(ha:PA X [a,b] c)(g:Gl X "zip":=by rfl)(h:X.K=K:=by rfl)
  (i:Ðc:=by rfl) (j:#[fs,b]:=by rfl) :
  PI X (.Tuple d e f) Øa (Lm K c):=by subst h;exact Zu9 g hm ha i j
universe E
structure Df (P:ay) (w:aF) (K:Å) (mg:Ā) (Â:aI) (k:Nat) (x:ak) (ps:Ñ) (sp:Sp):Prop where
 ex:X2 λf fd=>YY P w K mg Â CX0 k f fd ps sp/\mg x=U Ċ/\Áb K Ċ=true/\YB K fd ps []
section
variable {P:ay} {w:aF} {K:Å} {mg:ak->Ã aa} {Â:aI}
structure Top (K:Å) (mg:Ā) (x:ak) (st:aM) (ps:Ñ):Prop where
 ex:X2 λf fd=>Fun K x x st f fd/\mg x=U Ċ/\YB K fd ps []
theorem Top.df{x:ak}{st:aM}{N ps:Ñ}{k:Nat}{sp:Sp}(T:Top K mg x st ps)(S:Äu)(len:Ãx)
  (c:∀ (a:aa) (f:ae) (A:aD) (Ü:À Env) (s:aj) (H:Hp) (vs:À V) (Q:VK) (E:XK),Zt k #[fG,x]->sp vs H Q E ->
   ∃t,PSs (XH CX0 P w K mg Â N x (Zg st) f a A Ü s H E).nox ÂL t/\t { nx:=λ_ d=>Q .non d,rt:=Q } ÁD H):Df P w K mg Â (k+1) x ps sp:=by
 rw[sN,e];exact(f,e,F.ok S len #[eV,g,c],m,F.kp,b)
universe E
section
variable {X:Cx} {k j:Nat} {x:ak} {ps:À ak} {sp:Sp} {e:aK} {es:À aK} {t:TA} {p pos:Pos}
theorem Zz(F:#[ir,Df])(hr:Âf)(ha:Àk)(a:k<=j:=by decide)(c:Ō:=by rfl)(d:Ĩ:=by decide)
  (g:θ:=by rfl) (h:ÁB:=by rfl) :
  PE X Äo (SY sp [] E0 t):=by
 rw[iM,m,i,b];exact Zsc F Ì5 c m i b .nil Vy ha d g h
theorem Zu8(F:#[ir,Df])(hr:Âf)(a:k<=j:=by decide)(c:Ō:=by rfl)(d:Ĩ:=by decide) :
  PE X Ìm (SY sp [] E0 VA):=by
 rw[iM,m,e,b];exact Zpj F Ì5 c m e b .nil Vy d
theorem XF{T:ŋ}(hm:ğ x=af)(a:c9 x=U (.type T))(b:Ō:=by rfl)(c:È8:=by decide)(hd:Ĩ:=by decide):PE X ÀW (tC (.ty T)) :=
 Ztb b hm a rfl c hd
universe E
theorem PR{lo:Int}{n k:Nat}{D:ae}{a:St}{c:Hp}{g:TG}{d:TE}{Q:VK}(Pv:Øb)(h0:#[h8,c])
  (hs:∀i ys a H,i<n->Pv i ys a H->g (.int (lo+i)) a H λf j=>d f j λy h=>h D=U ÁE/\ĥ<aq/\Pv (i+1) Çt f #[gs,h])
  (hd:#[sQ,a,n]):V2 Õl D k a c g Vx d Q:=by
 rw[eM,a,n];by_cases b:i<n
 ·refine .inr (b,Pv (i+1),λjs aU l o=>(n-(i+1),by lia,rfl,b,o),λx l y=>?_);rw[ew,e,y,y];subst e y;rw[q4];exact hs i ys a _ b p
 ·have e:i=n:=by lia
  subst e;exact .inl (Qf _,hd ys a H p)
theorem SS{K:Å}{S1 S2:Src}{xs ys:Ė}{k:Nat}{D:ae}{a:St}{h:Hp}{g:TG}{j:TE}{Q:VK}(Pv:Øb)(h0:#[h8,h])
  (hl:∀i zs a H,Pv i zs a H->É2 K H xs/\É3 K H ys)
  (hs:∀i zs a H x y p,xs[i]? = U x->ys[i]? = U y->Pv i zs a H->H p=af->g Ū a (upd H p (.tup [x,y])) λl o=>j l o λz n=>n D=U Ż/\zs.length<aq/\Pv (i+1) (zs++[z]) l (upd n D (.lst (zs++[z]))))
  (hd:∀zs a H,Pv (min ã ĥ) zs a H->Q π H):V2 (Itz K S1 S2) D k a h g Vx j Q:=by
 refine(λi m zs a H=>m=min ã ĥ-i/\i<=min ã ĥ/\Pv i zs a H,(min ã ĥ,by simp,Qs _,h0),?_);rintro i m zs a H ⟨rfl,hi,p⟩;obtain b|c:=hl i zs a H p;by_cases q:i<min ã ĥ
 ·have d:i<ã:=by lia
  have f:i<ĥ:=by lia
  refine .inr ((xs,ys,b,c,d,f),Pv (i+1),λjs aU s t=>(min ã ĥ-(i+1),by lia,rfl,q,t),λx s y=>?_);obtain r|u|rfl|e:=y;have v:=e xs ys b c _ _ (Qb d) (Qb f);subst v;rw[q4];exact hs i zs a H _ _ r (Qb d) (Qb f) p u
 ·have e:i=min ã ĥ:=by lia
  refine .inl ((xs,ys,b,c,by lia),hd zs a H Çu)
section
variable {X:Cx} {N N':À ak} {o c:bh} {x:ak} {pos:Pos} {C:ae} {s:aj} {H:Hp} {fp:À ae}
theorem PQ(S:Àm)(a:Àn)(hl:ÑB):(É6).env.scope.names.lookup x=U .local:=by have e:=#[tA,a,C];rw[hl]at e;exact e
theorem WI(S:Àm)(a:Àn)(hl:ū x=U .globalImplicit):Gl É6 x:=by have e:=#[tA,a,C];rw[hl]at e;exact e
theorem Zri(S:Àm)(b:Àn)(hl:Ñb):Vis (É6).env.scope x:=by
 have e:=#[tA,b,C];rw[hl]at e;have a:(É6).env.scope.names.lookup x=if ÂD x=U .cell then U ÌE else U Äv:=e
 by_cases z:ÂD x=U .cell
 ·rw[sX,z,a];exact .inr (.inl a)
 ·rw[hI,z,a];exact .inr (.inr a)
theorem cv(i:Nat)(S:Àm)(a:Àn)(hl:Ñb)(b:N'[i]? = U x:=by rfl)(hd:Ĩ:=by decide)(d:ËY:=by decide) :
  PE É6 ÀW (S9 i):=Rs b (Zri S a hl) hd d
theorem cw(i:Nat)(S:Àm)(a:Àn)(hl:ÑB)(b:N'[i]? = U x:=by rfl)(hd:Ĩ:=by decide)(d:ËY:=by decide) :
  PE É6 ÀW (S9 i):=Rs b (.inl (PQ S a hl)) hd d
theorem cg(i:Nat)(S:Àm)(a:Àn)(hl:ÑB)(b:N'[i]? = U x:=by rfl):PG É6 ÀW (S7 i) :=
 Zy S.nd b (.inl (PQ S a hl)) (.inr (PQ S a hl))
universe E
mutual
inductive DV (K:Å) (H:Hp):V->aE->Prop where
 | non:DV K H .non .none
 | bl (b:Ï):DV K H (.bl b) (.bool b)
 | int (i:Int):DV K H (.int i) (.int i)
 | str (s:ak):DV K H (.str s) (.str s)
 | lst {a:ae} {xs:À V} {ds:À aE}:SqL K H a xs->DVs K H xs ds->DV K H (.ref a) (.list ds)
 | tup {a:ae} {xs:À V} {ds:À aE}:SqT K H a xs->DVs K H xs ds->DV K H (.ref a) (.tuple ds)
inductive DVs (K:Å) (H:Hp):À V->À aE->Prop where
 | nil:DVs K H [] []
 | Î {x:V} {d:aE} {xs:À V} {ds:À aE}:DV K H x d->DVs K H xs ds->DVs K H (x::xs) (d::ds)
end
section
variable {X:Cx} {ai:À (ae×aN)} {σ:St} {H:Hp} {s:aj}
mutual
theorem Inv.reads(I:ä):∀ {x:V} {d:aE} {u:aa},DV X.K H x d->ZE x u->∃a,Reads Ë u d a
 | _,_,_,.non,r=>by cases r;exact(_,.none)
 | _,_,_,.bl b,r=>by cases r;exact(_,.bool b)
 | _,_,_,.int i,r=>by obtain t|rfl:=r;exact(_,.int i t)
 | _,_,_,.str z,r=>by obtain t|rfl:=r;exact(_,.str z t)
 | _,_,_,.lst h c,r=>by cases r;obtain its|f|⟨o,n,e,g,_,j⟩|_:=Á5 h;rw[xU];exact(_,reads_list_at e g j #[eg,q])
 | _,_,_,.tup h c,r=>by cases r;obtain its|f|⟨o,e,g,n,j⟩|_:=Ã7 h;rw[xU];exact(_,reads_tuple_at e g j #[eg,q])
theorem ÑC(I:ä):∀ {xs:À V} {ds:À aE} {us:À aa},DVs X.K H xs ds->ZG xs us->∃a,ReadsAll Ë us ds a
 | _,_,_,.nil,r=>by cases r;exact(_,.nil)
 | _,_,_,.cons h hs,r=>by
  cases r with
  | Î b c=>obtain a|d:=Inv.reads I h b;obtain bs|e:=ÑC I hs c;exact(_,.cons d e)
end
def SR(K:Å)(a:Ï):R2:=λx y H Q=>X2 λd e=>DV K H x d/\DV K H y e/\ÂV d=true/\ÂV e=true/\Q (.bl (if a then !aE.eqv d e else ÂW d e)) H
theorem ZuZ(hu:ÑD):OpR X (aQ .Eq) (SR X.K false):=by intro ai s σ H x y v u Q I a b h;obtain d|e|c|f|g|i|q:=h;obtain as|j:=É7 c a;obtain bs|k:=É7 f b;exact eq_dataH j k g i hu #[zA,_,q]
theorem Zue(hu:ÑD):OpR X (aQ .NotEq) (SR X.K true):=by intro ai s σ H x y v u Q I a b h;obtain d|e|c|f|g|i|q:=h;obtain as|j:=É7 c a;obtain bs|k:=É7 f b;exact ne_dataH j k g i hu #[zA,_,q]
universe E
theorem eqD{X:Cx}(K:Å){k:Nat}(hr:ι)(h:X.K=K:=by rfl):OpR X (aQ .Eq) (SR K false):=by subst h;exact ZuZ ÌB
theorem neD{X:Cx}(K:Å){k:Nat}(hr:ι)(h:X.K=K:=by rfl):OpR X (aQ .NotEq) (SR K true):=by subst h;exact Zue ÌB
mutual
theorem DV.mono{K:Å}{H a:Hp}(s:ZB H a):∀ {x:V} {d:aE},DV K H x d->DV K a x d
 | _,_,.non=>.non
 | _,_,.bl b=>.bl b
 | _,_,.int i=>.int i
 | _,_,.str z=>.str z
 | _,_,.lst h hs=>.lst (s.seq h) ÑE
 | _,_,.tup h hs=>.tup (by
   rcases h with(h|⟨ob,h⟩)|h
   ·exact .inl (.inl (s _ _ h))
   ·exact .inl (.inr (ob,s _ _ h))
   ·exact .inr h) ÑE
theorem DVs.mono{K:Å}{H a:Hp}(s:ZB H a):∀ {xs:À V} {ds:À aE},DVs K H xs ds->DVs K a xs ds
 | _,_,.nil=>.nil
 | _,_,.cons h hs=>.cons (DV.mono s h) ÑE
end
def Ite(K:Å)(a:ae):It :=
 ⟨λi H=>∃b,SqL K H a b/\i<ħ,
  λi H v c=>∃p,H p=af/\v=.ref p/\∀b,SqL K H a b->∀x,b[i]? = U x->c=upd H p (.tup [.int i,x]),
  λi H=>∃b,SqL K H a b/\ħ<=i⟩
theorem Zol{P:ay}{w:aF}{K:Å}{R:ĳ}{S:Nat}{T:Pos}{a e it:ae}(G:e≠it) :
  WB P w K (.Tuple R S T) (Ite K a) [e,it] e (λi h=>(∃l,IsEnum h e it i l)/\Ée it a i) where
 mem:=by simp
 obj:=λi h st b d=>by
  obtain ⟨l,f⟩|o|g|j|V:=st;rw[57];rcases d with rfl|rfl
  ·rw[fx,f,v,z]
  ·exact(o,g,λv z=>by rw[V]at z;cases z)
 ċ:=λi h r st k=>by obtain ⟨l,f⟩|g:=st;exact((l,k e Ö _ f),g.at λo q=>k it Ö o q)
 item:=by
  intro X t hw y j i J s L H E I n st A;rw[dt];obtain u|W|Y:=C.get (Qb B);refine wpAny_pyNext_enum_item f g D.isList (x:=u) #[eg,W] G λr Z a2 a3 a4 a5=>?_;have lt:Ñz:=λq=>QX (Qr q);have ue:Ð≠e:=lt f;refine(_,rfl,wpAny_letOwnedTupleGo_enum Z λF N qi=>?_);have m:#[zy,e,r,F]:=qi;have O:F.IsListIter it a (i+1):=a2.extBut É8 G.symm;have I2:Inv X J L (upd H Ð (.tup [.int i,M[i]])) { s with Õ:=F,î:=ń+1 }:=by
   refine I.zipped (fp:=[e,it]) (u:=.int i ń) (v:=u) n ü Y (É8 _ _ ue a3) (λb d=>?_) λc o j q=>?_
   ·rw[57];rcases d with rfl|rfl
    ·exact(_,N)
    ·obtain o|q|_:=O;exact(o,q)
   ·simp only[Áq,ÂT,ÂU,É5]at j;exact É8 _ _ j.1 (a5 c o j.1 j.2 q)
  refine(.ref Ð,_,I2,rfl,(Ð,ÉH,rfl,λxs' w1 x' Q=>?_),((_,N),O),λb d=>?_)
  ·have e3:=Ða w1 p;subst e3;rw[Qb B]at Q;cases Q;rfl
  ·rw[Zc (λz=>by
    obtain⟨o,q⟩:∃o,é b=U o:=by
     rw[57];rcases d with rfl|rfl
     ·exact(_,f)
     ·obtain o|q|_:=g;exact(o,q)
    exact lt q ÅN)]
   exact(n b d).1
 done:=by intro X t hw y j i J s L H E I n st A;rw[dt];rw[ue];have hl:=C.length;exact wpAny_pyNext_enum_end (Áx j) f g D.isList #[fd,Qau,QW,Á] λr eb=>(rfl,À9 (t':=ř) (λb o d q=>eb b o d q) f0 f1 f3 f4 f5)
 self:=λ_ _ _ _ _ st h=>by obtain ⟨l,f⟩|_:=st;exact Øc f h
def Lk(K:Å)(c:TA):TI:=λd H R=>c d H λvs b=>X2 λa xs=>vs=[ù a]/\SqL K b a xs/\R (Ite K a) b
theorem ZsC{X:Cx}{l:aK}{f:TA}{p pos:Pos}{o:ĳ}{r:Nat}{t:Pos}(v:Gl X "enumerate")(hm:ğ "enumerate" = af)(ha:PA X [l] f)
  (hs:#[fs,l]:=by rfl):PI X (.Tuple o r t) Ød (Lk X.K f):=by
 rw[e3,g,i,R];refine Call_ (VF I v hm boot_enumerate (Qaf (thn #[gi,g,i] ?_) hs rfl));rintro us c ⟨vs,j,d,w,x⟩;obtain a|xs|e|y|q:=x;subst e;obtain u|rfl|z:=w.one;cases z;obtain its|rv|A|_:=d.list y;refine call_enumerate_list A.isList λB k C hsz D=>Øc k ?_;have E:#[gS,g,i,j,c,B]:=d.kept (t':=Åx) D;refine(_,_,_,_,j,rfl,E,Zol (a:=a) (e:=ÀX+1) (it:=ÑA) (QX Ðu),((_,k),C),λb m=>?_,q);have n:ÀX<=b:=by
  simp only[Áq,ÂT,ÂU]at m;rcases m with rfl|rfl
  ·exact Qa0 _ 1
  ·exact Qf _
 exact #[zF,n]
theorem iE{X:Cx}(K:Å){l:aK}{a:TA}{p pos:Pos}{b:ĳ}{c:Nat}{d:Pos}(hm:ğ "enumerate" = af)(ha:PA X [l] a)(e:Gl X "enumerate":=by rfl)(f:X.K=K:=by rfl)
  (g:#[fs,l]:=by rfl):PI X (.Tuple b c d) Ød (Lk K a):=by subst f;exact ZsC e hm ha g
theorem SQ{K:Å}{a:ae}{xs:Ė}{g:TG}{l:TS}{D:XS}{b:St}{H:Hp}(Pv:Éh)(h0:Pv 0 b H)(hl:∀i b H,Pv i b H->SqL K H a xs)
  (hs:∀i x b H p,xs[i]? = U x->Pv i b H->H p=af->g Ū b (upd H p (.tup [.int i,x])) λf h=>l { D with nx:=Pv (i+1),ct:=Pv (i+1),bk:=č } f h) (hd:Õn) :
  ∃W:Nat->Nat->St->Hp->Prop,#[tc,b]/\∀i m b H,W i m b H ->
   ((Ite K a).stop i H/\č b H)\/((Ite K a).go i H/\∃N:St->Hp->Prop,#[fC,j,c,n]/\∀x c,(Ite K a).yld i H x c->g x b c λf h=>l { D with nx:=N,ct:=N,bk:=č } f h):=by
 refine Õo;rintro i m b H ⟨rfl,hi,p⟩;have k:=hl i b H p;by_cases d:i<ã
 ·refine .inr ((xs,k,d),Pv (i+1),λj c o=>(ã-(i+1),by lia,rfl,d,o),λx c y=>?_);obtain r|q|rfl|e:=y;have s:=e xs k _ (Qb d);subst s;exact hs i _ b H r (Qb d) p q
 ·have e:Ë6:=by lia
  exact .inl ((xs,k,by lia),hd b H Çu)
def ZuY(K:Å):À V->Hp->VK->Prop:=λxs H Q=>X2 λp ys=>xs=Ν/\#[hF,K,ys]/\∀l,H l=af->Q ć #[tz,l]
theorem Zwm{X:Cx}(K:Å)(h:X.K=K:=by rfl):YZ X ÂK (ZuY K):=by subst h;exact ZjT
section
variable {X:Cx}
theorem inQ(K:Å)(h:X.K=K:=by rfl):OpR X (aQ .In) (rIn K false):=by subst h;exact Zov
universe E
def Its(z:ak):It:=(λi _=>i<Äz,λi H v a=>a=H/\∃c,Âd[i]? = U c/\v=.str ź,λi _=>Äz<=i)
theorem Zoy{P:ay}{w:aF}{K:Å}{F:aK}(z:ak)(t:Tok)(it:ae):WB P w K F (Its z) [it] it (λi h=>Ñk it "str_ascii_iterator" z t i) where
 mem:=by simp
 obj:=λi h st b a=>by
  have e:b=it:=by simpa using a
  rw[19]
 ċ:=λi h f st k=>by obtain o|e|r:=st;exact Ì6
 item:=by intro X j hw l y i A s B H E I g st m;rw[po];refine wpAny_pyNext_ascii_item st C λf D J=>?_;rw[13]
 done:=by intro X j hw l y i A s B H E I g st m;rw[bg];exact wpAny_pyNext_ascii_end (Áx y) st (Qba m) λf M=>(rfl,À9 (t':=ř) #[ff,b,a,M] n p q u x)
 self:=#[hZ,wpAny_pyIter_striter_ascii]
theorem ZoS{P:ay}{w:aF}{K:Å}{F:aK}(z:ak)(t:Tok)(it:ae):WB P w K F (Its z) [it] it (λi h=>Ñk it "str_iterator" z t i) where
 mem:=by simp
 obj:=λi h st b a=>by
  have e:b=it:=by simpa using a
  rw[19]
 ċ:=λi h f st k=>by obtain o|e|r:=st;exact Ì6
 item:=by intro X j hw l y i A s B H E I g st m;rw[po];refine wpAny_pyNext_wide_item st C λf D J=>?_;rw[13]
 done:=by intro X j hw l y i A s B H E I g st m;rw[bg];exact wpAny_pyNext_wide_end (Áx y) st (Qba m) λf M=>(rfl,À9 (t':=ř) #[ff,b,a,M] n p q u x)
 self:=#[hZ,wpAny_pyIter_striter_wide]
section
variable {X:Cx} {tg:aK}
def Zxe(a:TE):TI:=λb H R=>a b H λx c=>∃z,x=.str z/\R (Its z) c
theorem Lj{l:aK}{f:TE}(hl:PE X l f):PI X tg l (Zxe f):=by
 rw[st,g,j];rintro v a ⟨x,d,c,k,m⟩;rw[hD,z,e,q,m];subst e;rw[tj,k];have fp:∀b∈[Àj],Xs X g d b:=λb n=>by
  have e:b=Àj:=by simpa using n
  subst e;exact c.fpOk ç (c.hok.fresh ç)
 cases i:Ñm (·<128)
 ·exact wpAny_pyIter_wide i (Àj,ÑF,_,_,d,rfl,c.kept (t':=Æ1) λb o e=>Qc _ e,ZoS z t _,Äa,fp,q)
 ·exact wpAny_pyIter_ascii i (Àj,ÑF,_,_,d,rfl,c.kept (t':=Æ1) λb o e=>Qc _ e,Zoy z t _,Äa,fp,q)
theorem Li{z:ak}{g:TG}{k:TS}{D:XS}{a:St}{H:Hp}(Pv:Éh)(h0:Pv 0 a H)
  (hs:∀i c a H,Âd[i]? = U c->Pv i a H->g (.str ź) a H λd f=>k { D with nx:=Pv (i+1),ct:=Pv (i+1),bk:=č } d f) (hd:#[td,Äz]) :
  ∃W:Nat->Nat->St->Hp->Prop,#[tc,a]/\∀i m a H,W i m a H ->
   ((Its z).stop i H/\č a H)\/((Its z).go i H/\∃N:St->Hp->Prop,#[fC,h,b,l]/\∀x b,(Its z).yld i H x b->g x a b λd f=>k { D with nx:=N,ct:=N,bk:=č } d f):=by
 rw[eO,Äz];by_cases j:i<Äz
 ·refine .inr (j,Pv (i+1),λh b n=>(Äz-(i+1),by lia,rfl,j,n),λx b y=>?_);obtain rfl|c|o|rfl:=y;exact hs i c a _ o p
 ·have e:i=Äz:=by lia
  exact .inl (Öh j,hd a H Çu)
theorem Lh:OpR X (aQ .Gt) (λx y H Q=>X2 λi j=>x=.str i/\y=.str j/\Q (.bl (decide Øe)) H):=by intro ai s σ H x y v u Q I a b h;obtain i|j|rfl|rfl|q:=h;obtain t|rfl:=a;obtain t'|rfl:=b;exact PySem.P.gt_str Ë9
universe E
def SO:aE->ak
 | .str z=>z
 | d=>d.shown
def Lg(K:Å):À V->Hp->VK->Prop:=λxs H Q=>X2 λx d=>xs=[x]/\DV K H x d/\ÅO d=true/\d.intsShort 13=true/\d.showable=true/\Q (.str (SO d)) H
theorem Zo5{X:Cx}(p:X.A.guards=U [])(hu:É9+64+30<ÂJ):YZ X ÁF (Lg X.K):=by
 rw[hE,y,B,xs];obtain x|d|rfl|l|c|C|m|q:=h;obtain u|rfl|f:=X1 r;have D:d.shown.length<=aq:=Qk (shown_le13 c C) #[fY,aO];have hdp:d.depth<=64:=by unfold ÅO at c;rw[Q3,Q3]at c;exact Ŀ c.1.2
 have E:d.canLay0=true:=by unfold ÅO at c;rw[Q3,Q3]at c;exact c.1.1
 have ref:∀a,u=.ref a->SO d=d.shown->ô (Ĵ ÁF [u]) (EP X y B Q) è s:=λa G J=>by
  subst G;obtain as|K:=É7 l f;rw[J]at q;exact callType_new F.called_str É (F.typeCall_str_1 _) (F.newCall_str_1 _) (λobj=>F.args_object_init_2 obj _) F.entry_str_new
   (meets_str_new (v:=.ref a) (S:=λA R n=>n=s/\A=X.A.in1/\∀g u tk,#[fF,o,é,ÆD]->R (.ok (.ret (.str d.shown u))) { s with Õ:=g,î:=tk }) λprog w A R n j=>by obtain rfl|rfl|j:=j;exact strOf_of_reads K m (aE.noDict_hsm (aE.hasDict_of_canLay d E)) p (by show É9+1+1+(d.depth+1)<ÂJ;lia) ËU (λg u tk k=>j g u tk k) D)
   (rfl,rfl,λg u tk k=>(ÉC _ _ _,.str _,H,ÂG k,ü,q))
 cases l with
 | non=>cases f;exact PySem.P.str_of_none #[gr,_,q]
 | bl b=>cases f;exact PySem.P.str_of_bool #[gr,_,q]
 | int i=>obtain t|rfl:=f;exact PySem.P.str_of_int (Ŀ m) #[gr,_,q]
 | str z=>obtain t|rfl:=f;exact PySem.P.str_of_str ÖQ
 | lst L M=>cases f;exact ref _ rfl rfl
 | tup L M=>cases f;exact ref _ rfl rfl
theorem SN{X:Cx}(K:Å){k:Nat}(hr:ι)(h:X.K=K:=by rfl):YZ X ÁF (Lg K):=by subst h;exact Zo5 hr.gd (by have:=hr.un;lia)
section
variable {X:Cx} {ai:À (ae×aN)} {σ:St} {H:Hp} {s:aj}
def ZvN:TE:=λ_ H Q=>∀p,H p=af->Q Ū (upd H p (.dT []))
theorem Lf{pos:Pos}:PE X (.Dict [] [] pos) ZvN:=by intro ai s σ H Q I h;have a:#[ts,bD]:=Qbb É (show aL<Ð from#[y2].lt);refine Øf (.ref Ð,upd H Ð (.dT []),?_,rfl,h _ Ãw);refine ÀY (t':=ř) ÉG ç ?_;refine(Qs _,?_,[],.nil,_,#[],0,Qt _ rfl,ÑG,rfl,rfl,List.nodup_nil);exact Æz λz=>Qag _ (z ▸ a)
universe E
def Wh(lo:Int)(n:Nat):À Int:=(ÂO n).map λ(k:Nat)=>lo+k
theorem Le(lo:Int)(n:Nat):(Wh lo n).length=n:=by simp[Wh]
section
variable {X:Cx}
theorem Uh{ñ:ay}{w:aF}{A:aD}{E:ð}{s:aj}{a:ae}{o:aN}{xs:Á7}{n:Nat}{Q:ā aa->aj->Prop}(b:é a=U o)(hd:ų=.seq xs n)(h:Q xs s):ar Ô A (ÑH ĩ) Q E s:=by unfold ÑH;exact ah (bj b hd (av h))
theorem SM(ns:Ø):∀n,n<=Ĉ->preSum (λj=>ns.getD j 0) n=(Çv n).sum
 | 0,_=>rfl
 | n+1,h=>by
  have ih:=SM ns n Á;have e:Çv (n+1)=Çv n++[ns.getD n 0]:=by rw[QH,Qb Á,QP,Qb Á];rfl
  rw[e,Qaz,<- ih];simp[preSum]
universe E
section
variable {ñ:ay} {w:aF} {A:aD} {E:aa->aj->Prop} {s:aj} {κ:ÄE} {k0:ÂX} {aW:ā ÁG} {st:Ζ}
def Wy(ñ:ay)(w:aF)(A:aD)(s:aj)(k0:ÂX)(κ:ÂY):Prop :=
 ∀ (E:aa->aj->Prop) (x y:aa) (a b:κ.α) (Q:Ï->aj->Prop),Çw x=U a->Çw y=U b->Q (ÅP a b) s->ar Ô A (keyLt' k0 x y) Q E s
structure SB (k0:ÂX) (aW:ÃD) (st:Ζ):Prop where
 perm:(Ē).Perm aW
 kind:ν st=k0
 failed:ÅQ st=af
 pend:Áe st = #[]
theorem SB.size(B:Âg):(Ē).size=ŀ:=B.perm.size_eq
theorem SB.at(B:Âg)(hk:ÃE){i:Nat}(hi:i<ŀ):X2 λx p=>(Ď st)[i]? = U (x,p,)/\Çw x=U (KK κ Ē i):=by
 have hs:=B.size;have e:Ē[i]? = U Ē[i]:=Qaw Á;have b:Ē[i]∈aW.toList:=by have c:Ē[i]∈Ď st:=Array.getElem_mem Á;have d:=(B.perm.mem_iff (a:=Ē[i])).mp c;simpa using d
 obtain a|f:=hk _ b;refine(Ē[i].1,Ē[i].2,e,?_);unfold KK;rw[e];show _=U ((Çw Ē[i].1).getD κ.dflt);rw[f];rfl
theorem SB.set(B:Âg){xs:ÃD}(h:xs.Perm Ē):SB k0 aW (setArr st xs):=(h.trans B.perm,B.kind,B.failed,B.pend)
theorem w_elem{arr:ÃD}{i:Nat}{p:ÁG}{Q:#[ta,ÁG]}(h:arr[i]? = U p)(q:Q p st):wpS Ô A E s (elem' arr i) Q st:=by rw[elem'_eq,h];exact Ŭ q
theorem w_lt(a:ÄF)(hk:ÃE)(B:Âg){i j:Nat}(b:i<ŀ)(c:j<ŀ){Q:Ã Ï->Ζ->Prop}(q:Q (U (ÅP (KK κ Ē i) (KK κ Ē j))) st):wpS Ô A E s (ltAt' i j) Q st:=by obtain x|p|d|e:=B.at hk b;obtain y|p'|f|g:=B.at hk c;rw[ltAt'_eq];refine Ő (Êa ?_);show wpS _ _ _ _ (elem' Ē i >>= _) _ _;refine Ő (w_elem d (Ő (w_elem f ?_)));rw[lt'_eq];refine Ő (Êa (Ő (wpS_lift (Ñp ?_))));rw[B.kind];refine a _ x y _ _ _ e g ÅR;exact Ŭ q
theorem Zq6{xs:ÃD}{i:Nat}(h0:1<=i)(S:ŭ κ xs i)(h:ÁH (KK κ xs (i-1)) (KK κ xs i)):ŭ κ xs (i+1):=by
 intro a b c hb;by_cases e:b<i
 ·exact S a b c e
 ·have d:b=i:=by lia
  subst d;by_cases f:a=b
  ·subst f;exact Çx
  ·exact Ì7 (S a (b-1) Á Á) h
theorem w_asc(g:ÄF)(hk:ÃE){a b:Nat}(hn:b<=ŀ)(h1:1<=a)(ha:a<=b)(B:Âg)(S:ŭ κ Ē a){Q:#[ta,AscSt]}
  (q:∀n,a<=n->n<=b->ŭ κ Ē n->(n=b\/κ.klt (KK κ Ē n) Ì8)->Q (af,n,) st):wpS Ô A E s (ascLoop a b) Q st:=by
 unfold ascLoop;refine Çy (λi c d=>d=st/\c=(af,i,)/\ŭ κ Ē i) ?_ ?_ (rfl,rfl,S)
 ·rintro i c d h mU ⟨rfl,rfl,e⟩;refine Ő (w_lt g hk B ÑI ÑJ ?_);cases f:ÅP (KK κ (Ď d) i) (KK κ (Ď d) (i-1)) with
  | true=>exact Ŭ (q i h Á e (.inr f))
  | false=>exact Ŭ (rfl,rfl,Zq6 Á e f)
 ·rintro c d ⟨rfl,rfl,e⟩;rw[show max a b=b by lia]at e ⊢;exact q b ha ç e Ğ
theorem w_rev{i j:Nat}{Q:#[ta,Unit]}(q:Q () (setArr st #[tl,i,j])):wpS Ô A E s (reverseSlice' i j) Q st:=wpS_reverse q
theorem w_desc(C:ÄF)(hk:ÃE){n h:Nat}(hn:h<=ŀ)(h1:1<=n)(G:n<=h)(B:Âg)(S:ÅS κ Ē n){Q:#[ta,DescSt]}
  (q:∀ (m f:Nat) (d:Ζ),SB k0 aW d->n<=m->m<=h->ÅS κ Ξ m->f+1<=m->(∀i,m-(f+1)<=i->i<m->KK κ Ξ i=KK κ Ξ (m-1))->Q (af,m,f,) d):wpS Ô A E s (descLoop n h) Q st:=by
 unfold descLoop;refine Çy (λi c d=>∃f,c=(af,i,f,)/\SB k0 aW d/\n<=i/\i<=h/\ÅS κ Ξ i/\f+1<=i/\(∀k,i-(f+1)<=k->k<i->KK κ Ξ k=KK κ Ξ (i-1))) ?_ ?_ ?_
 ·rintro i c d Et mU ⟨f,rfl,g,t,u,j,v,l⟩;have Ę:∀ (p:Ζ),SB k0 aW p->(∀k,KK κ (Ď p) k=KK κ Ξ k)->ÁH (KK κ Ξ i) (KK κ Ξ (i-1))->ÅS κ (Ď p) (i+1):=λp B2 e r a b H x=>by
   rw[e a,e b];by_cases y:b<i
   ·exact j a b H y
   ·have I:b=i:=by lia
    subst I;by_cases J:a=b
    ·subst J;exact Çx
    ·exact Ì7 r (j a (b-1) Á Á)
  refine Ő (w_lt C hk g ÑI ÑJ ?_);cases x:ÅP (KK κ (Ď d) i) (KK κ (Ď d) (i-1)) with
  | true =>
   have r:ÁH (KK κ Ξ i) (KK κ Ξ (i-1)):=ÑK x;rw[q5];by_cases D:f>0
   ·rw[Æ D];refine Ő (w_rev (Ŭ ?_));have e:∀k,KK κ (mirror Ξ (i-(f+1)) i ((i-(i-(f+1))) / 2)) k=KK κ Ξ k:=ÑL #[fL,g.size] (λk h1 o=>l k h1 o);refine(0,rfl,g.set Ì9,by lia,by lia,Ę _ (g.set Ì9) e r,by lia,λk h1 o=>?_);have:k=i:=by lia
    subst this;rfl
   ·rw[zE,D];refine Ŭ (0,rfl,g,by lia,by lia,Ę _ g (λ_=>rfl) r,by lia,λk h1 o=>?_);have:k=i:=by lia
    subst this;rfl
  | false =>
   refine Ő (w_lt C hk g ÑJ ÑI ?_);cases F:ÅP (KK κ (Ď d) (i-1)) (KK κ (Ď d) i) with
   | true=>exact Ŭ (q i f d g t u j v l)
   | false =>
    have K:=κ.total _ _ x F;refine Ŭ (f+1,rfl,g,by lia,by lia,Ę _ g (λ_=>rfl) F,by lia,λk h1 o=>?_);show KK κ Ξ k=KK κ Ξ i;by_cases z:k=i
    ·rw[z]
    ·rw[K];exact l k Á Á
 ·rintro c d ⟨f,rfl,g,t,u,j,v,l⟩;rw[show max n h=h by lia]at *
  exact q h f d g t u j v l
 ·refine(0,rfl,B,Qf _,G,S,by lia,λk h1 o=>?_);have:k=n-1:=by lia
  rw[this]
theorem w_tail(g:ÄF)(hk:ÃE){n c:Nat}(h:c<=ŀ)(h1:1<=n)(k:n<=c)(B:Âg)(N:ÅS κ Ē n){Q:ÑM}
  (q:∀ (m:Nat) (d:Ζ),SB k0 aW d->1<=m->m<=c->ŭ κ Ξ m->Q (U m) d):wpS Ô A E s (tail3 n c) Q st:=by
 unfold tail3;rw[q6];have f:=B.set (mirror_perm Ē 0 n ((n-0) / 2));have e:=KK_mirror (κ:=κ) (xs:=Ď st) (i:=0) (j:=n) #[fL,B.size];have S:ŭ κ #[tl,0,n] n:=λa b eY hb=>by rw[e a,e b,Æ ÃF,Æ ÃF];exact N _ _ Á Á
 refine Ő (w_asc g hk h h1 k f S λm fo l o _=>?_);exact Ŭ (q m _ f Á l o)
theorem w_part(g:ÄF)(hk:ÃE){n d:Nat}(h:d<=ŀ)(p:n+1<=d)(B:Âg)(N:ÅS κ Ē (n+1)){Q:ÑM}
  (q:∀ (m:Nat) (c:Ζ),SB k0 aW c->1<=m->m<=d->ŭ κ (Ď c) m->Q (U m) c):wpS Ô A E s (descPart n d) Q st:=by
 unfold descPart;rw[qe];refine Ő (w_desc g hk h Á p B N λm f c i m1 j l hq r=>?_);rw[q5];by_cases o:f>0
 ·rw[Æ o];rw[q6];have e:∀k,KK κ (mirror (Ď c) (m-(f+1)) m ((m-(m-(f+1))) / 2)) k=KK κ (Ď c) k:=ÑL #[fL,i.size] (λk t u=>r k t u);exact w_tail g hk h Á j (i.set Ì9) (λa b v x=>by rw[e a,e b];exact l a b v x) q
 ·rw[zE,o];exact w_tail g hk h Á j i l q
theorem w_count(g:ÄF)(hk:ÃE){c:Nat}(h:c<=ŀ)(h1:1<=c)(B:Âg){Q:ÑM}
  (q:∀ (m:Nat) (i:Ζ),SB k0 aW i->1<=m->m<=c->ŭ κ (Ď i) m->Q (U m) i):wpS Ô A E s (countRun' 0 c) Q st:=by
 rw[countRun0_eq];refine Ő (w_asc g hk h (Qf 1) h1 B (λa b j f=>by obtain rfl:a=b:=Á;exact Çx) λn o p S u=>?_);show wpS _ _ _ _ (if (n == c)=true then _ else _) _ _;by_cases l:n=c
 ·rw[Æ #[fd,l,Ña,_]];exact Øg
 ·rw[Ç (by intro z;exact l (eq_of_beq z))];have v:=u.resolve_left l;have r:(∀k,k<n->KK κ Ē k=KK κ Ē (n-1))->ÅS κ Ē (n+1):=λd a b j f=>by
   by_cases x:b<n
   ·rw[d a Á,d b x];exact Çx
   ·have y:b=n:=by lia
    subst y;by_cases C:a=b
    ·subst C;exact Çx
    ·rw[d a Á];exact ÑK v
  by_cases t:n>1
  ·rw[Æ t];refine Ő (w_lt g hk B Á Á ?_);cases f:ÅP (KK κ (Ď st) 0) (KK κ (Ď st) (n-1)) with
   | true=>exact Øg
   | false =>
    have d:∀k,k<n->KK κ Ē k=KK κ Ē (n-1):=λk D=>by have F:ÁH (KK κ Ē k) Ì8:=S k (n-1) Á Á;have G:ÁH Ì8 (KK κ Ē k):=Ì7 (show ÁH Ì8 (KK κ Ē 0) from f) (S 0 k Á Á);exact KeyOrd.kle_antisymm F G
    rw[q6];have e:∀k,KK κ #[tl,0,n] k=KK κ Ē k:=ÑL #[fL,B.size] (λk _ H=>d k H);exact w_part g hk h Á (B.set Ì9) (λa b j f=>by rw[e a,e b];exact r d a b j f) q
  ·rw[zE,t];exact w_part g hk h Á B (r λk D=>by rw[show k=n-1 by lia]) q
theorem Ld{xs:ÃD}{k l:Nat}(hk:k<xs.size)(hl:l<=k)(e:ŭ κ xs k)(h:∀j,j<l->ÁH (KK κ xs j) (KK κ xs k))(i:∀j,l<=j->j<k->κ.klt (KK κ xs k) (KK κ xs j)) :
  ŭ κ (bubble xs (0+k) (0+k-(0+l))) (k+1):=by
 have f:=KK_bubble (κ:=κ) (xs:=xs) (src:=0+k) (d:=0+k-(0+l)) Á Á;intro a b m hb;rw[f a,f b];rw[show 0+k=k by lia,show 0+l=l by lia,show k-(k-l)=l by lia];by_cases g:a=l
 ·rw[Æ g];by_cases c:b=l
  ·rw[Æ c];exact Çx
  ·rw[Ç c,Æ ÃF];exact ÑK (i (b-1) Á Á)
 ·rw[zE,g];by_cases n:a<l
  ·rw[zE,Á];by_cases c:b=l
   ·rw[Æ c];exact h a n
   ·rw[zE,c];by_cases o:l<b
    ·rw[Æ (o,by lia)];exact e a (b-1) Á Á
    ·rw[zE,Á];exact e a b m Á
  ·rw[Æ ÃF,Ç Á,Æ ÃF];exact e (a-1) (b-1) Á Á
theorem w_binary(v:ÄF)(hk:ÃE){n ok:Nat}(hn:n<=ŀ)(h1:ok<=n)(h0:1<=ok)(B:Âg)(S:ŭ κ Ē ok){Q:#[ta,Ï]}
  (q:∀ (a:Ζ),SB k0 aW a->ŭ κ ÃG n->Q true a):wpS Ô A E s (binarySort' 0 n ok) Q st:=by
 rw[binarySort'_eq];rw[wU];refine Çy (λi c a=>c=(af,(),)/\SB k0 aW a/\ŭ κ ÃG i) ?_ ?_ (rfl,B,by rw[show max ok 1=ok by lia];exact S)
 ·rintro k c a hak Ev ⟨rfl,b,d⟩;have k1:1<=k:=by lia
  rw[wU];refine Çy (λi c e=>X2 λl r=>c=(af,l,r,)/\e=a/\l<=r/\r<=k/\r-l<=k-i/\(∀j,j<l->ÁH (KK κ ÃG j) (KK κ ÃG k))/\(∀j,r<=j->j<k->κ.klt (KK κ ÃG k) (KK κ ÃG j))) ?_ ?_ (0,k,rfl,rfl,Qs _,Qf _,by lia,λj h=>by lia,λj h1 p=>by lia)
  ·rintro i c e hi0 hik ⟨l,r,rfl,rfl,x,m,y,f,g⟩;show wpS _ _ _ _ (if l>=r then _ else _) _ _;by_cases t:l>=r
   ·rw[Æ t];refine Ŭ ?_;have o:l=r:=by lia
    rw[ai]
   ·rw[zE,t];refine Ő (w_lt v hk b (by show 0+k<_;lia) (by show 0+(l+r) / 2<_;lia) ?_);rw[show 0+k=k by lia,show 0+(l+r) / 2=(l+r) / 2 by lia];cases u:ÅP (KK κ (Ď e) k) (KK κ (Ď e) ((l+r) / 2)) with
    | true=>refine Ŭ (l,(l+r) / 2,rfl,rfl,by lia,by lia,by lia,f,λj h1 p=>?_);exact KeyOrd.klt_of_klt_of_kle u (d _ j h1 p)
    | false=>refine Ŭ ((l+r) / 2+1,r,rfl,rfl,by lia,by lia,by lia,λj h=>?_,g);exact Ì7 (d j ((l+r) / 2) Á Á) u
  ·rintro c e ⟨l,r,rfl,rfl,x,m,y,f,g⟩;have o:l=r:=by lia
   rw[ai]
 ·rintro c a ⟨rfl,b,d⟩;rw[show max (max ok 1) n=n by lia]at d;exact Ŭ (q a b d)
theorem w_runs(t:ÄF)(hk:ÃE)(B:Âg)(h2:2<=ŀ)(mT:ŀ<64){Q:#[ta,Unit]}
  (q:∀ (a:Ζ),(ÃG).Perm aW->ÅQ a=af->ŭ κ ÃG ŀ->Q () a):wpS Ô A E s sortRuns' Q st:=by
 rw[sortRuns'_eq];refine Ő (Êa ?_);have l:=B.size;have y:Ía (Ē).size (Ē).size 0=(Ē).size:=by obtain⟨f,z⟩:∃f,(Ď st).size=f+1:=((Ē).size-1,by lia);rw[show Ía (Ē).size (Ē).size 0=Ía (f+1) (Ē).size 0 by rw[<- z],minRun'_succ,Æ Á];rfl
 rw[wU];refine Çy (λi c a=>(i=0/\c=(af,0,)/\a=st)\/(i≠0/\c=(af,ŀ,)/\(ÃG).Perm aW/\ÅQ a=af/\(Áe a).size<=1/\ŭ κ ÃG ŀ)) ?_ ?_ (.inl ÑG)
 ·rintro i c a hi0 hi ⟨⟩
  ·rename_i h;obtain rfl|rfl|rfl:=h;show wpS _ _ _ _ (if 0>=(ÃG).size then _ else _) _ _;rw[zE,Á];rw[wU];rw[show (Ď a).size-0=ŀ by lia];refine w_count t hk ç Á B λm d n C m2 u=>?_;have push:∀ (b:Ζ),SB k0 aW b->ŭ κ (Ď b) ŀ->(Ď Íb).Perm aW/\ÅQ Íb=af/\(Áe Íb).size<=1/\ŭ κ (Ď Íb) ŀ:=λb e o =>
    (e.perm,e.failed,by show ((Áe b).push (0,ŀ,0,)).size<=1;rw[e.pend,Array.size_push];exact Qf _,o)
   show wpS _ _ _ _ (if m<Ía (ÃG).size (ÃG).size 0 then _ else _) _ _;rw[y,l];by_cases v:m<ŀ
   ·rw[Æ v];rw[qe];show wpS _ _ _ _ (binarySort' 0 (min ŀ ŀ) m >>= _) _ _;rw[Nat.min_self];refine Ő (w_binary t hk ç Á C n u λb e o=>?_);rw[lC];show wpS _ _ _ _ (match (Áe b).back? with|some (D,F,p,)=>_|x=>_) _ _
    rw[show (Áe b).back? = af by rw[e.pend];rfl];rw[wf];refine Ő (ÑN (Ŭ (.inr (by lia,?_,push b e o))));rw[oi]
   ·rw[zE,v];have G:m=ŀ:=by lia
    subst G;rw[lC];show wpS _ _ _ _ (match (Áe d).back? with|some (D,F,p,)=>_|x=>_) _ _
    rw[show (Áe d).back? = af by rw[n.pend];rfl];rw[wf];refine Ő (ÑN (Ŭ (.inr (by lia,?_,push d n u))));rw[oi]
  ·rename_i h;obtain H|rfl|g|j|r|k:=h;show wpS _ _ _ _ (if ŀ>=(Ē).size then _ else _) _ _;rw[Æ Á];refine Ŭ ?_;rw[aP]
   ·rw[47]
   ·rw[nS]
 ·rintro c a ⟨⟩
  ·rename_i h;exact Ê h.1 Á
  ·rename_i h;obtain H|rfl|g|j|r|k:=h;rw[aP]
   ·rw[47]
   ·rw[nS]
universe E
section
variable {ñ:ay} {w:aF} {A:aD} {E:aa->aj->Prop} {s:aj} {κ:ÄE}
theorem w_sort{a:ae}{vs:å}{n:Nat}{P:#[hy,PySem.Fin]}(ha:Øh)(hk:Øi)(h2:2<=Ÿ)(p:Ÿ<64)
  (t:∀ (s':aj),(∀b o,b≠a->é b=U o->s'.heap.get? b=U o)->∀ (E:aa->aj->Prop) (Q:ÂX->aj->Prop),(∀e,Wy ñ w A s' e κ->Q e s')->ar Ô A ÑO Q E s')
  (q:∀ (d:Ζ),(Ξ).Perm Êb->ŭ κ Ξ (Êb).size->P Øj { s with Õ:=ÑP Ë a vs ((Ď d).map λx=>ÂZ) }) :
  ar Ô A Øk P E s:=by
 have f:Íc<=aq:=by rw[QC,aO];lia
 rw[du];refine ah (ÅT ha rfl ?_ f ÅU);have j:=Øl;rw[rV,j];refine ah (Ñs ?_ #[eg,f]);rw[l4];refine aT ?_;have k:¬ Íc<2:=by rw[QC];lia
 have g:(Êb).size=Ÿ:=by unfold ÄG;simp
 rw[hM,k,k];have ċ:∀b o,b≠a->é b=U o->#[P].get? b=U o:=λb o u h =>
  Qc _ (Qc _ (Qaa _ Íd h))
 have l:Øm:=Qc _ (Qc _ j);refine ah (t _ ċ _ _ λe v=>?_);refine ah ?_;have B:SB e Êb (SortSt.mk' e Øn #[] 7 af):=(Array.Perm.refl _,rfl,rfl,rfl);refine thn (w_runs (E:=E) v hk B #[ei,g,h2] #[ei,g,p] (Q:=λ_ d=>(Ď d).Perm Êb/\ÅQ d=af/\ŭ κ Ξ (Êb).size) (λd a b c=>(a,b,c))) λr s' y=>?_;obtain ⟨⟩|d:=r;obtain rfl|m|z|C:=y;rw[rV,l];have i:((Ξ).map λx=>ÂZ).size=Ÿ:=by rw[Array.size_map,m.size_eq,g]
 show ar _ _ (Íe a (λx=>(Ď d).map λx=>ÂZ) >>= _) _ _ _;refine ah (ÅT l rfl ?_ ÅU (by show ((Ξ).map λx=>ÂZ).size<=_;rw[i];rw[QC]at f;lia));rw[z];rw[zE,Ö];exact av (q d m C)
theorem w_sorted{l:ae}{vs:å}{Q:ð}(hl:Øo)(hk:Øi)(h2:2<=Ÿ)(g:Ÿ<64)
  (i:∀ (A:aD) (s':aj),#[fF,o,é,s'.heap.get?]->∀ (E:aa->aj->Prop) (Q:ÂX->aj->Prop),(∀d,Wy ñ w A s' d κ->Q d s')->ar Ô A ÑO Q E s')
  (q:∀ (a:Ζ),(ÃG).Perm Êb->ŭ κ ÃG (Êb).size->Q Ì1 { s with Õ:=ÑQ Ë vs ((Ď a).map λx=>ÂZ) }) :
  ar Ô A (Ĵ Äy ÄH) Q E s:=by
 rw[dg];have e:Ÿ<=aq:=by rw[(aO)];lia
 refine ah (av (ah (collect_list hl (ah (Íf ?_ e)) e)));have c:Øp:=by rw[Íg,Íh]
 have f:Øq:=by rw[<- c];exact Qt _ rfl
 have ċ:∀b o,é b=U o->(#[h].push ÑR).get? b=U o:=λb o h =>
  Qc _ (Qaa _ (QX (Qr h)) (Qc _ h))
 rw[aE];rw[c];refine ah (aT (bU ÑS (_,f,rfl) ÑT ?_ ÑU));refine w_sort f hk h2 g (λs' j=>i _ s' λb o h=>j b o (Qz (QB (Qr h) (QV _))) (ċ b o h)) λa k m=>?_;exact(_,rfl,av (_,rfl,q a k m))
universe E
def kLt:Key->Key->Ï
 | .inl i,.inl j=>decide (i<j)
 | .inr x,.inr y=>decide (Êc<Íi)
 | .inl _,.inr _=>true
 | .inr _,.inl _=>false
theorem ZlK:∀a:Key,kLt a a=false
 | .inl i=>ĕ Á
 | .inr x=>ĕ (List.lt_irrefl _)
theorem Zn7:∀a b c:Key,kLt a b=true->kLt b c=true->kLt a c=true
 | .inl i,.inl j,.inl k,h1,h2=>by have:=Ŀ h1;have:=Ŀ h2;exact ÑV
 | .inr x,.inr y,.inr z,h1,h2=>ě (List.lt_trans (Ŀ h1) (Ŀ h2))
 | .inl _,.inl _,.inr _,_,_=>rfl
 | .inl _,.inr _,.inr _,_,_=>rfl
 | .inl _,.inr _,.inl _,_,h=>by cases h
 | .inr _,.inl _,_,h,_=>by cases h
 | .inr _,.inr _,.inl _,_,h=>by cases h
theorem Zn6:∀a b:Key,kLt a b=false->kLt b a=false->a=b
 | .inl i,.inl j,h1,h2=>by have:=Âh h1;have:=Âh h2;congr 1;lia
 | .inr x,.inr y,h1,h2=>by have c:¬ Êc<Íi:=Âh h1;have d:¬ Íi<Êc:=Âh h2;have e:Êc=Íi:=List.le_antisymm d c;obtain⟨xs⟩:=x;obtain⟨ys⟩:=y;congr 2;exact Ør e
 | .inl _,.inr _,h,_=>by cases h
 | .inr _,.inl _,_,h=>by cases h
def Y2:À Key->À Key->Ï
 | [],[]=>false
 | [],_::_=>true
 | _::_,[]=>false
 | x::xs,y::ys=>if x=y then Y2 xs ys else kLt x y
theorem Ug(x y:Key)(xs ys:ς):Y2 (x::xs) (y::ys)=if x=y then Y2 xs ys else kLt x y:=rfl
theorem SK:∀a:À Key,Y2 a a=false
 | []=>rfl
 | x::r=>by unfold Y2;rw[ql];exact SK r
theorem SJ:∀a b c:À Key,Y2 a b=true->Y2 b c=true->Y2 a c=true
 | [],[],_,h,_=>by cases h
 | [],_::_,[],_,h=>by cases h
 | [],_::_,_::_,_,_=>rfl
 | _::_,[],_,h,_=>by cases h
 | _::_,_::_,[],_,h=>by cases h
 | x::r,y::s,z::t,h1,h2=>by
  have ih:=SJ r s t;unfold Y2 at h1 h2 ⊢;by_cases f:x=y
  ·rw[sX,f,h1];by_cases d:y=z
   ·rw[mV]
   ·rw[hI,d,h2];rw[Ç (λe=>d ÑW),f];exact h2
  ·rw[hI,f,h1];by_cases d:y=z
   ·rw[Ç (λe=>f ÑX),<- d];exact h1
   ·rw[hI,d,h2];have g:=Zn7 _ _ _ h1 h2;rw[r3,Ç,e,ZlK,g]
theorem SI:∀a b:À Key,Y2 a b=false->Y2 b a=false->a=b
 | [],[],_,_=>rfl
 | [],_::_,h,_=>by cases h
 | _::_,[],_,h=>by cases h
 | x::r,y::s,h1,h2=>by
  unfold Y2 at h1 h2;by_cases e:x=y
  ·rw[sX,e,h1];rw[sX,Ã3,h2];rw[e,SI r s h1 h2]
  ·rw[hI,e,h1];rw[Ç λz=>e ÅN]at h2;exact Ê (Zn6 _ _ h1 h2) e
theorem Zp2(a b c:ς)(h:Y2 a c=true):Y2 a b=true\/Y2 b c=true:=by
 by_cases d:Y2 a b=true
 ·exact .inl d
 ·by_cases f:Y2 b a=true
  ·exact .inr (SJ _ _ _ f h)
  ·have e:=SI a b #[eg,d] #[eg,f];rw[<- e];exact .inr h
def unV:V->Ã Key
 | .int i=>U Åk
 | .str x=>U (.inr x)
 | _=>af
def V1:À V->Ã ÄI
 | []=>U []
 | x::r=>(unV x).bind λk=>(V1 r).map (k::·)
theorem ZuN(k:Key):unV (kV k)=U k:=by cases k<;>rfl
theorem Lb:∀ks:À Key,V1 ÅV=U ks
 | []=>rfl
 | k::r=>by show (unV (kV k)).bind _=_;rw[ZuN,Lb r];rfl
theorem ZuL:∀ {x:V} {k:Key},unV x=U k->x=kV k
 | .int i,k,h=>by cases h;rfl
 | .str z,k,h=>by cases h;rfl
 | .non,_,h=>by cases h
 | .bl _,_,h=>by cases h
 | .byt _,_,h=>by cases h
 | .flt _,_,h=>by cases h
 | .ref _,_,h=>by cases h
 | .ty _,_,h=>by cases h
theorem La:∀ {xs:À V} {ks:À Key},V1 xs=U ks->xs=Ů kV
 | [],ks,h=>by cases h;rfl
 | x::r,ks,h=>by
  unfold V1 at h;cases hu:unV x with
  | none=>rw[hu]at h;cases h
  | some k =>
   rw[hu]at h;cases hr:V1 r with
   | none=>rw[hr]at h;cases h
   | some ms=>rw[hr]at h;cases h;rw[ZuL hu,La hr];rfl
def YF(ks:ς):À Ï:=Ů λk=>k.isLeft
def UT(H:Hp)(sh:Çz):aa->Ã ÄI
 | .ref a=>match H a with
  | some (.tup xs)=>(V1 xs).bind λks=>if YF ks=sh then U ks else af
  | _=>af
 | _=>af
theorem K9{H:Hp}{a:ae}{ks:ς}(h:H a=U Íj):UT H (YF ks) ĩ=U ks:=by unfold UT;dsimp only;rw[h];show (V1 ÅV).bind _=_;rw[Lb];show (if YF ks=YF ks then U ks else af)=_;rw[Æ rfl]
theorem K8{H:Hp}{sh:Çz}{v:aa}{ks:ς}(h:UT H sh v=U ks):∃a,v=.ref a/\H a=U Íj/\YF ks=sh:=by
 unfold UT at h;split at h
 ·rename_i a;split at h
  ·rename_i f g;cases c:V1 f with
   | none=>rw[c]at h;cases h
   | some d =>
    rw[c]at h;have b:(if YF d=sh then U d else af)=U ks:=h;by_cases e:YF d=sh
    ·rw[sX,e,b];cases b;exact(a,rfl,by rw[g,La c],e)
    ·rw[hI,e,b];cases b
  ·cases h
 ·cases h
def PP(H:Hp)(sh:Çz):ÄE:=((À Key,Y2,SK,SJ,λa b c h=>Zp2 a b c h,SI),UT H sh,[])
section
variable {ñ:ay} {w:aF} {A:aD} {E:aa->aj->Prop} {s:aj}
theorem ZtT{k m:Key}{p q:aa}(hp:Ík)(hq:Íl)(hs:Ím){Q:Êd}(h:Q (decide (k=m)) s):ar Ô A (eqBool p q) Q E s:=by
 cases k with
 | inl i =>
  cases m with
  | inl j =>
   rw[xR];refine ÔU ?_;have e:(i == j)=decide (#[ty,i]=ÂA j):=by
    by_cases z:i=j
    ·rw[z];simp
    ·rw[ĕ (λe=>z (Ã0 e))];simpa using z
   rw[e];exact h
  | inr y=>cases hs
 | inr x =>
  cases m with
  | inl j=>cases hs
  | inr y=>obtain t|rfl:=hp;rw[dv];refine ÔX ?_;have e:decide (x=y)=decide (#[so,x]=Àa y):=ÅW (λz=>by rw[z],λz=>Ål z);rw[e];exact h
theorem ZuH{c:Ï}{k m:Key}{p q:aa}(hp:Ík)(hq:Íl)(hs:Ím){Q:Êd}(h:Q (kLt k m) s):ar Ô A (oneLt' c p q) Q E s:=by
 cases k with
 | inl i =>
  cases m with
  | inl j =>
   rw[xR];cases c with
   | true=>exact oneLt_int h
   | false=>rw[oneLt'_eq];show ar _ _ (Ín .Lt (.int i t) (.int j u) >>= _) _ _ _;refine ah (show ar Ô A Øs _ _ _ from Øt ?_);exact av h
  | inr y=>cases hs
 | inr x =>
  cases m with
  | inl j=>cases hs
  | inr y =>
   rw[xR];cases c with
   | true=>exact oneLt_str h
   | false=>rw[oneLt'_eq];show ar _ _ (Ín .Lt (.str x t) (.str y u) >>= _) _ _ _;refine ah (show ar Ô A Øu _ _ _ from Øv ?_);exact av h
theorem Zve{b:Ï}{x y:ae}{ks j:ς}{its m:å}(hx:Θ Ë x İ)(hy:Θ Ë y m.toArray)(z:ZG ÅV its)(B:ZG (ÅX kV) m)(hs:YF ks=YF j){Q:Êd}
  (h:Q (Y2 ks j) s):ar Ô A (keyLt' (tuples' b) ÀT (.ref y)) Q E s:=by
 obtain o1|J|_|n1|K:=hx;obtain o2|L|_|n2|M:=hy;show ar _ _ (ÑH ÀT >>= _) _ _ _;refine ah (Uh J K (ah (Uh L M (ah ?_))));have N:=Ľ;have O:=B.length;have fb:Ο=Äc:=by have:=#[eC,hs];simpa [YF] using this
 rw[Qa]at N O;refine Øw _ (λrest c r=>c=(af,(),)/\r=s/\X5 λ(n ws:À aa) (k:Nat) (f d:À Key)=>Ă=(n.zip ws).zipIdx k/\ZG (f.map kV) n/\ZG (Âi kV) ws/\YF f=YF d/\Y2 ks j=Y2 f d) _ ?_ ?_ _ _ (rfl,rfl,its,m,0,ks,j,by simp,z,B,hs,rfl)
 ·rintro⟨⟨p,q⟩,i⟩ Ă c r ⟨rfl,rfl,n,ws,k,f,d,l,o,t,a,g⟩;cases f with
  | nil=>cases o;cases l
  | Î C kr =>
   cases d with
   | nil=>cases a
   | Î D F =>
    cases o with
    | Î u G =>
     cases t with
     | Î v H =>
      rw[QaK,ÑY]at l;injection l with P R;injection P with S T;injection S with V W;subst T V W;unfold YF at a;rw[Qj,Qj]at a;injection a with I X;refine ah (ZtT u v I ?_);rw[Ug]at g;by_cases e:C=D
      ·rw[sX,e,g];rw[ě e];exact av (rfl,rfl,_,_,_,kr,F,R,G,H,X,g)
      ·rw[hI,e,g];rw[ĕ e];refine ah (ZuH u v I (av ?_));refine av ?_;rw[<- g];exact h
 ·rintro c r ⟨rfl,rfl,n,ws,k,f,d,l,o,t,a,g⟩;refine av ?_;have e:Y2 f d=false:=by
   cases f with
   | nil =>
    cases d with
    | nil=>rfl
    | Î _ _=>cases a
   | Î C kr =>
    cases d with
    | nil=>cases a
    | Î D F =>
     cases o with
     | Î u G =>
      cases t with
      | Î v H=>rw[QaK,ÑY]at l;cases l
  rw[e]at g;rw[g]at h;have Y:decide (ÅE<m.toArray.size)=false:=ĕ #[sk,QC,QC];rw[Y];exact h
universe E
section
variable {ñ:ay} {w:aF} {A:aD} {E:aa->aj->Prop} {s:aj}
theorem w_mapM{M:ÀV}{α c:Type}{f:α->Sem c}(R:α->c->Prop):∀ (l:À α) {Q:À c->aj->Prop},(∀v∈l,∃r,R v r/\∀ (e:c->aj->Prop),e r s->ar M A (f v) e E s)->(∀b,ħ=ś->(∀r∈b,∃v∈l,R v r)->Q b s)->ar M A (List.mapM f l) Q E s
 | [],Q,_,q=>by rw[List.mapM_nil];exact av (q [] rfl #[eB,r,h])
 | a::l,Q,h,q=>by
  rw[List.mapM_cons];obtain r|hr|hw:=h a Ö;refine ah (hw _ (ah (w_mapM R l (λv d=>h v (Qm _ d)) λb g i=>av (q (r::b) (by simp[g]) λz hz=>?_))));rcases Ĳ hz with rfl|hz
  ·exact(a,by simp,hr)
  ·obtain v|d|j:=i z hz;exact(v,Qm _ d,j)
theorem w_mapA{M:ÀV}{α a:Type}{f:α->Sem a}(R:α->a->Prop)(l:ā α){Q:ā a->aj->Prop}(h:∀v∈l.toList,∃r,R v r/\∀ (c:a->aj->Prop),c r s->ar M A (f v) c E s)(q:∀b:ā a,(∀r∈Ío,∃v∈l.toList,R v r)->Q b s):ar M A (Array.mapM f l) Q E s:=by rw[Array.mapM_eq_mapM_toList,map_eq_pure_bind];exact ah (w_mapM R l.toList h λb _ d=>av (q b.toArray #[eg,d]))
theorem Zop{a:ae}{its:å}(ht:Θ Ë a İ){Q:ÌS}(q:Q its[0]? s):ar Ô A (firstOfTuple' ĩ) Q E s:=by obtain o|b|hc|n|c:=id ht;show ar _ _ (typeOf ĩ >>= _) _ _ _;refine ah (Êe ht.typeIs ?_);rw[Ç É];refine ah (Uh b c (av ?_));simpa using q
theorem ZpS{k:Key}{v:aa}(h:ZE (kV k) v){Q:ð}(q:Q (.type (if k.isLeft then "int" else "str")) s):ar Ô A (typeOf v) Q E s:=by
 cases k with
 | inl i=>obtain t|rfl:=h;exact Êe (T := "int") rfl q
 | inr x=>obtain t|rfl:=h;exact Êe (T := "str") rfl q
theorem Zqr{vs:å}(h:∀v∈vs,X4 λ(a:ae) (its:À aa) (k:Key) (c:aa)=>v=.ref a/\Θ Ë a İ/\its[0]? = U c/\ZE (kV k) c){Q:#[hy,ÂX]}(q:∀b,Q (tuples' b) s):ar Ô A ÑO Q E s:=by
 rw[keyKind'_eq];refine ah (w_mapA (λ_ r=>X2 λ(k:Key) (c:aa)=>r=U c/\ZE (kV k) c) _ (λv d=>?_) λf l=>?_)
 ·obtain a|its|k|c|rfl|n|p|g:=h v #[eg,d];exact(its[0]?,(k,c,p,g),λt j=>Zop n j)
 ·have u:(f.all λx=>x.isSome)=true:=by rw[ÑZ];intro i hi;obtain v|_|k|c|e|_:=l f[i] Ö;rw[e];rfl
  rw[Æ u];refine ah (Ãr (ah ?_));rw[oneTypeOnly'_eq];refine ah (w_mapA (λ_ _=>Àc) _ (λv d=>?_) λts _=>?_)
  ·have m:v∈(Array.filterMap id f).toList:=d;rw[Array.toList_filterMap]at m;rw[tq,o,y,z,Éf,m];obtain _|_|k|c|e|g:=l o y;have B:c=v:=by have:o=U v:=z;rw[e]at this;exact Qw this
   subst B;exact(_,trivial,λt j=>ZpS g j)
  ·split
   ·exact av (av (q _))
   ·exact av (av (q _))
theorem w_sort0{a:ae}{vs:å}{n:Nat}{P:#[hy,PySem.Fin]}(ha:Øh)(h2:Ÿ<2)
  (q:P Øj { s with Õ:=ÑP Ë a vs ((ÄG vs).map λx=>ÂZ) }) :
  ar Ô A Øk P E s:=by
 have b:Íc<=aq:=by rw[QC,aO];lia
 rw[du];refine ah (ÅT ha rfl ?_ b ÅU);have d:=Øl;rw[rV,d];refine ah (Ñs ?_ #[eg,b]);rw[l4];refine aT ?_;have e:Íc<2:=by rw[QC];lia
 have g:(Êb).size=Ÿ:=by unfold ÄG;simp
 rw[iS,e,e];have f:Øm:=Qc _ (Qc _ d);rw[ok];show ar _ _ (pure ((),SortSt.mk' general' Øn #[] 7 af,) >>= _) _ _ _;rw[ok];rw[rV,f];have c:((Êb).map λx=>ÂZ).size=Ÿ:=by rw[Array.size_map,g]
 show ar _ _ (Íe a (λx=>(ÄG vs).map λx=>ÂZ) >>= _) _ _ _;refine ah (ÅT f rfl ?_ ÅU (by show ((Êb).map λx=>ÂZ).size<=_;rw[c];rw[QC]at b;lia));show ar _ _ (if _ then _ else _) _ _ _;rw[zE,Ö];exact av q
theorem w_sorted0{l:ae}{vs:å}{Q:ð}(hl:Øo)(h2:Ÿ<2)
  (q:Q Ì1 { s with Õ:=ÑQ Ë vs ((ÄG vs).map λx=>ÂZ) }) :
  ar Ô A (Ĵ Äy ÄH) Q E s:=by
 rw[dg];have b:Ÿ<=aq:=by rw[(aO)];lia
 refine ah (av (ah (collect_list hl (ah (Íf ?_ b)) b)));have a:Øp:=by rw[Íg,Íh]
 have c:Øq:=by rw[<- a];exact Qt _ rfl
 rw[aE];rw[a];refine ah (aT (bU ÑS (_,c,rfl) ÑT ?_ ÑU));exact w_sort0 c h2 (_,rfl,av ÇA)
universe E
theorem Zra{α s:Type}(f:α->s){l m:À s}(h:l.Perm m):∀c:À α,m=ŏ f->∃i:À α,i.Perm c/\l=i.map f:=by
 induction h with
 | nil =>
  intro c e;have:c=[]:=by cases c with
   | nil=>rfl
   | Î _ _=>cases e
  subst this;exact([],.nil,rfl)
 | Î x _ t =>
  intro c e;cases c with
  | nil=>cases e
  | Î a r=>rw[Qj]at e;injection e with g d;obtain i|p|j:=t r d;exact(a::i,p.cons a,by rw[Qj,g,j])
 | swap x y l =>
  intro c e;cases c with
  | nil=>cases e
  | Î a r =>
   cases r with
   | nil=>cases e
   | Î b r=>rw[Qj,Qj]at e;injection e with g d;injection d with d j;exact(b::a::r,.swap a b r,by rw[Qj,Qj,g,d,j])
 | trans _ _ k n=>intro c e;obtain o|u|d:=n c e;obtain q|v|g:=k o d;exact(q,v.trans u,g)
theorem K7{α:Type}:∀l:À α,l.zip l=Â0 λv=>(v,v,)
 | []=>rfl
 | a::r=>by rw[QaK,K7 r];rfl
abbrev Xq:=À (ae×À Key)
def YL(a:Xq):À V:=ŕ λt=>ù t.1
def AtT(H:Hp)(a:Xq):Prop:=∀t∈a,H t.1=U #[ix,t.2.map]
theorem PN:∀ {c:Xq} {us:À aa},ZG (YL c) us->us=ŏ λt=>á t.1
 | [],_,h=>by cases h;rfl
 | t::r,_,h=>by
  cases h with
  | Î a b=>rw[PN b];cases a;rfl
theorem K6:∀a:Xq,ZG (YL a) ÜY
 | []=>.nil
 | t::r=>.cons rfl (K6 r)
def K5(K:Å):À V->Hp->VK->Prop:=λxs H Q=>X3 λ(p:ae) (c:Xq) (sh:À Ï)=>xs=Ν/\SqL K H p (YL c)/\AtT H c/\sh≠[]/\(∀t∈c,YF t.2=sh)/\Ĥ<64 /\
 ∀ (l:ae) (d:Xq),H l=af->d.Perm c->d.Pairwise Øx->Q ć (upd H l #[sL,d])
theorem ZjG{X:Cx}:YZ X Äy (K5 X.K):=by
 rw[hE,S,T,xs];obtain p|f|n|rfl|V|B|W|C|Y|q:=h;rw[eU,Z];rw[fS,rv,J,hz,V];have ei:=PN rv;subst ei;have Bz:#[e8,f,Ë]:=λt g=>by obtain i|v|q|_:=#[sE,B,g];exact(i,v,q)
 have w:(ÜZ).toList=f.map λt=>(á t.1,á t.1,):=by unfold ÄG;rw[Array.toList_zip,K7,Qo];rfl
 have m:∀ (out:ā aa) (d:Xq),d.Perm f->d.Pairwise Øx->ÉW=Âi (λt=>á t.1)->EP X S T Q Ì1 { s with Õ:=ÑQ Ë (f.map λt=>á t.1) out }:=λout d l pw eo=>by obtain e|he:=sortedAll_at Ë #[fI,f.map] out;refine(.ref ũ,_,ÀY (t':=ř) (o:=.lst (YL d)) (λ_ _=>sortedAll_old) (QV _) (?_,ÉW,e,by rw[eo];exact K6 d,by simpa using he),rfl,q _ d Ìo l pw);unfold YL;rw[Qa,l.length_eq,aO];lia
 by_cases A:Ád<2
 ·refine w_sorted0 J.isList #[ei,Qa,A] (m _ f (.refl _) ?_ ?_)
  ·cases f with
   | nil=>exact .nil
   | Î t r=>have:r=[]:=List.eq_nil_of_length_eq_zero (by rw[QA]at A;lia);subst this;exact QaH _ _
  ·rw[Øy,w,Qo];rfl
 ·have hk:Ñ0 (PP H n) ÜZ:=λz L=>by rw[w]at L;rw[em,t,g,L];exact(t.2,by rw[<- C t g];exact K9 (B t g))
  refine w_sorted (κ:=PP H n) J.isList hk ÁI #[ei,Qa,Y] (λA' s' kp E' Q' q'=>?_) λM p1 p3=>?_
  ·have D:∀ {a:ae} {its:À aa},Θ Ë a İ->Θ ÀD a İ:=λ⟨o,ho,hc⟩=>(o,kp _ _ ho,hc);refine Zqr (λv hv=>?_) λb=>q' _ λE2 x y a c Q2 hx hy A=>?_
   ·rw[em,t,g,hv];obtain i|v|qt:=Bz t g;have N:=C t g;cases O:t.2 with
    | nil=>rw[O]at N;exact Ê N.symm W
    | Î k kr =>
     rw[O]at v;cases v with
     | Î r1 rr=>exact(t.1,_,k,_,rfl,D qt,rfl,r1)
   ·obtain a1|rfl|vJ|s1:=K8 hx;obtain a2|rfl|i9|s2:=K8 hy;obtain i1|v1|t1|_:=Ã7 (û (K:=X.K) vJ);obtain i2|v2|t2|_:=Ã7 (û (K:=X.K) i9);exact Zve (D t1) (D t2) v1 v2 (s1.trans s2.symm) A
  ·have E:=p1.toList;obtain d|l|e:=Zra (λt:ae×À Key=>(á t.1,á t.1,)) E f w;refine m _ d l ?_ ?_
   ·rw[List.pairwise_iff_getElem];intro i j hi P Eb;have F:(ÜZ).size=μ:=by rw[<- Qar,w,Qa,l.length_eq]
    have:=p3 i j Á #[ei,F,P];have key:∀k (G:k<μ),KK (PP H n) (Ď M) k=d[k].2:=λk G=>by
     unfold KK;have e1:(Ď M)[k]? = U (á d[k].1,á d[k].1,):=by rw[<- Qav,e,Qq,Qb G];rfl
     rw[e1];have R:d[k]∈f:=l.mem_iff.mp (Q4 G);show ((UT H n (.ref d[k].1)).getD _)=_;rw[<- C _ R,K9 (B _ R)];rfl
    rw[key i hi,key j P]at this;exact this
   ·rw[Øy,e,Qo];rfl
theorem ZwD{X:Cx}(K:Å)(h:X.K=K:=by rfl):YZ X Äy (K5 K):=by subst h;exact ZjG
theorem Zpy(A:aD)(s:aj){k m:Key}{p q:aa}(hp:Ík)(hq:Íl)(hs:Ím):∃e,ÐR A s p q e/\(e=true↔k=m):=by
 cases k with
 | inl i =>
  cases m with
  | inl j=>obtain t|rfl:=hp;rw[dv];exact(_,Õ9 i t j u,by simp)
  | inr y=>cases hs
 | inr x =>
  cases m with
  | inl j=>cases hs
  | inr y=>obtain t|rfl:=hp;rw[dv];exact(_,Öa x t y u,by simp)
theorem Zrg(A:aD)(s:aj){k m:Key}{p q:aa}(hp:Ík)(hq:Íl)(hs:Ím)(ñ:ay)(w:aF)(E:ð)(Q:ð)(h:Q (.bool (kLt k m)) s) :
  ar Ô A (Ín .Lt p q) Q E s:=by
 cases k with
 | inl i =>
  cases m with
  | inl j=>obtain t|rfl:=hp;rw[dv];exact(Øt h:ar Ô A Øs Q E s)
  | inr y=>cases hs
 | inr x =>
  cases m with
  | inl j=>cases hs
  | inr y=>obtain t|rfl:=hp;rw[dv];exact(Øv h:ar Ô A Øu Q E s)
section
open PySem.SeqAt
open PySem.AutoSeq1 (wpAny_loadPart')
open PySem.MeetsSeq PySem.MeetsSeq2 PySem.MeetsSeq3
theorem Zit(l b:ae)(œ o:Á7)(n L:Nat)(M N:Ě)(sl O:Δ)(ks m:ς)(F:ZG ÅV Ñ1)(G:ZG (m.map kV) o.toList)(hs:YF ks=YF m) :
  Meets (aS.«tuple.__lt__» ([.ref l,.ref b],[]))
   (λ_ R s=>é l=U { cls:=.type "tuple",ο:=M,Ó:=.seq œ n,Á1:=sl }/\é b=U { cls:=.type "tuple",ο:=N,Ó:=.seq o L,Á1:=O } /\
    R (.ok (.ret (.bool (Y2 ks m)))) s) :=
 .of_wp λc w A R s h=>by
  rw[gw,p,tk,s];rw[hD,P,Q,h,h];have f2:=AutoSeq1.sub_tuple_tuple;have z1:ÃH=Ο:=by have:=Íp;simpa using Êf
  have z2:o.size=m.length:=by have:=G.length;simpa using Êf
  have z3:Ο=m.length:=by have:=#[eC,hs];simpa [YF] using this
  wp_walk using Øz P,Øz Q,Øw _ (λrest b u=>b.1=af/\u=(p,g,d,tk,os)/\X4 λ(r ws:À aa) (f a:À Key)=>Ă=r.zip ws /\
   ZG (f.map kV) r/\ZG (ŕ kV) ws/\YF f=YF a/\R (.ok (.ret (.bool (Y2 f a)))) #[f8,p,tk]) _
  case turn =>
   rintro⟨y,x⟩ Ă b u ⟨v,rfl,r,ws,f,a,j,t,z,k,i⟩;cases f with
   | nil=>cases t;rw[rR,List.zip_nil_left,j]
   | Î S kr =>
    cases a with
    | nil=>cases k
    | Î T V =>
     cases t with
     | Î B H =>
      cases z with
      | Î C I =>
       rw[QaK]at j;injection j with D W;injection D with X Y;subst X Y;rw[Ug]at i;unfold YF at k;rw[Qj,Qj]at k;injection k with J Z;obtain e|he|K:=Zpy ÃI #[f8,p,tk] B C J;refine ah (he c w _ _ ?_);cases e with
       | true =>
        rw[Æ (K.mp rfl)]at i
        wp_walk
        exact(rfl,rfl,_,_,_,_,W,H,I,Z,i)
       | false =>
        rw[Ç (λq=>Ê (K.mpr q) Qu)]at i;have E:=Zrg ÃI #[f8,p,tk] B C J c w
        wp_walk using E
        exact(_,rfl,by simpa using i)
  case fin =>
   rintro⟨b1,b2⟩ u ⟨v,rfl,r,ws,f,a,j,t,z,k,i⟩;simp only at v;subst v;have hv:Y2 f a=decide (ÃH<o.size):=by
    rw[ĕ Á];cases f with
    | nil =>
     cases a with
     | nil=>rfl
     | Î _ _=>cases k
    | Î S kr =>
     cases a with
     | nil=>cases k
     | Î T V =>
      cases t with
      | Î B H =>
       cases z with
       | Î C I=>rw[QaK]at j;cases j
   rw[hv]at i
   wp_walk
   exact(_,rfl,by simpa [aS.Tuple.tupleCompareSizes] using i)
  case h=>exact(rfl,rfl,Ñ1,o.toList,ks,m,rfl,F,G,hs,h)
universe E
section
variable {ñ:ay} {w:aF} {A:aD} {E:aa->aj->Prop} {s:aj}
theorem Zmo{l b:ae}{œ c:Á7}{ks a:ς}{Q:ð}(hl:Θ Ë l œ)(hb:Θ Ë b c)(k:ZG ÅV Ñ1)(m:ZG (ŕ kV) c.toList)(hs:YF ks=YF a)
  (hu:ÂI<ÂJ) (h:Q (.bool (Y2 ks a)) s):ar Ô A (Ín .Lt ć Â1) Q E s:=by
 obtain ⟨cls,o,Ó,p⟩|d|e|n|f:=id hl;obtain ⟨cls2,q,data2,r⟩|g|i|t|j:=id hb;simp only at e f i j;subst e f i j;exact richCompare_meets_room (op:=.Lt) (_,d,rfl) (_,g,rfl) PySem.F.slot_tuple_lt PySem.F.entry_tuple_lt (PySem.F.args_tuple_lt_2 _ _) (Zit l b œ c n t o q p r ks a k m hs)
  (d,g,show Åm (Y2 ks a)≠aa.notImplemented/\Q (.bool (Y2 ks a)) s from((λx=>nomatch x),h)) hu
universe E
section
variable {ñ:ay} {w:aF}
theorem ZoY{A:aD}{a:Args}:(Ém (.builtin "min.loop" a)).units<=ÂI+1:=by show ÂI+(Code.builtin "min.loop" a).cUnits<=ÂI+1;first|exact Qf _|simp[Code.cUnits,ÐA,Ìk]
theorem PM{A:aD}{R:Él}{l I S:ae}{d:Xq}{sh:Çz}{h0:aI}{kw:Ãt}(D:Á9)(hu:#[h9,4])(E:h0.IsList l #[zh].toArray)
  (s:Âj I=af) (v:Âj S=af) (i:S≠I) (x:#[e8,d,h0]) (y:∀t∈d,YF t.2=sh) (z:aj)
  (q:∀ (h':aI) (t:ae×À Key),#[fF,o,Âj,ÿ]->t∈d->#[iz,d]->R Ñ2 { z with Õ:=h' }) :
  ∀ (k j:Nat) (h:aI) (t:ae×À Key) (c:Nat),μ-j=k->j<=μ->#[fF,o,Âj,ß]->Ée I l j->ß S=U { cls:=.type "list",Ó:=.seq #[.ref t.1,.ref t.1] c }->t∈d ->
   (∀u∈ÄJ j,Y2 u.2 t.2=false)->bL Ô A ØA R { z with Õ:=h }
 | k,j,h,t,c,hk,hj,ċ,N,G,B,H=>by
  rw[iT];refine ah (bj G rfl ?_);have O:h.IsList l #[zh].toArray:=by obtain o|m|r:=E;exact(o,ċ _ _ m,r)
  by_cases C:j<μ
  ·have J:(#[zh].toArray)[j]? = U (á d[j].1):=by simp[C]
   refine ah (cY (Ï9 N O J λg P Q=>?_));have K:#[e7,o,Âj,o,ÆD]:=λb o f=>by
    have n:b≠I:=λe=>by rw[e,s]at f;cases f
    rw[Q.2 b n];exact ċ b o f
   have p:ØB:=by rw[Q.2 S i];exact G
   rw[ok];have L:d[j]∈d:=Q4 C;obtain i1|W|X:=x _ L;obtain i2|Y|Z:=x _ B;have T:∀ {a:ae} {its:À aa},Θ h0 a İ->Θ g a İ:=λ⟨o,m,hc⟩=>(o,K _ _ m,hc);have Ew:YF d[j].2=YF t.2:=(y _ L).trans (y _ B).symm;refine ah (cY (aT (ah (Zmo (T X) (T Z) #[eg,W] #[eg,Y] Ew (Qa5 ZoY Á) (ah (aT (bq (ah ÌV))))))));cases f:Y2 d[j].2 t.2 with
   | true =>
    refine ah (ÅT p rfl ?_ #[gZ,2] #[gZ,2]);refine ah (dL (av ÅR));refine PM D hu E s v i x y z q (k-1) (j+1) _ d[j] c Á Á #[hU,b,o,M] ?_ ?_ L (λu hu'=>?_)
    ·have n:S≠b:=λe=>by rw[<- e,v]at M;cases M
     exact Qaa _ n (K b o M)
    ·rw[hD,o,m,r,P];exact(o,Qaa _ i m,r)
    ·have:=Ñ3 (c := "list") p (λ_=>#[.ref d[j].1,.ref d[j].1]);simpa using this
    ·rw[QH,Qb C]at hu';rcases ë hu' with hu'|hu'
     ·have:=H u hu';cases hz:Y2 u.2 d[j].2 with
      | false=>rfl
      | true=>rw[SJ _ _ _ hz f]at this;cases this
     ·have:u=d[j]:=by simpa using hu'
      rw[this];exact SK _
   | false =>
    refine ah (dL (av ÅR));refine PM D hu E s v i x y z q (k-1) (j+1) g t c Á Á K P p B (λu hu'=>?_);rw[QH,Qb C]at hu';rcases ë hu' with hu'|hu'
    ·exact H u hu'
    ·have:u=d[j]:=by simpa using hu'
     rw[this];exact f
  ·have J:(#[zh].toArray)[j]? = af:=by simp;lia
   refine ah (cY (Ðb D N O J λg V=>?_));have p:ØB:=V S _ i G;refine ah (ÅT p rfl ?_ #[gZ,2] ÅU);refine ah ÌV;refine q _ t #[hU,b,o,f] B (λu hu'=>H u (by rw[Qv Á];exact hu'));have n:S≠b:=λe=>by rw[<- e,v]at f;cases f
   have nI:b≠I:=λe=>by rw[e,s]at f;cases f
   exact Qaa _ n (V b o nI (ċ b o f))
termination_by k=>k
theorem Zo0{A:aD}{R:Él}{l I S:ae}{a:Xq}{sh:Çz}{h0 h:aI}{c:Nat}{kw:Ãt}(z:Á9)(hu:#[h9,4])(B:h0.IsList l (ÜY).toArray)
  (j:Âj I=af) (C:Âj S=af) (k:S≠I) (K:#[e8,a,h0]) (L:∀t∈a,YF t.2=sh) (i:aj) (ċ:#[e7,o,Âj,o,ß]) (D:Ée I l 0) (E:ß S=U { cls:=.type "list",Ó:=.seq #[] c })
  (M:a≠[]\/X3 λn d kr=>kw=(n,d,)::kr/\∀g:aI,#[fF,o,Âj,ÆD]->R (.ok (.ret d)) { i with Õ:=g })
  (q:∀ (g:aI) (t:ae×À Key),#[fF,o,Âj,ÆD]->t∈a->#[iz,a]->R Ñ2 { i with Õ:=g }) :
  bL Ô A ØA R { i with Õ:=h }:=by
 rw[iT];refine ah (bj E rfl ?_);have G:h.IsList l (ÜY).toArray:=by obtain o|m|r:=B;exact(o,ċ _ _ m,r)
 cases a with
 | nil =>
  obtain n|d|kr|rfl|N:=M.resolve_left Ö;refine ah (cY (Ðb z D G Ö λp O=>?_));show ar _ _ (rule _ >>= _) _ _ _;refine ah (Ãr (av ?_));refine N _ λb o f=>?_;have P:b≠I:=λe=>by rw[e,j]at f;cases f
  exact O b o P (ċ b o f)
 | Î t r =>
  refine ah (cY (Ï9 D G (x:=.ref t.1) Ö λp Q H=>?_));have T:#[e7,o,Âj,o,p.get?]:=λb o f=>by
   have s:b≠I:=λe=>by rw[e,j]at f;cases f
   rw[H.2 b s];exact ċ b o f
  have J:p.get? S=U { cls:=.type "list",Ó:=.seq #[] c }:=by rw[H.2 S k];exact E
  rw[ok];show ar _ _ (Íe S _ >>= _) _ _ _;refine ah (ÅT J rfl ?_ ÅU #[gZ,2]);refine av ÅR;refine PM z hu B j C k K L i q _ 1 _ t (c+1) rfl Ö #[hU,b,o,v] ?_ ?_ Ö (λu y=>?_)
  ·have s:S≠b:=λe=>by rw[<- e,C]at v;cases v
   exact Qaa _ s (T b o v)
  ·rw[hD,o,m,r,Q];exact(o,Qaa _ k m,r)
  ·have:=Ñ3 (c := "list") J (λ_=>#[.ref t.1,.ref t.1]);simpa using this
  ·have:u=t:=by simpa using y
   rw[this];exact SK _
universe E
section
variable {X:Cx}
def K4(K:Å):À V->Hp->VK->Prop:=λvs H Q=>X3 λ(p:ae) (a:Xq) (sh:À Ï)=>vs=Ν/\SqL K H p (YL a)/\AtT H a/\a≠[]/\(∀t∈a,YF t.2=sh) /\
 ∀t:ae×À Key,t∈a->#[iz,a]->Q (.ref t.1) H
theorem Zqm{ñ:ay}{w:aF}{A:aD}{R:Él}{s:aj}{l:ae}{a:Xq}{sh:Çz}{kw:Ãt}{i:Ãt}(k:Á9)(hu:#[h9,4])(r:Ñ4 l (ÜY).toArray)
  (v:(kw=[]/\i=[])\/∃d,kw=ØC/\i=ØC)
  (z:#[e8,a,Ë]) (B:∀t∈a,YF t.2=sh)
  (C:a≠[]\/X3 λn d kr=>i=(n,d,)::kr/\∀h':aI,Ñ5->R (.ok (.ret d)) { s with Õ:=h' })
  (q:∀ (h':aI) (t:ae×À Key),Ñ5->t∈a->#[iz,a]->R Ñ2 { s with Õ:=h' }) :
  bL Ô A (.call Ìb { pos:=ÄH,kw:=kw }) R s:=by
 refine Ñ6 rfl F.entry_min ?_;have D:Êg "min" { pos:=ÄH,kw:=kw }=pure ():=by rcases v with⟨rfl,_⟩|⟨d,rfl,_⟩<;>rfl
 rw[(D)];refine av ?_;have go:∀ {m:aD},m.handled=af->ar Ô m (Åy ć >>= λE=>ÌH [] >>= λb=>again (.builtin "min.loop" { pos:=[E,.none,b],kw:=i })) (λp j=>match p with
   | Fin.done f=>R (Except.ok f) j
   | Fin.again x=>x.quiet=true/\bL Ô A x R j) (λe j=>R (Except.error e) j) s:=λ{m} hA'=>by
  refine ah (cu r ?_);rw[l4];refine av ÅR;have y:∀b,Ð<=b->é b=af:=λb G=>by
   cases e:é b with
   | none=>rfl
   | some o=>exact Ê (Qr e) (Qbi.mpr G)
  have g:(Àf { cls:=Ãl "list_iterator",Ó:=Data.fields #[á l,Ãk 0 0] }).objs.size=Ð+1:=Íh _ _;refine Zo0 (h0:=Ë) (c:=0) k hu r (y _ ç) (y _ #[fd,g,QV,_]) #[fd,g,Nat.succ_ne_self,_] z B s (λb o h=>Qc _ (Qc _ h)) (_,Qc _ É1,rfl,rfl) É1 C q
 rcases v with⟨rfl,rfl⟩|⟨d,rfl,rfl⟩
 ·exact go k
 ·exact go k
theorem ZoP(hc:Ŏ)(hu:ÑD):YZ X Ìb (K4 X.K):=by
 rw[hE,ai,σ,vs];obtain p|ts|sh|rfl|b|c|d|e|q:=h;rw[eU,f];rw[fS,g,j,hz,b];have k:=PN g;subst k;refine Än (Zqm (sh:=sh) Áv Á j.isList Êh (λt a=>?_) e (.inl d) λh' t l a m=>?_)
 ·obtain i|v|q|_:=#[sE,c,a];exact(i,v,q)
 ·exact(.ref t.1,H,ÂG (t':=ř) l,rfl,q t a m)
theorem K3(K:Å){k:Nat}(hr:ι)(hc:Ŏ:=by rfl)(h:X.K=K:=by rfl):YZ X Ìb (K4 K):=by subst h;exact ZoP hc ÌB
universe E
section
variable {X:Cx}
def K2(K:Å):À V->Hp->VK->Prop:=λvs H Q=>X2 λ(p:ae) (ns:À Int)=>vs=Ν/\SqL K H p ξ/\Ĉ<=1000/\(∀n∈ns,0<=n/\n<=10000000000000)/\Q (.int ns.sum) H
theorem Zot(hc:Ŏ):YZ X #[fo,"sum"] (K2 X.K):=by
 rw[hE,ai,σ,vs];rw[tf,p,a,o,hn,d];rw[eU,t];obtain its|v|w|_:=Á5 o;have f:=ZlW v;rw[ew,b,e,f.allInts.items];have g:a=b.toList.map ó:=by rw[<- f.numsOf,<- nums_intItems,<- e]
 have c:b.size=ľ:=by rw[g,Qa,Qar]
 have i:numAt b=λj=>ÉM j 0:=by funext j;rw[numAt_eq,g]
 have k:=w.isList;rw[e]at k;have bound:∀n,n<=ľ->0<=(a.take n).sum/\(a.take n).sum<=10000000000000*n:=by
  intro n;induction n with
  | zero=>intro _;exact(by simp,by simp)
  | succ n l =>
   intro h;have l:=l Á;have x:=d a[n] (Q4 Á);have y:a.take (n+1)=a.take n++[a[n]]:=by rw[QH,Qb Á];rfl
   rw[y,Qaz];have z:([a[n]]:À Int).sum=a[n]:=by simp
   rw[z];lia
 refine sum_intList Áv k (λj hj=>?_) λh' tk A B=>(.int _,H,ÂG B,(A,rfl),?_)
 ·rw[i];have x:=d a[j] (Q4 Á);have m:ÉM j 0=a[j]:=by rw[QP,Qb Á];rfl
  have hp:=bound (j+1) Á;refine((?_,?_),ÌF)
  ·show -(2 ^ 63)<=ÉM j 0;rw[m];lia
  ·show ÉM j 0<2 ^ 63;rw[m];lia
  ·rw[SM a (j+1) Á];lia
  ·rw[SM a (j+1) Á];lia
 ·rw[i,c,SM a ľ ç,Qv ç];exact q
theorem PL(K:Å)(hc:Ŏ:=by rfl)(h:X.K=K:=by rfl):YZ X #[fo,"sum"] (K2 K):=by subst h;exact Zot hc
universe E
universe E.L2
namespace Hf
open L2
abbrev PW:=À (Int×Nat)
def val(P:PW):Int:=(À1 λp=>p.1*(p.2:Int)).sum
def ws(P:PW):À Int:=À1 ó
def ds(P:PW):À Nat:=À1 ę
def zs(z:Nat):À Int:=ÁC z 0
def kr(w E:Nat)(D:ţ):Nat:=(D.map λd=>w ^ (E-d)).sum
inductive Hu (w:Nat):À Int->Nat->Int->Prop
 | stop {e:Int} {m:Nat}:Hu w [e] m 0
 | step {E L:À Int} {m:Nat} {C:Int}:1<Àq->E.Perm L->L.Pairwise (·<=·)->Hu w (L.drop m++[(L.take m).sum]) w C->Hu w E m (C+(L.take m).sum)
def Fit(w n m:Nat):Prop:=n=1\/∃t,n=m+t*(w-1)
structure Fits (w n m:Nat):Prop where
 w2:2<=w
 m2:2<=m
 mw:m<=w
 ok:Fit w n m
universe E.Hf
namespace L2
open PySem PySem.Spec PyProof.Rows
section
variable {ñ:ay} {w:aF} {A:aD} {R:Éu->aj->Prop} {s:aj}
theorem Zix{c d b ļ:aK}{f:ĳ}{k:bh}{pos:Pos}{it:aa}{D:ae}{env:Env}{E:ð}(I:#[hy,Nat])
  (G:∀e s',E e s'->ė)
  (turn:∀n s,I n s->ar Ô A (Ãs it) (λr g=>match r with
   | none=>R Çk g
   | some v=>ar Ô A (dM b it v) (λ_ ÀU=>ar Ô A (ÂF b env v) (λ_ l =>
     ar Ô A (PZ f env) (λok i =>
      if ok=true then ar Ô A (ă c env) (λo p=>ar Ô A (ă d env) (λu y =>
       ar Ô A (dictSet D o u) (λ_ B=>∃m,m<n/\I m B) E y) E p) E i
      else ∃m,m<n/\I m i) E l) E ÀU) E g) E s)
  (n:Nat) (h:I n s):bL Ô A (.compLoop #[hX,c,b,f,k] 0 it π env) R s:=by
 have go:Öp:=
  λ{j t Q s} q=>ba q ÉR λe s' z=>(G e s' z).elim
 refine codeAny_loop rfl I #[hU,n,s,H] n h;show ar _ A ((compTurn #[hX,c,b,f,k] 0 it π env).onRaise (λx=>do Çl x env;Öq x)) _ _ s;refine wpAny_noted ?_;rw[compTurn_dict];refine ah (bx (ah (thn (go (turn n s H)) λr g C=>?_)));cases r with
 | none=>exact av C
 | some v =>
  refine ah (thn (go C) λ_ ÀU a=>ah (thn (go a) λ_ l J=>ah (thn (go J) λok i F=>?_)));cases ok with
  | false=>exact av (rfl,F)
  | true=>exact ah (ah (thn (go F) λo p K=>ah (aT (thn (go K) λu y L=>ah (bx (aT (thn (go L) λ_ B M=>av (rfl,M))))))))
universe E
section
variable {κ:Type} [ÈS κ]
def Y4(kvs:ÀH)(k:κ):Ã V:=(kvs.find? λa=>decide (a.1=k)).map ę
def YX(kvs:ÀH)(k:κ)(v:V):À (κ×V) :=
 if Íq=true then Â2 (λa=>if a.1=k then (a.1,v,) else a) else kvs++[(k,v,)]
def WH(kvs:ÀH)(k:κ):À (κ×V):=kvs.filter λa=>decide (a.1≠k)
theorem Uf{p:κ×V}{r:ÀH}{k:κ}(e:p.1=k):Y4 (p::r) k=U p.2:=by simp[Y4,Âz,e]
theorem Ue{p:κ×V}{r:ÀH}{k:κ}(e:¬ p.1=k):Y4 (p::r) k=Y4 r k:=by simp[Y4,Âz,e]
theorem SH(k:κ):∀kvs:À (κ×V),Íq=(Ís).isSome
 | []=>rfl
 | p::r=>by
  rw[Qa3];by_cases e:p.1=k
  ·simp only[Uf e,ě e,Bool.true_or,Option.isSome_some]
  ·rw[Ue e,ĕ e,Bool.false_or];exact SH k r
theorem SG(kvs:ÀH)(k:κ)(v:V):(Òa).length<=ø+1:=by
 unfold YX;split
 ·rw[Qa];lia
 ·rw[Qi,QA,ÅM];lia
theorem US{kvs:ÀH}{k:κ}(v:V)(h:Y4 kvs k=af):YX kvs k v=kvs++[(k,v,)]:=by unfold YX;rw[SH,h];exact Ç É
theorem Yo.isSome_eq{o:Ã V}{u:Äf}(r:Yo o u):Ír=u.isSome:=by
 cases o with
 | none=>cases u with
  | none=>rfl
  | some _=>exact#[i1].elim
 | some _=>cases u with
  | none=>exact#[i1].elim
  | some _=>rfl
theorem Yo.getD{o:Ã V}{u:Äf}{d:V}{d':aa}(r:Yo o u)(rd:ZE d d'):ZE (Êi d) (u.getD d'):=by
 cases o with
 | none=>cases u with
  | none=>exact rd
  | some _=>exact#[i1].elim
 | some _=>cases u with
  | none=>exact#[i1].elim
  | some _=>exact r
theorem KV.val{kvs:ÀH}{vs:ÇB}(r:ÄK)(k:κ):Yo Ís (ÄL vs k):=by
 unfold KV at r;induction r with
 | nil=>exact ŷ
 | @Î p q ps a h t f =>
  rw[ew,d,g,h];by_cases e:p.1=k
  ·have c:q.1=k:=d.symm.trans e;have b:ÄL (q::a) k=U q.2:=by simp[ÄL,Âz,c]
   rw[Uf e,b];exact g
  ·have c:¬ q.1=k:=λz=>e (ÆJ z);have b:ÄL (q::a) k=ÄL a k:=by simp[ÄL,Âz,c]
   rw[Ue e,b];exact f
theorem KV.any{kvs:ÀH}{vs:ÇB}(r:ÄK)(k:κ):Íq=vs.any λa=>decide (a.1=k):=by
 unfold KV at r;induction r with
 | nil=>rfl
 | Î h t b=>rw[Qa3,Qa3,b,h.1]
theorem KV.repl{kvs:ÀH}{vs:ÇB}(r:ÄK)(k:κ){y:V}{u:aa}(c:ZE y u) :
  KV (Â2 λa=>if a.1=k then (a.1,y,) else a) (vs.map λa=>if a.1=k then (a.1,u,) else a):=by
 rw[zB,KV,r];induction r with
 | nil=>exact .nil
 | @Î p q ps qs h t d =>
  rw[Qj,Qj];refine .cons ?_ d;rw[ew,b,f,h];by_cases e:p.1=k
  ·rw[Æ e,Æ (b.symm.trans e)];exact(b,c)
  ·rw[Ç e,Ç (λz=>e (b.trans z))];exact(b,f)
theorem KV.put{kvs:ÀH}{vs:ÇB}(r:ÄK)(k:κ){y:V}{u:aa}(a:ZE y u):KV (YX kvs k y) (Êj vs k u):=by
 unfold YX Êj;rw[r.any k];by_cases e:(vs.any λb=>decide (b.1=k))=true
 ·rw[iS,e,e];exact r.repl k a
 ·rw[hM,e,e];exact Paired.snoc r (rfl,a)
theorem KV.drop{kvs:ÀH}{vs:ÇB}(r:ÄK)(k:κ):KV (WH kvs k) (without vs k):=by
 rw[zB,KV,r];unfold WH without;induction r with
 | nil=>exact .nil
 | @Î p q ps qs h t d =>
  rw[ew,c,f,h];rw[Ñ7,Ñ7];by_cases e:p.1=k
  ·have a:¬ decide (p.1≠k)=true:=by simp[e]
   have b:¬ decide (q.1≠k)=true:=by simp[c.symm.trans e]
   rw[hM,a,b];exact d
  ·have g:¬ q.1=k:=λz=>e (c.trans z);have a:decide (p.1≠k)=true:=by simp[e]
   have b:decide (q.1≠k)=true:=by simp[g]
   rw[iS,a,b];exact .cons (c,f) d
theorem KV.length{kvs:ÀH}{vs:ÇB}(r:ÄK):ø=Ÿ:=ÏD r
theorem ZqM(kvs:ÀH)(k:κ):(WH kvs k).length<=ø:=QaT _ _
universe E
theorem WG{P:ay}{w:aF}{k:Key}{u:aa}(r:ZE (kV k) u):(ÆB).is k u=true:=by
 cases k with
 | inl i=>obtain t|e:=#[eQ,t,Ãk,i,r];subst e;exact Zk5 P w i t
 | inr x=>obtain t|e:=#[eQ,t,Ár,x,r];subst e;exact Zlz P w x t
theorem K1{P:ay}{w:aF}:∀ {ks:À Key} {us:À aa},ZG ÅV us->ItemsAre ÆB ks us
 | [],_,r=>by rw[QaZ]at r;cases r;exact .nil
 | k::ks,_,r=>by
  rw[Qj]at r;cases r with
  | Î h t=>exact .cons (WG h) (K1 t)
abbrev KT(H:Hp):À (À Key×V)->À (À Key×ae×aa)->Prop:=Ån λp q=>p.1=q.1/\H q.2.1=U #[ix,p.1.map]/\ZE p.2 q.2.2
theorem KT.val{H:Hp}{kvs:ÄM}{xs:Ít}(r:Íu)(k:ς):Yo Ís ((ÃJ xs k).map ę):=by
 induction r with
 | nil=>exact ŷ
 | @Î p q ps a h t f =>
  obtain d|_|g:=h;by_cases e:p.1=k
  ·have c:q.1=k:=d.symm.trans e;have b:ÃJ (q::a) k=U q.2:=by simp[ÃJ,Âz,c]
   rw[Uf e,b];exact g
  ·have c:¬ q.1=k:=λz=>e (ÆJ z);have b:ÃJ (q::a) k=ÃJ a k:=by simp[ÃJ,Âz,c]
   rw[Ue e,b];exact f
theorem KT.repl{H:Hp}{kvs:ÄM}{xs:Ít}(r:Íu)(k:ς){y:V}{u:aa}(d:ZE y u) :
  KT H (Â2 λb=>if b.1=k then (b.1,y,) else b) (ÆC (putAt k u)):=by
 induction r with
 | nil=>exact .nil
 | @Î p q ps qs h t f =>
  rw[Qj,Qj];refine .cons ?_ f;rw[hD,a,c,g,h];unfold putAt;by_cases e:p.1=k
  ·rw[Æ e,Æ (a.symm.trans e)];exact(a,c,d)
  ·rw[Ç e,Ç (λz=>e (a.trans z))];exact(a,c,g)
theorem KT.put{H:Hp}{kvs:ÄM}{xs:Ít}(r:Íu)(k:ς){b:ae}{y:V}{u:aa}(hb:Ñ8)(a:ZE y u) :
  KT H (YX kvs k y) (storedH xs k b u):=by
 have e:(kvs.any λc=>decide (c.1=k))=(ÃJ xs k).isSome:=by rw[SH,(r.val k).isSome_eq,ØD]
 unfold YX storedH;rw[e];by_cases q:(ÃJ xs k).isSome=true
 ·rw[iS,q,q];exact r.repl k a
 ·rw[hM,q,q];exact Paired.snoc r (rfl,hb,a)
theorem KT.keeps{H a:Hp}{kvs:ÄM}{xs:Ít}(r:Íu)(ht:#[zv,b,ys,a]):KT a kvs xs :=
 ËK r λ_ _ z=>(z.1,ht _ _ z.2.1,z.2.2)
section
variable {P:ay} {w:aF} {H:Hp} {h:aI} {a:ae}
theorem K0{u:HO}(ok:À6)(e:Rd H a u):Z8 P w H h a u:=e.ok ok
theorem Wg{kvs:Ŗ}(ok:À6)(e:Rd H a Áf):ø<=aq/\Ãm=false/\∃vs,KV kvs vs/\h.DictOf ÆB a vs :=
 show Z8 P w H h a Áf from K0 ok e
theorem SE{kvs:Ŗ}(ok:À6)(e:Êk):ø<=aq/\Ãm=false/\∃vs,KV kvs vs/\h.DictOf ÆB a vs:=Wg ok (.inl e)
theorem Vw{ks:ς}(ok:À6)(e:H a=U Íj):(ÏF).is h ks a:=by obtain _|its|r|o|b|c|n|d:=(show Z8 P w H h a Íj from ok a _ e);exact(o,İ,n,b,c,d,by simpa using K1 r)
theorem V0{kvs:ÄM}(ok:À6)(e:Rd H a (.dT kvs)):ø<=aq/\Ãm=false /\
  ∃xs,KT H kvs xs/\h.DictOfH ÏF a xs:=by
 obtain z|y|xs|r|o|c|d|f|g|i|j|k:=(show Z8 P w H h a (.dT kvs) from K0 ok e);refine(z,y,xs,r,o,c,d,f,g,i,j,λx hx=>?_,k);have all:∀ {l:À (À Key×V)} {m:À (À Key×ae×aa)},KT H l m->∀x∈m,(ÏF).is h x.1 x.2.1:=by
  intro l m q;induction q with
  | nil=>intro x hx;exact nomatch hx
  | @Î p q ps qs b t n =>
   intro x hx;rcases Ĳ hx with e|hx
   ·subst e;exact Vw ok #[eS,b.1,b.2.1]
   ·exact n x hx
 exact all r x hx
theorem ZvW{kvs:ÄM}(ok:À6)(e:Ñ9):ø<=aq/\Ãm=false /\
  ∃xs,KT H kvs xs/\h.DictOfH ÏF a xs:=V0 ok (.inl e)
universe E
def Z7(H:Hp)(a:ae)(y:V)(r:Ã V):Prop :=
 (X2 λc k=>Rd H a (.dK c)/\y=kV k/\r=Y4 c k)\/X3 λc k b=>Rd H a (.dT c)/\y=.ref b/\H b=U #[ix,k.map]/\r=Y4 c k
def XD(H:Hp)(a:ae)(y v:V)(d:Hp):Prop :=
 (X2 λc k=>H a=U (.dK c)/\y=kV k/\Ĥ<aq/\d=upd H a (.dK (YX c k v))) \/
 X3 λc k b=>H a=U (.dT c)/\y=.ref b/\H b=U #[ix,k.map]/\Ĥ<aq/\d=upd H a (.dT (YX c k v))
theorem Z7.k{H:Hp}{a:ae}{kvs:Ŗ}{k:Key}(e:Êk):Z7 H a (kV k) Ís:=.inl (kvs,k,.inl e,rfl,rfl)
theorem Z7.t{H:Hp}{a b:ae}{kvs:ÄM}{k:ς}(e:Ñ9)(c:Ñ8):Z7 H a Â1 Ís:=.inr (kvs,k,b,.inl e,rfl,c,rfl)
theorem XD.k{H:Hp}{a:ae}{kvs:Ŗ}{k:Key}{v:V}(e:Êk)(hl:ø<aq):XD H a (kV k) v (upd H a (.dK Òa)):=.inl (kvs,k,e,rfl,hl,rfl)
theorem XD.t{H:Hp}{a b:ae}{kvs:ÄM}{k:ς}{v:V}(e:Ñ9)(c:Ñ8)(hl:ø<aq) :
  XD H a Â1 v (upd H a (.dT Òa)):=.inr (kvs,k,b,e,rfl,c,hl,rfl)
section
variable {X:Cx} {ai:À (ae×aN)} {σ:St} {H:Hp} {s:aj} {a:ae} {y v:V} {u r:aa} {o:Ã V} {A:aD} {E:aa->aj->Prop}
theorem Inv.big(I:ä):bD<Ð:=by have h:#[ts,aL]:=#[y2].lt;exact Qbb É h
theorem ZoH{Q:ð}(hu:#[h9,1])(I:ä)(g:Z7 H a y (U v))(n:ZE y u)(h:#[zt,d,H]) :
  ar ġ A (Çe ĩ u) Q E s:=by
 rcases g with⟨f,k,e,i,l⟩|⟨f,k,b,e,i,q,l⟩
 ·rw[hn,i,r,t,j];obtain d|hw|m:=Én (v:=v) (o:=ÄL t k) #[fd,l,ÄN,k];exact ØE (WG n) j.mapOf hw (h d _ ÂH m)
 ·rw[eZ,i,n,r,w,j];obtain d|hw|m:=Én (v:=v) (o:=(ÃJ w k).map ę) #[fd,l,ÄN,k];rw[tq,p,x,B,Qbc.mp,hw];refine wpAny_getItem_heap (bZ hu) (Vw ê q) j x ?_;rw[B];exact h d _ ÂH m
theorem ZwO{Q:ð}(hu:#[h9,1])(I:ä)(g:Êl)(m:ZE y u)(h:∀s',Inv X ai σ H s'->Q (.bool Ír) s') :
  ar ġ A (aQ .In u ĩ) Q E s:=by
 rcases g with⟨d,k,e,f,l⟩|⟨d,k,b,e,f,n,l⟩
 ·rw[hn,f,i,vs,j];refine wpAny_in_of (WG m) i j.mapOf ?_;rw[pi]
 ·rw[eZ,f,m,i,xs,j];refine wpAny_in_heap (bZ hu) (Vw ê n) i j ?_;rw[iU]
theorem Zsf{Q:ð}(hu:#[h9,1])(I:ä)(g:Êl)(m:ZE y u)(h:∀s',Inv X ai σ H s'->Q (.bool (!o.isSome)) s') :
  ar ġ A (aQ .NotIn u ĩ) Q E s:=by
 rcases g with⟨d,k,e,f,l⟩|⟨d,k,b,e,f,n,l⟩
 ·rw[hn,f,i,vs,j];refine wpAny_notIn_of (WG m) i j.mapOf ?_;rw[pi]
 ·rw[eZ,f,m,i,xs,j];refine wpAny_notIn_heap (bZ hu) (Vw ê n) i j ?_;rw[iU]
theorem Ud{h':aI}{t':Nat}{ob:HO}(I:ä)(c:Mut (H a))(hs:#[zy,a,Ë,h'])(he:∃q,ÿ a=U q)(new:Z8 ö X.w (upd H a ob) h' a ob) :
  Inv X ai σ (upd H a ob) { s with Õ:=h',î:=t' } :=
 ÅC (x:=a) (e:=a) c Ğ (λb q d z=>(hs.2 b d).trans z) he new
theorem Uc{P:ay}{w:aF}{b:Hp}{h':aI}{kvs:Ŗ}{vs:À (Key×aa)}(z:ø<=aq)(hd:Ãm=false)(rel:ÄK)(c:h'.DictOf ÆB a vs) :
  Z8 P w b h' a Áf:=(z,hd,vs,rel,c)
theorem ZnR{B:Hp}{Q:Á3}(hu:#[h9,1])(I:ä)(g:XD H a y v B)(C:ZE y u)(D:ZE v r)(h:∀s',Inv X ai σ B s'->Q () s') :
  ar ġ A (setItem ĩ u r) Q E s:=by
 rcases g with⟨d,k,e,m,l,n⟩|⟨d,k,b,e,m,F,l,n⟩
 ·subst m n;rw[ic,o,K,f,p,SE];have t:K.length<=aq:=by rw[<- Ád];exact z
  have w:(YX d k v).length<=aq:=by have:=SG d k v;lia
  refine wpAny_setItem_pairs (hsz:=t) (WG C) p λG i x=>h _ ?_;have L:∃q,G.get? a=U q:=let ⟨q,_,_,j,_⟩:=i;(q,j);exact Ud I Éq x L (Uc w o (f.put k D) i)
 ·subst m n;cases (show u=á b from C);rw[ic,o,M,f,p,ZvW];have t:Àr<=aq:=by rw[<- ÏD f];exact z
  have w:(YX d k v).length<=aq:=by have:=SG d k v;lia
  refine wpAny_setItem_heap (hsz:=t) (bZ hu) (Vw ê F) p λG i x=>h _ ?_;obtain q|N|O|j|P|R|S|_|T:=i;refine Ud I Éq x (q,j) (w,o,_,(f.put k F D).keeps λc ys J=>?_,q,N,O,j,P,R,S,T);rw[Zc (Rt J e Ài)];exact J
universe E
section
variable {X:Cx} {ai:À (ae×aN)} {σ:St} {H:Hp} {s:aj} {a:ae} {kvs:À (Key×V)} {k:Key} {u:aa} {A:aD} {E:aa->aj->Prop}
theorem ZvG{v:V}{Ę:å}{Q:ð}(I:ä)(e:Êk)(d:ZE (kV k) u)(l:Y4 kvs k=U v)(hm:Ę=[]\/∃x,Ę=[x])
  (h:#[zt,c,ØF]):ar ġ A (Ĵ #[fo,"dict.pop"] (.ref a::u::Ę)) Q E s:=by
 rw[ic,m,f,b,g,SE];obtain c|hw|n:=Én (v:=v) (o:=ÄL f k) (by rw[<- l];exact b.val k);have p:(keyPart u).isSome=true:=by
  cases k with
  | inl i=>obtain t|q:=Ðz;subst q;rfl
  | inr x=>obtain t|q:=#[eQ,t,Ár,x,d];subst q;rfl
 have r:argsOk "dict.pop" (.ref a::u::Ę,[]):=by
  rcases hm with q|⟨x,q⟩
  ·subst q;exact PySem.F.args_dict_pop_2 _ _
  ·subst q;exact PySem.F.args_dict_pop_3 _ _ _
 refine ÅY QaU g.typeIs PySem.F.entry_dict_pop r (meets_dict_pop_there Âk a (WG d) Ę hm p)
  (f,c,g,by rw[<- ħ];exact z,hw,λw j y=>h c _ ?_ n)
 have B:∃q,w.get? a=U q:=let ⟨q,_,_,C,_⟩:=j;(q,C);exact Ud I Éq y B (Uc (Qk (ZqM kvs k) z) m (b.drop k) j)
theorem ZvJ{Q:ð}(I:ä)(e:Rd H a Áf)(h:∀t s',Inv X ai σ H s'->Q (.int ø t) s'):ar ġ A (Ĵ Çh η) Q E s:=by obtain z|c|vs|b|d:=Wg ê e;refine call_len_dict c d (by rw[<- ħ];rw[(aO)]at z;lia) ?_;rw[<- ħ];exact h _ _ ÂH
universe E
theorem Zlf{X:Cx}{f:Ć}{h:St}{H:Hp}{s:aj}{a:ae}{y:V}{o:Ã V}(I:Inv X f h H s)(g:Êl):Çd ĩ "dict":=by
 rcases g with⟨c,k,e,_,_⟩|⟨c,k,b,e,_,_,_⟩
 ·obtain _|_|vs|_|d:=Wg ê e;exact ÉA
 ·obtain _|_|xs|_|d:=V0 ê e;exact ÉA
theorem PH{P:ay}{w:aF}{H:Hp}(h:aI)(hb:bD<ĺ):Z8 P w H Ü0 ĺ (.dK []) :=
 (Qs _,Æz (À7 (Qz hb)),[],.nil,aI.DictOf.new h)
def ZuU:TE:=λ_ H Q=>∀p,H p=af->Q Ū #[iO,H,p]
section
variable {X:Cx} {pos:Pos}
theorem PF:PE X (.Dict [] [] pos) ZuU:=λai s σ H Q I h =>
 Øf (.ref Ð,_,ÀY (a:=Ér) (o:=.dK []) (t':=ř) ÉG ç (PH Ë I.big),rfl,h _ Ãw)
universe E
def PD:À (TE×TE)->St->Hp->(À (V×V)->Hp->Prop)->Prop
 | [],_,H,Q=>Q [] H
 | (tk,b,)::r,a,H,Q=>tk a H λx c=>b a c λy d=>PD r a d λps e=>Q ((x,y,)::ps) e
abbrev VV:À (V×V)->À (aa×aa)->Prop:=Ån λp q=>ZE p.1 q.1/\ZE p.2 q.2
def PPs(X:Cx)(pos:Pos)(e:Òb)(f:ĳ)(g:Ív):Prop :=
 ∀ (b:À (ae×aN)) (s:aj) (a:St) (H:Hp) (Q:À (V×V)->Hp->Prop),Inv X b a H s->PD g a H Q ->
  ô (evalPairs (pairTrees e f Ì pos)) (λh i=>X2 λc d=>Inv X b a d i/\VV c h/\Q c d) è s
theorem ZsF{X:Cx}{pos:Pos}:PPs X pos [] [] []:=λai s σ H Q I h=>pairTrees_nil_walk ([],H,I,.nil,h)
theorem KZ{X:Cx}{pos:Pos}{k v:aK}{ks:Òb}{vs:ĳ}{tk d:TE}{e:Ív}(hk:PE X k tk)(f:PE X v d)(hr:PPs X pos ks vs e) :
  PPs X pos (U k::ks) (v::vs) ((tk,d,)::e):=λa s b H Q I h =>
 pairTrees_cons_walk (thn #[eE,hk,a,b] λu g ⟨x,i,j,l,m⟩=>thn (f a g b i _ j m) λw2 n ⟨y,o,p,q,r⟩=>
  thn (hr a n b o _ p r) λws s3 ⟨t,w,z,c,A⟩=>((x,y,)::t,w,z,.cons (l,q) c,A))
def Wx(kvs Ę:Ŗ):À ÁJ:=more.foldl (λb a=>YX b a.1 a.2) kvs
theorem KV.merge:∀ {Ę:À (Key×V)} {a:À (Key×aa)} {kvs:À (Key×V)} {vs:À (Key×aa)},KV Ę a->KV kvs vs->KV (Wx kvs Ę) (ÅZ vs a):=by
 intro Ę a kvs vs r;unfold KV at r;induction r generalizing kvs vs with
 | nil=>intro q;exact q
 | @Î p q ps qs h t b =>
  intro c;have e:KV Òc (Êj vs q.1 q.2):=by have:=c.put p.1 h.2;rw[<- h.1];exact this
  exact b e
theorem PB:∀ (Ę kvs:À (Key×V)),(Wx kvs Ę).length<=ø+more.length
 | [],kvs=>by show ø<=ø+0;lia
 | p::r,kvs=>by have h1:=PB r Òc;have h2:=SG kvs p.1 p.2;show (Wx Òc r).length<=_;rw[QA];lia
theorem KY{P:ay}{w:aF}:∀ {kvs:À (Key×V)} {ws:À (aa×aa)},VV (Â2 λe=>(kV e.1,e.2,)) ws->∃d,Carries ÆB ws d/\KV kvs d
 | [],_,r=>by rw[QaZ]at r;cases r;exact([],ŷ,.nil)
 | p::kvs,_,r=>by
  rw[Qj]at r;cases r with
  | @Î a b as bs h t=>obtain d|c|q:=KY (P:=P) (w:=w) t;rw[ew,b1,f,b];exact((p.1,f,)::d,(WG h.1,rfl,c),.cons (rfl,h.2) q)
def ZvE(c:Ív):TE:=λd H Q=>∀p,H p=af->PD c d #[iO,H,p] λps a=>a p=U (.dK [])/\∃kvs:À (Key×V),ps=Â2 (λb=>(kV b.1,b.2,))/\ø<=15/\Q Ū (upd a p (.dK (Wx [] kvs)))
theorem Ztd{X:Cx}{pos:Pos}{b:Òb}{f:ĳ}{i:Ív}(h:PPs X pos b f i)(l:b.all (·.isSome)=true)(hl:ħ=Ád)(h0:b≠[])
  (m:ħ<=15):PE X (.Dict b f pos) (ZvE i):=by
 intro n s p H Q I q;have r:=ÆI (Qf Ð);have t:=ÀY (a:=Ér) (o:=.dK []) (h':=Àf { cls:=.type "dict",Ó:=.dict #[] }) (t':=ř) ÉG ç (PH Ë I.big);refine wpAny_Dict_walk (knd:=Êm) l hl h0 m (thn (h n _ p _ _ t (q _ r)) ?_);rintro ws s2 ⟨ps,H2,j,g,e,d,u,lk,v⟩;subst u;obtain x|c|y:=KY (P:=ö) (w:=X.w) g;obtain z|A|vs0|B|C:=SE j.hok e;cases B;refine(x,c,C,λh' k D=>(.ref Ð,_,?_,rfl,v));have E:(Wx [] d).length<=aq:=by have F:=PB d [];rw[ÅM]at F;rw[(aO)];lia
 have G:∃q,ÿ Ð=U q:=let ⟨q,_,_,J,_⟩:=k;(q,J);exact Ud j Éq D G (Uc E A (y.merge .nil) k)
structure M1 (X:Cx) (o:aK) (m:ak) (bv:Pos) (e:aK) (br:Pos):Prop where
 Â:bE o m Ì #[fr,o]=ă o Ì
 few:((bo br Òd).all (λx=>!x.1)&&#[lY].all ÐT
  && decide (([e]:À aK).length+#[uM].length+ÐU<30))=true
 line:Ìx=true
 trees:bo br Òd=[Ét]
structure M2 (X:Cx) (o:aK) (m:ak) (bv:Pos) (e f:aK) (br:Pos):Prop where
 Â:bE o m Ì #[fr,o]=ă o Ì
 few:((bo br Òe).all (λx=>!x.1)&&#[lY].all ÐT
  && decide (([e,f]:À aK).length+#[uM].length+ÐU<30))=true
 line:Ìx=true
 trees:bo br Òe=ØG
def IsD(H:Hp)(a:ae):Prop:=(∃kvs,Rd H a Áf)\/∃kvs,Rd H a (.dT kvs)
theorem KW{X:Cx}{j:Ć}{k:St}{H:Hp}{s:aj}{a:ae}(I:Inv X j k H s)(d:IsD H a) :
  Çd ĩ "dict"/\(∀b,á a=.ref b->∃ob,é b=U ob/\ob.dict=af)/\Ãm=false:=by
 rcases d with⟨f,e⟩|⟨f,e⟩
 ·obtain _|g|vs|_|c:=Wg ê e;rw[dO]
 ·obtain _|g|xs|_|c:=V0 ê e;rw[dO]
section
variable {X:Cx} {ai:À (ae×aN)} {σ:St} {H:Hp} {s:aj} {a:ae} {y d:V} {u r:aa} {o:Ã V} {A:aD} {E:aa->aj->Prop}
theorem ZuW{Q:ð}(hu:#[h9,1])(I:ä)(g:Êl)(m:ZE y u)(h:∀n s',Inv X ai σ H s'->ZE (Êi .non) n->Q n s') :
  ar ġ A (Ĵ #[fo,"dict.get"] [.ref a,u]) Q E s:=by
 rcases g with⟨f,k,e,i,l⟩|⟨f,k,b,e,i,p,l⟩
 ·rw[hn,i,j,vs,d];refine ÅY Qai ÉA QaL ØH (meets_dict_get Âk a (WG m) j) (_,d.mapOf,h _ _ ÂH ?_);rw[l];exact(ÄN k).getD rfl
 ·rw[eZ,i,m,j,q,d];refine ÅY Qai ÉA QaL ØH (meetsH_dict_get (Òf Âk) a b j) (bZ hu,k,q,Vw ê p,d,h _ _ ÂH ?_);rw[l];exact(ÄN k).getD rfl
theorem Zvh{Q:ð}(hu:#[h9,1])(I:ä)(g:Êl)(n:ZE y u)(rd:ZE d r)(h:∀p s',Inv X ai σ H s'->ZE (Êi d) p->Q p s') :
  ar ġ A (Ĵ #[fo,"dict.get"] [.ref a,u,r]) Q E s:=by
 rcases g with⟨i,k,e,j,l⟩|⟨i,k,b,e,j,q,l⟩
 ·rw[hn,j,m,vs,f];refine ÅY Qai f.typeIs QaL ØI (meets_dict_get_default Âk a (WG n) m r) (_,f.mapOf,h _ _ ÂH ?_);rw[l];exact(ÄN k).getD rd
 ·rw[eZ,j,n,m,t,f];refine ÅY Qai f.typeIs QaL ØI (meetsH_dict_get_default (Òf Âk) a b m r) (bZ hu,k,t,Vw ê q,f,h _ _ ÂH ?_);rw[l];exact(ÄN k).getD rd
universe E
def KU(e ty:TE):TE:=λb H Q=>e b H λx c=>∃a,x=.ref a/\IsD c a/\ty b c λy d=>∃o,Z7 d a y o/\Q (Êi .non) d
def KS(e ty f:TE):TE:=λb H Q=>e b H λx c=>∃a,x=.ref a/\IsD c a/\ty b c λy g=>f b g λz d=>∃o,Z7 d a y o/\Q (Êi z) d
section
variable {X:Cx} {o e f:aK} {bv br:Pos} {td ty tx:TE}
theorem Zq5(hu:É9+1<ÂJ)(i:PE X o td)(he:PE X e ty)(m:M1 X o "get" bv e br):PE X (.Call #[sq,"get",bv] [e] [] br) (KU td ty):=by intro b s c H Q I h;refine ØJ m.base m.few m.line Q6 Qai ØK #[es,i,b,c];rintro u j ⟨x,k,f,l,a,ex,d,n⟩;subst ex;obtain rfl:u=á a:=l;obtain p|q|_:=KW f d;refine(p,q,?_);rw[m.trees];refine ÉF rfl (ÐV (Æ0 (thn (he b j c k _ f n) λiv s2 ⟨y,r,t,v,ov,g,w⟩=>ÐB ?_)));exact ZuW hu t g v λw' s3 z A=>(_,r,z,A,w)
theorem Zqf(hu:É9+1<ÂJ)(j:PE X o td)(he:PE X e ty)(k:PE X f tx)(m:M2 X o "get" bv e f br):PE X (.Call #[sq,"get",bv] [e,f] [] br) (KS td ty tx):=by
 rw[e3,b,c,Q];refine ØJ m.base m.few m.line Q6 Qai ØK #[es,j,b,c];rintro u l ⟨x,n,i,p,a,ex,d,q⟩;subst ex;obtain rfl:u=á a:=p;obtain r|t|_:=KW i d;rw[sC,r,t];rw[m.trees];refine ÉF rfl (ÐV (Æ0 (thn (he b l c n _ i q) λiv v ⟨y,w,A,B,C⟩=>
  Æ0 (thn (k b v c w _ A C) λfv s3 ⟨z,D,E,F,ov,g,G⟩=>ÐB ?_))))
 exact Zvh hu E g B F λw' s4 J K=>(_,D,J,K,G)
universe E
section
variable {X:Cx}
theorem Zoh:YZ X Çh ØL:=by intro ai s σ H xs us Q I r h;obtain a|kvs|rfl|b|q:=h;obtain u|rfl|c:=X1 r;cases c;exact ZvJ I (.inl b) λt s' d=>(.int ø,H,d,ÉK,q)
universe E
section
variable {κ:Type} [ÈS κ]
theorem ZsV{kvs:ÀH}{k:κ}{v:V}(h:Y4 kvs k=U v):k∈Â2 ó:=by
 have q:Íq=true:=by rw[SH,h];all_goals rfl
 rw[tq,p,b,e,List.any_eq_true.mp,q];exact ØM (p,b,Ŀ e)
universe E
structure Mf (P:ay) (w:aF) (K:Å) (mg:Ā) (Â:aI) (k:Nat) (C:ae) (m:ak) (ps:Ñ) (sp:Sp):Prop where
 ex:X2 λf fd=>YY P w K mg Â CX0 k f fd ps sp/\U0 K C m f/\YB K fd ps []
structure Cf (P:ay) (w:aF) (K:Å) (mg:Ā) (Â:aI) (k:Nat) (C:ae) (x:ak) (ps:Ñ) (sp:Sp):Prop where
 ex:X2 λf fd=>YY P w K mg Â CX0 k f fd ps sp/\Mk K C f/\YB K fd ps []/\mg x=U æ
structure Yj (K:Å) (C:ae) (m aY:ak) (st:aM) (ps:Ñ):Prop where
 ex:X2 λf fd=>Fun K m aY st f fd/\U0 K C m f/\YB K fd ps []
structure UR (K:Å) (mg:Ā) (C:ae) (x aY:ak) (st:aM) (ps:Ñ):Prop where
 ex:X2 λf fd=>Fun K "__init__" aY st f fd/\Mk K C f/\YB K fd ps []/\mg x=U æ
section
variable {P:ay} {w:aF} {K:Å} {mg:ak->Ã aa} {Â:aI}
theorem Yj.mf{C:ae}{m c:ak}{st:aM}{N ps:Ñ}{k:Nat}{sp:Sp}(T:Yj K C m c st ps)(S:Äu)(len:Ãx)
  (d:∀ (a:aa) (f:ae) (A:aD) (Ü:À Env) (s:aj) (H:Hp) (vs:À V) (Q:VK) (E:XK),Zt k Íw->sp vs H Q E ->
   ∃t,PSs #[b4].nox ÂL t/\t { nx:=λ_ e=>Q .non e,rt:=Q } ÁD H):Mf P w K mg Â (k+1) C m ps sp:=by
 rw[sN,g];exact(f,g,F.ok S len #[eV,i,d],m,b)
theorem UR.cf{C:ae}{x c:ak}{st:aM}{N ps:Ñ}{k:Nat}{sp:Sp}(T:UR K mg C x c st ps)(S:Äu)(len:Ãx)
  (d:∀ (a:aa) (f:ae) (A:aD) (Ü:À Env) (s:aj) (H:Hp) (vs:À V) (Q:VK) (E:XK),Zt k Íw->sp vs H Q E ->
   ∃t,PSs #[b4].nox ÂL t/\t { nx:=λ_ e=>Q .non e,rt:=Q } ÁD H):Cf P w K mg Â (k+1) C x ps sp:=by
 obtain f|i|F|m|b|g:=T.ex;exact(f,i,F.ok S len #[eV,j,d],m,b,g)
universe E
section
variable {X:Cx} {k j:Nat} {C:ae} {m x:ak} {ps:À ak} {sp:Sp} {o e:aK} {es:À aK} {ta:TE} {t:TA} {p bv pos:Pos} {pl:Sem Ï}
theorem XA(F:#[fT,Mf,m])(c:Äg)(hr:Âf)(he:Ãu)(ha:Àk)(d:k<=j:=by decide)
  (h:θ:=by rfl) (i:ÁB:=by rfl)
  (l:ă Æ6 Ì=(do
   let a <- ă o Ì
   Ã5 Æ7
   let (f,first) <- Át [a] (Äe a m pl)
   Æ8 pos f first (bo pos Éx) Æ9):=by rfl) :
  PE X Æ6 (SX C m sp [] E0 ta t):=by
 obtain f|fd|F|g|b:=F.ex;exact ZsY he c g F (Äh d) b .nil Vy ha h i l
theorem Yi(F:#[fT,Mf,m])(c:Äg)(hr:Âf)(he:Ãu)(d:k<=j:=by decide)
  (e:ă Ìn Ì=(do
   let a <- ă o Ì
   Ã5 Æ7
   let (f,first) <- Át [a] (Äe a m pl)
   Æ8 pos f first (bo pos (aG [] Ì)) Æ9):=by rfl) :
  PE X Ìn (SX C m sp [] E0 ta VA):=by
 obtain f|fd|F|g|b:=F.ex;exact ZqG he c g F (Äh d) b .nil Vy e
theorem Ub(F:#[fT,Cf,x])(hr:Âf)(ha:Àk)(a:k+1<=j:=by decide)(c:Ō:=by rfl)(d:Ĩ:=by decide)
  (h:θ:=by rfl) (i:ÁB:=by rfl) :
  PE X Äo (SW C sp [] E0 t):=by
 rw[iM,g,b,l];exact Zr8 g F Ì5 c l b .nil Vy ha d h i
universe E
section
variable {X:Cx} {ai:À (ae×aN)} {σ:St} {H:Hp} {s:aj} {d:ae} {o:aN} {u:HO}
theorem Inv.freeze(I:ä)(e:H d=U u)(a:Mut (U u))(c:é d=U o):Inv X ai σ (upd H d ÂB) s:=by
 have h:=ÅC (x:=d) (e:=d) (o:=.frz o u) (t':=ř) (h':=Ë) #[ei,e,a] Ğ (λb v _ q=>q) (o,c) ?_
 ·exact h
 ·refine(c,(ê d u e).stay (λb v _ q=>q) (λb q=>?_) #[hU,b,xs,q])
  ·rw[nn]
  ·rw[nn]
theorem Inv.nofrz(I:ä)(e:H d=U u)(c:Mut (U u)):∀a b,ÈX d≠U (.frz a b):=λa b z=>by have:=È2 d a b z;rw[e]at this;cases this;exact c
theorem Inv.thaw(I:ä)(e:H d=U ÂB)(mu:Mut (U u))(n:∀g h,ÈX d≠U (.frz g h)):Inv X ai σ (upd H d u) s:=by
 have i:∀b,H b=af->b≠d:=λb z=>Zf (H:=H) e z |>.symm;refine(ζ,I.os,Λ,(ÈY,È0,λb v k j l=>?_,Òg,λb f q=>?_,λb g h q=>?_,λb r q=>?_),Š,Àd,?_,λx c q=>?_,λp t=>?_,?_,ÀB)
 ·have:=ÆG b v k j l;rw[Zc (i b this)];exact this
 ·have:=ËQ b f q;rw[eR,e]
 ·have:=È2 b g h q;rw[Zc (λz=>by rw[z]at q;exact n g h q)];exact this
 ·obtain Ę|this:=ËS b r q;refine(Ę,?_);rw[eR,e]
 ·rw[Zc (i _ ε)];exact ε
 ·rw[Zc (i _ (ÀC x c q))];exact ÀC x c q
 ·obtain k|j|l:=Àe p t;exact(k,by rw[Zc (i _ j)];exact j,l)
 ·intro b v q;have own:∀c a,H c=U Åo->(upd H d u) c=U Åo:=λc a q=>by rw[Zc (λz=>by rw[z,e]at q;cases q)];exact q
  have tup:∀c f,H c=U (.tup f)->(upd H d u) c=U (.tup f):=λc f q=>by rw[Zc (λz=>by rw[z,e]at q;cases q)];exact q
  by_cases m:b=d
  ·subst m;rw[rR,Zb,q];obtain _|w:=(show Z8 ö X.w H Ë b ÂB from ê b _ e);exact w.stay (λc v _ q=>q) (λc q=>own c b q) tup
  ·rw[Zc m]at q;exact(ê b v q).stay (λc v _ q=>q) (λc q=>own c b q) tup
universe E
def ZvM(t:TE):TE:=λb H Q=>X2 λd u=>H d=U u/\Mut (U u)/\t b H λv a=>∃o,a d=U ÂB/\Q v (upd a d u)
theorem Ua{X:Cx}{e:aK}{t:TE}(h:PE X e t):PE X e (ZvM t):=by intro b s c H Q I q;obtain d|u|f|a|q:=q;have n:=I.nofrz f a;refine thn (h b s c H _ I q) ?_;rintro v s1 ⟨x,H1,g,i,o,j,k⟩;exact(x,_,g.thaw j a n,i,k)
theorem Pz{P:ay}{w:aF}{k:Key}{v:aa}(h:(ÆB).is k v=true):ZE (kV k) v:=by
 rw[Zl9]at h;rcases WC h with⟨i,t,rfl,rfl⟩|⟨x,t,rfl,rfl⟩
 ·exact ÉK
 ·exact ÉK
def KR:À V->Hp->VK->Prop:=λxs H Q=>X2 λd kvs=>xs=[.ref d]/\H d=U Áf/\∀l,H l=af->Q ć (upd H l (.lst (Â2 λa=>kV a.1)))
theorem KQ{P:ay}{w:aF}:∀ (kvs:À (Key×V)) (vs:À (Key×aa)) (us:À aa),KV kvs vs->ÀR=Ÿ->(∀ (j:Nat) (v:aa),us[j]? = U v->∃k x,vs[j]? = U (k,x,)/\(ÆB).is k v=true)->ZG (Â2 λf=>kV f.1) us:=by
 intro kvs vs us r;unfold KV at r;induction r generalizing us with
 | nil =>
  intro c _;cases us with
  | nil=>exact .nil
  | Î a b=>simp at c
 | @Î p q ps qs h t g =>
  intro c d;cases us with
  | nil=>simp at c
  | Î a b =>
   obtain k|x|e|i:=d 0 a rfl;have l:q=(k,x,):=by simpa using e
   rw[Qj];refine .cons ?_ (g b #[eg,c] λj v m=>?_)
   ·rw[h.1,l];exact Pz i
   ·simpa using d (j+1) v #[eg,m]
theorem ZlL{X:Cx}(hc:Ŏ):YZ X ÂK KR:=by intro ai s σ H xs us Q I r h;obtain d|b|rfl|m|q:=h;obtain u|rfl|n:=X1 r;cases n;obtain z|lo|k|f|p:=#[fM,d,b,m];obtain ep|t:=p.dictAt;have hl:ħ=ÇC:=Ád;refine PySem.W.kdl_call (ØN lo) Áv t Á λh' tk g c x y l=>?_;have A:ZG (Âl λi=>kV i.1) ÇD:=KQ (P:=ö) (w:=X.w) b k ÇD f #[ei,Qar,l.1] λj v e=>l.2 j v #[eS,Qav,e];refine(.ref Ð,_,ÀY (a:=Ér) (o:=.lst (Âl λi=>kV i.1)) (t':=tk) x ç ?_,rfl,q _ Ãw);exact(by rw[Qa];exact z,ÇD,c,A,by simpa using y)
theorem Inv.dictF{X:Cx}{h:Ć}{i:St}{H:Hp}{s:aj}{d:ae}{o:aN}{kvs:Ŗ}{b:Å0}{ep:Nat}(I:Inv X h i H s)(e:H d=U Ág)(hd:#[zI,b]) :
  ∃vs,KV kvs vs/\s.heap.DictAt Âk d vs ep:=by
 obtain c|_|_|vs|a|o'|yc|yd|f|j|g|k:=(show Z8 ö X.w H Ë d Ág from ê d _ e);rw[fX,c,f,f];rw[rR,hd,g];exact(vs,a,o,b,c,j,hd,k)
theorem Py{kvs:Ŗ}{vs:À (Key×aa)}(r:ÄK):∀ (i:Nat) (k:Key) (x:V),kvs[i]? = U (k,x,)->∃u,vs[i]? = U (k,u,)/\ZE x u:=by
 unfold KV at r;induction r with
 | nil=>intro i k x h;simp at h
 | @Î p q ps qs h t b =>
  intro i k x a;cases i with
  | zero =>
   have e:p=(k,x,):=by simpa using a
   rw[sC,q.2,?_]
   ·have:q=(k,q.2,):=by rw[show k=q.1 by rw[<- h.1,e]]
    simpa using this
   ·have:=h.2;rw[zR,e]
  | succ i=>simpa using b i k x #[eg,a]
def Itv(d:ae)(o:aN)(kvs:Ŗ):It :=
 (λi H=>H d=U Ág/\i<ø,λi H v a=>a=H/\∃k,kvs[i]? = U (k,v,),λi H=>H d=U Ág/\ø<=i)
def Itk(d:ae)(o:aN)(kvs:Ŗ):It :=
 (λi H=>H d=U Ág/\i<ø,λi H v a=>a=H/\X2 λk x=>kvs[i]? = U (k,x,)/\v=kV k,λi H=>H d=U Ág/\ø<=i)
theorem Zoa{P:ay}{w:aF}{K:Å}{N:aK}{d it:ae}{o:aN}{kvs:Ŗ}{O:Å0}{ep:Nat}(hd:#[zI,O]):WB P w K N (Itv d o kvs) [it] it (λi h=>h.IsValIter it d i ø ep) where
 mem:=by simp
 obj:=λi h st b f=>by
  have e:b=it:=by simpa using f
  rw[19]
 ċ:=λi h g st k=>by obtain o|e|r:=st;exact Ì6
 item:=by intro X m hw n J i L s M H E I j st p;rw[G];obtain u|R|S:=ØO;refine wpAny_pyNext_values_item #[eS,l,st] F R λg G T=>?_;rw[ap];exact(_,rfl,U6 (s:=#[hR,s,g]) Y Z d1 É (kvs[i].2,H,W,S,(rfl,kvs[i].1,Qb C),G,λb f=>(j b f).1))
 done:=by intro X m hw n J i L s M H E I j st p;rw[G];exact wpAny_pyNext_values_end (Áx J) #[eS,l,st] F (QW Á) λg eb=>(rfl,À9 (t':=ř) #[ff,b,f,eb] q t x y A)
 self:=#[hZ,wpAny_pyIter_valiter]
theorem Zos{P:ay}{w:aF}{K:Å}{N:aK}{d it:ae}{o:aN}{kvs:Ŗ}{O:Å0}{ep:Nat}(hd:#[zI,O]):WB P w K N ØP [it] it (λi h=>h.IsKeyIter it d i ø ep) where
 mem:=by simp
 obj:=λi h st b f=>by
  have e:b=it:=by simpa using f
  rw[19]
 ċ:=λi h g st k=>by obtain o|e|r:=st;exact Ì6
 item:=by intro X m hw n J i L s M H E I j st p;rw[G];obtain u|R|ru:=ØO;refine wpAny_pyNext_dict_item #[eS,l,st] F R λkey g S G T=>?_;rw[ap];exact(_,rfl,U6 (s:=#[hR,s,g]) Y Z d1 É (kV kvs[i].1,H,W,Pz S,(rfl,kvs[i].1,kvs[i].2,Qb C,rfl),G,λb f=>(j b f).1))
 done:=by intro X m hw n J i L s M H E I j st p;rw[G];exact wpAny_pyNext_dict_end (Áx J) #[eS,l,st] F (QW Á) λg eb=>(rfl,À9 (t':=ř) #[ff,b,f,eb] q t x y A)
 self:=#[hZ,wpAny_pyIter_keyiter]
def ZvY(b:TE):TI:=#[fa,Itk]
theorem KP{X:Cx}{r l:aK}{g:TE}(hl:PE X l g):PI X r l (ZvY g):=by
 rw[st,t,u];rintro v a ⟨x,i,j,w,y⟩;obtain d|kvs|e|k|q:=y;subst e;cases w;obtain z|lo|m|c|o|A|ep|n|B|p|C:=(show Z8 ö X.w i a.heap d Áf from j.hok d _ k);have D:ø=m.length:=Ĥ;have f:=j.freeze k ŷ n;refine wpAny_pyIter_dict (knd:=Êm) (kvs:=m) (ep:=ep) lo (o,A,n,B,p,C) ?_;rw[<- D];refine(Àj,ÑF,_,Itk d o kvs,upd i d Ág,rfl,f.kept (t':=Æ1) λb o e=>Qc _ e,Zos p,Äa,λb E=>?_,q o);have e:b=Àj:=by simpa using E
 rw[pm]
def Zvv(b:TE):TI:=#[fa,Itv]
theorem KO{X:Cx}{F o:aK}{to:TE}{t u:Pos}(G:PE X o to)(J:#[fk,o,"values"]:=by rfl)(K:ØQ:=by rfl) :
  PI X F (.Call #[sq,"values",t] [] [] u) (Zvv to):=by
 rw[e3,w,y,R];refine dZ J K #[es,G,w,y];rintro v c ⟨x,k,A,L,M⟩;obtain d|f|e|B|q:=M;subst e;cases L;rw[dA];have N:Ád=ÆV:=ś;have O:=ØR;rw[nU];refine("dict", "dict.values",Q6,ØS,PySem.F.type_dict_values,Íx,λa e=>?_,?_)
 ·cases e;exact(g,j,m.2.1)
 rw[l7];refine ÅY ØS Íx PySem.F.entry_dict_values (PySem.F.args_dict_values_1 _) (meets_dict_values Âk d lo) ((i,p),?_);have P:#[fH,"dict_values"].IsValuesView ÀX d:=Äa;have Q:#[fH,"dict_values"].DictAt Âk d i D:=(g,C,Qc _ j,m,n,E);refine wpAny_pyIter_values (s:={ c with Õ:=ÆS { cls:=.type "dict_values",Ó:=.fields #[.ref d] } }) P Q ?_;rw[<- N];have r:Inv X w y (upd k d Íy) { c with Õ:=ÆS { cls:=.type "dict_values",Ó:=.fields #[.ref d] } }:=#[sO,O.kept];refine(_,[_],_,Itv d g f,upd k d Íy,rfl,r.kept (t':=Åx) λb o e=>Qc _ e,Zoa n,Äa,λb S=>?_,q g);have e:=ò S;rw[qm]
def Iti(d:ae)(o:aN)(kvs:Ŗ):It :=
 ⟨λi H=>H d=U Ág/\i<ø,
  λi H v a=>X3 λp k x=>H p=af/\v=.ref p/\kvs[i]? = U (k,x,)/\a=upd H p (.tup [kV k,x]),
  λi H=>H d=U Ág/\ø<=i⟩
theorem ZlY{P:ay}{w:aF}{K:Å}{Q:ĳ}{R:Nat}{S:Pos}{d it:ae}{o:aN}{kvs:Ŗ}{T:Å0}{ep:Nat}(hd:#[zI,T]) :
  WB P w K (.Tuple Q R S) (Iti d o kvs) [it] it (λi h=>X2 λok j=>IsItemIter h it d i ø ep ok j) where
 mem:=by simp
 obj:=λi h st b g=>by
  have e:b=it:=by simpa using g
  subst e;rw[xH];rw[fx,a,v,z]
 ċ:=λi h r st k=>by obtain ok|j|a:=st;exact(ok,j,k it Ö _ a)
 item:=by
  intro X t hw x m i F s G H E I n st y;subst t hw x;rw[xH];rw[i6];obtain u|W|Y:=Py f i kvs[i].1 kvs[i].2 (Qb B);refine wpAny_pyNext_items_item #[eS,p,a] D W λkey r Z J a2 a3 a4=>?_;rw[<- p]at J;have lt:Ñz:=λq=>QX (Qr q);have L:Ð≠it:=lt a;refine(_,rfl,wpAny_letOwnedTupleGo_items J λM N qi=>?_);have l:#[zy,it,r,M]:=qi;have I2:Inv X F G (upd H Ð (.tup [kV kvs[i].1,kvs[i].2])) { s with Õ:=M,î:=ń }:=by
   refine I.zipped (fp:=[it]) (u:=key) (v:=u) n (Pz Z) Y (Çq _ _ L a2) (λb g=>?_) λc o m q=>?_
   ·have e:=ò g;subst e;exact(_,N)
   ·have O:c≠it:=λz=>m #[sS,z];exact Çq _ _ O (a4 c o O q)
  refine(.ref Ð,_,I2,rfl,(Ð,kvs[i].1,kvs[i].2,ÉH,rfl,Qb B,rfl),(_,_,N),λb g=>?_);have e:=ò g;subst e;rw[Zc L.symm];exact(n _ g).1
 done:=by intro X t hw x m i F s G H E I n st y;subst t hw x;rw[xH];rw[ue];rw[i6];exact wpAny_pyNext_items_end (Áx m) #[eS,p,a] D (QW Á) λr eb=>(rfl,À9 (t':=ř) #[ff,b,g,eb] f0 f1 f3 f4 f5)
 self:=λ_ _ _ _ _ st h=>by obtain ok|j|a:=st;exact PySem.W.kcp_self a h
def Zu4(b:TE):TI:=#[fa,Iti]
theorem KN{X:Cx}{F:ĳ}{G:Nat}{J:Pos}{o:aK}{to:TE}{t u:Pos}(K:PE X o to)(L:#[fk,o,"items"]:=by rfl)(M:ØQ:=by rfl) :
  PI X (.Tuple F G J) (.Call #[sq,"items",t] [] [] u) (Zu4 to):=by
 rw[e3,w,y,R];refine dZ L M #[es,K,w,y];rintro v c ⟨x,k,A,N,O⟩;obtain d|f|e|B|q:=O;subst e;cases N;rw[dA];have P:Ád=ÆV:=ś;have Q:=ØR;rw[nU];refine("dict", "dict.items",Q6,ØT,PySem.F.type_dict_items,Íx,λa e=>?_,?_)
 ·cases e;exact(g,j,m.2.1)
 rw[l7];refine ÅY ØT Íx PySem.F.entry_dict_items (PySem.F.args_dict_items_1 _) (meets_dict_items Âk d lo) ((i,p),?_);have S:#[fH,"dict_items"].IsItemsView ÀX d:=Äa;have T:#[fH,"dict_items"].DictAt Âk d i D:=(g,C,Qc _ j,m,n,E);refine wpAny_pyIter_items (s:={ c with Õ:=ÆS { cls:=.type "dict_items",Ó:=.fields #[.ref d] } }) S T ?_;rw[<- P];have r:Inv X w y (upd k d Íy) { c with Õ:=ÆS { cls:=.type "dict_items",Ó:=.fields #[.ref d] } }:=#[sO,Q.kept];refine(_,[_],_,Iti d g f,upd k d Íy,rfl,r.kept (t':=Åx) λb o e=>Qc _ e,ZlY n,(_,_,Qt _ rfl),λb V=>?_,q g);have e:=ò V;rw[qm]
theorem Zto{X:Cx}{b:Ć}{s:aj}{c:St}{H:Hp}{d:ae}{kvs:Ŗ}{k:Key}{v:V}{e u:aa}{Q:Hp->Prop}(I:Inv X b c H s)(f:H d=U Áf)(hz:ø<aq)(i:ZE (kV k) e)(j:ZE v u)
  (q:Q (upd H d (.dK Òa))):ô (dictSet d e u) (λ_ s'=>∃g,Inv X b c g s'/\Q g) è s:=by
 obtain _|l|vs|a|m:=SE ê f;refine ØU (knd:=Êm) (k:=k) (WG i) m #[hU,h',h,n] (by rw[<- ľ];lia);refine(_,?_,q);obtain o|p|_:=aI.dictOf_iff.mp h;exact Ud I #[tt,f] n (o,p) (Uc (Qk (SG kvs k v) Á) l (a.put k j) h)
def KL(J:It)(D:ae)(k:Nat)(q:St)(r:Hp)(g:TG)(s:TT)(tk t:TE)(Q:VK):Prop :=
 ∃W:Nat->Nat->À (Key×V)->St->Hp->Prop,(∃m,W 0 m [] #[r9,q,k] #[iO,r,D]) /\
  ∀i m a e c,W i m a e c->Ör \/
   (J.go i c/\∃N:À (Key×V)->St->Hp->Prop,Ös/\∀x n,J.yld i c x n->g x e n λd u=>s d u λb o =>
    if b=true then tk d o λv w=>t d w λy p=>∃k:Key,v=kV k/\p D=U (.dK a)/\ľ<aq/\N (YX a k y) d (upd p D (.dK (YX a k y))) else N a d o)
def KJ(n:Nat)(c:TI)(g:TG)(d:TT)(tk e:TE):TE:=λa H Q=>c a H λJ b=>∀D,b D=af->KL J D n a b g d tk e Q
section
variable {X:Cx} {N N':À ak} {o c:bh}
theorem Zo1{kx vx tg ļ:aK}{dP:ĳ}{pos dr:Pos}{wi:TI}{g:TG}{tc:TT}{tk te:TE}{use:Ã (aa->Sem Unit)}{QQ:ð}(S:Àm)(hN:X.N=N)(ho:Àn)(hc:Ŏ)
  (hi:PI X tg ļ wi) (hg:#[fb,PG,tg,g]) (ht:#[fb,PTs,dP,tc]) (hk:#[fb,PE,kx,tk]) (he:#[fb,PE,vx,te])
  (hs:ÆU) {Z:Ć} {s:aj} {σ:St} {H:Hp} {Q:VK} (I:Inv X Z σ H s) (h:KJ ÅL wi g tc tk te σ H Q)
  (post:∀ (D C:ae) (t:aj) (l:Hp) (m:ak->Ã aa),Inv X Z σ l t->l C=af->t.heap.Ns C m->C≠ı->ŵ<=C->#[gI,a,C]->Öt ->
   Q π l->ÂP ġ X.A è use QQ π C Çk t) :
  ô (ÌG Òh c Ì dr newDict false #[fr,ļ] use) QQ è s:=by
 have rj:Öu:=Lz λy hy hf=>by refine ËW y.1 ?_;rw[c0]
 rw[bh];obtain it|fp|tn|J|B|e|I2|T|dj|f2|hR:=h2;subst e;have hD:B Âc=af:=I2.fresh;have O:Inv X Z σ Ên { f with Õ:=Äx { cls:=.type "dict",Ó:=.dict #[] } } :=
  I2.laid (t':=À0) ÉG ç (PH _ (Qbb É (show aL<Âc from(I2.mod.glob.keeps I2.bk).lt)))
 have vm:Öv:=λb k=>by obtain A|e|_:=T.obj 0 _ dj b k;exact Qr e
 refine bz (Öw S.nocell Öx #[hU,G,o8,o9] Çb);have P:∃j:aj,j={ f with Õ:=Äx { cls:=.type "dict",Ó:=.dict #[] } }:=ü;rw[ew,j,rm,P];have P:Çm=Äx { cls:=.type "dict",Ó:=.dict #[] }:=by rw[rm]
 have p9:Öy:=by rw[P,Q1]
 rw[rK];have f3:#[sd,Z,Ên]:=λb k=>(by rw[Zc (Qz (vm b k))];exact(f2 b k).1,(f2 b k).2);have fW:tn 0 Çm:=Ég 0 _ _ dj λb _ A e=>by rw[P];exact Qc _ e
 rw[<- rm]at O;show bL ġ X.A (.compStart _ 0 Áw ÀG (bM c Äw #[lA].objs.size Ì))
  (ÂP ġ X.A è use QQ ÀG #[lA].objs.size)
  { f with Õ:=G,î:=À0+([]:À (ak×aa)).length }
 have eJ:G.Ns ż Öz:=by rw[P];exact o8
 have qa:#[e7,A,j.heap.get?,A,G.get?]:=λb A e=>by rw[P]at e;exact ÖA
 rw[<- P];have Ba:({ f with Õ:=G,î:=À0+([]:À (ak×aa)).length }:aj)={ j with Õ:=G,î:=À0 }:=by rw[rm];rfl
 rw[lE];have I4:=Lw (tk:=À0) S hN ho O f3 vn eJ qa;have vp:tn 0 G:=ÖB;generalize w:YG X c N' ż j (upd B Âc (.dK [])) fp=Y at I4;have K:Y.prog=ö:=by rw[<- w];rfl
 have L:Y.w=X.w:=by rw[<- w];rfl
 have YK:Y.K=X.K:=by rw[<- w];rfl
 have Yc:Y.calm=true:=by rw[<- w];exact hc
 have YA:Y.A=X.A:=by rw[<- w];rfl
 have qb:ÖC:=by rw[<- w];rfl
 have Yl:ÖD:=by rw[qb];rfl
 have mR:Y.xe=λ_ _=>ė:=by rw[<- w];rfl
 rw[e6,vq,hg,Ên,fG,ht];rw[e6,iu,hk,Ên,gP,he];rw[w]at vq fG iu gP;have ir:∀ {R:Hp},#[hW,R]->∀b∈fp,Xs Y [] R b:=λ{R} hn b k=>by
  rw[67];have rn:p∈Ìs:=by
   have:Y.pn=[]:=by rw[<- w];rfl
   rw[this]at hp;exact hp
  cases rn
 have fin:∀ (t:aj) (M:St) (l:Hp),Inv Y [] M l t->Q ÀG l->ÂP ġ X.A è use QQ ÀG ż Çk t:=λt M l F q=>by
  rw[ud];have pb:l ż=af:=by have:=F.free;rw[zR,Yl]
  have un:Un ËT fp Ên l Çm t.heap:=by have:=F.base;rw[hP,w]
  have Bb:t.os=j.os:=by have:=F.os;rw[hP,w]
  have jt:ÖE:=by have:=F.hok;rw[K,L]at this;exact this
  refine post _ _ t l m (O.call' (s':=t) (ch:=fp) Bb un jt F.bare λb k=>?_) pb hn (QX O.lt) O.sz #[hU,x,a,e] (λp hp=>?_) q
  ·rw[l8]
  ·obtain v|A|e'|_:=O.cell x a e;exact Qz (Qr e')
  ·exact Qz (Qr (O.pin p hp).1)
 have qc:bL ġ X.A #[sx,Òh,Áw]
   (ÂP ġ X.A è use QQ ÀG ż) { j with Õ:=G,î:=À0 }:=by
  rw[<- qb,<- YA];refine Zix (E:=ËX) (λn s'=>X4 λi ys aU R=>Inv Y [] aU R s'/\tn i ÀD/\#[hW,R]/\W i n ys aU R) ÉR ?_ m0
   ÖF
  ·rintro n t ⟨i,ys,M,l,F,o6,qZ,w5⟩;rcases turn i n ys M l w5 with⟨stop,qn⟩|⟨go,Nn,vt,step⟩
   ·refine thn (T.done Y K L YK Yc i [] t M l _ F (ir qZ) o6 stop) ?_;rintro r s6 ⟨hr,I6⟩;subst hr;have fq:=fin s6 M l I6 qn;rw[<- YA]at fq;exact fq
   ·refine thn (T.item Y K L YK Yc i [] t M l _ F (ir qZ) o6 go) ?_;rw[aT];have qd:ÖG:=λ{rq V s9} I9=>by refine ÖH;rw[gz,A,rp,k,I9.pin]
    have P1:=vq _ s7 M H7 x u _ Be r7 (step x H7 y7);rw[f3,K,L,P1];rw[lS];rw[f3,K,L,P2];rintro ok s9 ⟨V,I9,q9⟩;cases ok with
    | false=>rw[Ç Qu]at q9;rw[bG]
    | true=>rw[Æ rfl]at q9;rw[ql];have P3:=iu _ s9 kC V _ I9 q9;rw[f3,K,L,P3];rintro kv qe ⟨vk,ju,Bf,Bg,q10⟩;have P4:=gP _ qe kC ju _ Bf q10;rw[f3,K,L,P4];rintro y qf ⟨vy,rA,rB,r11,kk,eb,Bh,hsz,q11⟩;subst eb;have P5:=Zto (X:=Y) rB Bh hsz Bg r11 q11;rw[f3,K,L,P5];rintro _ pr ⟨qp,vM,q12⟩;rw[tq,b1,b2,b3,qd,vM];obtain m'|gz|w12:=vt _ _ _ q12;exact(m',gz,i+1,YX ys kk vy,kC,qp,b1,b2,b3,w12)
  ·exact w0
 have lp:=T.self X.A 0 { j with Õ:=G,î:=À0 } (λBi s'=>bL ġ X.A #[sx,Òh,Bi]
   (ÂP ġ X.A è use QQ ÀG ż) s') ÉT vp qc
 exact codeAny_compStart_dict qc ÖI
theorem ZpF{b d a ļ:aK}{e:ĳ}{pos:Pos}{f:TI}{g:TG}{i:TT}{tk j:TE}(S:Àm)(k:X.N=N)(l:Àn)(hc:Ŏ)
  (n:PI X a ļ f) (p:#[fb,PG,a,g]) (ht:#[fb,PTs,e,i]) (hk:#[fb,PE,b,tk]) (he:#[fb,PE,d,j])
  (hs:ÆU:=by intro _;rfl) :
  PE X #[hX,b,a,e,c] (KJ ÅL f g i tk j):=by
 rw[e3,ai,σ,Q];show ar _ _ (ÌG #[hX,b,a,e,c] c Ì _ newDict false #[fr,ļ]) _ _ _;refine Zo1 (use:=af) S k l hc n p ht hk he hs I h λD C s5 r m t u v w y z A q=>(m,v,λh' B=>?_);exact(.ref D,r,t.let u w y z A B,rfl,q)
universe E
theorem ZgM:ÅD ÂK "keys" = pure af:=by rw[Íz,ÍA];kernel_rfl
theorem ØV{ñ:ay}{w:aF}{A:aD}{E:ð}{s:aj}{a:ae}{o:aN}{xs:Á7}{k:Nat}{Q:ÌS}
  (hx:é a=U o) (hc:Ãp=.type "list") (b:ų=.seq xs k) (hd:o.dict=af) (l:Á9)
  (h:∀h' tk e,aI.NewExcOf Ë h' e "AttributeError"->Q af { s with Õ:=h',î:=tk }) :
  ar Ô A (getAttr? ĩ "keys") Q E s:=by
 obtain c|dct|dat|m:=o;simp only at hc b hd;subst hc b hd;rw[gw,n,tk,s];have f:∀i,(#[f8,n,i]:aj).TypeIs ĩ "list":=λ_=>(_,hx,rfl);have f1:=sub_AttributeError;have f3:=F.slot_list_getattribute.lookup;have f4:=F.slot_list_getattribute.bind ĩ;have f5:=am_list_getattr_none;unfold getAttr? getAttrBy? getAttrBy;repeat (any_goals (first|assumption|exact f _|((with_reducible show ar _ _ (Ĵ (aa.builtin "list.__getattribute__") _ _) _ _ _);refine Çi F.slot_list_getattribute (f _) am_entry_list_getattribute (F.args_list_getattribute_2 _ _) (meets_getattribute_miss_list a xs k m "keys" _ ZgM É Ño) (hx,l,λh' i e j=>?_))|wp_step))
 rw[hD,t',u',he,j.there];show ar _ _ (ØW _ _ _ _ _ _ _) _ _ _;unfold ØW;repeat (any_goals (first|assumption|wp_step))
 exact h _ _ _ j.of
theorem KI:entryFor table "dict.update.loop" = U aS.«dict.update.loop»:=entryFor_of_tree (by kernel_rfl)
theorem SD:plainId "dict.update.loop" = true:=by ac_rfl
section
variable {ñ:ay} {w:aF} {A:aD} {R:Éu->aj->Prop} {I:ae} {fp wr:À ae} {G:ā Ão->ā Ão->Prop} {n:Nat} {P:Nat->aa->Prop} {St:Nat->aj->Prop} {K:Type} [ÈS K] {knd:KeyKind ñ w K}
theorem ZlG(Ę:À (K×aa)):∀kvs:À (K×aa),(ÅZ kvs Ę).length<=ø+more.length:=by
 induction Ę with
 | nil=>intro kvs;exact Qf _
 | Î x r a =>
  intro kvs;have h:=a ØX;have h2:(ØX).length<=ø+1:=by
   unfold Êj;split
   ·rw[Qa];lia
   ·rw[Qi];exact Qf _
  show (ÅZ ØX r).length<=_;rw[QA];lia
theorem Zdg(W:WalksS ñ w ÃI I fp wr G n P St)(D:ae)(M:D ∉ fp)(ks:À (K×aa))(g:Ο=n)(As:Nat->ae)(t:∀j,j<n->As j≠D/\As j ∉ wr)
  (X:∀i v,P i v->v=.ref (As i)) (hsz:n<=aq) :
  ∀ (k i:Nat) (z:Int) (s:aj),n-i=k->i<=n->St i s->s.heap.DictOf knd D ØY ->
   (∀j (f:j<n),∃l,Θ Ë (As j) #[l,(ks[j]'(g ▸ f)).2]/\knd.is (ks[j]'(g ▸ f)).1 l=true) ->
   (∀s',Moved (D::wr) G s s'->s'.heap.DictOf knd D (ÅZ [] ks)->R (.ok (.ret .none)) s') ->
   bL Ô A (.builtin "dict.update.loop" ([.ref D,.ref I,Ŷ z,.none],[])) R s:=by
 have N:D ∉ wr:=λh=>M (W.sub _ h);have O:∀b∈wr,b∈D::wr:=λb m=>Qm _ m;intro k;induction k with
 | zero =>
  intro i z s Y Z u q x y;have mU:i=n:=by lia
  subst mU;rw[cQ];refine ah (W.done s _ _ u λs' a=>?_);show ar _ ÃI (aS.Dict.addKeywords D [] >>= λ_=>ret Àb) _ _ s';refine ah (av (av (y s' (a.mono O) ?_)));rw[Qv Á]at q;obtain o|B|C|c|Ă:=q;exact ØZ
 | succ k ih =>
  intro i z s Y Z u q x y;have d:i<n:=by lia
  rw[cQ];refine ah (W.item i s _ _ d u λv s' hP EB a=>?_);have ev:=X i v hP;subst ev;obtain l|ht|mW:=x i d;have fG:Θ ÀD (As i) #[l,(ks[i]'(g ▸ d)).2]:=by obtain o|c|r:=ht;exact(o,a.heap _ _ (t i d).2 c,r)
  have BE:s'.heap.DictOf knd D ØY:=by obtain o|B|C|c|Ă:=q;exact ØZ
  show ar _ ÃI (Át [á (As i)] _ >>= _) _ _ s';refine ah (aT ?_);obtain ot|Q|E|nt|F:=id fG;refine ah ?_;have BF:ar Ô ÃI (Ø0 (á (As i))) (λp H=>p=[l,(ks[i]'(g ▸ d)).2]/\H=s') (λe s'=>ė) s':=by unfold Ø0;refine ah (Êe (T := "tuple") (ot,Q,E) ?_);rw[Æ É];exact ah (bj Q F (av Ŕ))
  refine cY (ba BF #[hU,p,H,h2] λ_ _ z=>ÇE);obtain rfl|rfl:=h2;have kE:(ØY).length<=aq:=by have S:=ZlG (ÍB i) [];rw[Qx]at S;simp only[ÅM]at S;lia
  refine aT (ØU mW BE #[hU,V,cS,J] kE);have gb:V.DictOf knd D (ÅZ [] (ÍB (i+1))):=by rw[merged_take_succ [] ks i _ (Qb (g ▸ d))];exact cS
  refine av (plainId_quiet SD _,ih (i+1) (z+1) _ Á d (W.frame _ H _ _ EB (QV _) λb m o e=>?_) gb (λj f=>?_) λvc ED EE=>?_)
  ·rw[J.2 b (λh:b=D=>M #[eS,h,m])];exact e
  ·obtain kj|⟨o,c,r⟩|L:=x j f;refine(kj,(o,?_,r),L);have iy:=(t j f).1;show V.get? (As j)=U o;rw[J.2 _ iy];exact a.heap _ _ (t j f).2 c
  ·refine y vc (Moved.trans W.gtrans ((a.mono O).then_heap (QV _) λb o m e=>?_) ED) EE;rw[J.2 b (λh:b=D=>m #[ei,h,Qal])];exact e
universe E
section
variable {ñ:ay} {w:aF} {A:aD} {E:aa->aj->Prop} {s:aj} {K:Type} [ÈS K] {knd:KeyKind ñ w K}
theorem Zh7{l:ae}{œ:Á7}{ks:À (K×aa)}{As:Nat->ae}{Q:ð}(x:Á9)(hl:PlainL Ë l œ)(p:Ο=ÃH)(hsz:ÃH<=aq)
  (M:∀ (i:Nat) (v:aa),œ[i]? = U v->v=.ref (As i)) (ht:∀j (d:j<ÃH),∃f,Θ Ë (As j) #[f,(ks[j]'(p ▸ d)).2]/\knd.is (ks[j]'(p ▸ d)).1 f=true)
  (h:∀h' tk,h'.DictOf knd Ð (ÅZ [] ks)->Ñ5->Q Åz { s with Õ:=h',î:=tk }) :
  ar Ô A (Ĵ #[iy,"dict"] ÄH) Q E s:=by
 refine callType_codes (Q₁:=λobj y=>obj=.ref Ð/\y={ s with Õ:=Àf { cls:=.type "dict",Ó:=.dict #[] } }) F.kt_called_dict (F.kt_typeCall_dict_1 _) F.entry_dict_init (kt_code_dict_new _ Ŕ) ?_;rintro obj y ⟨rfl,rfl⟩;have g:#[cc].DictOf knd Ð []:=aI.DictOf.new Ë;obtain q|N|B|t|O|C:=hl;have D:#[ts,l]:=Qr B;have u:#[cc].get? l=U q:=Qc _ B;refine(g.typeIs,F.args_dict_init_2 _ _,?_);unfold aS.«dict.__init__»;refine ah ?_;unfold aS.Dict.selfAndRest;refine ah (wpAny_notOrdered_dict g.typeIs ?_);show ar _ _ (pure (Ð,[á l],)) _ _ _;refine av ?_;show ar _ _ (Ø1 "dict.__init__" Ð ć [] .none) _ _ _;unfold Ø1;refine ah (Êe (T := "list") (q,u,t) ?_);rw[Æ É];refine ah (ØV u t C O (by simp[x]) λa tk e P=>?_);rw[Æ É];have k:∀b o,#[cc].get? b=U o->ÅH b=U o:=λb o z=>P.keeps b o z;have G:a.IsList l œ:=(q,k _ _ u,t,N,C);refine ah (Ãr (ah (cu G ?_)));have m:Ð<Êo:=by obtain o|H|I|c|_:=g;exact Qr (k _ _ c)
 have R:l<Êo:=Qbb D m;have S:l≠Êo:=Qz R;have V:Ð ∉ [Êo,l]:=by simp only[Áq,ÂT,ÂU,É5];exact(Qz m,QX D)
 refine av (plainId_quiet SD _,?_);have W:A.in1.in1.handled=af:=by simp[x]
 have J:∀b o,é b=U o->(a.push { cls:=.type "list_iterator",Ó:=.fields #[.ref l,.int 0 0] }).get? b=U o:=λb o z=>Qc _ (k b o (Qc _ z));refine Zdg (A:=ÃI) (knd:=knd) ((Ñf W _ l S œ).toS) Ð V ks p As (λj d=>?_) M hsz (ÃH-0) 0 0 _ Á (Qs _)
  ((_,Qt _ rfl,rfl,rfl),(G.push _)) ?hS0 (λj d=>?_) ?hR
 ·obtain f|⟨o,c,_⟩|_:=ht j d;have:=Qr c;refine(Qz this,?_);simp only[Áq,ÂT,ÂU];exact Qz (Qbb this m)
 case hS0=>obtain o|H|I|c|r:=g;exact(o,H,I,Qc _ (k _ _ c),r)
 ·obtain f|⟨o,c,r⟩|X:=ht j d;exact(f,(o,J _ _ c,r),X)
 case hR=>intro Y n Z;obtain h'|g'|d'|iO|lR:=Y;have eg:g'=Åq:=n.gens;have ed:d'=È4:=n.drawn;have eo:lR=s.os:=n.os;subst eg;subst ed;subst eo;refine(rfl,h h' iO Z λb o e=>?_);have L:=Qr e;exact n.heap b o (by simp only[Áq,ÂT,ÂU,É5];exact(Qz L,Qz (Qbb L m))) (J b o e)
universe E
def KH(K:Å):À V->Hp->VK->Prop:=λxs H Q=>X2 λ(a:ae) (b:À (ae×Key×V))=>xs=η/\SqL K H a (Âl λt=>ù t.1)/\#[iu,b,H]/\ħ<=1000 /\
 ∀D,H D=af->Q π (upd H D (.dK (Wx [] ÍC)))
theorem KG{X:Cx}{f:Ć}{g:St}{H:Hp}{s:aj}(I:Inv X f g H s):∀ (c:À (ae×Key×V)),#[iu,c,H] ->
  ∃ks:À (Key×aa),KV Êp ks/\∀ (j:Nat) (t:ae×Key×V) (b:Key×aa),c[j]? = U t->ks[j]? = U b->∃a,Θ Ë t.1 #[a,b.2]/\(Âk).is b.1 a=true
 | [],_=>([],.nil,λj t b h _=>by simp at h)
 | t::c,h=>by
  obtain ks|r|hk:=KG I c λx hx=>h x (Qm _ hx);obtain its|i|k|_:=#[sE,h,Ö];obtain⟨a,u,rfl,l,m⟩:X2 λa u=>its=[a,u]/\ZE (kV t.2.1) a/\ZE t.2.2 u:=by
   cases i with
   | Î n o =>
    cases o with
    | Î p q=>cases q;exact(_,_,rfl,n,p)
  refine((t.2.1,u,)::ks,.cons (rfl,m) r,λj x b d e=>?_);cases j with
  | zero=>simp only[Ø2,Option.some.injEq]at d e;subst d;subst e;exact(a,k,WG l)
  | succ j=>exact hk j x b #[eg,d] #[eg,e]
theorem ZlP{X:Cx}(hc:Ŏ):YZ X #[iy,"dict"] (KH X.K):=by
 rw[aa];rw[tf,a,b,n,p,t];rw[eU,c];obtain its|d|w|_:=Á5 n;obtain ks|e|y:=KG I b p;have h1:Ο=ħ:=by have:=e.length;simpa using Êf
 have f:ÉD=ħ:=by have:=μ;simpa using Êf
 have A:∀ (i:Nat) (v:aa),İ[i]? = U v->v=.ref ((b[i]?.map ó).getD 0):=λi v B=>by
  have g:its[i]? = U v:=by simpa using B
  have k:i<ħ:=by rw[<- f];exact(Ũ g).1
  have:=d.get (i:=i) (x:=.ref b[i].1) (by rw[Qq,Qb k];rfl);obtain u|l|c:=this;rw[fX,g,l,l];cases c;rw[Qb k];rfl
 refine Zh7 (knd:=Êm) (ks:=ks) (As:=λi=>(b[i]?.map ó).getD 0) Áv w #[fL,QC] (by rw[QC,f];exact QaJ (Zs t)) A (λj C=>?_) λh' tk D E=>?_
 ·have m:j<ħ:=by rw[QC]at C;lia
  have:=y j b[j] (ks[j]' Á) (Qb m) (Qb _);rw[Qb m];exact this
 ·have F:(Wx [] ÍC).length<=aq:=by have:=PB ÍC [];rw[Qa,ÅM]at this;exact QaJ (Zs Á)
  refine(.ref Ð,_,ÀY (a:=Ér) (o:=.dK (Wx [] ÍC)) (t':=tk) E ç ?_,rfl,q _ Ãw);exact Uc F (Æz λz=>Qag _ (z ▸ I.big)) (e.merge .nil) D
theorem Zv1{X:Cx}(K:Å)(hc:Ŏ:=by rfl)(h:X.K=K:=by rfl):YZ X #[iy,"dict"] (KH K):=by subst h;exact ZlP hc
def ZwN:R2:=λy x H Q=>X2 λa o=>x=.ref a/\Z7 H a y o/\Q (.bl Ír) H
def Zs8:R2:=λy x H Q=>X2 λa o=>x=.ref a/\Z7 H a y o/\Q (.bl (!o.isSome)) H
def Zxa:R2:=λx y H Q=>X2 λa v=>x=.ref a/\Z7 H a y (U v)/\Q v H
section
variable {X:Cx} {k:Nat}
theorem inG(hr:ι):OpR X (aQ .In) ZwN:=by intro ai s σ H x y v u Q I b c h;obtain a|o|rfl|g|q:=h;cases c;exact ZwO (UY hr) I g b λs3 d=>(.bl Ír,H,d,rfl,q)
theorem T9(hr:ι):OpR X (aQ .NotIn) Zs8:=by intro ai s σ H x y v u Q I b c h;obtain a|o|rfl|g|q:=h;cases c;exact Zsf (UY hr) I g b λs3 d=>(.bl (!o.isSome),H,d,rfl,q)
def ZvI:S8:=λo i v H Q=>X2 λa b=>o=.ref a/\XD H a i v b/\Q b
theorem Ww(hr:ι):Rr X ZvI:=by intro ai s σ H o i v ov iv u Q I b c d h;obtain a|e|rfl|g|q:=h;cases b;exact ZnR (UY hr) I g c d λs4 f=>(e,f,q)
theorem KC{ñ:ay}{w:aF}{A:aD}{E:ð}{s:aj}{Àh b:aK}{o i:aa}{T id:ŋ}{Q:ð}(c:Çd o T)
  (hl:ÅD (.type T) "__getitem__" = pure (U #[fo,id])) (hs:Ìu b false o i=operate [o,i] (Çe o i)) (h:ar Ô A (Çe o i) Q E s) :
  ar Ô A (Ìt Àh b o i) Q E s:=by
 unfold Ìt;refine ah ?_;rw[getitemInPython_of_ne c.not_modules];refine ah (Ø3 c hl ?_);have a:ar Ô A (Ìu b false o i) (λr d=>ar Ô A (letTemporaryGo Àh o r >>= λ_=>pure r) Q E d) E s:=by rw[hs];exact wpAny_operating (ba h (λr d e=>ah (wpAny_letTemporaryGo (av e))) λ_ _ x=>x)
 first
  | exact av (ah a)
  | exact ah (av (ah a))
  | exact ah a
theorem ixG(hr:ι):IxR X Zxa:=by intro Àh fX ai s σ H x y v u Q I b c h d;obtain a|z|rfl|g|q:=h;cases b;exact KC (Zlf I g) Ø4 d (ZoH (UY hr) I g c λw' s' e f=>(z,H,e,f,q))
theorem T8:YZ X Çh ØL:=Zoh
theorem KA(hc:Ŏ:=by rfl):YZ X ÂK KR:=ZlL hc
universe E
mutual
inductive DH (H:Hp):V->aE->Prop where
 | non:DH H .non .none
 | bl (b:Ï):DH H (.bl b) (.bool b)
 | int (i:Int):DH H (.int i) (.int i)
 | str (s:ak):DH H (.str s) (.str s)
 | lst {a:ae} {xs:À V} {ds:À aE}:H a=U (.lst xs)->DHs H xs ds->DH H (.ref a) (.list ds)
 | tup {a:ae} {xs:À V} {ds:À aE}:H a=U (.tup xs)->DHs H xs ds->DH H (.ref a) (.tuple ds)
inductive DHs (H:Hp):À V->À aE->Prop where
 | nil:DHs H [] []
 | Î {x:V} {d:aE} {xs:À V} {ds:À aE}:DH H x d->DHs H xs ds->DHs H (x::xs) (d::ds)
end
mutual
theorem DH.mono{H a:Hp}(s:ZB H a):∀ {x:V} {d:aE},DH H x d->DH a x d
 | _,_,.non=>.non
 | _,_,.bl b=>.bl b
 | _,_,.int i=>.int i
 | _,_,.str z=>.str z
 | _,_,.lst h hs=>.lst (s _ _ h) Òi
 | _,_,.tup h hs=>.tup (s _ _ h) Òi
theorem DHs.mono{H a:Hp}(s:ZB H a):∀ {xs:À V} {ds:À aE},DHs H xs ds->DHs a xs ds
 | _,_,.nil=>.nil
 | _,_,.cons h hs=>.cons (DH.mono s h) Òi
end
mutual
theorem DH.dv{K:Å}{H:Hp}:∀ {x:V} {d:aE},DH H x d->DV K H x d
 | _,_,.non=>.non
 | _,_,.bl b=>.bl b
 | _,_,.int i=>.int i
 | _,_,.str z=>.str z
 | _,_,.lst h hs=>.lst (Í h) (DHs.dv hs)
 | _,_,.tup h hs=>.tup (û h) (DHs.dv hs)
theorem DHs.dv{K:Å}{H:Hp}:∀ {xs:À V} {ds:À aE},DHs H xs ds->DVs K H xs ds
 | _,_,.nil=>.nil
 | _,_,.cons h hs=>.cons (DH.dv h) (DHs.dv hs)
end
theorem Px:∀ (Ę a:À (Key×V)),((a++Ę).map ó).Nodup->Wx a Ę=a++Ę
 | [],a,_=>by show a=_;rw[Qab]
 | x::r,a,h=>by
  have hx:Y4 a x.1=af:=by
   cases b:Y4 a x.1 with
   | none=>rfl
   | some v=>have:=ZsV b;rw[Qe,Qj]at h;have:=(List.nodup_append.mp h).2.2 x.1 this x.1 Ö;exact Ê rfl this
  show Wx (YX a x.1 x.2) r=_;rw[US _ hx,Px r (a++[x]) #[ei,Òj,h],Òj];rfl
theorem Vv{kvs:Ŗ}{k:Key}{v:V}(h:Y4 kvs k=U v):(k,v,)∈kvs:=by
 unfold Y4 at h;obtain p|a|rfl:=Qbc.mp h;have b:=ÍD;have c:=Qax a;have:p.1=k:=by simpa using b
 rw[<- this];exact c
theorem Vu{kvs:Ŗ}(a:(Â2 ó).Nodup){k:Key}{v:V}(h:(k,v,)∈kvs):Y4 kvs k=U v:=by
 induction kvs with
 | nil=>cases h
 | Î p r b =>
  obtain c|d:=QS.mp (by simpa using a:(p.1::Âm ó).Nodup);rcases Ĳ h with rfl|h
  ·exact Uf rfl
  ·rw[Ue λe=>c (e ▸ Qd (f:=ó) h)];exact b d h
universe E.L2
namespace L2
open PySem PySem.Spec PyProof.Rows
theorem Z7.fz{H:Hp}{a:ae}{o:aN}{kvs:Ŗ}{k:Key}{r:Ã V}(e:H a=U Ág)(h:Y4 kvs k=r):Z7 H a (kV k) r:=.inl (kvs,k,.inr (o,e),rfl,h.symm)
theorem ZsK{d:ae}{o:aN}{kvs:Ŗ}{k:Nat}{D:ae}{a:ÄO}{f:Hp}{g:TG}{h:TT}{j:TE}{Q:VK}(Pv:Êq)(h0:#[h8,f])
  (hl:ÍE)
  (hs:∀i k x ys a H,kvs[i]? = U (k,x,)->Pv i ys a H->g (kV k) a H λc s=>h c s λb l=>if b=true then j c l λy n=>n D=U ÁE/\ĥ<aq/\Pv (i+1) Çt c #[gs,n] else Pv (i+1) ys c l)
  (hd:ÍF):V2 ØP D k a f g h j Q:=by
 rw[y];by_cases r:i<ø
 ·rw[cZ];obtain rfl|k'|v|e|rfl:=y;exact hs i k' v ys a _ e p
 ·have e:Êr:=by lia
  rw[aO]
theorem Kz{d:ae}{o:aN}{kvs:Ŗ}{k:Nat}{D:ae}{a:ÄO}{f:Hp}{g:TG}{h:TT}{j:TE}{Q:VK}(Pv:Êq)(h0:#[h8,f])
  (hl:ÍE)
  (hs:∀i k x ys a H,kvs[i]? = U (k,x,)->Pv i ys a H->g x a H λc s=>h c s λb l=>if b=true then j c l λy n=>n D=U ÁE/\ĥ<aq/\Pv (i+1) Çt c #[gs,n] else Pv (i+1) ys c l)
  (hd:ÍF):V2 (Itv d o kvs) D k a f g h j Q:=by
 rw[y];by_cases r:i<ø
 ·rw[cZ];obtain rfl|k'|e:=y;exact hs i k' x ys a _ e p
 ·have e:Êr:=by lia
  rw[aO]
theorem ZrO{d:ae}{o:aN}{kvs:Ŗ}{k:Nat}{D:ae}{a:ÄO}{f:Hp}{g:TG}{h:TT}{j:TE}{Q:VK}(Pv:Êq)(h0:#[h8,f])
  (hl:ÍE)
  (hs:∀i k x ys a H p,kvs[i]? = U (k,x,)->Pv i ys a H->H p=af->g Ū a Ø5 λc t=>h c t λb l=>if b=true then j c l λy n=>n D=U ÁE/\ĥ<aq/\Pv (i+1) Çt c #[gs,n] else Pv (i+1) ys c l)
  (hd:ÍF):V2 (Iti d o kvs) D k a f g h j Q:=by
 rw[y];by_cases s:i<ø
 ·refine .inr ((q,s),Pv (i+1),λjs aU u v=>(ø-(i+1),by lia,rfl,s,v),λx u y=>?_);obtain r|k'|w|z|rfl|e|rfl:=y;exact hs i k' w ys a H r e p z
 ·have e:Êr:=by lia
  rw[aO]
def off(p:ae)(H:Hp):Hp:=λb=>if b=p then af else H b
theorem Vt{p b:ae}{H:Hp}{o:HO}(h:H b=U o)(n:b≠p):off p H b=U o:=by unfold off;rw[Ç n];exact h
theorem Zvb{p:ae}{H:Hp}:ZB (off p H) H:=λb o h=>by
 unfold off at h;split at h
 ·cases h
 ·exact h
theorem ZqL{p l:ae}{H:Hp}(h:H l=af):off p H l=af:=by unfold off;split;rfl;exact h
def Zwk:V->À V->Hp->VK->Prop:=λx vs H Q=>X4 λa kvs k v=>x=.ref a/\vs=[kV k]/\H a=U Áf/\Y4 kvs k=U v/\Q v ØF
theorem Pw{X:Cx}:MtM X "dict.pop" Zwk:=by intro ai s σ H x vs v us Q I b c h;obtain a|kvs|k|y|rfl|rfl|d|e|q:=h;cases b;obtain u|rfl|f:=c.one;exact ZvG I d f e Ğ λw' s' g i=>(y,_,g,i,q)
theorem Xz{X:Cx}{s:aM}:PS X s ÌA:=λai s' σ H D I h=>Àl
theorem Zvf{X:Cx}{k:Nat}{o e:aK}{b ty:TE}{c a:Pos}(hr:ι)(f:PE X o b)(he:PE X e ty)(hb:#[fk,o,"get"]:=by rfl)
  (g:(c.endLine == a.line)=true:=by rfl) (d:bo a Òd=[Ét]:=by rfl):PE X (.Call #[sq,"get",c] [e] [] a) (KU b ty):=by
 refine Zq5 (UY hr) f he (hb,?_,g,d);rw[d];rfl
section
variable {X:Cx}
theorem VZ{x:ak}{n:Int}{pos:Pos}(hm:∃tk,ğ x=U (.int n tk))(a:Ō:=by rfl)(hd:Ĩ:=by decide):PE X ÀW (tC (.int n)):=by obtain tk|h:=hm;exact Mu a h (tk,rfl) hd
universe E
section
variable {X:Cx}
theorem ZnU:OpR X (aQ .GtE) (λx y H Q=>X2 λi j=>x=.str i/\y=.str j/\Q (.bl (!decide Õr)) H):=by intro ai s σ H x y v u Q I a b h;obtain i|j|rfl|rfl|q:=h;obtain t|rfl:=a;obtain t'|rfl:=b;exact PySem.P.ge_str Ë9
universe E
def Zuz(t:TS):TS:=λD b H=>X2 λd u=>H d=U u/\Mut (U u)/\t (λc a=>∃o,a d=U ÂB/\č c (upd a d u),λ_ _=>ė,λ_ _=>ė,λ_ _=>ė) b H
theorem Zsq{X:Cx}{e:aM}{t:TS}(h:PS X e t):PS X e (Zuz t):=by
 intro i s j H D I q;obtain d|u|k|g|q:=q;have n:=I.nofrz k g;refine thn (h i s j H _ I q) λf s1 z=>?_;cases f with
 | next=>obtain b|c|l|o|m|a:=z;exact(b,_,l.thaw m g n,a)
 | brk=>obtain b|c|_|a:=z;exact a.elim
 | Μ=>obtain b|c|_|a:=z;exact a.elim
 | ret v=>obtain v'|b|c|_|_|a:=z;exact a.elim
def ZwT(t u:TS):TS:=λD c H=>∃M:St->Hp->Prop,t { D with nx:=M } c H/\∀a b,M a b->u D a b
theorem T7{X:Cx}{st:aM}{Ă:Γ}{t u:TS}(h1:PS X st t)(h2:PSs X Ă u):PSs X (st::Ă) (ZwT t u):=by
 rw[e3,a,d,D];rw[hD,M,h,e,h];refine Ï2 (thn (h1 a s d H { D with nx:=M } I h) λf g q=>?_);cases f with
 | next=>obtain b|c|i|q:=q;exact h2 a g b c D i (e b c q)
 | ret v=>exact q
 | brk=>exact q
 | Μ=>exact q
theorem Zs7{d:ae}{o:aN}{kvs:Ŗ}{k:Nat}{D:ae}{a:ÄO}{f:Hp}{g:TG}{h:TT}{tk j:TE}{Q:VK}(Pv:Nat->À ÁJ->ÄO->Hp->Prop)(h0:Pv 0 [] Ø6 #[iO,f,D])
  (hl:ÍE)
  (hs:∀i k x ys a H p,kvs[i]? = U (k,x,)->Pv i ys a H->H p=af->g Ū a Ø5 λc t=>h c t λb l=>if b=true then tk c l λu v=>j c v λy n=>∃k:Key,u=kV k/\n D=U (.dK ys)/\ĥ<aq/\Pv (i+1) (YX ys k y) c (upd n D (.dK (YX ys k y))) else Pv (i+1) ys c l)
  (hd:ÍF):KL (Iti d o kvs) D k a f g h tk j Q:=by
 rw[y];by_cases s:i<ø
 ·refine .inr ((q,s),Pv (i+1),λjs aU w z=>(ø-(i+1),by lia,rfl,s,z),λx w y=>?_);obtain r|k'|A|B|rfl|e|rfl:=y;exact hs i k' A ys a H r e p B
 ·have e:Êr:=by lia
  rw[aO]
def apart:À Int->Ï
 | []=>true
 | x::r=>r.all (λy=>x != y)&&apart r
structure CompScC (N N':Ñ) (o c:bh):Prop where
 kind:c.kind=.function
 okind:o.kind=.function
 cel:∀y∈ÂN,y.2=.cell->ū y.1=U .cell
 loc:∀y∈ÂN,y.2=.local->ū y.1=U .local
 Ι:∀y∈ÂN,y.2=.free->ū y.1=U .free/\Öm
 len:ģ<=ÌD
 same:∀i∈ÂO ģ,∀x∈N'[i]?,ū x=U .local\/ū x=U .free\/ū x=U .cell->ū x=U .free/\N[i]? = U x
 nd:N'.Nodup
universe E.L2
namespace L2
open PySem PySem.Spec PyProof.Rows
def Has(κ:ÂY)(p:ÁG):Prop:=∃a,Çw p.1=U a
def kyd(κ:ÂY)(p:ÁG):κ.α:=(Çw p.1).getD κ.dflt
section
variable {κ:ÄE}
def kS(κ:ÂY)(l:Ês):Prop:=l.Pairwise λp q=>ÁH (kyd κ p) (kyd κ q)
def kLe(κ:ÂY)(l m:Ês):Prop:=∀x∈l,∀y∈m,ÁH (kyd κ x) (kyd κ y)
structure Mg (κ:ÂY) (all out l m:Ês):Prop where
 perm:(out++(l++m)).Perm all
 so:kS κ out
 sl:kS κ l
 sm:kS κ m
 ol:kLe κ out l
 om:kLe κ out m
structure Mh (κ:ÂY) (all l m out:Ês):Prop where
 perm:((l++m)++out).Perm all
 so:kS κ out
 sl:kS κ l
 sm:kS κ m
 lo:kLe κ l out
 mo:kLe κ m out
structure LoPre (κ:ÂY) (a b:ÃD):Prop where
 ha:∀p∈ÍG,Has κ p
 hb:∀p∈Ío,Has κ p
 sa:kS κ ÍG
 sb:kS κ Ío
 a0:0<a.size
 b0:0<b.size
 fst:∀i,i<a.size->ÁH (KK κ b 0) (KK κ a i)
 lst:∀i,i<b.size->ÁH (KK κ b i) (KK κ a (a.size-1))
def Lo(κ:ÂY)(a b out:ÃD)(c d:Nat):Prop:=Mg κ (ÍG++Ío) ÉW (a.toList.drop c) (b.toList.drop d)
variable {a b out:ā ÁG} {ia ib:Nat}
variable {na nb:Nat}
universe E
def Ky:Nat->À (À ÁG)->À (Nat×Nat)
 | _,[]=>[]
 | o,r::a=>(o,ÁA,)::Ky (o+ÁA) a
def ZwW(p:Nat×Nat×Nat):Nat×Nat:=(p.1,p.2.1,)
section
variable {ñ:ay} {w:aF} {A:aD} {E:aa->aj->Prop} {s:aj} {κ:ÄE} {k0:ÂX} {st:Ζ} {aW:ā ÁG}
structure Rn (κ:ÂY) (k0:ÂX) (aW:ÃD) (st:Ζ) (rs:À (À ÁG)) (Ă:Ês):Prop where
 kind:ν st=k0
 failed:ÅQ st=af
 arr:(Ē).toList=rs.flatten++Ă
 perm:(Ē).Perm aW
 srt:∀r∈rs,kS κ r
 ne:∀r∈rs,r≠[]
 pend:(Áe st).toList.map ZwW=Ky 0 rs
universe E
section
variable {ñ:ay} {w:aF} {A:aD} {E:aa->aj->Prop} {s:aj} {κ:ÄE} {k0:ÂX} {st yp:Ζ} {aW:ā ÁG} {α:Type} {lo:Nat}
structure Ph (k0:ÂX) (aW:ÃD) (lo:Nat) (yp st:Ζ):Prop where
 kind:ν st=k0
 failed:ÅQ st=af
 pend:Áe st=Áe yp
 perm:(Ē).Perm aW
 pre:∀k,k<lo->Ē[k]? = (Ď yp)[k]?
universe E
universe E.L2
set_option maxHeartbeats 4000000
namespace L2
open PySem PySem.Spec PyProof.Rows
variable {X:Cx}
universe E.L2
set_option maxHeartbeats 4000000
namespace L2
open PySem PySem.Spec PyProof.Rows
@[reducible] def intKd:ÄE where
 α:=Int
 blt a b:=decide (a<b)
 irrefl a:=by simp
 trans a b c h1 h2:=by simp only[Êt]at *;lia
 negTrans a b c h:=by
  simp only[Êt]at *
  lia
 total a b h1 h2:=by simp only[decide_eq_false_iff_not]at *;lia
 keyOf v:=match v with|.int x _=>U x|_=>af
 dflt:=0
def rSrtIA(K:Å):À V->Hp->VK->Prop:=λxs H Q=>X2 λ(p:ae) (ns:À Int)=>xs=Ν/\SqL K H p ξ/\∀ (l:ae) (a:À Int),H l=af->a.Perm ns->a.Pairwise (·<=·)->Q ć (upd H l (.lst (ŕ ì)))
universe E.L2
set_option maxHeartbeats 4000000
namespace L2
open PySem PySem.Spec PyProof.Rows
def txt:aa->ak
 | .str x _=>x
 | _ => ""
section
variable {ñ:ay} {w:aF} {A:aD} {E:aa->aj->Prop} {s:aj}
def ZvO(w:aF)(a:Òk):Prop:=∀e∈ÍG,X2 λx u=>e.2=.str x u/\e.1=Mx w (.inr x)
def Kx(a:Òk):À ak:=a.toList.map λe=>txt e.2
structure SetAt (w:aF) (L:Ï) (T:ak->Prop) (o:aN) (es:Òk) (ep:Nat) (t:SetTable):Prop where
 ex:o.ExactSet
 da:ų=.set es ep t
 el:ZvO w es
 nd:(Kx es).Nodup
 me:∀x,T x↔x∈Kx es
 sz:es.size<scanBound
 ft:t.fits es.size=true
 ld:t.led=L
 pl:es.size≠0->t.plain=false
universe E
universe E.L2
set_option maxHeartbeats 4000000
namespace L2
open PySem PySem.Spec PyProof.Rows
universe E.L2
namespace L2
open PySem PyProof.Rows
section
variable {X:Cx} {xe:aa->aj->Prop}
theorem PSs.wish{st:Γ}{t:TS}(h:PSs (X.wish xe) st t)(hx:∀e s,xe e s->è e s):PSs X st t:=λa s b H D I hw=>ba (h a s b H D (I.wish _) hw) (λ_ _ q=>q.unwish) hx
universe E
def Pu(a:ŧ)(e:ae)(h h':aI):Prop:=(∀b o,ß b=U o->b≠e->b ∉ a->ÿ b=U o)/\∀b o,ß b=U o->b≠e->∃sl,ÿ b=U { o with Á1:=sl }
def Xp(B:aI)(a:ŧ)(h:aI):Prop:=(∀b o,ÃK b=U o->b ∉ a->ß b=U o)/\∀b o,ÃK b=U o->∃sl,ß b=U { o with Á1:=sl }
theorem Xp.keep{B:aI}{d:ŧ}{e:ae}{h h':aI}(a:Xp B d h)(he:ÃK e=af)(k:Pu d e h h'):Xp B d h' :=
 (λb o c n=>k.1 b o (a.1 b o c n) (λz=>by rw[z,he]at c;cases c) n,λb o c=>by obtain sl|f:=a.2 b o c;obtain g|i:=k.2 b _ f (λz=>by rw[z,he]at c;cases c);exact(g,i))
structure Ys (NB:ÄP) (h:aI) (e:ae) (cls:aa) (dd:Ě) (fl:aa):Prop where
 ex:X5 λoe vs T oT ts=>ß e=U oe/\oe.cls=cls/\oe.dict=dd/\oe.data=.fields vs/\vs[1]? = U (.ref T)/\T≠e/\ß T=U oT/\oT.data=.fields ts/\ts[3]? = U fl/\NB T
structure T6 (h:aI) (e:ae) (cls:aa) (dd:Ě):Prop where
 ex:X2 λoe vs=>ß e=U oe/\oe.cls=cls/\oe.dict=dd/\oe.data=.fields vs/\vs[1]? = U .none
section
variable {M:ÀV} {A:aD} {E:aa->aj->Prop} {s:aj} {env:Env} {Ü:À Env} {Â:aI} {L e:ae} {cls:aa} {dd:Ã ae} {Q:Unit->aj->Prop}
theorem Zhv(o:aN)(f:ā aa->ā aa):(Å1 f o).dict=o.dict:=by unfold Å1;split<;>rfl
theorem Kw{d:aN}{vs:Á7}{m:aa}{v:Ï}(w:Êu)(hl:Òl)(x:ÇF)
  (he:é e=U d) (hd:d.data=.fields vs) (hsz:1<vs.size) (y:Òm)
  (h:∀h',Pu Å2 e Ë h'->(∀NB:ae->Prop,(∀T,Ð<=T->NB T)->Ys NB h' e d.cls d.dict (Ŷ L))->Q () { s with Õ:=h' }) :
  ar M A (do let a <- frameOf env;let g <- entryPlaceOf L v;let b <- Ø7 m a .none (Ŷ L) .none g;setField Ś 1 b) Q E s:=by
 refine ah (wpAny_frameOf_fun w hl x λc i=>?_);refine ah (wpAny_entryPlaceOf λg n=>?_);unfold Ø7 newFields;refine ah (bz ?_ (n.sizeOk5 _ _ _ _ _));have p:c.get? e=U d:=(i.2.1 e y).trans he;have q:ÄD≠e:=QX (Qr p);generalize r:({ cls:=.type "traceback",ο:=af,Ó:=.fields ([m,.ref L,.none,Ŷ L,.none]++(if g.isEmpty then ÁC 6 Àb else g)).toArray }:aN)=j;have t:(c.push j).get? e=U d:=Qc _ p;have u:=ÉZ hd Òn;have z:=Q5 (Å1 Òn) t (Ñl u);have k:∀b,b≠e->((c.push j).update e (Å1 Òn)).get? b=(c.push j).get? b:=#[s3,f];refine ÉY t hd hsz (h _ (λb o f l C=>?_,λb o f l=>?_) (λB D=>(_,_,ÄD,j,_,z,ÖW _ _,Zhv _ _,u,by simp[hsz],q,(k _ q).trans (Qt c (by rw[<- r];rfl)),by rw[<- r],?_,?_)))
 ·rw[k b l];exact Qc _ ((i.2.1 b C).trans f)
 ·obtain F|G:=i.2.2 b o f;exact(F,by rw[k b l];exact Qc _ G)
 ·first|(simp;done)|(rcases n with rfl|⟨_,_,_,_,_,_,_,rfl⟩<;>simp)
 ·exact D _ (Ìg i.1.symm)
theorem Zpd{NB:ÄP}(g:Ø8)(i:Êu)(hl:Òl)(c:ÇF)(hx:T6 Ë e cls dd)
  (h:∀h',Pu Å2 e Ë h'->Ys NB h' e cls dd (Ŷ L)->Q () { s with Õ:=h' }):ar M A ÍH Q E s:=by
 obtain oe|j|a|rfl|rfl|b|d:=hx.ex;have l:Òm:=λm=>by obtain _|o|f|n:=hl.mem m;rw[fX,a,f,f];exact n j b
 unfold Çl;simp only[c];refine ah (bg a b d ?_);rw[zE,É];exact Kw i hl c a b (Qat.mp d).1 l λh' k x=>h h' k (x NB g)
theorem Zsl{B:aI}{NB:ÄP}(F:Ø8)(hB:∀T,NB T->ÃK T=af)(G:Êu)(hl:Òl)(q:ÇF)(H:ÃK e=af)(r:Xp B Å2 Ë)(hx:Ys NB Ë e cls dd .none)
  (h:Ø9):ar M A ÍH Q E s:=by
 obtain oe|g|T|oT|I|i|rfl|rfl|j|t|u|d|l|v|J:=hx.ex;have K:=hB T J;have N:Òm:=λO=>by obtain _|o|w|c:=hl.mem O;rw[fX,i,w,w];exact c g j
 unfold Çl;simp only[q];refine ah (bg i j t ?_);rw[Æ Òo];refine ah (bg d l v ?_);rw[Ç (show ¬ ((Àb == Ŷ L)=true) from by simp[Ŷ])];refine ah (ÉY d l (Qat.mp v).1 ?_);have f:∀b,b≠T->(Ü1).get? b=é b:=#[s3,a];have y:Ùa:=λb o a z=>by rw[z,K]at a;cases a
 have n:Xp B Å2 Ü1:=(λb o a m=>(f b (y b o a)).trans (r.1 b o a m),λb o a=>by obtain C|p:=r.2 b o a;exact(C,(f b (y b o a)).trans p));have P:Ùb:=λb o a c z=>by rw[z,d]at a;cases a;exact c I l
 have D:(Ü1).FunFrames Â (env::Ü):=hl.of_keeps λb o a c=>(o,(f b (P b o a c)).trans a,rfl);refine Kw (s:={ s with Õ:=Ät T (Å1 (·.setIfInBounds 3 Àb)) }) G D q ((f e Íd).trans i) j (Qat.mp t).1 N λh' k x=>h h' (n.keep H k) ?_ (x NB λT d=>F T (by rw[Íg]at d;exact d));exact D.of_keeps λb o a c=>by obtain C|p:=k.2 b o a (λz=>by rw[z]at a;rw[(f e Íd).trans i]at a;cases a;exact c g j);exact(_,p,rfl)
theorem Zmx{NB:ÄP}(a:ÇF)(hx:Ys NB Ë e cls dd (Ŷ L))(h:Q () s):ar M A ÍH Q E s:=by obtain oe|vs|T|oT|ts|b|rfl|rfl|c|d|uk|f|g|i|yr:=hx.ex;unfold Çl;simp only[a];refine ah (bg b c d ?_);rw[Æ Òo];refine ah (bg f g i ?_);rw[Æ (show (Ŷ L == Ŷ L)=true from by simp)];exact av h
theorem T5{B:aI}{NB:ÄP}(hB:∀T,NB T->ÃK T=af){k:ŧ}{y:aa}{F:Ě}{l:Á2}(hl:ÆH Â l)(n:Xp B k Ë)(hx:Ys NB Ë e cls dd y)
  (h:∀h',Xp B k h'->Òp Â l->Ys NB h' e cls dd (F.elim .none λf=>Ŷ f)->Q () { s with Õ:=h' }):ar M A (Òq Ś F) Q E s:=by
 obtain C|g|T|oT|p|q|rfl|rfl|r|t|u|i|c|D|v:=hx.ex;have G:=hB T v;have w:3<p.size:=(Qat.mp D).1;have d:∀b,b≠T->(Ät T (Å1 (·.setIfInBounds 3 (F.elim Àb λf=>Ŷ f)))).get? b=é b:=#[s3,a];have x:Ùa:=λb o a z=>by rw[z,G]at a;cases a
 have H:Ùb:=λb o a j z=>by rw[z,i]at a;cases a;exact j p c
 unfold Òq;refine ah (bg q r t ?_);rw[Æ Òo];refine ÉY i c w (h _ (λb o a m=>(d b (x b o a)).trans (n.1 b o a m),λb o a=>?_) (hl.of_keeps λb o a j=>(o,(d b (H b o a j)).trans a,rfl)) (C,g,T,_,_,(d e Íd).trans q,rfl,rfl,r,t,u,Q5 _ i (Ñl (ÉZ c _)),ÉZ c _,by simp[w],v));obtain I|J:=n.2 b o a;exact(I,(d b (x b o a)).trans J)
universe E
structure T4 (B Â:aI) (NB:ÄP) (env:Env) (Ü:Á2) (L e:ae) (cls:aa) (dd:Ě) (h:aI):Prop where
 st:Xp B Å2 h
 fun_:h.FunFrames Â (env::Ü)
 new:ÃK e=af
 nb:∀T,ĺ<=T->NB T
 hB:∀T,NB T->ÃK T=af
 ex:T6 h e cls dd\/Ys NB h e cls dd .none\/Ys NB h e cls dd (Ŷ L)
section
variable {M:ÀV} {A:aD} {E:aa->aj->Prop} {s:aj} {env:Env} {Ü:À Env} {B Â:aI} {NB:ae->Prop} {L e:ae} {cls:aa} {dd:Ã ae} {Q:Unit->aj->Prop}
theorem T4.noted(hx:Ùc)(d:Êu)(a:ÇF)
  (h:Ø9):ar M A ÍH Q E s:=by
 rcases hx.ex with x|x|x
 ·refine Zpd hx.nb d hx.fun_ a x λh' k f=>h h' (hx.st.keep hx.new k) ?_ f;obtain oe|g|i|_|_|j|_:=x.ex;refine hx.fun_.of_keeps λb o c l=>?_;obtain sl|m:=k.2 b o c (λz=>by rw[z,i]at c;cases c;exact l g j);exact(_,m,rfl)
 ·exact Zsl hx.nb hx.hB d hx.fun_ a hx.new hx.st x h
 ·exact Zmx a x (h Ë hx.st hx.fun_ x)
theorem T4.leaves(hx:Ùc)(d:Êu)(f:ÇF)
  (h:∀h',Xp B Å2 h'->Òp Â (env::Ü)->Ys NB h' e cls dd .none->Q () { s with Õ:=h' }):ar M A (leaving env Ś) Q E s:=by
 unfold leaving;refine ah (hx.noted d f λg a b c=>?_);exact T5 hx.hB (s:=#[hR,s,g]) (F:=af) b a c h
universe E
open PySem.W (hideAll hideAll_none hideAll_get hideAll_size of_hideAll)
def NB(lo:Nat)(H:Hp)(ps:ŧ)(T:ae):Prop:=lo<=T/\H T=af/\T ∉ ps
def CX1(P:ay)(w:aF):CXT:=λouter H s E c s'=>X4 λ(e:ae) (cls:aa) (b:Ã ae) (a:Hp)=>c=.ref e/\Ð<=e/\a e=af/\Ys (NB Ð a []) ÀD e cls b .none /\
 s'.os=s.os/\Ãn s'.gens/\Un (frs Ü) [] H a Ë ÀD/\HOk P w a ÀD/\E cls b a
def XE(X:Cx)(E:St->XK):aa->aj->Prop:=λg s'=>X6 λ(e:ae) (cls:aa) (b:Ã ae) (d:À (ae×aN)) (f:St) (a:Hp)=>g=.ref e/\ŵ<=e/\e≠ı/\#[gI,c,e]/\a e=af/\Inv X d f a s'/\(∀p∈X.pn++d,p.1≠e) /\
 (T6 ÀD e cls b\/Ys Ùd ÀD e cls b .none\/Ys Ùd ÀD e cls b Òr)/\E f cls b a
section
variable {X:Cx} {ai:À (ae×aN)} {σ:St} {H:Hp} {s s':aj} {E:St->XK}
theorem Inv.refused(I:ä){u:aa}(h:CX1 ö X.w Κ H s (E σ) u s'):XE X E u s':=by
 obtain e|cls|A|w|rfl|y|B|C|os|f|un|j|q:=h;have i:Ùe:=I.sz;have D:Inv X ai σ w s':=by obtain F|g|d|t|G:=s';obtain rfl:G=s.os:=os;exact I.call (h':=F) (g':=g) (d':=d) (t':=t) (ch:=[]) un j f (λb z=>Ê z Ö)
 have k:∀a o,é a=U o->a≠e:=λa o J z=>by have:=Qr J;rw[hi,z,y]
 refine(e,cls,A,ai,σ,w,rfl,Qk i y,λz=>?_,λx c K z=>?_,B,D,λp l z=>?_,.inr (.inl ?_),q)
 ·rw[iG,n,Š,k]
 ·obtain v|o|n|_:=Àd x c K;exact k _ _ n z
 ·exact k _ _ (Àe p l).1 z
 ·obtain L|M|T|N|O|P|Q|R|S|V|W|Y|Z|a9|r:=C.ex;refine(L,M,T,N,O,P,Q,R,S,V,W,Y,Z,a9,Qk i r.1,r.2.1,λhm=>?_);rw[tq,p,l,ep,Ħ,hm];have:=Qr (Àe p l).1;rw[hi,ep,r.1]
theorem Inv.fly{e:ae}{cls:aa}{g:Ě}(I:ä)(C:Òs)(he:ŵ<=e)(Y:e≠ı)(Z:∀x c,δ x=U c->c≠e)(hn:H e=af)(hp:∀p∈X.pn++ai,p.1≠e)
  (hx:T6 Ë e cls g\/Ys Ùf Ë e cls g .none\/Ys Ùf Ë e cls g Òr) :
  X2 λ(B:aI) (M:ae->Prop)=>T4 B Œ M Ì ÂC ı e cls g Ë/\(∀T,M T->NB ŵ H Êv T)/\∀h',Xp B ((Ì::ÂC).filterMap (·.frame)) h'->Inv X ai σ H { s with Õ:=h' }:=by
 have D:Ùe:=I.sz;obtain⟨ch,E,EK⟩:∃ch:À ae,(e∈ch/\∀T∈ch,T=e\/(NB ŵ H ((X.pn++ai).map (·.1)) T/\X2 λo h=>é T=U o/\ų=.fields h)) /\
   (T6 Ë e cls g\/Ys Ùg Ë e cls g .none\/Ys Ùg Ë e cls g Òr):=by
  rcases hx with x|x|x
  ·exact([e],(List.mem_singleton.mpr rfl,λT d=>.inl (ò d)),.inl x)
  ·rw[o7];refine([e,T],Ùh,.inr (.inl Ùi));rw[57];rcases d with z|z
   ·exact .inl z
   ·rw[z];exact .inr (n,i,j,k,l)
  ·rw[o7];refine([e,T],Ùh,.inr (.inr Ùi));rw[57];rcases d with z|z
   ·exact .inl z
   ·rw[z];exact .inr (n,i,j,k,l)
 have gx:∀T∈ch,H T=af:=λT d=>by
  rcases E.2 T d with z|z
  ·rw[z];exact hn
  ·exact z.1.2.1
 have big:∀T,Ð<=T->NB ŵ H Êv T:=λT d=>by refine(Qk D d,ÆI d,λq=>?_);rw[tq,p,Q,R,Ħ,q];have:=Qr (Àe p Q).1;rw[hi,R,d]
 refine(hideAll Ë ch,λT=>NB ŵ H Êv T/\(hideAll Ë ch).get? T=af,((λb o f _=>of_hideAll _ f,λb o f=>(È5,of_hideAll _ f)),?_,hideAll_none _ E.1,λT d=>(big T d,Ô2 #[ei,hideAll_size,d]),λT d=>d.2,EK),λT d=>d.1,λh' A=>?_)
 ·rw[<- C.1];exact I.stack
 ·refine I.call' (s':=#[hR,s,h']) (ch:=ch) rfl (λb o f _ S hc=>A.1 b o Òt ?_,λb o f _ _ hc=>A.2 b o Òt,λb o _ f _=>f,λb o f hc=>?_,λ_ _ z=>z,λ_ _ _ z=>z,λb ps z=>(#[],by rw[Array.append_empty];exact z)) ?_ Λ λb f=>?_
  ·rw[C.1]at S;exact S
  ·obtain sl|h2:=A.2 b o Òt;exact(_,h2)
  ·intro a o r;refine(ê a o r).stay (λc u hc hu=>A.1 c u (hideAll_get _ hu λq=>?_) λq=>?_) (λ_ z=>z) λ_ _ z=>z
   ·have:=gx c q;rcases hc with rfl|hc
    ·rw[zC,r]
    ·rw[zC,hc]
   ·have:H c=af:=ÐD c #[ei,C.1,q];rcases hc with rfl|hc
    ·rw[zC,r]
    ·rw[zC,hc]
  ·rcases E.2 b f with rfl|⟨z,o,h,V,W⟩
   ·exact(.inr he,Y,Z,hp)
   ·refine(.inr z.1,λy=>?_,λx c hc y=>?_,λp Q y=>z.2.2 (ØM (p,Q,y)))
    ·obtain m|⟨o',es,R,t,w,_⟩|_:=Š;rw[<- y,V]at t;cases t;rw[fX,W,w,w]
    ·obtain v|o'|t|w:=Àd x c hc;rw[e4,y,V,t];rw[fX,W,w,w]
universe E
theorem Ys.mono{M N:ÄP}{h:aI}{e:ae}{cls:aa}{a:Ě}{b:aa}(x:Ys M h e cls a b)(k:∀T,M T->N T):Ys N h e cls a b:=by obtain c|d|T|f|g|i|j|l|m|n|o|p|q|r|s:=x.ex;exact(c,d,T,f,g,i,j,l,m,n,o,p,q,r,k T s)
section
variable {X:Cx} {E:St->XK} {k:Nat} {f:ae} {fd:bA} {ps:À ak} {sp:Sp} {t:TA}
theorem Kv{c:Ć}{b:St}{H:Hp}{s:aj}{Q:VK}{us:å}{vs:Ė}(F:Ùj)(hr:ι)(hb:ÍI)(hx:#[ft,d])
  (I:Inv X c b H s) (r:ZG vs us) (h:sp vs H Q (E b)):ô (Ĵ Ċ us) (EP X c b Q) è s:=by
 have g:ÀR=ÀF:=by rw[<- ÁA];exact F.len _ _ _ _ h
 have i:Æ2 s fd Éw Æ3:=by have:=hb s us Ġ #[ei,Qab,g];rwa [Qab]at this
 refine Än (Æ5 (F.run X.A Κ s H Éw us vs Q (E b) hr I.env0 i r h) λr s' a=>?_);cases r with
 | error e=>exact hx e s' (I.refused a)
 | ok j =>
  cases j with
  | ret u=>exact I.after a
  | next=>exact Ãv
  | brk=>exact Ãv
  | Μ=>exact Ãv
def Ku(sp:Sp)(E:St->XK)(t:TA):TE:=λa H Q=>t a H λvs b=>sp vs b Q (E a)
universe E
section
variable {P:ay} {w:aF} {K:Å} {mg:ak->Ã aa} {Â:aI}
theorem XE.leaves{N:Ñ}{d:ak}{g:bh}{f:ae}{i:aa}{A:aD}{Ü:Á2}{s:aj}{H:Hp}{E:XK}{j:aa}{s':aj}
  (h:XE #[hu,d,g,i] (λ_=>E) j s'):#[hu,d,g,i].xe j s':=by
 obtain e|cls|o|ai|σ|p|rfl|k|r|t|l|I|u|v|q:=h;obtain B|M|x|m|y:=I.fly Ŕ k r t l u v;refine x.leaves Æ4 rfl λz a b c=>?_;have J:=y z a;exact(e,cls,o,p,rfl,k,l,c.mono λT n=>((m T n).1,(m T n).2.1,by simp),J.os,J.bare,J.base,J.hok,q)
theorem Fun.ok1{x b:ak}{st:aM}{f:ae}{c:bA}{N ps:Ñ}{k:Nat}{sp:Sp}(F:Fun K x b st f c)(S:Äu)(len:Ãx)
  (d:∀ (a:aa) (A:aD) (Ü:À Env) (s:aj) (H:Hp) (vs:À V) (Q:VK) (E:XK),Zt k #[fG,b]->sp vs H Q E ->
   ∃t,PSs ((Ü2).wish (XE Ü2 (λ_=>E))) ÂL t/\t { nx:=λ_ g=>Q .non g,rt:=Q } ÁD H):YY P w K mg Â (CX1 P w) (k+1) f c ps sp:=by
 rw[zH,fF,pm,an,a,i];refine LJ lk i S len λA Ü s H vs Q E j l=>?_;obtain t|h|q:=d a A Ü s H vs Q E j l;exact(t,h.wish λe s h=>XE.leaves h,q)
universe E
section
variable {M:ÀV} {A:aD} {E:aa->aj->Prop} {h:aI} {g:ā Ão} {d:År} {t:Nat} {os:Êw}
variable {nm q:ak} {C N:ae} {bs bm:À aa} {cL:Ï} {sn:À ak} {sub:À aa} {ab:Ï} {bX:Ã Ï} {dd:Ã ae} {k0 k1 k2 k3 k5:Ã aa} {bH:ŋ}
variable {gQ q':ak} {C' N':ae} {EL ul:À aa} {vS:Ï} {EM:À ak} {Ak:À aa} {EN:Ï} {Al:Ã Ï} {ja:Ã ae} {EO EQ ER ES ET:Ã aa} {tO:ŋ}
theorem Zkc{e:ae}{a:aN}{b:Ï}{Q:Êd}(c:ß C=U (Às nm q C N bs bm cL sn sub ab bX dd k0 k1 k2 k3 k5 bH))(hB:ß C'=U (Às gQ q' C' N' EL ul vS EM Ak EN Al ja EO EQ ER ES ET tO))
  (he:ß e=U a) (i:a.cls=.ref C) (j:ul.contains ÀI=true) (k:(á C::bm).contains (.ref C')=b) (hq:Q b τ):ar M A (Êx Ś (.ref C')) Q E τ:=by
 have l:#[ik,C',ul]:=by rw[QN,j,Qas]
 have f:=tc_notTuple;unfold Êx;repeat (first|(with_reducible refine Ρ he ?_;rw[i])|with_reducible refine Ρ hB ?_|(with_reducible refine Áh hB ?_;rw[l])|(with_reducible refine Áh c ?_;rw[k])|wp_step)
 cases b<;>(wp_walk;exact hq)
universe E
section
variable {X:Cx} {E:St->XK} {k:Nat} {f C:ae} {fd:bA} {ps:À ak} {sp:Sp} {x:ak} {p pos:Pos} {e:aK} {es:À aK} {t:TA}
theorem XE.unwish{xe:ð}{a:aa}{s:aj}(h:XE (X.wish xe) E a s):XE X E a s:=by obtain e|cls|b|c|d|f|g|i|j|k|l|I|m|n|o:=h;exact(e,cls,b,c,d,f,g,i,j,k,l,I.unwish,m,n,o)
theorem ZqW(F:Ùj)(hr:ι)(d:Ō)(hm:ÐE)(hk:ÐF)(hb:ÍI)(hx:#[ft,b])
  (ha:Àk) (g:Ĩ:=by decide) (he:θ:=by rfl) (i:ÁB:=by rfl) :
  PE X Äo (Ku sp E t):=by
 rw[he,j,l,d,g];refine Qad (h₀:=Œ) Äp hk (thn #[gi,j,l] λus s1 a=>?_) he i;obtain vs|H1|c|r|q:=a;exact(c.kIn,Kv F hr hb hx c r q)
universe E
abbrev Cx.pnd(X:Cx)(a:Ć):Cx:={ X with pn:=X.pn++a }
abbrev Cx.mkd(X:Cx)(e:ae):Cx:={ X with A:=X.A.mark (U (.ref e)),calm:=false,xe:=λ_ _=>ė }
section
variable {X:Cx} {ai i5:À (ae×aN)} {σ:St} {H:Hp} {s:aj}
theorem Cx.Ok.pnd(ok:X.Ok)(ai:Ć):(Òu).Ok :=
 ËZ
theorem Cx.Ok.unpnd{ai:Ć}(ok:(Òu).Ok):X.Ok :=
 ËZ
theorem Inv.pnd(I:ä):Inv Òu [] σ H s:=(I.ok.pnd ai,I.os,Λ,Ås,Š,Àd,ε,ÀC,λp hp=>Àe p #[eg,hp],ê,ÀB)
theorem Inv.unpnd(I:Inv Òu i5 σ H s):Inv X ai σ H s:=(I.ok.unpnd,I.os,Λ,Ås,Š,Àd,ε,ÀC,λp hp=>Àe p (QU _ hp),ê,ÀB)
theorem SP.unpnd{D:XS}{f:Flow}{s':aj}(h:SP Òu i5 D f s'):SP X ai D f s':=by
 cases f with
 | next=>obtain a|b|I|q:=h;exact Òv
 | brk=>obtain a|b|I|q:=h;exact Òv
 | Μ=>obtain a|b|I|q:=h;exact Òv
 | ret u=>obtain v|a|b|I|r|q:=h;exact(v,a,b,I.unpnd,r,q)
theorem Inv.mkd(I:ä)(e:ae):Inv (Å3 e) ai σ H s :=
 ((ËO,Ás,Ñc,I.ok.blt,ÈZ,I.ok.inj,ËW,I.ok.cab,(λh=>by cases h),Æ4,I.ok.stk,I.ok.exf,I.ok.bs,È1,ÆF,ÏR,I.ok.funs,I.ok.frf),I.os,Λ,Ås,Š,Àd,ε,ÀC,Àe,ê,ÀB)
theorem Inv.unmkd{e:ae}(I:Inv (Å3 e) ai σ H s)(ok:X.Ok):Inv X ai σ H s:=(ok,I.os,Λ,Ås,Š,Àd,ε,ÀC,Àe,ê,ÀB)
universe E
def WR(K:Å)(C:ae)(a:å):Prop:=X16 λ(nm q:ak) (N:ae) (bs:À aa) (b:Ï) (c:À ak) (sub:À aa) (d:Ï) (e:Ã Ï) (f:Ã ae) (g h i j k:Ã aa) (l:ŋ) =>
 Ļ C=U (Às nm q C N bs a b c sub d e f g h i j k l)
open Builtin Builtin.ObjectAttr
section
variable {ñ:ay} {w:aF} {A:aD} {E:aa->aj->Prop} {h:aI} {g:ā Ão} {d:År} {t:Nat} {os:Êw} {K:Å}
variable {nm q:ak} {C N x:ae} {bs bm:À aa} {sn:À ak} {sub:À aa} {ab:Ï} {bX:Ã Ï} {dd:Ã ae} {k0 k1 k2 k3 k5:Ã aa} {bH:ŋ}
 {mA:Ā} {name:ak} {v:aa}
theorem Zmu{tk:Tok}{Q:#[hy,Fin]}{ns:Ñ}(X:Ŵ h)(hm:Ùk)
  (T:Ùl) (ha:Ðj) (EV:x≠C) (I:h.Inst x C mA)
  (hq:∀h' V,h'.Inst x C Ðn ->
   (∀b o,b≠x->Ùm->ß b=U o->ÿ b=U o) ->
   (∀a,ß x=U a->∃j,ÿ x=U j/\j.cls=a.cls/\j.data=a.data/\j.slots=ËN/\(∀dx,Êy=U dx->j.dict=U dx)/\(Êy=af->j.dict=U ĺ))->Q (.done (.ret .none)) #[f8,h',V]) (hw:Within mA ns) (hsz:Ìd) :
  ar Ô A (aS.«object.__setattr__» ([.ref x,.str name tk,v],[])) Q E τ:=by
 obtain o|i|p|r|W:=I;have Y:=hm ÀT;have L:=QaB (M:=ax ñ w) X ha;unfold aS.«object.__setattr__»;repeat (first|rw[refuse_eq]|(rw[refuseLoop_ref,Y])|(with_reducible refine Ρ i ?_;rw[p])|with_reducible refine wpAny_mroOf_exc T ?_|(with_reducible refine ah (L.at ?_))|wp_step)
 rcases W with⟨P,s⟩|⟨dx,m,u,Z⟩
 ·
  rw[P,Ç (by simp[typeHasDict])];split
  ·rename_i z;cases z
  split
  ·rename_i c z;exact Ê z (r c)
  ·have R:(Ü0).get? x=U o:=Qc _ i;have B:x≠ĺ:=Qz (Qr i);refine ah (wpAny_alloc' ?_);refine ah (wpAny_update' R ?_);refine av ?_;have D:#[df].get? ĺ
     = U { cls:=.type "dict",Ó:=.dict #[] } :=
    (Qa2 _ _ _ _ ÇG).trans (Ùn rfl rfl)
   have iy:#[df].Ns ĺ (λ_=>af) :=
    (_,#[],_,D,rfl,λe he=>Ê he Ö,λ_=>rfl)
   show ar _ _ (ÍJ ĺ (.str name tk) name v) _ _ _;unfold ÍJ newKeyGuard;refine ah (av (ah (Ðp (ÕE iy) λh' l k=>?_)));obtain oD|Ee|Ef|F|G|H:=l.count (Within.cons name v Within.nil);refine ah (Ðq F (by rw[(G)];exact Ðr (Qk H (by rw[QA,ÅM,aO];lia))) ?_)
   wp_walk
   have S:ÿ x=U { cls:=Ãp,ο:=U ĺ,Ó:=ų,Á1:=È5 }:=?_;refine hq h' _ ({ cls:=Ãp,ο:=U ĺ,Ó:=ų,Á1:=È5 },S,p,r,.inr (ĺ,rfl,ÇG,?_)) (λb ob J _ n=>?_)
    (λa f=>by obtain rfl:o=a:=Qw (i.symm.trans f);exact(_,S,rfl,rfl,rfl,λdx e=>(by rw[P]at e;cases e),λ_=>rfl))
   ·obtain o'|es|ep|e1|e2|e3|eu|e4:=l;exact(o',es,ep,e1,e2,e3,eu,λy=>by rw[e4 y];by_cases hy:y=name<;>simp[hy,s])
   ·exact(k.2 b (Qz (Qr n))).trans ((Qa2 _ _ _ _ J).trans (Qc _ n))
   ·refine(k.2 x B).trans (Q5 _ R ?_);have e9:=(aI.get?_some_iff.mp i).2;obtain oc|od|O|mP:=o;cases O<;>first|rfl|exact e9
 ·
  rw[m];refine av ?_;show ar _ _ (ÍJ dx (.str name tk) name v) _ _ _;unfold ÍJ newKeyGuard;refine ah (av (ah (Ðp Z λh' l k=>?_)));obtain oD|Ee|Ef|F|G|H:=l.count (Within.cons name v hw);refine ah (Ðq F (by rw[(G)];exact Ðr (Qk H #[fL,QA])) ?_)
  wp_walk
  refine hq h' _ (o,(k.2 x u.symm).trans i,p,r,.inr (dx,m,u,l)) (λb ob _ yu n=>?_)
   (λa f=>(a,(k.2 x u.symm).trans f,rfl,rfl,rfl,λ_ e=>e,λe=>by obtain rfl:o=a:=Qw (i.symm.trans f);rw[m]at e;cases e))
  exact(k.2 b (yu o dx i m)).trans n
theorem Kt{Q:Á3}{ns:Ñ}(X:Ŵ h)(hm:Ùk)(m:Òw ÍK=true)
  (j:Ùl) (hs:#[gd,æ]) (ha:Ðj) (n:x≠C) (I:h.Inst x C mA)
  (hq:∀h' i,h'.Inst x C Ðn ->
   (∀b o,b≠x->Ùm->ß b=U o->ÿ b=U o) ->
   (∀a,ß x=U a->∃c,ÿ x=U c/\c.cls=a.cls/\c.data=a.data/\c.slots=ËN/\(∀dx,Êy=U dx->c.dict=U dx)/\(Êy=af->c.dict=U ĺ))->Q () #[f8,h',i]) (hw:Within mA ns) (hsz:Ìd) :
  ar Ô A (Ék ÀT name v) Q E τ:=by
 have f:=PySem.F.store_object;obtain o|p|r|yt|hd:=id I;have l:PySem.W.Looks Ô h (typeOf ÀT) æ:=r ▸ (PySem.W.Looks.ld p).andThen .now;refine ah (wpAny_mkText (ah (ah (ah (l _ _ _ _ ËU (QaB X hs _ _ _ _ ËU (aT ?_)))))));rw[PySem.F.store_object.slot.bind];have s:(á C::bm).contains ÍK=true:=by rw[QN,m,Qas]
 refine ah (av (ah (Än (Ùo f.slot.plain f.entry (@PySem.W.check_slot Ô _ _ (h,g,d,t+1,os) "object.__setattr__" "object" "__setattr__" ÀT [.str name t,v] [] _ f.kind f.split (l.andThen ?_) (f.args ÀT (.str name t) v) (Zmu X hm j ha n I (λh' i u z B=>av (av (hq h' i u z B))) hw hsz))))));intro A' Q' E' D k F;obtain h2|g2|d2|t2|os2:=D;refine Áh (k _ _ j) ?_;rw[s];exact F
universe E
abbrev Yv:À aa:=[.type "ValueError",.type "Exception",.type "BaseException",.type "object"]
structure XC (K:Å) (C B:ae):Prop where
 obj:X15 λ(nm q:ak) (N:ae) (bs:À aa) (sn:À ak) (sub:À aa) (ab:Ï) (bX:Ã Ï) (dd:Ã ae) (k0 k1 k2 k3 k5:Ã aa) (bH:ŋ) =>
  Ļ C=U (Às nm q C N bs Êz true sn sub ab bX dd k0 k1 k2 k3 k5 bH)
 sa:Ī K æ "__setattr__" = U Éo
theorem XC.cls{K:Å}{C B:ae}(c:XC K C B):WR K C Êz:=by obtain a|q|N|bs|b|sub|d|e|f|g|i|j|k|l|m|h:=c.obj;exact(a,q,N,bs,true,b,sub,d,e,f,g,i,j,k,l,m,h)
abbrev exN(e C:ae)(a:Ě):HO:=.ext λh=>∃T,ß e=U { cls:=.ref C,ο:=a,Ó:=.fields Ân }
abbrev xdO(dx:ae)(fs:À Á8):HO:=.ext λh=>∃mA,h.Ns1 dx mA/\#[zO,mA]/\ÈT mA ËJ
section
variable {X:Cx} {ai:À (ae×aN)} {σ:St} {H:Hp} {s:aj} {A:aD} {E:aa->aj->Prop} {C B e dx:ae} {f:ak} {fs:À (ak×V)}
theorem Ks(B:ae)(self:aa):refuseLoop self "__setattr__" Êz=pure ():=by rw[refuseLoop_ref];exact PySem.F.store_ValueError.passes self
theorem SA{P:ay}{w:aF}{H:Hp}{h:aI}{a:Ě}{T:ae}(he:ß e=U { cls:=.ref C,ο:=a,Ó:=.fields Ân }):Z8 P w H h e (exN e C a) :=
 ((T,he),(_,he),λh1 h2 z k=>by obtain b|z:=z;exact(b,k _ z))
theorem Kq{P:ay}{w:aF}{H:Hp}{h:aI}{mA:Ā}(a:h.Ns1 dx mA)(r:∀f,Yo ÏG (mA f))(b:ÈT mA ËJ):Z8 P w H h dx (xdO dx fs) :=
 ((mA,a,r,b),let ⟨o,_,_,c,_⟩:=a;(o,c),λh1 h2 z k=>by obtain m|d|e:=z;exact(m,d.at λo q=>k o q,e))
theorem ZvT{y:V}{u:aa}{Q:Á3}(I:ä)(c:XC X.K C B)(n:ÆY)(he:H e=U ÇH)(J:ZE y u)
  (h:∀dx s',H dx=af->dx≠e->Inv X ai σ (upd #[iP,H,dx] dx (xdO dx [(f,y,)])) s'->Q () s'):ar ġ A (Ék Ś f u) Q E s:=by
 obtain nm|q|N|bs|sn|sub|ab|bX|dd|k0|k1|k2|k3|k5|bH|K:=c.obj;rw[ve];have v:=Ġ _ _ K;have L:e≠C:=λz=>by subst z;have:=v.symm.trans j;cases this
 rw[gw,i,t,s];refine Kt (mA:=λ_=>af) (ns:=[]) Ġ (Ks B) rfl v c.sa n L (_,j,rfl,ÇI,.inl (rfl,λ_=>rfl)) (λh' p M O P=>?_) (λy R=>Ê rfl R) (Qs _);obtain S|r|w|D|F|_|W:=P _ j;obtain cl|di|da|sl:=S;have G:=W rfl;dsimp only at w D F G r;subst w D F G;have Y:H ÃL=af:=ÐW;have Z:e<ÃL:=Qr j;have ne:ÃL≠e:=QX Z;obtain o2|e2|_|_|hd:=M;obtain rfl:_=o2:=Qw (r.symm.trans e2);obtain(⟨um,_⟩|⟨dx,kG,_,eJ⟩):=hd
 ·cases um
 cases kG;refine h ÃL _ Y ne ?_;have I1:Inv X ai σ #[iP,H,ÃL] (i.update e λo=>{ o with ο:=U ÃL },g,d,p,os):=by have m:Ùp:=Q5 _ j rfl;exact ÅC (x:=e) (e:=e) (t':=p) #[tt,he] Ğ (λb u k q=>(Qa2 _ _ _ _ k).trans q) (_,m) (SA m)
 have m:Ùp:=Q5 _ j rfl;refine I1.laid (a:=ÃL) (h':=h') (t':=p) #[hU,b,u,q] (Ìg (Íg _ _ _)) (Kq eJ (λl=>?_) λl hg=>?_)
 ·by_cases k:b=e
  ·subst k;rw[fX,m,q,q];exact r
  ·exact O b u k (λcU dx a b'=>by rw[j]at a;cases a;cases b') ((Qa2 _ _ _ _ k).symm.trans q)
 ·show Yo (Áa l [(f,y,)]) (if l=f then U u else af);by_cases z:l=f
  ·subst z;rw[ql];simp only[Áa,Ña];exact J
  ·rw[zE,z];simp only[Áa,Æz z];exact ŷ
 ·by_cases z:l=f
  ·subst z;simp
  ·exact Ê (Ç z) hg
theorem ZvR{y:V}{u:aa}{Q:Á3}(I:ä)(c:XC X.K C B)(n:ÆY)(he:H e=U (exN e C (U dx)))(l:H dx=U (xdO dx fs))(K:dx≠e)(hl:ÀS<1000)(L:ZE y u)
  (h:∀s',Inv X ai σ (upd H dx (xdO dx Ðt)) s'->Q () s'):ar ġ A (Ék Ś f u) Q E s:=by
 obtain nm|q|N|bs|sn|sub|ab|bX|dd|k0|k1|k2|k3|k5|bH|M:=c.obj;rw[ve];obtain ⟨mA,O,r,m⟩|_|_:=ê dx _ l;have p:=Ġ _ _ M;have P:e≠C:=λz=>by subst z;have:=p.symm.trans j;cases this
 rw[gw,R,t,s];refine Kt (mA:=mA) (ns:=ÆX ó) Ġ (Ks B) rfl p c.sa n P (_,j,rfl,ÇI,.inr (dx,rfl,K,O)) (λh' S W Y Z=>?_) m #[sk,Qa,aO];obtain o1|k|v|w|D|dn|_:=Z _ j;obtain cl|di|da|sl:=o1;have F:=dn dx rfl;dsimp only at v w D F k;subst v w D F;obtain o2|e2|_|_|hd:=W;obtain rfl:_=o2:=Qw (k.symm.trans e2);obtain(⟨um,_⟩|⟨vb,EW,_,G⟩):=hd
 ·cases um
 cases EW;refine h _ (ÅC (x:=dx) (e:=dx) (h':=h') (t':=S) #[tt,l] Ğ (λb u hb q=>?_) (let ⟨o,_,_,e',_⟩:=G;(o,e')) (Kq G (λi=>?_) λi hg=>?_))
 ·by_cases J:b=e
  ·subst J;rw[show R.get? b=_ from j]at q;cases q;exact k
  ·exact Y b u J (λcU vb a b'=>by rw[j]at a;cases a;cases b';exact hb) q
 ·show Yo ((Ðt).lookup i) (if i=f then U u else mA i);rw[Zr];by_cases q:i=f
  ·rw[iS,q,q];exact L
  ·rw[hM,q,q];exact r i
 ·by_cases q:i=f
  ·rw[q];exact#[yT].1
  ·refine#[yT].2 i (m i λz=>hg ?_);show (if i=f then U u else mA i)=af;rw[zE,q];exact z
universe E
def sX0(K:Å)(C B:ae)(c d:TE)(f:ak):TS:=λD a H=>d a H λy g=>c a g λx b=>∃e,x=.ref e/\b e=U ÇH/\∀dx,b dx=af->dx≠e->č a (upd #[iP,b,dx] dx (xdO dx [(f,y,)]))
def sX1(K:Å)(C B:ae)(c d:TE)(f:ak):TS:=λD a H=>d a H λy g=>c a g λx b=>X3 λe dx fs=>x=.ref e/\b e=U (exN e C (U dx))/\b dx=U (xdO dx fs)/\dx≠e/\ÀS<1000/\č a (upd b dx (xdO dx Ðt))
section
variable {X:Cx} {C B:ae} {f:ak} {o Àh:aK} {ta tv:TE} {pos dr:Pos}
theorem Kp(c:XC X.K C B)(n:ÆY)(ha:Ãu)(d:Ìh)(hs:Ðw):PS X Ðx (sX0 X.K C B ta tv f):=by intro a s b H D I h;refine Ðy #[gg,d,a,l] hs;rintro m s2 ⟨x,H2,p,r,e,ex,t,q⟩;subst ex;obtain rfl:m=á e:=r;exact ZvT p c n t k λv s' w ne z=>(_,_,z,q v w ne)
theorem Zwj(c:XC X.K C B)(n:ÆY)(ha:Ãu)(d:Ìh)(hs:Ðw):PS X Ðx (sX1 X.K C B ta tv f):=by intro a s b H D I h;refine Ðy #[gg,d,a,l] hs;rintro m s2 ⟨x,H2,p,r,e,dx,fs,ex,t,v,ne,w,q⟩;subst ex;obtain rfl:m=á e:=r;exact ZvR p c n t v ne w k λs' z=>(_,_,z,q)
universe E
abbrev FV:ExcBaseFacts "ValueError" "ValueError.__new__" "ValueError.__init__" Yv:=PySem.F.excBase_ValueError
section
variable {ñ:ay} {w:aF} {A:aD} {E:aa->aj->Prop} {h:aI} {g:ā Ão} {d:År} {t:Nat} {os:Êw} {K:Å}
variable {nm q:ak} {C N B:ae} {bs:À aa} {cL:Ï} {sn:À ak} {sub:À aa} {ab:Ï} {bX:Ã Ï} {dd:Ã ae} {k0 k1 k2 k3 k5:Ã aa}
theorem mvV(C B:ae):(á C::.ref B::Yv).contains Âo=true:=by rw[QN,QN,FV.hasB];simp
theorem Ko{M:ÀV}{Ă:å}{Q:Á3}(a:Å4)(hq:Q () τ):ar M A (Êg "ValueError.__new__" (.ref C::Ă,[])) Q E τ:=by
 have b:=mvV C B;have hstar:=FV.noStar;simp only[Êg,FV.newKind,FV.newSplit,FV.newRow];repeat (first|refine Ρ a ?_|(refine Áh a ?_;rw[b])|refine wpAny_staticBase_exc a ?_|refine Òx a ?_|simp only[bne_self_eq_false,ÉQ,ÅG]|wp_step)
 exact hq
theorem Kn{b c j:ŋ}{a k:å}(F:ExcBaseFacts b c j k)(l:Òy (.type b)=true)(m:Òy #[iy,"AttributeError"]=false)(n:Òy #[iy,"NameError"]=false){R:Él}{Ă:å}(e:ß C=U (Às nm q C N bs a cL sn sub ab bX dd k0 k1 k2 k3 k5 c))
  (hq:R (.ok (.ret ÇJ)) ⟨(Çr { cls:=.type "tuple",Ó:=.seq rest.toArray }).push
   { cls:=.ref C,Ó:=.fields Òz },g,d,t,os⟩) (jY:ÒA) :
  bL Ô A (.builtin c (.ref C::Ă,[])) R τ:=by
 have hends:=F.ends;have o:#[oT].contains (.type b)=true:=by rw[QN,l,Qas]
 have f:#[oT].contains #[iy,"AttributeError"]=false:=by rw[QN,m];rfl
 have i:#[oT].contains #[iy,"NameError"]=false:=by rw[QN,n];rfl
 refine codeAny_builtinAt F.entry ?_;unfold aS.«BaseException.__new__»;refine Ùq ?_;show PySem.wpAt _ _ _ (stack >>= _) _ _ _;refine Ùq (PySem.wpAt_stack λp below=>Ùr ?_)
 wp_walk
 refine Ùr ?_;rw[F.owner];repeat (first|with_reducible refine wpAny_madeHere_exc F.canon e ?_|with_reducible refine Ρ e ?_|(with_reducible refine Áh e ?_;first|rw[o]|rw[f]|rw[i])|wp_step)
 show R _ _;rw[Q1];exact hq
theorem ZmJ{Ă:å}{e:ae}{Q:#[hy,Fin]}(X:Ŵ h)(a:Å4)(m:#[fw,æ,Ś])(n:ÅB K Ś=true)
  (hq:∀h' T,ÍL->ÿ ÃM=U { cls:=.ref C,Ó:=.fields Ân }->ar Ô A (Ĵ Ś (.ref ÃM::Ă)) (λr s'=>r=.none/\Q (.done (.ret ÇJ)) s') E #[f8,h',t]) (p:ÒA) :
  ar Ô A (aS.«type.__call__» (.ref C::Ă,[])) Q E τ:=by
 repeat (first|with_reducible refine Ρ a ?_|with_reducible refine Òx a ?_|wp_step)
 refine Ùs Ùt (Ko a ?_);refine Kn FV Ùu Ùv Ùw a ?_ p;show ar _ _ _ _ _ _;generalize j:Çr { cls:=.type "tuple",Ó:=.seq rest.toArray }=f;have s:ÁK=ĺ+1:=by rw[<- j];exact Q1 _ _
 have k1:#[sc,ÊA]:=λb o i=>by rw[<- j];exact Qc _ i
 generalize k:f.push { cls:=.ref C,Ó:=.fields #[.ref ĺ,.none,.none,.none,.bool false,.none] }=c;have k2:#[sc,c.get?]:=λb o i=>by rw[<- k];exact Qc _ (k1 b o i)
 have l:c.get? ÃM=U { cls:=.ref C,Ó:=.fields Òz }:=by rw[<- k,<- s];exact Ùx
 have u:=k2 _ _ a;have X2:Ŵ c:=X.keeps k2;have v:Ùy:=by simp
 unfold Ñv;repeat (first|with_reducible refine Ρ l ?_|(with_reducible refine Áh u ?_;rw[v])|wp_step)
 rw[lD];refine aT (ah ?_);refine(ÕB X2 ÇJ (Ðl n)).at ?_;refine ah (ba (hq c ĺ k2 l) #[hU,r,s',y] λ_ _ x=>x);obtain rfl|z:=y
 wp_walk
 exact z
theorem ZwC{Ă:å}{c:ae}{Q:ð}(X:Ŵ h)(a:Å4)(e:Ī K æ "__init__" = U #[tk,c])(f:ÅB K (.ref c)=true)
  (hq:∀h' T,ÍL->ÿ ÃM=U { cls:=.ref C,Ó:=.fields Ân }->ar Ô (Ém (.builtin "type.__call__" (.ref C::Ă,[]))) (Ĵ (.ref c) (.ref ÃM::Ă)) (λr s'=>r=.none/\Q ÇJ s') E #[f8,h',t]) (i:ÒA) :
  ar Ô A (Ĵ æ Ă) Q E τ:=by
 rw[90];repeat (any_goals (first|assumption|with_reducible refine Ρ a ?_|wp_step))
 refine(rfl,Ñ6 Ùz entry_typeCall (ÙA a (ZmJ X a e f (λh' T k j=>hq h' T k j) i)))
theorem ZlB{M:ÀV}{e:ae}{c:aN}{Ă:å}{Q:Á3}(f:Å4)(he:ß e=U c)(i:c.cls=.ref C)(hq:Q () τ) :
  ar M A (Êg "ValueError.__init__" (.ref e::Ă,[])) Q E τ:=by
 have j:=mvV C B;have hshort:=FV.noStar;simp only[Êg,FV.initKind,FV.initSplit,FV.initRow];repeat (first|(with_reducible refine Ρ he ?_;rw[i])|with_reducible refine Ρ f ?_|(with_reducible refine Áh f ?_;rw[j])|wp_step)
 refine ÒB ?_;rw[show ∀ (a b:ŋ) (n:Nat),Bind.check (.positional, "*", "ValueError",.self,[("args",.varPos,false)]) a b n (List.map (λx=>x.fst) ({ pos:=á e::Ă }:Args).kw)=pure () from
  λa b n=>check_star_args _ _ _ _ _ _]
 exact av hq
theorem Km{e T:ae}{u:aa}{c:Ě}{Q:ð}(f:Å4)(he:ß e=U { cls:=.ref C,ο:=c,Ó:=.fields Ân })
  (i:∀a,(∀b o,b≠e->ß b=U o->ÅH b=U o)->(∃j,ÅH e=U { cls:=.ref C,ο:=c,Ó:=.fields #[.ref j,.none,.none,.none,.bool false,.none] })->Q .none #[f8,a,t]) :
  ar Ô A (Ĵ ÄQ [.ref e,u]) Q E τ:=by
 refine Än (Ùo FV.init.plain FV.initEntry (ZlB f he rfl ?_))
 wp_walk
 refine i _ (λb o k l=>?_) (ĺ,?_)
 ·rw[Qah _ _ (À7 k)];exact Qc _ l
 ·rw[Q5 _ (Qc _ he) rfl];rfl
universe E
abbrev TJ:=ak->St->Hp->VK->Prop
def PJ(X:Cx)(c:ĳ)(t:TJ):Prop :=
 ∀ (b:À (ae×aN)) (s:aj) (a:St) (H:Hp) (out:ak) (Q:VK),Inv X b a H s->t out a H Q->ô (joinParts out (evalEach c Ì)) (EP X b a Q) è s
def Zw9:TJ:=λout _ H Q=>out.length<=aq/\Q (.str out) H
def Zv6(b:TE)(t:TJ):TJ:=λout a H Q=>b a H λv c=>∃y,v=.str y/\(out++y).length<=aq/\t (out++y) a c Q
def Zwp(a:TE):TE:=λb H Q=>a b H λv c=>∃i:Int,v=.int i/\i.natAbs.log2<1920/\Q (.str ÍM) c
section
variable {X:Cx} {e e1 e2:aK} {es:À aK} {te:TE} {t:TJ} {pos:Pos}
theorem UQ:PJ X [] Zw9:=λ_ _ _ H out _ I h=>joinParts_nil #[gr,out,h.2] h.1
theorem Yd(he:Åv)(hr:PJ X es t):PJ X (e::es) (Zv6 te t):=by intro b s c H out Q I h;refine joinParts_cons #[zS,b,c,d];obtain v|f|g|r|y|rfl|i|q:=a;obtain tk|rfl:=#[eQ,tk,Ár,y,r];exact(i,hr b d c f _ Q g q)
theorem VY(h:PJ X (e1::e2::es) t):PE X (.JoinedStr (e1::e2::es) pos) (t Áz):=λa s b H Q I q=>JoinedStr_many (h a s b H _ Q I q)
theorem T3(he:Åv):PE X ÙB (Zwp te):=by intro b s c H Q I h;refine ÙC #[zS,b,c,s1];obtain v|d|f|r|i|rfl|g|q:=a;obtain tk|rfl:=#[eQ,tk,Ãk,i,r];exact formatField_int_small g (.str ÍM,d,f.tok _,ü,q)
universe E
structure XB (K:Å) (B:ae):Prop where
 sp:Ép K (.ref B) "__getattribute__" = U ÙD
 rd:ÙE K B ÊB=true
 fi:ÙF K (.ref B) ÊB "__init__" = U (.val ÄQ)
def tXI(C:ae)(t:TA):TE:=λb H Q=>t b H λvs a=>X3 λe x c=>vs=[.ref e,.str x]/\a e=U (exN e C c)/\Q .non a
structure XM (K:Å) (C B f:ae):Prop where
 obj:X14 λ(nm q:ak) (N:ae) (bs:À aa) (sn:À ak) (sub:À aa) (ab:Ï) (bX:Ã Ï) (dd:Ã ae) (k0 k1 k2 k3 k5:Ã aa) =>
  Ļ C=U ÙG
 init:Ī K æ "__init__" = U Àg
 fn:ÅB K Ċ=true
 kp:Áb K æ=true
 sa:Ī K æ "__setattr__" = U Éo
theorem XM.xc{K:Å}{C B f:ae}(c:XM K C B f):XC K C B:=by obtain a|q|N|bs|b|sub|d|e|g|i|j|k|l|m|h:=c.obj;exact((a,q,N,bs,b,sub,d,e,g,i,j,k,l,m,_,h),c.sa)
section
variable {X:Cx} {C B f:ae} {x:ak} {p bv pos br:Pos} {e:aK} {es:À aK} {t:TA}
theorem Kl{pl:Sem Ï}(c:XM X.K C B f)(b:XB X.K B)(D:Ō)(hm:ğ x=U (.ref B))(ha:Àk)(E:Ĩ:=by decide)
  (F:θ:=by rfl) (G:ÁB:=by rfl)
  (J:ă ÙH Ì=(do
   let v <- ă (.Name x p) Ì
   Ã5 Æ7
   let (f,first) <- Át [v] (Äe v "__init__" pl)
   Æ8 pos f first (bo pos Éx) Æ9):=by rfl) :
  PE X ÙH (tXI C t):=by
 rw[e3,K,L,Q];refine QaR (pl:=pl) (W7 I D hm ?_ E) J;refine PySem.W.method_cls Ġ b.sp (PySem.W.cls_value Ġ b.rd b.fi rfl ?_);refine Õ2 (thn (ha pos K _ L H _ ÂH h) λus M a=>?_) F G;obtain vs|l|m|r|i|y|w|rfl|n|q:=a;obtain nm|q'|N|bs|sn|sub|ab|bX|dq|k0|k1|k2|k3|k5|O:=c.obj;obtain ⟨T,P⟩|_|_:=m.hok i _ n;cases r with
 | Î R r =>
  cases r with
  | Î r2 r =>
   cases r;obtain rfl:=R;rw[gw,hh,tk,M];refine Km (m.kIn _ _ O) P λh' k j=>?_;rw[ew,T',j,j];have A:=m.write (x:=i) (e:=i) (o:=exN i C w) (h':=h') (t':=tk) #[tt,n] Ğ (λb u S z=>k b u S z) (_,j) (SA j);have V:upd l i (exN i C w)=l:=by
    funext b;by_cases z:b=i
    ·rw[z,Zb,n]
    ·rw[Zc z]
   rw[V]at A;exact(.non,l,A,rfl,q)
universe E
section
variable {X:Cx} {ai:À (ae×aN)} {σ:St} {H:Hp} {s:aj}
theorem Inv.untrack{e:ae}{f:aI->Prop}(I:ä)(hx:H e=U (.ext f)):Inv X ai σ (off e H) s:=by
 have nn:∀ {b:ae},H b=af->off e H b=af:=λh=>ZqL h;have ne:∀ {b:ae} {o:HO},H b=U o->o≠.ext f->b≠e:=λh n z=>by rw[z,hx]at h;cases h;exact n rfl
 refine(ζ,I.os,Λ,(ÈY,È0,λb o d n x=>nn (ÆG b o d n x),Òg,λb g h=>?_,λb o u h=>?_,λb i h=>?_),Š,Àd,nn ε,λx c j=>nn (ÀC x c j),λp k=>?_,λa u l=>?_,ÀB)
 ·have:=ËQ b g h;exact Vt this ÒC
 ·have:=È2 b o u h;exact Vt this ÒC
 ·obtain Ę|this:=ËS b i h;exact(Ę,Vt this ÒC)
 ·obtain m|r|t:=Àe p k;exact(m,nn r,t)
 ·exact(ê a u (Zvb a u l)).stay (λ_ _ _ q=>q) (λb d=>Vt d (ne d ÁL)) λb g d=>Vt d (ne d ÁL)
universe E
section
variable {M:ÀV} {A:aD} {E:aa->aj->Prop} {env:Env}
theorem Kk{s:aj}{x:Sem aa}{Q:#[hy,Flow]}(w:Á9)
  (h:ar M A x (λv a=>∃ (e C T:ae) (c:Ã ae) (nm q:ak) (N:ae) (bs b:À aa) (f:Ï) (i:À ak) (sub:À aa) (j:Ï) (k:Ã Ï) (l:Ã ae) (m n o p r:Ã aa) (t:ŋ),
   v=.ref e/\a.heap.get? C=U (Às nm q C N bs b f i sub j k l m n o p r t)/\b.contains ÀI=true/\a.heap.get? e=U { cls:=.ref C,ο:=c,Ó:=.fields Ân }/\E Ś a) E s) :
  ar M A (raiseStmt env (U x) af) Q E s:=by
 unfold raiseStmt;refine ah (ba h #[hU,v,a,y] λ_ _ x=>x);obtain e|C|T|c|nm|q|N|bs|b|f|i|sub|j|k|l|m|n|o|p|r|t|rfl|u|z|B|D:=y;rw[gw,hp,tk,a];have F:#[ik,C,b]:=by rw[QN,z,Qas]
 repeat (first|with_reducible refine Ρ B ?_|with_reducible refine Ρ u ?_|(with_reducible refine Áh u ?_;rw[F])|wp_step)
 exact wpAny_raiseNew_none w D
universe E
def Kj(C:ae)(sp:Sp)(E:St->XK)(t:TA):TS:=λ_ a H=>t a H λvs b=>∀e,b e=af ->
 sp (.ref e::vs) (upd b e ÇH) (λv c=>v=.non/\∃d,c e=U (exN e C d)/\E a æ d (off e c)) λ_ _ _=>ė
section
variable {X:Cx} {E:St->XK} {k:Nat} {f C B:ae} {fd:bA} {ps:À ak} {sp:Sp} {x:ak} {p pos br:Pos} {e:aK} {es:À aK} {t:TA}
theorem Zws{m:Ć}{n:St}{H:Hp}{s:aj}{us:å}{vs:Ė}{Q:Hp->Ã ae->ae->Prop}(M:XM X.K C B f)(F:ÙI)(hr:Éy)(hb:ÍI)(jA:ÒD)
  (I:Inv X m n H s) (r:ZG vs us) (h:∀e,H e=af->sp (.ref e::vs) (upd H e ÇH) (λv i=>v=.non/\∃c,i e=U (exN e C c)/\Q i c e) λ_ _ _=>ė) :
  ô (Ĵ æ us) (λu s'=>X3 λe c i=>u=.ref e/\Ð<=e/\Inv X m n i s'/\i e=U (exN e C c)/\Q i c e) è s:=by
 have p:=h ũ Ìo;obtain nm|q'|N|bs|sn|sub|ab|bX|dq|k0|k1|k2|k3|k5|x:=M.obj;have q:ZG (ù ũ::vs) ÕW:=.cons rfl r;have t:(ÕW).length=ÀF:=by have e:=q.length;rw[F.len _ _ _ _ p]at e;exact Ã3
 rw[gw,j,tk,s];refine ZwC Ġ (Ġ _ _ x) M.init M.fn (λh' T y A=>?_) (by rw[QA]at t;rw[(aO)];lia);have o:Inv X m n (upd H ÊC (exN ÊC C af)) #[f8,h',tk]:=ÀY (a:=j.objs.size+1) (h':=h') (t':=tk) (λb u z=>y b u z) (QV _) (SA A);have w:=hb _ (á ÊC::us) o.kIn #[ei,Qab,t];rw[Qab]at w;refine Än (Æ5 (F.run _ Κ _ _ (á ÊC::us,[]) (á ÊC::us) _ _ ÌA (hr.make C us [])
  (o.env0.make C us []) w q p) λr s' l=>?_)
 cases r with
 | error e=>exact ÍN
 | ok D =>
  cases D with
  | ret u=>obtain v|E|G|J|K|c|L|O:=o.after l;subst K;exact(J,_,c,E,rfl,QV _,G,L,O)
  | next=>exact ÍN
  | brk=>exact ÍN
  | Μ=>exact ÍN
theorem Zoj(M:XM X.K C B f)(F:ÙI)(hr:Éy)(hg:Ō)(hm:Ìp)(hb:ÍI)(jA:ÒD)(hx:#[ft,Z])
  (ha:Àk) (cJ:Ĩ:=by decide) (he:θ:=by rfl) (cV:Ìy:=by rfl) :
  PS X ÒE (Kj C sp E t):=by
 rw[e3,ai,l,D];rw[o5];refine ah (ba (Q:=λv i=>∃ (b n T:ae) (di:Ã ae) (w q:ak) (N:ae) (bs bm:À aa) (cL:Ï) (A:À ak) (sub:À aa) (G:Ï) (J:Ã Ï) (d:Ã ae) (K L O P R:Ã aa) (bH:ŋ),
   v=.ref b/\ÒF n=U (Às w q n N bs bm cL A sub G J d K L O P R bH)/\Òw ÀI=true/\ÒF b=U { cls:=.ref n,ο:=di,Ó:=.fields Ân }/\è Â1 i) (bi (W7 I hg hm ?_ cJ)) ÙJ λ_ _ x=>x)
 refine Qad (h₀:=Œ) Äp M.kp (thn (ha br ai s l H _ I h) λus i a=>?_) he cV;obtain vs|H1|g|r|q:=a;refine(g.kIn,thn (Zws (Q:=λS d e=>E l æ d (off e S)) M F hr hb jA g r q) λu s2 z=>?_);obtain b|d|S|rfl|j|V|rO|q2:=z;obtain w|q'|N|bs|A|sub|G|J|dq|K|L|O|P|R|lC:=M.obj;obtain ⟨T,ho⟩|_|_:=V.hok b _ rO;have W:∀a o,ÒF a=U o->a≠b:=λa o ha z=>by have:=Qr ha;rw[hi,z,j]
 refine(b,C,T,d,w,q',N,bs,.ref B::Yv,true,A,sub,G,J,dq,K,L,O,P,R, "ValueError.__new__",rfl,V.kIn _ _ lC,by rw[QN,FV.hasBase,Qas],ho,hx _ _ ?_);refine(b,.ref C,d,ai,l,off b S,rfl,Qk g.sz j,λz=>?_,λy c hc z=>?_,by unfold off;rw[Æ rfl],V.untrack rO,λp hp z=>?_,.inl (_,_,ho,rfl,rfl,rfl,rfl),q2)
 ·rw[iG,Y,g.loc,W]
 ·obtain v|o|Y|_:=g.cell y c hc;exact W _ _ Y z
 ·exact W _ _ (g.pin p hp).1 z
universe E
structure XG (K:Å) (C:ae):Prop where
 ga:Ī K æ "__getattribute__" = U ÙK
 gh:Ī K æ "__getattr__" = U af
 sb:ÊD K æ ÀI=U true
 hd:Ðs K C=true
 ca:Ī K æ "__class__" = U (U ÇK)
 hm:PySem.W.mroIn K C ÍK=U true
universe E.L2
namespace L2
open PySem PySem.Spec PyProof.Rows
section
variable {X:Cx} {ai:À (ae×aN)} {σ:St} {H:Hp} {s:aj} {e C:ae} {dd:Ã ae}
theorem UP{x:ak}{pos:Pos}{C:ae}(hm:Ìp)(a:Ō:=by rfl)(b:Ĩ:=by decide):PE X ÀW (tC æ) :=
 λ_ _ _ H _ I h=>W7 I a hm (.ref C,H,I,rfl,h) b
universe E
structure D1f (P:ay) (w:aF) (K:Å) (mg:Ā) (Â:aI) (k:Nat) (x:ak) (ps:Ñ) (sp:Sp):Prop where
 ex:X2 λf fd=>YY P w K mg Â (CX1 P w) k f fd ps sp/\mg x=U Ċ/\Áb K Ċ=true/\YB K fd ps []
structure C1f (P:ay) (w:aF) (K:Å) (mg:Ā) (Â:aI) (k:Nat) (C:ae) (x:ak) (ps:Ñ) (sp:Sp):Prop where
 ex:X2 λf fd=>YY P w K mg Â (CX1 P w) k f fd ps sp/\Mk K C f/\YB K fd ps []/\mg x=U æ
structure Xf (P:ay) (w:aF) (K:Å) (mg:Ā) (Â:aI) (k:Nat) (C B:ae) (x:ak) (ps:Ñ) (sp:Sp):Prop where
 ex:X2 λf fd=>YY P w K mg Â CX0 k f fd ps sp/\XM K C B f/\YB K fd ps []/\mg x=U æ
structure UO (K:Å) (mg:Ā) (C B:ae) (x aY:ak) (st:aM) (ps:Ñ):Prop where
 ex:X2 λf fd=>Fun K "__init__" aY st f fd/\XM K C B f/\YB K fd ps []/\mg x=U æ
section
variable {P:ay} {w:aF} {K:Å} {mg:ak->Ã aa} {Â:aI}
theorem UO.xf{C B:ae}{x c:ak}{st:aM}{N ps:Ñ}{k:Nat}{sp:Sp}(T:UO K mg C B x c st ps)(S:Äu)(len:Ãx)
  (d:∀ (a:aa) (f:ae) (A:aD) (Ü:À Env) (s:aj) (H:Hp) (vs:À V) (Q:VK) (E:XK),Zt k Íw->XM K C B f->sp vs H Q E ->
   ∃t,PSs #[b4].nox ÂL t/\t { nx:=λ_ e=>Q .non e,rt:=Q } ÁD H):Xf P w K mg Â (k+1) C B x ps sp:=by
 obtain f|i|F|m|b|g:=T.ex;exact(f,i,F.ok S len (λa A Ü s H vs Q E j h=>d a f A Ü s H vs Q E j m h),m,b,g)
theorem UO.cls{C B:ae}{x a:ak}{st:aM}{ps:Ñ}(T:UO K mg C B x a st ps):WR K C Êz:=by obtain f|fd|F|m|b|g:=T.ex;exact m.xc.cls
abbrev cx1(P:ay)(w:aF)(K:Å)(mg:Ā)(Â:aI)(N:Ñ)(a:ak)(b:bh)(f:ae)(c:aa)(A:aD)(Ü:Á2)(s:aj)(H:Hp)(E:XK):Cx :=
 (XH (CX1 P w) P w K mg Â N a b f c A Ü s H E).wish (XE #[hu,a,b,c] (λ_=>E))
theorem Top.df1{x:ak}{st:aM}{N ps:Ñ}{k:Nat}{sp:Sp}(T:Top K mg x st ps)(S:Äu)(len:Ãx)
  (c:∀ (a:aa) (f:ae) (A:aD) (Ü:À Env) (s:aj) (H:Hp) (vs:À V) (Q:VK) (E:XK),Zt k #[fG,x]->sp vs H Q E ->
   ∃t,PSs (cx1 P w K mg Â N x (Zg st) f a A Ü s H E) ÂL t/\t { nx:=λ_ d=>Q .non d,rt:=Q } ÁD H):D1f P w K mg Â (k+1) x ps sp:=by
 rw[sN,e];exact(f,e,F.ok1 S len #[eV,g,c],m,F.kp,b)
universe E
section
variable {X:Cx} {E:St->XK} {k j:Nat} {C B:ae} {x:ak} {ps:À ak} {sp:Sp} {e:aK} {es:À aK} {t:TA} {p pos br:Pos}
theorem Sz(F:#[ir,D1f])(hx:#[ft,a])(hr:Âf)(ha:Àk)(c:k<=j:=by decide)(d:Ō:=by rfl)(g:Ĩ:=by decide)
  (h:θ:=by rfl) (i:ÁB:=by rfl) :
  PE X Äo (Ku sp E t):=by
 rw[iM,m,l,b];exact ZqW F (Äh c) d m l b hx ha g h i
theorem Zwc(F:Xf ö X.w X.K ğ Œ k C B x ps sp)(hx:#[ft,a])(hr:Âf)(ha:Àk)(c:ÒD:=by decide)(d:k+1<=j:=by decide)(h:Ō:=by rfl)(i:Ĩ:=by decide)
  (l:θ:=by rfl) (m:Ìy:=by rfl) :
  PS X ÒE (Kj C sp E t):=by
 rw[iM,g,b,n];exact Zoj g F (Äh d) h n b c hx ha i l m
universe E
section
variable {K:Å} {C D:ae}
theorem Sy:đ K æ æ=U true:=by unfold đ;rw[Æ Ö]
theorem Sx(h1:#[gc,D])(h2:#[rL,π])(a:#[gN,æ,D]):đ K æ π=U true:=by
 unfold đ;split
 ·rfl
 ·unfold ÒG;have b:ÙL:=h1;dsimp only;rw[b,h2,Æ È];exact a
theorem WQ(h1:#[gc,D])(h2:#[rL,π])(a:ÊD K æ π=U false)(b:#[eP,æ,æ]):đ K æ π=U false:=by
 have ne:C≠D:=λz=>by subst z;rw[fX,a,b,b]
 unfold đ;rw[Ç (by simp[ne])];unfold ÒG;have c:ÙL:=h1;dsimp only;rw[c,h2,Æ È];exact a
theorem Sw(h:#[eP,æ,Âo]):đ K æ Âo=U true:=by unfold đ;rw[Ç (λz=>by cases z)];unfold ÒG;dsimp only;rw[Æ ú];exact h
universe E
universe E.L2
namespace L2
open PySem PyProof.Rows
section
variable {ñ:ay} {w:aF} {A:aD} {E:aa->aj->Prop} {h:aI} {g:ā Ão} {d:År} {t:Nat} {os:Êw} {K:Å}
variable {nm q:ak} {C N B:ae} {bs:À aa} {cL:Ï} {sn:À ak} {sub:À aa} {ab:Ï} {bX:Ã Ï} {dd:Ã ae} {k0 k1 k2 k3 k5:Ã aa}
theorem Zmm{u:aa}{Q:#[hy,Fin]}(X:Ŵ h)(c:Å4)(m:#[fw,æ,ÄQ])
  (hq:∀h' T,ÍL->ÿ ÃM=U { cls:=.ref C,Ó:=.fields Ân }->Q (.done (.ret ÇJ)) #[f8,h',t]) :
  ar Ô A (aS.«type.__call__» ([.ref C,u],[])) Q E τ:=by
 repeat (first|with_reducible refine Ρ c ?_|with_reducible refine Òx c ?_|wp_step)
 refine Ùs Ùt (Ko c ?_);refine Kn FV Ùu Ùv Ùw c ?_ #[gZ,1];show ar _ _ _ _ _ _;generalize i:Çr { cls:=.type "tuple",Ó:=.seq [u].toArray }=e;have n:e.objs.size=ĺ+1:=by rw[<- i];exact Q1 _ _
 have k1:#[sc,e.get?]:=λb o a=>by rw[<- i];exact Qc _ a
 generalize j:e.push { cls:=.ref C,Ó:=.fields #[.ref ĺ,.none,.none,.none,.bool false,.none] }=f;have k2:#[sc,ÊA]:=λb o a=>by rw[<- j];exact Qc _ (k1 b o a)
 have k:ÊA ÃM=U { cls:=.ref C,Ó:=.fields Òz }:=by rw[<- j,<- n];exact Ùx
 have l:=k2 _ _ c;have X2:Ŵ f:=X.keeps k2;have p:Ùy:=by simp
 unfold Ñv;repeat (first|with_reducible refine Ρ k ?_|(with_reducible refine Áh l ?_;rw[p])|wp_step)
 rw[lD];refine aT (ah (wpAny_of_eq (FV.init.bind _) ?_));refine ah (Km l k ?_);rintro h' r ⟨s,v⟩
 wp_walk
 exact hq h' s (λb o a=>r b o (λz=>by have:=Qr a;rw[z]at this;exact ÙM) (k2 b o a)) v
theorem Zwf{u:aa}{Q:ð}(X:Ŵ h)(a:Å4)(c:#[fw,æ,ÄQ])
  (hq:∀h' T,ÍL->ÿ ÃM=U { cls:=.ref C,Ó:=.fields Ân }->Q ÇJ #[f8,h',t]) :
  ar Ô A (Ĵ æ [u]) Q E τ:=by
 rw[90];repeat (any_goals (first|assumption|with_reducible refine Ρ a ?_|wp_step))
 refine(rfl,Ñ6 Ùz entry_typeCall (ÙA a (Zmm X a c λh' T k e=>hq h' T k e)))
universe E
structure XW (K:Å) (mg:Ā) (C B:ae) (x:ak):Prop where
 obj:X14 λ(nm q:ak) (N:ae) (bs:À aa) (sn:À ak) (sub:À aa) (ab:Ï) (bX:Ã Ï) (dd:Ã ae) (k0 k1 k2 k3 k5:Ã aa) =>
  Ļ C=U ÙG
 init:Ī K æ "__init__" = U (U ÄQ)
 kp:Áb K æ=true
 m:mg x=U æ
theorem XW.cls{K:Å}{mg:Ā}{C B:ae}{x:ak}(c:XW K mg C B x):WR K C Êz:=by obtain a|q|N|bs|b|sub|d|e|f|g|i|j|k|l|h:=c.obj;exact(a,q,N,bs,_,b,sub,d,e,f,g,i,j,k,l,_,h)
def Ztm(C:ae)(E:St->XK)(t:TA):TS:=λ_ a H=>t a H λvs b=>∃x,vs=[.str x]/\E a æ af b
section
variable {X:Cx} {E:St->XK} {k j:Nat} {C B:ae} {x m:ak} {ps:À ak} {sp:Sp} {p bv pos br:Pos} {e o:aK} {es:À aK} {ta:TE} {t:TA}
theorem Ki(M:XW X.K ğ C B x)(hx:#[ft,ev])(hr:Âf)(ha:Àk)(hg:Ō:=by rfl)(cJ:Ĩ:=by decide)
  (he:θ:=by rfl) (cV:Ìy:=by rfl) :
  PS X ÒE (Ztm C E t):=by
 rw[e3,n,w,D];rw[o5];refine ah (ba (Q:=λv k=>∃ (A F T:ae) (di:Ã ae) (G q:ak) (N:ae) (bs bm:À aa) (cL:Ï) (J:À ak) (sub:À aa) (K:Ï) (L:Ã Ï) (dd:Ã ae) (O P R S V:Ã aa) (bH:ŋ),
   v=.ref A/\k.heap.get? F=U (Às G q F N bs bm cL J sub K L dd O P R S V bH)/\Òw ÀI=true/\k.heap.get? A=U { cls:=.ref F,ο:=di,Ó:=.fields Ân }/\è (.ref A) k) (bi (W7 I hg M.m ?_ cJ)) ÙJ λ_ _ x=>x)
 refine Qad (h₀:=Œ) Äp M.kp (thn (ha br n s w H _ I h) λus k a=>?_) he cV;obtain vs|l|i|r|y|rfl|q:=a;obtain u|rfl|ru:=r.one;obtain G|q'|N|bs|J|sub|K|L|dq|O|P|R|S|V|lC:=M.obj;rw[gw,f,tk,k];refine(i.kIn,Zwf i.kIn (i.kIn _ _ lC) M.init λh' T kp W=>?_);have hn:l ÍO=af:=i.hok.fresh (QV _);have I2:Inv X n w ÙN #[f8,h',tk]:=i.laid (a:=ÁK+1) (h':=h') (t':=tk) (λb u z=>kp b u z) (QV _) (SA W);have I3:=I2.untrack (e:=ÁK+1) Zb;have eH:off ÍO ÙN=l:=by
  funext b;unfold off;by_cases z:b=ÁK+1
  ·rw[Æ z,z,hn]
  ·rw[Ç z,Zc z]
 rw[eH]at I3;have Y:∀a o,ÊA a=U o->a≠ÁK+1:=λa o ha z=>by have:=Qr ha;rw[z]at this;exact ÙM
 refine(ÁK+1,C,T,af,G,q',N,bs,.ref B::Yv,true,J,sub,K,L,dq,O,P,R,S,V, "ValueError.__new__",rfl,kp _ _ (i.kIn _ _ lC),by rw[QN,FV.hasBase,Qas],W,hx _ _ ?_);refine(ÁK+1,.ref C,af,n,w,l,rfl,Qk i.sz (QV _),λz=>?_,λy c hc z=>?_,hn,I3,λp hp z=>?_,.inl (_,_,W,rfl,rfl,rfl,rfl),q)
 ·rw[iG,Z,i.loc,Y]
 ·obtain v|o|Z|_:=i.cell y c hc;exact Y _ _ Z z
 ·exact Y _ _ (i.pin p hp).1 z
structure M1f (P:ay) (w:aF) (K:Å) (mg:Ā) (Â:aI) (k:Nat) (C:ae) (m:ak) (ps:Ñ) (sp:Sp):Prop where
 ex:X2 λf fd=>YY P w K mg Â (CX1 P w) k f fd ps sp/\U0 K C m f/\YB K fd ps []
def ZuV(C:ae)(m:ak)(sp:Sp)(E:St->XK)(ta:TE)(t:TA):TE:=λa H Q=>ta a H λx b=>RMt C m x b (t a b λvs c=>sp (x::vs) c Q (E a))
theorem UN{pl:Sem Ï}(F:#[fT,M1f,m])(c:Äg)(hx:#[ft,d])(hr:Âf)(he:Ãu)(ha:Àk)(y:k<=j:=by decide)
  (z:θ:=by rfl) (A:ÁB:=by rfl)
  (B:ă Æ6 Ì=(do
   let g <- ă o Ì
   Ã5 Æ7
   let (f,first) <- Át [g] (Äe g m pl)
   Æ8 pos f first (bo pos Éx) Æ9):=by rfl) :
  PE X Æ6 (ZuV C m sp E ta t):=by
 obtain f|fd|F|i|b:=F.ex;rw[r1,n,p,B];rw[gU,D,G,v,J,K];refine Rg v K c i l ?_;refine Qad (first:=η) (h₀:=Œ) Äp i.kp (thn (ha pos n D p G _ v q) λus s2 ⟨vs,H2,w,r,L⟩=>(w.kIn,?_)) z A;exact Kv (us:=.ref a::us) (vs:=.ref a::vs) F (Äh y) b hx w (.cons rfl r) L
universe E
theorem Yj.mf1{P:ay}{w:aF}{K:Å}{mg:Ā}{Â:aI}{C:ae}{m c:ak}{st:aM}{N ps:Ñ}{k:Nat}{sp:Sp}(T:Yj K C m c st ps)(S:Äu)(len:Ãx)
  (d:∀ (a:aa) (f:ae) (A:aD) (Ü:À Env) (s:aj) (H:Hp) (vs:À V) (Q:VK) (E:XK),Zt k Íw->sp vs H Q E ->
   ∃t,PSs (cx1 P w K mg Â N c (Zg st) f a A Ü s H E) ÂL t/\t { nx:=λ_ e=>Q .non e,rt:=Q } ÁD H):M1f P w K mg Â (k+1) C m ps sp:=by
 rw[sN,g];exact(f,g,F.ok1 S len #[eV,i,d],m,b)
def Zvs(i j l:Nat)(b:TA):TS:=λD a H=>b a H λvs c=>X3 λv w z=>vs=[v,w,z]/\č (((a.set l (U z)).set j (U w)).set i (U v)) c
theorem Zsy{X:Cx}{pos:Pos}{i j l:Nat}{x y z:ak}{a b c:aK}{C:TA}{m n r pt:Pos}{kt t A}(hc:Ŏ)(B:Ã4)(J:ÂE)(K:X.N[j]? = U y)(hl:X.N[l]? = U z)
  (hx:#[fZ,x]) (hy:#[fZ,y]) (hz:#[fZ,z]) (ha:PA X [a,b,c] C)
  (hw:Ï5 ÒH ÒI Ì=pure (U [x,y,z]))
  (hs:Ï4 ÒH ÒI ÆP Ì=pure false:=by rfl) :
  PS X (.Assign ÒH ÒI pos) (Zvs i j l C):=by
 rw[e3,E,F,D];rw[jz];refine ah (Tuple_ (thn (ha _ E s F H _ I h) λL d a=>?_));obtain vs|G|M|N|v|w|u|O|P:=a;subst O;obtain⟨f,g,k,rfl,Q,R,S⟩:X3 λf g k=>L=[f,g,k]/\ZE v f/\ZE w g/\ZE u k:=by
  cases N with
  | Î p q =>
   cases q with
   | Î T V =>
    cases V with
    | Î W Y=>cases Y;exact(_,_,_,rfl,p,T,W)
 refine bz ?_ ÁM;have Z:Inv X E F G { d with Õ:=d.heap.push { cls:=.type "tuple",Ó:=.seq [f,g,k].toArray } }:=M.kept (t':=d.toks) λb o e=>Qc _ e;rw[hw];rw[ok];show ô (do rule "assign.swapped-stores";let œ <- Ë2 (.ref d.heap.objs.size) 3 af;Éa ÙO items.reverse;pure Ë3) _ _ _;refine ah (Ãr (ah (Õj (œ:=#[f,g,k]) Áv (Ï8 d.heap _) λh' bV=>?_)));have I3:=Z.kept (h':=h') (t':=d.toks) λb o e=>bV b o ÆR e;show ar _ _ (Éa ÙO [k,g,f] >>= λ_=>pure Ë3) _ _ _;refine ah (Åw (Éd (V7 I3 B hl (.inl hz) S (λs2 I4=>?_) (.inr hz))));refine Åw (Éd (V7 I4 B K (.inl hy) R (λs3 I5=>?_) (.inr hy)));refine Åw (Éd (V7 I5 B J (.inl hx) Q (λs4 I6=>Ë1 (av ?_)) (.inr hx)));exact(_,G,I6,P)
universe E.L2
namespace L2
open PySem PySem.Builtin PySem.Builtin.Str PyProof.Rows
def Zvd:V->À V->Hp->VK->Prop:=λx vs H Q=>X2 λz y:ak=>x=.str z/\vs=[.str y]/\(ů == 0)=false/\Ľ<=aq/\(ÁN z y).length<=aq/\∀a,H a=af->Q ĩ (upd H a (.lst ÒJ))
section
variable {X:Cx}
theorem Kh(k:Nat):∀ys:À ak,ZG ÉU ((numbered k ys).map λp=>Ár p.1 p.2)
 | []=>.nil
 | y::r=>by show ZG (Ä y::Âm Ä) (Ár y k::(numbered (k+1) r).map λp=>Ár p.1 p.2);exact .cons ü (Kh (k+1) r)
theorem Kg:MtR X "str.split" Zvd:=by
 intro n s p H x vs v us Q I r w h;obtain z|y|rfl|rfl|i|d|j|q:=h;rw[tj,r];obtain u|rfl|A:=w.one;rw[eN,f,A];have one:∀ (k:Nat),[z]=ÁN z y->X2 λl m=>Inv X n p m { s with î:=k,Õ:=Àf { cls:=.type "list",Ó:=.seq #[.str z t] } }/\ZE l Åz/\Q l m:=λk e=>by refine(.ref Ð,_,ÀY (t':=k) (o:=.lst ÒJ) #[ii,b,o,g] ç ?_,rfl,q _ Ãw);rw[<- e];exact(by show 1<=aq;decide,[.str z t],_,.cons ü .nil,Qt _ rfl)
 cases a:(decide (Ľ<ů)||decide (strKind z<strKind y))
 ·cases c:(ÍP z y 0 Ľ (Ľ+1)).isEmpty
  ·have e:ÁN z y=ÒK z (ÍP z y 0 Ľ (Ľ+1)) ů:=#[rc].trans (Ç (ÙP c));refine Çi ÒL ÒM ÒN ÒO (meets_str_split_sep z y t f a i c d #[eS,e,j]) ?_;refine(.ref Ð,_,ÀY (t':=ń+(ÙQ).length) (h':=Àf { cls:=.type "list",Ó:=.seq (strsFrom ń ÙQ).toArray }) (o:=.lst ÒJ) #[ii,b,o,g] ç ?_,rfl,q _ Ãw);refine(by rw[Qa];exact j,strsFrom ń ÙQ,_,?_,Qt _ rfl);rw[strsFrom_eq,e];exact Kh _ _
  ·exact Çi ÒL ÒM ÒN ÒO (meets_str_split_not_found z y t f a i c) (one _ (#[rc].trans (Æ c)).symm)
 ·exact Çi ÒL ÒM ÒN ÒO (meets_str_split_cannot_occur z y t f a) (one _ (Æ a).symm)
universe E
def gl(c:Nat):À (À Nat)->À Nat
 | []=>[]
 | [a]=>a
 | a::b::r=>a++c::gl c (b::r)
theorem Kf{c:Nat}:∀ {xs ys:À (À Nat)},xs≠[]->ys≠[]->(∀a∈xs,c ∉ a)->(∀a∈ys,c ∉ a)->gl c xs=gl c ys->xs=ys
 | [],_,h,_,_,_,_=>Ê rfl h
 | _,[],_,h,_,_,_=>Ê rfl h
 | [a],[b],_,_,_,_,e=>by rw[show a=b from e]
 | [a],b::b2::r,_,_,ha,_,e=>by have e':a=b++c::gl c (b2::r):=e;exact Ê #[sS,e'] (ha a Ö)
 | a::g::q,[b],_,_,_,f,e=>by have e':a++c::gl c (g::q)=b:=e;exact Ê (by rw[<- e'];simp) (f b Ö)
 | a::g::q,b::b2::r,_,_,ha,f,e=>by
  have e':a++c::gl c (g::q)=b++c::gl c (b2::r):=e;have cut:∀ (x y u v:À Nat),c ∉ x->c ∉ y->x++c::u=y++c::v->x=y/\u=v:=λx=>by
   induction x with
   | nil =>
    intro y u v _ i h;cases y with
    | nil=>exact(rfl,by injection h)
    | Î z y=>injection h with d _;exact Ê #[sS,d] i
   | Î w x l =>
    intro y u v k i h;cases y with
    | nil=>injection h with d _;exact Ê (by rw[<- d];simp) k
    | Î z y=>injection h with d n;obtain o|p:=l y u v (λm=>k (Qm _ m)) (λm=>i (Qm _ m)) n;exact(by rw[d,o],p)
  obtain s|t:=cut _ _ _ _ (ha a Ö) (f b Ö) e';rw[s,Kf Ö Ö (λz j=>ha z (Qm _ j)) (λz j=>f z (Qm _ j)) t]
theorem Pt(c:Nat):∀ws:À ak,(ÒQ).cps.toList=gl c (ÁO λw=>ÇL)
 | []=>rfl
 | [a]=>by simp[Àt,gl]
 | a::b::r=>by
  have ih:=Pt c (b::r);have e:(Àt ź (a::b::r)).cps.toList=ÒP++c::(Àt ź (b::r)).cps.toList:=by show ((a++(ź:ak))++Àt ź (b::r)).cps.toList=_;show ((a.cps++#[c])++(Àt ź (b::r)).cps).toList=_;simp
  rw[e,ih];rfl
theorem Ke{c:Nat}{ws:Ñ}(h0:ws≠[])(h:∀w∈ws,c ∉ ÇL):ÁN (ÀJ ź ws) ź=ws:=by
 have e:ÀJ ź ws=Àt ź ws:=by simpa using ÊE ź ws
 rw[e];have d:=StrLaws.join_split ÒQ ź;have f:=StrLaws.split_free ÒQ c;have g:ÁN ÒQ ź≠[]:=λz=>by
  unfold ÁN at z;split at z
  ·cases z
  ·split at z
   ·cases z
   ·unfold ÒK at z;revert z;cases ÍP (Àt ⟨#[c]⟩ ws) ⟨#[c]⟩ 0 (Àt ⟨#[c]⟩ ws).length ((Àt ⟨#[c]⟩ ws).length+1)<;>simp
 generalize ÁN (Àt ⟨#[c]⟩ ws) ⟨#[c]⟩=zs at d f g;have i:=ō (λx:ak=>Êc) d;simp only[Pt]at i;have:=Kf (c:=c) (xs:=zs.map λw=>ÇL) (ys:=ÁO λw=>ÇL) #[eg,g] #[eg,h0] (λa b=>by obtain w|hw|rfl:=Ħ b;exact f w hw) (λa b=>by obtain w|hw|rfl:=Ħ b;exact h w hw) i;have inj:∀ (xs ys:À ak),ÆC (λw=>ÇL)=ys.map (λw=>ÇL)->xs=ys:=λxs=>by
  induction xs with
  | nil=>intro ys h;cases ys with
   | nil=>rfl
   | Î=>cases h
  | Î x r j =>
   intro ys h;cases ys with
   | nil=>cases h
   | Î y q=>injection h with k l;rw[j q l,show x=y from by obtain⟨x⟩:=x;obtain⟨y⟩:=y;exact ō ak.mk (Ør k)]
 exact inj _ _ this
structure KD (K:Å) (w:aF) (a:ae):Prop where
 at':X2 λ(es:ā Ð3) (n:Nat)=>Ļ a=U #[hv,es,n]/\ÍQ ÊF es.toList
 lo:Ãm=false
def Zwn(K:Å)(w:aF):R2:=λx y H Q=>X4 λa s v u=>x=.ref a/\y=.str s/\KD K w a/\ĵ K a s=U (U u)/\ZE v u/\Q v H
def Zwi(K:Å)(w:aF)(b:Ï):R2:=λy x H Q=>X3 λa s r=>x=.ref a/\y=.str s/\KD K w a/\ĵ K a s=U r/\Q (.bl (if b then !r.isSome else r.isSome)) H
section
variable {X:Cx} {K:Å} {w:aF}
theorem Ps(d:X.K=K:=by rfl)(hw:X.w=w:=by rfl):IxR X (Zwn K w):=by subst d;subst hw;intro Àh fX ai s σ H x y v u Q I f g h i;obtain a|z|j|u'|rfl|rfl|D|e|r|q:=h;cases f;obtain t|rfl:=g;obtain es|n|b|k:=ĝ;have c:=ÙR (ñ:=ö) Ġ b k;exact KC ÌQ Ø4 i (ØE ÙS c (PySem.W.find_K b e) (j,H,š _,r,q))
theorem Zsm(c:X.K=K:=by rfl)(hw:X.w=w:=by rfl):OpR X (aQ .NotIn) (Zwi K w true):=by subst c;subst hw;intro ai s σ H x y v u Q I d f h;obtain a|z|r|rfl|rfl|D|e|q:=h;cases f;obtain t|rfl:=d;obtain es|n|b|g:=ĝ;exact wpAny_notIn_of ÙS D.lo (ÙR (ñ:=ö) Ġ b g) (by rw[PySem.W.find_K b e];exact(.bl (!r.isSome),H,š _,rfl,q))
universe E
structure Fv (P:ay) (w:aF) (K:Å) (mg:Ā) (Â:aI) (k:Nat) (f:ae) (sp:Sp):Prop where
 ex:X2 λfd ps=>YY P w K mg Â CX0 k f fd ps sp/\Áb K Ċ=true/\YB K fd ps []
def Zun(P:ay)(w:aF)(K:Å)(mg:Ā)(Â:aI)(k:Nat)(b:TE)(t:TA):TE:=λa H Q=>b a H λv c=>X2 λf sp=>v=.ref f/\Fv P w K mg Â k f sp/\t a c λvs d=>sp vs d Q λ_ _ _=>ė
theorem Zrx{X:Cx}{k j:Nat}{x:ak}{p pos:Pos}{e:aK}{c:ĳ}{d:TE}{t:TA}(n:PE X (.Name x p) d)(hr:Âf)(ha:PA X (e::c) t)(o:k<=j:=by decide)
  (u:aG (e::c) Ì=Ét::aG c Ì:=by rfl) (w:(bo pos (aG c Ì)).any ó=false:=by rfl) :
  PE X (.Call (.Name x p) (e::c) [] pos) (Zun ö X.w X.K ğ Œ k d t):=by
 rw[e3,g,i,Q];refine bi (thn #[eE,n,g,i] λv z a=>?_);obtain y|A|l|B|f|sp|rfl|F|q:=a;cases B;obtain fd|ps|F|C|b:=F.ex;refine Qad (h₀:=Œ) l.ok.mod.kin C (thn (ha pos g z i A _ l q) λus s2 ⟨vs,H2,m,r,q⟩=>(m.kIn,?_)) u w;exact Uj (dvs:=[]) F (Äh o) b .nil Vy m r #[ei,Qab,q]
universe E.L2
namespace L2
open PySem PyProof.Rows
section
variable {ñ:ay} {w:aF} {A:aD} {E:aa->aj->Prop} {s:aj} {env:Env}
theorem Kd{e:ae}{t:aK}{a:aM}{d:Γ}{pos:Pos}{Ă:À ExceptHandler}{Q:#[hy,Flow]}
  (h:ar Ô ÍR (ă t env) (λc g=>ar Ô ÍR (Êx Ś c) (λb i=>b=true /\
   ar Ô ÍR (Òq Ś af) (λ_ j=>ar Ô ÍR (execs (a::d) env) (λf k=>Q f k)
    (λ_ _=>ė) j) ÉT i) ÉT g) ÉT s) :
  ar Ô A (handleBy Ś env (.ExceptHandler (U t) af (a::d) pos::Ă)) Q E s:=by
 refine wpAny_handleBy_cons (codeAny_handlers_test (ba h (λc g l=>ba l #[hU,b,i,m] λ_ _ x=>x.elim) λ_ _ x=>x.elim)) (by intro q;cases q);obtain rfl|n:=m;exact codeAny_handlers_suite (ba n (λ_ j o=>ba o (λf k p=>p) λ_ _ x=>x.elim) λ_ _ x=>x.elim)
universe E
def Kc(K:Å)(b:ae)(c:TS)(D:XS):St->XK:=λd cls dd H=>X2 λC a=>cls=.ref C/\WR K C a/\#[oT].contains Â1=true/\c { nx:=č,rt:=D.rt } d H
def Zwd(K:Å)(a:ae)(b:ÍS)(c:TS):TS:=λD d H=>b (Kc K a c D) D d H
section
variable {X:Cx}
theorem Zr4{x:ak}{np i0 pos:Pos}{K:Γ}{L:aM}{O:Γ}{j:ae}{P:å}{Q:ÍS}{l:TS}
  (hb:∀ (d:À (ae×aN)) (E:St->XK),PSs ÙT K (Q E)) (BL:∀e,PSs (Å3 e) (L::O) l)
  (m:Òs) (hg:Ō) (hm:ğ x=U (.ref j)) (n:WR X.K j P) (eA:P.contains ÀI=true) (cJ:Ĩ:=by decide) :
  PS X (.Try K [.ExceptHandler (U (.Name x np)) af (L::O) i0] [] [] pos) (Zwd X.K j Q l):=by
 rw[e3,d,σ,D];refine ÙU (ba (hb d (Kc X.K j l D) [] s σ H D (I.pnd.wish _) h) #[hU,f,g,o] λev g o=>?_)
 ·have i:SP X d D f g:=o.unwish.unpnd;cases f with
  | next=>exact ÆO i
  | brk=>exact i
  | Μ=>exact i
  | ret u=>exact i
 obtain e|cls|dd|i5|R|S|rfl|he|rM|rN|hn|I'|hp|hx|C|bm|rfl|hC|jz|bJ:=o;obtain B|M|p|hM|V:=I'.fly m he rM rN hn hp hx;have e9:ÙV:=by rw[<- m.1];exact Æ4
 refine p.noted e9 m.2 λi a b c=>?_;refine T5 p.hB (s:=#[hR,g,i]) (F:=af) b a c λr W b3 Y=>?_;have t:#[gS,d,R,S,g,r]:=(V r W).unpnd;refine Kd ?_;refine W7 (X:=Å3 e) (t.mkd e) hg hm ?_ cJ;obtain oe|vs|T|oT|dA|jZ|pi|jc|_:=Y.ex;obtain nm|q|N|bs|cL|sn|sub|ab|bX|dq|k0|k1|k2|k3|k5|bH|lC:=hC;obtain gQ|q'|N'|EL|vS|EM|Ak|EN|Al|dq'|EO|EQ|ER|ES|ET|tO|w:=n;refine Zkc (t.kIn _ _ lC) (t.kIn _ _ w) jZ pi eA jz ÅR;refine T5 p.hB (s:=#[hR,g,r]) (F:=af) b3 W Y λZ a4 b4 c4=>?_;have I4:#[gS,d,R,S,g,Z]:=(V Z a4).unpnd;refine ba ÙW #[hU,f,s6,k] λ_ _ z=>z;cases f with
 | next=>obtain y|A|G|J:=k;exact(y,A,G.unmkd ζ,J)
 | brk=>obtain _|_|_|z:=k;exact ÇE
 | Μ=>obtain _|_|_|z:=k;exact ÇE
 | ret u=>obtain v|y|A|G|r7|J:=k;exact(v,y,A,G.unmkd ζ,r7,J)
universe E
theorem Ys.keep{NB:ÄP}{h h':aI}{e:ae}{cls a:aa}{d:Ě}(c:Ys NB h e cls d a)(k:#[sc,ÿ]):Ys NB h' e cls d a:=by obtain f|g|T|i|j|l|m|n|p|q|r|s|t:=c.ex;exact(f,g,T,i,j,k _ _ l,m,n,p,q,r,k _ _ s,t)
theorem Xp.more{B:aI}{d:ŧ}{h h':aI}(a:Xp B d h)(k:#[sc,ÿ]):Xp B d h' :=
 (λb o c n=>k _ _ (a.1 b o c n),λb o c=>let ⟨e,z⟩:=a.2 b o c;(e,k _ _ z))
def Sv(h:aI)(C:ae)(a:å):Prop:=X16 λ(nm q:ak) (N:ae) (bs:À aa) (b:Ï) (c:À ak) (sub:À aa) (d:Ï) (e:Ã Ï) (f:Ã ae) (g i j k l:Ã aa) (m:ŋ) =>
 ß C=U (Às nm q C N bs a b c sub d e f g i j k l m)
theorem WR.at'{K:Å}{C:ae}{a:å}{h:aI}(c:WR K C a)(X:Ŵ h):Sv h C a:=by obtain b|q|N|bs|d|e|sub|f|g|i|j|k|m|n|o|p|l:=c;exact(b,q,N,bs,d,e,sub,f,g,i,j,k,m,n,o,p,X _ _ l)
section
variable {M:ÀV} {A:aD} {E:aa->aj->Prop} {h:aI} {g:ā Ão} {d:År} {t:Nat} {os:Êw}
theorem Zlo{C a b l e:ae}{f i j:å}{m:aN}{k b2:Ï}{Q:Êd}(c:Sv h C f)(h1:Sv h a i)(h2:Sv h b j)(ht:Θ h l #[.ref a,.ref b])
  (he:ß e=U m) (s:m.cls=.ref C) (u:i.contains ÀI=true) (v:j.contains ÀI=true) (w:(á C::f).contains ĩ=k) (p:(á C::f).contains Â1=b2) (hq:Q (k||b2) τ):ar M A (Êx Ś ć) Q E τ:=by
 obtain nm|q|N|bs|cL|sn|sub|ab|bX|dq|k0|k1|k2|k3|k5|bH|c:=c;obtain nm1|q1|N1|bs1|hdct1|sn1|sub1|ab1|col1|dq1|k01|yw|k21|k31|k51|newId1|h1:=h1;obtain nm2|q2|N2|bs2|hdct2|sn2|sub2|ab2|col2|dq2|vY|yx|k22|k32|k52|newId2|h2:=h2;have x:#[ik,a,i]:=by rw[QN,u,Qas]
 have y:#[ik,b,j]:=by rw[QN,v,Qas]
 obtain o|r|z|n|B:=ht;unfold Êx;refine ah (Ö6 (o,r,z) isSubtype_tuple_tuple ?_);dsimp only;rw[ql];refine ah (bj r B ?_);dsimp only[Option.getD_some,Option.getD];repeat (first|(with_reducible refine Ρ he ?_;rw[s])|with_reducible refine Ρ h1 ?_|with_reducible refine Ρ h2 ?_|(with_reducible refine Áh h1 ?_;rw[x])|(with_reducible refine Áh h2 ?_;rw[(y)])|(with_reducible refine Áh c ?_;first|rw[w]|rw[p])|wp_step)
 cases k with
 | true=>wp_walk;exact hq
 | false =>
  repeat (first|(with_reducible refine Áh c ?_;rw[p])|wp_step)
  cases b2<;>(wp_walk;exact hq)
universe E
def Kb(K:Å)(b c:ae)(d:TS)(D:XS):St->XK:=λe cls dd H=>X2 λC a=>cls=.ref C/\WR K C a/\(#[oT].contains Â1||(á C::a).contains (.ref c))=true/\d { nx:=č,rt:=D.rt } e H
def Zv0(K:Å)(a b:ae)(c:ÍS)(d:TS):TS:=λD e H=>c (Kb K a b d D) D e H
section
variable {X:Cx}
theorem Zr9{l m:ak}{r t np i0 pos:Pos}{kt}{Z:Γ}{ku:aM}{iC:Γ}{g i:ae}{uo uq:å}{tb:ÍS}{w:TS}
  (hb:∀ (d:À (ae×aN)) (E:St->XK),PSs ÙT Z (tb E)) (BL:∀e,PSs (Å3 e) (ku::iC) w)
  (x:Gl X l) (fo:ğ l=U (.ref g)) (y:Gl X m) (dQ:ğ m=U (.ref i)) (jB:(l == ("__debug__" : ak))=false) (gb:(m == ("__debug__" : ak))=false) (A:aG [.Name l r,.Name m t] Ì=[(false,ă (.Name l r) Ì,),(false,ă (.Name m t) Ì,)])
  (G:Òs) (J:WR X.K g uo) (K:WR X.K i uq) (yz:uo.contains ÀI=true) (yA:uq.contains ÀI=true) :
  PS X (.Try Z [.ExceptHandler (U (.Tuple [.Name l r,.Name m t] kt np)) af (ku::iC) i0] [] [] pos) (Zv0 X.K g i tb w):=by
 rw[e3,d,σ,D];refine ÙU (ba (hb d (Kb X.K g i w D) [] s σ H D (I.pnd.wish _) h) #[hU,f,k,L] λev k L=>?_)
 ·have n:SP X d D f k:=L.unwish.unpnd;cases f with
  | next=>exact ÆO n
  | brk=>exact n
  | Μ=>exact n
  | ret u=>exact n
 obtain e|cls|dd|i5|N|O|rfl|he|rM|rN|hn|I'|hp|hx|C|bm|rfl|hC|jz|bJ:=L;obtain B|M|P|hM|Q:=I'.fly G he rM rN hn hp hx;have e9:ÙV:=by rw[<- G.1];exact Æ4
 refine P.noted e9 G.2 λn a b c=>?_;refine T5 P.hB (s:=#[hR,k,n]) (F:=af) b a c λj a3 b3 c3=>?_;have I3:#[gS,d,N,O,k,j]:=(Q j a3).unpnd;refine Kd ?_;refine Tuple_ ?_;rw[A];refine Æ0 (W7 (X:=Å3 e) (I3.mkd e) x fo ?_ jB);refine Æ0 (W7 (X:=Å3 e) (I3.mkd e) y dQ ?_ gb);refine av ?_;refine bz ?_ Á6;have p:∀b o,j.get? b=U o->(j.push { cls:=.type "tuple",Ó:=.seq [á g,.ref i].toArray }).get? b=U o:=λb o hb=>Qc _ hb;have c5:=c3.keep p;have a5:=a3.more p;have b5:=b3.of_keeps (h':=j.push { cls:=.type "tuple",Ó:=.seq [á g,.ref i].toArray }) λb o hb _=>(o,p b o hb,rfl);obtain oe|vs|T|oT|dA|jZ|pi|jc|_:=c3.ex;have I5:Inv X d N O { k with Õ:=j.push { cls:=.type "tuple",Ó:=.seq [á g,.ref i].toArray } }:=(Q _ a5).unpnd;have R:=I5.kIn;refine Zlo (hC.at' R) (J.at' R) (K.at' R) (Ï8 j _) (p _ _ jZ) pi yz yA rfl rfl (jz,?_);refine T5 P.hB (s:={ k with Õ:=j.push { cls:=.type "tuple",Ó:=.seq [á g,.ref i].toArray } }) (F:=af) b5 a5 c5 λh4 a4 b4 c4=>?_;have I4:#[gS,d,N,O,k,h4]:=(Q h4 a4).unpnd;refine ba ÙW #[hU,f,s6,q] λ_ _ z=>z;cases f with
 | next=>obtain S|V|W|Y:=q;exact(S,V,W.unmkd ζ,Y)
 | brk=>obtain _|_|_|z:=q;exact ÇE
 | Μ=>obtain _|_|_|z:=q;exact ÇE
 | ret u=>obtain v|S|V|W|r7|Y:=q;exact(v,S,V,W.unmkd ζ,r7,Y)
universe E
def Zvz(a:TE):TE:=λb H Q=>a b H λv c=>∃x,v=.str x/\Č<=aq/\Q Åu c
theorem Pr{X:Cx}{e:aK}{b:TE}{pos:Pos}(he:PE X e b):PE X ÙB (Zvz b):=by intro c s d H Q I h;refine ÙC #[zS,c,d,s1];obtain v|f|g|r|x|rfl|i|q:=a;obtain tk|rfl:=#[eQ,tk,Ár,x,r];exact formatField_str (λt' tk=>(.str x,f,g.tok _,ü,q)) i
section
variable {ñ:ay} {w:aF} {A:aD} {E:aa->aj->Prop} {s:aj}
theorem ZoT{l:ae}{œ:Á7}{Q:À aa->aj->Prop}(hl:Ñ4 l œ)(p:Á9)(hn:0<ÃH)(hz:ÃH<=16384)
  (h:∀ (a:aI) (tk:Nat),#[fF,o,é,ÅH]->Q (ÍT 1++[.ref Êo]++[]) { s with Õ:=a.push { cls:=.type "list",Ó:=.seq (ÍU 1).toArray },î:=tk }) :
  ar Ô A (Ë2 ć 2 (U 1)) Q E s:=by
 have c:l≠Ð:=by obtain o|q|_:=hl;exact Qz (Qr q)
 unfold Ë2;refine ah ?_;unfold notIterableAtAll;refine ah (Ø3 hl.typeIs slot_list_iter.lookup ?_);refine av ?_;simp only[ÉQ,ÅG];refine ah (aT (cu hl ?_));refine ah (aT (PySem.W.kun_draw c 1 0 _ _ Äa (hl.push _) Á λi f m=>?_));have n:i.IsList l œ:=(hl.push _).extBut É8 c;rw[Nat.zero_add]at f;have r:=f;obtain oi|g|_:=r;have t:=n;obtain ol|v|_:=t;rw[ÒR];have x:(ÍT 1).length=1:=by rw[Qx,Qar];lia
 rw[Ç (show ¬ ((ÍT 1).length<1) by rw[x];lia)];refine ah (aT (PySem.W.kun_collect (s:=#[hR,s,i]) (T := "list_iterator") (.inr Å5) (Ñf (A:=ÃI) p Ð l c œ) (λj u st=>st.1.typeIs) (k:=1) Á (f,n) (Qr g) (Qr v) #[hU,a,tk,y] #[fL,aO]));have z:#[86].length=ÃH-1:=by rw[QZ,Qar]
 show ar _ _ (if #[86].length<2-1-1 then _ else _) _ _ _;rw[zE,Á];show ar _ _ (ÌH (#[86].take ÍV) >>= λd=>pure (ÍT 1++[d]++#[86].drop ÍV)) _ _ _;have B:#[86].take ÍV=ÍU 1:=Qv ç;have C:#[86].drop ÍV=[]:=Qbd ç;rw[B,C];have D:#[e7,o,é,o,ÅH]:=λb o e=>y b o ÆR (É8 b o ÆR (Qc _ e));exact ah (bz (av (h a tk D)) (by show (ÍU 1).length<=aq;rw[z,aO];lia))
universe E
def Zv2(K:Å)(t:TGs):TG:=λv a H Q=>X3 λp x xs=>v=.ref p/\SqL K H p (x::xs)/\ã<16384/\∀l,H l=af->t [x,.ref l] a (upd H l ÀE) Q
section
variable {X:Cx}
theorem Zqy{e:aK}{p:Pos}{t:TG}(h1:PG X e t)(hs:(ce [.Starred e p] Ì).map ę=[ÂF e Ì]:=by rfl):PGs X [.Starred e p] (Mr t Ms):=by
 rw[hE,a,b,vs];obtain v|vr|c|h:=h;subst c;cases r with
 | Î r d=>rw[hs];refine Åw (thn (h1 a s b H _ _ _ I r h) ?_);rintro _ s1 ⟨f,g,i,j⟩;rw[ew,k,l,j];subst k;cases d;exact Ë1 (f,g,i,l)
theorem ZrM{d:ĳ}{k:Nat}{pos:Pos}{t:TGs}{K:Å}(h:PGs X d t)(p:X.K=K:=by rfl)(hc:Ŏ:=by rfl)(q:#[zx,d].length=2:=by rfl)(w:#[zx,d].findIdx? ó=U 1:=by rfl):PG X (.Tuple d k pos) (Zv2 K t):=by
 subst p;intro f s g H v u Q I r hw;obtain a|x|i|y|z|hl|hw:=hw;subst y;cases r;rw[fS,j,A,hz,z];have l:=Äc;rw[assign_Tuple];refine ah (bx ?_);unfold unpack;rw[q,w];rw[QA]at l;have hsz:ÅE=ÆV+1:=by simpa using l.symm
 refine ah (aT (ZoT A.isList Áv Á Á λc tk B=>?_));cases j with
 | Î C D=>rename_i u m;have n:#[ss,f,g,c]:=ÂG (t':=tk) λb o e=>B b o e;have E:H ÄD=af:=n.hok.fresh ç;have F:Inv X f g (upd H ÄD (.lst i)) { s with Õ:=c.push { cls:=.type "list",Ó:=.seq ((u::m).toArray.toList.drop 1).toArray },î:=tk }:=n.laid (t':=tk) #[ii,b,o,e] ç (by rw[(aO)];lia,m,_,D,Qt _ rfl);exact h f _ g _ [x,.ref ÄD] [u,.ref ÄD] Q F (.cons C ÐH) (hw _ E)
universe E
theorem Ka:ÅD ÁF "__int__" = pure af:=by rw[Íz,ÍA];kernel_rfl
theorem J9:ÅD ÁF "__index__" = pure af:=by rw[Íz,ÍA];kernel_rfl
theorem J8:ÅD ÁF "__trunc__" = pure af:=by rw[Íz,ÍA];kernel_rfl
theorem J7{α:Type}{M:ÀV}{A:aD}{t t':Sem α}{Q:α->aj->Prop}{E:ð}{s:aj}(h:t=t')(hq:ar M A t' Q E s):ar M A t Q E s:=h ▸ hq
theorem ZjC(n:Nat)(hn:n<10)(t:Tok):Meets (aS.«int.__new__» ([.type "int",.str ÄR t],[])) (ÍW (n:Int)).spec :=
 Meets.of_wp λprog w A R s a=>by
  rw[lc];have hT:(#[f8,b,tk]:aj).TypeIs (.str ÄR t) "str":=rfl;rw[xV];repeat (any_goals (first|assumption|wp_step))
  refine J7 (t':=mkInt (n:Int)) (by rcases(show n=0\/n=1\/n=2\/n=3\/n=4\/n=5\/n=6\/n=7\/n=8\/n=9 by lia) with rfl|rfl|rfl|rfl|rfl|rfl|rfl|rfl|rfl|rfl<;>kernel_rfl) ?_;repeat (any_goals (first|assumption|wp_step))
  all_goals exact(_,rfl,a)
theorem Zn9{ñ:ay}{w:aF}{A:aD}{E:ð}{s:aj}{n:Nat}{t:Tok}{Q:ð}(a:n<10)(h:Q (.int (n:Int) ń) { s with î:=ń+1 }):ar Ô A (Ĵ Äd [.str ÄR t]) Q E s :=
 call_int_1 (ZjC n a t) (show (ÍW (n:Int)).post _ s from(rfl,h))
theorem Zva{X:Cx}{k j:Nat}{C:ae}{x:ak}{ps:Ñ}{sp:Sp}{p pos:Pos}(F:#[fT,Cf,x])(hr:Âf)(a:k+1<=j:=by decide)(c:Ō:=by rfl)(d:Ĩ:=by decide) :
  PE X Ìm (SW C sp [] E0 VA):=by
 rw[iM,g,b,e];exact Zp0 g F Ì5 c e b .nil Vy d
universe E.L2
namespace L2
open PySem PySem.Spec PyProof.Rows
section
variable {X:Cx}
theorem WF{x z:ak}{pos:Pos}(hm:∃tk,ğ x=U (.str z tk))(a:Ō:=by rfl)(hd:Ĩ:=by decide):PE X ÀW (tC (.str z)):=by obtain tk|h:=hm;exact Mu a h (tk,rfl) hd
universe E
theorem Xo{K:Å}{t:ae}{a:Ě}{its:Á7}{n:Nat}{sl:Δ}{xs:Ė}(h:Ļ t=U (.type "tuple",a,.seq its n,sl))(hs:its.size<=100)(v:ZG xs È9):∀H,SqT K H t xs :=
 λ_=>.inr (_,its,n,h,rfl,rfl,Qk hs #[fY,aO],v)
def ZwU(t u:TE):TE:=λa H Q=>t a H Q\/u a H Q
theorem J6{X:Cx}{e:aK}{t u:TE}(h1:PE X e t)(h2:PE X e u):PE X e (ZwU t u):=λa s b H Q I h=>Or.elim h (h1 a s b H Q I) (h2 a s b H Q I)
theorem WE(K:Å){X:Cx}{e:aK}{f:ak}{pos:Pos}{a:TE}(he:PE X e a)(hb:#[fk,e,f])(b:X.K=K:=by rfl):PE X Ðv (LS K a f):=by subst b;exact ZH he hb
section
variable {X:Cx}
theorem ZoK:OpR X (aQ .LtE) (λx y H Q=>X2 λi j=>x=.str i/\y=.str j/\Q (.bl (!decide Øe)) H):=by intro ai s σ H x y v u Q I a b h;obtain i|j|rfl|rfl|q:=h;obtain t|rfl:=a;obtain t'|rfl:=b;exact PySem.P.le_str Ë9
universe E
theorem Zro{d:ae}{o:aN}{kvs:Ŗ}{g:TG}{j:TS}{D:XS}{a:St}{H:Hp}(Pv:Éh)(h0:Pv 0 a H)(hl:∀i a H,Pv i a H->H d=U Ág)
  (hs:∀i k x a H,kvs[i]? = U (k,x,)->Pv i a H->g (kV k) a H λc f=>j { D with nx:=Pv (i+1),ct:=Pv (i+1),bk:=č } c f) (hd:#[td,ø]) :
  ∃W:Nat->Nat->St->Hp->Prop,#[tc,a]/\∀i m a H,W i m a H ->
   ((ØP).stop i H/\č a H)\/((ØP).go i H/\∃N:St->Hp->Prop,#[fC,h,b,l]/\∀x b,(ØP).yld i H x b->g x a b λc f=>j { D with nx:=N,ct:=N,bk:=č } c f):=by
 rw[eO,ø];have n:=hl i a H p;by_cases q:i<ø
 ·refine .inr ((n,q),Pv (i+1),λh b r=>(ø-(i+1),by lia,rfl,q,r),λx b y=>?_);obtain rfl|k'|s|e|rfl:=y;exact hs i k' s a _ e p
 ·have e:Êr:=by lia
  exact .inl ((n,by lia),hd a H Çu)
theorem ZrT{X:Cx}{k:Nat}{o e f:aK}{b ty c:TE}{d a:Pos}(hr:ι)(h:PE X o b)(he:PE X e ty)(i:PE X f c)(hb:#[fk,o,"get"]:=by rfl)
  (j:(d.endLine == a.line)=true:=by rfl) (g:bo a Òe=ØG:=by rfl):PE X (.Call #[sq,"get",d] [e,f] [] a) (KS b ty c):=by
 refine Zqf (UY hr) h he i (hb,?_,j,g);rw[g];rfl
universe E.L2
namespace L2
open PySem PyProof.Rows
theorem Zis(t:Tok):Meets (aS.«int.__new__» ([.type "int",.str "1000000" t],[])) (ÍW 1000000).spec :=
 Meets.of_wp λprog w A R s a=>by
  rw[lc];have hT:(#[f8,b,tk]:aj).TypeIs (.str "1000000" t) "str":=rfl;rw[xV];repeat (any_goals (first|assumption|wp_step))
  refine J7 (t':=mkInt 1000000) (by kernel_rfl) ?_;repeat (any_goals (first|assumption|wp_step))
  all_goals exact(_,rfl,a)
def ZvQ:À V->Hp->VK->Prop:=λvs H Q=>∃n:Nat,(vs=[.str ÄR]/\n<10\/vs=[.str "1000000"]/\n=1000000)/\Q #[hG,n] H
theorem ZwZ{X:Cx}:YZ X Äd ZvQ:=by
 rw[aa];obtain⟨n,⟨rfl,a⟩|⟨rfl,rfl⟩,q⟩:=h
 ·rw[ol];exact Zn9 a (.int (n:Int),H,š _,ü,q)
 ·rw[ol];exact call_int_1 (Zis t) (show (ÍW 1000000).post _ s from(rfl,#[ti,1000000,q]))
universe E.L2
namespace L2
open PySem PySem.Spec PyProof.Rows
def J5:À V->Hp->VK->Prop:=λxs H Q=>X3 λd kvs ns=>xs=[.ref d]/\H d=U Áf/\Â2 ó=ÃA ÒS/\Ĉ<64 /\
 ∀ (l:ae) (a:À ak),H l=af->a.Perm ns->Ĝ a=true->Q ć Ñh
theorem Zik{X:Cx}(hc:Ŏ):YZ X Äy J5:=by
 rw[hE,M,N,xs];obtain d|c|n|rfl|O|y|A|q:=h;rw[eU,R];obtain z|lo|B|i|S:=#[fM,d,c,O];rw[ew,ep,T,S.dictAt];have hl:Ĥ=B.length:=ÆV;have hln:Ĥ=n.length:=by have:=#[eC,y];simpa using this
 refine ÙX kind_sorted plain_sorted entry_sorted (args_sorted1 _) ?_;unfold aS.«sorted»;refine ah (m:=checkCount "sorted" 1 1 _) (av ?_);refine ah (PySem.W.kdu_collect (ØN (knd:=Êm) lo) Áv T Á λf tk g W C=>?_);have p:ZG ÒT ÇD:=KQ (P:=ö) (w:=X.w) c B ÇD i #[ei,Qar,C.1] λj v e=>C.2 j v #[eS,Qav,e];have Y:ÒT=n.map Ä:=by
  have:ÒT=(ŏ ó).map kV:=by rw[Qo];rfl
  rw[this,y,Qo];rfl
 rw[Y]at p;have Z:g.toList.length=n.length:=by rw[<- ÊG,Qa]
 refine ah (Íf ?_ (by rw[Z];exact QaJ (QB A #[fY,aO])));have t:(f.push ÒU).get? ÁK=U ÒU:=Qt _ rfl;show ar _ _ _ _ _ { s with Õ:=f.push (ÇM "list" ÙY 0),î:=tk };have x:=PX p;refine ah (aT (bU ÑS (_,t,rfl) ÑT (list_sort_treeK strKind_oneLt t x.keysOf (λv₁ v₂ Ă e=>keyKind_strs #[eS,e,x]) Á λaR l D=>(_,rfl,?_)) ÑU));obtain E|F|G|a3:=sorted_out_str x l D;clear l D;generalize (Ď aR).map (·.2)=out at F ⊢;refine av ÍX;obtain e|he:=sortedHeap_at (out:=out) t;have J:#[ss,M,N,f]:=ÂG (t':=tk) W;have gA:∀b o,ÊA b=U o->(ÑP (f.push ÒU) ÁK ÇD out).get? b=U o:=λb o K=>by have L:=Qr K;rw[sortedHeap_old (Qz L) #[fd,Íh,Nat.lt_succ_of_lt,L]];exact Qc _ K
 refine(.ref ÁK,_,J.laid (a:=ÁK) (o:=.lst (E.map Ä)) (t':=tk) gA ç ?_,rfl,q _ E (J.hok.fresh ç) G a3);have l:=G.length_eq;exact(by rw[Qa,l];exact QaJ (QB A #[fY,aO]),ÉW,e,PV F,by simpa using he)
theorem ZvX{X:Cx}(hc:Ŏ:=by rfl):YZ X Äy J5:=Zik hc
universe E.L2
set_option maxHeartbeats 9000000
namespace My
open PySem L2 PyProof.Rows
abbrev YR:=@List.tail aM
abbrev YW(x:Γ):=YR (YR x)
abbrev YJ(x:Γ):=YW (YW x)
abbrev YQ(x:Γ):=YJ (YJ x)
abbrev ŗ(x:Γ):=YQ (YQ x)
abbrev Ž(x:Γ):=ŗ (ŗ x)
abbrev Zt64(x:Γ):=Ž (Ž x)
local macro_rules|`(‹$i:num›)=>`(@pv _ $i _ _ (by rfl) (Or.inl rfl) (by decide) (by decide))
local macro_rules|`(tactic|trivial)=>`(tactic|first|exact .inl rfl|exact .inr rfl|decide|exact Nat.le_refl _|lia)
def hdS:À aM->aM
 | a::_=>a
 | []=>.Pass (0,0,0,0)
abbrev ZJ:À aM:=PySem.Challenge.pw_mergetree_k50_desks_asked.main.body
abbrev Ziv:aM:=hdS ÍY
abbrev ZlO:aM:=hdS ÊH
abbrev Su:aM:=hdS (ŗ ÊH)
abbrev Xn:aM:=hdS (ŗ Å6)
abbrev Zs0:aM:=#[rW,YR,ZJ]
abbrev Pq:aM:=hdS (YQ ZJ)
abbrev Pp:aM:=hdS (YQ (YR ZJ))
abbrev Po:aM:=hdS (YQ Â3)
abbrev Pn:aM:=hdS (YQ (YJ ZJ))
abbrev Pm:aM:=hdS (YQ ÍY)
abbrev Pk:aM:=hdS (YQ ÊH)
abbrev Pj:aM:=hdS (YQ Å6)
abbrev Pg:aM:=hdS (ŗ ZJ)
abbrev Pf:aM:=hdS (ŗ (YW ZJ))
abbrev Pe:aM:=hdS (ŗ Â3)
abbrev Pd:aM:=hdS (ŗ (YQ ZJ))
abbrev Pc:aM:=hdS (ŗ (YQ (YR ZJ)))
abbrev Pb:aM:=#[zz,Â3]
abbrev Pa:aM:=hdS (Ž (ŗ (YJ ZJ)))
abbrev O9:aM:=#[zz,ÍY]
abbrev O8:aM:=#[zz,ÊH]
abbrev O7:aM:=#[zz,Å6]
abbrev O6:aM:=hdS (Ž (ŗ (YQ ZJ)))
abbrev O5:aM:=hdS (Ž (ŗ (YQ (YR ZJ))))
abbrev O4:aM:=hdS (Ž (ŗ (YQ (YW ZJ))))
abbrev O3:aM:=#[rW,YW,ZJ]
abbrev O2:aM:=hdS (Zt64 Â3)
abbrev T1:aM:=#[rW,YJ,ZJ]
abbrev O1:aM:=#[ge,YJ,YR]
abbrev O0:aM:=#[ge,YJ,YW]
abbrev OZ:aM:=hdS (Zt64 Å6)
abbrev OY:aM:=#[rW,YQ,ZJ]
abbrev OX:aM:=#[ge,YQ,YR]
abbrev OW:aM:=#[ge,YQ,YW]
abbrev OV:aM:=#[rW,YQ,Â3]
abbrev OU:aM:=#[gj,YQ,YJ,YR]
abbrev Ss:aM:=#[ge,ŗ,YW]
abbrev T0:aM:=#[rW,ŗ,Â3]
abbrev OT:aM:=#[gj,ŗ,YJ,YW]
abbrev OR:aM:=#[rW,ŗ,Å6]
abbrev OQ:aM:=#[ge,ŗ,YQ]
abbrev Sr:aM:=#[gj,ŗ,YQ,YR]
abbrev Sq:aM:=#[gj,ŗ,YQ,YW]
abbrev OP:aM:=#[zu,Â3]
abbrev OO:aM:=#[gj,ŗ,YQ,YJ]
abbrev So:aM:=#[zu,ÍY]
abbrev ON:aM:=#[zu,ÊH]
abbrev Sn:aM:=#[zu,Å6]
abbrev OM:aM:=#[rW,Ž,ZJ]
abbrev OL:aM:=#[ge,Ž,YR]
abbrev OK:aM:=#[ge,Ž,YW]
abbrev OJ:aM:=#[rW,Ž,Â3]
abbrev OI:aM:=#[ge,Ž,YJ]
abbrev UM:aM:=#[gj,Ž,YJ,YR]
abbrev Sl:aM:=#[gj,Ž,YJ,YW]
abbrev Sk:aM:=#[rW,Ž,Å6]
abbrev TZ:aM:=#[ge,Ž,YQ]
abbrev TY:aM:=#[gj,Ž,YQ,YR]
abbrev Sj:aM:=#[gj,Ž,YQ,YW]
abbrev Vs:aM:=hdS (Zt64 (Ž (YQ Â3)))
abbrev Z5:aM:=Ym Ziv 0
abbrev TX:aM:=Ym ZlO 0
abbrev OH:aM:=Ym Su 0
abbrev OG:aM:=Ym Su 2
abbrev OF:aM:=Ym Su 3
abbrev OE:aM:=Ym Su 4
abbrev OD:aM:=Ym Xn 0
abbrev OC:aM:=Ym Xn 1
abbrev OB:aM:=Ym Xn 2
abbrev OA:aM:=Ym Xn 3
abbrev Si:aM:=Ym Xn 4
abbrev Sh:aM:=Ym Xn 5
abbrev Oz:aM:=Ym Xn 9
abbrev Oy:aM:=Ym Xn 10
abbrev Ox:aM:=Ym Xn 11
abbrev Ow:aM:=Ym Xn 12
abbrev Ov:aM:=Ym Xn 13
abbrev Ou:aM:=Ym Xn 14
abbrev Ot:aM:=Ym Xn 15
abbrev Oq:aM:=Ym Xn 16
abbrev Op:aM:=Ym Xn 17
abbrev Oo:aM:=Ym Zs0 0
theorem J4:Zn ["_law_cell", "_law_k", "_law_m"] ÍZ (Zg OT):=Þ
theorem J3:Zn ["_law_script", "_law_k", "_law_cell"] Í0 (Zg OR):=Þ
theorem J2:Zn ["_law_left_here", "_law_many", "_law_digit"] ÒV (Zg OQ):=Þ
theorem J1:Zn ÙZ Å7 (Zg Sr):=Þ
theorem Om:Zn Ù0 Í1 (Zg Sq):=Þ
theorem Ol:Zn Ù1 ÄS (Zg Pj):=Þ
theorem Zrq:Zn Â4 Â4 (Zg Pn):=Þ
theorem J0:Zn ÇN ÇN (Zg So):=Þ
theorem TW:Zn ["_law_left_here", "_law_stems_here", "_law_most", "_law_found", "_law_k", "_law_key_here"] ÃN (Zg OP):=Þ
theorem Sg:Zn ["row", "told", "place", "key"] ["row"] (Zg Pe):=Þ
theorem ZkG:Zn ÊI ÊI (Zg Pg):=Þ
theorem Zq9:Zn Â4 Â4 (Zg Pm):=Þ
theorem JZ:Zn Ù1 ÄS (Zg Pk):=Þ
theorem JY:Zn ["keys", "place"] ["keys"] (Zg Pf):=Þ
theorem JX:Zn ["numbers", "middle"] ["numbers"] (Zg Pq):=Þ
theorem ZjX:Zn Ą Ą (Zg OG):=Þ
theorem ZkE:Zn Ą Ą (Zg OF):=Þ
theorem Zkr:Zn Â5 Â5 (Zg OH):=Þ
theorem Zft:Zn ÇO ÇO (Zg Z5):=Þ
theorem ZgV:Zn ÊJ ÊJ (Zg TX):=Þ
theorem Vr:Zn ["numbers", "n", "others", "side", "first", "rest"] ÄT (Zg Pp):=Þ
theorem JW:Zn ["thing", "sign"] ["thing"] (Zg Po):=Þ
theorem ZgX:Zn Â5 Â5 (Zg OE):=Þ
theorem Oj:Zn ["self", "rows", "number", "keys"] Í2 (Zg OD):=Þ
theorem JV:Zn ÄU Ą (Zg OC):=Þ
theorem JU:Zn #[f1,"thing"] Ą (Zg OB):=Þ
theorem JT:Zn ["self", "many", "things"] Í3 (Zg OA):=Þ
theorem Ziu:Zn Ą Ą (Zg Si):=Þ
theorem Zhb:Zn Ą Ą (Zg Sh):=Þ
theorem Sf:Zn ["self", "row", "number"] ÄU (Zg Oz):=Þ
theorem Se:Zn ["self", "n", "many"] ÁP (Zg Oy):=Þ
theorem TV:Zn ["self", "n", "keys", "row", "sent_nothing"] ÇP (Zg Ox):=Þ
theorem JS:Zn ÁP ÁP (Zg Ow):=Þ
theorem ZfA:Zn Ą Ą (Zg Ov):=Þ
theorem Wf:Zn ["self", "numbers", "first_side", "other_side", "one", "other", "winner", "loser", "far"] Í4 (Zg Ou):=Þ
theorem TU:Zn ["self", "number", "row", "comer", "meeting"] Í5 (Zg Ot):=Þ
theorem TR:Zn ["self", "meeting", "comer", "stayer", "winner", "loser", "far"] Í6 (Zg Oq):=Þ
theorem Sd:Zn ["self", "one", "other", "far", "order", "alike_far", "seen"] Í7 (Zg Op):=Þ
theorem Sc:Zn ["number", "keys", "place"] ÊK (Zg Pd):=Þ
theorem Vq:Zn ["numbers", "n", "matches", "least", "greatest", "others"] ÄT (Zg Pc):=Þ
theorem Oi:Zn ["kind", "word", "least", "most"] Í8 (Zg Pb):=Þ
theorem ZjM:Zn Âp Âp (Zg Pa):=Þ
theorem Zkq:Zn Âp Âp (Zg O9):=Þ
theorem JR:Zn ["word", "least", "most", "number"] Í9 (Zg O8):=Þ
theorem JQ:Zn ["word", "sign"] Âp (Zg O7):=Þ
theorem Zif:Zn ["key"] ["key"] (Zg O6):=Þ
theorem Zgg:Zn ÊL ÊL (Zg O5):=Þ
theorem ZhN:Zn ["words"] ["words"] (Zg O4):=Þ
theorem ZjD:Zn Ą Ą (Zg Oo):=Þ
theorem VX:Zn ["text", "orders", "desk", "answers", "word", "singles", "further", "deed"] ["text"] (Zg O3):=Þ
theorem TQ:Zn ["text", "orders", "line", "row", "order"] ["text"] (Zg O2):=Þ
theorem VW:Zn ÒW ["row"] (Zg T1):=Þ
theorem ZfB:Zn ÊM ÊM (Zg O1):=Þ
theorem JP:Zn Ù2 ÄV (Zg O0):=Þ
theorem JO:Zn Ù2 ÄV (Zg OZ):=Þ
theorem JN:Zn ["desk", "singles", "further", "name"] Ŝ (Zg OY):=Þ
theorem ZkY:Zn Ŝ Ŝ (Zg OW):=Þ
theorem JM:Zn ÒX ÒY (Zg T0):=Þ
theorem Zq3:Zn ÃN ÃN (Zg OO):=Þ
theorem ZiD:Zn Îa Îa (Zg OK):=Þ
theorem Vp:Zn Ù3 Å7 (Zg Sk):=Þ
theorem ZlT:Zn ÇQ ÇQ (Zg TZ):=Þ
theorem Zii:Zn ÊN ÊN (Zg Sj):=Þ
theorem JL:Zn ["desk", "singles", "further", "thing"] Ŝ (Zg OX):=Þ
theorem Zkn:Zn Ŝ Ŝ (Zg OV):=Þ
theorem Zlk:Zn Ŝ Ŝ (Zg OU):=Þ
theorem ZfU:Zn ÇR ÇR (Zg Ss):=Þ
theorem ZlX:Zn [] [] (Zg ON):=Þ
theorem Zih:Zn ÊO ÊO (Zg Sn):=Þ
theorem TN:Zn ["_law_desk", "_law_word", "_law_name", "_law_keys_here", "_law_rows", "_law_n", "_law_old", "_law_out"] ÒZ (Zg OM):=Þ
theorem UL:Zn ["_law_desk", "_law_found", "_law_name", "_law_n", "_law_keys_here", "_law_out"] ÁQ (Zg OL):=Þ
theorem TM:Zn ["_law_desk", "_law_heads_here", "_law_key_here", "_law_n", "_law_name"] ÁQ (Zg OJ):=Þ
theorem VU:Zn ["_law_desk", "_law_many", "_law_found", "_law_turn", "_law_heads_here", "_law_name", "_law_n", "_law_keys_here", "_law_out"] Îb (Zg OI):=Þ
theorem Oh:Zn Îc ÁQ (Zg UM):=Þ
theorem Vo:Zn Ò0 Ò1 (Zg TY):=Þ
theorem W0:Zn ["_law_script", "_law_left_here", "_law_names_here", "_law_stems_here", "_law_desk", "_law_rows", "_law_due", "_law_k", "_law_word", "_law_name", "_law_keys_here", "_law_many", "_law_again", "_law_found"] Îd (Zg Vs):=Þ
theorem Zkl:Zn ÊP ÊP (Zg Sl):=Þ
abbrev zsc(l:#[hJ,aV]):bh:={ kind:=.function,Âb:=l,isGenerator:=false,isCoroutine:=false,Ę:=[] }
def ZsS:bh:=zsc [Ű,Ò2,#[fP,"_law_pick"],Ù4,("_law_some",.free,)]
theorem TK:ZV ÙZ ["_law_left_here", "_law_some", "_law_k"] (Zg Sr) ZsS:=ű
def Zs9:bh:=zsc [Ű,Ò2,#[fP,"_law_pick"],#[fP,"len"],Ù4,("_law_letters",.free,)]
theorem Vn:ZV Ù0 ["_law_left_here", "_law_stems_here", "_law_letters", "_law_tail", "_law_k"] (Zg Sq) Zs9:=ű
def ZrW:bh:=zsc [Ű,#[eI,"_law_one"],#[eI,"_law_other"],#[fP,"_law_same"]]
theorem UK:ZV ÇN ["_law_found", "_law_due", "_law_one", "_law_other"] (Zg So) ZrW:=ű
def Zsw:bh:=zsc [Ű,Îe]
theorem Og:ZV Ą ÄU (Zg Si) Zsw:=ű
def Zsk:bh:=zsc [Ű,#[eI,"number"],Îe]
theorem TH:ZV Ą ["self", "number", "row"] (Zg Sh) Zsk:=ű
def Zsh:bh:=zsc [Ű,#[eI,"kind"],#[eI,"word"],#[fP,"read_word"]]
theorem UJ:ZV ÒW ["row", "first", "others", "single_kinds", "further_kind", "many", "singles", "further", "kind", "word"] (Zg T1) Zsh:=ű
def Zs3:bh:=zsc [Ű,#[eI,"word"],#[fP,"read_word"],("further_kind",.free,)]
theorem TF:ZV ÒW ["row", "first", "others", "single_kinds", "further_kind", "many", "singles", "further", "word"] (Zg T1) Zs3:=ű
def ZsP:bh:=zsc [Ű,#[eI,"name"],#[eI,"number"]]
theorem TC:ZV ÒX ["desk", "heads", "names", "name", "number"] (Zg T0) ZsP:=ű
def ZsM:bh:=zsc [Ű,Îe,#[eI,"key"],#[fP,"written_thing"],("names",.free,)]
theorem Vm:ZV ÒX ["desk", "heads", "names", "row", "key"] (Zg T0) ZsM:=ű
def Zsb:bh:=zsc [Ű,Ò2,("_law_at",.free,),("_law_letters",.free,)]
theorem VT:ZV Ù3 ["_law_left_here", "_law_some", "_law_first", "_law_letters", "_law_at", "_law_k"] (Zg Sk) Zsb:=ű
def Zpp:bh:=zsc [Ű,#[eI,"_law_part"],#[fP,"str"]]
theorem Of:ZV ÇQ ["_law_word", "_law_parts", "_law_keys_here", "_law_part"] (Zg TZ) Zpp:=ű
def ZpO:bh:=zsc [Ű,Ò3,#[fP,"_law_key_text"]]
theorem Sb:ZV ÇQ ["_law_word", "_law_parts", "_law_keys_here", "_law_key_here"] (Zg TZ) ZpO:=ű
def ZpR:bh:=zsc [Ű,#[eI,"_law_row_here"],#[fP,"len"]]
theorem Sa:ZV ÊN ["_law_rows", "_law_row_here"] (Zg Sj) ZpR:=ű
def Zo9:bh:=zsc [Ű,Îe,#[eI,"place"],#[eI,"key"]]
theorem UI:ZV ÇR ["desk", "things", "row", "place", "key"] (Zg Ss) Zo9:=ű
def ZpL:bh:=zsc [Ű,#[eI,"_law_one"],#[eI,"_law_other"]]
theorem TB:ZV ÊO ["_law_keys_here", "_law_one", "_law_other"] (Zg Sn) ZpL:=ű
def ZqK:bh:=zsc [Ű,Îf,("_law_desk",.free,)]
theorem Tz:ZV Îc ["_law_desk", "_law_rows", "_law_heads_here", "_law_name"] (Zg UM) ZqK:=ű
def Zqb:bh:=zsc [Ű,Ò3,Ò4,Îf,#[fP,"_law_key_text"]]
theorem Vl:ZV Îc ["_law_desk", "_law_rows", "_law_heads_here", "_law_key_here", "_law_n", "_law_name"] (Zg UM) Zqb:=ű
def Zpx:bh:=zsc [Ű,Ò4,Îf,("_law_heads_here",.free,)]
theorem UH:ZV Îc ["_law_desk", "_law_rows", "_law_heads_here", "_law_n", "_law_name"] (Zg UM) Zpx:=ű
def Zrl:bh:=zsc [Ű,Îf,("_law_rows",.free,)]
theorem Tx:ZV Ò0 ["_law_left_here", "_law_desk", "_law_names_here", "_law_stems_here", "_law_rows", "_law_free", "_law_there", "_law_way", "?_law_name", "_law_last", "_law_name"] (Zg TY) Zrl:=ű
def Zrc:bh:=zsc [Ű,Ò3,("_law_last",.free,)]
theorem UG:ZV Ò0 ["_law_left_here", "_law_desk", "_law_names_here", "_law_stems_here", "_law_rows", "_law_free", "_law_there", "_law_way", "_law_name", "_law_last", "_law_key_here"] (Zg TY) Zrc:=ű
def Zpa:bh:=zsc [Ű,Ò4,#[eI,"_law_keys_here"],#[eI,"_law_out"],#[fP,"len"]]
theorem Vk:ZV ÊP ["_law_desk", "_law_word", "_law_many", "_law_n", "_law_keys_here", "_law_out"] (Zg Sl) Zpa:=ű
structure Bt (mg:Ā):Prop where
 n_abs:mg "abs" = af
 n_all:mg "all" = af
 n_bool:mg "bool" = af
 n_dict:mg "dict" = af
 n_enumerate:mg "enumerate" = af
 n_int:mg "int" = af
 n_isinstance:mg "isinstance" = af
 n_len:mg "len" = af
 n_list:mg "list" = af
 n_max:mg "max" = af
 n_min:mg "min" = af
 n_range:mg "range" = af
 n_sorted:mg "sorted" = af
 n_str:mg "str" = af
 n_sum:mg "sum" = af
 n_tuple:mg "tuple" = af
 n_zip:mg "zip" = af
structure ZO (K:Å) (mg:Ā) (aw:ae) (am:ae) (aA:ae) (ap:ae) (aJ:ae) (aB:ae) (ao:ae) (au:ae):Prop where
 b:Bt mg
 t_halves:Top K mg "halves" Pq ["numbers"]
 t_way_up:Top K mg "way_up" Pp ÄT
 t_is_key:Top K mg "is_key" Po ["thing"]
 t_alike:Top K mg "alike" Pn Â4
 t_liken:Top K mg "liken" Pm Â4
 t_liken_from:Top K mg "liken_from" Pk ÄS
 t_alike_from:Top K mg "alike_from" Pj ÄS
 t_order_at:Top K mg "order_at" Pg ÊI
 t_first_break:Top K mg "first_break" Pf ["keys"]
 t_alikes:Top K mg "alikes" Pe ["row"]
 t_refuse_break:Top K mg "refuse_break" Pd ÊK
 t_matches_up:Top K mg "matches_up" Pc ÄT
 t_read_word:Top K mg "read_word" Pb Í8
 t_read_name:Top K mg "read_name" Pa Âp
 t_read_key:Top K mg "read_key" O9 Âp
 t_read_number:Top K mg "read_number" O8 Í9
 t_are_figures:Top K mg "are_figures" O7 Âp
 t_written_key:Top K mg "written_key" O6 ["key"]
 t_written_thing:Top K mg "written_thing" O5 ÊL
 t_with_blanks:Top K mg "with_blanks" O4 ["words"]
 t_run:Top K mg "run" O3 ["text"]
 t_orders_in:Top K mg "orders_in" O2 ["text"]
 t_order_in:Top K mg "order_in" T1 ["row"]
 t_may_be_further:Top K mg "may_be_further" O1 ÊM
 t_do_row:Top K mg "do_row" O0 ÄV
 t_do_grow:Top K mg "do_grow" OZ ÄV
 t_do_drop:Top K mg "do_drop" OY Ŝ
 t_ask_coming:Top K mg "ask_coming" OX Ŝ
 t_ask_take:Top K mg "ask_take" OW Ŝ
 t_ask_left:Top K mg "ask_left" OV Ŝ
 t_ask_rows:Top K mg "ask_rows" OU Ŝ
 t_written_things:Top K mg "written_things" Ss ÇR
 t_written_heads:Top K mg "written_heads" T0 ÒY
 t_l_mix:Top K mg "_law_mix" OT ÍZ
 t_l_left:Top K mg "_law_left" OR Í0
 t_l_pick:Top K mg "_law_pick" OQ ÒV
 t_l_stems:Top K mg "_law_stems" Sr Å7
 t_l_key:Top K mg "_law_key" Sq Í1
 t_l_keys:Top K mg "_law_keys" OP ÃN
 t_l_row:Top K mg "_law_row" OO ÃN
 t_l_same:Top K mg "_law_same" So ÇN
 t_l_begun:Top K mg "_law_begun" ON []
 t_l_in_order:Top K mg "_law_in_order" Sn ÊO
 t_l_deed_due:Top K mg "_law_deed_due" OM ÒZ
 t_l_heads:Top K mg "_law_heads" OL ÁQ
 t_l_key_text:Top K mg "_law_key_text" OK Îa
 t_l_coming:Top K mg "_law_coming" OJ ÁQ
 t_l_taken:Top K mg "_law_taken" OI Îb
 t_l_rows_text:Top K mg "_law_rows_text" UM ÁQ
 t_l_ask_due:Top K mg "_law_ask_due" Sl ÊP
 t_l_names:Top K mg "_law_names" Sk Å7
 t_l_words:Top K mg "_law_words" TZ ÇQ
 t_l_deed:Top K mg "_law_deed" TY Ò1
 t_l_is_short:Top K mg "_law_is_short" Sj ÊN
 t_OutOfOrder_init:UO K mg ao ap "OutOfOrder" "OutOfOrder.__init__" Z5 ÇO
 t_BadLine_init:UO K mg au ap "BadLine" "BadLine.__init__" TX ÊJ
 t_Row_init:UR K mg aw "Row" "Row.__init__" OH Â5
 t_Row_to_go:Yj K aw "to_go" "Row.to_go" OG Ą
 t_Row_head:Yj K aw "head" "Row.head" OF Ą
 t_Row_lengthen:Yj K aw "lengthen" "Row.lengthen" OE Â5
 t_Merge_init:UR K mg am "Merge" "Merge.__init__" OD Í2
 t_Merge_coming:Yj K am "coming" "Merge.coming" OC Ą
 t_Merge_take:Yj K am "take" "Merge.take" OB Ą
 t_Merge_take_few:Yj K am "take_few" "Merge.take_few" OA Í3
 t_Merge_left:Yj K am "left" "Merge.left" Si Ą
 t_Merge_heads:Yj K am "heads" "Merge.heads" Sh Ą
 t_Merge_add_row:Yj K am "add_row" "Merge.add_row" Oz ÄU
 t_Merge_drop_row:Yj K am "drop_row" "Merge.drop_row" Oy ÁP
 t_Merge_grow:Yj K am "grow" "Merge.grow" Ox ÇP
 t_Merge_row_of:Yj K am "row_of" "Merge.row_of" Ow ÁP
 t_Merge_play_all:Yj K am "play_all" "Merge.play_all" Ov Ą
 t_Merge_play:Yj K am "play" "Merge.play" Ou Í4
 t_Merge_send_out:Yj K am "send_out" "Merge.send_out" Ot Í5
 t_Merge_play_again:Yj K am "play_again" "Merge.play_again" Oq Í6
 t_Merge_meet:Yj K am "meet" "Merge.meet" Op Í7
 t_Desk_init:UR K mg aA "Desk" "Desk.__init__" Oo Ą
 cl_Row:Cls K aw
 na_Row_all_keys:Yt K aw "all_keys"
 na_Row_fars:Yt K aw "fars"
 na_Row_gone:Yt K aw "gone"
 cl_Merge:Cls K am
 na_Merge_best:Yt K am "best"
 na_Merge_likened:Yt K am "likened"
 na_Merge_looked:Yt K am "looked"
 na_Merge_next_number:Yt K am "next_number"
 na_Merge_rows:Yt K am "rows"
 na_Merge_stays:Yt K am "stays"
 cl_Desk:Cls K aA
 na_Desk_merge:Yt K aA "merge"
 na_Desk_numbers:Yt K aA "numbers"
 g_DONE:∃tk,mg "DONE" = U (.str "done" tk)
 g_MOST_FIGURES:∃tk,mg "MOST_FIGURES" = U (.int 9 tk)
 g_MOST_KEY:∃tk,mg "MOST_KEY" = U (.int 40 tk)
 g_MOST_NAME:∃tk,mg "MOST_NAME" = U (.int 8 tk)
 g_MOST_ROWS:∃tk,mg "MOST_ROWS" = U (.int 16 tk)
 g_MOST_SIZES:∃tk,mg "MOST_SIZES" = U (.int 12 tk)
 g_NOTHING:∃tk,mg "NOTHING" = U (.str "-" tk)
 g_REFUSED:∃tk,mg "REFUSED" = U (.str "refused" tk)
 m_MergeError:mg "MergeError" = U ÄW
 m_Full:mg "Full" = U Ł
 m_NoRow:mg "NoRow" = U ł
 m_OutOfOrder:mg "OutOfOrder" = U Ĭ
 m_BadLine:mg "BadLine" = U Ķ
 x_Full:WR K aJ ÇS
 x_OutOfOrder:WR K ao ÇS
 xb_MergeError:XB K ap
 na_OutOfOrder_row:Yt K ao "row"
 na_OutOfOrder_place:Yt K ao "place"
 na_BadLine_line:Yt K au "line"
 xw_Full:XW K mg aJ ap "Full"
 xw_NoRow:XW K mg aB ap "NoRow"
 xg_Full:XG K aJ
 ki_Full_MergeError:đ K Ł ÄW=U true
 ki_Full_Full:đ K Ł Ł=U true
 ki_Full_NoRow:đ K Ł ł=U false
 ki_Full_OutOfOrder:đ K Ł Ĭ=U false
 ki_Full_BadLine:đ K Ł Ķ=U false
 ki_Full_V:đ K Ł Âo=U true
 xg_NoRow:XG K aB
 ki_NoRow_MergeError:đ K ł ÄW=U true
 ki_NoRow_Full:đ K ł Ł=U false
 ki_NoRow_NoRow:đ K ł ł=U true
 ki_NoRow_OutOfOrder:đ K ł Ĭ=U false
 ki_NoRow_BadLine:đ K ł Ķ=U false
 ki_NoRow_V:đ K ł Âo=U true
 xg_OutOfOrder:XG K ao
 ki_OutOfOrder_MergeError:đ K Ĭ ÄW=U true
 ki_OutOfOrder_Full:đ K Ĭ Ł=U false
 ki_OutOfOrder_NoRow:đ K Ĭ ł=U false
 ki_OutOfOrder_OutOfOrder:đ K Ĭ Ĭ=U true
 ki_OutOfOrder_BadLine:đ K Ĭ Ķ=U false
 ki_OutOfOrder_V:đ K Ĭ Âo=U true
 xg_BadLine:XG K au
 ki_BadLine_MergeError:đ K Ķ ÄW=U true
 ki_BadLine_Full:đ K Ķ Ł=U false
 ki_BadLine_NoRow:đ K Ķ ł=U false
 ki_BadLine_OutOfOrder:đ K Ķ Ĭ=U false
 ki_BadLine_BadLine:đ K Ķ Ķ=U true
 ki_BadLine_V:đ K Ķ Âo=U true
 kg:Ép K ÇK "__get__" = U (U #[fo,"getset_descriptor.__get__"])
 kt:Ù5 K ÇK=U true
structure Vj (K:Å) (w:aF) (mg:Ā) (bQ:ae) (bn:ae) (bp:ae):Prop where
 m_BOUNDS:mg "BOUNDS" = U (.ref bQ)
 kd_BOUNDS:KD K w bQ
 d_BOUNDS_many:∃dW:ae,ĵ K bQ "many" = U #[tk,dW]/\(∀H,SqT K H dW #[it,0,1000000])
 m_DEEDS:mg "DEEDS" = U (.ref bn)
 kd_DEEDS:KD K w bn
 d_DEEDS_row:∀f,mg "do_row" = U Ċ->ĵ K bn "row" = U Àg
 d_DEEDS_grow:∀f,mg "do_grow" = U Ċ->ĵ K bn "grow" = U Àg
 d_DEEDS_drop:∀f,mg "do_drop" = U Ċ->ĵ K bn "drop" = U Àg
 d_DEEDS_coming:∀f,mg "ask_coming" = U Ċ->ĵ K bn "coming" = U Àg
 d_DEEDS_take:∀f,mg "ask_take" = U Ċ->ĵ K bn "take" = U Àg
 d_DEEDS_left:∀f,mg "ask_left" = U Ċ->ĵ K bn "left" = U Àg
 d_DEEDS_rows:∀f,mg "ask_rows" = U Ċ->ĵ K bn "rows" = U Àg
 m_FORMS:mg "FORMS" = U (.ref bp)
 kd_FORMS:KD K w bp
 d_FORMS_row:X2 λdX fu:ae=>ĵ K bp "row" = U #[tk,fu]/\#[sv,dX]/\(∀H,SqT K H fu [.ref dX,.str "key"])
 d_FORMS_grow:X2 λdB eN:ae=>ĵ K bp "grow" = U #[tk,eN]/\#[sv,dB]/\(∀H,SqT K H eN [.ref dB,.str "key"])
 d_FORMS_drop:X2 λdC eO:ae=>ĵ K bp "drop" = U #[tk,eO]/\#[sv,dC]/\#[hg,eO,dC]
 d_FORMS_coming:X2 λcP dD:ae=>ĵ K bp "coming" = U #[tk,dD]/\(∀H,SqT K H cP [])/\#[hg,dD,cP]
 d_FORMS_take:X2 λdE eQ:ae=>ĵ K bp "take" = U #[tk,eQ]/\(∀H,SqT K H dE [.str "many"])/\#[hg,eQ,dE]
 d_FORMS_left:X2 λdF eR:ae=>ĵ K bp "left" = U #[tk,eR]/\(∀H,SqT K H dF [])/\#[hg,eR,dF]
 d_FORMS_rows:X2 λdG eS:ae=>ĵ K bp "rows" = U #[tk,eS]/\(∀H,SqT K H dG [])/\#[hg,eS,dG]
def Y3(H:Hp)(p:ae)(c:Int):Prop:=X2 λa b:Int=>H p=U (.lst [.int a,.int b,.int c])/\0<=c
def But(p:ae)(H a:Hp):Prop:=#[fg,o,H,p,a]
theorem ÄX{p:ae}{H d e:Hp}(a:But p H d)(b:But p d e):But p H e:=λc o h n=>b c o (a c o h n) n
theorem ÇT{p:ae}{H b:Hp}(a:ZB H b):But p H b:=λc o h _=>a c o h
theorem Zi{H:Hp}{p:ae}(h:H p=af)(o:HO):ZB H (upd H p o):=λb u q=>by rw[Zc (Zf q h)];exact q
theorem ē{n:Nat}(h:n<=1000):n<=aq:=QaJ (Zs h)
def Oe:Sp:=λvs H Q _=>X2 λa k:Int=>vs=#[it,a,k] /\ -(2 ^ 62)<k/\k<2 ^ 62/\∀r:Int,0<=r->r<2000000000->Q (.int r) H
def JK(K:Å):Sp:=λvs H Q _=>X3 λ(a:ae) (ns:À Int) (k:Int)=>vs=#[sl,a,k]/\SqL K H a ξ/\Ĉ<=63/\0<=k/\k<100 /\
 ∀ (p:ae) (b:Hp),H p=af->Y3 b p 0->ZB H b->Q Ū b
def Vi:Sp:=λvs H Q _=>X3 λ(p:ae) (c m:Int)=>vs=#[sl,p,m]/\Y3 H p c/\c<2 ^ 60/\0<m/\m<1000000 /\
 ∀ (r:Int) (a:Hp),0<=r->r<m->Y3 a p (c+1)->But p H a->Q (.int r) a
theorem ZuJ{ns:Ø}{k:Int}(h0:0<=k)(h:k<(Ĉ:Int)):∃v:Int,atI ξ k=U (.int v):=by
 have a:Ãy<Ĉ:=by lia
 have b:k=ÇU:=by lia
 have q:atI ξ ÇU=U (.int ns[Ãy]):=XZ #[iB,a];rw[<- b]at q;exact(_,q)
theorem Oc{ss:Ñ}{k:Int}(h0:0<=k)(h:k<Ò5):∃s∈ss,atI Ào k=U (.str s):=by
 have a:Ãy<ī:=by lia
 have b:k=ÇU:=by lia
 have q:atI Ào ÇU=U (.str ss[Ãy]):=XZ #[iB,a];rw[<- b]at q;exact(_,Q4 a,q)
theorem JJ(b:Ï):-(2 ^ 64)<Ò6/\Ò6<2 ^ 64:=by cases b<;>decide
theorem Tw{z:ak}{k:Int}(h0:0<=k)(h:k<(Ľ:Int)):∃c:Nat,Âa[Ãy]? = U c/\atI Âa k=U c:=by
 have hl:Õ7:=by simp[ÉB]
 have a:Ãy<Ù6:=by lia
 have b:k=ÇU:=by lia
 have q:atI Âa ÇU=U Âa[Ãy]:=XZ (Qb a);rw[<- b]at q;exact(_,Qb a,q)
theorem JI(sep:ak)(ys:Ñ):(ÖN).length<=#[yz].sum+ĥ*ÌI:=by
 have e:ÀJ sep ys=Àt sep ys:=by simpa using ÊE sep ys
 rw[e];exact StrLaws.join_length_le sep ys
theorem JH:∀ss:À ak,#[tu,ss,1]->(ss.map Âq).sum<=ī
 | [],_=>Qf _
 | s::r,h=>by have h1:=h s Qal;have h2:=#[sU,JH,x,a];rw[Qj,QR,QA];lia
def lcp:À Nat->À Nat->Nat
 | a::r,b::s=>if a=b then lcp r s+1 else 0
 | _,_=>0
theorem Tv:∀ (x y:À Nat),lcp x y<=Č/\lcp x y<=ů
 | [],_=>(Qs _,Qs _)
 | _::_,[]=>(Qs _,Qs _)
 | a::r,b::s=>by
  have h:=Tv r s;unfold lcp;split
  ·exact(Ò7 h.1,Ò7 h.2)
  ·exact(Qs _,Qs _)
theorem Vh:∀ (x y:À Nat),lcp x y=lcp y x
 | [],[]=>rfl
 | [],_::_=>rfl
 | _::_,[]=>rfl
 | a::r,b::s=>by
  unfold lcp;by_cases h:a=b
  ·rw[Æ h,Æ h.symm,Vh r s]
  ·rw[Ç h,Ç λe=>h Ã3]
theorem JG:∀x:À Nat,lcp x x=Č
 | []=>rfl
 | a::r=>by unfold lcp;rw[Æ rfl,JG r];rfl
theorem UF(x:ţ):lcp x []=0:=by cases x<;>rfl
theorem ÊQ(x:ţ):lcp [] x=0:=by cases x<;>rfl
theorem JF:∀ (x y:À Nat) (k:Nat),k<=lcp x y->∀a,x[k]? = U a->y[k]? = U a->k+1<=lcp x y
 | [],_,k,_,a,h,_=>by simp at h
 | _::_,[],k,_,a,_,h=>by simp at h
 | a::r,b::s,0,_,c,h1,h2=>by simp at h1 h2;unfold lcp;rw[Æ (by rw[h1,h2])];lia
 | a::r,b::s,k+1,h,c,h1,h2=>by
  rw[zB,lcp,h];by_cases e:a=b
  ·rw[Æ e]at h ⊢;have:=JF r s k Á c #[eg,h1] #[eg,h2];lia
  ·rw[xG];lia
theorem JE:∀ (x y:À Nat) (k:Nat),k<lcp x y->x[k]? = y[k]?
 | [],_,k,h=>by unfold lcp at h;lia
 | _::_,[],k,h=>by unfold lcp at h;lia
 | a::r,b::s,0,h=>by
  unfold lcp at h;by_cases e:a=b
  ·simp[e]
  ·rw[xG];lia
 | a::r,b::s,k+1,h=>by
  unfold lcp at h;by_cases e:a=b
  ·rw[sX,e,h];simpa using JE r s k Á
  ·rw[xG];lia
theorem Ob(x y:ţ)(k:Nat)(h:k<=lcp x y)(n:Č<=k\/ů<=k\/X2 λa b=>x[k]? = U a/\y[k]? = U b/\a≠b):lcp x y=k:=by
 have l:=Tv x y;rcases n with n|n|⟨a,b,c,d,ne⟩
 ·lia
 ·lia
 ·by_cases q:k<lcp x y
  ·have:=JE x y k q;rw[c,d]at this;exact Ê (Qw this) ne
  ·lia
theorem Oa:∀ (x y z:À Nat),#[zL,y,x,z,y]\/#[zL,y,y,z,x]\/#[zL,z,x,y,y]
 | [],y,z=>.inr (.inl #[s7,ÊQ,ÊQ])
 | x,[],z=>.inl #[s7,UF,ÊQ]
 | x,y,[]=>.inr (.inr #[s7,UF,UF])
 | a::r,b::s,c::t=>by
  have ih:=Oa r s t;unfold lcp;by_cases f:a=b
  ·by_cases d:b=c
   ·rw[Æ f,Æ d,Æ (f.trans d)];lia
   ·rw[Æ f,Ç d,Ç λe=>d ÑW];lia
  ·rw[zE,f];by_cases d:b=c
   ·rw[Æ d,Ç λe=>f ÑX];lia
   ·rw[zE,d];lia
abbrev cds(z:ak):À Nat:=Âa
def AZ(z:ak):Prop:=∀c∈cds z,97<=c/\c<=122
theorem JD(x y:ak):cds (x++y)=cds x++cds y:=by show (x++y).cps.toList=_;rw[PySem.Str.cps_append];simp
theorem AZ.app{x y:ak}(a:AZ x)(b:AZ y):AZ (x++y):=λc h=>by rw[JD]at h;exact(ë h).elim (a c) (b c)
theorem AZ.nil:AZ "":=by unfold AZ cds;ac_rfl
theorem AZ.join:∀ys:À ak,(∀s∈ys,AZ s)->AZ (Àt "" ys)
 | [],_=>λc h=>by cases (show c∈([]:À Nat) from h)
 | [x],h=>h x Ö
 | x::y::r,h=>((h x Ö).app AZ.nil).app (AZ.join (y::r) λs hs=>h s (Qm _ hs))
theorem AZ.joinT(ys:Ñ)(h:∀s∈ys,AZ s):AZ (ÀJ "" ys):=by
 have e:ÀJ "" ys=Àt "" ys:=by simpa using ÊE "" ys
 rw[e];exact AZ.join ys h
theorem AZ.one{z:ak}(a:AZ z){k:Nat}{c:Nat}(h:Âa[k]? = U c):AZ ź:=λd hd=>by
 have e:d=c:=by simpa using hd
 rw[e];exact a c (Qn h)
theorem AZ.ok{z:ak}(a:AZ z):Îg z=true:=by unfold Îg;rw[ÑZ];intro i hi;have:=a Âd[i] Ö;exact ÑV
def R9:Sp:=λvs H Q _=>X2 λx y:ak=>vs=[.str x,.str y]/\Č<=1000/\ů<=1000/\Q #[sD,lcp] H
def R8:Sp:=λvs H Q _=>X3 λ(x y:ak) (a:Nat)=>vs=#[zJ,a]/\Č<=1000/\ů<=1000/\a<=lcp ý Ĕ/\Q #[sD,lcp] H
def IsD(H:Hp):Nat->V->V->Prop
 | 0,_,_=>ė
 | n+1,x,y=>(x=y/\(x=.non\/(∃b,x=.bl b)\/(∃i,x=.int i)\/∃s,x=.str s)) \/
   (X4 λ(p q:ae) (xs ys:À V)=>x=.ref p/\y=.ref q/\((H p=U ÀE/\H q=U ÁE)\/(H p=U Β/\H q=U (.tup ys)))/\ã=ĥ/\ã<=1000/\∀ (i:Nat) (x y:V),xs[i]? = U x->ys[i]? = U y->IsD H n x y)
theorem IsD.mono{H c:Hp}(s:ZB H c):∀ {n:Nat} {x y:V},IsD H n x y->IsD c n x y
 | 0,_,_,h=>Àl
 | n+1,x,y,h=>by
  rcases h with h|⟨p,q,xs,ys,d,e,h,hl,hz,f⟩
  ·exact .inl h
  ·refine .inr (p,q,xs,ys,d,e,?_,hl,hz,λi x y a b=>(f i x y a b).mono s);rcases h with⟨a,b⟩|⟨a,b⟩
   ·exact .inl (s _ _ a,s _ _ b)
   ·exact .inr (s _ _ a,s _ _ b)
def JC(n:Nat):Sp:=λvs H Q _=>X2 λx y:V=>vs=[x,y]/\IsD H n x y/\∀a,ZB H a->Q ÆN a
section
variable (K:Å)
open PySem.W
theorem ZoX:ÁR K Äd ÇV=U false:=by unfold ÁR ķ υ;rfl
theorem ZqN:ÁR K ÊR ÇV=U false:=by unfold ÁR ķ υ;rfl
theorem Zoe:ÁR K ÁF ÇV=U false:=by unfold ÁR ķ υ;rfl
theorem Zor:ÁR K #[iy,"NoneType"] ÇV=U false:=by unfold ÁR ķ υ;rfl
theorem ZoF:ÁR K ÂK ÇV=U true:=by unfold ÁR ķ υ;rfl
theorem Zom:ÁR K ÊS ÇV=U true:=by unfold ÁR ķ υ;rfl
theorem JB:ķ K ÂK ÂK=U true:=by unfold ķ υ;rfl
theorem JA:ķ K ÂK ÊS=U false:=by unfold ķ υ;rfl
theorem Jz:ķ K ÊS ÂK=U false:=by unfold ķ υ;rfl
theorem Jy:ķ K ÊS ÊS=U true:=by unfold ķ υ;rfl
theorem ZoN:ķ K Äd ÁF=U false:=by unfold ķ υ;rfl
theorem Jx:ķ K Äd ÊR=U false:=by unfold ķ υ;rfl
theorem Zoq:ķ K Äd Äd=U true:=by unfold ķ υ;rfl
theorem R7:ķ K ÁF ÁF=U true:=by unfold ķ υ;rfl
theorem Jw:ķ K #[iy,"NoneType"] ÁF=U false:=by unfold ķ υ;rfl
theorem ZpY:ķ K ÊR ÁF=U false:=by unfold ķ υ;rfl
theorem Jv:ķ K ÊR ÊR=U true:=by unfold ķ υ;rfl
universe E
section
variable {P:ay} {w:aF} {K:Å} {mg:ak->Ã aa} {Â:aI} {aw am aA ap aJ aB ao au bQ bn bp:ae}
theorem Zvk(T:Ù):Df P w K mg Â 1 "_law_mix" ÍZ Oe:=by
 rw[ed,T.t_l_mix.df,J4,b,hr];rw[gm,a,k,k1,k2];refine(_,#[Zd,#[Zu,2,J4.nd,à,#[ZK,U2,#[ZK,V5,#[ZK,XR,#[ZK,XR,#[rZ,U2,0],#[ZK,V5,#[s8,V5,1,1],Û]],Û],Û],Û]],#[Zh,#[Zm,#[ZK,U2,#[s8,V5,2,2],Û]]]],_,rfl,_,_,rfl,rfl,Ò8,_,rfl,_,rfl,_,_,rfl,rfl,.inl ÃF,_,_,rfl,rfl,.inr ÇW,_,_,rfl,rfl,_,_,rfl,rfl,_,_,rfl,rfl,.inr ÇW,_,_,rfl,rfl,Ò8,?_);have m0:=Ò9 Ù7 (show (2147483647:Int)≠0 by decide);have m1:=Qa6 Ù7 (show (0:Int)<2147483647 by decide);refine(_,rfl,_,rfl,_,_,rfl,rfl,.inl ÃF,_,_,rfl,rfl,Ò8,?_);exact q _ (Ò9 _ É) (Int.lt_trans (Qa6 _ É) É)
theorem ZsG(T:Ù):Df P w K mg Â 1 "_law_left" Í0 (JK K):=by
 rw[ed,T.t_l_left.df,J3,i,hr];obtain a|ns|k|rfl|d|BP|j|k1|q:=h;refine(_,#[Zd,#[Zu,2,J3.nd,à,#[Z4,#[eq,WT,1,ÇX],#[rQ,Τ,0,1],Û]],#[Zh,#[Zm,#[ZZ,#[Ze,#[ZK,V5,Ù8,#[W4,LX,Îh,Îi,#[Ze,#[XQ,Rk,Ù8,#[ZK,Zuy,Û,Û],þ]]]],#[ZK,XR,‹2›,#[ZK,V5,Û,‹1›]],Û]]]]],?_);have l:(ξ).length=Ĉ:=Qa _;have e:Ml 10 18:=(by decide,by decide,by decide);refine(_,rfl,_,rfl,a,_,rfl,.inl d,_,_,rfl,rfl,_,rfl,?_);rw[fQ,c]
 ·have g:k<Ù9:=Ŀ c;rw[l]at g;obtain v|m:=ZuJ (ns:=ns) j g;refine(_,rfl,_,rfl,a,_,_,_,rfl,rfl,d,m,_,rfl,_,rfl,_,rfl,_,rfl,_,_,rfl,rfl,e,_,_,rfl,rfl,.inr Úa);exact Úb
 ·refine(_,rfl,_,rfl,_,rfl,_,rfl,_,_,rfl,rfl,e,_,_,rfl,rfl,.inr Úa);exact Úb
theorem Zsv(T:Ù)(j:Úc):Df P w K mg Â 2 "_law_pick" ÒV Vi:=by
 rw[ed,T.t_l_pick.df,J2,t,k];obtain p|c|m|rfl|⟨a,b,l,c0⟩|c1|i|m1|q:=h;refine(_,#[Zd,#[YC,#[ZK,XR,Å8,Û],#[Xg,‹0›,Û,LF]],#[Zd,#[ZN,#[il,Wk,Å8],#[Zd,#[Zu,2,J2.nd,à,#[ZK,U2,Å8,‹1›]],#[Zd,#[YC,#[ZK,Rl,Å8,‹1›],#[Xg,‹0›,Û,LF]],ÄY]],ï],#[Zh,#[Zm,#[ZK,U2,#[ZK,Rl,#[Zz,j,k,#[Ze,#[Zz,j,k,#[Ze,Å8,Å8],È],#[ZK,XR,Å8,Û]],È],Û],‹1›]]]]],?_);rw[rM,g,H,p,Ü3];refine(_,rfl,p,_,_,_,rfl,rfl,Í l,rfl,_,_,rfl,rfl,_,rfl,p,_,_,2,rfl,rfl,l,rfl,_,rfl,p,_,_,_,rfl,rfl,Í g,rfl,_,_,rfl,rfl,_,rfl,?_);refine Y1 ž ž
 ·refine(_,rfl,p,_,_,_,rfl,rfl,Í g,rfl,_,rfl,_,_,rfl,rfl,i,_,rfl,p,_,_,_,rfl,rfl,Í g,rfl,_,rfl,_,_,rfl,rfl,(i,by lia),_,rfl,p,_,_,0,rfl,rfl,g,rfl,_,rfl,?_);refine q _ _ Úd (Qa6 _ i) (a / m,b,Zb,by lia) λe o h n=>?_;rw[Zc n,Zc n];exact h
 ·refine(_,rfl,p,_,_,_,rfl,rfl,Í g,rfl,_,rfl,p,_,_,_,rfl,rfl,Í g,rfl,_,_,rfl,by lia,by lia,λr r0 r1=>?_);refine(_,rfl,p,_,_,_,rfl,rfl,Í g,rfl,_,_,rfl,rfl,_,_,rfl,by lia,by lia,λr' ur jX=>?_);refine(_,_,rfl,rfl,ÇW,_,rfl,_,_,rfl,rfl,i,?_);refine q _ _ Úd (Qa6 _ i) (a,b,Zb,by lia) λe o h n=>?_;rw[Zc n];exact h
def Wv:À ak:=["", "a", "ab", "aba", "abab", "b", "zebra", "aaaaaaaa", "knowswho", "z", "abababababab",ÌJ "a" 24]
theorem Zlp:∀s∈Wv,ŝ<=24:=by ac_rfl
theorem Zl5:∀s∈Wv,AZ s:=by unfold AZ cds;ac_rfl
def Ju:Sp:=λvs H Q _=>X2 λ(p:ae) (c:Int)=>vs=Ν/\Y3 H p c/\c<2 ^ 50 /\
 ∀ (l:ae) (a:À ak) (d:Int) (b:Hp),H l=af->b l=U #[en,ŕ]->1<=ľ->ľ<=4->#[fJ,a,24]->Y3 b p d->c<=d->d<=c+5->But p H b->Q ć b
def N9:Sp:=λvs H Q _=>X4 λ(p l:ae) (c:Int) (ss:À ak)=>vs=#[rY,p,l]/\Y3 H p c/\c<2 ^ 50/\H l=U ÃO/\1<=ī/\ī<=4/\ÊT /\
 ∀ (z:ak) (a:Int) (b:Hp),Ľ<=28->AZ z->Y3 b p a->c<=a->a<=c+7->But p H b->Q (.str z) b
theorem Zp1(T:Ù)(aX:ÇY):Df P w K mg Â 3 "_law_stems" Å7 Ju:=by
 rw[h0,T.t_l_stems.df,J1];rw[gm,p,c,G,c1];refine(_,#[Zd,#[Zu,1,J1.nd,ÂM,#[ZZ,#[Za,Ý,#[Za,Ý,#[Za,Ý,#[Za,Ý,#[Za,Ý,#[Za,Ý,#[Za,Ý,#[Ze,Ý,Ý,Ý,Ý,#[ZK,Lq,Ý,Û]]]]]]]]]]],#[Zh,#[Zm,#[XX,TK,#[V6,ÇZ,#[Ze,#[ZK,XR,Û,#[Zz,aX,hr,#[Ze,ÊU,Û],È]]]],#[fO,2,TK],Η,(λ_ _ _ _=>#[ZD,Τ,#[cv,1,TK],#[Zz,aX,hr,#[Ze,#[cv,0,TK],Û],#[hb,TK]]])]]]],?_);refine(_,_,rfl,rfl,by decide,by decide,by decide,#[eJ,12,aq],λl hl=>?_);have I:p≠l:=by obtain a|b|d|_:=G;exact Zf d hl
 have J:Y3 Îj p c:=by obtain a|b|d|y:=G;rw[gJ,I,d,y]
 refine(_,rfl,p,c,_,rfl,J,by lia,by decide,by decide,λr H1 r0 r1 L1 z=>?_);refine(_,_,rfl,rfl,_,rfl,by lia,by lia,λD j=>?_);have y:0<=c:=by obtain a|b|d|y:=G;exact y
 have yC:H1 l=U Îk:=z l _ Zb I.symm;have m:p≠D:=by obtain a|b|d|_:=L1;exact Zf d j
 have B:l≠D:=Zf yC j;refine PR (λi C L k=>X3 λ(ss:À ak) (v:Ã V) (g:Int)=>L=[U Ū,U ć,v]/\C=ss.map Ä/\ī=i/\ÊT/\Y3 k p g/\c+1<=g/\g<=c+1+i /\
   k l=U Îk/\k D=U (.lst C)/\But p H k) ?_ ?_ ?_
 ·refine([],af,c+1,rfl,rfl,rfl,#[eB,s,t],?_,by lia,by lia,?_,Zb,?_)
  ·rw[f9,d,M,L1,m]
  ·rw[Zc B];exact yC
  ·intro b o e n;have e1:Îj b=U o:=by rw[Zc (Zf e hl)];exact e
   have F:=z b o e1 n;rw[sy,F,j];exact F
 ·rintro i C L k hi ⟨ss,v,g,rfl,rfl,N,t,O,b1,b2,bN,R,S⟩;refine(_,rfl,_,rfl,p,g,_,rfl,O,by lia,by decide,by decide,λr' H3 ur jX L3 W=>?_);obtain s|gc|iK:=Oc (ss:=Wv) ur jX;have m3:H3 D=U ÃO:=W D _ R m.symm;have fb:H3 l=U Îk:=W l _ bN I.symm;refine(l,_,_,_,rfl,rfl,Í fb,iK,m3,#[eA,N],ss++[s],_,g+1,rfl,?_,?_,?_,?_,by lia,by lia,?_,Zb,?_)
  ·rw[Qe];rfl
  ·rw[Qi,N];rfl
  ·intro x hx;rcases ë hx with hx|hx
   ·exact t x hx
   ·rw[vd];exact(Zlp s gc,Zl5 s gc)
  ·rw[f9,d,M,L3,m]
  ·rw[Zc B];exact fb
  ·intro b o e n;have F:=W b o (S b o e n) n;have X:H D=af:=by
    cases Y:H D with
    | none=>rfl
    | some u =>
     have BQ:D≠p:=m.symm;have Z:Îj D=U u:=by rw[Zc ÇG];exact Y
     rw[z D u Z BQ]at j;cases j
   rw[sy,e,X];exact F
 ·rintro C L k ⟨ss,v,g,rfl,rfl,N,t,O,b1,b2,bN,R,S⟩;have X:H D=af:=by
   cases Y:H D with
   | none=>rfl
   | some u =>
    have Z:Îj D=U u:=by rw[Zc ÇG];exact Y
    rw[z D u Z m.symm]at j;cases j
  exact q D ss g k X R Á Á t O Á Á S
theorem Zl2(b:Ï):∃z:ak,atI [Ä "ababcz",Ä "abcdefghijklmnopqrstuvwxyz"] Ò6=U (.str z)/\AZ z/\0<Ľ/\Ľ<=26:=by
 cases b
 ·exact Úe
 ·exact Úe
theorem Zup(T:Ù)(C:ÇY):Df P w K mg Â 3 "_law_key" Í1 N9:=by
 rw[ed,T.t_l_key.df,Om,vs,F];obtain p|l|c|ss|rfl|G|c1|O|n1|n4|qv|q:=h;refine(_,#[Zd,#[Zu,2,Om.nd,ÂM,#[ZD,Τ,#[ZZ,#[Ze,Ý,Ý]],#[W4,LX,Îh,Îi,#[Ze,#[XQ,YS,Úf,Û,þ]]]]],#[Zd,#[Zu,3,Om.nd,à,#[YN,Q0,Qaj,Qak,(UU K),Ý,#[Ze,#[XX,Vn,#[tB,Úf],#[fO,4,Vn],Η,(λ_ _ _ _=>#[ZD,UZ,#[cv,2,Vn],#[Zz,C,F,#[Ze,#[cv,0,Vn],#[Zo,WK,#[hb,Vn],Ái,Qy,#[Ze,#[cv,2,Vn]]]],#[hb,Vn]]])]]]],#[Zh,#[Zm,#[ZK,VD,#[ZD,Τ,‹1›,#[Zz,C,F,#[Ze,ÊU,Îl],È]],‹3›]]]]],?_);have I:0<=c:=by obtain a|b|g|I:=G;exact I
 have R:p≠l:=by
  obtain a|b|g|_:=G;refine Rt g O λe=>?_;have e1:=ō Óa Îm;cases ss with
  | nil=>cases e1
  | Î x r=>exact Ê Îm ÁL
 refine(Á6,λt kE=>?_);have EX:p≠t:=by obtain a|b|g|_:=G;exact Zf g kE
 have S:Y3 (upd H t Úg) p c:=by obtain a|b|g|I:=G;rw[gJ,EX,g,I]
 refine(_,rfl,p,c,_,rfl,S,by lia,by decide,by decide,λd H0 d0 d1 L0 B0=>?_);have BR:H0 t=U Úg:=B0 t _ Zb EX.symm;have W:But p H H0:=#[iD,kE].trans B0;obtain X|yD|Y|z0|z26:=Zl2 (decide (ì d=ì 0));refine(rfl,.inr (_,rfl,t,_,_,_,rfl,rfl,Í BR,yD,?_));refine(rfl,_,rfl,p,c+1,_,rfl,L0,by lia,by decide,by decide,λr H1 r0 r1 L1 Z=>?_);have B1:But p H H1:=W.trans Z;refine(_,rfl,by lia,by lia,λD J=>?_);have L:p≠D:=by obtain a|b|g|_:=L1;exact Zf g J
 have yC:=B1 l _ O R.symm;have we:l≠D:=Zf yC J;have EY:H D=af:=by
  cases w':H D with
  | none=>rfl
  | some u=>rw[B1 D u w' L.symm]at J;cases J
 refine PR (λi M σ y=>X3 λ(j:À ak) (v:Ã V) (k:Int)=>σ=[U Ū,U ć,U (.str X),af,v]/\M=ÅX Ä/\Äc=i/\#[fJ,j,1]/\Y3 y p k/\c+2<=k/\k<=c+2+i /\
   y D=U (.lst M)/\But p H y) ?_ ?_ ?_
 ·refine([],af,c+1+1,rfl,rfl,rfl,#[eB,s,m],?_,by lia,by lia,Zb,?_)
  ·rw[f9,g,q0,L1,L]
  ·intro b o e n;rw[sy,e,EY];exact B1 b o e n
 ·rintro i M σ y hi ⟨j,v,k,rfl,rfl,hn,m,rP,b1,b2,bR,N⟩;refine(_,rfl,_,rfl,_,rfl,X,rfl,ē Á,p,k,_,rfl,rP,by lia,by lia,by lia,λr' H3 ur jX L3 B=>?_);obtain ch|hcm|iJ:=Tw (z:=X) ur jX;have m3:H3 D=U #[en,ÅX]:=B D _ bR L.symm;refine(_,_,_,rfl,rfl,ē Á,iJ,m3,#[eA,hn],j++[⟨#[ch]⟩],_,k+1,rfl,?_,?_,?_,?_,by lia,by lia,Zb,?_)
  ·rw[Qe];rfl
  ·rw[Qi,hn];rfl
  ·intro x hx;rcases ë hx with hx|hx
   ·exact m x hx
   ·rw[vd];exact(Qf 1,Y.one hcm)
  ·rw[f9,g,q0,L3,L]
  ·intro b o e n;rw[sy,e,EY];exact B b o (N b o e n) n
 ·rintro M σ y ⟨j,v,k,rfl,rfl,hn,m,rP,b1,b2,bR,N⟩;have oR:=JH j λs h=>(m s h).1;have lZ:=JI "" j;have e0:#[gB,"",0]:=by ac_rfl
  rw[e0]at lZ;have bN:=N l _ O R.symm;refine(_,D,j,rfl,rfl,Í bR,#[fL,e0],?_);have aZ:(((Ào).length:Nat):Int)=Ò5:=by rw[Qa]
  refine(_,rfl,_,rfl,_,rfl,l,_,rfl,.inl (Í bN),p,k,_,rfl,rP,by lia,by lia,by lia,λr' H3 ur jX L3 B=>?_);obtain st|gc|iK:=Oc (ss:=ss) ur Á;have bO:=(qv st gc).1;refine(l,_,_,_,rfl,rfl,Í (B l _ bN R.symm),iK,_,rfl,_,_,rfl,rfl,ē Á,?_);refine q _ (k+1) H3 ?_ ((qv st gc).2.app (AZ.joinT j λs h=>(m s h).2)) L3 Á Á (N.trans B);rw[QI];lia
theorem Ziz(T:Ù):Df P w K mg Â 1 "alike_from" ÄS R8:=by
 rw[ed,T.t_alike_from.df,Ol,F,hr];obtain x|y|c|rfl|r|t|G|q:=h;refine(_,#[Zd,#[sF,Ol.nd,2],#[Zd,(@Rp _ _ _ _ _ _ χ (@Ř _ _ _ #[Xt,#[eq,WT,3,Ç0],#[Xt,#[g0,WT,3],#[Xh,#[Zk,YS,#[rQ,UZ,0,3],#[rQ,UZ,1,3],þ]]]]) #[Zh,(@Zu5 _ _ 3 _ _ _ _ _ _ Ol.nd rfl à Û ZtU ÊV)]),#[fq,3]]],_,rfl,?_);have lx:(ý).length=Č:=by simp[ÉB]
 have ly:(Ĕ).length=ů:=by simp[ÉB]
 have ll:=Tv ý Ĕ;refine(λm u g=>∃k:Nat,u=[U Åu,U (.str y),U (.int c),U (.int k)]/\g=H/\k<=lcp ý Ĕ/\m=lcp ý Ĕ-k,(_,c,rfl,rfl,G,rfl),?_);rintro m u g ⟨k,rfl,rfl,d,rfl⟩;refine(_,rfl,_,rfl,x,rfl,ē r,_,_,rfl,rfl,_,rfl,?_);rw[fQ,i]
 ·have v:(k:Int)<Ób:=Ŀ i;refine(_,rfl,_,rfl,y,rfl,ē t,_,_,rfl,rfl,_,rfl,?_);rw[fQ,j]
  ·have B:(k:Int)<(ů:Int):=Ŀ j;obtain a|l|I:=Tw (z:=x) (k:=k) Á v;obtain b|n|J:=Tw (z:=y) (k:=k) Á B;rw[Qa9]at l n;refine(_,rfl,_,rfl,x,_,a,rfl,rfl,ē r,I,_,rfl,_,rfl,y,_,b,rfl,rfl,ē t,J,rfl,_,rfl,?_);rw[fQ,o]
   ·have p:a=b:=by have:=Ŀ o;injection this with e;injection e with e;simpa using e
    subst p;have:=JF _ _ k d a l n;refine(λC D=>C=[U Åu,U (.str y),U (.int c),U În]/\D=g,λC D ⟨L,M⟩=>(_,?_,k+1,L,M,this,rfl),?_)
    ·lia
    ·exact(_,rfl,_,_,rfl,rfl,rfl,rfl)
   ·refine ÍX;have e:=Ob _ _ k d (.inr (.inr (a,b,l,n,λe=>o (by subst e;exact Îo))));rw[e]at q;exact q
  ·refine Y8 ÍX;have B:¬ (k:Int)<(ů:Int):=Âh (Óc j);have e:=Ob _ _ k d #[s9,Á];rw[e]at q;exact q
 ·refine Y8 ÍX;have v:¬ (k:Int)<Ób:=Âh (Óc i);have e:=Ob _ _ k d (.inl Á);rw[e]at q;exact q
theorem ZpW(T:Ù)(a:Ód):Df P w K mg Â 2 "alike" Â4 R9:=by
 rw[ed,T.t_alike.df,Zrq,b,c];rw[gm,x,y,d,e];refine(_,#[Zh,#[Zm,#[Zz,a,c,#[Ze,‹0›,‹1›,Û],È]]],?_);exact(_,rfl,_,rfl,x,y,0,rfl,d,e,Qs _,q)
theorem Y0{c A B:Prop}[ÉO c](hc:c)(h:A):if decide c=true then A else B:=by rw[Æ (ě hc)];exact h
theorem YO{c A B:Prop}[ÉO c](hc:¬ c)(h:B):if decide c=true then A else B:=by rw[Ç (by rw[ĕ hc];exact Qu)];exact h
theorem Jt(T:Ù):∀n:Nat,Df P w K mg Â (n+1) "_law_same" ÇN (JC n)
 | 0=>by
  rw[wh]
  ·obtain x|y|rfl|_:=h;rfl
  obtain x|y|rfl|h|_:=h;exact Àl
 | n+1=>by
  have iI:=Jt T n;rw[wh]
  ·obtain x|y|rfl|_:=h;rfl
  rw[tg,x,y,t];refine(_,#[Zd,#[ZN,#[Xi,#[Zo,(Zwz K),È,ÊW,ÊX,#[Ze,‹1›,#[Yx,#[Ze,#[XF,ÊY,ÊZ],#[XF,Óe,Óf]]]]]],#[Zd,#[ZN,(@Ř _ _ _ #[W5,#[Zk,VE,#[ey,0,ÊY,ÊZ],#[ey,1,ÊY,ÊZ],þ],#[W6,#[Zk,VE,#[ey,0,Óe,Óf],#[ey,1,Óe,Óf],þ]]]),Îp,ï],#[Zh,#[Zm,(@Ur _ _ _ _ _ _ _ #[XQ,YS,ÇX,Îl,þ] (@Us _ _ _ _ _ #[Zo,(Ll K),È,T.b.n_all,boot_all,#[Ze,#[XX,UK,#[iZ,K,Óg,#[e5,0,1]],#[ex,2,UK,3],Η,(λ_ _ _ _=>#[Zz,iI,hr,#[Ze,#[cw,2,UK],#[cw,3,UK]],#[hb,UK]])]]]))]]],ï],#[Zd,#[ZN,(@Ř _ _ _ #[W5,#[g6,1],#[W6,#[Xi,Úh]]]),#[Zh,#[Zm,(@Ur _ _ _ _ _ _ _ Óh (@Us _ _ _ _ _ #[XQ,YS,Úi,Úh,þ]))]],ï],#[Zd,#[ZN,#[Xi,#[ey,1,T.b.n_bool,boot_bool]],#[Zh,#[Zm,(@Ur _ _ _ _ _ _ _ Új (@Us _ _ _ _ _ Óh))]],ï],#[Zh,#[Zm,(@Ur _ _ _ _ _ _ _ #[ey,0,Îh,Îi] (@Ur _ _ _ _ _ _ _ (@Zu2 _ _ _ _ Új) (@Us _ _ _ _ _ Óh)))]]]]],?_);refine(_,rfl,Á6,λc u=>?_);have O:ZB H Ç1:=Zi u _;rcases t with⟨rfl,rfl|⟨b,rfl⟩|⟨i,rfl⟩|⟨z,rfl⟩⟩|⟨p,m,xs,ys,rfl,rfl,⟨v,B⟩|⟨v,B⟩,hl,hz,hi⟩
  ·refine(_,c,Ç2,_,_,rfl,Zb,.non,Zor K,_,rfl,Y8 ?_);refine(_,rfl,rfl,_,rfl,Y0 rfl (YM ?_));refine Úk;exact(_,rfl,_, "str",_,_,rfl,.non,Jw K,_,rfl,_, "str",_,_,rfl,.non,Jw K,rfl,q _ O)
  ·refine(_,c,Ç2,_,_,rfl,Zb,.bl b,ZqN K,_,rfl,Y8 ?_);refine Îq;refine(_,rfl,_, "str",_,_,rfl,.bl b,ZpY K,_,rfl,Y8 ?_);refine Úl;refine Úl;refine Úm;have e:decide (V.bl b=V.bl b)=true:=Îo;rw[e];exact q _ O
  ·refine(_,c,Ç2,_,_,rfl,Zb,.int i,ZoX K,_,rfl,Y8 ?_);refine Îq;rw[se,"str",ZoN,Y8];rw[se,"bool",Jx,Y8];rw[se,"int",Zoq,YM];refine(_,rfl,_, "bool",_,_,rfl,.int i,Jx K,_,rfl,_,rfl,YM ?_);refine Úm;have e:decide (ì i=ì i)=true:=Îo;rw[e];exact q _ O
  ·refine(_,c,Ç2,_,_,rfl,Zb,.str z,Zoe K,_,rfl,Y8 ?_);refine Îq;refine(_,rfl,_, "str",_,_,rfl,.str z,R7 K,_,rfl,YM ?_);refine Úk;exact(_,rfl,_, "str",_,_,rfl,.str z,R7 K,_,rfl,_, "str",_,_,rfl,.str z,R7 K,rfl,q _ O)
  ·have j:Ç1 p=U ÀE:=by rw[Zc (Zf v u)];exact v
   have g:Ç1 m=U ÁE:=by rw[Zc (Zf B u)];exact B
   refine(_,c,Ç2,_,_,rfl,Zb,.lst g,ZoF K,_,rfl,YM ?_);refine(_,rfl,_, "list",_,_,rfl,.lst j,JB K,_,rfl,_, "list",_,_,rfl,.lst g,JB K,rfl,_,rfl,UX rfl ?_);refine(_,rfl,_, "tuple",_,_,rfl,.lst j,JA K,_,rfl,_, "tuple",_,_,rfl,.lst g,JA K,rfl,_,rfl,UX rfl ?_);refine(_,rfl,p,xs,rfl,.inl (Í j),_,rfl,m,ys,rfl,.inl (Í g),rfl,_,rfl,Y0 (by rw[hl]) ?_);refine(_,rfl,_,rfl,.l p,.l m,xs,ys,rfl,Í j,Í g,λD t=>?_);rw[52]
   ·exact Ún
   ·rintro i zs k a ⟨_,_,d,_⟩;exact(Í (d _ _ v),Í (d _ _ B))
   ·rw[D]
    ·rw[Úo]
    ·rw[cf]
   ·rw[ar];have e:Úp:=by rw[Qae];rw[qf]
    rw[e];exact q a d
  ·have j:Ç1 p=U Β:=by rw[Zc (Zf v u)];exact v
   have g:Ç1 m=U (.tup ys):=by rw[Zc (Zf B u)];exact B
   refine(_,c,Ç2,_,_,rfl,Zb,.tup g,Zom K,_,rfl,YM ?_);refine(_,rfl,_, "list",_,_,rfl,.tup j,Jz K,_,rfl,_, "list",_,_,rfl,.tup g,Jz K,rfl,_,rfl,UX rfl ?_);refine(_,rfl,_, "tuple",_,_,rfl,.tup j,Jy K,_,rfl,_, "tuple",_,_,rfl,.tup g,Jy K,rfl,_,rfl,UX rfl ?_);refine(_,rfl,p,xs,rfl,.inr (û j),_,rfl,m,ys,rfl,.inr (û g),rfl,_,rfl,Y0 (by rw[hl]) ?_);refine(_,rfl,_,rfl,.t p,.t m,xs,ys,rfl,û j,û g,λD t=>?_);rw[52]
   ·exact Ún
   ·rintro i zs k a ⟨_,_,d,_⟩;exact(û (d _ _ v),û (d _ _ B))
   ·rw[D]
    ·rw[Úo]
    ·rw[cf]
   ·rw[ar];have e:Úp:=by rw[Qae];rw[qf]
    rw[e];exact q a d
theorem Y3.new{H:Hp}{p l:ae}{c:Int}{o:HO}(h:Y3 H p c)(n:H l=af):Y3 (upd H l o) p c:=by obtain a|b|d|e:=h;exact(a,b,by rw[Zc (Zf d n)];exact d,e)
theorem Y3.ge{H:Hp}{p:ae}{c:Int}(h:Y3 H p c):0<=c:=by obtain a|b|hp|c0:=h;exact c0
theorem Y3.here{H:Hp}{p:ae}{c:Int}(h:Y3 H p c):∃o,H p=U o:=by obtain a|b|hp|c0:=h;exact(_,hp)
theorem Y3.at{H:Hp}{p l:ae}{c:Int}{o:HO}(h:Y3 H p c)(n:p≠l):Y3 (upd H l o) p c:=by obtain a|b|d|e:=h;exact#[fD,n,d,e]
theorem Js:∀ss:À ak,(∀s∈ss,AZ s)->Âr Ç3=true
 | [],_=>rfl
 | x::r,h=>by simp[Âr,ÁS,(h x Ö).ok,Js r λs hs=>h s Úq]
theorem N8:∀ss:À ak,ÁT Ç3=0
 | []=>rfl
 | _::r=>by simp[ÁT,Âs,N8 r]
theorem R6(ss:Ñ)(h:∀s∈ss,AZ s):ÂV (.list Ç3)=true:=by simp[ÂV,ÁS,Âs,Js ss h,N8]
theorem UE{K:Å}{H:Hp}:∀ss:À ak,DVs K H Ào Ç3
 | []=>.nil
 | s::r=>.cons (.str s) (UE r)
def N7:Sp:=λvs H Q _=>X5 λ(p l:ae) (c a:Int) (ss:À ak)=>vs=[.ref p,.ref l,.int a]/\Y3 H p c/\c<2 ^ 40/\0<=a/\a<=60/\H l=U ÃO/\1<=ī/\ī<=4/\ÊT /\
 ∀ (r:ae) (d:À ak) (e:Int) (b:Hp),H r=af->b r=U #[en,Âi]->(μ:Int)<=a->#[fJ,d,28]->Y3 b p e->c<=e->e<=c+600->But p H b->Q Áj b
theorem Ztp(T:Ù)(X:ÇY)(l6:Úr):Df P w K mg Â 4 "_law_keys" ÃN N7:=by
 rw[ed,T.t_l_keys.df,TW,vs,C];obtain p|l|c|N|ss|rfl|O|c1|m0|m1|Y|n1|n4|qv|q:=h;refine(_,#[Zd,#[hc,3,TW.nd],#[Zd,#[XI,χ,#[V6,ÇZ,#[Ze,#[Zz,X,C,#[Ze,‹0›,#[rZ,XR,2]],È]]],#[sa,4,TW.nd],#[Zd,#[Zu,5,TW.nd,à,#[fp,l6,C,0,1]],#[Zd,#[ZN,(@Ř _ _ _ #[Xt,#[e2,neD,C,3],#[Xh,#[Zk,YS,#[fR,X,0],Û,þ]]]),#[Zh,#[Zu,5,TW.nd,à,#[ZD,Τ,‹3›,#[Zz,X,C,#[Ze,‹0›,Ói],È]]]],ï],#[Zh,#[ga,3,5]]]]],#[fq,3]]],?_);have c0:=O.ge;refine#[sY,u];have D:p≠r:=by obtain o|ho:=O.here;exact Zf ho u
 have BU:l≠r:=Zf Y u;have jF:p≠l:=by
  obtain a|b|hp|_:=O;refine Rt hp Y λe=>?_;cases ss with
  | nil=>exact Ê (ō Óa Îm) Ö
  | Î x r=>exact Ê Îm ÁL
 refine(_,rfl,_,rfl,_,_,rfl,rfl,p,c,_,rfl,O.new u,by lia,by lia,by lia,λn H1 w0 w1 L1 B1=>?_);refine(_,rfl,by lia,by lia,?_);have jd:H1 r=U Ş:=B1 r _ Zb D.symm;have Z:But p H H1:=#[iD,u].trans B1;refine Uq (λi σ v=>X4 λ(g:À ak) (F G:Ã V) (j:Int)=>σ=Ús/\v r=U #[en,ÃP]/\ÆQ=i/\#[fJ,g,28]/\Y3 v p j/\c+1<=j/\j<=c+1+9*i/\#[eK,o,p,v]) ([],af,af,c+1,rfl,jd,rfl,#[eB,s,hs],L1,by lia,by lia,Z) ?_ ?_
 ·rintro i σ v hi ⟨g,F,G,j,rfl,e6,hn,I,L2,a1,a2,R⟩;have hi60:(i:Int)<61:=by lia
  have bN:=R l _ Y jF.symm;refine(_,rfl,_,rfl,p,l,j,ss,rfl,L2,by lia,bN,n1,n4,qv,λkey c3 H3 iX Ao L3 a3 a4 B3=>?_);have fO:=B3 r _ e6 D.symm;have m:∀ (k:ak) (J:Int) (t:Hp),ÇC<=28/\AZ k->Y3 t p J->j<=J->J<=j+9->t r=U #[en,ÃP]->#[eK,o,p,t] ->
    X4 λ(dA:À ak) (F G:Ã V) (c5:Int)=>[U (ù p),U (ù l),U (ì N),U (ù r),U (ì (0+(i:Int))),U (Ä k)]=Ús /\
     (upd t r Ój) r=U #[en,dA.map]/\dA.length=i+1/\#[fJ,dA,28]/\Y3 (upd t r Ój) p c5/\c+1<=c5/\c5<=c+1+9*#[f0,i] /\
     (∀b o,H b=U o->b≠p->(upd t r Ój) b=U o):=λk J t hk L4 b1 b2 qw B4=>by
   refine(g++[k],_,_,J,rfl,?_,by rw[Qi,hn];rfl,?_,L4.at D,by lia,by lia,λb o e n=>?_)
   ·rw[Zb,Qe];rfl
   ·intro x hx;rcases ë hx with hx|hx
    ·exact I x hx
    ·rw[vd];exact hk
   ·rw[sy,e,u];exact B4 b o e n
  have bf:#[tm,ÃP,Ä]:=by rw[Qa,hn];exact Zs Á
  refine(_,rfl,Υ,λe S=>?_);have L:#[gf,H3,e] r=U #[en,ÃP]:=by rw[Zc (Zf fO S)];exact fO
  refine(.list (ÃP ÃQ),.list [],.lst (Í L) (UE g),.lst ÄZ .nil,R6 g (λs h=>(I s h).2),ú,_,rfl,?_);have BV:∀b o,H b=U o->b≠p->#[gf,H3,e] b=U o:=λb o z n=>Zi S _ b o (B3 b o (R b o z n) n);cases g with
  | nil =>
   have ev:(if true=true then !aE.eqv Út Ç4 else ÂW Út Ç4)=false:=by ac_rfl
   rw[ev];refine Y8 (Y8 ?_);refine(_,rfl,.inl #[eG,L],_,rfl,r,_,_,rfl,rfl,L,bf,?_);exact m key c3 _ (iX,Ao) (L3.new S) Á Á L BV
  | Î y B =>
   have ev:(if true=true then !aE.eqv Úu Ç4 else ÂW Úu Ç4)=true:=by simp[ÂW,Ê0]
   rw[ev];refine YM (_,rfl,p,c3,_,rfl,L3.new S,by lia,by decide,by decide,λd H5 d0 d1 L5 B5=>?_);have M:=B5 r _ L D.symm;refine(rfl,_,rfl,Y1 Â6 Â6)
   ·have aZ:((((y::B).map Ä).length:Nat):Int)=((y::B).length:Int):=by rw[Qa]
    have i0:(0:Int)<((y::B).length:Int):=by simp
    refine(_,rfl,_,rfl,_,rfl,r,_,rfl,.inl (Í M),p,c3+1,_,rfl,L5,by lia,by lia,by lia,λd' H6 d0' yE L6 B6=>?_);obtain st|gc|iK:=Oc (ss:=y::B) d0' Á;have W:=B6 r _ M D.symm;refine(r,_,_,_,rfl,rfl,Í W,iK,_,rfl,.inl #[eG,W],_,rfl,r,_,_,rfl,rfl,W,bf,?_);exact m st _ _ (I st gc) L6 Á Á W λb o z n=>B6 b o (B5 b o (BV b o z n) n) n
   ·refine(_,rfl,.inl #[eG,M],_,rfl,r,_,_,rfl,rfl,M,bf,?_);exact m key _ _ (iX,Ao) L5 Á Á M λb o z n=>B5 b o (BV b o z n) n
 ·rintro σ v ⟨g,F,G,j,rfl,e6,hn,I,L2,a1,a2,R⟩;exact(_,rfl,q r g j v u e6 Á I L2 Á Á R)
def WZ(ss:Ñ)(i:Nat):Int:=if i=0 then 0 else (lcp (cds (ss.getD (i-1) "")) (cds (ss.getD i "")):Nat)
def R5(K:Å):Sp:=λvs H Q _=>X2 λ(a:ae) (ss:À ak)=>vs=η/\SqL K H a Ào/\ī<=200/\Ê1 /\
 ∀ (r:ae) (b:Hp),H r=af->b r=U Úv->ZB H b->Q Áj b
theorem ZnW(T:Ù)(O:Ók):Df P w K mg Â 3 "alikes" ["row"] (R5 K):=by
 rw[ed,T.t_alikes.df,Sg,R,S];rw[tf,a,c,v,hn,G];refine(_,#[Zd,#[hc,1,Sg.nd],#[Zd,#[XI,χ,#[iE,K,Ól,Ê2],#[r8,Sg.nd],#[Zh,#[ZM,#[YN,QE,QF,QG,Z3,‹1›,#[Ze,#[Z4,#[eq,YS,2,Û],Û,#[Zz,O,S,#[Ze,#[ZD,Τ,‹0›,#[rZ,U3,2]],‹3›],È]]]]]]],#[fq,1]]],Υ,λr B=>?_);have I:ZB H #[gf,H,r]:=Zi B _;refine(_,rfl,a,ŏ Ä,rfl,I.seq v,?_);refine SQ (K:=K) (a:=a) (xs:=ŏ Ä) (λi C d=>(X2 λg k:Ã V=>C=[U ĩ,U Áj,g,k])/\d r=U (.lst Óm)/\ZB H d/\i<=Ĥ) ((af,af,rfl),Zb,I,Qs _) (λ_ _ _ W=>by obtain _|_|l|_:=W;exact l.seq v) ?_ ?_
 ·rintro i x C d p m ⟨⟨g,k,rfl⟩,n,l,X⟩ J;rw[Qq]at m;cases t:c[i]? with
  | none=>rw[t]at m;cases m
  | some y =>
   rw[ez,t,m,Y,Ĥ];have Z:r≠p:=Zf n J;have L:ZB H Îr:=l.trans (Zi J _);have D:Îr r=U (.lst Óm):=by rw[Zc Z];exact n
   have M:((ÂO i).map λj=>ì (WZ c j)).length<aq:=by rw[Qa,List.length_range];exact Zs Á
   have u:∀z:Int,z=WZ c i->(X2 λg k:Ã V=>[U (ù a),U (ù r),U (ì i),U (Ä y)]=[U ĩ,U Áj,g,k]) /\
     (upd Îr r Úw) r=U (.lst ((ÂO (i+1)).map λj=>.int (WZ c j))) /\
     ZB H (upd Îr r Úw)/\i+1<=Ĥ:=λz e=>by
    refine((_,_,rfl),?_,λb o h=>?_,Y)
    ·rw[Zb,Úx,Qe,e];rfl
    ·rw[sG,h,B,L,b,o]
   refine(p,_,rfl,û Zb,rfl,_,_,rfl,_,_,rfl,rfl,_,rfl,.inl #[eG,D],_,rfl,rfl,_,rfl,?_);by_cases N:i=0
   ·subst N;exact Y0 rfl (r,_,_,rfl,rfl,D,M,u 0 rfl)
   ·have F:i-1<Ĥ:=by lia
    have ei:((i:Int)-1)=((i-1:Nat):Int):=by lia
    have bW:atI (ŏ Ä) ((i:Int)-1)=U (.str c[i-1]):=by rw[ei];exact XZ #[iB,F]
    refine YO (λz=>by injection z with z;lia) (_,rfl,_,rfl,_,_,rfl,rfl,a,_,_,_,rfl,rfl,L.seq v,bW,_,rfl,c[i-1],y,rfl,G _ (Q4 F),G _ (Qn t),r,_,_,rfl,rfl,D,M,u _ ?_);unfold WZ;rw[Ç N,QP,QP,Qb F,t];rfl
 ·rintro C d ⟨⟨g,k,rfl⟩,n,l,X⟩;rw[Qa]at n;exact(_,rfl,q r d B n l)
def ZT:À Nat->À Nat->Int
 | [],[]=>0
 | [],_::_ =>-1
 | _::_,[]=>1
 | a::r,b::s=>if a=b then ZT r s else if a<b then -1 else 1
theorem Jr:∀ (x y:À Nat),Ä0 y x=false->ZT x y<=0
 | [],[],_=>by unfold ZT;lia
 | [],_::_,_=>by unfold ZT;lia
 | _::_,[],h=>by unfold Ä0 at h;cases h
 | a::r,b::s,h=>by
  have ih:=Jr r s;unfold Ä0 at h;unfold ZT;rw[Bool.or_eq_false_iff,Bool.and_eq_false_iff]at h;rw[ew,c,d,h];have yv:¬ b<a:=Âh c;by_cases e:a=b
  ·rw[Æ e];rcases d with z|z
   ·rw[e]at z;simp at z
   ·exact ih z
  ·rw[Ç e,Æ Á];lia
theorem R4:∀ (x y z:À Nat),ZT x y<=0->ZT y z<=0->ZT x z<=0
 | [],_,[],_,_=>by unfold ZT;lia
 | [],_,_::_,_,_=>by unfold ZT;lia
 | _::_,[],_,h,_=>by unfold ZT at h;lia
 | _::_,_::_,[],_,h=>by unfold ZT at h;lia
 | a::r,b::s,c::t,h1,h2=>by
  unfold ZT at h1 h2 ⊢;have ih:=R4 r s t;by_cases f:a=b
  ·rw[sX,f,h1];by_cases d:b=c
   ·rw[mV]
   ·rw[hI,d,h2];rw[Ç (λe=>d ÑW)];split at h2
    ·rw[Æ Á];lia
    ·lia
  ·rw[hI,f,h1];split at h1
   ·by_cases d:b=c
    ·rw[Ç (λe=>f ÑX),Æ Á];lia
    ·rw[hI,d,h2];split at h2
     ·rw[Ç Á,Æ Á];lia
     ·lia
   ·lia
theorem Jq:∀ (ss:À ak) (p:ak),Ç5 p ss=true->∀ (k:Nat) (x y:ak),(p::ss)[k]? = U x->ss[k]? = U y->ZT ý Ĕ<=0
 | [],p,_,k,x,y,_,h=>by simp at h
 | z::r,p,h,0,x,y,h1,h2=>by unfold Ç5 at h;rw[Q3]at h;simp at h1 h2;subst h1 h2;exact Jr _ _ #[eg,h.1]
 | z::r,p,h,k+1,x,y,h1,h2=>by unfold Ç5 at h;rw[Q3]at h;exact Jq r z h.2 k x y #[eg,h1] #[eg,h2]
theorem Jp{ss:Ñ}(h:#[tr,ss])(k:Nat)(x y:ak)(h1:ss[k]? = U x)(h2:ss[k+1]? = U y):ZT ý Ĕ<=0:=by
 cases ss with
 | nil=>simp at h1
 | Î p r=>exact Jq r p h k x y h1 #[eg,h2]
theorem Jo{ss:Ñ}{k:Nat}(h:k<ī):atI Ào (k:Int)=U (.str ss[k]):=XZ #[iB,h]
theorem Y3.same{H a:Hp}{p:ae}{c:Int}(h:Y3 H p c)(s:ZB H a):Y3 a p c:=by obtain b|b2|hb|c0:=h;exact(b,b2,s _ _ hb,c0)
def mid(ns:Ø):Nat:=(Ĉ+1) / 2
def Xy(ns:Ø):À Int:=Çv (mid ns)
def Wu(ns:Ø):À Int:=ns.drop (mid ns)
theorem Zth(ns:Ø):(Ù9+1) / 2=((mid ns:Nat):Int):=by rw[Qa];unfold mid;lia
theorem Zuq(ns:Ø)(m:Nat)(h:m<=Ĉ):Yg ξ af Å9=(Çv m).map ì:=by
 unfold Yg;have e:Ε (ξ).length (ξ).length Å9=m:=by unfold Ε;rw[j1];lia
 have a:Ε (ξ).length 0 af=0:=rfl;rw[oj]
theorem Zpr(ns:Ø)(m:Nat)(h:m<=Ĉ):Yg ξ Å9 af=(ns.drop m).map ì:=by
 unfold Yg;have e:Ε (ξ).length 0 Å9=m:=by unfold Ε;rw[j1];lia
 have a:Ε (ξ).length (ξ).length af=(ξ).length:=rfl;rw[e,a,Ón,Qv #[sk,QZ,Qa]]
theorem Jn(z:ak):(cds z).length=Ľ:=by simp[ÉB]
theorem Jm:∀ (x y:À Nat),(lcp x y=Č->lcp x y=ů->ZT x y=0)/\(lcp x y=Č->lcp x y≠ů->ZT x y = -1)/\(lcp x y≠Č->lcp x y=ů->ZT x y=1) /\
  ∀a b,x[lcp x y]? = U a->y[lcp x y]? = U b->ZT x y=if a<b then -1 else 1
 | [],[]=>(λ_ _=>rfl,λ_ h=>Ê rfl h,λh _=>Ê rfl h,λa b h _=>by simp at h)
 | [],_::_=>(λ_ h=>by unfold lcp at h;simp at h,λ_ _=>rfl,λh _=>Ê rfl h,λa b h _=>by simp at h)
 | _::_,[]=>(λh _=>by unfold lcp at h;simp at h,λh _=>by unfold lcp at h;simp at h,λ_ _=>rfl,λa b _ h=>by simp at h)
 | a::r,b::s=>by
  obtain h1|h2|f|g:=Jm r s;unfold lcp ZT;by_cases e:a=b
  ·rw[iS,e,e];simp only[ËG,List.getElem?_cons_succ];exact(λp q=>h1 Á Á,λp q=>h2 Á Á,λp q=>f Á Á,g)
  ·rw[hM,e,e];simp only[ËG,Ø2];refine(λp=>by lia,λp=>by lia,λ_ p=>by lia,λc d p q=>?_);cases p;cases q;rfl
theorem VS:∀ (x y:À Nat),ZT y x =-ZT x y
 | [],[]=>rfl
 | [],_::_=>rfl
 | _::_,[]=>rfl
 | a::r,b::s=>by
  have ih:=VS r s;unfold ZT;by_cases e:a=b
  ·rw[Æ e,Æ Ã3,ih]
  ·rw[Ç e,Ç λz=>e ÅN];by_cases l:a<b
   ·rw[Æ l,Ç Á];rfl
   ·rw[Ç l,Æ Á]
theorem Tu(a b:Nat):decide ((⟨#[a]⟩:ak).cps.toList<(⟨#[b]⟩:ak).cps.toList)=decide (a<b):=by
 have e:([a]:À Nat)<[b]↔a<b:=by
  constructor
  ·intro h;cases h with
   | rel h=>exact h
   | Î h=>cases h
  ·exact λh=>List.Lex.rel h
 exact ÅW e
theorem Jl:∀x:À Nat,ZT x x=0
 | []=>rfl
 | a::r=>by unfold ZT;rw[ql];exact Jl r
theorem N6:∀ (x y:À Nat),ZT x y=0->x=y
 | [],[],_=>rfl
 | [],_::_,h=>by unfold ZT at h;lia
 | _::_,[],h=>by unfold ZT at h;lia
 | a::r,b::s,h=>by
  unfold ZT at h;by_cases e:a=b
  ·rw[sX,e,h];rw[e,N6 r s h]
  ·rw[xG];split at h<;>lia
def N5:Sp:=λvs H Q _=>X2 λx y:ak=>vs=[.str x,.str y]/\Č<=1000/\ů<=1000/\Q #[sD,ZT] H
def RZ:Sp:=λvs H Q _=>X2 λx y:ak=>vs=#[zJ,ÀK]/\Č<=1000/\ů<=1000/\Q #[sD,ZT] H
theorem Zq0(T:Ù):Df P w K mg Â 1 "order_at" ÊI RZ:=by
 rw[ed,T.t_order_at.df,ZkG,r,hr];rw[gm,x,y,g,i];refine(_,#[Zd,#[ZN,(@Ř _ _ _ #[Xt,#[eq,YS,2,Ç0],#[Xh,#[g0,YS,2]]]),#[ha,Û],ï],#[Zd,#[ZN,#[eq,YS,2,Ç0],#[ha,Ê3],ï],#[Zd,#[ZN,#[g0,YS,2],#[ha,Û],ï],#[Zh,#[Zm,#[Z4,#[Zk,Rj,#[rQ,UZ,0,2],#[rQ,UZ,1,2],þ],Ê3,Û]]]]]],?_);obtain t|u|v|B:=Jm ý Ĕ;have ll:=Tv ý Ĕ;have lx:=Jn x;have ly:=Jn y;have inj:∀ {m n:Nat},ì (m:Int)=ì (n:Int)->m=n:=λ{m n} e=>by injection e with e;lia
 refine(_,rfl,_,rfl,x,rfl,ē g,rfl,_,rfl,Y1 ž ž)
 ·have j:=inj (Ŀ d);refine Úy
  ·have l:=Úz;rw[t Á Á]at q;exact q
  ·have l:ÚA:=λe=>c Óo;refine(_,rfl,_,rfl,x,rfl,ē g,rfl,_,rfl,Y0 (by rw[j]) ?_);rw[u Á Á]at q;exact ÇA
 ·have j:¬ lcp ý Ĕ=Č:=λe=>d Óo;refine Y8 (_,rfl,_,rfl,x,rfl,ē g,rfl,_,rfl,YO (λe=>j (inj e)) ?_);refine Úy
  ·have l:=Úz;rw[v Á Á]at q;exact q
  ·have l:ÚA:=λe=>c Óo;obtain a|o|C:=Tw (z:=x) (k:=ÀK) Á Á;obtain b|p|D:=Tw (z:=y) (k:=ÀK) Á Á;rw[Qa9]at o p;refine(_,rfl,_,rfl,x,_,a,rfl,rfl,ē g,C,_,rfl,_,rfl,y,_,b,rfl,rfl,ē i,D,_,_,rfl,rfl,_,rfl,?_);rw[Tu];rw[B a b o p]at q;rw[fQ,e]
   ·rw[Æ (Ŀ e)]at q;exact ÇA
   ·rw[Ç (λz=>e Ç6)]at q;exact q
theorem Zpq(T:Ù)(d:Ók)(e:Óp):Df P w K mg Â 3 "liken" Â4 N5:=by
 rw[ed,T.t_liken.df,Zq9,g,a];rw[gm,x,y,b,c];refine(_,#[Zh,#[Zm,#[Zz,e,a,#[Ze,‹0›,‹1›,#[fp,d,a,0,1]],È]]],?_);exact(_,rfl,_,rfl,_,rfl,_,rfl,x,y,rfl,b,c,x,y,rfl,b,c,q)
theorem Jk{c A B:Prop}[ÉO c](hc:¬ c)(h:A):if (!decide c)=true then A else B:=by rw[Æ (by rw[ĕ hc];rfl)];exact h
def N4:Sp:=λvs H Q _=>X3 λ(x y:ak) (a:Nat)=>vs=#[zJ,a]/\Č<=1000/\ů<=1000/\a<=lcp ý Ĕ /\
 ∀t,H t=af->Q Ât (upd H t (.tup [.int (ZT ý Ĕ),.int ÀK,.int (ÀK-(a:Int)+1)]))
theorem Zin(T:Ù)(e:Ód)(g:Óp):Df P w K mg Â 2 "liken_from" ÄS N4:=by
 rw[ed,T.t_liken_from.df,JZ,i,a];obtain x|y|b|rfl|c|d|j|q:=h;refine(_,#[Zd,#[Zu,3,JZ.nd,à,#[Zz,e,a,#[fB,0,1,2],È]],#[Zh,#[Zm,#[Yx,#[Ze,#[Zz,g,a,#[fB,0,1,3],È],‹3›,#[ZK,XR,#[s8,U3,3,2],Û]]]]]],_,rfl,_,rfl,_,rfl,x,y,b,rfl,c,d,j,_,rfl,_,rfl,_,rfl,x,y,rfl,c,d,_,rfl,_,rfl,_,rfl,_,_,rfl,rfl,_,_,rfl,rfl,ÁM,λt k=>?_);exact q t k
def WP(ss:Ñ)(v:V):Prop :=
 (v=.non/\∀i x y,ss[i+1]? = U x->ss[i]? = U y->0<=ZT ý Ĕ) \/
 ∃k:Nat,v=.int #[f0,k]/\k+1<ī/\(∀x y,ss[k+1]? = U x->ss[k]? = U y->ZT ý Ĕ<0)/\∀i,i<k->∀x y,ss[i+1]? = U x->ss[i]? = U y->0<=ZT ý Ĕ
theorem N3{ss:Ñ}{v g:V}(h:WP ss v)(h':WP ss g):v=g:=by
 rcases h with⟨rfl,a⟩|⟨k,rfl,l,b,c⟩
 ·rcases h' with⟨rfl,_⟩|⟨k',rfl,d,f,_⟩
  ·rfl
  ·have:=a k' _ _ (Qb d) Ä1;have:=f _ _ (Qb d) Ä1;lia
 ·rcases h' with⟨rfl,a⟩|⟨k',rfl,d,f,i⟩
  ·have:=a k _ _ (Qb l) Ä1;have:=b _ _ (Qb l) Ä1;lia
  ·have e:k=k':=by
    rcases Nat.lt_trichotomy k k' with h|h|h
    ·have:=i k h _ _ (Qb l) Ä1;have:=b _ _ (Qb l) Ä1;lia
    ·exact h
    ·have:=c k' h _ _ (Qb d) Ä1;have:=f _ _ (Qb d) Ä1;lia
   rw[e]
def RY(K:Å):Sp:=λvs H Q _=>X2 λ(a:ae) (ss:À ak)=>vs=η/\SqL K H a Ào/\ī<=400/\Ê1/\∀ (v:V) (b:Hp),WP ss v->ZB H b->Q v b
theorem Zrt(T:Ù)(t:ÚB):Df P w K mg Â 4 "first_break" ["keys"] (RY K):=by
 rw[ed,T.t_first_break.df,JY,u,B];rw[tf,a,b,n,hn,p];refine(_,#[Zd,#[XI,χ,(@Mn _ _ _ _ _ _ _ rfl ÇZ #[Ze,Û,ÇX] È È),#[sa,1,JY.nd],#[Zh,#[ZN,#[Zk,WT,#[Zz,t,B,#[Ze,#[rQ,Τ,0,1],#[ZD,Τ,‹0›,#[rZ,U3,1]]],È],Û,þ],#[fq,1],ï]]],Ç7],?_);have hl:#[im,Âl,Ä]=(ħ:Int):=by rw[Qa]
 refine(_,rfl,a,_,rfl,.inl n,_,_,rfl,(by lia,by lia,by lia,by lia),?_);refine Uq (λi o k=>(∃v:Ã V,o=[U ĩ,v])/\ZB H k/\∀j,j<i->∀x y,b[j+1]? = U x->b[j]? = U y->0<=ZT ý Ĕ) ((af,rfl),Çj H,λj h=>by lia) ?_ ?_
 ·rintro i o k hi ⟨⟨v,rfl⟩,g,m⟩;have l:i+1<ħ:=by lia
  have r:(1+(i:Int))=#[f0,i]:=by lia
  have C:(1+(i:Int)-1)=#[hV,i]:=by lia
  refine(_,rfl,_,rfl,a,_,_,_,rfl,rfl,g.seq n,#[fd,r,Jo,l],_,rfl,_,rfl,_,_,rfl,rfl,a,_,_,_,rfl,rfl,g.seq n,#[fd,C,Jo,Á],b[i+1],b[i],rfl,p _ (Q4 l),p _ (Q4 Á),_,_,rfl,rfl,_,rfl,?_);refine Y1 ž ž
  ·have D:ZT (cds b[i+1]) (cds b[i])<0:=ÃR;refine(_,rfl,q _ k (.inr (i,by rw[r],l,λx y c e=>?_,m)) g);rw[qn];lia
  ·have D:¬ ZT (cds b[i+1]) (cds b[i])<0:=Îs;refine((_,rfl),g,λj hj x y c e=>?_);by_cases F:j=i
   ·subst F;rw[qn];lia
   ·exact m j Á x y c e
 ·rintro o k ⟨⟨v,rfl⟩,g,m⟩;refine q _ k (.inl (rfl,λj x y c e=>?_)) g;have:=(Ũ c).1;exact m j Á x y c e
def RX(K:Å)(tup:Ï):Sp:=λvs H Q _=>X2 λ(a:ae) (ns:À Int)=>vs=η/\SqL K H a ξ/\Ĉ<=200 /\
 ∀ (t f r:ae) (b:Hp),H t=af->H f=af->H r=af->f≠r->b t=U (if tup=true then .tup #[rY,f,r] else .lst #[rY,f,r])->b f=U (.lst ((Xy ns).map ì))->b r=U (.lst ((Wu ns).map ì))->ZB H b->t≠f->t≠r->Q Ât b
theorem ZpD{H:Hp}{f r t:ae}{A B T:HO}(h:H f=af)(hr:(upd H f A) r=af)(ht:Óq t=af) :
  H r=af/\H t=af/\f≠r/\t≠f/\t≠r/\Ór f=U A/\Ór r=U B/\ZB H Ór:=by
 have a:f≠r:=Zf (H:=upd H f A) (o:=A) Zb hr;have b:Óq f=U A:=by rw[Zc a];exact Zb
 have c:f≠t:=Zf b ht;have d:r≠t:=Zf (H:=upd (upd H f A) r B) (o:=B) Zb ht;have e:ZB H (upd H f A):=Zi h _;have g:=e.trans (Zi hr B);have i:=ËM (Zi ht T);exact(e.free hr,g.free ht,a,c.symm,d.symm,by rw[Zc c];exact b,by rw[Zc d];exact Zb,i)
theorem ZnY(T:Ù):Df P w K mg Â 1 "halves" ["numbers"] (RX K true):=by
 rw[ed,T.t_halves.df,JX,j,hr];rw[gm,a,b,c,hn];refine(_,#[Zd,#[Zu,1,JX.nd,à,#[ZK,Rl,#[ZK,XR,ÇX,Û],Û]],#[Zh,#[Zm,#[Yx,#[Ze,#[WL,(slL K),‹0›,(@V3 _),(@WA _ _ _ ‹1›)],#[hj,0,1]]]]]],_,rfl,a,_,rfl,.inl c,_,_,rfl,rfl,_,_,rfl,rfl,ÇW,?_);have k:mid b<=ħ\/b=[]:=by
  cases b with
  | nil=>exact À8
  | Î x r=>left;unfold mid;rw[QA];lia
 have g:mid b<=ħ:=by
  rcases k with h|h
  ·exact h
  ·subst h;decide
 have m:=Zth b;simp only[m];refine(_,rfl,_,rfl,_,rfl,a,_,rfl,c,λl d=>?_);refine(_,rfl,_,rfl,_,rfl,a,_,rfl,(Zi d _).seq c,λr i=>(Á6,λt e=>?_));rw[Zuq b _ g]at i e ⊢;rw[Zpr b _ g]at e ⊢;obtain n|o|p|u|v|y|z|B:=ZpD (T:=.tup #[rY,l,r]) d i e;exact q t l r _ o d n p Zb y z B u v
theorem VR(f:ak)(v:V):∀fs:À (ak×V),#[uO].length<=ÀS+1
 | []=>Qf _
 | p::r=>by
  unfold Zv;split
  ·exact QV _
  ·exact Ò7 (VR f v r)
def YV(k f:ae)(g:Int):À Á8:=Zv "gone" (.int g) (Zv "fars" Ċ ÚC)
theorem nGF:¬ #[hH,"fars","gone"]:=by ac_rfl
theorem nGK:¬ #[hH,"all_keys","gone"]:=by ac_rfl
theorem nFK:¬ #[hH,"all_keys","fars"]:=by ac_rfl
theorem Vg(k f:ae)(g:Int):(Ît).lookup ("all_keys" : ak)=U (.ref k):=by unfold YV;rw[Zr,Ç nGK,Zr,Ç nFK,Zr,Æ rfl]
theorem Tt(k f:ae)(g:Int):(Ît).lookup ("gone" : ak)=U (.int g):=by unfold YV;rw[Zr,Æ rfl]
theorem Ts(k f:ae)(g:Int){m:ak}(h1:¬ m = "gone")(h2:¬ m = "fars")(a:¬ m = "all_keys"):(Ît).lookup m=af:=by unfold YV;rw[Zr,Ç h1,Zr,Ç h2,Zr,Ç a];rfl
structure Vf (C:ae) (H:Hp) (p k f:ae) (ss:Ñ) (g:Nat):Prop where
 ob:∃dx,H p=U (.ins C dx Ît)
 ks:H k=U ÃO
 fs:H f=U Úv
def Tr(C:ae):Sp:=λvs H Q _=>X5 λ(p k f:ae) (ss:À ak) (g:Nat)=>vs=Ν/\Vf C H p k f ss g/\Q (.int (Ò5-(g:Int))) H
theorem ZsE(T:Ù):Mf P w K mg Â 1 aw "to_go" Ą (Tr aw):=by
 rw[ed,T.t_Row_to_go.mf,ZjX,c,hr];obtain p|k|f|d|g|rfl|R|q:=h;refine(_,#[Zh,#[Zm,#[ZK,U3,#[Zo,(Yk K),È,Ái,Qy,#[Ze,Ģ]],Ģ]]],?_);obtain ⟨a,b⟩|e|hf:=R;refine(_,rfl,p,aw,a,_,_,rfl,b,Ņ,Ä2,Vg _ _ _,k,_,rfl,.inl (Í e),_,rfl,p,aw,a,_,_,rfl,b,Ņ,Ç8,Tt _ _ _,_,_,rfl,rfl,?_);rw[Qa];exact q
def WO(ss:Ñ)(g:Nat):V:=match ss[g]? with
 | some z=>.str z
 | none=>.non
def Ve(C:ae):Sp:=λvs H Q _=>X5 λ(p k f:ae) (ss:À ak) (g:Nat)=>vs=Ν/\Vf C H p k f ss g/\Q (WO ss g) H
theorem ZsD(T:Ù)(i:Îu):Mf P w K mg Â 2 aw "head" Ą (Ve aw):=by
 rw[ed,T.t_Row_head.mf,ZkE,j,l];obtain p|k|f|a|g|rfl|R|q:=h;refine(_,#[Zh,#[Zm,#[Z4,#[Zk,Wk,#[tn,i,l,0],Û,þ],#[ZD,Τ,Ģ,Ģ],ş]]],?_);obtain ⟨b,c⟩|m|hf:=id R;refine(_,rfl,p,b,_,rfl,c,Ts _ _ _ ú ú ú,p,k,f,a,g,rfl,R,_,_,rfl,rfl,_,rfl,?_);refine Y1 ž ž
 ·have n:(0:Int)<ÂQ-(g:Int):=ÃR;have e:g<ľ:=by lia
  refine(_,rfl,p,aw,b,_,_,rfl,c,Ņ,Ä2,Vg _ _ _,_,rfl,p,aw,b,_,_,rfl,c,Ņ,Ç8,Tt _ _ _,k,_,_,_,rfl,rfl,Í m,XZ #[iB,e],?_);unfold WO at q;rw[Qb e]at q;exact q
 ·have n:¬ (0:Int)<ÂQ-(g:Int):=Îs;unfold WO at q;rw[QW Á]at q;exact q
def N0(C:ae):Sp:=λvs H Q _=>X4 λ(p dx a:ae) (ss:À ak)=>vs=#[rY,p,a]/\H p=U (.ins C dx [])/\H a=U ÃO/\ī<=200/\Ê1 /\
 ∀ (k f:ae) (c:Hp),H k=af->H f=af->k≠f->Vf C c p k f ss 0->#[eK,o,p,c]->Q .non c
theorem Zmq(T:Ù)(C:Ós):Cf P w K mg Â 4 aw "Row" Â5 (N0 aw):=by
 rw[ed,T.t_Row_init.cf,Zkr,D,F];obtain p|c|a|d|rfl|m|i|G|I|q:=h;refine(_,#[Zd,#[X0,‹0›,#[W4,(Zwm K),ÊY,ÊZ,Ák]],#[Zd,#[X0,‹0›,#[g2,C,F]],#[Zh,Ót]]],_,rfl,a,_,rfl,.inl (Í i),λk j=>?_);have l:p≠k:=Zf m j;have r:a≠p:=λe=>by rw[e,m]at i;cases i
 have t:a≠k:=Zf i j;refine(_,rfl,p,aw,c,[],rfl,#[hS,l,m],Ņ,Ä2,#[ia,0],?_);have J:Îv a=U #[en,Âi]:=by rw[Zc r,Zc t];exact i
 have v:Îv p=U (.ins aw c ÚC):=Zb;have y:Îv k=U #[en,Âi]:=by rw[Zc l.symm];exact Zb
 have z:#[fg,o,H,p,Îv]:=λb o h n=>by rw[Zc n,Zc (Zf h j)];exact h
 refine(_,rfl,a,d,rfl,Í J,G,I,λf H3 g L x=>?_);have M:H f=af:=by
  cases N:H f with
  | none=>rfl
  | some u =>
   by_cases e:f=p
   ·rw[e4,e,v,g]
   ·rw[z f u N e]at g;cases g
 have O:k≠f:=Zf y g;have B:p≠f:=Zf v g;refine(_,rfl,p,aw,c,_,rfl,x _ _ v,Ņ,Óu,#[ia,1],_,rfl,p,aw,c,_,rfl,Zb,Ņ,Ç8,?_,?_)
 ·have h1:=VR "all_keys" (ù k) [];have h2:=VR "fars" (ù f) (Zv "all_keys" (ù k) []);have h3:ÚD:=rfl;lia
 ·refine q k f _ j M O ((c,Zb),?_,?_) λb o h n=>?_
  ·rw[Zc l.symm,Zc l.symm];exact x _ _ y
  ·rw[Zc ÇG,Zc ÇG];exact L
  ·rw[Zc n,Zc n];exact x _ _ (z b o h n)
theorem Jj{K:Å}{a:ae}{xs:Ė}{k:Nat}{D:ae}{c:ÄO}{h:Hp}{g:TG}{j:TT}{l:TE}{Q:VK}(Pv:Êq)(h0:Pv 0 [] #[r9,c,k] #[gf,h,D])
  (hl:∀i ys c H,Pv i ys c H->SqL K H a xs)
  (hs:∀i x ys c H,xs[i]? = U x->Pv i ys c H->g x c H λd r=>j d r λb n=>if b=true then l d n λy o=>o D=U ÁE/\ĥ<aq/\Pv (i+1) Çt d #[gs,o] else Pv (i+1) ys d n)
  (hd:#[sQ,c,ã]):V2 Ë4 D k c h g j l Q:=by
 rw[eM,c,ã];have f:=hl i ys c H p;by_cases q:i<ã
 ·refine .inr ((xs,xs[i],f,Qb q),Pv (i+1),λjs aU s t=>(ã-(i+1),by lia,rfl,q,t),λx s y=>?_);obtain rfl|e:=y;exact hs i x ys c _ (e xs f) p
 ·have e:Ë6:=by lia
  exact .inl ((xs,f,by lia),hd ys c H Çu)
theorem VQ{K:Å}{a:ae}{xs:Ė}{k:Nat}{D:ae}{b:ÄO}{d:Hp}{g:TG}{f:TE}{Q:VK}(Pv:Êq)(h0:Pv 0 [] #[r9,b,k] #[gf,d,D])
  (hl:∀i ys b H,Pv i ys b H->SqL K H a xs)
  (hs:∀i x ys b H,xs[i]? = U x->Pv i ys b H->g x b H λh n=>f h n λy j=>j D=U ÁE/\ĥ<aq/\Pv (i+1) Çt h #[gs,j])
  (hd:#[sQ,b,ã]):V2 Ë4 D k b d g Vx f Q:=by
 rw[eM,b,ã];have c:=hl i ys b H p;by_cases l:i<ã
 ·refine .inr ((xs,xs[i],c,Qb l),Pv (i+1),λjs aU o q=>(ã-(i+1),by lia,rfl,l,q),λx o y=>?_);obtain rfl|e:=y;rw[q4];exact hs i x ys b _ (e xs c) p
 ·have e:Ë6:=by lia
  exact .inl ((xs,c,by lia),hd ys b H Çu)
theorem NZ:∀x y:À Nat,x<y↔ZT x y<0
 | [],[]=>by unfold ZT;exact(λh=>Ê h Ö,λh=>Ê h Á)
 | [],_::_=>by unfold ZT;exact(λ_=>by lia,λ_=>List.nil_lt_cons _ _)
 | _::_,[]=>by unfold ZT;exact(λh=>Ê h (List.not_lt_nil _),λh=>Ê h Á)
 | a::r,b::s=>by
  have ih:=NZ r s;unfold ZT;rw[ÚE];by_cases e:a=b
  ·rw[Æ e,<- ih];exact(λh=>Àl (λz=>by lia) (λz=>z.2),λh=>.inr (e,h))
  ·rw[zE,e];by_cases l:a<b
   ·rw[Æ l];exact(λ_=>by lia,λ_=>.inl l)
   ·rw[zE,l];exact(λh=>Àl #[tC,z,z,l] #[tC,z,z.1,e],λh=>Ê h Á)
theorem Ji{H:Hp}{D:ae}{ys:Ė}(h:H D=U ÁE)(o:HO):∀a xs,H a=U Β->(upd H D o) a=U Β:=λa xs e=>by
 have b:a≠D:=by intro z;rw[sT,h,e]
 rw[Zc b];exact e
abbrev Hd:=Int->Ã (À Nat)
def Btr(x:ţ)(a:Int)(y:ţ)(b:Int):Prop:=ZT x y<0\/Óv
def Win(hd:Hd)(N:Ø):Ã Int->Prop
 | none=>∀n∈N,hd n=af
 | some a=>a∈N/\∃x,hd a=U x/\∀b∈N,∀y,hd b=U y->b=a\/Btr x a y b
theorem Btr.asym{x y:ţ}{a b:Int}(h:Btr x a y b)(g:Btr y b x a):ė:=by have e:=VS x y;rcases h with h|⟨h,h2⟩<;>rcases g with g|⟨g,g2⟩<;>lia
theorem Ç9{x y:ţ}{a b:Int}(h:a≠b):Btr x a y b\/Btr y b x a:=by have e:=VS x y;unfold Btr;lia
theorem Btr.trans{x y z:ţ}{a b c:Int}(h:Btr x a y b)(g:Btr y b z c):Btr x a z c:=by
 have t1:=R4 x y z;have t2:=R4 z x y;have t3:=R4 y z x;have e1:=VS x y;have e2:=VS y z;have e3:=VS x z;unfold Btr at *
 lia
theorem Win.one{hd:Hd}{N:Ø}{v w:Ź}(h:Win hd N v)(g:Win hd N w):v=w:=by
 cases v with
 | none =>
  cases w with
  | none=>rfl
  | some b=>obtain d|y|c|_:=g;rw[h b d]at c;cases c
 | some a =>
  obtain i|x|f|j:=h;cases w with
  | none=>rw[g a i]at f;cases f
  | some b =>
   obtain d|y|c|k:=g;rcases j b d y c with e|e
   ·rw[e]
   ·rcases k a i x f with e'|e'
    ·rw[e']
    ·exact(e.asym e').elim
theorem Win.nil(hd:Hd):Win hd [] af:=λn h=>by cases h
theorem Îw{hd:Hd}{n:Int}:Win hd [n] ÚF:=by
 cases h:hd n with
 | none=>intro m a;rw[ò a];exact h
 | some x=>exact(by simp,x,h,λb c y hy=>.inl (ò c))
theorem Èa{hd:Hd}{A B:Ø}{a b:Int}{x y:ţ}(ha:Win hd A (U a))(hb:Win hd B (U b))(hx:hd a=U x)(hy:hd b=U y)(h:Btr x a y b):Win hd (A++B) (U a):=by
 obtain i|x'|f|j:=ha;obtain b1|y'|g|k:=hb;rw[rR,hx,f];rw[rR,hy,g];refine(QU _ i,x,hx,λc hc z d=>?_);rcases ë hc with hc|hc
 ·exact j c hc z d
 ·rcases k c hc z d with e|e
  ·subst e;rw[rR,hy,d];exact .inr h
  ·exact .inr (h.trans e)
theorem Ê4{hd:Hd}{A B:Ø}{a b:Int}{x y:ţ}(ha:Win hd A (U a))(hb:Win hd B (U b))(hx:hd a=U x)(hy:hd b=U y)(h:Btr y b x a):Win hd (A++B) (U b):=by have:=Èa hb ha hy hx h;obtain d|z|e|f:=this;exact(by rcases ë d with h|h<;>simp[h],z,e,λc g=>f c (by rcases ë g with h|h<;>simp[h]))
theorem Îx{hd:Hd}{A B:Ø}{w:Ź}(ha:Win hd A w)(hb:Win hd B af):Win hd (A++B) w:=by
 cases w with
 | none=>intro n d;rcases ë d with h|h;exact ha n h;exact hb n h
 | some a =>
  obtain e|x|f|g:=ha;refine(QU _ e,x,f,λc hc z b=>?_);rcases ë hc with hc|hc
  ·exact g c hc z b
  ·rw[hb c hc]at b;cases b
theorem Îy{hd:Hd}{A B:Ø}{w:Ź}(ha:Win hd A af)(hb:Win hd B w):Win hd (A++B) w:=by
 cases w with
 | none=>intro n d;rcases ë d with h|h;exact ha n h;exact hb n h
 | some a =>
  obtain e|x|f|g:=hb;refine(QD _ e,x,f,λc hc z b=>?_);rcases ë hc with hc|hc
  ·rw[ha c hc]at b;cases b
  ·exact g c hc z b
theorem Win.ex(hd:Hd):∀N:À Int,ËV->∃w,Win hd N w
 | [],_=>(af,Win.nil hd)
 | n::N,d=>by
  obtain f|g:=QS.mp d;obtain w|hw:=Win.ex hd N g;have a:Win hd [n] ÚF:=Îw;cases h:hd n with
  | none=>rw[h]at a;exact(w,Îy (A:=[n]) a hw)
  | some x =>
   rw[h]at a;cases w with
   | none=>exact(U n,Îx (A:=[n]) a hw)
   | some b =>
    obtain i|y|c|b2:=id hw;have j:n≠b:=λe=>f (e ▸ i);rcases Ç9 (x:=x) (y:=y) j with e|e
    ·exact(U n,Èa (A:=[n]) a hw h c e)
    ·exact(U b,Ê4 (A:=[n]) a hw h c e)
theorem Ê5{hd c:Hd}{N:Ø}(h:∀n∈N,c n=hd n){w:Ź}(hw:Win hd N w):Win c N w:=by
 cases w with
 | none=>intro n d;rw[h n d];exact hw n d
 | some a=>obtain e|x|g|i:=hw;exact(e,x,by rw[h a e];exact g,λb f y j=>i b f y #[tv,h,b,f,j])
def lo(N:Ø):À Int:=N.take (mid N)
def up(N:Ø):À Int:=N.drop (mid N)
theorem Xm(N:Ø):lo N++up N=N:=ÚG _ _
theorem VP{N:Ø}(h:Æa):(lo N).length<ģ/\1<=(lo N).length:=by unfold lo mid;rw[Qx];lia
theorem Vd{N:Ø}(h:Æa):(up N).length<ģ/\1<=(up N).length:=by unfold up mid;rw[QZ];lia
def ZX(N:Ø):Int×Int:=(Èb 0,Èc 0,)
abbrev StL:=À ((Int×Int)×Ã Ów)
def stV:Ã Ów->V
 | none=>.non
 | some t=>.ref t.1
def kvS(s:StL):À (À Key×V):=s.map λe=>([.inl e.1.1,.inl e.1.2],stV e.2,)
def AtS(H:Hp)(s:StL):Prop:=∀e∈s,∀t,e.2=U t->H t.1=U #[h1,t.2.1,t.2.2]
def Z2(s:StL)(k:ő):Ã (Ã Ów):=(s.find? λe=>decide (e.1=k)).map ę
def Yf(s:StL)(k:ő)(v:ÃS):StL:=if s.any Îz then s.map ÚH else s++[(k,v,)]
theorem AtS.mono{H b:Hp}{s:StL}(h:AtS H s)(k:∀a xs,H a=U Β->b a=U Β):AtS b s:=λe he t ht=>k _ _ (h e he t ht)
theorem NY{a b:ő}(h:([.inl a.1,.inl a.2]:À Key)=[.inl b.1,.inl b.2]):a=b:=by obtain a1|a2:=a;obtain b1|b2:=b;injection h with f c;injection c with c _;have d:=Ã0 f;have e:=Ã0 c;simp only at d e;rw[d,e]
theorem Jh(k:ő):∀s:StL,Y4 (kvS s) Óx=(Z2 s k).map stV
 | []=>rfl
 | e::s=>by
  have ih:=Jh k s;by_cases h:e.1=k
  ·unfold kvS Z2;rw[Qj,Uf Ê6];simp[Âz,h]
  ·rw[zB,kvS,ih];rw[Qj,Ue Óy,ih];unfold Z2;simp[Âz,h]
theorem Ztg(k:ő)(s:StL):((kvS s).any λa=>decide (a.1=(Óx:À Key)))=s.any λe=>decide (e.1=k):=by
 unfold kvS;rw[List.any_map];congr 1;funext e;rw[74];by_cases h:e.1=k
 ·rw[ě h,ě Ê6]
 ·rw[ĕ h,ĕ Óy]
theorem RW(s:StL)(k:ő)(v:ÃS):YX (kvS s) Óx (stV v)=kvS Ê7:=by
 unfold YX Yf;rw[Ztg];split
 ·unfold kvS;rw[Qo,Qo];congr 1;funext e;rw[74];by_cases h:e.1=k
  ·rw[Æ h,Æ Ê6]
  ·rw[Ç h,Ç Óy]
 ·unfold kvS;rw[Qe];rfl
theorem ZpN(s:StL)(k:ő)(v:ÃS):(Ê7).length<=ŝ+1:=by
 unfold Yf;split
 ·rw[Qa];lia
 ·rw[Qi];exact Qf _
theorem Wt(s:StL)(k j:ő)(v:ÃS):Z2 Ê7 j=if j=k then U v else Z2 s j:=by
 unfold Yf;split
 ·rename_i h;induction s with
  | nil=>simp at h
  | Î e s f =>
   rw[zB,Z2,f];by_cases b:e.1=k
   ·by_cases a:j=k
    ·subst a;simp[Âz,b]
    ·have c:¬ k=j:=λz=>a ÅN;rw[Qj,Æ b,QaM (by simp[b,c]),QaM (by simp[b,c]),Ç a];by_cases d:s.any Îz=true
     ·have:=f d;rw[Ç a]at this;exact this
     ·have:s.map ÚH=s:=by
       rw[List.map_eq_iff];intro i;cases l:s[i]? with
       | none=>rfl
       | some x=>have g:¬ x.1=k:=λz=>d (Èd (x,Qn l,by simpa using z));simp[g]
      rw[this]
   ·have d:s.any Îz=true:=by simpa [b] using h
    rw[Qj,Ç b];by_cases a:e.1=j
    ·have:¬ j=k:=λz=>b (a.trans z);rw[ÚI #[eg,a],ÚI #[eg,a],Ç this]
    ·rw[QaM #[eg,a],QaM #[eg,a]];exact f d
 ·rename_i h;unfold Z2;rw[List.find?_append];by_cases a:j=k
  ·subst a;have:s.find? (λe=>decide (e.1=j))=af:=by rw[List.find?_eq_none];intro x g z;exact h (Èd (x,g,z))
   rw[this];simp
  ·have c:¬ k=j:=λz=>a ÅN;rw[zE,a];simp[c]
theorem AtS.put{H:Hp}{s:StL}{k:ő}{v:ÃS}(h:AtS H s)(b:ÚJ):AtS H Ê7:=by
 unfold Yf;split
 ·intro e he t a;rw[em,x,c,he];split at a
  ·exact b t a
  ·exact h x c t a
 ·intro e he t a;rcases ë he with he|he
  ·exact h e he t a
  ·rw[ò he]at a;exact b t a
theorem Jg{s:StL}{k:ő}{v:ÃS}(h:Z2 s k=U v):(k,v,)∈s:=by
 unfold Z2 at h;obtain e|a|rfl:=Qbc.mp h;have b:=ÍD;have:e.1=k:=by simpa using b
 rw[<- this];exact Qax a
def ZwG(hd:Hd)(s:StL)(N:Ø):Prop :=
 (∀a b x y,Win hd (lo N) (U a)->Win hd (up N) (U b)->hd a=U x->hd b=U y->∃t,Z2 s (ZX N)=U (U (t,if ZT x y<0\/Óv then b else a,#[gX,x,y],))) /\
 ((Win hd (lo N) af\/Win hd (up N) af)->Z2 s (ZX N)=af\/Z2 s (ZX N)=U af)
def XV(hd:Hd)(s:StL):Nat->À Int->Prop
 | 0,_=>Àc
 | n+1,N=>2<=ģ->XV hd s n (lo N)/\XV hd s n (up N)/\ZwG hd s N
def Xb:Nat->À Int->Int×Int->Prop
 | 0,_,_=>ė
 | n+1,N,k=>2<=ģ/\(Xb n (lo N) k\/Xb n (up N) k\/k=ZX N)
abbrev Yr(N:Ø):Prop:=N.Pairwise (·<·)
theorem RV{N:Ø}(h:Yr N):Yr (lo N):=h.sublist Õ0
theorem RU{N:Ø}(h:Yr N):Yr (up N):=h.sublist (List.drop_sublist _ _)
theorem RT{N:Ø}(h:Yr N):ËV:=h.imp λ{a b} eY e=>by lia
theorem ZS{N:Ø}(h:Yr N){a b:Int}(ha:a∈lo N)(hb:b∈up N):a<b:=by
 have:Yr (lo N++up N):=by rw[Xm];exact h
 exact(List.pairwise_append.mp this).2.2 a ha b hb
theorem UD{N:Ø}(h:N≠[]):Èb 0∈N:=by
 cases N with
 | nil=>exact Ê rfl h
 | Î a r=>simp
theorem UC{N:Ø}(h:N≠[]):Èc 0∈N:=by rw[Qay,Qa4 h];exact List.getLast_mem h
theorem Xl{N:Ø}(h:1<=ģ):N≠[]:=λz=>by rw[z]at h;simp at h
theorem NX{N:Ø}(h:Æa):(ZX N).2=(up N).getLastD 0:=by
 have a:=Xl (Vd h).2;show Èc 0=_;rw[Qay,Qay]
 conv=>lhs;rw[<- Xm N]
 rw[List.getLast?_append,Qa4 a];rfl
theorem NW{N:Ø}(h:Æa):(ZX N).1=(lo N).headD 0:=by
 have b:=Xl (VP h).2;show Èb 0=_
 conv=>lhs;rw[<- Xm N]
 cases c:lo N with
 | nil=>exact Ê c b
 | Î a r=>rfl
theorem UB:∀ (n:Nat) (N:À Int) (k:Int×Int),Xb n N k->k.1∈N/\k.2∈N
 | 0,_,_,h=>Àl
 | n+1,N,k,⟨h2,h⟩=>by
  rcases h with h|h|rfl
  ·have:=UB n _ k h;rw[<- Xm N];exact(QU _ this.1,QU _ this.2)
  ·have:=UB n _ k h;rw[<- Xm N];exact(QD _ this.1,QD _ this.2)
  ·have a:N≠[]:=Xl Á;exact(UD a,UC a)
theorem NV{N:Ø}(hr:Yr N)(h2:Æa){n:Nat}{k:ő}(h:Xb n (lo N) k):k≠ZX N/\∀m,¬ Xb m (up N) k:=by
 rw[ps]
 ·rw[zM,b,NX];have:=ZS hr this.2 (UC (Xl (Vd h2).2));lia
 ·have:=ZS hr this.1 (UB m _ k a).1;lia
theorem NU{N:Ø}(hr:Yr N)(h2:Æa){n:Nat}{k:ő}(h:Xb n (up N) k):k≠ZX N/\∀m,¬ Xb m (lo N) k:=by
 rw[ps]
 ·rw[zM,b,NW];have:=ZS hr (UD (Xl (VP h2).2)) this.1;lia
 ·have:=ZS hr (UB m _ k a).1 this.1;lia
theorem XV.congr{hd d:Hd}{s s':StL}:∀ (n:Nat) (N:À Int),(∀m∈N,d m=hd m)->(∀k,Xb n N k->Z2 s' k=Z2 s k)->XV hd s n N->XV d s' n N
 | 0,_,_,_,_=>ŷ
 | n+1,N,j,hk,h=>λh2=>by
  obtain a|b|q|r:=h h2;have f:∀m∈lo N,d m=hd m:=λm c=>j m (by rw[<- Xm N];exact QU _ c);have g:∀m∈up N,d m=hd m:=λm c=>j m (by rw[<- Xm N];exact QD _ c);have l:∀m∈lo N,hd m=d m:=λm c=>(f m c).symm;have e:∀m∈up N,hd m=d m:=λm c=>(g m c).symm;refine(XV.congr n _ f (λk i=>hk k (h2,.inl i)) a,XV.congr n _ g (λk i=>hk k (h2,.inr Åk)) b,λa b x y o p t u=>?_,λhw=>?_)
  ·rw[hk _ (h2,.inr Ãz)];exact q a b x y (Ê5 l o) (Ê5 e p) #[tv,f,a,o.1,t] #[tv,g,b,p.1,u]
  ·rw[hk _ (h2,.inr Ãz)];refine r ?_;rcases hw with hw|hw
   ·exact .inl (Ê5 l hw)
   ·exact .inr (Ê5 e hw)
inductive YE (hd:Hd):Nat->À Int->Int->Int->Prop
 | few {n:Nat} {N:À Int}:ģ<2->YE hd n N 0 0
 | none {n:Nat} {N:À Int} {k l k' l':Int}:2<=ģ->YE hd n (lo N) k l->YE hd n (up N) k' l'->(Win hd (lo N) af\/Win hd (up N) af)->YE hd (n+1) N (k+k') (l+l')
 | both {n:Nat} {N:À Int} {k l k' l':Int} {a b:Int} {x y:À Nat}:2<=ģ->YE hd n (lo N) k l->YE hd n (up N) k' l'->Win hd (lo N) (U a)->Win hd (up N) (U b)->hd a=U x->hd b=U y->YE hd (n+1) N (k+k'+1) (l+l'+(lcp x y:Nat)+1)
theorem Ê8{hd:Hd}:∀ {n m:Nat} {N:À Int} {k l k' j:Int},YE hd n N k l->YE hd m N k' j->k=k'/\l=j
 | _,_,_,_,_,_,_,.few h,p=>by
  cases p with
  | few _=>exact Ŕ
  | none h2 _ _ _=>lia
  | both h2 _ _ _ _ _ _=>lia
 | _,_,_,_,_,_,_,.none h2 a b hw,p=>by
  cases p with
  | few h=>lia
  | none _ c d _=>obtain t|u:=Ê8 a c;obtain v|w:=Ê8 b d;exact ÃF
  | both _ c d e f o q =>
   rcases hw with hw|hw
   ·exact nomatch hw.one e
   ·exact nomatch hw.one f
 | _,_,_,_,_,_,_,.both h2 a b e f o q,p=>by
  cases p with
  | few h=>lia
  | none _ c d hw =>
   rcases hw with hw|hw
   ·exact nomatch hw.one e
   ·exact nomatch hw.one f
  | both _ c d g i r s=>obtain t|u:=Ê8 a c;obtain v|w:=Ê8 b d;have x:=Qw (e.one g);have y:=Qw (f.one i);subst x y;rw[fX,o,r,r];rw[fX,q,s,s];exact ÃF
def kk(e:ak×Int):À Key:=[.inr e.1,.inl e.2]
def oV:Ã ak->V
 | none=>.non
 | some s=>.str s
def Yz:Ã Int->V
 | none=>.non
 | some a=>.int a
def kvH(E:Ê9):À ÁJ:=E.map λe=>(.inl e.1,oV e.2,)
def lk(E:Ê9)(n:Int):Ã ak:=(E.find? λe=>decide (e.1=n)).bind ę
theorem Zsa{x y:ak}(h:cds x=cds y):x=y:=by obtain⟨⟨a⟩⟩:=x;obtain⟨⟨b⟩⟩:=y;have:a=b:=h;rw[this]
def VO:Key->aE
 | .inl i=>.int i
 | .inr s=>.str s
def tD(k:ς):aE:=.tuple (k.map VO)
theorem NT{K:Å}{H:Hp}:∀ks:À Key,DVs K H ÅV (Ů VO)
 | []=>.nil
 | .inl i::r=>.cons Åt (NT r)
 | .inr s::r=>.cons (.str s) (NT r)
theorem RS{K:Å}{H:Hp}:∀a:Xq,AtT H a->DVs K H (YL a) (ŕ λt=>tD t.2)
 | [],_=>.nil
 | t::r,h=>.cons (.tup (û (h t Ö)) (NT t.2)) (RS r λx hx=>h x (Qm _ hx))
structure Hds (H:Hp) (D:ae) (E:Ê9):Prop where
 at':H D=U (.dK (kvH E))
 nd:(E.map ó).Nodup
 ok:∀e∈E,∀s,e.2=U s->ŝ<=1000/\AZ s
theorem Zug(N:Ø):Xy N=lo N:=rfl
theorem ZtQ(N:Ø):Wu N=up N:=rfl
abbrev Yb:=Int×ae×À ak×Nat
def kvR(L:À Yb):À ÁJ:=ĸ λe=>(.inl e.1,.ref e.2.1,)
def kvG(L:À Yb):À ÁJ:=ĸ λe=>(.inl e.1,.int (e.2.2.2:Int),)
def ZwH(ra ga:ae)(nb li lo:Int):À ÁJ:=[(.inr "rows",.ref ra,),(.inr "gone",.ref ga,),(.inr "number",.int nb,),(.inr "likenings",.int li,),(.inr "looks",.int lo,)]
structure Own (H:Hp) (o ra ga:ae) (L:À Yb) (nb li lo:Int):Prop where
 at':H o=U (.dK (ZwH ra ga nb li lo))
 Àu:H ra=U (.dK (kvR L))
 gone:H ga=U (.dK (kvG L))
 nd:(Óz).Nodup
 few:Àq<=60
 lst:∀e∈L,H e.2.1=U #[en,e.2.2.1.map]/\e.2.2.1.length<=200/\e.2.2.2<=e.2.2.1.length/\∀s∈e.2.2.1,ŝ<=1000/\AZ s
theorem Jf{ns:Ø}(h:ns.Nodup):(ÃA (ÂA:Int->Key)).Nodup:=Qbe _ (λa b c z=>c ÎA) h
theorem ď{H:Hp}{a:ae}{kvs:Ŗ}{k:Key}{r:Ã V}(e:Êk)(h:Y4 kvs k=r):Z7 H a (kV k) r:=by rw[<- h];exact Z7.k e
structure HdOf (L:À Yb) (E:Ê9):Prop where
 per:(E.map ó).Perm Óz
 up:(E.map ó).Pairwise (·<·)
 hd:∀e∈L,(e.1,e.2.2.1[e.2.2.2]?,)∈E
def hdL(L:À Yb):Hd:=λn=>((L.find? λe=>decide (e.1=n)).bind λe=>e.2.2.1[e.2.2.2]?).map cds
theorem NS:∀ {L:À Yb},(Óz).Nodup->∀ {e:Yb},e∈L->hdL L e.1=(e.2.2.1[e.2.2.2]?).map cds
 | [],_,_,h=>by cases h
 | x::r,nd,e,h=>by
  rw[yi];unfold hdL;rw[QaA];rcases Ĳ h with rfl|h
  ·rw[xS];rfl
  ·rw[ĕ (λz:x.1=e.1=>nd.1 (by rw[z];exact Qd (f:=λx:Yb=>x.1) h))];exact NS nd.2 h
theorem Win.perm{hd:Hd}{N M:Ø}{v:Ź}(h:Win hd N v)(p:N.Perm M):Win hd M v:=by
 cases v with
 | none=>exact λn d=>h n (p.mem_iff.mpr d)
 | some a=>obtain e|x|f|g:=h;exact(p.mem_iff.mp e,x,f,λb c=>g b (p.mem_iff.mpr c))
def Zv3(L:À Yb)(H:Hp)(x:V):Prop:=(x=.non/\Win (hdL L) Óz af)\/X3 λ(t:ae) (e:Yb) (z:ak)=>x=.ref t/\e∈L/\e.2.2.1[e.2.2.2]? = U z/\H t=U #[fK,e.1,e.2.2.2,z]/\Win (hdL L) Óz (U e.1)
def Ws(L:À Yb):À Int:=ĸ λe=>(e.2.2.1.length:Int)-(e.2.2.2:Int)
structure ZuB (H:Hp) (r:ae) (rs:À (ae×À ak)):Prop where
 at':H r=U #[hT,rs.map,x,x.1]
 few:rs.length<=60
 lst:∀x∈rs,H x.1=U #[en,x.2.map]/\x.2.length<=200/\∀s∈x.2,ŝ<=1000/\AZ s
theorem ZpT(n:Nat):(Wh 0 n).Pairwise (·<·):=by unfold Wh;exact Qbe _ (λa b h=>by lia) (List.pairwise_lt_range)
def NR:Sp:=λvs H Q _=>X5 λ(p l:ae) (c a:Int) (ss:À ak)=>vs=[.ref p,.ref l,.int a]/\Y3 H p c/\c<2 ^ 40/\0<=a/\a<=60/\H l=U ÃO/\1<=ī/\ī<=4/\ÊT /\
 ∀ (r:ae) (b:À ak) (e:Int) (d:Hp),H r=af->d r=U #[en,Âl]->(ħ:Int)<=a->Ĝ b=true->#[fJ,b,28]->Y3 d p e->c<=e->e<=c+600->But p H d->Q Áj d
theorem ZsX(T:Ù)(n:ÚK):Df P w K mg Â 5 "_law_row" ÃN NR:=by
 rw[ed,T.t_l_row.df,Zq3,o,t];obtain p|l|c|d|g|rfl|i|u|v|y|B|C|D|F|q:=h;refine(_,#[Zh,#[Zm,#[Zo,(Zw6 K),È,ÓA,ÓB,#[Ze,#[Zz,n,t,#[fB,0,1,2],È]]]]],_,rfl,_,rfl,_,rfl,p,l,c,d,g,rfl,i,u,v,y,B,C,D,F,λr G I H1 dI J L M j N O k=>?_);refine(r,G,rfl,Í J,by lia,λb R a m S=>?_);rw[ew,ob,yi,i.here];have V:H b=af:=by
  cases e:H b with
  | none=>rfl
  | some x =>
   by_cases z:b=p
   ·rw[ew,o1,W,j.here];rw[sT,W,a]
   ·have:=k b x e z;rw[zC,a]
 exact q b R I _ V Zb #[ei,m.length_eq,L] S (λs X=>M s (m.mem_iff.mp X)) (j.new a) N O (k.trans #[iD,a])
def Tq(K:Å):Sp:=λvs H Q _=>X3 λ(n:Int) (a:ae) (ss:À ak)=>vs=[.int n,.ref a]/\SqL K H a Ào/\ī<=400/\Ê1/\WP ss .non/\∀b,ZB H b->Q .non b
theorem ZoG(T:Ù)(c:ÓC):Df P w K mg Â 5 "refuse_break" ÊK (Tq K):=by
 rw[ed,T.t_refuse_break.df,Sc,d,g];obtain n|a|b|rfl|i|j|k|l|q:=h;refine(_,#[Zd,#[Zu,2,Sc.nd,à,#[g2,c,g]],#[Zh,#[ZN,#[eq,S4,2,ş],ÎB,ï]]],_,rfl,a,b,rfl,i,j,k,λv m o p=>?_);have e:=N3 o l;subst e;exact(_,rfl,rfl,_,rfl,Y8 (q m p))
structure ZA where
 n:Int
 p:ae
 k:ae
 f:ae
 ss:À ak
 g:Nat
def toL(e:ZA):Yb:=(e.n,e.p,Ò,e.g,)
def hdM(L:õ):Hd:=hdL Ä3
def ZC(L:õ):À Int:=ĸ (·.n)
theorem UA(L:õ):(Ä3).map ó=ZC L:=by rw[Qo];rfl
def kvM(L:õ):À ÁJ:=ĸ λe=>(.inl e.n,.ref e.p,)
theorem Vc{L:õ}(nd:Ëa){e:ZA}(he:e∈L):hdM L e.n=(Ò[e.g]?).map cds :=
 NS (L:=ĸ toL) #[ei,UA,nd] (Qd (f:=toL) he)
theorem ZqU(L:õ):(kvM L).map ó=(Į).map (ÂA:Int->Key):=by unfold kvM ZC;rw[Qo,Qo];rfl
theorem Wr{L:õ}(nd:Ëa){e:ZA}(he:e∈L):Y4 (kvM L) (.inl e.n)=U (.ref e.p):=Vu #[fd,ZqU,Jf,nd] (Qd (f:=λe:ZA=>((.inl e.n:Key),ù e.p,)) he)
theorem Tp{L:õ}{n:Int}(h:n∈ZC L):∃e∈L,e.n=n:=Ħ h
def mgF(rd:ae)(nb li lo:Int)(sd:ae)(a:V):À Á8:=[("rows",.ref rd,),("next_number",.int nb,),("likened",.int li,),("looked",.int lo,),("stays",.ref sd,),("best",a,)]
theorem NQ:¬ #[hH,"rows","next_number"]:=by ac_rfl
theorem NP:¬ #[hH,"rows","likened"]:=by ac_rfl
theorem NO:¬ #[hH,"rows","looked"]:=by ac_rfl
theorem NN:¬ #[hH,"rows","stays"]:=by ac_rfl
theorem NM:¬ #[hH,"rows","best"]:=by ac_rfl
theorem NL:¬ #[hH,"next_number","likened"]:=by ac_rfl
theorem NK:¬ #[hH,"next_number","looked"]:=by ac_rfl
theorem NJ:¬ #[hH,"next_number","stays"]:=by ac_rfl
theorem NI:¬ #[hH,"next_number","best"]:=by ac_rfl
theorem NH:¬ #[hH,"likened","looked"]:=by ac_rfl
theorem NG:¬ #[hH,"likened","stays"]:=by ac_rfl
theorem NF:¬ #[hH,"likened","best"]:=by ac_rfl
theorem NE:¬ #[hH,"looked","stays"]:=by ac_rfl
theorem ND:¬ #[hH,"looked","best"]:=by ac_rfl
theorem NC:¬ #[hH,"stays","best"]:=by ac_rfl
theorem VN(f:ak)(v x:V)(r:À Á8):Zv f v ((f,x,)::r)=(f,v,)::r:=by unfold Zv;rw[Æ rfl]
theorem Zx{f g:ak}(h:¬ g=f)(v x:V)(r:À Á8):Zv f v ((g,x,)::r)=(g,x,)::Zv f v r:=by show (if g=f then (g,v,)::r else (g,x,)::Zv f v r)=_;rw[Ç h]
theorem Xa(f:ak)(v:V):Zv f v []=[(f,v,)]:=rfl
theorem VM(rd:ae)(nb li lo:Int)(sd:ae)(a:V):mgF rd nb li lo sd a=Zv "best" a (Zv "stays" (.ref sd) (Zv "looked" (.int lo) (Zv "likened" (.int li) (Zv "next_number" (.int nb) (Zv "rows" (.ref rd) []))))):=by rw[Xa,Zx NQ,Xa,Zx NP,Zx NL,Xa,Zx NO,Zx NK,Zx NH,Xa,Zx NN,Zx NJ,Zx NG,Zx NE,Xa,Zx NM,Zx NI,Zx NF,Zx ND,Zx NC,Xa];rfl
section
variable (rd:ae) (nb li lo:Int) (sd:ae) (aH:V)
theorem Z6:(Èe).lookup ("rows" : ak)=U (.ref rd):=by rw[VM,Zr,Ç NM,Zr,Ç NN,Zr,Ç NO,Zr,Ç NP,Zr,Ç NQ,Zr,Æ rfl]
theorem Nz:(Èe).lookup ("next_number" : ak)=U (.int nb):=by rw[VM,Zr,Ç NI,Zr,Ç NJ,Zr,Ç NK,Zr,Ç NL,Zr,Æ rfl]
theorem Je:(Èe).lookup ("likened" : ak)=U (.int li):=by rw[VM,Zr,Ç NF,Zr,Ç NG,Zr,Ç NH,Zr,Æ rfl]
theorem ZmF:(Èe).lookup ("looked" : ak)=U (.int lo):=by rw[VM,Zr,Ç ND,Zr,Ç NE,Zr,Æ rfl]
theorem To:(Èe).lookup ("stays" : ak)=U (.ref sd):=by rw[VM,Zr,Ç NC,Zr,Æ rfl]
theorem Tn:(Èe).lookup ("best" : ak)=U aH:=by rw[VM,Zr,Æ rfl]
theorem Xk{m:ak}(h1:¬ m = "rows")(h2:¬ m = "next_number")(a:¬ m = "likened")(b:¬ m = "looked")(c:¬ m = "stays")(d:¬ m = "best"):(Èe).lookup m=af:=by rw[VM,Zr,Ç d,Zr,Ç c,Zr,Ç b,Zr,Ç a,Zr,Ç h2,Zr,Ç h1];rfl
theorem Zhn(v:Int):Zv "next_number" (.int v) Èe=mgF rd v li lo sd aH:=by unfold mgF;rw[Zx NQ,VN]
theorem Jd(v:Int):Zv "likened" (.int v) Èe=mgF rd nb v lo sd aH:=by unfold mgF;rw[Zx NP,Zx NL,VN]
theorem Zh6(v:Int):Zv "looked" (.int v) Èe=mgF rd nb li v sd aH:=by unfold mgF;rw[Zx NO,Zx NK,Zx NH,VN]
theorem Zip(x:ae):Zv "stays" ÀT Èe=mgF rd nb li lo x aH:=by unfold mgF;rw[Zx NN,Zx NJ,Zx NG,Zx NE,VN]
theorem RR(x:V):Zv "best" x Èe=mgF rd nb li lo sd x:=by unfold mgF;rw[Zx NM,Zx NI,Zx NF,Zx ND,Zx NC,VN]
theorem We:(Èe).length<1000:=by show 6<1000;decide
universe E
structure WN (C:ae) (H:Hp) (e:ZA):Prop where
 at':Vf C H e.p e.k e.f Ò e.g
 le:e.g<=ĭ
 len:ĭ<=200
 srt:Ĝ Ò=true
 str:∀s∈Ò,ŝ<=1000/\AZ s
structure ZR (cR cM:ae) (H:Hp) (m rd sd:ae) (L:õ) (s:StL) (nb li lo:Int) (aH:V):Prop where
 ob:∃dx,H m=U (.ins cM dx Èe)
 Àu:H rd=U Æb
 stays:H sd=U (.dT (kvS s))
 ats:AtS H s
 each:∀e∈L,WN cR H e
 up:Yr Į
 pd:#[y0].Nodup
 few:Àq<=60
 sfew:ŝ<=200
def Fp(m rd sd:ae)(L:õ)(b:ae):Prop:=b=m\/b=rd\/b=sd\/∃e∈L,b=e.p\/b=e.k\/b=e.f
theorem WN.keep{C:ae}{H a:Hp}{e:ZA}(h:WN C H e)(hp:a e.p=H e.p)(hk:a e.k=H e.k)(b:a e.f=H e.f):WN C a e :=
 ((by rw[hp];exact h.at'.ob,by rw[hk];exact h.at'.ks,by rw[b];exact h.at'.fs),h.le,ÀL,h.srt,h.str)
section
variable {cR cM:ae} {H H':Hp} {m rd sd:ae} {L:À ZA} {s:StL} {nb li lo:Int} {aH:V}
theorem ZR.nd(h:Ä4):(Į).Nodup:=RT À2
theorem ZR.keep(h:Ä4)(k:∀b o,H b=U o->Fp m rd sd L b\/ÓD->H' b=U o):ZR cR cM H' m rd sd L s nb li lo aH:=by
 refine(?_,k _ _ Èf (.inl Å5),k _ _ Èg (.inl (.inr Å5)),λe a t f=>k _ _ (h.ats e a t f) (.inr ü),λe a=>?_,À2,h.pd,ÁU,h.sfew)
 ·rw[ew,c,d,h.ob];exact(c,k _ _ d (.inl Ğ))
 ·have r:=h.each e a;rw[ew,c,d,r.at'.ob];exact(((c,k _ _ d (.inl (.inr (.inr (.inr (e,a,.inl rfl)))))),k _ _ ÎC (.inl (.inr (.inr (.inr (e,a,.inr Ğ))))),k _ _ ÎD (.inl (.inr (.inr (.inr (e,a,.inr Ãz)))))),r.le,r.len,r.srt,r.str)
theorem ZR.same(h:Ä4)(k:ZB H H'):ZR cR cM H' m rd sd L s nb li lo aH:=h.keep λb o hb _=>k b o hb
theorem ZR.ne_p(h:Ä4){e:ZA}(he:e∈L):m≠e.p/\m≠e.k/\m≠e.f:=by
 rw[ew,dx,b,h.ob];rw[q7];refine ÚL
 ·rw[z,c]at b;injection b with b;injection b with _ _ b;have a:=Vg e.k e.f (e.g:Int);rw[b,Xk _ _ _ _ _ _ ú ú ú ú ú ú]at a;cases a
 ·rw[sT,ÎC,b]
 ·rw[sT,ÎD,b]
theorem ZR.ne_m(h:Ä4):m≠rd/\m≠sd/\rd≠sd:=by
 rw[ew,dx,a,h.ob];refine ÚL
 ·rw[sT,Èf,a]
 ·rw[sT,Èg,a]
 ·have:=Èf;rw[gY,Èg]
theorem ZR.ne_sd(h:Ä4){e:ZA}(he:e∈L):sd≠e.p/\sd≠e.k/\sd≠e.f/\rd≠e.p/\rd≠e.k/\rd≠e.f:=by
 rw[q7];have a:=Èg;have b:=Èf;refine(λz=>?_,λz=>?_,λz=>?_,λz=>?_,λz=>?_,λz=>?_)
 ·rw[sT,c,a]
 ·rw[sT,ÎC,a]
 ·rw[sT,ÎD,a]
 ·rw[sT,c,b]
 ·rw[sT,ÎC,b]
 ·rw[sT,ÎD,b]
theorem ZR.obj(h:Ä4){nb' li' lo':Int}{Æc:V}{dx:ae}:ZR cR cM (upd H m (.ins cM dx (mgF rd nb' li' lo' sd Æc))) m rd sd L s nb' li' lo' Æc:=by
 rw[hD,f,g,n3,h.ne_m];rw[ew,dy,i,h.ob];refine((dx,Zb),by rw[Zc f.symm];exact Èf,by rw[Zc g.symm];exact Èg,λe d t j=>?_,λe d=>?_,À2,h.pd,ÁU,h.sfew)
 ·have:=h.ats e d t j;rw[eR,i]
 ·rw[tq,a,b,c,h.ne_p,d];rw[gb,h.each,d]
theorem ZR.put(h:Ä4){k:ő}{v:ÃS}(i:ÚJ)(hs:(Ê7).length<=200):ZR cR cM ÚM m rd sd L Ê7 nb li lo aH:=by
 rw[hD,n1,j,l,h.ne_m];rw[ew,n,o,h.ob];have tup:#[zv,a,d,ÚM]:=λa d f=>by rw[Zc (λz=>by rw[z,Èg]at f;cases f)];exact f
 refine((n,by rw[Zc j];exact o),by rw[Zc l];exact Èf,Zb,(h.ats.put i).mono tup,λe g=>?_,À2,h.pd,ÁU,hs);obtain a|b|c|_:=h.ne_sd g;rw[gb,h.each,g]
universe E
def Ny(g h:ae):Sp:=λvs H Q _=>X14 λ(m rd sd:ae) (L:À ZA) (s:StL) (nb li lo:Int) (i:V) (a b:ZA) (x y:ak) (d:Nat)=>vs=[.ref m,.int a.n,.int b.n,.int (d:Int)]/\ZR g h H m rd sd L s nb li lo i/\a∈L/\b∈L/\a.ss[a.g]? = U x/\b.ss[b.g]? = U y/\d<=lcp ý Ĕ /\
 ∀ (t:ae) (e f:Int) (c:Hp),(Btr ý a.n Ĕ b.n/\e=a.n/\f=b.n\/¬ Btr ý a.n Ĕ b.n/\e=b.n/\f=a.n)->H t=af->c t=U (.tup [.int e,.int f,.int (ÀK:Int)]) ->
  ZR g h c m rd sd L s nb (li+1) (lo+(ÀK-(d:Int)+1)) i->#[eK,o,m,c]->Q Ât c
theorem Tl{ss:Ñ}{g:Nat}{x:ak}(h:ss[g]? = U x):WO ss g=.str x:=by unfold WO;rw[h]
theorem Vb(k f:ae)(g:Int):(Ît).lookup ("head" : ak)=af:=ÎE
theorem ZsJ(T:Ù)(be:Èh)(gD:ÚN):Mf P w K mg Â 3 am "meet" Í7 (Ny aw am):=by
 rw[ed,T.t_Merge_meet.mf,Sd,vs,D];obtain m|j|C|L|s|l|p|lo|r|a|b|x|y|u|rfl|M|ha|B|hx|hy|hf|q:=h;refine(_,#[Zd,#[YC,#[Zz,gD,D,#[Ze,#[Yi,be,Ņ,D,#[ie,D,1]],#[Yi,be,Ņ,D,#[ie,D,2]],‹3›],È],#[ef,4,Sd.nd,5,6]],#[Zd,ÓE,#[Zd,#[VB,‹0›,‹6›,Uk],#[Zd,#[ZN,(@Ř _ _ _ #[W5,#[eq,WT,4,Û],#[W6,(@Ř _ _ _ #[Xt,#[eq,YS,4,Û],#[Xh,#[Zk,WT,‹1›,‹2›,þ]]])]]),#[Zh,#[Zm,#[Yx,#[fB,1,2,5]]]],ï],#[Zh,#[Zm,#[Yx,#[fB,2,1,5]]]]]]]],?_);rw[gM,dx,N];have O:=À3 a ha;have R:=À3 b B;rw[ew,da,S,O.at'.ob];rw[ew,db,V,Ëb];have lx:=(O.str x (Qn hx)).1;have ly:=(R.str y (Qn hy)).1;refine(_,rfl,m,am,dx,_,_,rfl,N,â,Ť,Z6 ..,_,rfl,j,_,rfl,ď (k:=.inl a.n) ņ (Wr Ų ha),a.p,da,_,rfl,S,Vb ..,a.p,a.k,a.f,a.ss,a.g,rfl,O.at',_,rfl,m,am,dx,_,_,rfl,N,â,Ť,Z6 ..,_,rfl,j,_,rfl,ď (k:=.inl b.n) ņ (Wr Ų B),b.p,db,_,rfl,V,Vb ..,b.p,b.k,b.f,b.ss,b.g,rfl,R.at',?_);rw[Tl hx,Tl hy];refine(_,rfl,x,y,u,rfl,lx,ly,hf,λt ht=>?_);have I:=Zi ht ÚO;rw[fv,rX,H,t,ÚO];generalize upd H t (.tup [.int (ZT (cds x) (cds y)),.int (lcp (cds x) (cds y):Nat),.int ((lcp (cds x) (cds y):Nat)-(u:Int)+1)])=W at I rX ⊢;have M1:=Â7 I;rw[eW,t,rX];have fo:=I _ _ N;rw[gk,fo,ÓF,Je,Jd];have M2:=M1.obj (nb':=l) (li':=p+1) (lo':=lo) (Æc:=r) (dx:=dx);have k2:#[rO,H,m,W,ÚP]:=λb o B n=>by rw[Zc n];exact I b o B
 rw[rM,X,W,m,ÚP];generalize upd W m (.ins am dx (mgF j l (p+1) lo C r))=H2 at M2 k2 X ⊢;refine(_,rfl,m,am,dx,_,_,rfl,X,â,ÚQ,ZmF ..,_,rfl,_,_,rfl,rfl,dx,_,X,We ..,?_);rw[Zh6];have Y:=M2.obj (nb':=l) (li':=p+1) (lo':=lo+(ÀK-(u:Int)+1)) (Æc:=r) (dx:=dx);have Z:∀b o,H b=U o->b≠m->(upd H2 m (.ins am dx (mgF j l (p+1) (lo+(ÀK-(u:Int)+1)) C r))) b=U o:=λb o B n=>by rw[Zc n];exact k2 b o B n
 generalize upd H2 m (.ins am dx (mgF j l (p+1) (lo+((lcp (cds x) (cds y):Nat)-(u:Int)+1)) C r))=H3 at Y Z ⊢;have v:∀F G:Int,(Btr ý a.n Ĕ b.n/\F=a.n/\G=b.n\/¬ Btr ý a.n Ĕ b.n/\F=b.n/\G=a.n)->∀c,H3 c=af->Q (.ref c) (upd H3 c (.tup [.int F,.int G,.int (ÀK:Int)])):=λF G hw c i=>by
  have gx:H c=af:=by
   cases e:H c with
   | none=>rfl
   | some o =>
    by_cases z:c=m
    ·rw[ew,dz,hz,Y.ob];rw[sT,hz,i]
    ·rw[Z c o e z]at i;cases i
  exact q c F G _ hw gx Zb (Y.same (Zi i _)) (λb o B n=>Zi i _ _ _ (Z b o B n))
 have J:3<=aq:=by decide
 refine(_,rfl,_,_,rfl,rfl,_,rfl,Y1 ž ž)
 ·have d':ZT ý Ĕ<0:=ÃR;exact YM (_,rfl,_,rfl,_,rfl,J,λc i=>v _ _ (.inl (.inl d',rfl,rfl)) c i)
 have d1:¬ ZT ý Ĕ<0:=Îs;refine(_,rfl,rfl,_,rfl,Y1 (λe=>?_) (λe=>?_))
 ·have e':ZT ý Ĕ=0:=by have:=Ŀ e;rw[qo]
  refine(_,rfl,_,rfl,_,_,rfl,rfl,_,rfl,Y1 (λg=>?_) (λg=>?_))
  ·have g':a.n<b.n:=Ŀ g;exact(_,rfl,_,rfl,_,rfl,J,λc i=>v _ _ (.inl (.inr (e',g'),rfl,rfl)) c i)
  ·have g':¬ a.n<b.n:=λz=>g Ç6;exact(_,rfl,_,rfl,_,rfl,J,λc i=>v _ _ (.inr (λz=>by rcases z with z|z;exact d1 z;exact g' z.2,rfl,rfl)) c i)
 ·have e':ZT ý Ĕ≠0:=λz=>e (ě (by rw[z]));exact Y8 (_,rfl,_,rfl,_,rfl,J,λc i=>v _ _ (.inr (λz=>by rcases z with z|z;exact d1 z;exact e' z.1,rfl,rfl)) c i)
theorem ZR.cast{a b:ae}{H:Hp}{m rd sd:ae}{L:õ}{s:StL}{nb li lo li' lo':Int}{c:V}(h:#[fE,a,b,c])(d:li=li')(e:lo=lo'):ZR a b H m rd sd L s nb li' lo' c:=by subst d;subst e;exact h
theorem Jc{N:Ø}(h:N≠[]):atI Ëc (-1)=U (.int (Èc 0)):=by
 have e:N=N.dropLast++[N.getLast h]:=(List.dropLast_concat_getLast h).symm;have:=Zp7 (N.dropLast.map ì) (ì (N.getLast h));rw[Qay,Qa4 h]
 conv=>lhs;rw[e,Qe]
 exact this
theorem Jb{N:Ø}(h:N≠[]):atI Ëc 0=U (.int (Èb 0)):=by
 cases N with
 | nil=>exact Ê rfl h
 | Î a r=>exact XZ (j:=0) rfl
theorem Nx(rd:ae)(nb li lo:Int)(sd:ae)(a:V):#[28].lookup ("play" : ak)=af:=À4
theorem Ja(rd:ae)(nb li lo:Int)(sd:ae)(a:V):#[28].lookup ("meet" : ak)=af:=À4
def I0(K:Å)(d e:ae)(n:Nat):Sp:=λvs H Q _=>X11 λ(m rd sd:ae) (L:À ZA) (s:StL) (nb li lo:Int) (f:V) (l:ae) (N:À Int)=>vs=#[rY,m,l]/\ZR d e H m rd sd L s nb li lo f/\H l=U (.lst Ëc)/\1<=ģ/\ģ<=60/\0<n/\ģ<=2 ^ (n-1)/\(∀x∈N,x∈ZC L)/\Yr N/\(∀k,Xb n N k->Z2 s k=af)/\ŝ+ģ<=200 /\
 ∀ (w:Ã Int) (a:StL) (k q:Int) (c:Hp),Win ą N w->XV ą a n N->YE ą n N k q->(∀j,¬ Xb n N j->Z2 a j=Z2 s j)->ľ+1<=ŝ+ģ->ZR d e c m rd sd L a nb (li+k) (lo+q) f->#[fe,H,sd,c]->Q (Yz w) c
theorem IZ(T:Ù)(be:Èh)(fc:ÓG)(cH:ÚR) :
  ∀n:Nat,Mf P w K mg Â (n+4) am "play" Í4 (I0 K aw am n)
 | 0=>by
  rw[tH]
  ·rw[o6];rfl
  obtain m|rd|sd|L|s|nb|li|lo|S|l|N|rfl|_|_|_|_|z|_:=h;exact Ê z Á
 | n+1=>by
  have c7:=IZ T be fc cH n;rw[tH]
  ·rw[o6];rfl
  obtain m|rd|sd|L|s|nb|li|lo'|S|l|N|rfl|M|B|h1|rV|_|jC|l9|C|gx|hsz|q:=h;rw[QaN]at jC;refine(_,#[Zd,#[ZN,#[il,YS,Îl],#[Zh,#[Zm,#[Z4,#[Zk,Xe,#[Yi,be,Ņ,hr,#[ZD,(ixG hr),Ģ,Æd]],ş,þ],ş,Æd]]],ï],#[Zd,#[YC,#[g2,fc,hr],#[r8,Wf.nd]],#[Zd,#[Zu,4,Wf.nd,à,#[sR,c7,hr,Ä5]],#[Zd,#[Zu,5,Wf.nd,à,#[sR,c7,hr,Èi]],#[Zd,#[ZN,#[g6,4],#[fq,5],ï],#[Zd,#[ZN,#[g6,5],#[fq,4],ï],#[Zd,#[YC,#[XA,cH,â,hr,‹0›,#[Ze,‹4›,‹5›,Û]],#[ef,6,Wf.nd,7,8]],#[Zd,#[YC,#[Yx,#[e5,7,8]],#[Xg,Ģ,#[Yx,#[Ze,Æd,#[ZD,Τ,‹1›,Ê3]]],(Ww hr)]],#[fq,6]]]]]]]]],?_);rw[u4];have hN:N≠[]:=Xl h1;have E3:l≠m:=λz=>by rw[z,hm]at B;cases B
  have nsl:l≠sd:=λz=>by rw[z,Èj]at B;cases B
  have kF:#[im,N.map,ì]=(ģ:Int):=by rw[Qa]
  refine(_,rfl,l,_,rfl,.inl (Í B),rfl,_,rfl,Y1 ž ž)
  ·have E4:ģ=1:=by have:=ÃR;injection this with this;rw[kF]at this;lia
   obtain⟨n0,rfl⟩:∃n0,N=[n0]:=QaO.mp E4;obtain e|he|rfl:=Tp (l9 n0 Ö);rw[s4,R,he,dp,hp,Ëb];have bW:atI (([e.n]:À Int).map ì) 0=U (.int e.n):=XZ (j:=0) rfl;refine(_,rfl,m,am,dx,_,_,rfl,hm,â,Ť,Z6 ..,_,rfl,l,_,_,_,rfl,rfl,Í B,bW,rd,_,rfl,ď (k:=Æe) ņ (Wr Ų he),e.p,dp,_,rfl,hp,Vb ..,e.p,e.k,e.f,Ò,e.g,rfl,R.at',rfl,_,rfl,?_);have bO:XV ą s (n+1) [e.n]:=λh2=>by simp at h2
   have cV:YE ą (n+1) [e.n] 0 0:=.few (by show 1<2;decide);have W:=Îw (hd:=hdM L) (n:=e.n);have hd:=Vc Ų he;have M':=M.cast (li':=li+0) (lo':=lo'+0) Á Á;cases g:Ò[e.g]? with
   | none=>rw[show WO Ò e.g=.non by unfold WO;rw[g]];rw[hd,g]at W;exact Y0 rfl (q af s 0 0 H W bO cV Ä6 ç M' ÓH)
   | some x=>rw[Tl g];rw[hd,g]at W;exact YO Ài (_,rfl,l,_,_,_,rfl,rfl,Í B,bW,q (U e.n) s 0 0 H W bO cV Ä6 ç M' ÓH)
  have c:Æa:=by have:¬ ((ģ:Int)=1):=λz=>d (ě (by rw[kF,z]));lia
  have gt:1<=n:=by
   cases n with
   | zero=>simp at jC;lia
   | succ m=>lia
  have hpow:2 ^ n=2*2 ^ (n-1):=by obtain⟨m,rfl⟩:∃m,n=m+1:=(n-1,by lia);rw[ÎF,QaN];lia
  have kB:(lo N).length<=2 ^ (n-1)/\(lo N).length<=60:=by unfold lo mid;rw[Qx];lia
  have Aq:(up N).length<=2 ^ (n-1)/\(up N).length<=60:=by unfold up mid;rw[QZ];lia
  have oR:(lo N).length+(up N).length=ģ:=by rw[<- Qi,Xm]
  have Ar:∀x∈lo N,x∈ZC L:=λx g=>l9 x (Qam g);have At:∀x∈up N,x∈ZC L:=λx g=>l9 x (QaC g);refine(_,rfl,l,N,rfl,Í B,by lia,λt f r H2 ht hf E5 BZ cT jH e6 s2 ntf ntr=>?_);rw[Æ rfl]at cT;rw[Zug]at jH;rw[ZtQ]at e6;rw[hB,t,cT];have M2:=Â7 s2;have dQ:=s2 _ _ hm;have B9:r≠m:=(Zf hm E5).symm;have nfs:r≠sd:=(Zf Èj E5).symm;refine(_,rfl,m,dx,_,rfl,dQ,Nx ..,_,rfl,m,rd,sd,L,s,nb,li,lo',S,f,lo N,rfl,M2,jH,(VP c).2,kB.2,gt,kB.1,Ar,RV C,λk u=>gx k (c,.inl u),by lia,λw1 s1 k1 q1 H3 i S1 P1 o1 l1 M3 b3=>?_);have fO:=b3 _ _ e6 B9 nfs;rw[ew,dx3,hm3,M3.ob];refine(_,rfl,m,dx3,_,rfl,hm3,Nx ..,_,rfl,m,rd,sd,L,s1,nb,_,_,S,r,up N,rfl,M3,fO,(Vd c).2,Aq.2,gt,Aq.1,At,RU C,λk u=>?_,by lia,λw2 G k2 q2 H4 p S2 P2 o2 l2 M4 b4=>?_)
  ·rw[o1 k ((NU C c u).2 n)];exact gx k (c,.inr (.inl u))
  have wj:¬ Xb n (lo N) (ZX N)/\¬ Xb n (up N) (ZX N):=(λz=>(NV C c z).1 rfl,λz=>(NU C c z).1 rfl);have E6:XV ą G n (lo N):=S1.congr n _ Ä6 (λk u=>o2 k ((NV C c u).2 n));have iN:Z2 G (ZX N)=af:=by rw[o2 _ wj.2,o1 _ wj.1];exact gx _ (c,.inr Ãz)
  have Z:∀j,¬ Xb (n+1) N j->Z2 G j=Z2 s j:=λj hj=>by rw[o2 j (λz=>hj (c,.inr (.inl z))),o1 j (λz=>hj (c,.inl z))]
  have Ca:#[sV,m,sd,H4]:=λb o hb n1 n2=>b4 b o (b3 b o (s2 b o hb) n1 n2) n1 n2;have wk:∀wn,Win ą N wn->(Win ą (lo N) af\/Win ą (up N) af)->Q (Yz wn) H4:=λwn hw iQ=>by
   refine q wn G (k1+k2) (q1+q2) H4 hw (λ_=>(E6,S2,λa b x y wa wb _ _=>?_,λ_=>.inl iN)) (.none c P1 P2 iQ) Z Á (M4.cast Á Á) Ca;rcases iQ with z|z
   ·rw[g4,wa]
   ·rw[g4,wb]
  cases w1 with
  | none=>exact(_,rfl,rfl,_,rfl,Y0 rfl (_,rfl,wk w2 (by have:=Îy i p;rwa [Xm]at this) Åk))
  | some a =>
  rw[bc];cases w2 with
  | none=>exact(_,rfl,rfl,_,rfl,Y0 rfl (_,rfl,wk (U a) (by have:=Îx i p;rwa [Xm]at this) (.inr p)))
  | some b =>
  rw[bc];obtain I|yI|A4:=Tp (Ar a i.1);obtain J|yJ|eb':=Tp (At b p.1);subst A4;subst eb';have X:=Vc Ų yI;have Y:=Vc Ų yJ;cases g:I.ss[I.g]? with
  | none=>obtain _|z|hz|_:=i;rw[e4,X,g,hz]
  | some x =>
  cases hy:J.ss[J.g]? with
  | none=>obtain _|z|hz|_:=p;rw[e4,Y,hy,hz]
  | some y =>
  rw[g]at X;rw[hy]at Y;rw[ew,Cb,wl,M4.ob];refine(_,rfl,m,Cb,_,rfl,wl,Ja ..,_,rfl,_,rfl,m,rd,sd,L,G,nb,_,_,S,I,J,x,y,0,rfl,M4,yI,yJ,g,hy,Qs _,λt5 wi D H5 hw rY wm M5 b5=>?_);rw[eW,t5,wm];have wq:2<=aq:=by decide
  refine(_,rfl,_,rfl,wq,λF kI=>?_);have s6:=Zi kI ÚS;rw[rM,qA,H5,F,ÚS];have M6:=M5.same s6;generalize upd H5 F (.tup [.int D,.int ((lcp (cds x) (cds y):Nat):Int)])=H6 at s6 qA M6 ⊢;rw[ew,Cc,Cd,M6.ob];have qB:H6 l=U (.lst Ëc):=s6 _ _ (b5 _ _ (Ca _ _ B E3 nsl) E3);refine(_,rfl,m,am,Cc,_,_,rfl,Cd,â,Æf,To ..,_,rfl,l,_,_,_,rfl,rfl,Í qB,Jb hN,_,rfl,_,rfl,l,_,_,_,rfl,rfl,Í qB,Jc hN,wq,λt7 uw=>?_);have s7:=Zi uw ÚT;have Au:(upd H6 t7 ÚT) t7=U (.tup ((Ü4).map kV)):=Zb;have M7:=M6.same s7;generalize upd H6 t7 (.tup [.int (Èb 0),.int (Èc 0)])=H7 at s7 Au M7 ⊢;have fP:#[tm,kvS,G]:=by unfold kvS;rw[ld]
  refine(sd,_,rfl,XD.t (k:=Ü4) M7.stays Au fP,?_);rw[show ù F=stV (U ÎG) from rfl,RW];have cV:=ZpN G (ZX N) (U ÎG);have l1':=(VP c).2;have M8:=M7.put (k:=ZX N) (v:=U ÎG) (λt ht=>by injection ht with ht;rw[<- ht];exact s7 _ _ qA) Á;have dw:I.n≠J.n:=λz=>by have:=ZS C i.1 p.1;lia
  have b08:∀b o,H b=U o->b≠m->b≠sd->(upd H7 sd (.dT (kvS (Yf G (ZX N) (U ÎG))))) b=U o:=λb o hb n1 n2=>by rw[Zc n2];exact s7 _ _ (s6 _ _ (b5 _ _ (Ca _ _ hb n1 n2) n1))
  have W:Win ą N (U wi):=by
   rcases hw with⟨O,rfl,_⟩|⟨O,rfl,_⟩
   ·have:=Èa i p X Y O;rwa [Xm]at this
   ·have:=Ê4 i p X Y ((Ç9 dw).resolve_left O);rwa [Xm]at this
  have hlz:D=if ZT ý Ĕ<0\/ÓI then J.n else I.n:=by
   rcases hw with⟨O,_,rfl⟩|⟨O,_,rfl⟩
   ·exact(Æ (show ZT ý Ĕ<0\/ÓI from O)).symm
   ·exact(Ç (show ¬ (ZT ý Ĕ<0\/ÓI) from O)).symm
  refine(_,rfl,q (U wi) _ (k1+k2+1) (q1+q2+ÀK+1) _ W (λ_=>(?_,?_,?_,λiQ=>?_)) (.both c P1 P2 i p X Y) (λj hj=>?_) Á (M8.cast Á Á) b08)
  ·exact E6.congr n _ Ä6 (λk u=>by rw[Wt,Ç (NV C c u).1])
  ·exact S2.congr n _ Ä6 (λk u=>by rw[Wt,Ç (NU C c u).1])
  ·intro a' b' x' y' wa wb rZ r6;have e1:=Qw (wa.one i);have e2:=Qw (wb.one p);subst e1;subst e2;have e3:=Qw (rZ.symm.trans X);have e4:=Qw (r6.symm.trans Y);subst e3;subst e4;exact(F,by rw[Wt,Æ rfl,hlz])
  ·rcases iQ with z|z
   ·rw[g4,i]
   ·rw[g4,p]
  ·rw[Wt,Ç (λz=>hj (c,.inr (.inr z)))];exact Z j hj
theorem WN.mono{C:ae}{H a:Hp}{e:ZA}(h:WN C H e)(k:∀b o,H b=U o->b=e.p\/b=e.k\/b=e.f->a b=U o):WN C a e:=by obtain c|d:=h.at'.ob;exact(((c,k _ _ d Ğ),k _ _ h.at'.ks Å5,k _ _ h.at'.fs (.inr Ãz)),h.le,ÀL,h.srt,h.str)
theorem IY(L:õ):(kvM L).map (λa=>kV a.1)=(Į).map ì:=by unfold kvM ZC;rw[Qo,Qo];rfl
theorem Zqu{n:Nat}{N:Ø}{k:ő}(_:Xb n N k):Z2 [] k=af:=rfl
def Tj(c d:ae):Sp:=λvs H Q _=>X9 λ(m rd sd:ae) (L:À ZA) (s:StL) (nb li lo:Int) (g:V)=>vs=[.ref m]/\ZR c d H m rd sd L s nb li lo g /\
 ∀ (e:ae) (f:StL) (w:Ã Int) (k q:Int) (a:Hp),H e=af->Win ą Į w->XV ą f 8 Į->YE ą 8 Į k q->ZR c d a m rd e L f nb (li+k) (lo+q) (Yz w)->#[eK,o,m,a]->Q .non a
theorem ZlE(T:Ù)(c7:Mf P w K mg Â 12 am "play" Í4 (I0 K aw am 8)):Mf P w K mg Â 13 am "play_all" Ą (Tj aw am):=by
 rw[h0,T.t_Merge_play_all.mf,ZfA];obtain m|j|sd|L|s|p|t|i|u|rfl|M|q:=h;refine(_,#[Zd,#[sz,Lf],#[Zh,#[X0,‹0›,#[Z4,#[il,Wk,ÓJ],#[XA,c7,â,hr,‹0›,#[Ze,ÚU]],ş]]]],?_);refine λg v=>?_;rw[gM,z,N];have B:=Zi v (.dT []);have O:(upd H g (.dT [])) g=U (.dT (kvS [])):=Zb;have M1:=Â7 B;have R:=B _ _ N;have ux:m≠g:=Zf N v;have E7:j≠g:=Zf ņ v;generalize upd H g (.dT [])=G at B O M1 R ⊢;refine(_,rfl,m,am,z,_,rfl,R,â,Æf,We ..,?_);rw[Zip];rw[hD,n1,n2,n3,M.ne_m];have M2:ZR aw am ÚV m j g L [] p t i u:=by refine((z,Zb),by rw[Zc n1.symm];exact Ëd,by rw[Zc ÎH];exact O,#[eB,e,C],λe C=>?_,M.up,M.pd,Âu,by decide);rw[tq,a,b,c,M1.ne_p,C];rw[gb,ÎI,C]
 have I:#[zw,o,m,ÚV]:=λb o y n=>by rw[Zc n];exact B b o y
 generalize upd G m (.ins am z (mgF j p t i g u))=X at M2 I ⊢;rw[ew,D,F,M2.ob];have aZ:ÓK:=by unfold kvM;rw[Qa]
 have r8:(Į).length=Àq:=by unfold ZC;rw[Qa]
 have iY:=Âu;refine(_,rfl,m,am,D,_,_,rfl,F,â,Ť,Z6 ..,j,_,rfl,M2.rows,_,_,rfl,rfl,_,rfl,Y1 ž ž)
 ·have i0:0<Àq:=by have:(0:Int)<Ëe:=ÃR;lia
  refine(_,rfl,m,D,_,rfl,F,Nx ..,_,rfl,m,am,D,_,_,rfl,F,â,Ť,Z6 ..,j,_,rfl,M2.rows,λl hl=>?_);rw[IY];have J:=Zi hl Ëf;rw[fv,Y,X,l,Ëf];have Z:=M2.same J;generalize upd X l (.lst ((ZC L).map ì))=H3 at J Y Z ⊢;refine(m,j,g,L,[],p,t,i,u,l,ZC L,rfl,Z,Y,by lia,by lia,by decide,Qk (by lia:(Į).length<=60) É,λx hx=>hx,M.up,λk hk=>Zqu hk,by show 0+_<=_;lia,λw1 s' k q' H4 W S Pl _ _ M4 b4=>?_);rw[ew,Cb,wl,M4.ob];rw[f4,Cb,wl];exact q g s' w1 k q' _ v W S Pl M4.obj (λb o y n=>by rw[Zc n];exact b4 b o (J b o (I b o y n)) n (Zf y v))
 ·have E8:L=[]:=by
   cases L with
   | nil=>rfl
   | Î e r=>exact Ê (ě (show (0:Int)<(((kvM (e::r)).length:Nat):Int) by rw[aZ];simp only[ËG];lia)) d
  subst E8;rw[f4,D,F];exact q g [] af 0 0 _ v (Win.nil _) #[tC,h2,h2,É] (.few É) (M2.obj.cast Á Á) (λb o y n=>by rw[Zc n];exact I b o y n)
def IX(L:õ)(a:À (ae×À ak)):Prop:=ZC L=Wh 0 ľ/\ĸ (λe=>(Ò,e.g,))=ŕ λx=>(x.2,0,)
def IW(g d:ae):Sp:=λvs H Q _=>X4 λ(m dx r:ae) (a:À (ae×À ak))=>vs=#[rY,m,r]/\H m=U (.ins d dx [])/\ZuB H r a/\(∀x∈a,Ĝ x.2=true) /\
 ∀ (e f:ae) (L:À ZA) (s:StL) (w:Ã Int) (k q:Int) (c:Hp),ZR g d c m e f L s ÂQ k q (Yz w)->IX L a->Win ą Į w->XV ą s 8 Į->YE ą 8 Į k q->(∀b,Fp m e f L b->b=m\/H b=af)->#[eK,o,m,c]->Q .non c
theorem RQ(rd:ae)(nb li lo:Int)(sd:ae)(a:V):#[28].lookup ("play_all" : ak)=af:=À4
theorem RP{ss:Ñ}(h:#[tr,ss]):WP ss .non:=by refine .inl (rfl,λi x y a b=>?_);have:=Jp h i y x b a;have:=VS Ĕ ý;lia
theorem Ziw(T:Ù)(bG:ÎJ)(eE:ÚW)(bb:ÎK):Cf P w K mg Â 14 am "Merge" Í2 (IW aw am):=by
 rw[h0,T.t_Merge_init.cf,Oj];obtain m|g|r|l|rfl|hm|X|jG|q:=h;refine(_,#[Zd,#[sz,PF],#[Zd,#[XI,χ,#[iE,K,Ól,Ák],#[r8,Oj.nd],#[Zd,#[ZM,#[fp,bG,hr,2,3]],#[Zh,#[YC,#[Ub,eE,hr,Èi],#[iQ,2,hr]]]]],#[Zd,#[X0,‹0›,Îl],#[Zd,Ót,#[Zd,Ót,#[Zd,#[sz,Lf],#[Zd,#[X0,‹0›,ş],#[Zh,#[ZM,#[gK,bb,hr]]]]]]]]]],?_);refine λc o7=>?_;have Ce:m≠c:=Zf hm o7;have s1:=Zi o7 (.dK []);have jd:#[iO,H,c] c=U (.dK (kvM [])):=Zb;have fo:=s1 _ _ hm;generalize upd H c (.dK [])=H1 at s1 jd fo ⊢;refine(_,rfl,m,am,g,_,rfl,fo,â,Ť,#[ia,0],?_);have wt:r≠m:=λz=>by have:=X.at';rw[gY,hm]
 have k2:#[rO,H,m,H1,ÎL]:=λb o d n=>by rw[Zc n];exact s1 b o d
 rw[rM,dQ,H1,m,ÎL];have e6:(upd H1 m ÎL) c=U (.dK (kvM [])):=by rw[Zc Ce.symm];exact jd
 generalize upd H1 m (.ins am g (Zv "rows" (.ref c) []))=H2 at k2 dQ e6 ⊢;have iY:=X.few;have lkr:(ÎM).lookup ("rows" : ak)=U (ù c):=by rw[Zr,Æ rfl]
 refine(_,rfl,r,_,rfl,Í (k2 _ _ X.at' wt),?_);refine SQ (K:=K) (a:=r) (xs:=Â0 λx=>ù x.1) (λi σ t=>X3 λ(L:À ZA) (v2 v3:Ã V)=>σ=[U Æg,U Áj,v2,v3]/\t m=U ÎL/\t c=U Æb/\(∀e∈L,WN aw t e)/\IX L (l.take i)/\#[y0].Nodup/\(∀e∈L,H e.p=af/\H e.k=af/\H e.f=af)/\#[eK,o,m,t]) ([],_,_,rfl,dQ,e6,#[eB,e,h],Ŕ,List.nodup_nil,#[eB,e,h],k2) (λi σ t hq=>by obtain _|_|_|_|_|_|_|_|_|_|I:=hq;exact Í (I _ _ X.at' wt)) ?_ ?_
 ·rintro i y σ t p hy ⟨L,v2,v3,rfl,J,F,C,⟨n1,n2⟩,pd,e9,I⟩ hp;rw[Qq]at hy;cases hz:l[i]? with
  | none=>rw[hz]at hy;cases hy
  | some x =>
  rw[ez,hz,hy,cq,ś];have Cg:=Qn hz;obtain lx|qC|r9:=X.lst x Cg;have nxm:x.1≠m:=λz=>by rw[z,hm]at lx;cases lx
  have hLl:Àq=i:=by have:=#[eC,n1];unfold ZC at this;rw[Qa,Le,Qx]at this;lia
  have bf:∀e∈L,e.n≠(i:Int):=λe he z=>by
   have h1:e.n∈Wh 0 (l.take i).length:=by rw[<- n1];exact Qd (f:=λe:ZA=>e.n) he
   unfold Wh at h1;rw[tq,j,hj,ej,Ħ,h1];have:=ÖM hj;rw[Qx]at this;lia
  have sp:=Zi hp ÚX;rw[rM,E9,t,p,ÚX];generalize upd t p (.tup [.int (i:Int),.ref x.1])=H6 at sp E9 ⊢;rw[hB,p,E9];have Fa:H6 x.1=U #[en,x.2.map]:=sp _ _ (I _ _ lx nxm);refine(_,rfl,_,rfl,(i:Int),x.1,x.2,rfl,Í Fa,by lia,λs hs=>(r9 s hs).1,RP (jG x Cg),λH7 s7=>?_);have Fb:=sp.trans s7;refine(_,rfl,λu G hu qD ndu=>?_);have Y:t u=af:=Fb.free hu;have Fc:ÓL x.1=U #[en,x.2.map]:=by have:=s7 _ _ Fa;rw[jb]
  have s8:#[e7,o,t,o,ÓL]:=λb o d=>by have:=Fb _ _ d;rw[jb]
  have wu:ÓL u=U (.ins aw G []):=Zb;generalize upd (upd H7 G (.own u)) u (.ins aw G [])=Z at Fc s8 wu ⊢;refine(u,G,x.1,x.2,rfl,wu,Fc,qC,λs hs=>(r9 s hs).1,λk f H9 hk D BX R M=>(rfl,?_));have s9:#[e7,o,t,o,H9]:=λb o d=>M b o (s8 b o d) (Zf d Y);have j6:∀b,Z b=af->t b=af:=λb d=>by
   cases e:t b with
   | none=>rfl
   | some o=>rw[s8 b o e]at d;cases d
  have ma:∀b,b≠m->t b=af->H b=af:=λb nb d=>by
   cases e:H b with
   | none=>rfl
   | some o=>rw[I b o e nb]at d;cases d
  have num:u≠m:=λz=>by rw[z,J]at Y;cases Y
  have nkm:k≠m:=λz=>by have:=j6 k hk;rw[gY,J]
  have B9:f≠m:=λz=>by have:=j6 f D;rw[gY,J]
  have m5:c≠u/\c≠k/\c≠f:=(Zf F Y,Zf F (j6 k hk),Zf F (j6 f D));have hsz:#[tm,kvM,L]:=by unfold kvM;rw[ld]
  have gt:Y4 (kvM L) (.inl (i:Int))=af:=by
   cases hv:Y4 (kvM L) (.inl (i:Int)) with
   | none=>rfl
   | some v=>obtain e|he|z:=Ħ (Vv hv);injection z with z _;exact Ê ÎA (bf e he)
  refine(_,rfl,m,am,g,_,_,rfl,s9 _ _ J,â,Ť,lkr,_,rfl,c,_,rfl,XD.k (k:=.inl (i:Int)) (s9 _ _ F) hsz,?_);rw[US _ gt,show kvM L++[((.inl (i:Int):Key),ù u,)]=kvM (L++[((i:Int),u,k,f,x.2,0)]) by unfold kvM;rw[Qe];rfl];refine(L++[((i:Int),u,k,f,x.2,0)],_,_,rfl,by rw[Zc Ce];exact s9 _ _ J,Zb,λe he=>?_,ÌF,?_,λe he=>?_,λb o d n=>?_)
  ·rcases ë he with he|he
   ·rw[vh];refine N.mono λb o d dU=>?_;have nb:b≠c:=λz=>by
     rw[z,F]at d;injection d with d;subst d;rcases dU with z2|z2|z2
     ·rw[<- z2,z,F]at gv;cases gv
     ·rw[fy,N.at'.ks,z2,F]
     ·rw[fy,N.at'.fs,z2,F]
    rw[Zc nb];exact s9 b o d
   ·rw[ò he];refine WN.keep (H:=H9) (R,Qs _,qC,jG x Cg,r9) (Zc m5.1.symm) (Zc m5.2.1.symm) (Zc m5.2.2.symm)
  ·rw[zB,ZC,n1];rw[Qe,n1,Qx,Qx,ÚY Á,ÚY Á];unfold Wh;rw[Úx,Qe];simp
  ·rw[Qe,n2,QH,hz,Qe];rfl
  ·rw[fc,pd,ha,d,e,he];have:b=u:=by simpa using d
   rw[this];obtain de|gv:=(C e he).at'.ob;exact Zf gv Y
  ·rcases ë he with he|he
   ·exact e9 e he
   ·rw[ò he];exact(ma u num Y,ma k nkm (j6 k hk),ma f B9 (j6 f D))
  ·rw[sy,d,o7];exact s9 b o (I b o d n)
 ·rintro σ t ⟨L,v2,v3,rfl,J,F,C,iB,pd,e9,I⟩;rw[Qa,Qv ç]at iB;have p1:=VR "rows" (ù c) [];have p2:=VR "next_number" (ì ÓM) ÎM;have p3:=VR "likened" (ì 0) (Zv "next_number" #[hG,ś] ÎM);have p4:=VR "looked" (ì 0) Èk;have p0:ÚD:=rfl;refine(_,rfl,r,_,rfl,.inl (Í (I _ _ X.at' wt)),_,rfl,m,am,g,_,rfl,J,â,ÎN,by lia,?_);rw[Qa];refine(_,rfl,m,am,g,_,rfl,Zb,â,ÓF,by lia,_,rfl,m,am,g,_,rfl,Zb,â,ÚQ,by lia,?_);have k8:∀b,b≠m->ÚZ b=t b:=λb n=>by rw[Zc n,Zc n,Zc n]
  have Ch:ÚZ m=U (.ins am g Ú0):=Zb;generalize (upd (upd (upd t m (.ins am g (Zv "next_number" (.int (ś:Int)) (Zv "rows" (.ref c) [])))) m (.ins am g (Zv "likened" (.int 0) (Zv "next_number" (.int (ś:Int)) (Zv "rows" (.ref c) []))))) m (.ins am g (Zv "looked" (.int 0) (Zv "likened" (.int 0) (Zv "next_number" (.int (ś:Int)) (Zv "rows" (.ref c) []))))))=Z at k8 Ch ⊢;refine λB fQ=>?_;have ux:m≠B:=Zf Ch fQ;have p5:=VR "stays" (ù B) Ú0;refine(_,rfl,m,am,g,_,rfl,by rw[Zc ux];exact Ch,â,Æf,by lia,_,rfl,m,am,g,_,rfl,Zb,â,Â8,by lia,?_);have Fd:t B=af:=by rw[<- k8 B ÎH];exact fQ
  have se:ÓN m=U (.ins am g (mgF c ÓM 0 0 B .non)):=by rw[VM];exact Zb
  have Fe:ÓN B=U (.dT (kvS [])):=by rw[Zc ÎH,Zc ÎH];exact Zb
  have M:#[fg,o,t,m,ÓN]:=λb o d n=>by rw[Zc n,Zc n,Zc (Zf d Fd),k8 b n];exact d
  generalize (upd (upd (upd Z B (.dT [])) m (.ins am g (Zv "stays" (.ref B) (Zv "looked" (.int 0) (Zv "likened" (.int 0) (Zv "next_number" (.int (ś:Int)) (Zv "rows" (.ref c) []))))))) m (.ins am g (Zv "best" .non (Zv "stays" (.ref B) (Zv "looked" (.int 0) (Zv "likened" (.int 0) (Zv "next_number" (.int (ś:Int)) (Zv "rows" (.ref c) []))))))))=H9 at se Fe M ⊢;have hLl:Àq=ś:=by have:=#[eC,iB.1];unfold ZC at this;rw[Qa,Le]at this;exact this
  have M9:ZR aw am H9 m c B L [] ÓM 0 0 .non:=by
   refine((g,se),M _ _ F Ce.symm,Fe,#[eB,e,he],λe he=>?_,by rw[iB.1];exact ZpT _,pd,by lia,by decide);rw[vh];refine N.mono λb o d dU=>M b o d λz=>?_;have D:=e9 e he;have O:=hm;rw[<- z]at O;rcases dU with z2|z2|z2
   ·rw[e4,z2,D.1,O]
   ·rw[e4,z2,D.2.1,O]
   ·rw[e4,z2,D.2.2,O]
  refine(_,rfl,m,g,_,rfl,se,RQ ..,m,c,B,L,[],_,0,0,.non,rfl,M9,λbC s' w1 k q' ju ii W S Pl qE b10=>?_);have ma:∀b,b≠m->H9 b=af->H b=af:=λb nb d=>by
   cases e:H b with
   | none=>rfl
   | some o=>rw[M b o (I b o e nb) nb]at d;cases d
  refine q c bC L s' w1 k q' ju (qE.cast Á Á) iB W S Pl (λb d=>?_) (λb o d n=>b10 b o (M b o (I b o d n) n) n);rcases d with rfl|rfl|rfl|⟨e,he,d⟩
  ·exact Á4
  ·exact .inr o7
  ·exact .inr (ma _ (λz=>by rw[z,se]at ii;cases ii) ii)
  ·have D:=e9 e he;rcases d with rfl|rfl|rfl
   ·exact .inr D.1
   ·exact .inr D.2.1
   ·exact .inr D.2.2
def Nw(b c:ae):Sp:=λvs H Q _=>X9 λ(m rd sd:ae) (L:À ZA) (s:StL) (nb li lo:Int) (w:Ã Int)=>vs=[.ref m]/\ZR b c H m rd sd L s nb li lo (Yz w)/\Win ą Į w/\∀ (x:V) (a:Hp),Zv3 Ä3 a x->ZB H a->Q x a
theorem ZoD(T:Ù)(r:Èh):Mf P w K mg Â 3 am "coming" Ą (Nw aw am):=by
 rw[ed,T.t_Merge_coming.mf,JV,u,i];obtain m|j|v|L|s|y|B|lo|w|rfl|M|W|q:=h;refine(_,#[Zd,#[ZN,#[Zk,Xe,Ģ,ş,þ],Ç7,ï],#[Zd,#[Zu,1,JV.nd,à,#[ZD,(ixG i),Ģ,Ģ]],#[Zh,#[Zm,#[Yx,#[Ze,Ģ,#[ZH,‹1›],#[tn,r,i,1]]]]]]],?_);rw[gM,b,c];refine(_,rfl,m,am,b,_,_,rfl,c,â,Â8,Tn ..,rfl,_,rfl,?_);have l:Win (hdL Ä3) ((Ä3).map ó) w:=by rw[UA];exact W
 cases w with
 | none=>exact Y0 rfl (q _ H (.inl (rfl,l)) ÁV)
 | some a =>
  obtain e|d|rfl:=Tp W.1;rw[s4,R,d,n,o,Ëb];have C:=Vc Ų d;cases g:Ò[e.g]? with
  | none=>obtain _|z|p|_:=W;rw[e4,C,g,p]
  | some x =>
  refine YO Ài ?_;refine(_,rfl,m,am,b,_,_,rfl,c,â,Ť,Z6 ..,_,rfl,m,am,b,_,_,rfl,c,â,Â8,Tn ..,j,_,rfl,ď (k:=Æe) ņ (Wr Ų d),_,rfl,m,am,b,_,_,rfl,c,â,Â8,Tn ..,_,rfl,e.p,aw,n,_,_,rfl,o,Ņ,Ç8,Tt ..,_,rfl,e.p,n,_,rfl,o,Vb ..,e.p,e.k,e.f,Ò,e.g,rfl,R.at',ÁM,λt D=>?_);rw[Tl g];exact q _ _ (.inr (t,toL e,x,rfl,Qd d,g,Zb,l)) (Zi D _)
def IV(b c:ae):Sp:=λvs H Q _=>X9 λ(m rd sd:ae) (L:À ZA) (s:StL) (nb li lo:Int) (d:V)=>vs=[.ref m]/\ZR b c H m rd sd L s nb li lo d/\∀a:Hp,ZB H a->Q (.int (Ws Ä3).sum) a
theorem Zkh(k f:ae)(g:Int):(Ît).lookup ("to_go" : ak)=af:=ÎE
theorem Zrw(T:Ù)(N:Îu):Mf P w K mg Â 2 am "left" Ą (IV aw am):=by
 rw[ed,T.t_Merge_left.mf,Ziu,O,S];obtain m|a|W|L|s|X|Y|lo|Z|rfl|M|q:=h;refine(_,#[Zh,#[Zm,#[Zo,(PL K),È,ÓO,boot_sum,#[Ze,(@Ua _ _ _ #[XX,Og,(@KO _ _ _ _ _ _ Ģ È È),#[fO,1,Og],Η,(λ_ _ _ _=>#[Yi,N,Ņ,S,#[cw,1,Og]])])]]]],?_);rw[u4];have iY:=Âu;refine(a,_,ņ,ŷ,_,rfl,m,am,dx,_,_,rfl,hm,â,Ť,Z6 ..,a,_,rfl,ņ,λj B t=>?_);have u:Ú1 a=U (.frz j Æb):=Zb;have D:#[zw,x,a,Ú1]:=λb x h n=>by rw[Zc n];exact h
 generalize upd H a (.frz j (.dK (kvM L)))=H1 at u D t ⊢;refine Kz (d:=a) (o:=j) (kvs:=kvM L) (λi zs F c=>(∃v:Ã V,F=[U Æg,v])/\zs=(Ws ((L.take i).map toL)).map ì/\i<=Àq/\c B=U Ż/\ZB H1 c) ?_ #[hL,u] ?_ ?_
 ·exact#[gC,t]
 ·rintro i k x zs F c l ⟨⟨v,rfl⟩,rfl,hi,y,p⟩;rw[h2,kvM,l];cases r:L[i]? with
  | none=>rw[r]at l;cases l
  | some e =>
  rw[ez,r,l,cq,Àq];have C:=Qn r;have R:=À3 e C;obtain _|_|_|n1|n2|n3:=Èl C;have R2:WN aw c e:=R.mono λb o g dU=>p _ _ (D b o g Ú2);rw[ew,dp,hp,R2.at'.ob];refine(_,rfl,e.p,dp,_,rfl,hp,Zkh ..,e.p,e.k,e.f,Ò,e.g,rfl,R2.at',y,(by unfold Ws;rw[Qa,Qa,Qa,Qx];exact Zs Á),ü,?_,cq,Zb,λb x g=>?_)
  ·rw[QH,r,Qe];unfold Ws;rw[Qe,Qe];rfl
  ·rw[sG,g,t,p,b,x]
 rw[sZ,F,c,v,y,p];have iR:Ú3:=by unfold kvM;rw[Qa]
 rw[iR,Qv ç]at y;refine(j,p _ _ u,?_);have G:(upd c a Æb) B=U (.lst ((Ws Ä3).map ì)):=by rw[Zc (Zf u t).symm];exact y
 have I:ZB H (upd c a Æb):=λb x g=>by
  by_cases e:b=a
  ·rw[e,ņ]at g;rw[e,Zb];exact g
  ·rw[Zc e];exact p _ _ (D b x g e)
 generalize upd c a (.dK (kvM L))=H3 at G I ⊢;refine(B,Ws Ä3,rfl,Í G,(by unfold Ws;rw[Qa,Qa];lia),λn J=>?_,q H3 I);unfold Ws at J;rw[em,e',gP,J];rw[em,e,C,gP];have R:=À3 e C;have a1:=R.le;have a2:=R.len;show 0<=ÓP/\ÓP<=_;lia
def Uz(L:À Yb):À (Int×Ã ak):=ĸ λe=>(e.1,e.2.2.1[e.2.2.2]?,)
def Zvt(H:Hp)(l:ae)(E:Ê9):Prop:=∃a:À (ae×Int×Ã ak),ŕ ę=E/\H l=U #[hT,ŕ,t,t.1]/\∀t∈a,H t.1=U Ú4
theorem IU(ss:Ñ)(g:Nat):WO ss g=oV ss[g]?:=by unfold WO oV;cases ss[g]?<;>rfl
def IT(b c:ae):Sp:=λvs H Q _=>X9 λ(m rd sd:ae) (L:À ZA) (s:StL) (nb li lo:Int) (d:V)=>vs=[.ref m]/\ZR b c H m rd sd L s nb li lo d/\∀ (l:ae) (a:Hp),H l=af->Zvt a l (Uz Ä3)->ZB H a->Q ć a
theorem Zoi(T:Ù)(be:Èh):Mf P w K mg Â 3 am "heads" Ą (IT aw am):=by
 rw[h0,T.t_Merge_heads.mf,Zhb];obtain m|a|sd|L|s|nb|li|lo|aH|rfl|M|q:=h;refine(_,#[Zh,#[Zm,(@Ua _ _ _ #[XX,TH,Ú5,#[ex,1,TH,2],Η,(λ_ _ _ _=>#[Yx,#[Ze,#[cw,1,TH],#[Yi,be,Ņ,hr,#[cw,2,TH]]]])])]],?_);rw[u4];have iY:=Âu;refine(a,_,ņ,ŷ,_,rfl,m,am,dx,_,_,rfl,hm,â,Ť,Z6 ..,a,_,rfl,ņ,λg B c=>?_);rw[rM,F,H,a,ÎO];have J:∀b x,H b=U x->b≠a->(upd H a ÎO) b=U x:=λb x h n=>by rw[Zc n];exact h
 have N:H B=af:=by
  cases e:H B with
  | none=>rfl
  | some o =>
   by_cases z:B=a
   ·rw[z]at c;rw[show (upd H a ÎO) a=U ÎO from Zb]at c;cases c
   ·rw[J B o e z]at c;cases c
 generalize upd H a (.frz g (.dK (kvM L)))=H1 at F J c ⊢;refine ZrO (d:=a) (o:=g) (kvs:=kvM L) (λi zs O r=>(X2 λS W:Ã V=>O=[U Æg,S,W])/\(∃j:À (ae×Int×Ã ak),ÅX ę=Uz ((L.take i).map toL)/\zs=(ÅX λt=>ù t.1)/\∀t∈j,r t.1=U Ú4/\t.1≠B/\t.1≠a)/\i<=Àq/\r B=U Ż/\ZB H1 r) ?_ #[hL,F] ?_ ?_
 ·exact((af,af,rfl),([],rfl,rfl,#[eB,t,h]),Qs _,Zb,Zi c _)
 ·rintro i k x zs O r p v ⟨⟨S,W,rfl⟩,⟨j,G,rfl,X⟩,hi,Y,y⟩ wv;rw[h2,kvM,v];cases I:L[i]? with
  | none=>rw[I]at v;cases v
  | some e =>
  rw[ez,I,v,cq,Àq];have he:=Qn I;have R:=À3 e he;obtain _|_|_|n1|n2|n3:=Èl he;have C:=Zi wv Ú6;have uz:(upd r p Ú6) p=U (.tup [.int e.n,.ref e.p]):=Zb;generalize upd r p (.tup [kV (.inl e.n),.ref e.p])=H3 at C uz ⊢;have R2:WN aw H3 e:=R.mono λb o l dU=>C _ _ (y _ _ (J b o l Ú2));rw[ew,dp,hp,R2.at'.ob];have ik:=C _ _ Y;have qy:=C _ _ (y _ _ F);have aZ:Äc=i:=by have:=#[eC,G];unfold Uz at this;rw[Qa,Qa,Qa,Qx]at this;lia
  refine(p,_,rfl,û uz,rfl,_,_,rfl,_,_,rfl,rfl,_,rfl,_,rfl,e.p,dp,_,rfl,hp,Vb ..,e.p,e.k,e.f,Ò,e.g,rfl,R2.at',Á6,λt D=>?_);rw[IU];have Z:B≠t:=Zf ik D;have uA:a≠t:=Zf qy D;refine(by rw[Zc Z];exact ik,Ëg,Èm,(j++[(t,e.n,Ò[e.g]?,)],?_,by rw[Qe];rfl,λu hu'=>?_),cq,Zb,λb x l=>?_)
  ·rw[Qe,G,QH,I,Qe];unfold Uz;rw[Qe];rfl
  ·rcases ë hu' with hu'|hu'
   ·obtain g1|g2|g3:=X u hu';have:=C _ _ g1;exact(by rw[Zc g2,Zc (Zf this D)];exact this,g2,g3)
   ·rw[ò hu'];exact(by rw[Zc Z.symm];exact Zb,Z.symm,uA.symm)
  ·have:=C b x (y b x l);rw[Zc (Zf l c),Zc (Zf this D)];exact this
 rintro zs O r ⟨⟨S,W,rfl⟩,⟨j,G,rfl,X⟩,_,Y,y⟩;have iR:Ú3:=by unfold kvM;rw[Qa]
 rw[iR,Qv ç]at G;refine(g,y _ _ F,?_);have nBr:B≠a:=(Zf F c).symm;refine q B _ N (j,G,by rw[Zc nBr];exact Y,λt D=>?_) #[hU,b,x,l]
 ·obtain g1|g2|g3:=X t D;rw[Zc g3];exact g1
 ·by_cases e:b=a
  ·rw[e,ņ]at l;rw[e,Zb];exact l
  ·rw[Zc e];exact y _ _ (J b x l e)
def Agr(Lo:À Yb)(L:õ):Prop:=Lo.map ÓQ=ĸ ÎP
theorem IS:∀ (A B:À Yb),A.map ÓQ=B.map ÓQ->hdL A=hdL B
 | [],[],_=>rfl
 | [],_::_,h=>by cases h
 | _::_,[],h=>by cases h
 | a::A,b::B,h=>by
  rw[Qj,Qj]at h;injection h with h1 h2;injection h1 with d f;have ih:=IS A B h2;funext n;rw[mW];split
  ·simp only[Ú7];rw[f]
  ·exact c
theorem XU{α a:Type}:∀ {P:À (α×a)},(À1 ó).Nodup->∀ {p q:α×a},p∈P->q∈P->p.1=q.1->p=q
 | [],_,_,_,h,_,_=>by cases h
 | x::r,nd,p,q,hp,hq,e=>by
  rw[yi];rcases Ĳ hp with h1|h1
  ·rcases Ĳ hq with h2|h2
   ·rw[h1,h2]
   ·exact Ê (show x.1∈Âm ó by rw[<- h1,e];exact #[zD,x.1,h2]) nd.1
  ·rcases Ĳ hq with h2|h2
   ·exact Ê (show x.1∈Âm ó by rw[<- h2,<- e];exact #[zD,x.1,h1]) nd.1
   ·exact XU nd.2 h1 h2 e
def Zwt(x:V):Prop:=x=.non\/(∃b,x=.bl b)\/(∃i,x=.int i)\/∃s,x=.str s
structure F2 (R:V->V->Prop) (xs ys:Ė):Prop where
 len:ã=ĥ
 at':∀ (i:Nat) (x y:V),xs[i]? = U x->ys[i]? = U y->R x y
theorem F2.nil{R:V->V->Prop}:F2 R [] []:=(rfl,λi x y h=>by simp at h)
theorem F2.cons{R:V->V->Prop}{x y:V}{xs ys:Ė}(h:R x y)(t:F2 R xs ys):F2 R (x::xs) (y::ys):=by
 refine(by rw[QA,QA,t.len],λi a b c d=>?_);cases i with
 | zero=>simp at c d;rw[<- c,<- d];exact h
 | succ i=>exact t.at' i a b #[eg,c] #[eg,d]
theorem ZpV{H:Hp}{n:Nat}{x:V}(h:Zwt x):IsD H (n+1) x x:=.inl (rfl,h)
theorem IR{H:Hp}{n:Nat}{p q:ae}{xs ys:Ė}(hp:H p=U ÀE)(hq:H q=U ÁE)(h:ã<=1000)(f:F2 (IsD H n) xs ys):IsD H (n+1) Ū (.ref q):=.inr (p,q,xs,ys,rfl,rfl,.inl (hp,hq),f.len,h,f.at')
theorem IQ(rd:ae)(nb li lo:Int)(sd:ae)(a:V):#[28].lookup ("coming" : ak)=af:=À4
theorem ZmD(rd:ae)(nb li lo:Int)(sd:ae)(a:V):#[28].lookup ("left" : ak)=af:=À4
theorem Zlq(rd:ae)(nb li lo:Int)(sd:ae)(a:V):#[28].lookup ("heads" : ak)=af:=À4
def Y9(M:Ø)(n:Int):À Int:=if n∈lo M then lo M else up M
def Y7(M:Ø)(n:Int):À Int:=if n∈lo M then up M else lo M
def Z9:Nat->À Int->Int->À Èn
 | 0,_,_=>[]
 | k+1,M,n=>if 2<=Àr then Z9 k ſ n++[M] else []
inductive Sub (N:Ø):À Int->Prop
 | top:Sub N N
 | lo {M:À Int}:Sub N M->2<=Àr->Sub N (lo M)
 | up {M:À Int}:Sub N M->2<=Àr->Sub N (up M)
theorem Sub.trans{A B C:Ø}(h:Sub A B)(k:Sub B C):Sub A C:=by
 induction k with
 | top=>exact h
 | lo _ a b=>exact b.lo a
 | up _ a b=>exact b.up a
theorem Sub.rise{N M:Ø}(h:Sub N M)(r:Yr N):Yr M:=by
 induction h with
 | top=>exact r
 | lo _ _ a=>exact RV a
 | up _ _ a=>exact RU a
theorem Sub.mem{N M:Ø}(h:Sub N M){x:Int}(hx:x∈M):x∈N:=by
 induction h with
 | top=>exact hx
 | lo _ _ a=>exact a (Qam hx)
 | up _ _ a=>exact a (QaC hx)
theorem IP{M:Ø}(h:ÃT)(n:Int):Sub M ſ:=by
 unfold Y9;split
 ·exact Sub.top.lo h
 ·exact Sub.top.up h
theorem Ti{M:Ø}{n:Int}(h:n∈M):n∈Y9 M n:=by
 unfold Y9;split
 ·assumption
 ·rename_i a;rw[<- Xm M]at h;exact(ë h).resolve_left a
theorem Nv{M:Ø}(r:Yr M){n:Int}(hn:n∈Y9 M n):n ∉ Y7 M n:=by
 intro h;unfold Y7 Y9 at *
 split at h
 ·rename_i a;have:=ZS r a h;lia
 ·rename_i a;exact a h
theorem Nu(M:Ø)(n:Int):(Y9 M n++Y7 M n).Perm M:=by
 unfold Y9 Y7;split
 ·rw[Xm]
 ·exact List.perm_append_comm.trans (by rw[Xm])
def Kys(M:Ø)(k:ő):Prop:=∃a,Sub M a/\2<=ľ/\k=ZX a
theorem RO{M:Ø}{k:ő}(h:Kys M k):k.1∈M/\k.2∈M:=by obtain b|s|h2|rfl:=h;have a:b≠[]:=Xl Á;exact(s.mem (UD a),s.mem (UC a))
theorem IN{M:Ø}(r:Yr M)(h2:ÃT){k:ő}(h:Kys (lo M) k):k≠ZX M/\¬ Kys (up M) k:=by
 rw[vz]
 ·rw[zM,a,NX];have:=ZS r this.2 (UC (Xl (Vd h2).2));lia
 ·have:=ZS r this.1 (RO m).1;lia
theorem IM{M:Ø}(r:Yr M)(h2:ÃT){k:ő}(h:Kys (up M) k):k≠ZX M/\¬ Kys (lo M) k:=by
 rw[vz]
 ·rw[zM,a,NW];have:=ZS r (UD (Xl (VP h2).2)) this.1;lia
 ·have:=ZS r (RO m).1 this.1;lia
theorem IL{M:Ø}(r:Yr M)(h2:ÃT){n:Int}{k:ő}(h:Kys ſ k):k≠ZX M/\¬ Kys Ál k:=by
 unfold Y9 at h;unfold Y7;split
 ·rename_i a;rw[sX,a,h];exact IN r h2 h
 ·rename_i a;rw[hI,a,h];exact IM r h2 h
theorem IK{M:Ø}(r:Yr M)(h2:ÃT){n:Int}{k:ő}(h:Kys Ál k):k≠ZX M/\¬ Kys ſ k:=by
 unfold Y7 at h;unfold Y9;split
 ·rename_i a;rw[sX,a,h];exact IM r h2 h
 ·rename_i a;rw[hI,a,h];exact IN r h2 h
theorem Nt{M c:Ø}(h:Sub M c):c=M\/(2<=Àr/\(Sub (lo M) c\/Sub (up M) c)):=by
 induction h with
 | top=>exact Á4
 | lo h a b =>
  rcases b with rfl|⟨g,b⟩
  ·exact .inr (a,.inl .top)
  ·exact .inr (g,b.imp (λz=>z.lo a) (λz=>z.lo a))
 | up h a b =>
  rcases b with rfl|⟨g,b⟩
  ·exact .inr (a,.inr .top)
  ·exact .inr (g,b.imp (λz=>z.up a) (λz=>z.up a))
theorem ZpP{M a:Ø}(n:Int)(h:Sub M a):a=M\/(2<=Àr/\(Sub ſ a\/Sub Ál a)):=by
 rcases Nt h with h|⟨g,h⟩
 ·exact .inl h
 ·refine .inr (g,?_);unfold Y9 Y7;split
  ·exact h
  ·exact h.symm
def Wq(hd:Hd)(s:StL)(A B:Ø)(k:ő):Prop :=
 (∀a b x y,Win hd A (U a)->Win hd B (U b)->hd a=U x->hd b=U y->X2 λt c=>Z2 s k=U (U (t,c,#[gX,x,y],))/\((Btr x a y b/\c=b)\/(Btr y b x a/\c=a))) /\
 ((Win hd A af\/Win hd B af)->Z2 s k=af\/Z2 s k=U af)
theorem Wq.swap{hd:Hd}{s:StL}{A B:Ø}{k:ő}(h:Wq hd s A B k):Wq hd s B A k:=by refine(λa b x y c d f g=>?_,λhw=>h.2 hw.symm);obtain t|i|e|o:=h.1 b a y x d c g f;exact(t,i,by rw[Vh x y];exact e,o.symm)
def Z1(hd:Hd)(s:StL)(N:Ø):Prop:=∀M,Sub N M->2<=Àr->Wq hd s (lo M) (up M) (ZX M)
theorem Z1.sub{hd:Hd}{s:StL}{N M:Ø}(h:Z1 hd s N)(k:Sub N M):Z1 hd s M:=λa h' h2=>h a (k.trans h') h2
theorem Z1.at_side{hd:Hd}{s:StL}{M:Ø}(h:Z1 hd s M)(h2:ÃT)(n:Int):Wq hd s ſ Ál (ZX M):=by
 have:=h M .top h2;unfold Y9 Y7;split
 ·exact this
 ·exact this.swap
theorem Uy:∀ (n:Nat) (hd:Hd) (s:StL) (N:À Int),Yr N->ģ<=2 ^ (n-1)->0<n->XV hd s n N->Z1 hd s N
 | 0,_,_,_,_,_,h,_=>Ê h Á
 | n+1,hd,s,N,r,hl,_,h=>λM hM h2=>by
  rw[QaN]at hl;rcases Nt hM with rfl|⟨g,hM⟩
  ·obtain _|_|j|k:=h h2;refine(λa b x y d f l o=>?_,k);obtain t|e:=j a b x y d f l o;have eY:=ZS r d.1 f.1;by_cases c:ZT x y<0\/Óv
   ·rw[sX,c,e];exact(t,b,e,.inl (c,rfl))
   ·rw[hI,c,e];exact(t,a,e,.inr ((Ç9 (show a≠b by lia)).resolve_left c,rfl))
  ·obtain p|q|_:=h g;have i:1<=n:=by
    cases n with
    | zero=>simp at hl;lia
    | succ m=>lia
   have hp:2 ^ n=2*2 ^ (n-1):=by obtain⟨m,rfl⟩:∃m,n=m+1:=(n-1,by lia);rw[ÎF,QaN];lia
   rcases hM with hM|hM
   ·exact Uy n hd s (lo N) (RV r) (by unfold lo mid;rw[Qx];lia) i p M hM h2
   ·exact Uy n hd s (up N) (RU r) (by unfold up mid;rw[QZ];lia) i q M hM h2
theorem Wq.congr{hd d:Hd}{s s':StL}{A B:Ø}{k:ő}(h:Wq hd s A B k)(ha:∀m∈A,d m=hd m)(hb:∀m∈B,d m=hd m)(hk:Z2 s' k=Z2 s k):Wq d s' A B k:=by
 refine(λa b x y e f g i=>?_,λhw=>?_)
 ·rw[hk];exact h.1 a b x y (e.congr λm c=>(ha m c).symm) (f.congr λm c=>(hb m c).symm) #[tv,ha,a,e.1,g] #[tv,hb,b,f.1,i]
 ·rw[hk];exact h.2 (hw.imp (λw=>w.congr λm c=>(ha m c).symm) (λw=>w.congr λm c=>(hb m c).symm))
theorem Z1.congr{hd b:Hd}{s s':StL}{M:Ø}(h:Z1 hd s M)(c:∀m∈M,b m=hd m)(hk:∀k,Kys M k->Z2 s' k=Z2 s k):Z1 b s' M:=λd hM h2 =>
 (h d hM h2).congr (λm a=>c m (Ëh (Qam a))) (λm a=>c m (Ëh (QaC a))) (hk _ (d,hM,h2,rfl))
theorem Zoz{hd:Hd}{s:StL}{M:Ø}{n:Int}(h1:Z1 hd s ſ)(b:Z1 hd s Ál)(h:Wq hd s ſ Ál (ZX M)):Z1 hd s M:=λa hM h2=>by
 rcases ZpP n hM with rfl|⟨g,hM|hM⟩
 ·unfold Y9 Y7 at h;split at h
  ·exact h
  ·exact h.swap
 ·exact h1 a hM h2
 ·exact b a hM h2
def low(n:Int)(C:À Èn):Nat->À Int
 | 0=>[n]
 | i+1=>C.getD i []
theorem Nr:∀ (k:Nat) (M:À Int) (n:Int),n∈M->Àr<=2 ^ k->(∀i X,ÓR[i]? = U X->Sub M X/\2<=X.length/\n∈X/\Y9 X n=low n ÓR i)/\low n ÓR (ÓR).length=M/\(ÓR).length<=k
 | 0,M,n,d,hl=>by
  refine(λi X h=>by unfold Z9 at h;simp at h,?_,Qf _);have h1:Àr=1:=by have:=Qbf d;simp at hl;lia
  obtain x|rfl:=QaO.mp h1;have:n=x:=by simpa using d
  rw[this];rfl
 | k+1,M,n,d,hl=>by
  unfold Z9;by_cases e:2<=Àr
  ·rw[Æ e];have g:(ſ).length<=2 ^ k:=by
    rw[ÎF]at hl;unfold Y9;split
    ·unfold lo mid;rw[Qx];lia
    ·unfold up mid;rw[QZ];lia
   obtain a|b|c:=Nr k ſ n (Ti d) g;refine(λi X h=>?_,?_,by rw[Qi,QK];lia)
   ·have f:∀j,j<=(Ü5).length->low n (Z9 k ſ n++[M]) j=low n Ü5 j:=λj hj=>by
     cases j with
     | zero=>rfl
     | succ j=>show (Z9 k ſ n++[M]).getD j []=(Ü5).getD j [];rw[QP,QP,QT Á]
    by_cases l:i<(Ü5).length
    ·rw[QT l]at h;obtain m|o|p|q:=a i X h;exact((IP e n).trans m,o,p,by rw[f i Á];exact q)
    ·have r:i=(Ü5).length:=by have:=(Ũ h).1;rw[Qi,QK]at this;lia
     subst r;rw[Q7 ç,ÓS]at h;cases h;exact(.top,e,d,by rw[f _ ç,b])
   ·rw[Qi,QK];show (Z9 k ſ n++[M]).getD _ []=M;rw[QP,Q7 ç,ÓS];rfl
  ·rw[zE,e];refine(λi X h=>by simp at h,?_,Qs _);have h1:Àr=1:=by have:=Qbf d;lia
   obtain x|rfl:=QaO.mp h1;have:n=x:=by simpa using d
   rw[this];rfl
structure Tk (hd cS:Hd) (N:Ø) (n:Int) (z:ţ):Prop where
 win:Win hd N (U n)
 key:hd n=U z
 oth:∀b,b≠n->cS b=hd b
 nxt:∀x,cS n=U x->ZT z x<=0
 up:Yr N
theorem Tk.ge{hd a:Hd}{N:Ø}{n:Int}{z:ţ}(h:Tk hd a N n z){b:Int}(hb:b∈N){y:ţ}(hy:a b=U y):ZT z y<=0:=by
 by_cases e:b=n
 ·exact h.nxt y #[eS,e,hy]
 ·obtain _|x|c|hw:=h.win;rw[rR,Ä7,c];rw[h.oth b e]at hy;rcases hw b hb y hy with z|z
  ·exact Ê z e
  ·rcases z with z|z<;>lia
inductive Ag (hd:Hd) (z:ţ):À (À Int×À Int)->Int->Int->Prop
 | nil:Ag hd z [] 0 0
 | no {C:À (À Int×À Int)} {A B:À Int} {k q:Int}:Ag hd z C k q->(Win hd A af\/Win hd B af)->Ag hd z (C++[(A,B,)]) k q
 | eq {C:À (À Int×À Int)} {A B:À Int} {k q:Int} {a b:Int} {x y:À Nat}:Ag hd z C k q->Win hd A (U a)->Win hd B (U b)->hd a=U x->hd b=U y->lcp x z=lcp y z->Ag hd z (C++[(A,B,)]) (k+1) (q+((lcp x y:Nat)-(lcp x z:Nat)+1))
 | ne {C:À (À Int×À Int)} {A B:À Int} {k q:Int} {a b:Int} {x y:À Nat}:Ag hd z C k q->Win hd A (U a)->Win hd B (U b)->hd a=U x->hd b=U y->lcp x z≠lcp y z->Ag hd z (C++[(A,B,)]) (k+1) q
theorem Nq{α:Type}{C D:À α}{c d:α}(h:C++[c]=D++[d]):C=D/\c=d:=by have:=List.append_inj' h rfl;exact(this.1,by simpa using this.2)
theorem IJ:∀ (x z y:À Nat),lcp z y<lcp x z->ZT x y=ZT z y
 | [],z,y,h=>by rw[ÊQ]at h;lia
 | _::_,[],y,h=>by rw[UF]at h;lia
 | a::x,b::z,[],h=>by unfold ZT;rfl
 | a::x,b::z,c::y,h=>by
  unfold lcp at h;by_cases e:a=b
  ·subst e;rw[Æ rfl]at h;by_cases d:a=c
   ·subst d;rw[Æ rfl]at h;unfold ZT;rw[Æ rfl,Æ rfl];exact IJ x z y Á
   ·unfold ZT;rw[hM,d,d]
  ·rw[xG];lia
theorem Zta{x z y:ţ}(h:lcp z y<lcp x z):lcp x y=lcp z y:=by have:=Oa x y z;rw[Vh y z]at this;lia
theorem ZuT{x z y:ţ}(h:lcp x z=lcp y z):lcp x z<=lcp x y:=by have:=Oa x y z;lia
theorem II{x z y:ţ}{a b:Int}(h:lcp y z<lcp x z)(hz:ZT z y<=0):Btr x a y b/\lcp x y=lcp y z:=by
 rw[Vh y z]at h ⊢;refine(.inl ?_,Zta h);rw[IJ x z y h];rcases Int.lt_or_eq_of_le hz with g|g
 ·exact g
 ·have e:=N6 _ _ g;subst e;rw[JG]at h;have:=(Tv x z).2;lia
abbrev Com:=Ã (Int×Int)
def Th(hd:Hd)(z:ţ)(M:Ø)(c:Com):Prop:=Win hd M (ŏ ó)/\∀p,c=U p->∃x,hd p.1=U x/\p.2=#[gX,x,z]
theorem Zrk{hd c:Hd}{N M:Ø}{n:Int}{z:ţ}{s:StL}(T:Tk hd c N n z)(hM:Sub N M)(h2:ÃT)(l:n∈M)(ok:Z1 hd s N) :
  (Win c Ál af/\Ú8)\/X3 λt b y=>Win c Ál (U b)/\c b=U y/\b∈N/\Z2 s (ZX M)=U (U (t,b,#[gX,y,z],)):=by
 have r:=hM.rise T.up;have nd:=RT r;have p:=Nv r (Ti l);have q:=(ok.sub hM).at_side h2 n;have g:#[tD,Y7]:=λb d=>(Nu M n).mem_iff.mp (QD _ d);have h:#[tD,Y9]:=λb d=>(Nu M n).mem_iff.mp (QU _ d);have v:Win hd ſ (U n):=by obtain _|x|f|hw:=T.win;exact(Ti l,x,f,λb d y a=>hw b (Ëh (h b d)) y a)
 have i:∀m∈Y7 M n,c m=hd m:=λm A=>T.oth m λe=>p (e ▸ A);have j:(Ál).Nodup:=by unfold Y7;split;exact RT (RU r);exact RT (RV r)
 obtain w|hw:=Win.ex hd Ál j;cases w with
 | none=>exact .inl (hw.congr i,q.2 (.inr hw))
 | some b =>
  obtain⟨y,a⟩:∃y,hd b=U y:=by obtain _|y|a|_:=hw;exact(y,a)
  obtain t|k|e|o:=q.1 n b z y v hw T.key a;have u:=g b hw.1;have B:b≠n:=λz=>p (z ▸ hw.1);have C:Btr z n y b:=by obtain _|x|f|D:=T.win;rw[rR,T.key,f];exact(D b (Ëh u) y a).resolve_left B
  have E:k=b:=by
   rcases o with⟨_,e⟩|⟨e,_⟩
   ·exact e
   ·exact(C.asym e).elim
  subst E;exact .inr (t,k,y,hw.congr i,by rw[i k hw.1];exact a,Ëh u,by rw[Vh y z];exact e)
theorem IH(ns:Ø):(Xy ns).length=(Ĉ+1) / 2:=by unfold Xy mid;rw[Qx];lia
theorem IG(ns:Ø):(Wu ns).length=Ĉ / 2:=by unfold Wu mid;rw[QZ];lia
def Wp:Nat->À Int->Int->À Èn
 | 0,_,_=>[]
 | f+1,ns,n=>if Ĉ<=1 then [] else if n∈Xy ns then Wu ns::Wp f (Xy ns) n else Xy ns::Wp f (Wu ns) n
def Xx(ns:Ø)(n:Int):À Int:=if n∈Xy ns then Xy ns else Wu ns
def Wd(ns:Ø)(n:Int):À Int:=if n∈Xy ns then Wu ns else Xy ns
theorem RN{ns:Ø}{n:Int}(h:ÎQ):(Xx ns n).length<Ĉ:=by
 unfold Xx;split
 ·rw[IH];lia
 ·rw[IG];lia
theorem ZqJ{ns:Ø}{n:Int}(h:ÎQ):0<(Xx ns n).length:=by
 unfold Xx;split
 ·rw[IH];lia
 ·rw[IG];lia
theorem Np{f:Nat}{ns:Ø}{n:Int}(h:ÎQ):Wp (f+1) ns n=Wd ns n::Wp f (Xx ns n) n:=by
 conv=>lhs;unfold Wp
 rw[zE,Á];unfold Wd Xx;split<;>rfl
theorem Va{f:Nat}{ns:Ø}{n:Int}(h:Ĉ<=1):Wp f ns n=[]:=by
 cases f with
 | zero=>rfl
 | succ f=>unfold Wp;rw[Æ h]
theorem IF:∀ (f g:Nat) (ns:À Int) (n:Int),Ĉ<=f+1->Ĉ<=g+1->Wp f ns n=Wp g ns n
 | 0,g,ns,n,h,_=>by rw[Va Á,Va Á]
 | f+1,0,ns,n,_,h=>by rw[Va Á,Va Á]
 | f+1,g+1,ns,n,h1,h2=>by
  by_cases h:1<Ĉ
  ·have:=RN (n:=n) h;rw[Np h,Np h,IF f g _ n Á Á]
  ·rw[Va Á,Va Á]
def way(ns:Ø)(n:Int):À Èn:=Wp Ĉ ns n
theorem IE{ns:Ø}{n:Int}(h:ÎQ):way ns n=Wd ns n::way (Xx ns n) n:=by
 unfold way;cases e:Ĉ with
 | zero=>lia
 | succ f=>have:=RN (n:=n) h;rw[Np h,IF f (Xx ns n).length _ n Á Á]
theorem No{ns:Ø}{n:Int}(h:Ĉ<=1):way ns n=[]:=Va h
theorem ID(n:Int):∀ns:À Int,inV (.int n) ξ=decide (n∈ns)
 | []=>rfl
 | m::r=>by
  have ih:=ID n r;rw[zB,inV,ih];rw[Qj,Qa3,ih];by_cases h:m=n
  ·subst h;simp[eqV]
  ·have:(m == n)=false:=by simpa using h
   simp[eqV,this,Áq,À7 h]
theorem IC:∀ns:À Int,(ξ).all Xc=true
 | []=>rfl
 | _::r=>by rw[Qj,ÐS,IC r];rfl
def Rd(H:Hp):À ae->À Èn->Prop
 | [],[]=>Àc
 | l::a,d::ds=>H l=U (.lst (Âi ì))/\Rd H a ds
 | _,_=>ė
theorem Rd.len{H:Hp}:∀ {a:À ae} {ds:À (À Int)},Rd H a ds->ľ=ds.length
 | [],[],_=>rfl
 | [],_::_,h=>Àl
 | _::_,[],h=>Àl
 | _::a,_::ds,h=>by rw[QA,QA,Rd.len h.2]
theorem ÎR{H b:Hp}:∀ {a:À ae} {ds:À (À Int)},(∀l∈a,∀o,H l=U o->b l=U o)->Rd H a ds->Rd b a ds
 | [],[],_,_=>trivial
 | [],_::_,_,h=>Àl
 | _::_,[],_,h=>Àl
 | l::a,_::ds,k,h=>(k l Ö _ h.1,ÎR (λx hx=>k x (Qm _ hx)) h.2)
theorem Rd.app{H:Hp}:∀ {a:À ae} {ds:À (À Int)} {b:À ae} {c:À (À Int)},Rd H a ds->Rd H b c->Rd H (a++b) (ds++c)
 | [],[],_,_,_,h=>h
 | [],_::_,_,_,h,_=>Àl
 | _::_,[],_,_,h,_=>Àl
 | _::a,_::ds,_,_,h,g=>(h.1,Rd.app h.2 g)
theorem Rd.rev{H:Hp}:∀ {a:À ae} {ds:À (À Int)},Rd H a ds->Rd H a.reverse ds.reverse
 | [],[],h=>h
 | [],_::_,h=>Àl
 | _::_,[],h=>Àl
 | l::a,d::ds,h=>by rw[QaV,QaV];exact Rd.app (Rd.rev h.2) (h.1,trivial)
def Nm:Sp:=λvs H Q _=>X3 λ(a:ae) (ns:À Int) (n:Int)=>vs=#[sl,a,n]/\H a=U (.lst ξ)/\1<=Ĉ/\Ĉ<=200 /\
 ∀ (r:ae) (b:À ae) (c:Hp),H r=af->c r=U (.lst (Âl ù))->r ∉ b->(∀l∈b,H l=af)->Rd c b (way ns n).reverse->ZB H c->Q Áj c
def Dn(H:Hp)(a o:ae)(ns:Ø)(n:Int)(b:ae)(c:Ø)(d:ŧ)(e:Hp):Prop :=
 ∃done:À (À Int),e b=U (.lst (ŏ ì))/\b≠o/\1<=Ĥ/\Ĥ<=200/\way ns n=done++way c n/\Rd e d done/\e o=U (.lst (Âi ù))/\ZB H e/\(∀l∈d,H l=af)/\o ∉ d/\μ+Ĥ<=200
theorem Dn.step{H:Hp}{a o:ae}{ns:Ø}{n:Int}{b:ae}{d:Ø}{h:ŧ}{i f:Hp}(D:Dn H a o ns n b d h i)(v:H o=af)(h1:1<μ)(s:ZB i f){x y:ae}(hx:f x=U #[zT,Xx,d])(hy:f y=U #[zT,Wd,d])(nx:i x=af)(j:i y=af) :
  Dn H a o ns n x (Xx d n) (h++[y]) Ú9:=by
 obtain done|d1|d2|d3|d4|w|z|m|p|A|q|d11:=D;have r:x≠o:=(Zf m nx).symm;have t:y≠o:=(Zf m j).symm;have sl:=RN (n:=n) h1;have k:∀l,l≠o->∀u,f l=U u->Ú9 l=U u:=λl hl u g=>by rw[Zc hl];exact g
 refine(done++[Wd d n],k x r _ hx,r,ZqJ h1,by lia,by rw[w,IE h1,Òj];rfl,?_,?_,λc u g=>?_,?_,?_,?_)
 ·refine Rd.app (ÎR (λl hl u g=>k l (λe=>q (e ▸ hl)) u (s _ _ g)) z) (k y t _ hy,trivial)
 ·rw[Zb,Qe];rfl
 ·rw[sy,g,v];exact s _ _ (p _ _ g)
 ·intro l hl;rcases ë hl with hl|hl
  ·exact A l hl
  ·rw[ò hl];exact p.free j
 ·intro B;rcases ë B with hl|hl
  ·exact q hl
  ·exact t (ò hl).symm
 ·rw[Qi,QK];lia
theorem ZtS(T:Ù)(fc:ÓG):Df P w K mg Â 2 "way_up" ÄT Nm:=by
 rw[h0,T.t_way_up.df,Vr];obtain a|p|n|rfl|O|h1|R|q:=h;refine(_,#[Zd,#[hc,2,Vr.nd],#[Zd,#[sF,Vr.nd,0],#[Zd,(@Rp _ _ _ _ _ _ χ #[il,Wk,Ói] #[Zd,#[YC,#[Zz,fc,hr,Èi,È],#[gT,K,2,#[eh,4,Vr.nd,5]]],#[Zh,#[ZN,#[Zk,(inQ K),‹1›,‹4›,ÀZ],#[Zd,#[ga,2,5],#[Zh,#[sF,Vr.nd,4]]],#[Zd,#[ga,2,4],#[Zh,#[sF,Vr.nd,5]]]]]]),#[Zd,#[ZM,(@ZuK _ _ _ _ _ _ _ _ _ QE PySem.F.slot_list_reverse PySem.F.type_list_reverse ZlV ‹2› È È)],ÄY]]]],Υ,λo g=>?_);have S:a≠o:=Zf O g;refine(_,rfl,λm W X=>X5 λ(b:ae) (d:À Int) (i:À ae) (Y Z:Ã V)=>W=[U ĩ,U (.int n),U (.ref o),U Â1,Y,Z]/\Dn H a o p n b d i X/\m=μ,(_,a,p,[],af,af,rfl,([],?_,S,h1,R,rfl,trivial,Zb,Zi g _,#[eB,l,j],(λB=>by cases B),by simpa using R),rfl),?_)
 ·rw[Zc S];exact O
 rintro m W X ⟨b,d,i,Y,Z,rfl,D,rfl⟩;obtain done|d1|d2|d3|d4|d5|d6|C|d8|d9|qh|d11:=id D;have hlc:ÓT=(μ:Int):=by rw[Qa]
 refine(_,rfl,b,_,rfl,.inl (Í d1),_,_,rfl,rfl,_,rfl,?_);rw[fQ,F]
 ·have G:(1:Int)<ÓT:=Ŀ F;have I:1<μ:=by lia
  refine Ûa;refine(_,rfl,b,d,rfl,Í d1,d4,λt x y H3 ht hx hy nxy et ex ey J ntx nty=>?_);rw[hB,t,et];have r:=J _ _ C;have bf:#[tm,i.map,ù]:=by rw[Qa];exact Zs Á
  have sl:=RN (n:=n) I;refine(_,rfl,_,rfl,x,_,rfl,.inl (Í ex),rfl,IC _,_,rfl,?_);show if inV (ì n) ((Xy d).map ì)=true then _ else _
  rw[ID];rw[fQ,L]
  ·have k:n∈Xy d:=Ŀ L;have M:Xx d n=Xy d:=by unfold Xx;rw[Æ k]
   have N:Wd d n=Wu d:=by unfold Wd;rw[Æ k]
   refine(_,rfl,.inl #[eG,r],_,rfl,o,_,_,rfl,rfl,r,bf,_,rfl,_,?_,x,Xx d n,i++[y],_,_,rfl,D.step g I J #[ei,M,ex] #[ei,N,ey] hx hy,rfl);exact sl
  ·have k:¬ n∈Xy d:=λz=>L Ç6;have M:Xx d n=Wu d:=by unfold Xx;rw[zE,k]
   have N:Wd d n=Xy d:=by unfold Wd;rw[zE,k]
   refine(_,rfl,.inl #[eG,r],_,rfl,o,_,_,rfl,rfl,r,bf,_,rfl,_,?_,y,Xx d n,i++[x],_,_,rfl,D.step g I J #[ei,M,ey] #[ei,N,ex] hy hx,rfl);exact sl
 ·have G:¬ (1:Int)<ÓT:=λz=>F Ç6;have e:way p n=done:=by rw[d5,No Á,Qab]
  refine(_,rfl,.inl #[eG,C],o,_,rfl,rfl,C,_,rfl,q o i.reverse _ g (by rw[Zb,List.map_reverse]) (λB=>qh (Ûb B)) (λl j=>d9 l Ûc) ?_ λc u v=>?_)
  ·rw[e];refine ÎR (λl j u v=>?_) d6.rev;rw[Zc (λz=>by subst z;exact qh Ûc)];exact v
  ·rw[sy,v,g];exact d8 _ _ v
theorem IB:∀ (k:Nat) (M:À Int) (n:Int),Àr<=2 ^ k->(way M n).reverse=(ÓR).map (λX=>Y7 X n)
 | 0,M,n,h=>by rw[No #[eg,h]];rfl
 | k+1,M,n,h=>by
  unfold Z9;by_cases h2:2<=Àr
  ·rw[Æ h2,IE Á,QaV,Qe];have hs:(ſ).length<=2 ^ k:=by
    rw[ÎF]at h;unfold Y9;split
    ·unfold lo mid;rw[Qx];lia
    ·unfold up mid;rw[QZ];lia
   have e:=IB k ſ n hs;rw[<- e];rfl
  ·rw[Ç h2,No Á];rfl
theorem Zp8{M:Ø}(h:ÃT)(n:Int):Y7 M n≠[]:=by
 unfold Y7;split
 ·exact Xl (Vd h).2
 ·exact Xl (VP h).2
theorem Zmg{M:Ø}(r:Yr M)(h:ÃT)(n:Int):ZX M=(if (Ál).headD 0<(ſ).headD 0 then (Y7 M n).headD 0 else (Y9 M n).headD 0,if (Ál).getLastD 0>(ſ).getLastD 0 then (Y7 M n).getLastD 0 else (Y9 M n).getLastD 0,):=by have a:=NW h;have b:=NX h;have e:=UD (Xl (VP h).2);have f:=UC (Xl (VP h).2);have g:=UD (Xl (Vd h).2);have i:=UC (Xl (Vd h).2);have c:=ZS r e g;have d:=ZS r f i;unfold Y9 Y7;split<;>(refine Prod.ext ?_ ?_<;>dsimp only<;>first|lia|(split<;>lia))
theorem Rd.get{H:Hp}:∀ {c:À ae} {ds:À (À Int)},Rd H c ds->∀ {i:Nat} {l:ae} {d:À Int},c[i]? = U l->ds[i]? = U d->H l=U (.lst (Âi ì))
 | [],[],_,i,l,d,h,_=>by simp at h
 | l::c,d::ds,(h1,h2),0,a,b,e,f=>by simp at e f;rw[<- e,<- f];exact h1
 | l::c,d::ds,(h1,h2),i+1,a,b,e,f=>Rd.get h2 #[eg,e] #[eg,f]
def IA:Sp:=λvs H Q _=>X3 λ(a:ae) (N:À Int) (n:Int)=>vs=#[sl,a,n]/\H a=U (.lst Ëc)/\n∈N/\ģ<=60/\Yr N /\
 ∀ (r:ae) (c:À ae) (b:Hp),H r=af->b r=U (.lst (ŏ ù))->Ĥ=(Ëi).length->(∀ (i:Nat) (t:ae) (X:À Int),c[i]? = U t->Ëi[i]? = U X->b t=U #[gO,X])->ZB H b->Q Áj b
theorem ZlZ(T:Ù)(j7:Ûd):Df P w K mg Â 3 "matches_up" ÄT IA:=by
 rw[h0,T.t_matches_up.df,Vq];obtain a|N|n|rfl|ha|hn|rV|gu|q:=h;refine(_,#[Zd,#[hc,2,Vq.nd],#[Zd,#[sF,Vq.nd,1],#[Zd,#[Zu,4,Vq.nd,à,‹1›],#[Zd,#[XI,χ,#[iL,K,#[fp,j7,hr,0,1]],#[sa,5,Vq.nd],#[Zd,#[Zu,3,Vq.nd,à,#[Zo,(LY rfl),È,ÎS,ÎT,#[Ze,‹3›,#[ZD,Τ,‹5›,Û]]]],#[Zd,#[Zu,4,Vq.nd,à,#[Zo,(Rh rfl),È,ÓU,boot_max,#[Ze,‹4›,#[ZD,Τ,‹5›,Ê3]]]],#[Zh,#[ZM,#[YN,QE,QF,QG,Z3,‹2›,#[Ze,#[Yx,#[e5,3,4]]]]]]]]],ÄY]]]],?_);have i0:=Qbf hn;have yM:ģ<=2 ^ 8:=Qk rV É;obtain Cj|Aw|Fg:=Nr 8 N n hn yM;refine#[sY,I];have J:=Zi I Ş;rw[fv,k,H,r,Ş];generalize upd H r (.lst [])=H1 at J k ⊢;refine(_,rfl,_,rfl,_,rfl,_,rfl,a,N,n,rfl,J _ _ ha,i0,by lia,λwy x H2 Fh Ax hnot e9 L M=>?_);rw[IB 8 N n yM]at L;have kF:=L.len;rw[Qa]at kF;have O:=J.trans M;refine(wy,rfl,#[gF,Ax],?_);refine Ro (K:=K) (a:=wy) (xs:=x.map ù) (λi B d=>X2 λ(R:Ã V) (c:À ae)=>B=[U ĩ,U (.int n),U Áj,U (.int (#[lI].headD 0)),U (.int (#[lI].getLastD 0)),R]/\i<=Č/\Ĥ=i/\d r=U (.lst (ŏ ù))/\(∀ (j:Nat) (t:ae) (X:À Int),c[j]? = U t->Ëi[j]? = U X->d t=U #[gO,X])/\(∀t∈c,t≠r/\∃xs,d t=U Β)/\(∀b o,H2 b=U o->b≠r->d b=U o)) (_,[],rfl,Qs _,rfl,M _ _ k,(λj t X h=>by simp at h),#[eB,t,h],λb o h _=>h) (λi B d _ hq=>by obtain _|_|_|_|_|_|_|_|e:=hq;exact Í #[tp,e,Ax,k,Fh]) ?_ ?_
 ·rintro i y B d m ⟨R,c,rfl,hi,S,g,W,yN,e⟩;rw[Qq]at m;cases p:x[i]? with
  | none=>rw[p]at m;cases m
  | some l =>
  rw[ez,p,m,cq,Č];cases v:(Z9 8 N n)[i]? with
  | none=>rw[Qa1]at v;lia
  | some X =>
  obtain x1|x2|x3|x4:=Cj i X v;have Z:H2 l=U #[zT,Y7,X]:=L.get p (by rw[Qq,v];rfl);have BU:l≠r:=λz=>by rw[z]at Z;rw[M _ _ k]at Z;have:=e9 l (Qn p);rw[gY,k]
  have fb:=e _ _ Z BU;have dw:=Zp8 x2 n;have C:=Zmg (x1.rise gu) x2 n;rw[x4]at C;have e3:low n Ëi (i+1)=X:=by show (Z9 8 N n).getD i []=X;rw[QP,v];rfl
  refine(_,rfl,_,rfl,l,_,_,_,rfl,rfl,Í fb,Jb dw,_,_,rfl,_,rfl,_,rfl,_,rfl,l,_,_,_,rfl,rfl,Í fb,Jc dw,_,_,rfl,_,rfl,.inl #[eG,g],_,rfl,_,rfl,Á6,λt D=>?_);have F:r≠t:=Zf g D;refine(r,_,_,rfl,rfl,by rw[Zc F];exact g,Ëg,U ć,c++[t],?_,cq,by rw[Qi,QK];lia,by rw[Zb,Qe];rfl,λj u Y hu hY=>?_,λu hu=>?_,λb o G nb=>?_)
  ·rw[e3];have h1:=ō Prod.fst C;have h2:=ō Prod.snd C;simp only at h1 h2;rw[show X.headD 0=(ZX X).1 from rfl,show X.getLastD 0=(ZX X).2 from rfl,h1,h2];rfl
  ·have yO:∀ (u:ae) (xs:À V),d u=U Β->(upd (upd d t (.tup [.int (if (Y7 X n).headD 0<#[lI].headD 0 then (Y7 X n).headD 0 else (low n Ëi i).headD 0),.int (if (Y7 X n).getLastD 0>#[lI].getLastD 0 then (Y7 X n).getLastD 0 else (low n Ëi i).getLastD 0)])) r (.lst (ŏ ù++[.ref t]))) u=U Β:=λu xs hu=>by rw[Zc (λz=>by rw[z,g]at hu;cases hu),Zc (Zf hu D)];exact hu
   by_cases hj:j<Ĥ
   ·rw[QT hj]at hu;exact yO u _ (W j u Y hu hY)
   ·have ej:j=Ĥ:=by have:=(Ũ hu).1;rw[Qi,QK]at this;lia
    subst ej;rw[Q7 ç,ÓS]at hu;cases hu;rw[e4,S,v,hY];rw[Zc F.symm,Zb,C]
  ·rcases ë hu with hu|hu
   ·obtain g1|xs|g2:=yN u hu;exact(g1,xs,by rw[Zc g1,Zc (Zf g2 D)];exact g2)
   ·rw[ò hu];exact(F.symm,_,by rw[Zc F.symm];exact Zb)
  ·have:=e b o G nb;rw[Zc nb,Zc (Zf this D)];exact this
 ·rintro B d ⟨R,c,rfl,_,S,g,W,_,e⟩;rw[Qa]at S;exact(_,rfl,q r c d I g Á W (λb o G=>e b o (O b o G) (Zf G I)))
def CV(H:Hp)(v:V)(c:Com):Prop:=(c=af/\v=.non)\/X2 λ(t:ae) (p:Int×Int)=>c=U p/\v=.ref t/\H t=U #[h1,p.1,p.2]
theorem CV.keep{H a:Hp}{v:V}{c:Com}(h:CV H v c)(k:∀t xs,H t=U Β->a t=U Β):CV a v c:=by
 rcases h with h|⟨t,p,b,d,e⟩
 ·exact .inl h
 ·exact .inr (t,p,b,d,k _ _ e)
theorem ZpG{s:StL}{k:ő}{a:ÃS}(h:Z2 s k=U a):s.any Îz=true:=Èd (_,Jg h,ě rfl)
theorem Nl{s:StL}{k:ő}{a v:ÃS}(h:Z2 s k=U a):(Ê7).length=ŝ:=by unfold Yf;rw[Æ (ZpG h),Qa]
def AgS(hd:Hd)(z:ţ)(A B:Ø)(k q:Int):Prop:=∀C a b,Ag hd z C a b->Ag hd z (C++[(A,B,)]) (a+k) (b+q)
def Iz(e f:ae):Sp:=λvs H Q _=>X15 λ(m rd sd:ae) (L:À ZA) (s:StL) (nb li lo:Int) (g:V) (h:ae) (v:V) (c:Com) (z:À Nat) (M:À Int) (n:Int)=>vs=[.ref m,.ref h,v]/\ZR e f H m rd sd L s nb li lo g/\H h=U #[gO,M]/\CV H v c/\Th ą z ſ c /\
 ((Win ą Ál af/\Ú8)\/X3 λt b y=>Win ą Ál (U b)/\hdM L b=U y/\Z2 s (ZX M)=U (U (t,b,#[gX,y,z],))) /\
 (∀b∈M,∀y,hdM L b=U y->ZT z y<=0)/\Yr M/\(∀b∈M,b∈ZC L)/\2<=Àr/\n∈M /\
 ∀ (i:V) (l:Com) (d:StL) (k q:Int) (a:Hp),CV a i l->Th ą z M l->Wq ą d ſ Ál (ZX M)->(∀j,j≠ZX M->Z2 d j=Z2 s j)->AgS ą z ſ Ál k q ->
  ZR e f a m rd sd L d nb (li+k) (lo+q) g->#[fe,H,sd,a]->Q i a
theorem Iy{L:õ}(nd:Ëa){b:Int}(hb:b∈ZC L){y:ţ}(hy:hdM L b=U y):∃e∈L,e.n=b/\∃x,Ò[e.g]? = U x/\y=cds x:=by
 obtain e|c|rfl:=Tp hb;rw[Vc nd c]at hy;cases a:Ò[e.g]? with
 | none=>rw[a]at hy;cases hy
 | some x=>rw[a]at hy;cases hy;exact(e,c,rfl,x,a,rfl)
theorem Zp3(T:Ù)(cH:ÚR):Mf P w K mg Â 4 am "play_again" Í6 (Iz aw am):=by
 rw[h0,T.t_Merge_play_again.mf,TR];obtain m|rd|I|L|s|nb|li|lo'|aH|tm|v|c|z|M|n|rfl|Mg|mV|yP|⟨wS,Fi⟩|bO|fZ|gu|mU|h2|hn|q:=h;refine(_,#[Zd,#[Zu,3,TR.nd,à,(@Zvf _ _ _ _ _ _ _ _ hr Ģ ‹1› È È È)],#[Zd,#[ZN,#[g6,3],ÄY,ï],#[Zd,#[ZN,#[g6,2],#[Zd,#[YC,ş,#[iQ,1,hr]],#[fq,3]],ï],#[Zd,#[ZN,#[Zk,YS,Ëj,ÎU,þ],#[Zd,#[YC,#[XA,cH,â,hr,‹0›,#[Ze,Ëj,ÎU,Ëj]],#[ef,4,TR.nd,5,6]],#[Zd,#[YC,#[Yx,#[e5,5,6]],#[iQ,1,hr]],#[Zh,#[Zm,#[Yx,#[Ze,‹4›,Ëj]]]]]],ï],#[Zd,ÓE,#[Zd,#[ZN,#[Zk,Wk,Ëj,ÎU,þ],ÄY,ï],#[Zd,#[YC,‹2›,#[iQ,1,hr]],#[fq,3]]]]]]]],?_);rw[ew,dx,N,Mg.ob];have tP:#[ib,H]:=mV;have Z:=Nu M n;have dg:=Z7.t (k:=Ëk) Ël tP;rw[Jh]at dg;have sA:#[tD,Y9]:=λb r=>Z.mem_iff.mp (QU _ r);have sB:#[tD,Y7]:=λb r=>Z.mem_iff.mp (QD _ r);have iQ:=Nv gu (Ti hn);have dis:∀a b,a∈Y9 M n->b∈Y7 M n->a≠b:=λa b ha r e=>by
  subst e;unfold Y9 Y7 at *
  split at ha
  ·rename_i hl;rw[sX,hl,r];have:=ZS gu ha r;lia
  ·rename_i hl;rw[hI,hl,r];have:=ZS gu r ha;lia
 refine(_,rfl,m,am,dx,_,_,rfl,N,â,Æf,To ..,I,rfl,.inr (_,.inl Ël),_,rfl,_,dg,?_);rcases bO with⟨u,W⟩|⟨t,b,y,u,D,W⟩
 ·have ev:#[ze].getD .non=.non:=by rcases W with e|e<;>rw[e]<;>rfl
  rw[ev];refine(_,rfl,rfl,_,rfl,Y0 rfl (_,rfl,q v c s 0 0 H yP ((Îx wS u).perm Z,Fi) ((λa b x y _ wb _ _=>nomatch u.one wb),λ_=>W) Ä6 (λC k0 q0 g=>by rw[QaP,QaP];exact .no g (.inr u)) (Mg.cast Á Á) ÓH))
 have bW:=Mg.ats _ (Jg W) _ rfl;have e1:#[ze].getD .non=.ref t:=by rw[W];rfl
 rw[e1];have Ck:=Mg.sfew;have fP:#[tm,kvS,s]:=by unfold kvS;rw[ld]
 rw[bc];have wx:=sB b u.1;rcases yP with⟨rfl,rfl⟩|⟨F,p,rfl,rfl,J⟩
 ·refine ÓV;refine(_,rfl,m,am,dx,_,_,rfl,N,â,Æf,To ..,_,rfl,I,_,rfl,XD.t (k:=Ëk) Ël tP fP,?_);rw[show V.non=stV af from rfl,RW];have cE:(Yf s (ZX M) af).length<=200:=by rw[Nl W];exact Ck
  have M2:=Mg.put (k:=ZX M) (v:=af) #[eB,t,X] cE;have B:Win ą ſ af:=wS;refine(_,rfl,q Ât (U (b,#[gX,y,z],)) _ 0 0 _ #[sw,t,?_] ((Îy B u).perm Z,λp hp=>?_) ((λa b x y wa _ _ _=>nomatch B.one wa),λ_=>.inr ?_) (λj hj=>?_) (λC k0 q0 g=>?_) (M2.cast Á Á) (λb o r _ n2=>by rw[Zc n2];exact r))
  ·rw[r3,Zc,z,Ël,bW]
  ·cases hp;exact(y,D,rfl)
  ·rw[Wt,Æ rfl]
  ·rw[Wt,Ç hj]
  ·rw[QaP,QaP];exact .no g (.inl B)
 rw[ew,a,fa,p];obtain x|G|Fj:=Fi _ rfl;simp only at G Fj;subst Fj;have B:Win ą ſ (U a):=wS;have Fk:=sA a B.1;have eY:=dis a b B.1 u.1;obtain O|yI|rfl|i|hzx|rfl:=Iy Mg.nd (mU a Fk) G;obtain eb|yJ|rfl|l|hzy|rfl:=Iy Mg.nd (mU b wx) D;rw[hw,c0,O.n,Â9,0,O.n];rw[hw,c1,O.n,Â9,1,Â9];rw[hw,d0,eb.n,Èo,0,eb.n];rw[hw,d1,eb.n,Èo,1,Èo];rw[bc];refine(_,rfl,F,_,_,_,rfl,rfl,û J,c1,_,rfl,t,_,_,_,rfl,rfl,û bW,d1,rfl,_,rfl,Y1 ž ž)
 ·have ef:lcp (cds i) z=lcp (cds l) z:=by have:=ÃR;injection this with this;lia
  have kE:=ZuT ef;refine(_,rfl,m,dx,_,rfl,N,Ja ..,_,rfl,F,_,_,_,rfl,rfl,û J,c0,_,rfl,t,_,_,_,rfl,rfl,û bW,d0,_,rfl,F,_,_,_,rfl,rfl,û J,c1,m,rd,I,L,s,nb,li,lo',aH,O,eb,i,l,lcp (cds i) z,rfl,Mg,yI,yJ,hzx,hzy,kE,λt5 wi R H5 hw rY wm M5 b5=>?_);rw[eW,t5,wm];have wq:2<=aq:=by decide
  refine(_,rfl,_,rfl,wq,λS kI=>?_);have s6:=Zi kI #[h1,R,Èp];have qA:(upd H5 S #[h1,R,Èp]) S=U #[h1,R,Èp]:=Zb;have M6:=M5.same s6;generalize upd H5 S (.tup [.int R,.int ((lcp (cds i) (cds l):Nat):Int)])=H6 at s6 qA M6 ⊢;rw[ew,Cc,Cd,M6.ob];have Cm:tm≠m:=λz=>by rw[z,N]at mV;cases mV
  have Cn:F≠m:=λz=>by rw[z,N]at J;cases J
  have Fl:#[ib,H6]:=s6 _ _ (b5 _ _ tP Cm);refine(_,rfl,m,am,Cc,_,_,rfl,Cd,â,Æf,To ..,_,rfl,I,_,rfl,XD.t (k:=Ëk) M6.stays Fl fP,?_);rw[show ù S=stV (U (S,R,Èp,)) from rfl,RW];have cE:(Ü6).length<=200:=by rw[Nl W];exact Ck
  have M7:=M6.put (k:=ZX M) (v:=U (S,R,Èp,)) (λt X=>by injection X with X;rw[<- X];exact qA) cE;have b7:∀b o,H b=U o->b≠m->b≠I->(upd H6 I (.dT (kvS Ü6))) b=U o:=λb o r n1 n2=>by rw[Zc n2];exact s6 _ _ (b5 b o r n1)
  have Fm:F≠I:=λz=>by rw[z,Ël]at J;cases J
  generalize upd H6 I (.dT (kvS (Yf s (ZX M) (U (S,R,((lcp (cds i) (cds l):Nat):Int),)))))=H7 at M7 b7 ⊢;refine(_,rfl,_,rfl,F,_,_,_,rfl,rfl,û (b7 _ _ J Cn Fm),c1,wq,λt8 Fn=>?_);have wn:Win ą M (U wi):=by
   rcases hw with⟨Y,rfl,_⟩|⟨Y,rfl,_⟩
   ·exact(Èa B u G D Y).perm Z
   ·exact(Ê4 B u G D ((Ç9 eY).resolve_left Y)).perm Z
  refine q (.ref t8) (U (wi,Â9,)) _ 1 ((lcp (cds i) (cds l):Nat)-(lcp (cds i) z:Nat)+1) _ #[sw,t8,Zb] (wn,λp hp=>?_) (λa b x' y' wa wb rZ r6=>?_,λiQ=>?_) Ûe (λC k0 q0 g=>.eq g B u G D ef) ((M7.same (Zi Fn _)).cast rfl rfl) (λb o r n1 n2=>Zi Fn _ _ _ (b7 b o r n1 n2))
  ·cases hp;rcases hw with⟨Y,rfl,_⟩|⟨Y,rfl,_⟩
   ·exact(_,G,rfl)
   ·exact(_,D,by simp only;rw[ef])
  ·rw[18];refine(S,R,by rw[Wt,Æ rfl],?_);rcases hw with⟨Y,_,rfl⟩|⟨Y,_,rfl⟩
   ·exact .inl (Y,rfl)
   ·exact .inr ((Ç9 eY).resolve_left Y,rfl)
  ·rcases iQ with z|z
   ·rw[g4,B]
   ·rw[g4,u]
 have Fo:lcp (cds i) z≠lcp (cds l) z:=λe=>d (ě (by rw[e]));rw[gk,N,ÓF,Je,Jd];have M2:=Mg.obj (nb':=nb) (li':=li+1) (lo':=lo') (Æc:=aH) (dx:=dx);have k2:∀b o,H b=U o->b≠m->(upd H m (.ins am dx (mgF rd nb (li+1) lo' I aH))) b=U o:=λb o r n=>by rw[Zc n];exact r
 have Cn:F≠m:=λz=>by rw[z,N]at J;cases J
 have ntt:t≠m:=λz=>by rw[z,N]at bW;cases bW
 have Cm:tm≠m:=λz=>by rw[z,N]at mV;cases mV
 generalize upd H m (.ins am dx (mgF rd nb (li+1) lo' I aH))=H2 at M2 k2 ⊢;have wA:=k2 _ _ J Cn;have kA:=k2 _ _ bW ntt;refine(_,rfl,F,_,_,_,rfl,rfl,û wA,c1,_,rfl,t,_,_,_,rfl,rfl,û kA,d1,_,_,rfl,rfl,_,rfl,Y1 (λg=>?_) (λg=>?_))
 ·have hgt:lcp (cds l) z<lcp (cds i) z:=by have:Èo<Â9:=Ŀ g;lia
  obtain bt|el:=II (a:=O.n) (b:=eb.n) hgt (fZ _ wx _ D);refine(_,rfl,q (.ref F) (U (O.n,Â9,)) s 1 0 H2 #[sw,F,wA] ((Èa B u G D bt).perm Z,λp hp=>by cases hp;exact(_,G,rfl)) (λa b x' y' wa wb rZ r6=>?_,λiQ=>?_) Ä6 (λC k0 q0 g=>by rw[QaP];exact .ne g B u G D Fo) (M2.cast rfl Á) (λb o r n1 _=>k2 b o r n1))
  ·rw[18];exact(t,_,by rw[el];exact W,.inl (bt,rfl))
  ·rcases iQ with z|z
   ·rw[g4,B]
   ·rw[g4,u]
 ·have bf:lcp (cds i) z<lcp (cds l) z:=by have:¬ Èo<Â9:=λe=>g (ě e);lia
  obtain bt|el:=II (a:=eb.n) (b:=O.n) bf (fZ _ Fk _ G);rw[nP];have Fq:#[ib,H2]:=k2 _ _ tP Cm;refine(_,rfl,_,rfl,m,am,j5,_,_,rfl,dQ,â,Æf,To ..,_,rfl,I,_,rfl,XD.t (k:=Ëk) M2.stays Fq fP,?_);rw[show ù F=stV (U (F,O.n,Â9,)) from rfl,RW];have cE:(Yf s (ZX M) (U (F,O.n,Â9,))).length<=200:=by rw[Nl W];exact Ck
  have M3:=M2.put (k:=ZX M) (v:=U (F,O.n,Â9,)) (λt X=>by injection X with X;rw[<- X];exact wA) cE;refine(_,rfl,q Ât (U (eb.n,Èo,)) _ 1 0 _ #[sw,t,?_] ((Ê4 B u G D bt).perm Z,λp hp=>by cases hp;exact(_,D,rfl)) (λa b x' y' wa wb rZ r6=>?_,λiQ=>?_) Ûe (λC k0 q0 g=>by rw[QaP];exact .ne g B u G D Fo) (M3.cast rfl Á) (λb o r n1 n2=>by rw[Zc n2];exact k2 b o r n1))
  ·rw[r3,Zc,z,M2.stays,kA]
  ·rw[18];exact(F,_,by rw[Wt,Æ rfl,Vh (cds i) (cds l),el],.inr (bt,rfl))
  ·rcases iQ with z|z
   ·rw[g4,B]
   ·rw[g4,u]
def WY(n:Int)(e:ZA):ZA:=if e.n=n then (e.n,e.p,e.k,e.f,Ò,e.g+1) else e
def ÀM(L:õ)(n:Int):À ZA:=ĸ (WY n)
theorem U9(n:Int)(e:ZA):(WY n e).n=e.n/\(WY n e).p=e.p/\(WY n e).k=e.k/\(WY n e).f=e.f/\(WY n e).ss=Ò:=by unfold WY;split<;>exact ÎV
theorem RM{n:Int}{e:ZA}(h:e.n=n):WY n e=(e.n,e.p,e.k,e.f,Ò,e.g+1):=Æ h
theorem Nk{n:Int}{e:ZA}(h:¬ e.n=n):WY n e=e:=Ç h
theorem Ux(L:õ)(n:Int):ZC Èq=ZC L:=by unfold ZC ÀM;rw[Qo];exact QJ λe _=>(U9 n e).1
theorem Zr5(L:õ)(n:Int):(Èq).map (·.p)=ĸ (·.p):=by unfold ÀM;rw[Qo];exact QJ λe _=>(U9 n e).2.1
theorem Zrd(L:õ)(n:Int):kvM Èq=kvM L:=by unfold kvM ÀM;rw[Qo];refine QJ λe _=>?_;simp only[ÎW];rw[(U9 n e).1,(U9 n e).2.1]
theorem ZsO{m rd sd:ae}{L:õ}{n:Int}{b:ae}(h:Fp m rd sd Èq b):Fp m rd sd L b:=by
 rcases h with h|h|h|⟨e',a,h⟩
 ·exact .inl h
 ·exact .inr (.inl h)
 ·exact .inr #[s9,h]
 ·rw[em,e,c,a];obtain _|d|f|g|_:=U9 n e;rw[d,f,g]at h;exact .inr (.inr (.inr (e,c,h)))
theorem Fp_bump'{m rd sd:ae}{L:õ}{n:Int}{b:ae}(h:Fp m rd sd L b):Fp m rd sd Èq b:=by
 rcases h with h|h|h|⟨e,a,h⟩
 ·exact .inl h
 ·exact .inr (.inl h)
 ·exact .inr #[s9,h]
 ·obtain _|c|d|f|_:=U9 n e;refine .inr (.inr (.inr (WY n e,Qd a,?_)));rw[c,d,f];exact h
theorem Ix{n b:Int}(h:b≠n):∀L:À ZA,hdM Èq b=hdM L b
 | []=>rfl
 | e::L=>by
  have ih:=Ix h L;unfold hdM hdL ÀM at ih ⊢;rw[Qj,Qj,Qj,QaA,QaA];have c:(toL (WY n e)).1=e.n:=(U9 n e).1;rw[c];by_cases a:e.n=b
  ·rw[ě a,ě (show (toL e).1=b from a),Nk (λz=>h (a.symm.trans z))]
  ·rw[ĕ a,ĕ (show ¬ (toL e).1=b from a)];exact ih
theorem Iw{L:õ}(nd:Ëa){e:ZA}(he:e∈L):hdM Èr e.n=(Ò[e.g+1]?).map cds:=by have a:WY e.n e∈ÀM L e.n:=Qd he;rw[RM rfl]at a;exact Vc (L:=ÀM L e.n) #[ei,Ux,nd] a
theorem Nj(k f:ae)(g:Int):YV k f g=Ûf:=by unfold YV;rw[Xa,Zx nFK,Xa,Zx nGK,Zx nGF,Xa]
theorem Zil(k f:ae)(g v:Int):Zv "gone" (.int v) Ît=YV k f v:=by rw[Nj,Nj,Zx nGK,Zx nGF,VN]
theorem Ni(k f:ae)(g:Int):(Ît).length<1000:=by rw[Nj];show 3<1000;decide
theorem ZoO(k f:ae)(g:Int):(Ît).lookup ("fars" : ak)=U Ċ:=by unfold YV;rw[Zr,Ç nGF,Zr,Æ rfl]
theorem Iv{L:õ}(pd:#[y0].Nodup){e e':ZA}(he:e∈L)(a:e'∈L)(h:e.p=e'.p):e=e':=by
 have b:((ĸ λx=>(x.p,x,)).map ó).Nodup:=by rw[Qo];exact pd
 have:=XU b #[sW,x.p,he] #[sW,x.p,a] h;rw[qo]
theorem ZR.bump{b i:ae}{H:Hp}{m rd sd:ae}{L:õ}{s:StL}{nb li lo:Int}{j:V}(M:#[fE,b,i,j]){e:ZA}(he:e∈L)(o:e.g<ĭ){dp:ae} :
  ZR b i (upd H e.p (.ins b dp (YV e.k e.f #[f0,e.g]))) m rd sd (My.bump L e.n) s nb li lo j:=by
 rw[gM,p,q];obtain dq|c:=ÓW;obtain r|_|_:=M.ne_p he;obtain d|_|_|u|_|_:=Èl he;refine((p,by rw[Zc r];exact q),by rw[Zc u,Zrd];exact ņ,by rw[Zc d];exact Èj,λx a t v=>?_,λe' w=>?_,by rw[Ux];exact M.up,by rw[Zr5];exact M.pd,by unfold My.bump;rw[Qa];exact Âu,M.sfew)
 ·have:=M.ats x a t v;rw[eR,c]
 ·rw[em,x,a,w];have R:=À3 x a;have g:∀ {y:ZA},y∈L->y.k≠e.p/\y.f≠e.p:=λ{y} A=>by have k:=À3 y A;exact((λz=>by have:=k.at'.ks;rw[z,c]at this;cases this),(λz=>by have:=k.at'.fs;rw[z,c]at this;cases this))
  obtain l|n:=g a;by_cases h:x.n=e.n
  ·have ex:x=e:=by
    have d:((ĸ λx=>(x.n,x,)).map ó).Nodup:=by rw[Qo];exact Ų
    have:=XU d #[sW,x.n,a] #[sW,x.n,he] h;rw[qo]
   subst ex;rw[RM rfl];exact(((dp,Zb),by show (upd H x.p _) x.k=_;rw[Zc l];exact R.at'.ks,by show (upd H x.p _) x.f=_;rw[Zc n];exact R.at'.fs),o,R.len,R.srt,R.str)
  ·rw[Nk h];exact R.keep (Zc (λz=>h (by rw[Iv M.pd a he z]))) (Zc l) (Zc n)
theorem Zwy{L:õ}{e:ZA}{x:ak}(nd:Ëa)(up:Yr Į)(he:e∈L)(hx:Ò[e.g]? = U x)(srt:#[tr,Ò])(W:Ûg):Tk ą ÃU Į e.n ý:=by
 refine(W,by rw[Vc nd he,hx];rfl,λb d=>Ix d L,λy a=>?_,up);rw[Iw nd he]at a;cases c:Ò[e.g+1]? with
 | none=>rw[c]at a;cases a
 | some f=>rw[c]at a;cases a;exact Jp srt e.g x f hx c
theorem Iu{c:Ï}{b d:VK->Prop}{Q:VK}(P:V->Hp->Prop)(h1:c=true->∀a:VK,(∀v H,P v H->a v H)->b a)(h2:c=false->∀a:VK,(∀v H,P v H->a v H)->d a)(q:∀v H,P v H->Q v H):if c=true then b Q else d Q:=by
 cases c with
 | true=>rw[Æ rfl];exact h1 rfl Q q
 | false=>rw[Ç É];exact h2 rfl Q q
def Tg(n:Int)(C:À Èn):À (À Int×À Int):=C.map λX=>(Y9 X n,Y7 X n,)
theorem ZkB(rd:ae)(nb li lo:Int)(sd:ae)(a:V):#[28].lookup ("play_again" : ak)=af:=À4
def Ir(c d:ae):Sp:=λvs H Q _=>X11 λ(m rd sd:ae) (L:À ZA) (s:StL) (nb li lo:Int) (h:V) (e:ZA) (x:ak)=>vs=#[sl,m,e.n]/\ZR c d H m rd sd L s nb li lo h/\e∈L/\Ò[e.g]? = U x/\Win ą Į (U e.n)/\Z1 ą s Į /\
 ∀ (f:StL) (g:Ã Int) (k q:Int) (a:Hp),ZR c d a m rd sd Èr f nb (li+k) (lo+q) (Yz g)->Win ÃU Į g->Z1 ÃU f Į->Ag ÃU ý (Tg e.n ÎX) k q->#[g7,rd,sd,a]->Q .non a
theorem Zsg(T:Ù)(be:Èh)(gE:#[eo,3,"matches_up",ÄT,IA])(dR:Mf P w K mg Â 4 am "play_again" Í6 (Iz aw am)):Mf P w K mg Â 5 am "send_out" Í5 (Ir aw am):=by
 rw[h0,T.t_Merge_send_out.mf,TU];obtain m|O|G|L|s|nb|li|lo'|aH|e|x|rfl|M|S|hx|W|ok|q:=h;refine(_,#[Zd,#[Zu,2,TU.nd,à,#[ie,hr,1]],#[Zd,#[VB,‹2›,Û,Uk],#[Zd,#[Zu,3,TU.nd,à,#[Z4,#[Zk,Xe,#[tn,be,hr,2],ş,þ],ş,#[Yx,#[Ze,‹1›,#[ZD,Τ,#[ZH,‹2›],#[ZH,‹2›]]]]]],#[Zd,#[XI,χ,#[iL,K,#[Zz,gE,hr,#[Ze,ÚU,‹1›],È]],#[sa,4,TU.nd],#[Zh,#[Zu,3,TU.nd,à,#[XA,dR,â,hr,‹0›,#[e5,4,3]]]]],#[Zh,#[X0,‹0›,#[Z4,#[g6,3],ş,ÎU]]]]]]],?_);rw[u4];rw[s4,R,S,dp,hp,Ëb];have hg:e.g<ĭ:=(Ũ hx).1;have tk:=Zwy Ų M.up S hx R.srt W;refine(_,rfl,m,am,dx,_,_,rfl,hm,â,Ť,Z6 ..,_,rfl,O,_,rfl,ď (k:=Æe) ņ (Wr Ų S),_,rfl,e.p,aw,dp,_,_,rfl,hp,Ņ,Ç8,Tt ..,_,_,rfl,rfl,dp,_,hp,Ni ..,?_);rw[Zil,show ((e.g:Int)+1)=#[f0,e.g] by lia];have M1:=M.bump S hg (dp:=dp);rw[fv,qF,H,e.p,Ûh];have k1:#[rO,H,e.p,H,Ûh]:=λb o B n=>by rw[Zc n];exact B
 generalize upd H e.p (.ins aw dp (YV e.k e.f ((e.g+1:Nat):Int)))=H1 at M1 qF k1 ⊢;have gz:((e.n,e.p,e.k,e.f,Ò,e.g+1):ZA)∈ÀM L e.n:=by have:WY e.n e∈ÀM L e.n:=Qd S;rwa [RM rfl]at this
 have R1:=ÎI _ gz;have cz:∀ {C:Hp},#[fe,H1,G,C]->∀b o,H b=U o->¬ Fp m O G L b->C b=U o:=λ{C} k b o B nf =>
  k b o (k1 b o B λz=>nf #[f6,e,S]) #[gG,nf] (λz=>nf (.inr Âv))
 have i0:e.n∈ZC L:=W.1;have rV:(Į).length<=60:=by unfold ZC;rw[Qa];exact Âu
 have yM:(Į).length<=2 ^ 8:=Qk rV É;obtain Cj|Aw|Fg:=Nr 8 Į e.n i0 yM;have Co:hdM Èr e.n=(Ò[e.g+1]?).map cds:=Iw Ų S;have jc:∀ (c:Com),(c=af/\Ò[e.g+1]? = af)\/(∃y,Ò[e.g+1]? = U y/\c=U (e.n,ÎY,))->Th ÃU ý [e.n] c:=λc hc=>by
  have hw:=Îw (hd:=hdM Èr) (n:=e.n);rcases hc with⟨rfl,hn⟩|⟨y,u,rfl⟩
  ·rw[Co,hn]at hw;exact(hw,λp hp=>by cases hp)
  ·rw[Co,u]at hw;exact(hw,λp hp=>by cases hp;exact(cds y,by rw[Co,u];rfl,rfl))
 refine(_,rfl,e.p,dp,_,rfl,qF,Vb ..,e.p,e.k,e.f,Ò,e.g+1,rfl,R1.at',rfl,_,rfl,?_);rw[IU];refine Iu (λv C=>ZB H1 C/\∃c,CV C v c/\Th ÃU ý [e.n] c) #[hU,d,Q',Z] #[hU,d,Q',Z] (λv C ⟨s2,c,yP,hok⟩=>?_)
 ·have hn:Ò[e.g+1]? = af:=by
   have:=ÃR;cases u:Ò[e.g+1]? with
   | none=>rfl
   | some y=>rw[u]at this;cases this
  exact Z _ _ (Çj _,af,.inl Ŕ,jc af (.inl (rfl,hn)))
 ·obtain⟨y,u⟩:∃y,Ò[e.g+1]? = U y:=by
   cases u:Ò[e.g+1]? with
   | none=>rw[u]at d;exact Ê rfl (Âh d)
   | some y=>exact(y,rfl)
  have hyl:e.g+1<ĭ:=(Ũ u).1;have rH:WZ Ò (e.g+1)=ÎY:=by unfold WZ;rw[Ç Á,QaN,QP,QP,hx,u,Vh];rfl
  have bW:atI ((ÂO ĭ).map λj=>ì (WZ Ò j)) #[f0,e.g]=U (.int ÎY):=XZ (by rw[Qq,List.getElem?_range hyl,<- rH];rfl);refine(_,rfl,_,rfl,e.p,aw,dp,_,_,rfl,qF,Ņ,Óu,ZoO ..,_,rfl,e.p,aw,dp,_,_,rfl,qF,Ņ,Ç8,Tt ..,e.f,_,_,_,rfl,rfl,Í R1.at'.fs,bW,Á6,λtc j9=>?_);exact Z _ _ (Zi j9 _,U (e.n,ÎY,),.inr (tc,_,rfl,rfl,Zb),jc _ (.inr (y,u,rfl)))
 have M2:=M1.same s2;rw[nP];refine(_,rfl,m,am,j5,_,_,rfl,dQ,â,Ť,Z6 ..,O,_,rfl,M2.rows,λl hl=>?_);rw[IY,Ux];have s3:=s2.trans (Zi hl Ëf);rw[fv,fb,C,l,Ëf];have Ay:CV (upd C l Ëf) v c:=yP.keep λt xs ht=>Zi hl _ _ _ ht;generalize upd C l (.lst ((ZC L).map ì))=H3 at s3 fb Ay ⊢;refine(_,rfl,l,ZC L,e.n,rfl,fb,i0,rV,M.up,λr ts H4 dI qw j8 bJ s4=>?_);have wB:=s3.trans s4;have M4:=M1.same wB;have Fs:CV H4 v c:=Ay.keep λt xs ht=>s4 _ _ ht;refine(r,rfl,#[gF,qw],?_);rw[ew,dm4,wl,M4.ob];rw[ew,dm1,fo,M1.ob];have wt:r≠m:=(Zf (s3 _ _ fo) dI).symm;have E7:r≠G:=(Zf (s3 _ _ M1.stays) dI).symm;refine Ro (K:=K) (a:=r) (xs:=ts.map ù) (λi σ I=>X6 λ(v':V) (c':Com) (J:StL) (k q':Int) (v4:Ã V)=>σ=[U Æg,U (.int e.n),U (.ref e.p),U v',v4]/\i<=ÓX/\CV I v' c'/\Th ÃU ý ÓY c'/\ZR aw am I m O G Èr J nb (li+k) (lo'+q') aH/\Z1 ÃU J ÓY/\(∀j,¬ Kys ÓY j->Z2 J j=Z2 s j)/\Ag ÃU ý (Tg e.n ((ÎX).take i)) k q'/\#[fe,H4,G,I]) ?_ (λi σ I _ Z=>by obtain _|_|_|_|_|_|_|_|_|_|_|_|_|_|k5:=Z;exact Í (k5 _ _ qw wt E7)) ?_ ?_
 ·refine(v,c,s,0,0,_,rfl,Qs _,Fs,hok,M4.cast Á Á,λX F h2=>?_,λ_ _=>rfl,.nil,λb o h _ _=>h);have:=Nt F;rcases this with rfl|⟨g,_⟩
  ·exact Ê h2 Ûi
  ·exact Ê g Ûi
 ·rintro i y σ I u ⟨v',c',J,k,q',v4,rfl,hi,wC,jt,M5,wD,je,ag,k5⟩;rw[Qq]at u;cases hz:ts[i]? with
  | none=>rw[hz]at u;cases u
  | some t =>
  rw[ez,hz,u,cq,ÓX];cases F:(Z9 8 (ZC L) e.n)[i]? with
  | none=>rw[Qa1]at F;lia
  | some X =>
  obtain x1|D|x3|x4:=Cj i X F;have gu:=x1.rise M.up;have e3:low e.n ÎX (i+1)=X:=by show (Z9 8 Į e.n).getD i []=X;rw[QP,F];rfl
  have rY:I t=U #[gO,X]:=k5 _ _ (bJ i t X hz F) (λz=>by have:=bJ i t X hz F;rw[z,wl]at this;cases this) (λz=>by have:=bJ i t X hz F;rw[z,M4.stays]at this;cases this);rw[ew,wE,kJ,M5.ob];rw[<- x4]at jt wD je;have was:=Zrk tk x1 D x3 ok;have iX:Z2 J (ZX X)=Z2 s (ZX X):=je _ λz=>(IL gu D z).1 rfl;refine(_,rfl,m,wE,_,rfl,kJ,ZkB ..,_,rfl,_,rfl,m,O,G,ÀM L e.n,J,nb,_,_,aH,t,v',c',cds x,X,e.n,rfl,M5,rY,wC,jt,?_,λb B y u=>tk.ge (x1.mem B) u,gu,λb B=>by rw[Ux];exact x1.mem B,D,x3,λv6 c6 s6 k6 q6 H6 Ft Fu Fw sf Fx M6 k6'=>?_)
  ·rw[iX];rcases was with w|⟨t',b,y,w1,w2,_,w4⟩
   ·exact .inl w
   ·exact .inr (t',b,y,w1,w2,w4)
  ·refine(v6,c6,s6,k+k6,q'+q6,_,rfl,cq,Ft,by rw[e3];exact Fu,M6.cast Á Á,?_,λj N=>?_,?_,λb o B n1 n2=>k6' b o (k5 b o B n1 n2) n1 n2)
   ·rw[e3];refine Zoz (n:=e.n) (wD.congr Ä6 λj N=>sf j (IL gu D N).1) ?_ Fw;have iQ:=Nv gu (Ti x3);have so:Sub X (Y7 X e.n):=by unfold Y7;split;exact Sub.top.up D;exact Sub.top.lo D
    refine(ok.sub (x1.trans so)).congr (λb B=>tk.oth b λz=>iQ (z ▸ B)) λj N=>?_;rw[sf j (IK gu D N).1,je j (IK gu D N).2]
   ·rw[e3]at N;rw[sf j (λz=>N (X,.top,D,z)),je j (λZ=>by obtain Y|y1|y2|y3:=Z;exact N (Y,(IP D e.n).trans y1,y2,y3))]
   ·have:=Fx _ _ _ ag;unfold Tg at this ⊢;rw[QH,F,Qe];exact this
 ·rintro σ I ⟨v',c',J,k,q',v4,rfl,_,wC,jt,M5,wD,je,ag,k5⟩;rw[Qa,j8,Aw]at jt wD;rw[Qa,j8,Qv ç]at ag;rw[ew,wE,kJ,M5.ob];have fin:∀w':Ã Int,w'=c'.map ó->Q .non (upd I m (.ins am wE (mgF O nb (li+k) (lo'+q') G (Yz w')))):=λw' ew=>by subst ew;refine q J _ k q' _ M5.obj jt.1 wD ag λb o B nf=>?_;rw[Zc #[gG,nf]];exact cz (λb o B n1 n2=>k5 b o (wB b o B) n1 n2) b o B nf
  rcases wC with⟨rfl,rfl⟩|⟨t,p,rfl,rfl,ht⟩
  ·refine ÓV;rw[f4,wE,kJ];exact fin af rfl
  ·rw[bc];refine(_,rfl,t,_,_,_,rfl,rfl,û ht,(show atI [ì p.1,ì p.2] 0=U (.int p.1) from XZ (j:=0) rfl),_,rfl,m,am,wE,_,rfl,kJ,â,Â8,We ..,?_);rw[RR];exact fin (U p.1) rfl
def RL(L:õ)(w:Ź)(x:V)(a:õ)(k q:Int)(b:Hp):Prop :=
 (w=af/\x=.non/\a=L/\k=0/\q=0)\/X3 λ(e:ZA) (t:ae) (z:ak)=>e∈L/\w=U e.n/\x=.ref t/\Ò[e.g]? = U z/\b t=U #[fK,e.n,e.g,z]/\a=ÀM L e.n/\Ag (hdM a) (cds z) (Tg e.n ÎX) k q
theorem Zme(rd:ae)(nb li lo:Int)(sd:ae)(a:V):#[28].lookup ("send_out" : ak)=af:=À4
theorem ZlQ(rd:ae)(nb li lo:Int)(sd:ae)(a:V):#[28].lookup ("take" : ak)=af:=À4
def Iq(d e:ae):Sp:=λvs H Q _=>X9 λ(m rd sd:ae) (L:À ZA) (s:StL) (nb li lo:Int) (w:Ã Int)=>vs=[.ref m]/\ZR d e H m rd sd L s nb li lo (Yz w)/\Win ą Į w/\Z1 ą s Į /\
 ∀ (x:V) (a:À ZA) (f:StL) (g:Ã Int) (k q:Int) (c:Hp),RL L w x a k q c->ZR d e c m rd sd a f nb (li+k) (lo+q) (Yz g)->Win (hdM a) (ZC a) g->Z1 (hdM a) f (ZC a)->#[g7,rd,sd,c]->Q x c
theorem ZsZ(T:Ù)(J:Ûj)(N:Mf P w K mg Â 5 am "send_out" Í5 (Ir aw am)):Mf P w K mg Â 6 am "take" Ą (Iq aw am):=by
 rw[ed,T.t_Merge_take.mf,JU,O,v];obtain m|d|g|L|s|i|j|c|w|rfl|M|W|ok|q:=h;refine(_,#[Zd,#[Zu,1,JU.nd,à,#[gK,J,v]],#[Zd,#[ZN,#[eq,S4,1,ş],#[Zh,#[ZM,#[XA,N,â,v,‹0›,#[Ze,Ģ]]]],ï],#[fq,1]]],?_);rw[gM,S,V];refine(_,rfl,m,S,_,rfl,V,IQ ..,m,d,g,L,s,i,j,c,w,rfl,M,W,λx X Y l=>?_);have M1:=Â7 l;rcases Y with⟨rfl,hw⟩|⟨t,e',z,rfl,Z,B,C,hw⟩
 ·have n:Win ą Į af:=by rw[UA]at hw;exact hw
  have p:=W.one n;subst p;exact(_,rfl,rfl,_,rfl,UX rfl (_,rfl,q .non L s af 0 0 X (.inl ÎV) (M1.cast Á Á) W ok (λb o r _=>l b o r)))
 ·rw[em,e,D,Z];have n:Ûg:=by rw[UA]at hw;exact hw
  have p:=W.one n;subst p;rw[ew,F,u,M1.ob];refine(_,rfl,rfl,_,rfl,Jk Ài ?_);refine(_,rfl,m,F,_,rfl,u,Zme ..,_,rfl,m,am,F,_,_,rfl,u,â,Â8,Tn ..,m,d,g,L,s,i,j,c,_,e,z,rfl,M1,D,B,W,ok,λs' w' k q' G M2 W2 yQ ag I=>?_);have cT:G t=U #[fK,e.n,e.g,z]:=I _ _ C λhf=>by
   have a:=C;rcases hf with h|h|h|⟨y,hy,h⟩
   ·rw[e4,h,u,a]
   ·rw[e4,h,Ëd,a]
   ·rw[e4,h,M1.stays,a]
   ·have R:=(ÎI y hy).at';rw[ew,dy,qD,R.ob];rcases h with h|h|h
    ·rw[e4,h,qD,a]
    ·rw[e4,h,R.ks,a]
    ·rw[e4,h,R.fs,a]
  exact(_,rfl,q Ât Èr s' w' k q' G (.inr (e,t,z,D,rfl,rfl,B,cT,rfl,ag)) M2 #[ei,Ux,W2] #[ei,Ux,yQ] (λb o r nf=>I b o (l b o r) nf))
abbrev ZI:=Int×À ak×Nat
def ZP(L:õ):À ZI:=ĸ λe=>(e.n,(Ò,e.g,),)
def hdP(P:į):Hd:=hdL (À1 λx=>(x.1,0,x.2,))
def ZY(P:į):À Int:=À1 ó
def Wc(n:Int)(x:ZI):ZI:=if x.1=n then (x.1,x.2.1,x.2.2+1,) else x
def W9(P:į)(n:Int):À ZI:=À1 (Wc n)
theorem Wb(L:õ):hdM L=hdP (ZP L):=IS _ _ (by unfold ZP;rw[Qo,Qo,Qo];rfl)
theorem XO(L:õ):ZC L=ZY (ZP L):=by unfold ZY ZP ZC;rw[Qo];rfl
theorem Ip(L:õ)(n:Int):ZP Èq=W9 (ZP L) n:=by
 unfold ZP ÀM W9;rw[Qo,Qo];refine QJ λe _=>?_;rw[74];unfold Wc;by_cases h:e.n=n
 ·rw[RM h,Æ h]
 ·rw[Nk h,Ç h]
theorem Io(P:į)(n:Int):ZY (W9 P n)=ZY P:=by unfold ZY W9;rw[Qo];refine QJ λx _=>?_;simp only[ÎW];unfold Wc;split<;>rfl
theorem Nh{P:į}(nd:Ä8){x:ZI}(h:x∈P):hdP P x.1=(x.2.1[x.2.2]?).map cds :=
 NS (L:=À1 λx:ZI=>((x.1,0,x.2,):Yb)) (e:=(x.1,0,x.2,)) ÎZ (Qd (f:=λx:ZI=>((x.1,0,x.2,):Yb)) h)
def Ng(P:į)(x:ZI)(z:ak)(k q:Int):Prop:=x∈P/\x.2.1[x.2.2]? = U z/\Win (hdP P) (ZY P) (U x.1)/\Ag (hdP (W9 P x.1)) (cds z) (Tg x.1 (Z9 8 (ZY P) x.1)) k q
abbrev Yh:=Int×Nat×ak
inductive XT (P:į):À Yh->À ZI->Int->Int->Prop
 | nil:XT P [] P 0 0
 | Ň {ts:À Yh} {P1:À ZI} {x:ZI} {z:ak} {k q k1 q1:Int}:XT P ts P1 k q->Ng P1 x z k1 q1->XT P (ts++[(x.1,x.2.2,z,)]) (W9 P1 x.1) (k+k1) (q+q1)
inductive XS:À ZI->Int->Int->Prop
 | stop {P:À ZI}:Win (hdP P) (ZY P) af->XS P 0 0
 | go {P:À ZI} {x:ZI} {z:ak} {k q k1 q1:Int}:Ng P x z k1 q1->XS (W9 P x.1) k q->XS P (k1+k) (q1+q)
theorem XT.num{P a:į}{b:Ãa}{k q:Int}(h:XT P b a k q):ZY a=ZY P:=by
 induction h with
 | nil=>rfl
 | Ň _ _ c=>rw[Io,c]
def ZQ(P:į):Nat:=(À1 λx=>x.2.1.length-x.2.2).sum
theorem RK:∀ (P:À ZI),(ZY P).Nodup->∀ {x:ZI},x∈P->x.2.2<x.2.1.length->ZQ (W9 P x.1)+1=ZQ P
 | [],_,_,h,_=>by cases h
 | y::P,nd,x,h,a=>by
  unfold ZY at nd;rw[yi];unfold ZQ W9;rw[Qj,Qj,Qj,QR,QR];rcases Ĳ h with rfl|h
  ·have e:À1 (Wc x.1)=P:=by
    conv=>rhs;rw[<- List.map_id P]
    refine QJ λu b=>?_;unfold Wc;rw[Ç (λz:u.1=x.1=>nd.1 (z ▸ Qd (f:=Ä9) b))];rfl
   rw[e];unfold Wc;rw[ql];show x.2.1.length-(x.2.2+1)+_+1=_;lia
  ·have c:=RK P nd.2 h a;unfold ZQ W9 at c;have e:Wc x.1 y=y:=Ç (λz:y.1=x.1=>nd.1 (z ▸ Qd (f:=Ä9) h));rw[e];lia
theorem XT.left{P a:į}{b:Ãa}{k q:Int}(h:XT P b a k q)(nd:Ä8):ZQ a+ħ=ZQ P:=by
 induction h with
 | nil=>rfl
 | Ň h s ih=>have:=Ûk;rw[Qi,QK];lia
theorem Zof{L a:õ}{w:Ź}{x:V}{k q:Int}{H:Hp}(W:Win ą Į w)(h:RL L w x a k q H):(Win (hdP (ZP L)) (ZY (ZP L)) af/\x=.non/\a=L/\k=0/\q=0)\/X3 λ(y:ZI) (z:ak) (t:ae)=>Ng (ZP L) y z k q/\ZP a=W9 (ZP L) y.1/\x=.ref t/\H t=U #[fK,y.1,y.2.2,z]:=by
 rw[Wb,XO]at W;rcases h with⟨rfl,c,d,g,i⟩|⟨e,t,z,j,rfl,rfl,l,m,rfl,b⟩
 ·exact .inl (W,c,d,g,i)
 ·refine .inr (Ãb,z,t,(Qd (f:=Ès) j,l,W,?_),Ip L e.n,rfl,m);rw[Wb,Ip,XO]at b;exact b
def Im(K:Å)(f g:ae):Sp:=λvs H Q _=>X10 λ(m rd sd:ae) (L:À ZA) (s:StL) (nb li lo:Int) (w:Ã Int) (ÀN:Int)=>vs=#[sl,m,ÀN]/\ZR f g H m rd sd L s nb li lo (Yz w)/\Win ą Į w/\Z1 ą s Į/\ZQ (ZP L)<=100000 /\
 ∀ (r:ae) (c:À (ae×Yh)) (a:À ZA) (h:StL) (e:Ã Int) (k q:Int) (d:Hp),H r=af->d r=U ÓZ->(∀u∈c,d u.1=U Ûl)->XT (ZP L) Êp (ZP a) k q->(Åa<ÀN->e=af)->(c≠[]->Åa<=ÀN)->ZR f g d m rd sd a h nb (li+k) (lo+q) (Yz e)->Win (hdM a) (ZC a) e->Z1 (hdM a) h (ZC a)->(∀b,Fp m rd sd a b↔Fp m rd sd L b)->#[g7,rd,sd,d]->Q Áj d
theorem RL.fp{L a:õ}{w:Ź}{x:V}{k q:Int}{H:Hp}(h:RL L w x a k q H){m rd sd b:ae}:Fp m rd sd a b↔Fp m rd sd L b:=by
 rcases h with⟨_,_,rfl,_⟩|⟨e,t,z,_,_,_,_,_,rfl,_⟩
 ·exact Iff.rfl
 ·exact(ZsO,Fp_bump')
theorem ZR.fp_live{c d:ae}{H:Hp}{m rd sd:ae}{L:õ}{s:StL}{nb li lo:Int}{f:V}(M:#[fE,c,d,f]){b:ae}(h:Fp m rd sd L b):∃o,H b=U o/\∀xs,o≠.tup xs:=by
 rcases h with rfl|rfl|rfl|⟨e,g,h⟩
 ·rw[gM,i,a];rw[fx,a,xs,z]
 ·rw[fx,ņ,xs,z]
 ·rw[fx,Èj,xs,z]
 ·have R:=(À3 e g).at';rw[ew,i,a,R.ob];rcases h with rfl|rfl|rfl
  ·rw[fx,a,xs,z]
  ·rw[fx,R.ks,xs,z]
  ·rw[fx,R.fs,xs,z]
theorem ZR.fp_fresh{c d:ae}{H:Hp}{m rd sd:ae}{L:õ}{s:StL}{nb li lo:Int}{e:V}(M:#[fE,c,d,e]){b:ae}(h:H b=af):¬ Fp m rd sd L b:=λz=>by obtain o|a|_:=M.fp_live z;rw[h]at a;cases a
theorem ZR.fp_tup{c d:ae}{H:Hp}{m rd sd:ae}{L:õ}{s:StL}{nb li lo:Int}{e:V}(M:#[fE,c,d,e]){b:ae}{xs:Ė}(h:H b=U Β):¬ Fp m rd sd L b:=λz=>by obtain o|a|f:=M.fp_live z;rw[h]at a;cases a;exact f xs rfl
theorem ZuD(T:Ù)(gF:#[eT,6,"take",Ą,Iq]):Mf P w K mg Â 7 am "take_few" Í3 (Im K aw am):=by
 rw[h0,T.t_Merge_take_few.mf,JT];obtain m|j|l|L|s|F|Z|G|w|ÀN|rfl|M|W|ok|hleft|q:=h;refine(_,#[Zd,#[hc,2,JT.nd],#[Zd,(@Rp _ _ _ _ _ _ χ (@Ř _ _ _ #[Xt,#[Zk,WT,Î0,‹1›,þ],#[Xh,#[Zk,S4,Ģ,ş,þ]]]) #[Zh,#[ZM,#[YN,QE,QF,QG,Z3,‹2›,#[Ze,#[gK,gF,hr]]]]]),ÄY]],?_);have nd:(ZY (ZP L)).Nodup:=by rw[<- XO];exact Ų
 refine#[sY,n];have BZ:=M.fp_fresh n;refine(λmm σ i=>X6 λ(c:À (ae×Yh)) (d:À ZA) (s':StL) (w':Ã Int) (k p:Int)=>σ=[U Æg,U (.int ÀN),U Áj]/\i r=U ÓZ/\(∀u∈c,u.1≠r/\i u.1=U Ûl)/\XT (ZP L) Êp (ZP d) k p/\(c≠[]->Åa<=ÀN)/\ZR aw am i m j l d s' F (Z+k) (G+p) (Yz w')/\Win (hdM d) (ZC d) w'/\Z1 (hdM d) s' (ZC d)/\(∀b,Fp m j l d b↔Fp m j l L b)/\#[g7,j,l,i]/\mm=ZQ (ZP d),(_,[],L,s,w,0,0,rfl,Zb,#[eB,u,h],.nil,(λh=>Ê rfl h),(Â7 (Zi n _)).cast Á Á,W,ok,λ_=>Iff.rfl,λb o g _=>Zi n _ _ _ g,rfl),?_);rintro mm σ i ⟨c,L1,s1,I,k,p,rfl,C,mQ,D,si,M2,v,yQ,B,k2,rfl⟩;have yR:Ûm=Åa:=by rw[Qa]
 have J:=D.left nd;rw[Qa]at J;rw[nP];have done:(Åa<ÀN->I=af)->Q Áj i:=λhd=>q r c L1 s1 I k p i n C (λu hu=>(mQ u hu).2) D hd si M2 v yQ B k2;refine(_,rfl,r,_,rfl,.inl (Í C),_,rfl,_,_,rfl,rfl,_,rfl,Y1 (λN=>?_) (λN=>?_))
 ·have yE:Åa<ÀN:=by have:=Ŀ N;lia
  refine(_,rfl,m,am,j5,_,_,rfl,dQ,â,Â8,Tn ..,rfl,_,rfl,?_);cases I with
  | none=>exact UX rfl (_,rfl,done λ_=>rfl)
  | some a =>
  refine Jk Ài ?_;refine Ûa;refine(_,rfl,.inl #[eG,C],_,rfl,m,j5,_,rfl,dQ,ZlQ ..,m,j,l,L1,s1,F,_,_,U a,rfl,M2,v,yQ,λx L3 s3 w3 k3 q3 H3 O M3 W3 wG R=>?_);have S:H3 r=U ÓZ:=R _ _ C (λz=>BZ ((B r).mp z));rcases Zof v O with⟨w0,_⟩|⟨y,z,t,X,eL,rfl,Y⟩
  ·rw[Wb,XO]at v;exact nomatch w0.one v
  have lU:=RK _ #[ei,D.num,nd] X.1 (Ũ X.2.1).1;have yN:t≠r:=λe=>by rw[e,S]at Y;cases Y
  refine(r,_,_,rfl,rfl,S,#[sk,Qa,aO],ZQ (ZP L3),by rw[eL];lia,c++[(t,(y.1,y.2.2,z,),)],L3,s3,w3,k+k3,p+q3,rfl,by rw[Zb,Qe];rfl,λu hu=>?_,?_,λ_=>by rw[Qi,QK];lia,?_,W3,wG,λb=>(O.fp).trans (B b),λb o g nf=>?_,rfl)
  ·rcases ë hu with hu|hu
   ·obtain g2|g3:=mQ u hu;exact(g2,by rw[Zc g2];exact R _ _ g3 (M2.fp_tup g3))
   ·rw[ò hu];exact(yN,by rw[Zc yN];exact Y)
  ·rw[Qe,eL];exact .snoc D X
  ·refine ZR.cast (M3.keep λb o g dU=>?_) Á Á;rw[Zc (λe=>?_)]
   ·exact g
   ·subst e;rcases dU with hf|⟨xs,rfl⟩
    ·exact BZ ((B b).mp (O.fp.mp hf))
    ·rw[fX,S,g,g]
  ·rw[sy,g,n];exact R b o (k2 b o g nf) (λz=>nf ((B b).mp z))
 ·refine Y8 (_,rfl,done λh=>?_);have:¬ (Ûm<ÀN):=λz=>N Ç6;lia
structure MS where
 m:ae
 rd:ae
 sd:ae
 L:À ZA
 s:StL
 nb:Int
 li:Int
 lo:Int
 w:Ã Int
structure OS where
 o:ae
 ra:ae
 ga:ae
 Lo:À Yb
 nb:Int
def ZwR(Y:OS)(b:ae):Prop:=b=Y.o\/b=Y.ra\/b=Y.ga\/∃e∈Y.Lo,b=e.2.1
def MFp(X:MS)(b:ae):Prop:=Fp X.m Ń Φ X.L b
structure MOk (cR cM:ae) (H:Hp) (X:MS):Prop where
 M:ZR cR cM H X.m Ń Φ X.L X.s Đ ň ŉ (Yz X.w)
 W:Win (hdM X.L) Æh X.w
 ok:Z1 (hdM X.L) X.s Æh
structure Pair (cR cM:ae) (H:Hp) (X:MS) (Y:OS):Prop where
 mg:MOk cR cM H X
 ow:Own H Y.o Y.ra Y.ga Y.Lo Y.nb ň ŉ
 ag:Agr Y.Lo X.L
 sep:∀b,MFp X b->¬ ZwR Y b
theorem MOk.same{a b:ae}{H c:Hp}{X:MS}(h:MOk a b H X)(s:ZB H c):MOk a b c X:=(h.M.same s,h.W,h.ok)
theorem MOk.keep{a c:ae}{H d:Hp}{X:MS}(h:MOk a c H X)(k:∀b o,H b=U o->MFp X b\/ÓD->d b=U o):MOk a c d X:=(h.M.keep k,h.W,h.ok)
theorem Zob{P:į}(nd:Ä8)(h:Win (hdP P) (ZY P) af)(ok:∀x∈P,x.2.2<=x.2.1.length):ZQ P=0:=by
 unfold ZQ;have:∀l:À Nat,(∀a∈l,a=0)->l.sum=0:=λl e=>by
  induction l with
  | nil=>rfl
  | Î b r j=>rw[QR,e b Ö,j λa c=>e a (Qm _ c)]
 refine this _ λa c=>?_;rw[em,x,g,c];have d:=h x.1 (Qd (f:=Ä9) g);rw[Nh nd g]at d;cases i:x.2.1[x.2.2]? with
 | none=>rw[Qa1]at i;show x.2.1.length-x.2.2=0;lia
 | some y=>rw[i]at d;cases d
theorem ZrX{a b:ae}{H:Hp}{X:MS}(h:MOk a b H X):(ZY Àv).Nodup:=by rw[<- XO];exact h.M.nd
def Il(K:Å)(c d:ae):Sp:=λvs H Q _=>X11 λ(m rd sd:ae) (L:À ZA) (s:StL) (nb li lo:Int) (h:V) (r:ae) (ss:À ak)=>vs=#[rY,m,r]/\ZR c d H m rd sd L s nb li lo h/\(∀e∈L,e.n<nb)/\Àq<16/\H r=U ÃO/\ī<=200/\(∀x∈ss,Č<=1000/\AZ x)/\Ĝ ss=true /\
 ∀ (e:ZA) (f:ae) (g:StL) (w:Ã Int) (k q:Int) (a:Hp),e.n=nb->Ò=ss->e.g=0->H e.p=af->H e.k=af->H e.f=af->H f=af->Win Ó0 (ZC (L++[e])) w->XV Ó0 g 8 (ZC (L++[e]))->YE Ó0 8 (ZC (L++[e])) k q->ZR c d a m rd f (L++[e]) g (nb+1) (li+k) (lo+q) (Yz w)->#[fe,H,rd,a]->Q (.int nb) a
theorem ZmK(T:Ù)(bG:ÎJ)(eE:ÚW)(bb:ÎK):Mf P w K mg Â 14 am "add_row" ÄU (Il K aw am):=by
 rw[ed,T.t_Merge_add_row.mf,Sf,vs,I];obtain m|g|B|L|s|i|C|lo'|D|r|l|rfl|M|bf|md|dI|qC|Z|jG|q:=h;refine(_,#[Zd,Ûn,#[Zd,#[ZM,#[fp,bG,I,2,1]],#[Zd,#[ZN,Ûo,ÎB,ï],#[Zd,#[YC,#[Ub,eE,I,Ák],#[iQ,2,I]],#[Zd,ÓE,#[Zd,#[ZM,#[gK,bb,I]],ÄY]]]]]],?_);rw[gM,dx,J];refine(_,rfl,m,am,dx,_,_,rfl,J,â,ÎN,Nz ..,_,rfl,_,rfl,i,r,l,rfl,Í dI,by lia,λx F=>(Z x F).1,RP jG,λH1 N=>?_);have M1:=Â7 N;have fo:=N _ _ J;have iR:ÓK:=by unfold kvM;rw[Qa]
 refine(_,rfl,m,am,dx,_,_,rfl,fo,â,Ť,Z6 ..,g,_,rfl,Ëd,_,_,rfl,rfl,_,rfl,Y1 ž ž)
 ·have:(16:Int)<=Ëe:=ÃR;exact Ê this Á
 refine(_,rfl,λu p hu qD ndu=>?_);have O:H u=af:=N.free hu;have S:∀b o,H b=U o->#[eY,H1,p,u,aw] b=U o:=λb o c=>by have:=N _ _ c;rw[jb]
 have wu:#[eY,H1,p,u,aw] u=U (.ins aw p []):=Zb;generalize upd (upd H1 p (.own u)) u (.ins aw p [])=H8 at S wu ⊢;refine(u,p,r,l,rfl,wu,S _ _ dI,qC,λx F=>(Z x F).1,λk f G hk hf BX R k9=>(rfl,?_));have s9:ZB H G:=λb o c=>k9 b o (S b o c) (Zf c O);have Ι:∀b,H8 b=af->H b=af:=λb c=>by
  cases e:H b with
  | none=>rfl
  | some o=>rw[S b o e]at c;cases c
 have yT:=Ι k hk;have Fz:=Ι f hf;have j:=Â7 s9;have se:=s9 _ _ J;have m5:g≠u/\g≠k/\g≠f:=(Zf ņ O,Zf ņ yT,Zf ņ Fz);have hsz:#[tm,kvM,L]:=by unfold kvM;rw[ld]
 have gt:Y4 (kvM L) Åk=af:=by
  cases hv:Y4 (kvM L) (.inl i) with
  | none=>rfl
  | some v=>obtain e|he|z:=Ħ (Vv hv);injection z with z _;have:=bf e he;have:=Ã0 z;lia
 refine(_,rfl,m,am,dx,_,_,rfl,se,â,Ť,Z6 ..,_,rfl,g,_,rfl,XD.k (k:=.inl i) ÁW hsz,?_);rw[US _ gt,show kvM L++[((.inl i:Key),ù u,)]=kvM Ó1 by unfold kvM;rw[Qe];rfl];rw[hD,n1,n2,n3,j.ne_m];have qE:ZR aw am Ûp m g B Ó1 s i C lo' D:=by
  refine((dx,by rw[Zc n1];exact se),Zb,?_,?_,λe he=>?_,?_,?_,by rw[Qi,QK];lia,M.sfew)
  ·rw[Zc (λz=>by have:=j.stays;rw[z,ÁW]at this;cases this)];exact j.stays
  ·intro e he t ht;have c:=j.ats e he t ht;rw[r3,Zc,z,ÁW,c]
  ·rcases ë he with he|he
   ·have W:=j.each e he;rw[ew,de,X,W.at'.ob];refine W.mono λb o c dU=>?_;have nb':b≠g:=λz=>by
     rw[z,ÁW]at c;injection c with c;subst c;rcases dU with z2|z2|z2
     ·rw[<- z2,z,ÁW]at X;cases X
     ·rw[fy,W.at'.ks,z2,ÁW]
     ·rw[fy,W.at'.fs,z2,ÁW]
    rw[Zc nb'];exact c
   ·rw[ò he];refine WN.keep (H:=G) (R,Qs _,qC,jG,Z) (Zc m5.1.symm) (Zc m5.2.1.symm) (Zc m5.2.2.symm)
  ·unfold ZC;rw[Qe];refine Ûq (M.up,QaH ..,λx F y hy=>?_);rw[em,e,he,F];have:y=i:=by simpa using hy
   rw[this];exact bf e he
  ·rw[fc,M.pd,ha,c,e,he];have:b=u:=by simpa using c
   rw[this];obtain de|X:=ÓW;exact Zf X O
 have uB:#[zw,o,g,Ûp]:=λb o c n=>by rw[Zc n];exact s9 b o c
 generalize upd G g (.dK (kvM (L++[⟨i,u,k,f,l,0⟩])))=ju at qE uB ⊢;have tQ:=uB _ _ J n1;rw[gk,tQ,ÎN,Nz,Zhn];have Y:=qE.obj (nb':=i+1) (li':=C) (lo':=lo') (Æc:=D) (dx:=dx);have yw:∀b o,H b=U o->b≠m->b≠g->(upd ju m (.ins am dx (mgF g (i+1) C lo' B D))) b=U o:=λb o c n n'=>by rw[Zc n];exact uB b o c n'
 generalize upd ju m (.ins am dx (mgF g (i+1) C lo' B D))=rA at Y yw ⊢;rw[ew,FA,Az,Y.ob];have yV:∀b,rA b=af->H b=af:=λb c=>by
  cases e:H b with
  | none=>rfl
  | some o =>
   by_cases z:b=m
   ·rw[sT,Az,c]
   ·by_cases z':b=g
    ·rw[e4,z',Y.rows,c]
    ·rw[yw b o e z z']at c;cases c
 refine(_,rfl,m,FA,_,rfl,Az,RQ ..,m,g,B,_,s,_,_,_,_,rfl,Y,λbC s' w0 k0 q0 qp ii Cr Cs Ct Cu yx=>(_,rfl,?_));exact q (i,u,k,f,l,0) bC s' w0 k0 q0 qp rfl rfl rfl O yT Fz (yV bC ii) Cr Cs Ct Cu (λb o c n n'=>yx b o (yw b o c n n') n)
theorem ZrE{b:õ}{P:į}{a:Ãa}{k q:Int}{c:Ź}{ÀN:Nat}(nd:Ä8)(h:XT P a (ZP b) k q)(h1:ÂQ<(ÀN:Int)->c=af)(h2:a≠[]->ÂQ<=(ÀN:Int))(W:Win (hdM b) (ZC b) c)(ok:∀x∈ZP b,x.2.2<=x.2.1.length):ľ=min ÀN (ZQ P):=by
 have hl:=h.left nd;by_cases d:ÂQ<(ÀN:Int)
 ·have e:=h1 d;subst e;rw[Wb,XO]at W;have hz:=Zob #[ei,Ãc,nd] W ok;lia
 ·by_cases f:a=[]
  ·subst f;simp only[ÅM]at d ⊢;lia
  ·have:=h2 f;lia
theorem Ik(rd:ae)(nb li lo:Int)(sd:ae)(a:V):#[28].lookup ("add_row" : ak)=af:=À4
theorem Zok(rd:ae)(nb li lo:Int)(sd:ae)(a:V):#[28].lookup ("take_few" : ak)=af:=À4
theorem Tf(rd:ae)(nb li lo:Int)(sd:ae)(a:V):#[28].lookup ("row_of" : ak)=af:=À4
theorem Zlg(k f:ae)(g:Int):(Ît).lookup ("to_go" : ak)=af:=ÎE
theorem ZgY(k f:ae)(g:Int):(Ît).lookup ("lengthen" : ak)=af:=ÎE
def RJ(a b:ae):Sp:=λvs H Q _=>X10 λ(m rd sd:ae) (L:À ZA) (s:StL) (nb li lo:Int) (c:V) (e:ZA)=>vs=#[sl,m,e.n]/\ZR a b H m rd sd L s nb li lo c/\e∈L/\Q (.ref e.p) H
theorem ZoJ(T:Ù):Mf P w K mg Â 1 am "row_of" ÁP (RJ aw am):=by
 rw[ed,T.t_Merge_row_of.mf,JS,i,b];obtain m|a|j|L|s|l|n|lo|o|e|rfl|M|c|q:=h;refine(_,#[Zd,#[ZN,#[Zk,(T9 b),‹1›,Ģ,ÀZ],ÎB,ï],#[Zh,#[Zm,#[ie,b,1]]]],?_);rw[gM,d,g];refine(_,rfl,_,rfl,m,am,d,_,_,rfl,g,â,Ť,Z6 ..,a,_,rfl,ď (k:=Æe) ņ (Wr Ų c),_,rfl,Y8 ?_);exact(_,rfl,m,am,d,_,_,rfl,g,â,Ť,Z6 ..,_,rfl,a,_,rfl,ď (k:=Æe) ņ (Wr Ų c),q)
def YU(L:õ)(n:Int):À ZA:=L.filter λe=>decide (e.n≠n)
theorem ZqD(L:õ)(n:Int):WH (kvM L) (.inl n)=kvM (YU L n):=by unfold WH kvM YU;rw[Qao];congr 1;refine QaX λe _=>?_;exact ÅW #[rP,ÂA,e.n,ÎA]
theorem ZR.drop{f g:ae}{H:Hp}{m rd sd:ae}{L:õ}{s:StL}{nb li lo:Int}{h:V}(M:#[fE,f,g,h])(n:Int):ZR f g (upd H rd (.dK (kvM (YU L n)))) m rd sd (YU L n) s nb li lo h:=by
 rw[hD,j,n2,k,M.ne_m];rw[gM,l,o];refine((l,by rw[Zc j];exact o),Zb,by rw[Zc k.symm];exact Èj,λe d t p=>?_,λe d=>?_,?_,?_,Qk (QaT ..) Âu,M.sfew)
 ·have:=M.ats e d t p;rw[eR,ņ]
 ·have i:=(Ã1 d).1;obtain _|_|_|a|b|c:=Èl i;rw[gb,À3,i]
 ·exact M.up.sublist Î1
 ·exact M.pd.sublist Î1
def Ij(c d:ae):Sp:=λvs H Q _=>X10 λ(m rd sd:ae) (L:À ZA) (s:StL) (nb li lo:Int) (h:V) (e:ZA)=>vs=#[sl,m,e.n]/\ZR c d H m rd sd L s nb li lo h/\e∈L /\
 ∀ (f:ae) (g:StL) (w:Ã Int) (k q:Int) (a:Hp),H f=af->Win (hdM Åb) (ZC Åb) w->XV (hdM Åb) g 8 (ZC Åb)->YE (hdM Åb) 8 (ZC Åb) k q->ZR c d a m rd f Åb g nb (li+k) (lo+q) (Yz w)->#[fe,H,rd,a]->Q (.int ÓP) a
theorem Zlv(T:Ù)(y:Îu)(B:Ûr)(C:ÎK):Mf P w K mg Â 14 am "drop_row" ÁP (Ij aw am):=by
 rw[ed,T.t_Merge_drop_row.mf,Se,D,d];obtain m|a|g|L|s|l|p|i|r|e|rfl|M|j|q:=h;refine(_,#[Zd,#[Zu,2,Se.nd,à,#[Yi,y,Ņ,d,#[sR,B,d,Ák]]],#[Zd,#[ZM,#[YN,Q6,QaU,Ó2,Pw,Ģ,Ák]],#[Zd,#[ZM,#[gK,C,d]],ÄY]]],?_);rw[gM,t,u];rw[s4,Re,j,F,G,Ó3];refine(_,rfl,m,t,_,rfl,u,Tf ..,_,rfl,m,a,g,L,s,l,p,i,r,e,rfl,M,j,e.p,F,_,rfl,G,Zlg ..,e.p,e.k,e.f,Ò,e.g,rfl,Re.at',_,rfl,m,am,t,_,_,rfl,u,â,Ť,Z6 ..,.inr #[rT,ņ],_,rfl,a,_,.inl e.n,_,rfl,rfl,ņ,Wr Ų j,?_);rw[ZqD];have k:=M.drop e.n;have v:#[zw,o,a,Ûs]:=λb o c n=>by rw[Zc n];exact c
 have Ι:∀b,Ûs b=af->H b=af:=λb c=>by
  by_cases z:b=a
  ·rw[sT,Zb,c]
  ·rw[Zc z]at c;exact c
 generalize upd H a (.dK (kvM (YU L e.n)))=ju at k v Ι ⊢;rw[ew,I,J,k.ob];refine(_,rfl,m,I,_,rfl,J,RQ ..,m,a,g,_,s,_,_,_,_,rfl,k,λx N O R S V W X Y Z Cu yx=>(_,rfl,?_));exact q x N O R S V (Ι x W) X Y Z Cu (λb o c n n'=>yx b o (v b o c n') n)
theorem RI(k f:ae)(g:Int):YV k f g=Ûf:=by unfold YV;rw[Xa,Zx nFK,Xa,Zx nGK,Zx nGF,Xa]
theorem Ziq(k f:ae)(g:Int)(k':ae):Zv "all_keys" (.ref k') Ît=YV k' f g:=by rw[RI,RI,VN]
theorem ZiB(k f:ae)(g:Int)(a:ae):Zv "fars" ĩ Ît=YV k a g:=by rw[RI,RI,Zx nFK,VN]
def Ii(C:ae):Sp:=λvs H Q _=>X7 λ(p k f a:ae) (ss ks:À ak) (g:Nat)=>vs=#[rY,p,a]/\Vf C H p k f ss g/\H a=U ÁX/\(ss++ks).length<=200/\(∀x∈ss++ks,Č<=1000) /\
 ∀ (k' d:ae) (c:Hp),H k'=af->H d=af->Vf C c p k' d (ss++ks) g->#[eK,o,p,c]->Q .non c
theorem Zln(T:Ù)(C:Ós):Mf P w K mg Â 4 aw "lengthen" Â5 (Ii aw):=by
 refine T.t_Row_lengthen.mf ZgX Èt (λaP fa A Ü s H D Q E F h=>?_);obtain p|k|f|a|i|ks|g|rfl|R|G|B|I|q:=h;refine(_,#[Zd,#[X0,‹0›,#[ZK,Wi,Ģ,‹1›]],#[Zh,#[X0,‹0›,#[Zz,C,F,#[Ze,Ģ],È]]]],?_);obtain ⟨d,r⟩|J|hf:=R;refine(_,rfl,p,aw,d,_,_,rfl,r,Ņ,Ä2,Vg _ _ _,_,rfl,k,a,_,_,rfl,rfl,J,G,(by rw[Qa,Qa];rw[Qi]at B;exact ē Á),λc t=>?_);rw[<- Qe];have v:p≠c:=Zf r t;refine(_,rfl,p,aw,d,_,rfl,#[hS,v,r],Ņ,Ä2,Ni ..,?_);rw[Ziq];have l:Ó4 p=U (.ins aw d (YV c f g)):=Zb;have x:Ó4 c=U #[gD,i,ks]:=by rw[Zc v.symm];exact Zb
 have y:#[fg,o,H,p,Ó4]:=λb o h n=>by rw[Zc n,Zc (Zf h t)];exact h
 generalize upd (upd H c (.lst ((i++ks).map Ä))) p (.ins aw d (YV c f g))=H2 at l x y ⊢;refine(_,rfl,p,aw,d,_,_,rfl,l,Ņ,Ä2,Vg _ _ _,c,i++ks,rfl,Í x,B,I,λj H3 m L z=>?_);have M:H j=af:=by
  cases N:H j with
  | none=>rfl
  | some u =>
   by_cases e:j=p
   ·rw[e4,e,l,m]
   ·rw[y j u N e]at m;cases m
 have O:p≠j:=Zf l m;refine(_,rfl,p,aw,d,_,rfl,z _ _ l,Ņ,Óu,Ni ..,?_);rw[ZiB];refine q c j _ t M ((d,Zb),?_,?_) λb o h n=>?_
 ·rw[Zc v.symm];exact z _ _ x
 ·rw[Zc O.symm];exact L
 ·rw[Zc n];exact z _ _ (y b o h n)
def Xw(n:Int)(ks:Ñ)(k f:ae)(x:ZA):ZA:=if x.n=n then (x.n,x.p,k,f,x.ss++ks,x.g) else x
def YD(L:õ)(n:Int)(ks:Ñ)(k f:ae):À ZA:=ĸ (Xw n ks k f)
theorem Nf(n:Int)(ks:Ñ)(k f:ae)(x:ZA):#[k0].n=x.n/\#[k0].p=x.p/\#[k0].g=x.g:=by unfold Xw;split<;>exact ÑG
theorem Te(L:õ)(n:Int)(ks:Ñ)(k f:ae):ZC Ó5=ZC L:=by unfold ZC YD;rw[Qo];exact QJ λe _=>(Nf n ks k f e).1
theorem Zqo(L:õ)(n:Int)(ks:Ñ)(k f:ae):kvM Ó5=kvM L:=by unfold kvM YD;rw[Qo];refine QJ λe _=>?_;obtain a|b|_:=Nf n ks k f e;simp only[ÎW,a,b]
theorem Ih:∀ (A B:À Yb),A.map Ût=B.map Ût->hdL A=hdL B
 | [],[],_=>rfl
 | [],_::_,h=>by cases h
 | _::_,[],h=>by cases h
 | a::A,b::B,h=>by
  rw[Qj,Qj]at h;injection h with h1 h2;injection h1 with d f;have ih:=Ih A B h2;funext n;rw[mW];split
  ·simp only[Ú7];rw[f]
  ·exact c
theorem ZrJ{L:õ}{n:Int}{ks:Ñ}(h:∀x∈L,x.n=n->x.g<x.ss.length\/ks=[])(k f:ae):hdM Ó5=hdM L:=by
 refine Ih _ _ ?_;unfold YD;rw[Qo,Qo,Qo];refine QJ λx a=>?_;show (#[k0].n,#[k0].ss[#[k0].g]?,)=(x.n,x.ss[x.g]?,);unfold Xw;split
 ·rename_i e;rcases h x a e with z|z
  ·exact ō (Prod.mk x.n) (QT z)
  ·rw[z,Qab]
 ·rfl
theorem Nd:∀ {P:À ZA},(À1 (·.n)).Nodup->∀ {p q:ZA},p∈P->q∈P->p.n=q.n->p=q
 | [],_,_,_,h,_,_=>by cases h
 | x::r,nd,p,q,hp,hq,e=>by
  rw[yi];rcases Ĳ hp with h1|h1
  ·rcases Ĳ hq with h2|h2
   ·rw[h1,h2]
   ·exact Ê (show x.n∈Âm (·.n) by rw[<- h1,e];exact Qd (f:=λx:ZA=>x.n) h2) nd.1
  ·rcases Ĳ hq with h2|h2
   ·exact Ê (show x.n∈Âm (·.n) by rw[<- h2,<- e];exact Qd (f:=λx:ZA=>x.n) h1) nd.1
   ·exact Nd nd.2 h1 h2 e
theorem ZR.grow{f n:ae}{H g:Hp}{m rd sd:ae}{L:õ}{s:StL}{nb li lo:Int}{p:V}(M:#[fE,f,n,p]){e:ZA}(he:e∈L){ks:Ñ}{k' c:ae}(R:Vf f g e.p k' c Èu e.g)(hl:(Èu).length<=200)(hs:#[tr,Èu])(hz:∀x∈Ò++ks,Č<=1000/\AZ x)
  (k:#[fg,o,H,e.p,g]):ZR f n g m rd sd (YD L e.n ks k' c) s nb li lo p:=by
 rw[gM,q,r];obtain de|i:=ÓW;refine((q,k _ _ r (M.ne_p he).1),by rw[Zqo];exact k _ _ ņ (Èl he).2.2.2.1,k _ _ Èj (Èl he).1,λx j t u=>?_,λx j=>?_,by rw[Te];exact M.up,?_,by unfold YD;rw[Qa];exact Âu,M.sfew)
 ·have h:=M.ats x j t u;exact k _ _ h (λz=>by rw[z,i]at h;cases h)
 ·rw[em,y,d,j];by_cases l:y.n=e.n
  ·have v:y=e:=by have nd:=Ų;unfold ZC at nd;exact Nd nd d he l
   subst v;rw[show Xw y.n ks k' c y=(y.n,y.p,k',c,y.ss++ks,y.g) by unfold Xw;rw[Æ rfl]];exact(R,by show y.g<=(y.ss++ks).length;rw[Qi];have:=(À3 y d).le;lia,hl,hs,hz)
  ·rw[show Xw e.n ks k' c y=y by unfold Xw;rw[Ç l]];have a:=À3 y d;have np:y.p≠e.p:=λz=>l (by have:=Iv M.pd d he z;rw[this]);rw[ew,w,A,a.at'.ob];have B:y.k≠e.p:=λz=>by have:=a.at'.ks;rw[gY,i]
   have C:y.f≠e.p:=λz=>by have:=a.at'.fs;rw[gY,i]
   exact(((w,k _ _ A np),k _ _ a.at'.ks B,k _ _ a.at'.fs C),a.le,a.len,a.srt,a.str)
 ·have:(YD L e.n ks k' c).map (·.p)=ĸ (·.p):=by unfold YD;rw[Qo];exact QJ λx _=>(Nf _ _ _ _ x).2.1
  rw[this];exact M.pd
def Ig(f g:ae):Sp:=λvs H Q _=>X12 λ(m rd sd:ae) (L:À ZA) (s:StL) (nb li lo:Int) (w:Ã Int) (e:ZA) (r:ae) (ks:À ak)=>vs=[.ref m,.int e.n,.ref r]/\ZR f g H m rd sd L s nb li lo (Yz w)/\Win ą Į w/\Z1 ą s Į/\e∈L/\H r=U ÁX/\r≠e.p/\(Èu).length<=200/\Ĝ Èu=true/\(∀x∈Ò++ks,Č<=1000/\AZ x) /\
 ∀ (k' a c:ae) (h:StL) (i:Ã Int) (k q:Int) (d:Hp),H k'=af->H a=af->((Ó6/\c=sd/\k=0/\q=0)\/(e.g=ĭ/\ks≠[]/\H c=af/\YE (hdM Î2) 8 Į k q))->Win (hdM Î2) Į i->Z1 (hdM Î2) h Į->ZR f g d m rd c Î2 h nb (li+k) (lo+q) (Yz i)->#[fe,H,e.p,d]->Q .non d
theorem ZrR(T:Ù)(cB:Ûr)(bG:ÎJ)(be:Èh)(fJ:Mf P w K mg Â 4 aw "lengthen" Â5 (Ii aw))(bb:ÎK):Mf P w K mg Â 14 am "grow" ÇP (Ig aw am):=by
 refine T.t_Merge_grow.mf TV Èt (λaP fa A Ü s H vs Q E f h=>?_);obtain m|C|p|L|s|X|Y|D|w0|e|r|ks|rfl|M|W|ok|g|F|G|t|Z|I|q:=h;refine(_,#[Zd,#[Zu,3,TV.nd,à,#[sR,cB,f,Ák]],#[Zd,#[ZM,#[Zz,bG,f,Ûu,È]],#[Zd,#[Zu,4,TV.nd,à,#[XQ,Xe,#[tn,be,f,3],ş,þ]],#[Zd,#[ZM,#[XA,fJ,Ņ,f,‹3›,Ä5]],#[Zh,#[ZN,(@Ř _ _ _ #[Xt,#[Xi,‹4›],#[Xh,#[il,Wk,Î0]]]),#[Zh,#[ZM,#[gK,bb,f]]],ï]]]]]],?_);rw[u4];rw[s4,Re,g,de,gv,Ó3];have kF:ĭ+Ο<=200:=by rw[Qi]at t;exact t
 refine(_,rfl,m,dx,_,rfl,hm,Tf ..,_,rfl,m,C,p,L,s,X,Y,D,_,e,rfl,M,g,_,rfl,_,rfl,e.p,aw,de,_,_,rfl,gv,Ņ,Ä2,Vg _ _ _,_,rfl,e.k,r,_,_,rfl,rfl,Re.at'.ks,F,Ûv,λc hc=>?_);rw[<- Qe];refine(e.n,c,Ò++ks,rfl,Í Zb,by lia,λx i=>(I x i).1,RP Z,λH1 J=>?_);have a:ZB H H1:=(Zi hc _).trans J;have M1:=Â7 a;have N:=ÎI e g;rw[ew,FD,AA,N.at'.ob];refine(_,rfl,e.p,FD,_,rfl,AA,Vb ..,e.p,e.k,e.f,Ò,e.g,rfl,N.at',rfl,_,rfl,e.p,FD,_,rfl,AA,ZgY ..,_,rfl,e.p,e.k,e.f,r,Ò,ks,e.g,rfl,N.at',a _ _ F,t,λx i=>(I x i).1,λk' j O iu FE R2 k2=>?_);have M2:=M1.grow g R2 t Z I k2;have v:#[fg,o,H,e.p,O]:=λb o k n=>k2 b o (a b o k) n;have e6:=v _ _ F G;have wH:Ó6->Q .non O:=λdU=>by have eh:hdM (YD L e.n ks k' j)=hdM L:=ZrJ (λx i hn=>by rw[Nd Ų i g hn];exact dU) k' j;refine q k' j p s w0 0 0 O (a.free iu) (a.free FE) (.inl (dU,rfl,rfl,rfl)) #[ei,eh,W] #[ei,eh,ok] (by rw[QaP,QaP];exact M2) (λb o k n R=>v b o k R)
 refine(_,rfl,_,rfl,?_);by_cases hg:e.g<ĭ
 ·have S:WO Ò e.g=.str Ò[e.g]:=Tl (Qb hg);rw[S];exact YO ÁL (wH (.inl hg))
 ·have S:WO Ò e.g=.non:=by unfold WO;rw[QW Á]
  rw[S];refine Y0 rfl ?_;refine(_,rfl,r,_,rfl,.inl (Í e6),_,_,rfl,rfl,_,rfl,Y1 ž ž)
  ·have l:(0:Int)<((Û5).length:Int):=ÃR;rw[Qa]at l;have dh:ks≠[]:=λz=>by rw[z]at l;exact Ê l É
   rw[nP];refine(_,rfl,m,j5,_,rfl,dQ,RQ ..,m,C,p,_,s,_,_,_,_,rfl,M2,λy s' w1 k1 q1 H3 B W3 S3 P3 M3 k3=>?_);rw[Te]at W3 S3 P3;have wG:=Uy 8 (hdM (YD L e.n ks k' j)) s' Į M.up (Qk (show (ZC L).length<=60 by unfold ZC;rw[Qa];exact Âu) É) É S3;have le:=Re.le;have FG:H y=af:=by
    cases w':H y with
    | none=>rfl
    | some u =>
     by_cases z:y=e.p
     ·rw[ew,d2,gb,R2.ob];rw[sT,gb,B]
     ·rw[v _ _ w' z]at B;cases B
   exact q k' j y s' w1 k1 q1 H3 (a.free iu) (a.free FE) (.inr (by lia,dh,FG,P3)) W3 wG M3 (λb o k n R=>k3 b o (v b o k R) n)
  ·have l:¬ (0:Int)<((Û5).length:Int):=Îs;rw[Qa]at l;exact wH (.inr (Ëm Á))
theorem RH(ss:Ñ)(m:Nat)(h:m<=ī):Yg Ào af Å9=(ss.take m).map Ä/\Yg Ào Å9 af=(Î3 m).map Ä:=by
 have e:∀d:Nat,Ε (Ào).length d Å9=m:=λd=>by unfold Ε;rw[j1];lia
 have a:∀d:Nat,Ε (Ào).length d af=d:=λd=>rfl;constructor
 ·unfold Yg;rw[oj]
 ·unfold Yg;rw[e,a,<- Ón,<- Ó7,Qv #[sk,QZ,Qa]]
theorem Nc{a:Int}(h0:0<=a)(h:a<1000000):Ó8<1920:=by
 by_cases z:Î4=0
 ·rw[z];decide
 ·have b:Î4<2 ^ 20:=by lia
  exact QB (#[xv].mpr b) É
theorem Td{a:Int}(h:Ó8<1920):(Èv (toString a)).length<=1921:=by have e:=int_text_length_le (k:=1920) É h;rw[Ûw];lia
def xfs(r p:Int):À Á8:=[("row",.int r,),("place",.int p,)]
def Ie(C:ae):Sp:=λvs H Q _=>X3 λ(e:ae) (r p:Int)=>vs=[.ref e,.int r,.int p]/\H e=U ÇH/\0<=r/\r<1000000/\0<=p/\p<1000000 /\
 ∀a,H a=af->a≠e->Q .non (upd #[iP,H,a] a (xdO a (xfs r p)))
theorem ZqQ(T:Ù):Xf P w K mg Â 1 ao ap "OutOfOrder" ÇO (Ie ao):=by
 refine T.t_OutOfOrder_init.xf Zft Èt (λaP f A Ü s H B Q E hr d h=>?_);obtain e|r|p|rfl|g|C|D|F|G|q:=h;refine(_,#[Zd,#[ZM,(@Kl _ _ _ _ _ _ _ _ _ _ _ _ d Ûx rfl T.m_MergeError #[Ze,‹0›,#[VY,#[Yd,Ý,#[Yd,#[hC,T3,1],#[Yd,Ý,#[hQ,T3,2]]]]]] É È È È)],#[Zd,#[r5,Kp,T.na_OutOfOrder_row,1],#[Zh,#[r5,Zwj,T.na_OutOfOrder_place,2]]]],?_);have i:=Nc C D;have j:=Nc F G;have I:=Td i;have J:=Td j;have z:Î5:=λa b c=>by rw[Î6];lia
 have y:Î7:=λh=>by rw[(aO)];lia
 rw[g5,k,"row ",4,l,I];rw[ip,o,l,": the key at place ",19];have t:=z o J É;rw[ip,u,t," is less than the one ahead",27];refine(_,rfl,_,rfl,y (Qk k É),_,rfl,_,rfl,i,_,rfl,y (Qk l É),_,rfl,y (Qk o É),_,rfl,_,rfl,j,_,rfl,y (Qk t É),_,rfl,y (Qk u É),y (Qk u É),e,_,af,rfl,g,_,rfl,_,rfl,e,rfl,g,λv L ne=>?_);refine(_,rfl,_,rfl,e,v,_,rfl,by rw[Zc ne.symm];exact Zb,Zb,ne,by show 1<1000;decide,?_);rw[Zr0];exact q v L ne
def Ic(b:ae)(H:Hp)(n j:Int)(E:XK):Prop:=∀ (dx:ae) (a:Hp),ZB H a->H dx=af->a dx=U (xdO dx (xfs n j))->E Â1 (U dx) a
def Nb(K:Å)(c:ae):Sp:=λvs H Q E=>X3 λ(n:Int) (a:ae) (ss:À ak)=>vs=[.int n,.ref a]/\SqL K H a Ào/\ī<=400/\Ê1 /\
 ((WP ss .non/\∀b,ZB H b->Q .non b)\/∃j:Int,WP ss (.int j)/\0<=n/\n<1000000/\Ic c H n j E)
theorem ZmC(T:Ù)(B:ÓC)(C:Xf P w K mg Â 1 ao ap "OutOfOrder" ÇO (Ie ao)) :
  D1f P w K mg Â 5 "refuse_break" ÊK (Nb K ao):=by
 rw[ed,T.t_refuse_break.df1,Sc,D,m];obtain n|a|p|rfl|F|G|I|J:=h;refine(_,#[Zd,#[Zu,2,Sc.nd,à,#[g2,B,m]],#[Zh,#[ZN,#[eq,S4,2,ş],#[Zh,(@Zwc _ _ _ _ _ _ _ _ _ _ _ _ _ _ _ C ÃV m #[e5,0,2] É ÊV È É È È)],ï]]],?_);refine(_,rfl,a,p,rfl,F,G,I,λv r c d=>?_);rcases J with⟨L,q⟩|⟨j,t,M,N,q⟩
 ·have e:=N3 c L;subst e;exact(_,rfl,rfl,_,rfl,Y8 (q r d))
 have e:=N3 c t;subst e;have u:0<=j/\j<1000000:=by
  rcases t with⟨z,_⟩|⟨k,z,hk,_⟩
  ·cases z
  ·cases z;lia
 refine(_,rfl,rfl,_,rfl,YM ?_);refine(_,rfl,_,rfl,λe O=>(e,n,j,rfl,Zb,M,N,u.1,u.2,λg x ne=>(rfl,U g,by rw[Zc ne.symm];exact Zb,?_)));have y:r g=af:=by rw[Zc ne]at x;exact x
 refine q g _ #[hU,b,o,c] (d.free y) (Vt Zb ne);have i:=d b o c;have l:b≠e:=Zf i O;exact Vt (by rw[Zc (Zf i y),Zc l,Zc l];exact i) l
theorem Ib{a:Int}(h:Î4<2 ^ 21):Ó8<1920:=by
 by_cases z:Î4=0
 ·rw[z];decide
 ·exact QB (#[xv].mpr h) É
theorem Zry{L:õ}{n:Int}(a:n ∉ ZC L):Y4 (kvM L) (.inl n)=af:=by
 cases b:Y4 (kvM L) (.inl n) with
 | none=>rfl
 | some v=>obtain e|c|z:=Ħ (Vv b);injection z with z _;injection z with z;exact Ê (show n∈ZC L by rw[<- z];exact Qd (f:=λe:ZA=>e.n) c) a
def RG(ks:Ñ):Prop:=Ο<=200/\∀x∈ks,Č<=1000/\AZ x
def ZwE(n:Int):À Á8:=[("line",.int n,)]
def Zsp(C:ae):Sp:=λvs H Q _=>X2 λ(e:ae) (r:Int)=>vs=#[sl,e,r]/\H e=U ÇH/\0<=r/\r<1000000 /\
 ∀a,H a=af->a≠e->Q .non (upd #[iP,H,a] a (xdO a (ZwE r)))
theorem ZpJ(T:Ù):Xf P w K mg Â 1 au ap "BadLine" ÊJ (Zsp au):=by
 refine T.t_BadLine_init.xf ZgV Èt (λaP f A Ü s H o Q E hr d h=>?_);rw[tf,e,r,g,p,t];refine(_,#[Zd,#[ZM,(@Kl _ _ _ _ _ _ _ _ _ _ _ _ d Ûx rfl T.m_MergeError #[Ze,‹0›,#[VY,#[Yd,Ý,#[hQ,T3,1]]]] É È È È)],#[Zh,#[r5,Kp,T.na_BadLine_line,1]]],?_);have i:=Nc p t;have u:=Td i;have z:Î5:=λa b c=>by rw[Î6];lia
 have y:Î7:=λh=>by rw[(aO)];lia
 rw[g5,j,"line ",5,k,u];rw[ip,l,k," of the sheet is not so written",31];refine(_,rfl,_,rfl,y (Qk j É),_,rfl,_,rfl,i,_,rfl,y (Qk k É),_,rfl,y (Qk l É),y (Qk l É),e,_,af,rfl,g,?_);exact(_,rfl,_,rfl,e,rfl,g,λv B ne=>q v B ne)
def Ia(a b c:ae):Sp:=λvs H _ E=>X10 λ(m rd sd:ae) (L:À ZA) (s:StL) (nb li lo:Int) (d:V) (n:Int)=>vs=#[sl,m,n]/\ZR a b H m rd sd L s nb li lo d/\n ∉ ZC L/\n.natAbs<2 ^ 21/\E (.ref c) af H
def Na(a b c:ae):Sp:=λvs H Q E=>Ia a b c vs H Q E\/RJ a b vs H Q E
theorem ZmH(T:Ù):M1f P w K mg Â 1 am "row_of" ÁP (Na aw am aB):=by
 refine T.t_Merge_row_of.mf1 JS #[iF,C] #[ee,C,j]
 ·rcases h with⟨m,d,l,L,s,o,p,lo,r,n,rfl,_⟩|⟨m,d,l,L,s,o,p,lo,r,n,rfl,_⟩<;>rfl
 refine(_,#[Zd,#[ZN,#[Zk,(T9 j),‹1›,Ģ,ÀZ],#[Zh,(@Ki _ _ _ _ _ _ _ _ _ _ _ _ T.xw_NoRow ÃV j #[Ze,#[VY,#[Yd,Ý,#[Yd,#[hC,T3,1],(@UQ _)]]]] È É È È)],ï],#[Zh,#[Zm,#[ie,j,1]]]],?_);rcases h with h|⟨m,d,l,L,s,o,p,lo,r,e,rfl,M,t,q⟩
 rotate_left
 ·rw[gM,g,i];refine(_,rfl,_,rfl,m,am,g,_,_,rfl,i,â,Ť,Z6 ..,d,_,rfl,ď (k:=Æe) ņ (Wr Ų t),_,rfl,Y8 ?_);exact(_,rfl,m,am,g,_,_,rfl,i,â,Ť,Z6 ..,_,rfl,d,_,rfl,ď (k:=Æe) ņ (Wr Ų t),q)
 obtain m|d|l|L|s|o|p|lo|r|n|rfl|M|D|F|q:=h;rw[gM,g,i];refine(_,rfl,_,rfl,m,am,g,_,_,rfl,i,â,Ť,Z6 ..,d,_,rfl,ď (k:=.inl n) ņ (Zry D),_,rfl,YM ?_);have u:=Ib F;have G:=Td u;have z:Î5:=λa b c=>by rw[Î6];lia
 have y:Î7:=λh=>by rw[(aO)];lia
 rw[g5,v,"there is no row ",16,B,G];exact(_,rfl,y (Qk v É),_,rfl,_,rfl,u,_,rfl,y (Qk B É),y (Qk B É),_,rfl,q)
theorem ZjU(T:Ù)(i:Îu)(j:Ûy):M1f P w K mg Â 14 am "drop_row" ÁP (Ia aw am aB):=by
 rw[ed,T.t_Merge_drop_row.mf1,Se,k,a];obtain m|b|c|L|s|d|e|lo|g|n|rfl|M|l|o|q:=h;refine(_,#[Zd,#[Zu,2,Se.nd,à,#[Yi,i,Ņ,a,#[UN,j,â,ÃV,a,‹0›,Ák]]],Ó9],?_);rw[gM,p,r];exact(_,rfl,m,p,_,rfl,r,Tf ..,_,rfl,.inl (m,b,c,L,s,d,e,lo,g,n,rfl,M,l,o,q))
def Rf(L:į)(nb:Int)(H:Hp)(ask:ak)(g m:V):Ã (Ã (Int×Int))->Prop
 | none=>((ask = "drop"/\m=.non)\/(ask = "grow"/\∃k,m=.ref k))/\∃n,g=.int n/\n ∉ ZY L/\n.natAbs<2 ^ 21
 | some af=>ask = "add"/\m=.non/\X2 λk ks=>g=.ref k/\H k=U ÁX/\RG ks/\Ĝ ks=true/\16<=Àq
 | some (U a)=>(ask = "add"/\m=.non/\a.1=nb/\X2 λk ks=>g=.ref k/\H k=U ÁX/\RG ks/\WP ks (.int a.2)) \/
  (ask = "grow"/\∃e∈L,a.1=e.1/\g=.int e.1/\X2 λk ks=>m=.ref k/\H k=U ÁX/\RG ks/\WP (e.2.1++ks) (.int a.2))
def RfE(c d e:ae)(H:Hp)(E:XK):Ã (Ã (Int×Int))->Prop
 | none=>∀a,ZB H a->E (.ref c) af a
 | some af=>∀a,ZB H a->E Àw af a
 | some (U b)=>Ic e H b.1 b.2 E
def HZ(a b c d e:ae):Sp:=λvs H _ E=>X11 λ(m rd sd:ae) (L:À ZA) (s:StL) (nb li lo:Int) (f g:V) (o:Ã (Ã (Int×Int)))=>vs=[.ref m,g]/\ZR a b H m rd sd L s nb li lo f/\0<=nb/\nb<1000000/\Rf (ZP L) nb H "add" g .non o/\RfE c d e H E o
theorem M0(o:ak)(h:o = "drop"\/o = "grow"):("add" : ak)≠o:=by rcases h with rfl|rfl<;>ac_rfl
theorem Zr2(T:Ù)(O:Ûz):M1f P w K mg Â 14 am "add_row" ÄU (HZ aw am aB aJ ao):=by
 rw[ed,T.t_Merge_add_row.mf1,Sf,R,C];obtain m|i|S|L|s|D|V|lo|W|g|o|rfl|M|l|nb1|p|q:=h;refine(_,#[Zd,Ûn,#[Zd,#[ZM,#[Sz,O,ÃV,C,#[e5,2,1]]],#[Zd,#[ZN,Ûo,#[Zh,(@Ki _ _ _ _ _ _ _ _ _ _ _ _ T.xw_Full ÃV C #[Ze,#[VY,#[Yd,(@T3 _ _ _ _ ÓJ),#[Yd,Ý,(@UQ _)]]]] È É È È)],ï],#[Zd,Ën,Ó9]]]],?_);rw[gM,r,F];refine(_,rfl,m,am,r,_,_,rfl,F,â,ÎN,Nz ..,?_);cases o with
 | none =>
  rcases p.1 with⟨h,_⟩|⟨h,_⟩
  ·exact Ê h (M0 _ Ğ)
  ·exact Ê h (M0 _ Ãz)
 | some o =>
 cases o with
 | some X =>
  rw[ew,n,j,X];rcases p with⟨_,_,rfl,k,ks,rfl,t,e,Y⟩|⟨h,_⟩
  ·exact(_,rfl,_,rfl,n,k,ks,rfl,Í t,by have:=e.1;lia,λx u=>(e.2 x u).1,.inr (j,Y,l,nb1,q))
  ·exact Ê h (M0 _ Ãz)
 | none =>
  obtain _|_|k|ks|rfl|t|e|Z|v:=p;refine(_,rfl,_,rfl,D,k,ks,rfl,Í t,by have:=e.1;lia,λx u=>(e.2 x u).1,.inl (RP Z,λH1 B=>?_));have G:=B _ _ F;have M1:=Â7 B;have iR:ÓK:=by unfold kvM;rw[Qa]
  have iY:=Âu;have h16':16<=Àq:=by unfold ZP at v;rw[Qa]at v;exact v
  refine(_,rfl,m,am,r,_,_,rfl,G,â,Ť,Z6 ..,i,_,rfl,Ëd,_,_,rfl,rfl,_,rfl,Y1 Â6 (λd=>Ê (ě (show (16:Int)<=Ëe by lia)) d));have I:(Ëe).natAbs.log2<1920:=Ib Á;have tr:=Td I;have z:Î5:=λa b c=>by rw[Î6];lia
  have y:Î7:=λh=>by rw[(aO)];lia
  have J:(Áz++Èv (toString Ëe)).length<=0+1921:=z É tr É;rw[ip,N,J," rows are there",15];exact(_,rfl,m,am,r,_,_,rfl,G,â,Ť,Z6 ..,i,_,rfl,Ëd,_,rfl,I,_,rfl,y (Qk J É),_,rfl,y (Qk N É),y (Qk N É),_,rfl,q H1 B)
def HY(a b c d f:ae):Sp:=λvs H _ E=>X12 λ(m rd sd:ae) (L:À ZA) (s:StL) (nb li lo:Int) (h g k:V) (o:Ã (Ã (Int×Int)))=>vs=[.ref m,g,k]/\ZR a b H m rd sd L s nb li lo h/\(∀e∈L,0<=e.n/\e.n<1000000)/\Rf (ZP L) nb H "grow" g k o/\RfE c d f H E o
theorem Zpn(T:Ù)(J:Ûz)(N:Ûy):M1f P w K mg Â 14 am "grow" ÇP (HY aw am aB aJ ao):=by
 rw[ed,T.t_Merge_grow.mf1,TV,O,z];obtain m|i|l|L|s|p|r|lo|t|g|k|o|rfl|M|B|u|q:=h;refine(_,#[Zd,#[Zu,3,TV.nd,à,#[UN,N,â,ÃV,z,‹0›,Ák]],#[Zd,#[ZM,#[Sz,J,ÃV,z,Ûu]],Ó9]],?_);rw[gM,C,D];have F:("grow" : ak) ≠ "add":=by ac_rfl
 cases o with
 | none=>obtain _|n|rfl|G|R:=u;rw[<- XO]at G;exact(_,rfl,m,C,_,rfl,D,Tf ..,_,rfl,.inl (m,i,l,L,s,p,r,lo,t,n,rfl,M,G,R,q H ÁV))
 | some o =>
 cases o with
 | none=>exact Ê u.1 F
 | some S =>
  rw[ew,n,j,S];rcases u with⟨h,_⟩|⟨_,x,hx,rfl,rfl,V,ks,rfl,W,v,y⟩
  ·exact Ê h F
  rw[em,e,a,hx];rw[s4,Re,a,X,Y,Ó3];refine(_,rfl,m,C,_,rfl,D,Tf ..,_,rfl,.inr (m,i,l,L,s,p,r,lo,t,e,rfl,M,a,?_));refine(_,rfl,_,rfl,e.p,aw,X,_,_,rfl,Y,Ņ,Ä2,Vg _ _ _,_,rfl,e.k,V,_,_,rfl,rfl,Re.at'.ks,W,(by rw[Qa,Qa];have:=v.1;have:=Re.len;exact ē Á),λc I=>?_);rw[<- Qe];refine(e.n,c,Ò++ks,rfl,Í Zb,(by rw[Qi];have:=v.1;have:=Re.len;lia),(λx hx=>?_),.inr (j,y,(B e a).1,(B e a).2,λd Z s' hd h'=>q d Z (λb o y=>s' b o (Zi I _ b o y)) ((Zi I _).free hd) h'));rcases ë hx with hx|hx
  ·exact(Re.str x hx).1
  ·exact(v.2 x hx).1
theorem MZ:∀a b:À Nat,Ä0 a b=true↔a<b
 | [],[]=>by simp[Ä0]
 | [],y::s=>by simp[Ä0]
 | x::r,[]=>by simp[Ä0]
 | x::r,y::s=>by have ih:=MZ r s;rw[ÚE];simp[Ä0,ih]
def LeS(a b:ak):Prop:=¬ b.cps.toList<ÒP
theorem LeS.trans{a b c:ak}(h:LeS a b)(k:LeS b c):LeS a c:=List.not_lt.mpr (List.le_trans (List.not_lt.mp h) (List.not_lt.mp k))
theorem HX:∀ (r:À ak) (x:ak),Ç5 x r=true↔(x::r).Pairwise LeS
 | [],x=>by simp[Ç5]
 | y::r,x=>by
  have ih:=HX r y;rw[ÛA];unfold Ç5;rw[Q3,Bool.not_eq_true'];constructor
  ·rintro⟨a,c⟩;have p:=ih.mp c;have d:LeS x y:=λz=>by rw[(MZ _ _).mpr z]at a;cases a
   refine(λb hb=>?_,p);rcases Ĳ hb with rfl|hb
   ·exact d
   ·exact ÆJ ((Ôa p).1 b hb)
  ·rintro⟨a,c⟩;exact(Óc λz=>a y Ö ((MZ _ _).mp z),ih.mpr c)
theorem HW(ss:Ñ):Ĝ ss=true↔Ôb LeS:=by
 cases ss with
 | nil=>simp[Ĝ]
 | Î x r=>exact HX r x
theorem ZrV{c:Ï}(b2:Ï){e:Î8}{T:È6}{H:Hp}(h1:c=true->∀b:Ï->Hp->Prop,(∀a,ZB H a->b b2 a)->e b)(q:∀a,ZB H a->T (c&&b2) a):if c=true then e T else T false H:=by
 cases c with
 | true=>rw[Æ rfl];exact h1 rfl T q
 | false=>rw[Ç Qu];exact q H ÁV
theorem ZuO{L:õ}(h:∀e∈L,e.g<=ĭ):(Ws Ä3).sum=((ZQ (ZP L):Nat):Int):=by
 induction L with
 | nil=>rfl
 | Î e r a=>have i:=#[gt,a,x,b];have g:=h e Ö;unfold Ws ZQ ZP at i ⊢;rw[Qj,Qj,Qj,Qj,QR,QR,i,Int.natCast_add];congr 1;show (ĭ:Int)-(e.g:Int)=((ĭ-e.g:Nat):Int);lia
def Tc(P:į)(x:ZI)(z:ak):Prop:=x∈P/\x.2.1[x.2.2]? = U z/\Win (hdP P) (ZY P) (U x.1)
inductive TkW (P:į):À Yh->À ZI->Prop
 | nil:TkW P [] P
 | Ň {ts:À Yh} {P1:À ZI} {x:ZI} {z:ak}:TkW P ts P1->Tc P1 x z->TkW P (ts++[(x.1,x.2.2,z,)]) (W9 P1 x.1)
theorem XT.tk{P a:į}{b:Ãa}{k q:Int}(h:XT P b a k q):TkW P b a:=by
 induction h with
 | nil=>exact .nil
 | Ň h s c=>exact .snoc c (s.1,s.2.1,s.2.2.1)
theorem Tc.one{P:į}(nd:Ä8){x y:ZI}{z u:ak}(h:Tc P x z)(g:Tc P y u):x=y/\z=u:=by obtain a|b|c:=h;obtain d|e|f:=g;have i:=Qw (c.one f);have j:=XU nd a d i;subst j;exact(rfl,Qw (b.symm.trans e))
theorem TkW.num{P a:į}{b:Ãa}(h:TkW P b a):ZY a=ZY P:=by
 induction h with
 | nil=>rfl
 | Ň _ _ c=>rw[Io,c]
theorem TkW.one{P:į}(nd:Ä8){c:Ãa}{d:į}(h:TkW P c d):∀ {us:À Yh} {b:À ZI},TkW P us b->Ĥ=ÀR->c=us/\d=b:=by
 induction h with
 | nil =>
  intro us b g a;cases g with
  | nil=>exact Ŕ
  | Ň _ _=>rw[Qi,QK]at a;exact Ê a Ö
 | Ň h s e =>
  intro us b g a;cases g with
  | nil=>rw[Qi,QK]at a;exact Ê a Ö
  | Ň f i=>rw[Qi,Qi,QK,QK]at a;obtain j|k:=e f Á;subst j;subst k;obtain l|m:=s.one #[ei,Ãc,nd] i;subst l;subst m;exact Ŕ
theorem TkW.left{P a:į}{b:Ãa}(h:TkW P b a)(nd:Ä8):ZQ a+ħ=ZQ P:=by
 induction h with
 | nil=>rfl
 | Ň h s ih=>have:=Ûk;rw[Qi,QK];lia
def MY:Sp:=λvs H Q _=>∃z:ak,vs=[.str z]/\AZ z/\Q ÆN H
theorem ZpQ(T:Ù):Df P w K mg Â 1 "is_key" ["thing"] MY:=by
 rw[ed,T.t_is_key.df,JW,d,hr];obtain z|rfl|e|q:=h;refine(_,#[Zd,#[ZN,(@Ut _ _ _ _ #[Xi,Úi]),Îp,ï],#[Zd,#[XI,χ,#[hC,Lj,0],#[sa,1,JW.nd],ÛB],Îp]],_,rfl,_, "str",_,_,rfl,.str z,R7 K,_,rfl,Y8 ?_);refine(_,rfl,z,rfl,?_);refine Li (λi a b=>(∃v:Ã V,a=[U (.str z),v])/\b=H) ((af,rfl),rfl) ?_ ?_
 ·rintro i c a b g ⟨⟨v,rfl⟩,rfl⟩;have j:#[f2,"a",97]:=by ac_rfl
  have k:#[f2,"z",122]:=by ac_rfl
  have hcz:=e c ÛC;rw[76]
 ·rintro a b ⟨⟨v,rfl⟩,rfl⟩;exact q
def HV:Sp:=λvs H Q _=>∃z:ak,vs=[.str z]/\AZ z/\1<=Ľ/\Ľ<=8/\Q (.str z) H
theorem Zn2(T:Ù)(a:ÛD):Df P w K mg Â 2 "read_name" Âp HV:=by
 rw[ed,T.t_read_name.df,ZjM,b,c];obtain z|rfl|d|h1|h8|q:=h;refine(_,#[Zh,#[Zm,#[Z4,(@Ř _ _ _ #[Xt,#[Xi,#[iR,a,c]],#[Xh,(@Ri _ _ _ _ _ _ _ _ _ _ _ _ V4 V4 Û Ç0 #[VZ,T.g_MOST_NAME] ÀZ)]]),‹0›,ş]]],_,rfl,z,rfl,d,_,rfl,YM ?_);refine(_,rfl,z,rfl,ē Á,_,_,rfl,rfl,_,rfl,Y0 Á (_,_,rfl,rfl,_,rfl,Y0 Á ?_));exact ÇA
def kT0(k:ak):ak:=if k = "" then "-" else k
def HU:Sp:=λvs H Q _=>∃k:ak,vs=[.str (kT0 k)]/\AZ k/\ÇC<=40/\Q (.str k) H
theorem Zs6{k:ak}(h:AZ k):¬ Ä k=Ä "-":=λz=>by injection z with z;have:=h 45 (by rw[z];ac_rfl);lia
theorem Zqx(T:Ù)(c:ÛD):Df P w K mg Â 2 "read_key" Âp HU:=by
 rw[ed,T.t_read_key.df,Zkq,d,e];obtain k|rfl|b|FJ|q:=h;refine(_,#[Zd,#[ZN,#[Zk,YS,‹0›,Ôc,þ],Èw,ï],#[Zh,#[Zm,#[Z4,(@Ř _ _ _ #[Xt,#[Xi,#[iR,c,e]],#[Xh,(@Ri _ _ _ _ _ _ _ _ _ _ _ _ V4 V4 Û Ç0 #[VZ,T.g_MOST_KEY] ÀZ)]]),‹0›,ş]]]],_,rfl,rfl,_,rfl,?_);by_cases a:k = ""
 ·subst a;exact YM q
 ·have g:kT0 k=k:=by unfold kT0;rw[zE,a]
  rw[g,ĕ (Zs6 b)];have h1:1<=ÇC:=by
   cases i:ÇC with
   | zero=>exact Ê (by obtain⟨⟨l⟩⟩:=k;have:ś=0:=i;rw[Ëm this];rfl) a
   | succ n=>lia
  refine Y8 (_,rfl,k,rfl,b,_,rfl,YM ?_);exact(_,rfl,k,rfl,ē Á,_,_,rfl,rfl,_,rfl,Y0 Á (_,_,rfl,rfl,_,rfl,Y0 Á (_,rfl,q)))
def WX(n:Nat):ak:=if n=1000000 then "1000000" else ⟨#[(48)+n]⟩
def FN(n:Nat):Prop:=n<10\/n=1000000
theorem MX{n:Nat}(h:n<10):WX n=⟨#[(48)+n]⟩:=Ç Á
theorem RF:WX 1000000 = "1000000":=Æ rfl
theorem HS:("1000000" : ak).cps.toList=[49,48,48,48,48,48,48]:=by ac_rfl
theorem HR{n:Nat}(h:FN n):∀c∈(WX n).cps.toList,48<=c/\c<=57:=by
 rcases h with h|rfl
 ·rw[MX h];intro c a;have:c∈[48+n]:=a;have:=ò this;lia
 ·rw[RF,HS];decide
theorem HQ{n:Nat}(h:FN n):1<=(WX n).length/\(WX n).length<=7:=by
 rcases h with h|rfl
 ·rw[MX h];exact(#[eJ,1,1],#[eJ,1,7])
 ·rw[RF];ac_rfl
def HP:Sp:=λvs H Q _=>∃n:Nat,vs=[.str (WX n)]/\FN n/\Q ÆN H
theorem ZuI{n:Nat}(h:FN n):¬ Ä (WX n)=Ä "":=λz=>by injection z with z;have a:=(HQ h).1;rw[z,show ("" : ak).length=0 by ac_rfl]at a;lia
theorem ZsB(T:Ù):Df P w K mg Â 1 "are_figures" Âp HP:=by
 rw[ed,T.t_are_figures.df,JQ,e,hr];obtain n|rfl|d|q:=h;refine(_,#[Zd,#[XI,χ,#[hC,Lj,0],#[sa,1,JQ.nd],ÛB],#[Zh,#[Zm,ÛE]]],_,rfl,WX n,rfl,?_);refine Li (λi b a=>(∃v:Ã V,b=[U (.str (WX n)),v])/\a=H) ((af,rfl),rfl) ?_ ?_
 ·rintro i c b a g ⟨⟨v,rfl⟩,rfl⟩;have j:#[f2,"0",48]:=by ac_rfl
  have k:#[f2,"9",57]:=by ac_rfl
  obtain c1|c2:=HR d c ÛC;rw[76]
 ·rintro b a ⟨⟨v,rfl⟩,rfl⟩;refine(_,rfl,rfl,?_);show Q (.bl (!decide (Ä (WX n)=Ä ""))) a;rw[ĕ (ZuI d)];exact q
def HN:Sp:=λvs H Q _=>X3 λ(n:Nat) (a b:Int)=>vs=[.str (WX n),.int a,.int b]/\FN n/\a<=n/\(n:Int)<=b/\Q (.int n) H
theorem ZqY(T:Ù)(p:#[hk,1,"are_figures","word",HP]):Df P w K mg Â 2 "read_number" Í9 HN:=by
 rw[ed,T.t_read_number.df,JR,r,t];obtain n|a|b|rfl|c|g|i|q:=h;refine(_,#[Zd,#[ZN,(@Ř _ _ _ #[W5,(@Ut _ _ _ _ #[Xi,#[iR,p,t]]),#[W6,#[Zk,Wk,Ç0,#[VZ,T.g_MOST_FIGURES],þ]]]),Ç7,ï],#[Zd,#[ZN,(@Ř _ _ _ #[Xt,#[Zk,YS,#[ZD,UZ,‹0›,Û],Ý,þ],#[Xh,#[eq,VE,0,Ý]]]),Ç7,ï],#[Zd,#[Zu,3,JR.nd,à,#[W4,ZwZ,Îh,Îi,Ê2]],#[Zh,#[Zm,#[Z4,(@Ri _ _ _ _ _ _ _ _ _ _ _ _ V4 V4 ‹1› ‹3› ‹2› ÀZ),‹3›,ş]]]]]],?_);have j:#[f2,"0",48]:=by ac_rfl
 rcases c with c|rfl
 rotate_left
 ·have k:#[gB,"1000000",7]:=by ac_rfl
  rw[RF];refine(_,rfl,1000000,#[sJ,RF],.inr rfl,_,rfl,Y8 ?_);refine(_,rfl, "1000000",rfl,ē #[fY,k],_,_,rfl,rfl,_,rfl,?_);rw[ĕ #[fY,k]];refine Y8 ?_;have l:atI ("1000000" : ak).cps.toList 0=U 49:=by rw[HS];rfl
  refine(_,rfl,_,_,_,rfl,rfl,ē #[fY,k],l,rfl,_,rfl,?_);have e:¬ Ä ⟨[49].toArray⟩=Ä "0":=λz=>by injection z with z;rw[pp];have:U 49=U 48:=this;rw[qo];lia
  rw[lT];refine(_,rfl,1000000,.inr Ŕ,?_);exact Ôd
 have o:=MX c;rw[o];have m:(ÄR:ak).length=1:=rfl;refine(_,rfl,n,#[sJ,o],.inl c,_,rfl,Y8 ?_);refine(_,rfl,ÄR,rfl,ē #[fY,m],_,_,rfl,rfl,_,rfl,?_);rw[ĕ #[fY,m]];refine Y8 ?_;have l:atI (ÄR:ak).cps.toList 0=U (48+n):=rfl;refine(_,rfl,_,_,_,rfl,rfl,ē #[fY,m],l,rfl,_,rfl,?_);by_cases u:n=0
 ·subst u;have e:Ä ⟨#[(48)+0]⟩=Ä "0":=by rw[j]
  refine Y1 Â6 (λd=>Ê (ě e) d);refine Î9;rw[ě e];refine Y8 (_,rfl,0,.inl (rfl,c),?_);exact Ôd
 ·have e:¬ Ä ÄR=Ä "0":=λz=>by injection z with z;rw[pp];have:U (48+n)=U 48:=this;rw[qo];lia
  rw[lT];refine(_,rfl,n,.inl (rfl,c),?_);exact Ôd
def NmS(s:ak):Prop:=AZ s/\1<=ŝ/\ŝ<=8
def RdW(k a:ak)(v:V):Prop:=(k = "name"/\v=.str a/\NmS a)\/(k = "key"/\∃x,a=kT0 x/\v=.str x/\AZ x/\Č<=40)\/(k = "many"/\∃n:Nat,a=WX n/\v=.int n/\FN n)
def HM:Sp:=λvs H Q _=>X3 λ(k a:ak) (v:V)=>vs=[.str k,.str a]/\RdW k a v/\Q v H
theorem ZoA(T:Ù)(a:Æi)(g:#[hk,2,"read_name","word",HV])(i:#[hk,2,"read_key","word",HU])(j:Df P w K mg Â 2 "read_number" Í9 HN):Df P w K mg Â 3 "read_word" Í8 HM:=by
 rw[ed,T.t_read_word.df,Oi,l,b];refine(_,#[Zd,#[ZN,Ôe,#[Zh,#[Zm,#[g2,g,b]]],ï],#[Zd,#[ZN,Ôe,#[Zh,#[Zm,#[g2,i,b]]],ï],#[Zd,#[YC,#[ZD,Ps,#[UP,a.m_BOUNDS],‹0›],#[r8,Oi.nd]],#[Zh,#[Zm,#[Zz,j,b,#[fB,1,2,3],È]]]]]],?_);obtain k|z|v|rfl|m|q:=h;rcases m with⟨rfl,rfl,c,o,p⟩|⟨rfl,k,rfl,rfl,c,r⟩|⟨rfl,n,rfl,rfl,e⟩
 ·exact(_,rfl,rfl,_,rfl,YM (_,rfl,z,rfl,c,o,p,q))
 ·refine Ôf;exact(_,rfl,rfl,_,rfl,YM (_,rfl,k,rfl,c,r,q))
 ·refine Ôf;refine Ôf;rw[hD,t,u,x,a.d_BOUNDS_many];refine(_,rfl,bQ, "many",.ref t,_,rfl,rfl,a.kd_BOUNDS,u,rfl,t,_,rfl,x H,rfl,_,_,rfl,_,_,rfl,rfl,?_);exact(_,rfl,_,rfl,_,rfl,n,0,1000000,rfl,e,by lia,(by rcases e with h|h<;>lia),q)
theorem HL{k:ak}(h:¬ k = ""):¬ Ä k=Ä "":=λz=>by injection z with z;exact h z
def HK:Sp:=λvs H Q _=>X2 λ(k:V) (m:Int)=>vs=[k,.int m]/\((k=.non/\m=0)\/k=.str "key")/\Q ÆN H
theorem ZuE(T:Ù):Df P w K mg Â 1 "may_be_further" ÊM HK:=by
 rw[ed,T.t_may_be_further.df,ZfB,a,hr];refine(_,#[Zd,#[ZN,#[g6,0],#[Zh,#[Zm,#[XQ,YS,‹1›,Û,þ]]],ï],#[Zh,#[Zm,(@ZvC _ _ _ _ _ _ _ ÛE (@Us _ _ _ _ _ (@Zrj _ _ _ _ _ _ _ _ _ _ _ _ V4 V4 Û ‹1› #[VZ,T.g_MOST_SIZES] ÀZ)))]]],?_);rw[tg,k,m,b];rcases b with⟨rfl,rfl⟩|rfl
 ·exact(_,rfl,rfl,_,rfl,Y1 (λ_=>(_,rfl,rfl,q)) #[tC,d,Ïa,d])
 ·refine ÛF;refine Î9;rw[show (!decide (Ä "key" = Ä "size"))=true by ac_rfl];exact YM q
def Uw:Sp:=λvs H Q _=>∃k:ak,vs=[.str k]/\Q (.str (kT0 k)) H
theorem Zsn(T:Ù):Df P w K mg Â 1 "written_key" ["key"] Uw:=by
 rw[ed,T.t_written_key.df,Zif,b,hr];obtain k|rfl|q:=h;refine(_,#[Zh,#[Zm,#[Z4,#[eq,VE,0,Ý],‹0›,Ôc]]],_,rfl,rfl,_,rfl,?_);unfold kT0 at q;by_cases a:k = ""
 ·rw[rJ];rw[xS];exact Y8 q
 ·rw[ub];exact YM ÇA
theorem ZuM(T:Ù):Df P w K mg Â 1 "_law_key_text" Îa Uw:=by
 rw[ed,T.t_l_key_text.df,ZiD,b,hr];obtain k|rfl|q:=h;refine(_,#[Zh,#[Zm,#[Z4,Ôe,Ý,‹0›]]],_,rfl,rfl,_,rfl,?_);unfold kT0 at q;by_cases a:k = ""
 ·rw[rJ];exact YM q
 ·rw[ub];exact Y8 ÇA
theorem Uv(k:ak):(kT0 k).length<=ÇC+1:=by
 unfold kT0;split
 ·exact Qk (by decide:("-" : ak).length<=1) Á
 ·lia
theorem HJ(x:ak):Áz++x=x:=by obtain⟨l⟩:=x;show (⟨#[]++l⟩:ak)=⟨l⟩;simp
def thT(nm k:ak):ak:=nm ++ ":"++kT0 k
def thO(nm:ak):Ã ak->ak
 | none=>nm ++ ":."
 | some k=>thT nm k
def HI:Sp:=λvs H Q _=>X2 λ(nm:ak) (k:Ã ak)=>vs=[.str nm,oV k]/\Ëo<=90/\(∀x,k=U x->Č<=1000)/\Q (.str (thO nm k)) H
theorem ZoV(T:Ù)(i:#[hk,1,"written_key","key",Uw]):Df P w K mg Â 2 "written_thing" ÊL HI:=by
 rw[ed,T.t_written_thing.df,Zgg,j,l];rw[gm,b,k,hn,m];refine(_,#[Zh,#[Zm,#[Z4,#[g6,1],#[VY,#[hQ,Pr,0]],#[VY,#[Yd,#[hC,Pr,0],#[Yd,Ý,#[Yd,(@Pr _ _ _ _ #[g2,i,l]),(@UQ _)]]]]]]],?_);have a0:ak.empty.length=0:=rfl;have l0:(Áz++b).length<=90:=by rw[QI];lia
 have a:∀ {n:Nat},n<=1102->n<=aq:=λh=>Qk h #[fY,aO];cases k with
 | none =>
  have e2:#[gB,":.",2]:=by ac_rfl
  have e:(Áz++b ++ ":.").length<=101:=by rw[QI];lia
  refine(_,rfl,rfl,_,rfl,Y1 Â6 #[tC,d,Ïa,d]);refine(_,rfl,_,rfl,ē Á,_,rfl,a Á,_,rfl,a Á,?_);have c:Q (.str (b ++ ":.")) H:=q;rw[HJ]at e ⊢;exact(a Á,c)
 | some k =>
  have iu:=m k rfl;refine ÛF;have qa:=Uv k;have e1:Æj:=by ac_rfl
  have e:(Áz++b ++ ":").length<=101:=by rw[QI];lia
  have g:(Áz++b ++ ":"++kT0 k).length<=1102:=by rw[QI];lia
  refine(_,rfl,_,rfl,ē Á,_,rfl,a Á,_,rfl,a Á,_,rfl,k,rfl,_,rfl,a Á,_,rfl,a Á,?_);have c:Q (.str (b ++ ":"++kT0 k)) H:=q;rw[HJ]at g ⊢;exact(a g,c)
def RE(K:Å):Sp:=λvs H Q _=>X2 λ(l:ae) (ws:À ak)=>vs=ÄH/\SqL K H l (ÁO Ä)/\(ÁO Âq).sum+ť<=1000000/\Q (.str (if ws=[] then "-" else ÀJ " " ws)) H
theorem ZoL(T:Ù):Df P w K mg Â 1 "with_blanks" ["words"] (RE K):=by
 rw[ed,T.t_with_blanks.df,ZhN,c,hr];rw[gm,l,ws,b,hs];refine(_,#[Zh,#[Zm,#[Z4,#[il,Wk,ÇX],#[YN,Q0,Qaj,Qak,(UU K),Ý,Ê2],Ôc]]],_,rfl,l,_,rfl,.inl b,_,_,rfl,rfl,_,rfl,?_);rw[Qa];by_cases a:ws=[]
 ·rw[rJ];exact Y8 q
 ·rw[hI,a,q];have hp:0<ť:=Ôg a;refine Y0 Á (rfl,_,rfl,_,l,ws,rfl,rfl,b,?_,q);have d:Èx:=by ac_rfl
  rw[d];lia
theorem Zsz{x:ak}(a:AZ x)(h:Č<=1000):ÅO Åu=true:=by unfold ÅO;rw[Q3,Q3];refine((by simp[ÁS,a.ok],by simp[Âs]),ě ?_);have e:x.cps.size=Č:=rfl;show x.cps.size<=2 ^ 20;rw[e];exact Qk h É
def ZrH:Sp:=λvs H Q _=>X5 λ(a b:ae) (c:ak) (ps ks:À ak)=>vs=[.str c,.ref a,.ref b]/\H a=U #[en,ps.map]/\H b=U ÁX/\ÀF<=10/\Ο<=90/\Ĥ<=10/\#[fJ,ps,20]/\#[fJ,ks,90] /\
 ∀d,ZB H d->Q (.str (ÀJ " " (c::ps++Ů kT0))) d
theorem ZoZ(T:Ù)(bP:Ôh):Df P w K mg Â 2 "_law_words" ÇQ ZrH:=by
 rw[ed,T.t_l_words.df,ZlT,vs,W];obtain a|b|d|e|ks|rfl|ha|hb|p10|k100|w10|J|dh|q:=h;refine(_,#[Zh,#[Zm,#[YN,Q0,Qaj,Qak,(UU K),Ý,#[Ze,#[ZK,Wi,#[ZK,Wi,#[ZZ,Ê2],#[XX,Of,Ëp,#[fO,3,Of],Η,(λ_ _ _ _=>#[W4,(SN K W),Èy,Èz,#[Ze,#[cw,3,Of]]])]],#[XX,Sb,#[iL,K,‹2›],#[fO,3,Sb],Η,(λ_ _ _ _=>#[Zz,bP,W,#[Ze,#[cw,3,Sb]],#[hb,Sb]])]]]]]],?_);refine(rfl,_,rfl,#[eJ,1,aq],λc hc=>?_);have z:=Zi hc Ôi;have X:(upd H c Ôi) c=U Ôi:=Zb;have L:=z _ _ ha;have Y:=z _ _ hb;generalize upd H c (.lst [.str d])=H1 at z X L Y ⊢;refine#[zN,a,L,D,Z];refine VQ (K:=K) (a:=a) (xs:=e.map Ä) (λi zs n p=>(∃v:Ã V,n=ÛG)/\zs=(e.take i).map Ä/\i<=e.length/\p D=U Ż/\ZB H1 p) ?_ #[eD,L] ?_ ?_
 ·exact#[gC,Z]
 ·rintro i y zs n p g ⟨⟨v,rfl⟩,rfl,hi,B,r⟩;rw[Qq]at g;cases j:e[i]? with
  | none=>rw[j]at g;cases g
  | some x =>
  rw[ez,j,g,M,e.length];have az:=(J x (Qn j)).2;refine(_,rfl,_,.str x,rfl,.str x,Zsz az (Qk (J x (Qn j)).1 É),rfl,rfl,B,(by rw[Qa,Qx,aO];lia),ü,?_,M,Zb,λN o t=>?_)
  ·rw[QH,j,Qe];rfl
  ·rw[sG,t,Z,r,N,o]
 rw[sZ,n,p,v,B,r];rw[Qa,Qv ç]at B;refine(c,D,_,_,rfl,rfl,r _ _ X,B,(by show 1+_<=_;rw[Qa,aO];lia),λC jZ=>?_);have O:=Zi jZ ÛH;have AC:(upd p C ÛH) C=U (.lst ((d::e).map Ä)):=Zb;have R:=O _ _ (r _ _ Y);have FK:=(z.trans r).trans O;generalize upd p C (.lst ([.str d]++e.map Ä))=H3 at O AC R FK ⊢;refine#[zN,b,R,D',uu];refine VQ (K:=K) (a:=b) (xs:=Ů Ä) (λi zs n F=>(∃v:Ã V,n=ÛG)/\zs=((ÍB i).map kT0).map Ä/\i<=Ο/\F D'=U Ż/\ZB H3 F) ?_ #[eD,R] ?_ ?_
 ·exact#[gC,uu]
 ·rintro i y zs n F g ⟨⟨v,rfl⟩,rfl,hi,G,I⟩;rw[Qq]at g;cases j:ks[i]? with
  | none=>rw[j]at g;cases g
  | some x =>
  rw[ez,j,g,M,Ο];refine(_,rfl,x,rfl,G,(by rw[Qa,Qa,Qx,aO];lia),ü,?_,M,Zb,λN o t=>?_)
  ·rw[QH,j,Qe,Qe];rfl
  ·rw[sG,t,uu,I,N,o]
 rw[sZ,n,F,v,G,I];rw[Qa,Qv ç]at G;refine(C,D',_,_,rfl,rfl,I _ _ AC,G,(by rw[Qa,Qa,Qa,QA,aO];lia),λe2 ug=>?_);rw[<- Qe];have tR:∀ (m:Nat) (l:À ak),#[tu,l,m]->(Â0 Âq).sum<=ś*m:=λm l=>by
  induction l with
  | nil=>intro _;simp
  | Î a l ih=>intro h;rw[hx,h1,h2,ih,s,u];rw[Qj,QR,QA,Ñj];lia
 have t1:=tR 20 e λs u=>(J s u).1;have t2:=tR 101 ÛI λs u=>by obtain k|hk|rfl:=Ħ u;have:=(dh k hk).1;have:=Uv k;lia
 rw[Qa]at t2;have oR:((d::e++Ů kT0).map Âq).sum+(d::e++Ů kT0).length<=100000:=by rw[List.cons_append,Qj,QR,Qe,Qaz,QA,Qi,Qa];lia
 have S:Èx:=by ac_rfl
 exact(_,e2,_,rfl,rfl,Í Zb,#[sk,S,Nat.mul_one],q _ ((FK.trans I).trans (Zi ug _)))
structure DS where
 P:À ZI
 nb:Int
 li:Int
 lo:Int
 nm:À (ak×Int)
inductive Od where
 | row (s:ak) (ks:À ak)
 | Àx (s:ak) (ks:À ak)
 | Ày (s:ak)
 | Àz (n:Nat)
 | ÃW
 | left
 | Àu
def YT(nm:Α)(n:Int):ak:=((nm.find? λe=>decide (e.2=n)).map ó).getD ""
def blT(ws:Ñ):ak:=if ws=[] then "-" else ÀJ " " ws
def Wo(P:į)(nm:Α):À ak:=À1 λx=>thO (YT nm x.1) x.2.1[x.2.2]?
def RD(i:Int):ak:=Èv ÍM
def WM(P:į)(n:Int)(ks:Ñ):À ZI:=À1 λx=>if x.1=n then (x.1,x.2.1++ks,x.2.2,) else x
def VL(P:į)(n:Int):À ZI:=P.filter λx=>decide (x.1≠n)
structure SOk (S:DS):Prop where
 num:Ïb ę=ZY S.P
 nd:(Ïb ó).Nodup
 ndP:(ZY S.P).Nodup
inductive Yn:DS->Od->ak->DS->Prop
 | row {P:À ZI} {nb li lo:Int} {nm:À (ak×Int)} {s:ak} {ks:À ak} {k q:Int}:(∀e∈nm,e.1≠s)->Ĝ ks=true->Ça<16->YE (hdP (P++[(nb,ks,0,)])) 8 (ZY (P++[(nb,ks,0,)])) k q->Yn (P,nb,li,lo,nm) (.row s ks) "done" (P++[(nb,ks,0,)],nb+1,li+k,lo+q,nm++[(s,nb,)])
 | Æk {S:DS} {s:ak} {ks:À ak}:((∃e∈Χ,e.1=s)\/Ĝ ks=false\/16<=Ïc)->Yn S (.row s ks) "refused" S
 | Àx {P:À ZI} {nb li lo:Int} {nm:À (ak×Int)} {s:ak} {ks:À ak} {x:ZI} {k q:Int}:(s,x.1,)∈nm->x∈P->Ĝ (x.2.1++ks)=true->((x.2.2<x.2.1.length\/ks=[])/\k=0/\q=0\/x.2.2=x.2.1.length/\ks≠[]/\YE (hdP (WM P x.1 ks)) 8 (ZY P) k q)->Yn (P,nb,li,lo,nm) (.grow s ks) "done" (WM P x.1 ks,nb,li+k,lo+q,nm)
 | Æl {S:DS} {s:ak} {ks:À ak}:((∀e∈Χ,e.1≠s)\/∃x∈S.P,(s,x.1,)∈Χ/\Ĝ (x.2.1++ks)=false)->Yn S (.grow s ks) "refused" S
 | Ày {P:À ZI} {nb li lo:Int} {nm:À (ak×Int)} {s:ak} {n k q:Int}:(s,n,)∈nm->YE (hdP (VL P n)) 8 (ZY (VL P n)) k q->Yn (P,nb,li,lo,nm) (.drop s) "done" (VL P n,nb,li+k,lo+q,Ëq λe=>decide (e.1≠s))
 | Æm {S:DS} {s:ak}:(∀e∈Χ,e.1≠s)->Yn S (.drop s) "refused" S
 | Àz {P P':À ZI} {nb li lo:Int} {nm:À (ak×Int)} {n:Nat} {ts:À Yh} {k q:Int}:XT P ts P' k q->ÓX=min n (ZQ P)->Yn (P,nb,li,lo,nm) (.take n) (blT (ts.map λt=>thT (YT nm t.1) t.2.2)) (P',nb,li+k,lo+q,nm)
 | comNo {S:DS}:Win (hdP S.P) (ZY S.P) af->Yn S .coming "-" S
 | com {S:DS} {x:ZI} {z:ak}:x∈S.P->x.2.1[x.2.2]? = U z->Win (hdP S.P) (ZY S.P) (U x.1)->Yn S .coming (thT (YT Χ x.1) z) S
 | left {S:DS}:Yn S .left (RD (ZQ S.P:Nat)) S
 | Àu {S:DS}:Yn S .rows (blT (Wo S.P Χ)) S
theorem Uu{α a:Type}:∀ {P:À (α×a)},(À1 ę).Nodup->∀ {p q:α×a},p∈P->q∈P->p.2=q.2->p=q
 | [],_,_,_,h,_,_=>by cases h
 | x::r,nd,p,q,hp,hq,e=>by
  rw[yi];rcases Ĳ hp with h1|h1
  ·rcases Ĳ hq with h2|h2
   ·rw[h1,h2]
   ·exact Ê (show x.2∈Âm ę by rw[<- h1,e];exact #[zD,x.2,h2]) nd.1
  ·rcases Ĳ hq with h2|h2
   ·exact Ê (show x.2∈Âm ę by rw[<- h2,<- e];exact #[zD,x.2,h1]) nd.1
   ·exact Uu nd.2 h1 h2 e
theorem SOk.ndN{S:DS}(h:SOk S):(Ïb ę).Nodup:=by rw[Ãc];exact h.ndP
theorem SOk.row1{S:DS}(h:SOk S){s:ak}{x y:ZI}(hx:x∈S.P)(hy:y∈S.P)(a:(s,x.1,)∈Χ)(b:(s,y.1,)∈Χ):x=y:=by have e:=XU h.nd a b rfl;injection e with _ e;exact XU h.ndP hx hy e
theorem SOk.has{S:DS}(h:SOk S){x:ZI}(hx:x∈S.P):∃s,(s,x.1,)∈Χ:=by
 have:x.1∈Ïb ę:=by rw[Ãc];exact Qd (f:=Ä9) hx
 rw[s0,e,a,z];exact(e.1,by rw[<- z];exact a)
theorem SOk.at'{S:DS}(h:SOk S){s:ak}{n:Int}(hx:(s,n,)∈Χ):∃x∈S.P,x.1=n:=by
 have:n∈ZY S.P:=by rw[<- Ãc];exact Qd (f:=λe:ak×Int=>e.2) hx
 exact Ħ this
structure SBd (S:DS):Prop where
 few:Ïc<=16
 nb0:0<=S.nb
 nb1:S.nb<=200
 lt:∀x∈S.P,0<=x.1/\x.1<S.nb
 len:∀x∈S.P,x.2.1.length<=180
 nmz:∀e∈Χ,AZ e.1/\e.1.length<=8
 tot:ZQ S.P<=180
inductive Wn (S:DS):À Od->À ak->DS->Prop
 | nil:Wn S [] [] S
 | Ň {os:À Od} {as:À ak} {S1 S2:DS} {o:Od} {a:ak}:Wn S os as S1->SOk S1->SBd S1->Yn S1 o a S2->Wn S (os++[o]) (as++[a]) S2
theorem Wn.len{S:DS}{os:Âw}{a:Ñ}{S1:DS}(h:Wn S os a S1):ľ=Ám:=by
 induction h with
 | nil=>rfl
 | Ň _ _ _ _ b=>rw[Qi,Qi,b];rfl
theorem Zqa(P:į)(x:ZI):ZQ (P++[x])=ZQ P+(x.2.1.length-x.2.2):=by unfold ZQ;rw[Qe,Qaz];simp
theorem HH(p:ZI->Ï):∀P:À ZI,ZQ (P.filter p)<=ZQ P
 | []=>Qf _
 | y::r=>by
  have ih:=HH p r;rw[zB,ZQ,ih];rw[Ñ7];split
  ·rw[Qj,Qj,QR,QR];lia
  ·rw[Qj,QR];lia
theorem HG(n:Int)(ks:Ñ):∀P:À ZI,(ZY P).Nodup->ZQ (WM P n ks)<=ZQ P+Ο
 | [],_=>Qs _
 | y::r,nd=>by
  unfold ZY at nd;rw[yi];have ih:=HG n ks r nd.2;unfold ZQ WM at ih ⊢;rw[Qj,Qj,QR,Qj,QR];by_cases h:y.1=n
  ·have e:Âm (λx:ZI=>if x.1=n then (x.1,x.2.1++ks,x.2.2,) else x)=r:=by refine(QJ λu a=>?_).trans (List.map_id r);rw[Ç (λz:u.1=n=>nd.1 (by rw[h,<- z];exact Qd (f:=Ä9) a))];rfl
   rw[e,Æ h];show (y.2.1++ks).length-y.2.2+_<=_;rw[Qi];lia
  ·rw[zE,h];lia
theorem HF:∀ss:À ak,(∀i x y,ss[i+1]? = U x->ss[i]? = U y->0<=ZT ý Ĕ)->Ôb LeS
 | [],_=>.nil
 | [x],_=>QaH ..
 | x::y::r,h=>by
  have ih:=HF (y::r) λi a b h1 h2=>h (i+1) a b h1 h2;have c:LeS x y:=λz=>by have:=(NZ _ _).mp z;have:=h 0 y x rfl rfl;unfold cds at this;lia
  refine List.pairwise_cons.mpr (λb hb=>?_,ih);rcases Ĳ hb with rfl|hb
  ·exact c
  ·exact c.trans ((Ôa ih).1 b hb)
theorem Zu3(ss:Ñ):Ĝ ss=true\/∃k:Nat,WP ss În:=by
 have h:∀n:Nat,(∀i,i<n->∀x y,ss[i+1]? = U x->ss[i]? = U y->0<=ZT ý Ĕ)\/∃k:Nat,WP ss În:=λn=>by
  induction n with
  | zero=>exact .inl λi g=>Ê g (ÛJ i)
  | succ n ih =>
   rcases ih with ih|ih
   ·cases f:ss[n+1]? with
    | none =>
     refine .inl λi g x y c d=>?_;by_cases e:i=n
     ·rw[e4,e,f,c]
     ·exact ih i Á x y c d
    | some x =>
     rw[sM,l,f];have j:ss[n]? = U (ss[n]' Á):=Qb Á;by_cases m:ZT ý (cds (ss[n]' Á))<0
     ·refine .inr (n,.inr (n,rfl,l,λa b c d=>?_,ih));rw[f]at c;rw[fX,j,d,c];cases d;exact m
     ·refine .inl λi g a b c d=>?_;by_cases e:i=n
      ·subst e;rw[f]at c;rw[fX,j,d,c];cases d;lia
      ·exact ih i Á a b c d
   ·exact .inr ih
 rcases h ī with h|h
 ·refine .inl ((HW ss).mpr (HF ss λi x y c d=>h i ?_ x y c d));exact(Ũ d).1
 ·exact .inr h
def kvN(nm:Α):À ÁJ:=Åc λe=>(.inr e.1,.int e.2,)
def kvI(nm:Α):À ÁJ:=Åc λe=>(.inl e.2,.str e.1,)
theorem Zp6(nm:Α):(ÈA).map ó=(Åc ó).map ÒS:=by unfold kvN;rw[Qo,Qo];rfl
theorem MW{nm:Α}(nd:(Åc ó).Nodup){s:ak}{n:Int}(h:(s,n,)∈nm):Y4 ÈA (.inr s)=U (.int n) :=
 Vu (by rw[Zp6];exact ÛK) (Qd (f:=λe:ak×Int=>((.inr e.1:Key),ì e.2,)) h)
theorem MV{nm:Α}{s:ak}(h:∀e∈nm,e.1≠s):Y4 ÈA (.inr s)=af:=by
 cases a:Y4 (kvN nm) (.inr s) with
 | none=>rfl
 | some v=>obtain e|b|z:=Ħ (Vv a);injection z with z _;exact Ê Æn (h e b)
theorem Zqs(nm:Α)(s:ak):WH ÈA (.inr s)=kvN ÈB:=by unfold WH kvN;rw[Qao];congr 1;exact QaX λe _=>ÅW #[rP,Àa,e.1,Æn]
theorem MU(nm:Α)(s:ak):(∀e∈nm,e.1≠s)\/∃n,(s,n,)∈nm:=by
 by_cases h:∃e∈nm,e.1=s
 ·obtain e|a|rfl:=h;exact .inr (e.2,a)
 ·exact ÛL
def dsO(X:MS)(nm:Α):DS:=(ZP X.L,Đ,ň,ŉ,nm)
structure DOk (cR cM:ae) (H:Hp) (X:MS) (nd:ae) (nm:Α):Prop where
 mg:MOk cR cM H X
 at':H nd=U (.dK ÈA)
 sep:¬ MFp X nd
 ok:SOk ÀO
section
variable {cR cM:ae} {H H':Hp} {X:MS} {nd:ae} {nm:À (ak×Int)}
theorem DOk.same(D:Án)(s:ZB H H'):DOk cR cM H' X nd nm:=(D.mg.same s,s _ _ ĝ,ψ,D.ok)
theorem DOk.keep(D:Án)(k:∀b o,H b=U o->MFp X b\/b=nd\/ÓD->H' b=U o):DOk cR cM H' X nd nm :=
 (D.mg.keep λb o a h=>k b o a (Àl .inl λz=>.inr (.inr z)),k _ _ ĝ Å5,ψ,D.ok)
theorem DOk.rows{s:ak}{n:Int}(D:Án)(h:(s,n,)∈nm):∃e∈X.L,e.n=n:=by obtain x|a|rfl:=D.ok.at' h;obtain e|b|rfl:=Ħ a;exact(e,b,rfl)
structure DTo (cR cM:ae) (H H':Hp) (X X':MS) (nd:ae) (nm gQ:Α) (o:Od) (a:ak):Prop where
 st:Yn ÀO o a (dsO X' gQ)
 D:DOk cR cM H' X' nd gQ
 m:X'.m=X.m
 fp:∀b,MFp X' b->MFp X b\/H b=af
 k:∀b u,H b=U u->¬ MFp X b->b≠nd->H' b=U u
theorem DOk.stay{o:Od}{a:ak}(D:Án)(st:Yn ÀO o a ÀO)(s:ZB H H'):DTo cR cM H H' X X nd nm nm o a:=(st,Åd s,rfl,λ_ h=>.inl h,λb u hb _ _=>s b u hb)
theorem DTo.same{c:Hp}{e:MS}{f:Α}{o:Od}{a:ak}(d:DTo cR cM H H' X e nd nm f o a)(s:ZB H' c):DTo cR cM H c X e nd nm f o a:=(d.st,d.D.same s,d.m,d.fp,λb u hb g h=>s _ _ (d.k b u hb g h))
theorem MT{m rd sd:ae}{L:õ}{s:StL}{nb li lo:Int}{a:V}(M:#[fE,cR,cM,a]):(Į).length<=2 ^ (8-1):=Qk (show (ZC L).length<=60 by unfold ZC;rw[Qa];exact Âu) É
theorem DOk.add{s:ak}{ks:Ñ}{e:ZA}{f:ae}{s':StL}{w:Ź}{k q:Int}(D:Án)(B:SBd ÀO)(hs:∀e∈nm,e.1≠s)(srt:#[tr,ks])(n:Ôj<16)
  (p:e.n=Đ) (r:Ò=ks) (t:e.g=0) (hp:H e.p=af) (hk:H e.k=af) (v:H e.f=af) (i:H f=af) (W:Win (hdM Ãd) (ZC Ãd) w) (St:XV (hdM Ãd) s' 8 (ZC Ãd)) (j:YE (hdM Ãd) 8 (ZC Ãd) k q)
  (M:ZR cR cM H' X.m Ń f Ãd s' (Đ+1) (ň+k) (ŉ+q) (Yz w)) (kp:#[sV,X.m,Ń,H']) :
  ∃A,DTo cR cM H (upd H' nd (.dK (kvN ÛM))) X A nd nm ÛM (.row s ks) "done":=by
 have g:ZP Ãd=ZP X.L++[(Đ,ks,0,)]:=by unfold ZP;rw[Qe,ÛN,p,r,t]
 have l:¬ MFp ÛO nd:=λz=>by
  have d:=ĝ;rcases z with z|z|z|⟨x,hx,z⟩
  ·exact Ôk
  ·exact ψ Âv
  ·rw[iH,f,i,d]
  ·rcases ë hx with hx|hx
   ·exact ψ #[ig,x,hx]
   ·rw[ò hx]at z;rcases z with z|z|z
    ·rw[sT,hp,d]
    ·rw[sT,hk,d]
    ·rw[sT,v,d]
 have C:=kp _ _ ĝ Ïd Ôl;have Mk:MOk cR cM H' ÛO:=(M,W,Uy 8 _ s' _ M.up (MT M) É St);rw[Wb,XO,g]at j;refine(_,(?_,(Mk.keep λb o c E=>?_,Zb,l,?_),rfl,λb c=>?_,λb u c m F=>?_))
 ·have:=Yn.row (nb:=Đ) (li:=ň) (lo:=ŉ) hs srt (show (ZP X.L).length<16 by unfold ZP;rw[Qa];exact n) j;rw[hP,g]
 ·rw[Zc (λz=>by
   rcases E with y|⟨xs,rfl⟩
   ·exact l #[eS,z,y]
   ·rw[z,C]at c;cases c)]
  exact c
 ·have h:=D.ok;rw[sC,?_,?_]
  ·show (nm++[(s,Đ,)]).map ę=ZY (ZP Ãd);rw[g,Qe];unfold ZY;rw[Qe];exact ō (·++[Đ]) Ãc
  ·show ((ÛM).map ó).Nodup;rw[fc,h.nd,G,c,y,I];have:b=s:=by simpa using c
   rw[this];exact hs y I
  ·rw[r6,Ãd]
 ·rcases c with z|z|z|⟨x,hx,z⟩
  ·exact .inl (.inl z)
  ·exact .inl Âv
  ·rw[f5,f,i]
  ·rcases ë hx with hx|hx
   ·exact .inl #[ig,x,hx]
   ·rw[ò hx]at z;exact .inr (by rcases z with z|z|z<;>rw[z]<;>assumption)
 ·rw[Zc F];exact kp b u c #[gG,m] (λz=>m Âv)
theorem DOk.drop{s:ak}{e:ZA}{c:ae}{s':StL}{w:Ź}{k q:Int}(D:Án)(hs:Ïe)(he:e∈X.L)(j:H c=af)(W:Win ÈC ÈD w)(St:XV ÈC s' 8 ÈD)(l:YE ÈC 8 ÈD k q)
  (M:#[hl,H',c,Æo]) (t:H' nd=U (.dK (kvN ÈB))) (kp:∀b o,H b=U o->b≠X.m->b≠Ń->b≠nd->H' b=U o) :
  ∃v,DTo cR cM H H' X v nd nm ÈB (.drop s) "done":=by
 have d:ZP Æo=VL Àv e.n:=by unfold ZP YU VL;rw[Qao];rfl
 have h:=D.ok;rw[Wb,XO,d]at l;have A:¬ MFp (X.m,Ń,c,YU X.L e.n,s',Đ,ň+k,ŉ+q,w) nd:=λz=>by
  have m:=ĝ;rcases z with z|z|z|⟨x,f,z⟩
  ·exact Ôk
  ·exact ψ Âv
  ·rw[iH,c,j,m]
  ·exact ψ ÛP
 refine((X.m,Ń,c,YU X.L e.n,s',Đ,ň+k,ŉ+q,w),(?_,((M,W,Uy 8 _ s' _ M.up (MT M) É St),t,A,?_),rfl,λb g=>?_,λb u g p B=>kp b u g #[gG,p] (λz=>p Âv) B))
 ·have:=Yn.drop (nb:=Đ) (li:=ň) (lo:=ŉ) hs l;rw[hP,d]
 ·rw[sC,?_,?_]
  ·show (Ëq λe=>decide (e.1≠s)).map ę=ZY (ZP Æo);rw[d];have C:(Ëq λy=>decide (y.1≠s))=Ëq λy=>decide (y.2≠e.n):=by
    refine QaX λy r=>ÅW ÛQ
    ·have:=Uu h.ndN r hs z;rw[this]
    ·have:=XU h.nd r hs z;rw[this]
   rw[C];have i:=ō (Ôm λn:Int=>decide (n≠e.n)) Ãc;unfold ZY at i;rw[Qao,Qao]at i;exact i
  ·exact h.nd.sublist Î1
  ·rw[r6,Æo]
 ·rcases g with z|z|z|⟨x,f,z⟩
  ·exact .inl (.inl z)
  ·exact .inl Âv
  ·rw[f5,c,j]
  ·exact .inl ÛP
theorem DOk.grow{s:ak}{ks:Ñ}{e:ZA}{k' a c:ae}{s':StL}{w:Ź}{k q:Int}(D:Án)(hs:Ïe)(he:e∈X.L)(srt:#[tr,Èu])(hk:H k'=af)(t:H a=af)
  (n:(Ó6/\c=Φ/\k=0/\q=0)\/(e.g=ĭ/\ks≠[]/\H c=af/\YE (hdM ÃX) 8 Æh k q)) (W:Win (hdM ÃX) Æh w) (ok:Z1 (hdM ÃX) s' Æh)
  (M:#[hl,H',c,ÃX]) (kp:#[sV,X.m,e.p,H']) :
  ∃B,DTo cR cM H H' X B nd nm nm (.grow s ks) "done":=by
 have v:ZP ÃX=WM Àv e.n ks:=by unfold ZP YD WM;rw[Qo,Qo];refine QJ λy _=>?_;rw[74];unfold Xw;split<;>rfl
 have h:=D.ok;have C:¬ MFp (X.m,Ń,c,YD X.L e.n ks k' a,s',Đ,ň+k,ŉ+q,w) nd:=λz=>by
  have d:=ĝ;rcases z with z|z|z|⟨x,g,z⟩
  ·exact Ôk
  ·exact ψ Âv
  ·rcases n with⟨_,i,_⟩|⟨_,_,j,_⟩
   ·exact ψ ÛR
   ·rw[iH,c,j,d]
  ·rw[em,y,l,g];unfold Xw at z;split at z
   ·rcases z with z|z|z
    ·exact ψ #[f6,y,l]
    ·rw[iH,k',hk,d]
    ·rw[iH,a,t,d]
   ·exact ψ #[ig,y,l]
 have g:Ãb∈ZP X.L:=Qd (f:=Ès) he;refine((X.m,Ń,c,YD X.L e.n ks k' a,s',Đ,ň+k,ŉ+q,w),(?_,((M,by rw[Te];exact W,by rw[Te];exact ok),kp _ _ ĝ Ïd (λz=>ψ #[f6,e,he]),C,?_),rfl,λb p=>?_,λb u p A n2=>kp b u p #[gG,A] (λz=>A #[f6,e,he])))
 ·have:=Yn.grow (nb:=Đ) (li:=ň) (lo:=ŉ) (k:=k) (q:=q) (ks:=ks) hs g srt (by
   rcases n with⟨r,_,j,m⟩|⟨r,i,_,m⟩
   ·exact .inl (r,j,m)
   ·rw[Wb,XO,v]at m;exact .inr (r,i,m))
  have E:WM Àv e.n ks=ZP ÃX:=v.symm;show Yn ÀO (.grow s ks) "done" (ZP ÃX,Đ,ň+k,ŉ+q,nm);rw[<- E];exact this
 ·rw[sC,?_,h.nd]
  ·show Åc ę=ZY (ZP ÃX);rw[<- XO,Te,XO];exact Ãc
  ·rw[r6,ÃX]
 ·rcases p with z|z|z|⟨x,g,z⟩
  ·exact .inl (.inl z)
  ·exact .inl Âv
  ·rcases n with⟨_,i,_⟩|⟨_,_,j,_⟩
   ·exact .inl ÛR
   ·rw[f5,c,j]
  ·rw[em,y,l,g];unfold Xw at z;split at z
   ·rcases z with z|z|z
    ·exact .inl #[f6,y,l]
    ·rw[f5,k',hk]
    ·rw[f5,a,t]
   ·exact .inl #[ig,y,l]
universe E
def Tb(a s:ak)(ks:Ñ)(o:Od):Prop:=(a = "row"/\o=.row s ks)\/(a = "grow"/\o=.grow s ks)\/(a = "drop"/\o=.drop s)
def KsS(ks:Ñ):Prop:=Ο<=5/\∀x∈ks,Č<=40/\AZ x
section
variable {cR cM cN cF cO:ae} {H:Hp} {X:MS} {nd ka:ae} {nm:À (ak×Int)} {s:ak} {ks:À ak}
theorem KsS.ok(h:KsS ks):RG ks:=(Qk h.1 É,λx hx=>(Qk (h.2 x hx).1 É,(h.2 x hx).2))
theorem HE{ss:Ñ}(h:Ĝ ss=false):∃k:Nat,WP ss În:=(Zu3 ss).elim (λz=>by rw[h]at z;cases z) id
theorem ZpA(nm:Α)(s:ak)(n:Int):kvN nm++[((.inr s:Key),ì n,)]=kvN (nm++[(s,n,)]):=by unfold kvN;rw[Qe];rfl
theorem DOk.nmlen(D:Án):Ëo=(Àv).length:=by have:=#[eC,D.ok.num];unfold ZY at this;rw[Qa,Qa]at this;exact this
theorem DOk.small(D:Án)(B:SBd ÀO):(ÈA).length<aq:=by have h:(Àv).length<=16:=ÁY;unfold kvN;rw[Qa,Ïf];exact Zs Á
theorem DOk.num(D:Án)(B:SBd ÀO){e:ZA}(he:e∈X.L):0<=e.n/\e.n<Đ:=B.lt _ (Qd (f:=Ès) he)
theorem DOk.nb1(B:SBd ÀO):Đ<1000000:=by have:=B.nb1;unfold dsO at this;dsimp only at this;lia
theorem Zqz(X:MS)(nm:Α)(s:ak)(b:H ka=U ÁX)(c:KsS ks):(∃o,Rf Àv Đ H "add" (.ref ka) .non (U o)/\Yn ÀO (.row s ks) "refused" ÀO)\/(Ĝ ks=true/\Ôj<16):=by
 cases a:Ĝ ks with
 | false=>obtain k|e:=HE a;exact .inl (U (Đ,#[f0,k],),.inl (rfl,rfl,rfl,ka,ks,rfl,b,c.ok,e),.noRow #[s9,a])
 | true =>
  by_cases f:Ôj<16
  ·exact .inr (rfl,f)
  ·have d:16<=(Àv).length:=by unfold ZP;rw[Qa];lia
   exact .inl (af,(rfl,rfl,ka,ks,rfl,b,c.ok,a,d),.noRow (.inr (.inr d)))
theorem Zox(nb:Int){e:ZA}(he:e∈X.L)(hs:Ïe)(c:H ka=U ÁX)(d:KsS ks):(∃g,Rf Àv nb H "grow" (.int e.n) (.ref ka) (U (U g))/\Yn ÀO (.grow s ks) "refused" ÀO)\/Ĝ Èu=true:=by
 have b:(Ãb:ZI)∈ZP X.L:=Qd (f:=Ès) he;cases a:Ĝ (Ò++ks) with
 | false=>obtain k|h:=HE a;exact .inl ((e.n,#[f0,k],),.inr (rfl,_,b,rfl,rfl,ka,ks,rfl,c,d.ok,h),.noGrow (.inr (_,b,hs,a)))
 | true=>exact À8
theorem Zqt(D:Án)(B:SBd ÀO){e:ZA}(he:e∈X.L)(a:H ka=U ÁX)(b:KsS ks):ka≠e.p/\(Èu).length<=200/\∀x∈Ò++ks,Č<=1000/\AZ x:=by
 have R:=Ïg e he;refine(λz=>(by obtain de|c:=Ëb;rw[z,c]at a;cases a),?_,λx hx=>?_)
 ·have h1:ĭ<=180:=Æp _ (Qd (f:=Ès) he);have h2:=b.1;rw[Qi];lia
 ·rcases ë hx with hx|hx
  ·exact R.str x hx
  ·exact b.ok.2 x hx
theorem DOk.cut(D:Án)(a:Α):ZR cR cM #[gQ,H,nd,kvN,a] X.m Ń Φ X.L X.s Đ ň ŉ (Yz X.w):=D.mg.M.keep λb o hb c=>by
 rw[Zc (λz=>by
  rcases c with y|⟨xs,rfl⟩
  ·exact ψ #[eS,z,y]
  ·rw[z,ĝ]at hb;cases hb)]
 exact hb
theorem ZpU{c:Hp}(D:Án){e:ZA}(he:e∈X.L)(hs:Ïe){d:ae}{s':StL}{w:Ź}{k q:Int}(a:#[gQ,H,nd,kvN,ÈB] d=af)(W:Win ÈC ÈD w)(St:XV ÈC s' 8 ÈD)(f:YE ÈC 8 ÈD k q)
  (M:#[hl,c,d,Æo]) (kp:∀b o,#[gQ,H,nd,kvN,ÈB] b=U o->b≠X.m->b≠Ń->c b=U o):∃g,DTo cR cM H c X g nd nm ÈB (.drop s) "done":=by
 refine D.drop hs he ?_ W St f M (kp _ _ Zb Ïd Ôl) λb o h i j l=>kp b o #[hS,l,h] i j;by_cases z:d=nd
 ·rw[sT,Zb,a]
 ·rw[Zc z]at a;exact a
universe E
theorem Zmw(rd:ae)(nb li lo:Int)(sd:ae)(a:V):#[28].lookup ("drop_row" : ak)=af:=À4
theorem HD(rd:ae)(nb li lo:Int)(sd:ae)(a:V):#[28].lookup ("grow" : ak)=af:=À4
def Od.first:Od->ak
 | .row _ _ => "row"
 | .grow _ _ => "grow"
 | .drop _ => "drop"
 | .take _ => "take"
 | .coming => "coming"
 | .left => "left"
 | .rows => "rows"
def Od.sing:Od->À V
 | .row s _=>[.str s]
 | .grow s _=>[.str s]
 | .drop s=>[.str s]
 | .take n=>[.int (n:Int)]
 | .coming=>[]
 | .left=>[]
 | .rows=>[]
def Od.furt:Od->À V
 | .row _ ks=>Ů Ä
 | .grow _ ks=>Ů Ä
 | _=>[]
def OdW:Od->Prop
 | .row s ks=>NmS s/\KsS ks
 | .grow s ks=>NmS s/\KsS ks
 | .drop s=>NmS s
 | .take n=>FN n
 | .coming=>Àc
 | .left=>Àc
 | .rows=>Àc
def dkF(m nd:ae):À Á8:=[("merge",.ref m,),("numbers",.ref nd,)]
theorem Wa(m nd:ae):(dkF m nd).lookup ("merge" : ak)=U Æg:=by unfold dkF;exact ÛS
theorem WD(m nd:ae):(dkF m nd).lookup ("numbers" : ak)=U (.ref nd):=by unfold dkF;rw[QaF,show (("numbers" : ak) == "merge")=false from by ac_rfl];exact ÛS
def Yq(g b c:ae)(p:Od->Prop):Sp:=λvs H Q _=>X8 λ(d sl e h:ae) (X:MS) (nd:ae) (nm:À (ak×Int)) (o:Od)=>vs=[.ref d,.ref sl,.ref e]/\H d=U #[zU,g,h,X.m]/\¬ MFp X d/\DOk b c H X nd nm/\SBd ÀO/\H sl=U (.lst ÈE)/\H e=U (.lst ÈF)/\OdW o/\p o/\∀ (i:MS) (j:À (ak×Int)) (a:ak) (f:Hp),DTo b c H f X i nd nm j o a->Q (.str a) f
theorem Zrp(T:Ù)(Z:Mf P w K mg Â 14 am "add_row" ÄU (Il K aw am))(eU:M1f P w K mg Â 14 am "add_row" ÄU (HZ aw am aB aJ ao)) :
  Df P w K mg Â 15 "do_row" ÄV ÛT:=by
 rw[ed,T.t_do_row.df,JP,vs,r];obtain d|u|x|c|X|nd|j|o|rfl|l|I|D|B|fP|J|hw|⟨i,ks,rfl⟩|q:=h;refine(_,#[Zd,#[Zu,3,JP.nd,à,Æd],#[Zd,#[sf,inG,r,Åe],#[Zd,(@Zr9 _ _ _ _ _ _ _ _ _ _ _ _ _ _ _ _ _ _ (λai E=>#[Zh,#[YC,(@J6 _ _ _ _ #[UN,eU,â,ÃV,r,Åe,Ä5] #[XA,Z,â,r,Åe,Ä5]),#[Xg,Åe,‹3›,(Ww r)]]]) (λe=>Ôn) rfl T.m_OutOfOrder rfl T.m_Full É É rfl Ŕ T.x_OutOfOrder T.x_Full rfl rfl),Ôo]]],?_);rw[sp,L,N];have y:#[tm,kvN,j]:=D.small B;have C:KsS ks:=hw.2;have b:∀ {v:V} {O:Hp} {R:MS} {gQ:À (ak×Int)} {a:ak},v=.str a->DTo aw am H O X R nd j gQ (.row i ks) a->Q v O:=λe d=>by subst e;exact q _ _ _ _ d
 rw[iI,u,fP];rcases MU j i with m|⟨n,m⟩
 ·have t:=MV m;rw[ek,c,l,i,t,Y8];rcases Zqz X j i J C with⟨o,hR,st⟩|⟨p,S⟩
  ·refine .inl (_,rfl,d,aA,c,_,_,rfl,l,Ψ,Ãe,Wa ..,X.m,L,_,rfl,N,Ik ..,_,rfl,X.m,Ń,Φ,X.L,X.s,Đ,ň,ŉ,Yz X.w,.ref x,U o,rfl,Åf,B.nb0,DOk.nb1 B,hR,?_);cases o with
   | none=>exact λY F=>(aJ,_,rfl,T.xw_Full.cls,by simp,b rfl (Ãf st F))
   | some nj=>exact λ_ Y F _ _=>(ao,_,rfl,ÛU,by simp,b rfl (Ãf st F))
  ·refine .inr (_,rfl,d,aA,c,_,_,rfl,l,Ψ,Ãe,Wa ..,X.m,L,_,rfl,N,Ik ..,_,rfl,X.m,Ń,Φ,X.L,X.s,Đ,ň,ŉ,Yz X.w,x,ks,rfl,Åf,λe he=>(D.num B he).2,S,J,C.ok.1,C.ok.2,p,λe bC u w k q' Y en Cz eg hp hk hf fQ W St Pl M G=>?_);obtain R|g:=D.add B m p S en Cz eg hp hk hf fQ W St Pl M G;have jB:=G _ _ l #[gG,I] (λz=>I Âv);refine(_,rfl,d,aA,c,_,_,rfl,jB,Ψ,Åg,WD ..,_,rfl,nd,_,rfl,XD.k (k:=.inr i) (G _ _ ĝ Ïd Ôl) y,?_);rw[US _ t,ZpA];exact b rfl g
 ·have t:=MW Ïh m;rw[ek,c,l,i,t,YM];exact b rfl (Ãf (.noRow (.inl (_,m,rfl))) ÁV)
theorem ZoU(T:Ù)(J:#[eT,14,"grow",ÇP,Ig])(L:M1f P w K mg Â 14 am "grow" ÇP (HY aw am aB aJ ao)) :
  Df P w K mg Â 15 "do_grow" ÄV ÛV:=by
 rw[ed,T.t_do_grow.df,JO,N,p];obtain d|t|u|b|X|nd|x|o|rfl|j|jf|D|B|O|y|hw|⟨l,ks,rfl⟩|q:=h;refine(_,#[Zd,#[Zu,3,JO.nd,à,Æd],#[Zd,#[sf,T9,p,Åe],#[Zd,(@Zr4 _ _ _ _ _ _ _ _ _ _ _ _ (λai E=>#[Zh,#[ZM,(@J6 _ _ _ _ #[UN,L,â,ÃV,p,Åe,ÛW] #[XA,J,â,p,Åe,ÛW])]]) (λe=>Ôn) Ŕ rfl T.m_OutOfOrder T.x_OutOfOrder rfl É),Ôo]]],?_);rw[sp,z,C];have F:KsS ks:=hw.2;have c:∀ {v:V} {G:Hp} {I:MS} {R:À (ak×Int)} {a:ak},v=.str a->DTo aw am H G X I nd x R (.grow l ks) a->Q v G:=λe d=>by subst e;exact q _ _ _ _ d
 rw[iI,t,O];rcases MU x l with i|⟨n,i⟩
 ·have r:=MV i;rw[ek,b,j,l,r,YM];exact c rfl (Ãf (.noGrow Åk) ÁV)
 ·have r:=MW Ïh i;obtain e|m|rfl:=Ŧ i;rw[ek,b,j,l,r,Y8];rcases Zox Đ m i y F with⟨S,Y,st⟩|hsr
  ·refine .inl (_,rfl,d,aA,b,_,_,rfl,j,Ψ,Ãe,Wa ..,X.m,z,_,rfl,C,HD ..,_,rfl,d,aA,b,_,_,rfl,j,Ψ,Åg,WD ..,_,rfl,nd,_,rfl,ď (k:=.inr l) ĝ r,_,rfl,X.m,Ń,Φ,X.L,X.s,Đ,ň,ŉ,Yz X.w,.int e.n,.ref u,U (U S),rfl,Åf,(λe m=>by have:=D.num B m;have:=DOk.nb1 B;lia),Y,?_);exact λ_ Z s1 _ _=>(ao,_,rfl,ÛU,by simp,c rfl (Ãf st s1))
  ·obtain g1|g2|g3:=Zqt D B m y F;refine .inr (_,rfl,d,aA,b,_,_,rfl,j,Ψ,Ãe,Wa ..,X.m,z,_,rfl,C,HD ..,_,rfl,d,aA,b,_,_,rfl,j,Ψ,Åg,WD ..,_,rfl,nd,_,rfl,ď (k:=.inr l) ĝ r,_,rfl,X.m,Ń,Φ,X.L,X.s,Đ,ň,ŉ,X.w,e,u,ks,rfl,Åf,D.mg.W,D.mg.ok,m,y,g1,g2,hsr,g3,λk' f' bC t w k q' Z hk hf wJ W ok M kp=>?_);obtain I|g:=D.grow i m hsr hk hf wJ W ok M kp;exact c rfl g
theorem ZnS(T:Ù)(z:#[eT,14,"drop_row",ÁP,Ij]) :
  Df P w K mg Â 15 "do_drop" Ŝ (Yq aA aw am λo=>∃s,o=.drop s):=by
 rw[ed,T.t_do_drop.df,JN,C,t];obtain d|p|F|c|X|nd|r|o|rfl|l|jf|D|B|G|hJ|hw|⟨i,rfl⟩|q:=h;refine(_,#[Zd,#[Zu,3,JN.nd,à,Æd],#[Zd,#[sf,T9,t,Ģ],#[Zd,#[ZM,#[XA,z,â,t,Ģ,#[Ze,#[YN,Q6,QaU,Ó2,Pw,Ģ,Èi]]]],Ôo]]],?_);rw[sp,I,J];have j:∀ {v:V} {u:Hp} {x:MS} {L:À (ak×Int)} {a:ak},v=.str a->DTo aw am H u X x nd r L (.drop i) a->Q v u:=λe d=>by subst e;exact q _ _ _ _ d
 rw[iI,p,G];rcases MU r i with b|⟨n,b⟩
 ·have m:=MV b;rw[ek,c,l,i,m,YM];exact j rfl (Ãf (.noDrop b) ÁV)
 ·have m:=MW Ïh b;obtain e|y|rfl:=Ŧ b;rw[ek,c,l,i,m,Y8];refine(_,rfl,d,aA,c,_,_,rfl,l,Ψ,Ãe,Wa ..,X.m,I,_,rfl,J,Zmw ..,_,rfl,d,aA,c,_,_,rfl,l,Ψ,Åg,WD ..,.inr #[rT,ĝ],_,rfl,nd,_,.inr i,_,rfl,rfl,ĝ,m,?_);rw[Zqs];refine(X.m,Ń,Φ,X.L,X.s,Đ,ň,ŉ,Yz X.w,e,rfl,D.cut _,y,λbC p w k q' H1 N W St O M R=>?_);obtain x|g:=ZpU D y b N W St O M R;exact j rfl g
theorem MR{i:Int}(h:i.natAbs<=100000000):ÅO Åt=true/\(aE.int i).intsShort 13=true/\(aE.int i).showable=true/\(RD i).length<=13:=by
 have hl:i.natAbs.log2<30:=by
  by_cases z:i.natAbs=0
  ·rw[z];decide
  ·exact QB (#[xv].mpr (Qa5 h (show 100000000<2 ^ 27 by decide))) É
 have a:(Èv ÍM).length<=13:=by rw[Ûw];exact Qk (int_text_length_le10 (k:=10) É Á) É
 refine(?_,by simp only[aE.intsShort,Êt];exact a,?_,a)
 ·simp only[ÅO,ÁS,Âs,ÔR,Êt];refine((trivial,rfl),?_);simp only[aE.weight];split<;>lia
 ·simp only[aE.showable,Êt];lia
theorem RC{nm:Α}(nd:#[nB].Nodup){s:ak}{n:Int}(h:(s,n,)∈nm):YT nm n=s:=by
 unfold YT;cases a:nm.find? λx=>decide (x.2=n) with
 | none=>exact Ê Ïa (ÛX a _ h)
 | some y =>
  have b:=Qax a;have c:y.2=n:=by have:=ÍD;simpa using this
  rw[Uu nd b h c];rfl
theorem inl_nd'{nm:Α}(nd:#[nB].Nodup):(Åc (ó ∘ λe:ak×Int=>((.inl e.2:Key),Ä e.1,))).Nodup:=by have:=Jf nd;rw[Qo]at this;exact this
def MQ(K:Å)(b:ae):Sp:=λvs H Q _=>X7 λ(d c m nd hl:ae) (nm:À (ak×Int)) (hs:À (ae×Int×Ã ak))=>vs=#[rY,d,hl]/\H d=U #[zU,b,c,m]/\H nd=U (.dK ÈA)/\Ëo<=20/\#[nB].Nodup/\ÛY/\H hl=U #[hT,hs.map,h,h.1]/\(∀h∈hs,H h.1=U (.tup [.int h.2.1,oV h.2.2]))/\hs.length<=1000/\(∀h∈hs,(∃s,(s,h.2.1,)∈nm)/\∀x,h.2.2=U x->Č<=1000) /\
 ∀l a,H l=af->a l=U (.lst (hs.map λh=>Ä ÛZ))->ZB H a->Q ć a
theorem Zoo(T:Ù)(ff:Df P w K mg Â 2 "written_thing" ÊL HI):Df P w K mg Â 3 "written_heads" ÒY (MQ K aA):=by
 rw[h0,T.t_written_heads.df,JM];obtain d|dd|m|nd|M|c|I|rfl|hd|Y|wK|Z|CA|FL|hht|fP|gc|q:=h;refine(_,#[Zd,#[Zu,2,JM.nd,ÂM,(@Ua _ _ _ (@ZpF _ _ _ _ _ _ _ _ _ _ _ _ _ _ _ _ TC rfl rfl rfl Ú5 #[ex,3,TC,4] Η #[tw,4,TC] #[tw,3,TC] (by intro _;rfl)))],#[Zh,#[Zm,#[XX,Vm,Ëp,#[ex,3,Vm,4],Η,(λ_ _ _ _=>#[Zz,ff,hr,#[Ze,#[ZD,(ixG hr),#[cv,2,Vm],#[cw,3,Vm]],#[cw,4,Vm]],#[hb,Vm]])]]]],?_);refine(nd,.dK (kvN c),Y,ŷ,_,rfl,d,aA,dd,_,_,rfl,hd,Ψ,Åg,WD ..,nd,_,rfl,Y,λo D R=>?_);have S:D≠nd:=λz=>by rw[z,Zb]at R;cases R
 have FM:H D=af:=by rw[Zc S]at R;exact R
 refine Zs7 (λi W t r=>(X2 λB C:Ã V=>t=[U Àw,U (.ref M),af,B,C])/\W=kvI (c.take i)/\i<=Ĥ/\r D=U (.dK W)/\r nd=U (.frz o (.dK (kvN c)))/\∀b u,H b=U u->b≠nd->r b=U u) ((af,af,rfl),rfl,Qs _,Zb,#[hS,S.symm,Zb],λb u g n=>(by rw[Zc (Zf g FM),Zc n];exact g)) (λ_ _ _ _ h=>h.2.2.2.2.1) ?_ ?_
 ·rintro i k x W t r p J ⟨⟨B,C,rfl⟩,rfl,hi,F,jq,k2⟩ hp;rw[h2,kvN,J];cases l:c[i]? with
  | none=>rw[l]at J;cases J
  | some e =>
  rw[ez,l,J,cq,Ĥ];have kp:∀b u,r b=U u->(upd r p (.tup [.str e.1,.int e.2])) b=U u:=λb u g=>by rw[Zc (Zf g hp)];exact g
  have hv:Y4 (kvI (c.take i)) (.inl e.2)=af:=by
   cases hv:Y4 (kvI (c.take i)) (.inl e.2) with
   | none=>rfl
   | some v =>
    obtain y|G|z:=Ħ (Vv hv);injection z with z _;rw[tq,j,hj,ej,ÖL,G];rw[Qx]at hj;rw[List.getElem_take]at ej;have h1:Êp[j]? = U e.2:=by rw[Qq,Qb Á,ej];exact ō U ÎA
    have h2:Êp[i]? = U e.2:=by rw[Qq,l];rfl
    have:=(List.getElem?_inj ÁI Z).mp (h1.trans h2.symm);lia
  refine(p,_,rfl,û Zb,rfl,_,_,rfl,_,_,rfl,rfl,_,rfl,_,rfl,.inl e.2,rfl,kp _ _ F,(by unfold kvI;rw[Qa,Qx];exact Zs Á),Èm,?_,cq,Zb,?_,λb u g n=>?_)
  ·rw[US _ hv,QH,l];unfold kvI;rw[Qe];rfl
  ·rw[Zc S.symm];exact kp _ _ jq
  ·rw[sy,g,FM];exact kp _ _ (k2 b u g n)
 ·rintro W t r ⟨⟨B,C,rfl⟩,rfl,hi,F,jq,k2⟩;rw[sC,o,jq];have L:ZB H #[gQ,r,nd,kvN,c]:=λb u g=>by
   by_cases z:b=nd
   ·rw[z]at g ⊢;rw[fX,Y,g,g];exact Zb
   ·rw[Zc z];exact k2 b u g z
  have m3:#[gQ,r,nd,kvN,c] D=U (.dK (kvI c)):=by rw[Zc S,F];unfold kvN;rw[Qa,Qv ç]
  generalize upd r nd (.dK (kvN c))=H3 at L m3 ⊢;refine(_,rfl,M,rfl,(_,Í (L _ _ FL)),λD2 F=>?_);refine VQ (K:=K) (a:=M) (xs:=I.map λh=>ù h.1) (λi zs t N=>(X2 λB C:Ã V=>t=[U Àw,U (.ref M),U π,B,C])/\zs=(I.take i).map (λh=>Ä (thO (YT c h.2.1) h.2.2))/\i<=I.length/\N D2=U Ż/\ZB H3 N) #[hY,F] (λ_ _ _ _ h=>Í (h.2.2.2.2 _ _ (L _ _ FL))) ?_ ?_
  ·rintro i y zs t N G ⟨⟨B,C,rfl⟩,rfl,hi,X,O⟩;rw[Qq]at G;cases l:I[i]? with
   | none=>rw[l]at G;cases G
   | some x =>
   rw[ez,l,G,cq,I.length];have hx:=Qn l;obtain ⟨s,wL⟩|qa:=gc x hx;have uD:YT c x.2.1=s:=RC Z wL;have hvI:Y4 (kvI c) (.inl x.2.1)=U (.str s):=Vu (by unfold kvI;rw[Qo];exact inl_nd' Z) (Qd (f:=λe:ak×Int=>((.inl e.2:Key),Ä e.1,)) wL);refine(x.1,_,rfl,û (O _ _ (L _ _ (hht x hx))),rfl,_,_,rfl,_,_,rfl,rfl,_,rfl,_,rfl,D,_,rfl,ď (k:=.inl x.2.1) (O _ _ m3) hvI,_,rfl,s,x.2.2,rfl,(by have h8:Ër:=CA _ wL;lia),qa,X,(by rw[Qa,Qx,aO];lia),Èm,?_,cq,Zb,λb u g=>?_)
   ·rw[QH,l,Qe];show _=_++[Ä (thO (YT c x.2.1) x.2.2)];rw[uD]
   ·rw[sG,g,F,O,b,u]
  ·rintro zs t N ⟨⟨B,C,rfl⟩,rfl,_,X,O⟩;rw[Qa,Qv ç]at X;exact q D2 N (L.free F) X (L.trans O)
def MP(K:Å)(f:ae):Sp:=λvs H Q _=>X7 λ(d g m nd c:ae) (nm:À (ak×Int)) (a:À (ae×Yh))=>vs=#[rY,d,c]/\H d=U #[zU,f,g,m]/\H nd=U (.dK ÈA)/\Ëo<=20/\#[nB].Nodup/\ÛY/\H c=U #[hT,ŕ,t,t.1]/\(∀t∈a,H t.1=U #[fK,t.2.1,t.2.2.1,t.2.2.2])/\ľ<=1000/\(∀t∈a,(∃s,(s,t.2.1,)∈nm)/\t.2.2.2.length<=1000) /\
 ∀l b,H l=af->b l=U (.lst (ŕ λt=>Ä (thT (YT nm t.2.1) t.2.2.2)))->ZB H b->Q ć b
theorem Zmp(T:Ù)(Z:Û0):Df P w K mg Â 4 "written_things" ÇR (MP K aA):=by
 rw[h0,T.t_written_things.df,ZfU];obtain d|M|m|nd|v|C|j|rfl|hd|iy|wK|qG|CA|N|uE|FO|O|q:=h;refine(_,#[Zh,#[Zm,#[Zz,Z,hr,#[Ze,‹0›,#[XX,UI,Ëp,#[iC,2,UI,3,4],Η,(λ_ _ _ _=>#[Yx,#[Ze,#[cw,2,UI],#[cw,4,UI]]])]],È]]],?_);refine(_,rfl,_,rfl,v,rfl,#[gF,N],λD R=>?_);refine VQ (K:=K) (a:=v) (xs:=ÅX λt=>ù t.1) (λi zs F o=>(X3 λG I J:Ã V=>F=[U Àw,U (.ref v),G,I,J])/\(∃c:À (ae×Int×Ã ak),zs=ŏ (λu=>ù u.1)/\ŏ ę=(j.take i).map Û1/\∀u∈c,u.1≠D/\o u.1=U (.tup [.int u.2.1,oV u.2.2]))/\i<=Äc/\o D=U Ż/\ZB H o) ((af,af,af,rfl),#[sA,u,hu],Qs _,Zb,Zi R _) #[eD,N] ?_ ?_
 ·rintro i y zs F o p ⟨⟨G,I,J,rfl⟩,⟨c,rfl,k,L⟩,hi,B,n⟩;rw[Qq]at p;cases r:j[i]? with
  | none=>rw[r]at p;cases p
  | some x =>
  rw[ez,r,p,cq,Äc];have S:Ĥ=i:=by have:=#[eC,k];rw[Qa,Qa,Qx]at this;lia
  refine(x.1,_,rfl,û (n _ _ (uE x (Qn r))),rfl,_,_,rfl,_,_,rfl,_,_,rfl,rfl,_,rfl,_,rfl,Á6,λt g=>?_);have W:t≠D:=λz=>by rw[z,B]at g;cases g
  refine(Zi g _ _ _ B,#[eA,S],Ës,(c++[(t,x.2.1,U x.2.2.2,)],by rw[Qe];rfl,?_,λu hu=>?_),cq,Zb,λb u X=>?_)
  ·rw[QH,r,Qe,Qe,k];rfl
  ·rcases ë hu with hu|hu
   ·obtain Y|g2:=L u hu;exact(Y,by rw[Zc Y];exact Zi g _ _ _ g2)
   ·rw[ò hu];exact(W,by rw[Zc W];exact Zb)
  ·rw[sy,X,R];exact Zi g _ _ _ (n b u X)
 ·rintro zs F o ⟨⟨G,I,J,rfl⟩,⟨c,rfl,k,L⟩,_,B,n⟩;rw[Qa,Qv ç]at k;have l9:∀u∈c,∃t∈j,t.2.1=u.2.1/\U t.2.2.2=u.2.2:=λu hu=>by
   have:u.2∈ÅX Û1:=by rw[<- k];exact Qd (f:=Û2) hu
   rw[s0,t,g,e];exact(t,g,by rw[<- e],by rw[<- e])
  have S:Ĥ=Äc:=by have:=#[eC,k];rw[qd]
  refine(d,M,m,nd,D,C,c,rfl,n _ _ hd,n _ _ iy,wK,qG,CA,B,λu hu=>(L u hu).2,by lia,λu hu=>?_,λl H5 hl h5 s5=>?_)
  ·obtain t|g|e1|e2:=l9 u hu;rw[<- e1,<- e2];exact((O t g).1,λx hx=>by cases hx;exact(O t g).2)
  ·refine q l H5 (n.free hl) ?_ (n.trans s5);rw[h5];have:=ō (List.map λy:Int×Ã ak=>Ä (thO (YT C y.1) y.2)) k;rw[Qo,Qo]at this;exact ō (λz=>U (HO.lst z)) this
theorem MO{P:į}(h1:Ça<=16)(h2:∀x∈P,x.2.1.length<=180):ZQ P<=2880:=by
 unfold ZQ;have:∀l:À ZI,(∀x∈l,x.2.1.length<=180)->(Â0 λx=>x.2.1.length-x.2.2).sum<=180*ś:=λl=>by
  induction l with
  | nil=>intro _;exact Qf _
  | Î a r b=>intro h;rw[hx,h1,h2,b,x,c];rw[Qj,QR,QA];lia
 have:=this P h2;lia
theorem XT.rowOf{P b:į}{c:Ãa}{k q:Int}(h:XT P c b k q):∀x∈b,∃y∈P,y.2.1=x.2.1:=by
 induction h with
 | nil=>intro x a;exact(x,a,rfl)
 | Ň _ _ d=>intro x a;rw[em,w,hw,a];obtain y|f|e:=d w hw;rw[sC,y,f];unfold Wc;split<;>exact e
theorem XT.key{P b:į}{a:Ãa}{k q:Int}(h:XT P a b k q):∀t∈a,t.1∈ZY P/\∃x∈P,t.2.2∈x.2.1:=by
 induction h with
 | nil=>intro t ht;cases ht
 | Ň h s c =>
  rename_i a P1 x z k q k1 q1;intro t ht;rcases ë ht with ht|ht
  ·exact c t ht
  ·rw[ò ht];obtain y|d|e:=h.rowOf x s.1;exact(by rw[<- Ãc];exact Qd (f:=Ä9) s.1,y,d,by rw[e];exact Qn s.2.1)
theorem DOk.took{g h:ae}{H i:Hp}{X:MS}{nd:ae}{nm:Α}(D:DOk g h H X nd nm){n:Nat}{c:Ãa}{a:õ}{s':StL}{d:Ź}{k q:Int}(f:XT Àv c (ZP a) k q)(h1:Åa<(n:Int)->d=af)(h2:c≠[]->Åa<=(n:Int))
  (M:ZR g h i X.m Ń Φ a s' Đ (ň+k) (ŉ+q) (Yz d)) (W:Win (hdM a) (ZC a) d) (ok:Z1 (hdM a) s' (ZC a)) (fp:∀b,Fp X.m Ń Φ a b↔Fp X.m Ń Φ X.L b) (kp:∀b o,H b=U o->¬ Fp X.m Ń Φ X.L b->i b=U o) :
  ∃l,DTo g h H i X l nd nm nm (.take n) (blT (ŏ λt=>thT (YT nm t.1) t.2.2)):=by
 have m:=ZrE (ZrX D.mg) f h1 h2 W (λx p=>by obtain e|r|rfl:=Ħ p;exact(À3 e r).le);refine((X.m,Ń,Φ,a,s',Đ,ň+k,ŉ+q,d),.take f m,((M,W,ok),kp _ _ ĝ ψ,λz=>ψ ((fp nd).mp z),(?_,Ïh,?_)),rfl,λb j=>.inl ((fp b).mp j),λb u j s _=>kp b u j s)
 ·show Åc ę=ZY (ZP a);rw[f.num];exact D.ok.num
 ·show (ZY (ZP a)).Nodup;rw[f.num];exact D.ok.ndP
theorem Zmd(T:Ù)(S:Mf P w K mg Â 7 am "take_few" Í3 (Im K aw am))(Y:Û3)(Z:Ôp) :
  Df P w K mg Â 15 "ask_take" Ŝ (Yq aA aw am λo=>∃n,o=.take n):=by
 rw[ed,T.t_ask_take.df,ZkY,vs,j];obtain d|C|fl|m|X|nd|nm|o|rfl|F|jf|D|B|fP|hJ|hw|⟨n,rfl⟩|q:=h;refine(_,#[Zh,#[Zm,#[Zz,Z,j,#[Ze,#[Zz,Y,j,#[Ze,‹0›,#[XA,S,â,j,Ģ,#[Ze,Æd]]],È]],È]]],?_);rw[sp,dx,hm];have wM:=MO ÁY Æp;refine(_,rfl,_,rfl,d,aA,m,_,_,rfl,F,Ψ,Ãe,Wa ..,X.m,dx,_,rfl,hm,Zok ..,_,rfl,C,_,_,_,rfl,rfl,Í fP,rfl,X.m,Ń,Φ,X.L,X.s,Đ,ň,ŉ,X.w,(n:Int),rfl,Åf,D.mg.W,D.mg.ok,Qk wM É,λrr b L' s' w' k q' H1 hrr FQ mQ p FR si M W ok fp G=>?_);obtain X'|g:=D.took p #[ei,Qa,FR] (by rw[Qa];exact λz=>si λy=>z #[sJ,y]) M W ok fp G;have jB:=G _ _ F jf;have yR:ħ<=180:=by have h1:=p.tk.left D.ok.ndP;have I:ZQ Àv<=180:=B.tot;rw[Qa]at h1;have h3:(ÀO).P=ZP X.L:=rfl;lia
 have J:Ôq:=λe he=>(Ãg e he).2;have L:∀u∈b,Ôr/\u.2.2.2.length<=1000:=λu v=>by obtain g1|x|hx|g2:=p.key u.2 (Qd (f:=λu:ae×Yh=>u.2) v);rw[tq,y,hy,e,Ħ,g1];obtain s|i:=D.ok.has (show y∈(ÀO).P from hy);rw[em,z,hz,hx];exact((s,by rw[<- e];exact i),((Ïg z hz).str _ g2).1)
 refine(d,m,X.m,nd,rr,nm,b,rfl,jB,g.D.at',(by rw[Ïf];exact Qk ÁY É),Æq,J,FQ,mQ,Á,L,λl N hl I s2=>?_);have O:(ÍC).map (λt:Yh=>thT (YT nm t.1) t.2.2)=Âl λu=>thT (YT nm u.2.1) u.2.2.2:=by rw[Qo];rfl
 rw[O]at g;have c:=q X' nm _ N (g.same s2);clear q;generalize R:(Âl λu=>thT (YT nm u.2.1) u.2.2.2)=ws at c g O;have vz:N l=U #[en,ÁO]:=by rw[<- R,Qo];exact I
 refine(l,ws,rfl,Í vz,?_,c);rw[<- R];have e1:Æj:=by ac_rfl
 have:∀l:À (ae×Yh),(∀u∈l,Ôr/\u.2.2.2.length<=1000)->((Â0 λu=>thT (YT nm u.2.1) u.2.2.2).map Âq).sum<=1010*ś:=λl=>by
  induction l with
  | nil=>intro _;exact Qf _
  | Î a r ih =>
   intro h;obtain ⟨s,i⟩|h3:=h a Ö;have CC:=#[gt,ih,u,v];have h8:Ër:=J _ i;have h4:=Uv a.2.2.2;have h5:(thT (YT nm a.2.1) a.2.2.2).length<=1010:=by rw[RC (nm:=nm) Æq i];rw[rn];lia
   rw[Qj,Qj,QR,QA];lia
 have:=this b L;rw[Qa];lia
theorem Zl7(T:Ù)(g:#[eT,2,"left",Ą,IV]):Df P w K mg Â 15 "ask_left" Ŝ (Yq aA aw am λo=>o=.left):=by
 rw[ed,T.t_ask_left.df,Zkn,j,a];rw[r7,k,l,b,c,m];refine(_,#[Zh,#[Zm,#[W4,(SN K a),Èy,Èz,#[Ze,#[Yi,g,â,a,Ģ]]]]],?_);rw[sp,n,p];have wM:ZQ Àv<=2880:=MO ÁY Æp;obtain r|t|u|g4:=MR (i:=((ZQ Àv:Nat):Int)) Á;refine(_,rfl,d,aA,b,_,_,rfl,m,Ψ,Ãe,Wa ..,X.m,n,_,rfl,p,ZmD ..,X.m,Ń,Φ,X.L,X.s,Đ,ň,ŉ,_,rfl,Åf,λv x=>?_);rw[ZuO λe y=>(Ïg e y).le];exact(_,.int _,rfl,.int _,r,t,u,q X c _ v (Ãf .left x))
theorem ZmI(T:Ù)(L:#[eT,3,"heads",Ą,IT])(M:Û0)(N:Ôp):Df P w K mg Â 15 "ask_rows" Ŝ (Yq aA aw am λo=>o=.rows):=by
 rw[ed,T.t_ask_rows.df,Zlk,O,k];rw[r7,R,S,m,nm,v];refine(_,#[Zh,#[Zm,#[Zz,N,k,#[Ze,#[Zz,M,k,#[Ze,‹0›,#[Yi,L,â,k,Ģ]],È]],È]]],?_);rw[sp,W,Y];refine(_,rfl,_,rfl,d,aA,m,_,_,rfl,v,Ψ,Ãe,Wa ..,X.m,W,_,rfl,Y,Zlq ..,X.m,Ń,Φ,X.L,X.s,Đ,ň,ŉ,_,rfl,Åf,λl H1 hl Z n=>?_);obtain c|i|cT|wN:=Z;have e0:Uz (X.L.map toL)=(Àv).map λx:ZI=>(x.1,x.2.1[x.2.2]?,):=by unfold Uz ZP;rw[Qo,Qo];rfl
 rw[e0]at i;have C:Ôq:=λe he=>(Ãg e he).2;have kE:Ĥ=(Àv).length:=by have:=#[eC,i];rw[qd]
 have iY:(Àv).length<=16:=ÁY;have l9:∀u∈c,∃x∈ZP X.L,x.1=u.2.1/\x.2.1[x.2.2]? = u.2.2:=λu g=>by
  have:u.2∈(Àv).map λx:ZI=>(x.1,x.2.1[x.2.2]?,):=by rw[<- i];exact Qd (f:=Û2) g
  rw[s0,x,b,e];exact(x,b,by rw[<- e],by rw[<- e])
 have hk:∀u∈c,Ôr/\∀x,u.2.2=U x->Č<=1000:=λu g=>by obtain x|b|F|G:=l9 u g;rw[nT];refine((s,by rw[<- F];exact j),λy I=>?_);rw[I]at G;rw[em,z,p,b];exact#[tE,z,p,G].1
 have e3:ŏ (λh=>Ä ÛZ)=(Wo Àv nm).map Ä:=by have:=ō (List.map λy:Int×Ã ak=>Ä (thO (YT nm y.1) y.2)) i;rw[Qo,Qo]at this;unfold Wo;rw[Qo];exact this
 refine(d,m,X.m,nd,l,nm,c,rfl,n _ _ v,n _ _ ĝ,#[fL,Ïf],Æq,C,cT,wN,Á,hk,λl2 H2 bN J s2=>?_);rw[e3]at J;have F:Æj:=by ac_rfl
 have vi:#[gB,":.",2]:=by ac_rfl
 have t:=q X nm _ H2 (Ãf .rows (n.trans s2));have oR:((Wo Àv nm).map Âq).sum<=1010*(Àv).length:=by
  have:∀P:À ZI,(∀x∈P,(thO (YT nm x.1) x.2.1[x.2.2]?).length<=1010)->((Wo P nm).map Âq).sum<=1010*Ça:=λP=>by
   induction P with
   | nil=>intro _;exact Qf _
   | Î a r ih=>intro h;rw[hx,h5,h6,ih,u,g];rw[zB,Wo,h6];rw[Qj,Qj,QR,QA];lia
  refine this _ λx b=>?_;rw[nT];have h8:Ër:=C _ j;rw[RC (nm:=nm) Æq j];cases hg:x.2.1[x.2.2]? with
  | none=>show (s ++ ":.").length<=1010;rw[QI];lia
  | some y=>obtain z|p|rfl:=Ħ b;have I:=#[tE,z,p,hg].1;have h4:=Uv y;show (thT s y).length<=1010;rw[rn];lia
 have j3:(Wo Àv nm).length=(Àv).length:=by unfold Wo;rw[Qa]
 exact(l2,Wo Àv nm,rfl,Í J,by rw[j3];lia,t)
theorem Zkd(T:Ù)(M:Ûj)(N:Û3)(O:Ôp):Df P w K mg Â 15 "ask_coming" Ŝ (Yq aA aw am λo=>o=.coming):=by
 rw[ed,T.t_ask_coming.df,JL,R,b];rw[r7,S,V,i,nm,m];refine(_,#[Zd,#[Zu,3,JL.nd,à,#[Yi,M,â,b,Ģ]],#[Zh,#[Zm,#[Zz,O,b,#[Ze,#[Zz,N,b,#[Ze,‹0›,#[Z4,#[g6,3],Ãh,#[ZZ,Èi]]],È]],È]]]],?_);rw[sp,W,Y];have n:Ôq:=λe j=>(Ãg e j).2;have I:Ëo<=20:=by rw[Ïf];exact Qk ÁY É
 refine(_,rfl,d,aA,i,_,_,rfl,m,Ψ,Ãe,Wa ..,X.m,W,_,rfl,Y,IQ ..,X.m,Ń,Φ,X.L,X.s,Đ,ň,ŉ,X.w,rfl,Åf,D.mg.W,λx H1 Z g=>?_);rcases Z with⟨rfl,k⟩|⟨t,e0,z,rfl,BR,hz,ht,l⟩
 ·refine(_,rfl,_,rfl,rfl,_,rfl,Y0 rfl #[sY,b]);have a:=Zi b Ş;refine(d,i,X.m,nd,r,nm,[],rfl,a _ _ (g _ _ m),a _ _ (g _ _ ĝ),I,Æq,n,Zb,#[eB,u,c],É,#[eB,u,c],λp v bN y C=>?_);have k:Win (hdM X.L) Æh af:=by rw[<- UA];exact k
  rw[Wb,XO]at k;exact(p,[],rfl,Í y,by decide,q X nm _ v (Ãf (.comNo k) ((ËM a).trans C)))
 ·rw[em,e,j,BR];have J:(Ãb:ZI)∈ZP X.L:=Qd (f:=Ès) j;obtain s|F:=D.ok.has (show (Ãb:ZI)∈(ÀO).P from J);have L:Ôs:=hz;have yD:=#[tE,e,j,L].1;have l:Win (hdM X.L) Æh (U e.n):=by rw[<- UA];exact l
  rw[Wb,XO]at l;have FS:Win (hdP Àv) (ZY Àv) (U e.n):=l;refine(_,rfl,_,rfl,rfl,_,rfl,YO ÁL (_,rfl,#[eJ,1,aq],λr b=>?_));have a:=Zi b (.lst [.ref t]);refine(d,i,X.m,nd,r,nm,[(t,(e.n,e.g,z,),)],rfl,a _ _ (g _ _ m),a _ _ (g _ _ ĝ),I,Æq,n,Zb,(λu c=>by rw[ò c];exact a _ _ ht),#[eJ,1,1000],(λu c=>by rw[ò c];exact((s,F),yD)),λp v bN y C=>?_);have G:=q X nm _ v (Ãf (.com J L FS) ((ËM a).trans C));have h8:Ër:=n _ F;have h4:=Uv z;have e1:Æj:=by ac_rfl
  have hl:(thT (YT nm e.n) z).length<=1010:=by rw[RC (nm:=nm) Æq F];rw[rn];lia
  refine(p,Ët,rfl,Í y,?_,?_)
  ·show (thT (YT nm e.n) z).length+0+1<=1000000;lia
  ·have ej:ÀJ " " Ët=thT (YT nm e.n) z:=by
    have e:ÀJ (" " : ak) Ët=Àt " " Ët:=by simpa using ÊE (" " : ak) Ët
    rw[e];rfl
   rw[Ç Ö,ej];exact G
def Od.kinds:Od->À ak
 | .row _ _=>["name"]
 | .grow _ _=>["name"]
 | .drop _=>["name"]
 | .take _=>["many"]
 | .coming=>[]
 | .left=>[]
 | .rows=>[]
def Od.fk:Od->V
 | .row _ _=>.str "key"
 | .grow _ _=>.str "key"
 | _=>.non
def Od.sw:Od->À ak
 | .row s _=>[s]
 | .grow s _=>[s]
 | .drop s=>[s]
 | .take n=>[WX n]
 | .coming=>[]
 | .left=>[]
 | .rows=>[]
def Od.fw:Od->À ak
 | .row _ ks=>Ů kT0
 | .grow _ ks=>Ů kT0
 | _=>[]
def Od.ws(o:Od):À ak:=Âx::Û4
def Ω(o:Od):ak:=ÀJ " " o.ws
structure ZwF (o:Od):Prop where
 l1:o.kinds.length=Ây
 l2:o.sing.length=Ây
 l3:o.furt.length=Ëu
 s:∀ (i:Nat) (k wd:ak) (v:V),o.kinds[i]? = U k->o.sw[i]? = U wd->ÈE[i]? = U v->RdW k wd v
 f:o.fw=[]/\o.fk=.non\/(o.fk=.str "key"/\∀ (i:Nat) (wd:ak) (v:V),o.fw[i]? = U wd->ÈF[i]? = U v->RdW "key" wd v)
 few:Ëu<=10
theorem HC{o:Od}(h:OdW o):ZwF o:=by
 have one:∀ {q:Type} {a x:q} {i:Nat},[a][i]? = U x->a=x:=λ{q a x i} h=>ò (Qn h) |>.symm;have e:∀ks:À ak,KsS ks->(∀ (i:Nat) (c:ak) (v:V),ÛI[i]? = U c->Û5[i]? = U v->RdW "key" c v)/\(ÛI).length<=10/\(Û5).length=(ÛI).length:=λks r=>by
  refine(λi c v b d=>?_,by rw[Qa];exact Qk r.1 É,by rw[Qa,Qa]);rw[Qq]at b d;cases f:ks[i]? with
  | none=>rw[f]at b;cases b
  | some x=>rw[f]at b d;cases b;cases d;obtain t|u:=r.2 x (Qn f);exact .inr (.inl (rfl,x,rfl,rfl,u,t))
 have g:∀s:ak,NmS s->∀ (i:Nat) (k c:ak) (v:V),(["name"]:À ak)[i]? = U k->[s][i]? = U c->[Ä s][i]? = U v->RdW k c v:=λs w i k c v b d j=>by have l:=one b;rw[nV];exact .inl (rfl,rfl,w)
 cases o with
 | row s ks=>exact Û6
 | Àx s ks=>exact Û6
 | Ày s=>exact(rfl,rfl,rfl,g s h,.inl Ŕ,Qs _)
 | Àz n=>refine(rfl,rfl,rfl,λi k c v b d j=>?_,.inl Ŕ,Qs _);have l:=one b;rw[nV];exact .inr (.inr (rfl,n,rfl,rfl,h))
 | ÃW=>exact Ôt
 | left=>exact Ôt
 | Àu=>exact Ôt
theorem ZsR(d:Æi)(o:Od):X2 λt g:ae=>ĵ K bp Âx=U (U Ât)/\(∀H,SqT K H g Ü7)/\∀H,SqT K H t [.ref g,o.fk]:=by
 cases o with
 | row s ks=>obtain a|b|c|e|f:=d.d_FORMS_row;exact Ær
 | Àx s ks=>obtain a|b|c|e|f:=d.d_FORMS_grow;exact Ær
 | Ày s=>obtain a|b|c|e|f:=d.d_FORMS_drop;exact Ær
 | Àz n=>obtain a|b|c|e|f:=d.d_FORMS_take;exact Ær
 | ÃW=>obtain a|b|c|e|f:=d.d_FORMS_coming;exact Ær
 | left=>obtain a|b|c|e|f:=d.d_FORMS_left;exact Ær
 | Àu=>obtain a|b|c|e|f:=d.d_FORMS_rows;exact Ær
theorem MN(o:Od):Âx∈(["row", "grow", "drop", "take", "coming", "left", "rows"]:À ak):=by cases o;exact .head _;exact .tail _ (.head _);exact .tail _ (.tail _ (.head _));exact .tail _ Ôu;exact .tail _ (.tail _ Ôu);exact .tail _ Û7;exact .tail _ (.tail _ Û7)
theorem RB{c:Nat}{z:ak}(h:AZ z)(hc:c<97):c ∉ Âa:=λm=>by have:=h c m;lia
theorem Zvj{c:Nat}{k:ak}(h:AZ k)(hc:c<97)(a:c≠45):c ∉ (kT0 k).cps.toList:=by
 unfold kT0;split
 ·show c ∉ ("-" : ak).cps.toList;rw[show ("-" : ak).cps.toList=[45] from by ac_rfl];intro m;exact a (ò m)
 ·exact RB h hc
theorem HB{o:Od}(h:OdW o){c:Nat}(hc:c<45):∀z∈o.ws,c ∉ Âa:=by
 have first:∀o:Od,c ∉ o.first.cps.toList:=λo m=>by
  have:∀z∈(["row", "grow", "drop", "take", "coming", "left", "rows"]:À ak),z.cps.toList.all (λx=>decide (97<=x))=true:=by ac_rfl
  have:=Qae.mp (this _ (MN o)) c m;have:=Ŀ this;lia
 have a:∀ks:À ak,KsS ks->∀z∈Ů kT0,c ∉ Âa:=λks b z hz=>by obtain x|d|rfl:=Ħ hz;exact Zvj (b.2 x d).2 Á Á
 intro z hz;unfold Od.ws at hz;rcases Ĳ hz with rfl|hz
 ·exact first o
 rcases ë hz with hz|hz
 ·cases o with
  | row s ks=>rw[ò hz];exact RB h.1.1 Á
  | Àx s ks=>rw[ò hz];exact RB h.1.1 Á
  | Ày s=>rw[ò hz];exact RB (show NmS s from h).1 Á
  | Àz n=>rw[ò hz];intro m;have:=HR (show FN n from h) c m;lia
  | ÃW=>cases hz
  | left=>cases hz
  | Àu=>cases hz
 ·cases o with
  | row s ks=>exact Ïi
  | Àx s ks=>exact Ïi
  | Ày s=>cases hz
  | Àz n=>cases hz
  | ÃW=>cases hz
  | left=>cases hz
  | Àu=>cases hz
theorem MM(sep:ak)(ws:Ñ)(m n:Nat)(h:∀s∈ws,ŝ<=m)(b:ť<=n)(h1:ÌI=1):(ÀJ sep ws).length<=n*(m+1):=by
 have j:=JI sep ws;have:∀l:À ak,#[tu,l,m]->(Â0 Âq).sum<=ś*m:=λl=>by
  induction l with
  | nil=>intro _;simp
  | Î a l c=>intro h;rw[hx,h1,d,c,s,e];rw[Qj,QR,QA,Ñj];lia
 have d:=this ws h;have h3:ť*m+ť*1<=n*(m+1):=by rw[<- Nat.mul_add];exact Nat.mul_le_mul_right _ b
 rw[h1]at j;lia
theorem WW(ks:Ñ):inV .non Û5=false/\(Û5).all Xc=true:=by
 induction ks with
 | nil=>exact Ŕ
 | Î a r b =>
  refine ÌF
  ·show (eqV (Ä a) .non||inV .non (Âm Ä))=false;rw[b.1];rfl
  ·show (Xc (Ä a)&&(Âm Ä).all Xc)=true;rw[b.2];rfl
theorem Ztf(o:Od):(inV .non ÈE=false/\o.sing.all Xc=true)/\inV .non ÈF=false/\o.furt.all Xc=true:=by
 cases o with
 | row s ks=>exact(WW [s],WW ks)
 | Àx s ks=>exact(WW [s],WW ks)
 | Ày s=>exact(WW [s],WW [])
 | Àz n=>exact((rfl,rfl),WW [])
 | ÃW=>exact Ôv
 | left=>exact Ôv
 | Àu=>exact Ôv
theorem ML{o:Od}(h:OdW o):ÁN Áo " " = o.ws:=by
 have e:#[f2," ",32]:=by ac_rfl
 unfold Ω;rw[e];exact Ke (by unfold Od.ws;simp) (HB h Á)
theorem MK{o:Od}(h:OdW o):o.ws.length<=12/\∀z∈o.ws,Ľ<=50:=by
 have first:o.first.length<=50:=(by ac_rfl:∀z∈(["row", "grow", "drop", "take", "coming", "left", "rows"]:À ak),Ľ<=50) _ (MN o)
 have a:∀ks:À ak,KsS ks->∀z∈Ů kT0,Ľ<=50:=λks b z hz=>by obtain x|c|rfl:=Ħ hz;have:=(b.2 x c).1;have:=Uv x;lia
 have R:=HC h;have l1:=R.few;have ls:Ây<=1:=by cases o<;>first|exact Qf _|exact Qs _
 refine(by unfold Od.ws;rw[QA,Qi];lia,λz hz=>?_);unfold Od.ws at hz;rcases Ĳ hz with rfl|hz
 ·exact first
 rcases ë hz with hz|hz
 ·cases o with
  | row s ks=>rw[ò hz];exact Qk h.1.2.2 É
  | Àx s ks=>rw[ò hz];exact Qk h.1.2.2 É
  | Ày s=>rw[ò hz];exact Qk (show NmS s from h).2.2 É
  | Àz n=>rw[ò hz];exact Qk (HQ (show FN n from h)).2 É
  | ÃW=>cases hz
  | left=>cases hz
  | Àu=>cases hz
 ·cases o with
  | row s ks=>exact Ïi
  | Àx s ks=>exact Ïi
  | Ày s=>cases hz
  | Àz n=>cases hz
  | ÃW=>cases hz
  | left=>cases hz
  | Àu=>cases hz
structure U8 (H:Hp) (x:ae×ae×ae) (o:Od):Prop where
 t:H x.1=U (.tup [.str Âx,.ref x.2.1,.ref x.2.2])
 s:H x.2.1=U (.lst ÈE)
 f:H x.2.2=U (.lst ÈF)
theorem U8.same{H a:Hp}{x:ae×ae×ae}{o:Od}(h:U8 H x o)(s:ZB H a):U8 a x o:=(s _ _ h.t,s _ _ h.s,s _ _ h.f)
def HA:Sp:=λvs H Q _=>∃o:Od,vs=[.str Áo]/\OdW o/\∀ (x:ae×ae×ae) a,ZB H a->H x.1=af->H x.2.1=af->H x.2.2=af->U8 a x o->Q (.ref x.1) a
theorem Zma(T:Ù)(v:Æi)(fS:Df P w K mg Â 3 "read_word" Í8 HM)(eX:Df P w K mg Â 1 "may_be_further" ÊM HK):Df P w K mg Â 4 "order_in" ["row"] HA:=by
 rw[h0,T.t_order_in.df,VW];obtain o|rfl|hw|q:=h;refine(_,#[Zd,#[YC,Û8,(@ZrM _ _ _ _ _ K #[Zp,#[sa,1,Æs],(@Zqy _ _ _ _ #[sa,2,Æs] È)] È È È È)],#[Zd,#[ZN,#[Zk,Zsm,‹1›,#[UP,v.m_FORMS],ÀZ],Ç7,ï],#[Zd,#[YC,#[ZD,Ps,#[UP,v.m_FORMS],‹1›],#[gT,K,2,#[Zp,#[sa,3,Æs],#[Zp,#[Zy,4,Æs,ÂM],ÈG]]]],#[Zd,#[Zu,5,Æs,à,Ói],#[Zd,#[ZN,(@Ř _ _ _ #[W5,#[Zk,WT,Î0,‹5›,þ],#[W6,(@Ut _ _ _ _ #[Xi,#[Zz,eX,hr,#[Ze,Ôw,#[ZK,U3,Î0,‹5›]],È]])]]),Ç7,ï],#[Zd,#[UV,6,Æs,UJ,#[iZ,K,Óg,#[e5,3,2]],#[ex,8,UJ,9],Η,(λ_ _ _ _=>#[Zz,fS,hr,#[Ze,#[cw,8,UJ],#[cw,9,UJ]],#[hb,UJ]])],#[Zd,#[UV,7,Æs,TF,#[iL,K,#[hj,2,5]],#[fO,8,TF],Η,(λ_ _ _ _=>#[Zz,fS,hr,#[Ze,#[cv,4,TF],#[cw,8,TF]],#[hb,TF]])],#[Zh,#[Zm,#[Z4,(@Ř _ _ _ #[W5,#[Zk,(inQ K),ş,‹6›,ÀZ],#[W6,#[Zk,(inQ K),ş,‹7›,ÀZ]]]),ş,#[Yx,#[fB,1,6,7]]]]]]]]]]]],?_);have R:=HC hw;obtain jT|hwz:=MK hw;obtain t|I|eJ|CD|ht:=ZsR v o;have El:Ây<=1:=by cases o<;>first|exact Qf _|exact Qs _
 have e1:Èx:=by ac_rfl
 have wP:o.txt.length<=aq:=Qk (MM " " o.ws 50 12 hwz jT e1) É;refine(_,rfl,rfl,Áo, " ",rfl,rfl,ú,wP,(by rw[ML hw];exact ē Á),λa ha=>?_);rw[ML hw];refine(a,.str Âx,(Û4).map Ä,rfl,Í Zb,(by rw[Qa,Qi];have:=R.few;lia),λl hl=>?_);have J:=(Zi ha #[en,o.ws.map]).trans (Zi hl (.lst Ïj));have n:(upd (upd H a #[en,o.ws.map]) l (.lst Ïj)) l=U (.lst Ïj):=Zb;generalize upd (upd H a (.lst (o.ws.map Ä))) l (.lst ((o.sw++o.fw).map Ä))=L at J n ⊢;refine(_,_,rfl,_,_,rfl,rfl,_,rfl,bp,Âx,_,rfl,rfl,v.kd_FORMS,eJ,_,rfl,Y8 ?_);refine(_,rfl,bp,Âx,.ref t,_,rfl,rfl,v.kd_FORMS,eJ,rfl,t,_,rfl,ht L,rfl,_,_,rfl,_,_,rfl,rfl,_,rfl,I,_,rfl,.inr (CD L),?_);have ek:((Ü7).length:Int)=Ôx:=by rw[Qa,R.l1]
 have el:((Ïj).length:Int)=Ôx+(Ëu:Int):=by rw[Qa,Qi];lia
 rw[ek];refine(_,rfl,l,_,rfl,.inl (Í n),_,rfl,_,_,rfl,rfl,_,rfl,?_);rw[el];refine YO Á ?_;refine(_,rfl,_,rfl,l,_,rfl,.inl (Í n),_,rfl,_,_,rfl,rfl,?_);rw[el];refine(o.fk,_,rfl,?_,_,rfl,Y8 ?_)
 ·rcases R.f with⟨h1,h2⟩|⟨h1,_⟩
  ·exact .inl (h2,by rw[h1];show (Ây:Int)+0-_=0;lia)
  ·exact .inr h1
 refine(_,rfl,_,rfl,.t I,.l l,o.kinds.map Ä,(Û4).map Ä,rfl,CD L,Í n,λD hD=>?_);refine SS (λi zs j d=>(X2 λm v2:Ã V=>j=[U (.str Áo),U (.str Âx),U ć,U (.ref I),U o.fk,U #[hG,Ây],af,af,m,v2])/\zs=o.sing.take i/\i<=Ây/\d D=U Ż/\ZB L d) #[hY,hD] (λ_ _ _ _ h=>(CD _,Í (h.2.2.2.2 _ _ n))) ?_ ?_
 ·rintro i zs j d x y p z c ⟨⟨m,v2,rfl⟩,rfl,hi,M,B⟩ hp;rw[Qq]at z c;cases N:o.kinds[i]? with
  | none=>rw[N]at z;cases z
  | some k =>
  rw[fX,N,z,z];have e:i<Ây:=by rw[<- R.l1];exact(Ũ N).1
  rw[QT e]at c;cases g:o.sw[i]? with
  | none=>rw[g]at c;cases c
  | some r =>
  rw[fX,g,c,c];have C:ÈE[i]? = U (ÈE[i]'#[ei,R.l2,e]):=Qb _;have kp:ZB d (upd d p (.tup [Ä k,.str r])):=Zi hp _;refine(p,_,rfl,û Zb,rfl,_,_,rfl,_,_,rfl,rfl,_,rfl,_,rfl,k,r,_,rfl,R.s i k r _ N g C,kp _ _ M,#[fd,Qx,Zs,Á],Èm,?_,e,Zb,λb u F=>?_)
  ·rw[QH,C];rfl
  ·rw[sB,F,hD,kp,B,b]
 rintro zs j d ⟨⟨m,v2,rfl⟩,rfl,_,M,B⟩;have FT:min (Ü7).length (Ïj).length=o.sing.length:=by rw[Qa,Qa,Qi,R.l1,R.l2];lia
 rw[FT,Qv ç]at M;have qH:Yg Ïj (U Ôx) af=Ëv Ä:=by rw[(RH Û4 Ây #[fL,Qi]).2,List.drop_left]
 refine(_,rfl,_,rfl,_,rfl,l,_,rfl,Í (B _ _ n),λp hp=>?_);rw[qH];have O:=Zi hp #[en,Ëv];rw[g8,uz,d,p,Ëv];have m3:=O _ _ M;generalize upd d p (.lst (Ëv Ä))=H3 at O uz m3 ⊢;refine(p,rfl,#[gF,uz],λS W=>?_);have nDD:D≠S:=Zf m3 W;refine VQ (K:=K) (a:=p) (xs:=Ëv Ä) (λi zs j X=>(∃m:Ã V,j=[U (.str Áo),U (.str Âx),U ć,U (.ref I),U o.fk,U #[hG,Ây],U π,af,m])/\zs=o.furt.take i/\i<=Ëu/\X S=U Ż/\ZB H3 X) #[gC,W] #[eD,uz] ?_ ?_
 ·rintro i y zs j X c ⟨⟨m,rfl⟩,rfl,hi,G,Y⟩;rw[Qq]at c;cases g:o.fw[i]? with
  | none=>rw[g]at c;cases c
  | some r =>
  rw[ez,g,c,e,Ëu];rcases R.f with⟨h0,_⟩|⟨hfk,hf⟩
  ·rw[h0]at e;exact Ê e (ÛJ _)
  have C:ÈF[i]? = U (ÈF[i]'#[ei,R.l3,e]):=Qb _;refine(_,rfl,_,rfl, "key",r,_,#[sJ,hfk],hf i r _ g C,G,(by rw[Qx];have:=R.few;exact Zs Á),ü,?_,e,Zb,λb u F=>?_)
  ·rw[QH,C];rfl
  ·rw[sG,F,W,Y,b,u]
 rw[sZ,j,X,m,G,Y];rw[Qa,<- R.l3,Qv ç]at G;obtain ⟨b1,b2⟩|b3|b4:=Ztf o;have rK:=Y _ _ m3;refine(_,rfl,D,_,rfl,.inl (Í rK),rfl,b2,_,rfl,?_);rw[Ç Qu,b1];refine Y8 (_,rfl,S,_,rfl,.inl (Í G),rfl,b4,_,rfl,?_);rw[Ç Qu,b3];refine Y8 (_,rfl,_,rfl,_,rfl,ÁM,λtt Z=>?_);have sk:=((J.trans B).trans O).trans Y;exact q (tt,D,S,) _ (sk.trans (Zi Z _)) (sk.free Z) (J.free hD) (((J.trans B).trans O).free W) (Zb,Zi Z _ _ _ rK,Zi Z _ _ _ G)
theorem Hy{c s:Nat}:∀xs:À (À Nat),c∈gl s xs->c=s\/∃x∈xs,c∈x
 | [],h=>by cases h
 | [a],h=>.inr (a,by simp,h)
 | a::b::r,h=>by
  have h':c∈a++s::gl s (b::r):=h;rcases ë h' with h'|h'
  ·exact .inr (a,by simp,h')
  ·rcases Ĳ h' with h'|h'
   ·exact .inl h'
   ·rcases Hy (b::r) h' with z|⟨x,d,z⟩
    ·exact .inl z
    ·exact .inr (x,Qm _ d,z)
theorem Zso{o:Od}(h:OdW o):10 ∉ o.txt.cps.toList:=λm=>by
 have e:#[f2," ",32]:=by ac_rfl
 have a:Áo=Àt ⟨[32].toArray⟩ o.ws:=by unfold Ω;rw[e];simpa using ÊE (⟨[32].toArray⟩:ak) o.ws
 rw[a,Pt]at m;rcases Hy _ m with z|⟨x,b,z⟩
 ·exact Ê z É
 ·rw[em,w,hw,b];exact HB h É w hw z
theorem Zn3{o:Od}(h:OdW o):¬ Ä Áo=Ä "":=λz=>by
 injection z with z;have e:=ML h;rw[z]at e;have a:ÁN ("" : ak) " " = [("" : ak)]:=by ac_rfl
 rw[a]at e;unfold Od.ws at e;injection e with e _;exact Ê ((by ac_rfl:∀z∈(["row", "grow", "drop", "take", "coming", "left", "rows"]:À ak),z ≠ "") _ (MN o)) (λf=>f Ã3)
theorem MJ{o:Od}(h:OdW o):o.txt.length<=612:=MM " " o.ws 50 12 (MK h).2 (MK h).1 ú
def ShT(os:Âw):ak:=ÀJ "\n" Ôy
theorem Hw{os:Âw}(h0:os≠[])(h:Ôz):ÁN (ShT os) "\n" = Ãi Ω:=by
 have e:#[f2,"\n",10]:=by ac_rfl
 unfold ShT;rw[e];exact Ke #[eg,h0] λz a=>by obtain o|b|rfl:=Ħ a;exact Zso (h o b)
def Hv(H:Hp)(l:ae)(xs:À (ae×ae×ae))(os:Âw):Prop:=H l=U #[hT,ÆC,x,x.1]/\ã=Ám/\∀ (i:Nat) x o,xs[i]? = U x->os[i]? = U o->U8 H x o
def Ht:Sp:=λvs H Q _=>∃os:À Od,vs=[.str (ShT os)]/\(∀o∈os,OdW o)/\Ám<=90/\∀ (l:ae) (xs:À (ae×ae×ae)) (a:Hp),ZB H a->H l=af->Hv a l xs os->Q ć a
theorem ZoB(T:Ù)(iF:#[hk,4,"order_in","row",HA]):Df P w K mg Â 5 "orders_in" ["text"] Ht:=by
 rw[h0,T.t_orders_in.df,TQ];obtain os|rfl|hw|wQ|q:=h;refine(_,#[Zd,#[hc,1,TQ.nd],#[Zd,#[XI,χ,#[iE,K,Ól,#[Ze,Û8]],#[r8,TQ.nd],#[Zh,#[ZN,#[eq,VE,3,Ý],#[Zd,#[Zu,4,TQ.nd,à,#[Zz,iF,hr,Èi,È]],#[Zd,#[ZN,#[g6,4],ÎB,ï],#[Zh,#[ga,1,4]]]],ï]]],#[fq,1]]],?_);have e1:#[gB,"\n",1]:=by ac_rfl
 by_cases h0:os=[]
 ·subst h0;rw[bl];have jS:ÁN (ShT []) "\n" = [("" : ak)]:=by ac_rfl
  refine(_,rfl,rfl,ShT [], "\n",rfl,rfl,ú,(by rw[show (ShT []).length=0 by ac_rfl];decide),#[fY,jS],λa W=>?_);rw[jS];have r:=Zi W ÔA;rw[fv,t,N,a,ÔA];have O:=r _ _ J;generalize upd N a (.lst ([("" : ak)].map Ä))=H2 at r t O ⊢;refine Û9;refine SQ (λi v d=>(X3 λB C D:Ã V=>v=[U (.str (ShT [])),U ć,B,C,D])/\d a=U ÔA/\d l=U Ş/\ZB H d) ((_,_,_,rfl),t,O,M.trans r) (λ_ _ _ h=>Í h.2.1) ?_ ?_
  ·rintro i y v d p e ⟨⟨B,C,D,rfl⟩,R,m,F⟩ hp;have l5:y=.str "":=by
    match i,e with
    | 0,e=>cases e;rfl
    | i+1,e=>cases e
   subst l5;have n:=Zi hp (.tup [.int (i:Int),.str ""]);refine Üa;rw[xS];exact Y8 ((_,_,_,rfl),n _ _ R,n _ _ m,F.trans n)
  ·rintro v d ⟨⟨B,C,D,rfl⟩,R,m,F⟩;exact(_,rfl,q l [] d F I (m,rfl,λi x o h=>by cases h))
 have wP:(ShT os).length<=aq:=Qk (MM "\n" Ôy 612 90 (λz G=>by obtain o|X|rfl:=Ħ G;exact MJ (hw o X)) #[ei,Qa,wQ] e1) É;rw[bl];refine(_,rfl,rfl,ShT os, "\n",rfl,rfl,ú,wP,(by rw[Hw h0 hw,Qa];exact Qk wQ É),λa W=>?_);rw[Hw h0 hw];have r:=Zi W ÔB;rw[rM,t,N,a,ÔB];have O:=r _ _ J;generalize upd N a (.lst ((Ãi Ω).map Ä))=H2 at r t O ⊢;have nal:a≠l:=(Zf J W).symm;refine Û9;refine SQ (λi v d=>(X3 λB C D:Ã V=>v=[U (.str (ShT os)),U ć,B,C,D])/\i<=Ám/\d a=U ÔB/\#[fF,u,H,d]/\∃g,Hv d l g ÈH/\∀x∈g,x.1≠l/\x.2.1≠l/\x.2.2≠l) ((_,_,_,rfl),Qs _,t,M.trans r,[],(O,rfl,λi x o h=>by simp at h),λx h=>by cases h) (λ_ _ _ h=>Í h.2.2.1) ?_ ?_
 ·rintro i y v d p e ⟨⟨B,C,D,rfl⟩,hi,R,F,g,⟨m,yZ,lY⟩,dw⟩ hp;rw[Qq,Qq]at e;cases G:os[i]? with
  | none=>rw[(G)]at e;cases e
  | some o =>
  rw[ez,G,e,cq,Ám];have X:=hw o (Qn G);have n:=Zi hp (.tup [.int (i:Int),.str Áo]);refine Üa;rw[ĕ (Zn3 X)];refine YM (_,rfl,o,rfl,X,λx H4 s4 f1 f2 f3 hx=>?_);refine Îq;have Y:=n.trans s4;have kb:=Y _ _ m;have g1:x.1≠l:=λz=>by rw[z,n _ _ m]at f1;cases f1
  have g2:x.2.1≠l:=λz=>by rw[z,n _ _ m]at f2;cases f2
  have g3:x.2.2≠l:=λz=>by rw[z,n _ _ m]at f3;cases f3
  have FU:ÆQ=i:=by rw[yZ,Qx];lia
  refine(_,rfl,.inl #[eG,kb],_,rfl,l,_,_,rfl,rfl,kb,#[eA,FU],Ës,cq,?_,λb u hb=>?_,g++[x],(?_,?_,λj k Z L S=>?_),λk bV=>?_)
  ·rw[Zc nal];exact Y _ _ R
  ·rw[sB,hb,I,Y,F,b]
  ·rw[Zb,Qe];rfl
  ·rw[Qi,FU,Qx];simp;lia
  ·have ċ:U8 H4 k Z->k.1≠l->k.2.1≠l->k.2.2≠l->U8 (upd H4 l (.lst (ÃP (λx=>ù x.1)++[.ref x.1]))) k Z:=λh a b c=>(by rw[Zc a];exact h.t,by rw[Zc b];exact h.s,by rw[Zc c];exact h.f);by_cases hj:j<ÆQ
   ·rw[QT hj]at L;have vz:ÈH[j]? = U Z:=by rw[Üb]at S ⊢;rw[Æ Á]at S ⊢;exact S
    obtain a1|a2|a3:=dw k (Qn L);exact ċ ((lY j k Z L vz).same Y) a1 a2 a3
   ·have hj2:j<ÆQ+1:=by have:=(Ũ L).1;rwa [Qi]at this
    have hji:j=i:=by lia
    subst hji;rw[Q7 Á,show j-ÆQ=0 by lia]at L;cases L;rw[Üb,Æ Á,G]at S;cases S;exact ċ hx g1 g2 g3
  ·rcases ë bV with h|h
   ·exact dw k h
   ·rw[ò h];exact(g1,g2,g3)
 ·rintro v d ⟨⟨B,C,D,rfl⟩,hi,R,F,g,tT,dw⟩;rw[Qa,Qa,Qv ç]at tT;exact(_,rfl,q l g d F I tT)
def Hs(c f g:ae):Sp:=λvs H Q _=>X2 λd e:ae=>vs=[.ref d]/\H d=U (.ins c e [])/\∀ (X:MS) (nd:ae) (a:Hp),a d=U #[zU,c,e,X.m]->¬ MFp X d->DOk f g a X nd []->dsO X []=([],0,0,0,[])->(∀b,MFp X b->H b=af)->H nd=af->#[eK,u,d,a]->Q .non a
theorem Zqj(T:Ù)(gI:Cf P w K mg Â 14 am "Merge" Í2 (IW aw am)):Cf P w K mg Â 16 aA "Desk" Ą (Hs aA aw am):=by
 rw[ed,T.t_Desk_init.cf,ZjD,vs,v];rw[tg,d,c,B];refine(_,#[Zd,#[X0,‹0›,#[Ub,gI,v,#[Ze,Ãh]]],#[Zh,#[sz,PF]]],Υ,λr v=>λm i k R nmd=>?_);have j:=Zi v Ş;have S:#[gf,H,r] r=U (.lst (([]:À (ae×À ak)).map λx=>ù x.1)):=Zb;have y4:∀b,#[gf,H,r] b=af->H b=af:=λb=>j.free;generalize upd H r (.lst [])=l at j S y4 k R ⊢;have p:ZB l #[eY,l,i,m,am]:=λb o a=>by rw[Zc (Zf a k),Zc (Zf a R)];exact a
 have W:#[eY,l,i,m,am] m=U (.ins am i []):=Zb;generalize upd (upd l i (.own m)) m (.ins am i [])=H2 at p W ⊢;refine(m,i,r,[],rfl,W,(p _ _ S,Qs _,λx h=>by cases h),#[eB,x,h],λC D L st w0 k2 q2 g t iB W3 S3 P3 F k3=>(rfl,?_));have hL:L=[]:=by have:=#[eC,iB.1];unfold ZC Wh at this;rw[Qa]at this;exact Ëm this
 subst hL;obtain ek|eq:=P3.one (m:=8) (.few (by show 0<2;decide));subst ek;subst eq;have G:ZB H g:=λb o a=>k3 b o (p b o (j b o a)) (Zf (j b o a) k);have X:=G _ _ B;have Y:∀b,Fp m C D ([]:À ZA) b->H b=af:=λb a=>by
  rcases F b a with z|z
  ·rw[z];exact j.free k
  ·exact j.free (p.free z)
 have Z:¬ Fp m C D ([]:À ZA) d:=λz=>by have:=Y d z;rw[B]at this;cases this
 have wG:=Uy 8 _ st _ t.up (MT t) É S3;refine(_,rfl,d,aA,c,_,rfl,X,Ψ,Ãe,#[ia,0],?_);rw[Xa];rw[fv,m8,g,d,ÔC];have k4:#[rO,g,d,g,ÔC]:=λb o a n=>by rw[Zc n];exact a
 have I:∀b,(upd g d ÔC) b=af->g b=af:=λb a=>by
  by_cases z:b=d
  ·rw[sT,Zb,a]
  ·rw[Zc z]at a;exact a
 generalize upd g d (.ins aA c [("merge",.ref m,)])=H4 at m8 k4 I ⊢;rw[g9,e,J,M,sq,H4];have N:H e=af:=G.free (I e J);have mh:=M _ _ m8;generalize upd H4 e (.dK [])=H5 at M sq mh ⊢;refine(_,rfl,d,aA,c,_,rfl,mh,Ψ,Åg,#[ia,1],?_);have eF:Zv "numbers" Ś [("merge",ù m,)]=dkF m e:=by rw[Zx ú,Xa];rfl
 rw[eF];have O:e≠d:=λz=>by rw[z,B]at N;cases N
 have k5:∀b o,g b=U o->b≠d->(upd H5 d (.ins aA c (dkF m e))) b=U o:=λb o a n=>by rw[Zc n];exact M _ _ (k4 b o a n)
 refine q (m,C,D,[],st,0,0,0,w0) e _ Zb Z (?_,#[hS,O,sq],(λz=>by have h3:=t.fp_fresh (I e J);exact h3 z),(rfl,.nil,.nil)) rfl Y N (λb u a n=>k5 b u (G b u a) n);refine MOk.keep (H:=g) (t,W3,wG) λb o a dU=>k5 b o a λz=>?_;rcases dU with y|⟨xs,rfl⟩
 ·exact Z #[eS,z,y]
 ·rw[sT,X,a]
theorem ZrL(a:Æi)(c:Üc)(e:Üd)(g:Üe)(h:Üf)(i:Üg)(j:Üh)(k:Üi)(o:Od) :
  ∃f,ĵ K bn Âx=U Àg/\Fv P w K mg Â 17 f (Yq aA aw am λx=>x=o):=by
 have go:∀ {x y:ak} {l:À ak} {p:Od->Prop},Df P w K mg Â 15 x l (Yq aA aw am p)->(∀f,mg x=U Ċ->ĵ K bn y=U Àg)->p o->∃f,ĵ K bn y=U Àg/\Fv P w K mg Â 17 f (Yq aA aw am λx=>x=o):=λF m q=>by obtain f|r|F|t|u|v:=F.ex;exact(f,m f t,r,_,(F.imp λvs H Q E ⟨d,z,A,B,X,nd,C,D,G,I,J,L,M,N,O,R,S,b⟩=>(d,z,A,B,X,nd,C,D,G,I,J,L,M,N,O,R,#[ei,S,q],b)).mono É,u,v)
 cases o with
 | row s ks=>exact go c a.d_DEEDS_row (s,ks,rfl)
 | Àx s ks=>exact go e a.d_DEEDS_grow (s,ks,rfl)
 | Ày s=>exact go g a.d_DEEDS_drop (s,rfl)
 | Àz n=>exact go h a.d_DEEDS_take (n,rfl)
 | ÃW=>exact go i a.d_DEEDS_coming rfl
 | left=>exact go j a.d_DEEDS_left rfl
 | Àu=>exact go k a.d_DEEDS_rows rfl
structure Bd (S:DS) (d i:Nat):Prop where
 few:Ïc<=16
 nb0:0<=S.nb
 nb1:S.nb<=(d:Int)
 lt:∀x∈S.P,0<=x.1/\x.1<S.nb
 len:∀x∈S.P,x.2.1.length<=5*d
 nmz:∀e∈Χ,AZ e.1/\e.1.length<=8
 tot:ZQ S.P<=5*d
def Od.deed:Od->Nat
 | .row _ _=>1
 | .grow _ _=>1
 | .drop _=>1
 | _=>0
def dds(os:Âw):Nat:=(Ãi Od.deed).sum
theorem Bd.sbd{S:DS}{d i:Nat}(h:Bd S d i)(hd:d<=36)(hi:i<=90):SBd S:=(ÁU,h.nb0,by have:=h.nb1;lia,h.lt,λx hx=>by have:=ÀL x hx;lia,ÁZ,(by have:=h.tot;lia))
theorem Bd.up{S:DS}{d i:Nat}(h:Bd S d i)(d':Nat):Bd S (d+d') (i+1):=(ÁU,h.nb0,by have:=h.nb1;lia,h.lt,λx hx=>by have:=ÀL x hx;lia,ÁZ,(by have:=h.tot;lia))
theorem Bd.step{S w:DS}{o:Od}{a:ak}{d i:Nat}(h:Bd S d i)(hd36:d<=36)(ok:SOk S)(hw:OdW o)(g:Yn S o a w):Bd w (d+Ëw) (i+1):=by
 cases g with
 | Æk _=>exact À2 _
 | Æl _=>exact À2 _
 | Æm _=>exact À2 _
 | left=>exact À2 _
 | Àu=>exact À2 _
 | comNo _=>exact À2 _
 | com _ _ _=>exact À2 _
 | row c m z A =>
  rename_i P b p lo r s ks k q;have nb0:0<=b:=h.nb0;have nb1:b<=(d:Int):=h.nb1;refine(by show (P++[(b,ks,0,)]).length<=16;rw[Qi,QK];lia,by show 0<=b+1;lia,by show b+1<=#[f0,d];lia,λx hx=>?_,λx hx=>?_,λe he=>?_,?_)
  ·show 0<=x.1/\x.1<b+1;rcases ë hx with hx|hx
   ·have:0<=x.1/\x.1<b:=h.lt x hx;lia
   ·rw[vd];show 0<=b/\b<b+1;lia
  ·rcases ë hx with hx|hx
   ·have:=ÀL x hx;lia
   ·rw[vd];have:=hw.2.1;show Ο<=5*(d+1);lia
  ·rcases ë he with he|he
   ·exact ÁZ e he
   ·rw[ò he];exact(hw.1.1,hw.1.2.2)
  ·show ZQ (P++[(b,ks,0,)])<=5*(d+1);have t:ZQ P<=5*d:=h.tot;have B:=hw.2.1;rw[Zqa];show _+(Ο-0)<=_;lia
 | Àx c m z A =>
  rename_i P b p lo r s ks u k q;refine(by show (WM P u.1 ks).length<=16;unfold WM;rw[Qa];exact ÁU,h.nb0,by have:b<=(d:Int):=h.nb1;show b<=ÔD;lia,λx hx=>?_,λx hx=>?_,ÁZ,(by show ZQ (WM P u.1 ks)<=5*(d+1);have v:=HG u.1 ks P ÈI;have B:=hw.2.1;have t:ZQ P<=5*d:=h.tot;lia))
  ·rw[em,y,j,hx];have:=h.lt y j;split<;>exact this
  ·rw[em,y,j,hx];have:=ÀL y j;have:=hw.2.1;split
   ·show (y.2.1++ks).length<=5*(d+1);rw[Qi];lia
   ·lia
 | Ày c m=>rename_i P b p lo r s n k q;refine(Qk (QaT _ _) ÁU,h.nb0,by have:b<=(d:Int):=h.nb1;show b<=ÔD;lia,λx hx=>h.lt x (Ã1 hx).1,λx hx=>by have:=ÀL x (Ã1 hx).1;lia,λe he=>ÁZ e #[xu].1,(by show ZQ (VL P n)<=5*(d+1);have v:=HH (λx:ZI=>decide (x.1≠n)) P;have t:ZQ P<=5*d:=h.tot;unfold VL;lia))
 | Àz c m =>
  rename_i P l b p lo r n C k q;have D:∀x∈l,0<=x.1/\x.1<b:=λx hx=>by
   have:x.1∈ZY P:=by rw[<- c.num];exact Qd (f:=Ä9) hx
   rw[s0,y,j,e];rw[<- e];exact h.lt y j
  have E:ś=Ça:=by have:=#[eC,c.num];unfold ZY at this;rw[qd]
  refine(by show ś<=16;rw[E];exact ÁU,h.nb0,by have:b<=(d:Int):=h.nb1;show b<=ÔD;lia,D,λx hx=>?_,ÁZ,(by show ZQ l<=5*(d+0);have v:=c.tk.left ÈI;have t:ZQ P<=5*d:=h.tot;have t4:ZQ l+C.length=ZQ P:=v;lia));obtain y|j|e:=c.rowOf x hx;have:=ÀL y j;rw[<- e];lia
def Zvu:Sp:=λvs H Q _=>∃os:À Od,vs=[.str (ShT os)]/\(∀o∈os,OdW o)/\Ám<=90/\dds os<=36/\∀ (c:À ak) (S:DS) (l:ae) (a:Hp),Wn Ëx os c S->H l=af->a l=U #[en,ŏ]->#[fF,u,H,a]->Q ć a
theorem Hr(os:Âw)(i:Nat):dds ÈH<=dds os:=by have h:=ō dds (ÚG i os);unfold dds at h ⊢;rw[Qe,Qaz]at h;lia
theorem ZpI{os:Âw}{i:Nat}{o:Od}(h:os[i]? = U o):dds (os.take (i+1))=dds ÈH+Ëw:=by rw[QH,h];unfold dds;rw[Qe,Qaz];rfl
theorem ZuG(T:Ù)(O:Æi)(hZ:#[hk,5,"orders_in","text",Ht])(ic:Cf P w K mg Â 16 aA "Desk" Ą (Hs aA aw am))
  (gU:Üc) (gq:Üd) (gr:Üe) (fB:Üf) (dY:Üg) (fC:Üh) (fD:Üi) :
  Df P w K mg Â 18 "run" ["text"] Zvu:=by
 rw[ed,T.t_run.df,VX,vs,R];obtain os|rfl|hw|wQ|tU|q:=h;refine(_,#[Zd,#[Zu,1,VX.nd,à,#[iR,hZ,R]],#[Zd,#[Zu,2,VX.nd,à,(@Zva _ _ _ _ _ _ _ _ _ ic R ÊV È É)],#[Zd,#[hc,3,VX.nd],#[Zd,#[XI,χ,Ëp,#[ef,4,VX.nd,5,6],#[Zd,#[Zu,7,VX.nd,à,#[ZD,Ps,#[UP,O.m_DEEDS],‹4›]],#[Zh,#[ZM,#[YN,QE,QF,QG,Z3,‹3›,#[Ze,(@Zrx _ _ _ _ _ _ _ _ _ _ ‹7› R #[fB,2,5,6] ÊV È È)]]]]]],#[fq,3]]]]],_,rfl,os,rfl,hw,wQ,λol xs c s1 i7 tT=>?_);rw[hD,AD,yZ,lY,tT];intro d j jc sr ndd;have G:ZB c #[eY,c,j,d,aA]:=λb o a=>by rw[Zc (Zf a jc),Zc (Zf a sr)];exact a
 have gb:#[eY,c,j,d,aA] d=U (.ins aA j []):=Zb;generalize upd (upd c j (.own d)) d (.ins aA j [])=H2 at G gb ⊢;refine(d,j,rfl,gb,λX nd I j2 v S hS J iy k3=>(rfl,Υ,λl k=>?_));have FY:#[e7,u,c,u,I]:=λb u a=>k3 b u (G b u a) (Zf a jc);have W:=Zi k Ş;rw[fv,kb,I,l,Ş];have D4:=S.same W;have m8:=W _ _ j2;have AE:c l=af:=by
  cases z:c l with
  | none=>rfl
  | some u=>rw[FY l u z]at k;cases k
 have Y:l≠d:=λz=>by rw[z,j2]at k;cases k
 have FZ:l≠nd:=λz=>by rw[z,S.at']at k;cases k
 have Z:¬ MFp X l:=S.mg.M.fp_fresh k;have CG:∀b u,c b=U u->#[gf,I,l] b=U u:=λb u a=>W _ _ (FY b u a);have CH:c nd=af:=G.free iy;have F0:∀b,MFp X b->c b=af:=λb a=>G.free (J b a);generalize upd I l (.lst [])=H4 at kb D4 m8 CG ⊢;refine(_,rfl,ol,rfl,(_,Í (CG _ _ AD)),?_);refine Ro (λi σ m=>(X4 λv4 v5 v6 v7:Ã V=>σ=[U (.str (ShT os)),U (.ref ol),U Àw,U ć,v4,v5,v6,v7])/\i<=Ám/\#[fF,u,c,m]/\X3 λp X t=>m l=U #[en,p.map]/\Wn Ëx ÈH p (dsO X t)/\Bd (dsO X t) (dds ÈH) i/\m d=U #[zU,aA,j,X.m]/\DOk aw am m X nd t/\¬ MFp X d/\¬ MFp X l/\∀b,MFp X b->c b=af) ((_,_,_,_,rfl),Qs _,CG,[],X,[],kb,(by rw[hS];exact .nil),(by rw[hS];exact(Qs _,Qbk _,Qbk _,λx h=>(by cases h),λx h=>(by cases h),λx h=>(by cases h),Qs _)),m8,D4,v,Z,F0) (λ_ _ _ _ h=>Í (h.2.2.1 _ _ AD)) ?_ ?_
 ·rintro i y σ m B ⟨⟨v4,v5,v6,v7,rfl⟩,hi,r,p,X,t,C,D,yu,F,L,v,F1,J⟩;rw[Qq]at B;cases M:xs[i]? with
  | none=>rw[M]at B;cases B
  | some x =>
  rw[fX,M,B,B];have cq:i<Ám:=by rw[<- yZ];exact(Ũ M).1
  obtain⟨o,N⟩:∃o,os[i]? = U o:=(_,Qb cq);have F3:=hw o (Qn N);have g3:=yu.sbd (Qk (Hr os i) tU) Á;have hx:=lY i x o M N;obtain f|eJ|hfv:=ZrL O gU gq gr fB dY fC fD o;refine(x.1,_,rfl,û (r _ _ hx.t),rfl,_,_,rfl,_,_,rfl,_,_,rfl,rfl,_,rfl,bn,Âx,.ref f,_,rfl,rfl,O.kd_DEEDS,eJ,rfl,_,rfl,.inl #[eG,C],_,rfl,f,_,rfl,hfv,_,rfl,_,rfl,_,rfl,d,x.2.1,x.2.2,j,X,nd,t,o,rfl,F,v,L,g3,r _ _ hx.s,r _ _ hx.f,F3,rfl,λX' gQ a' H6 g=>?_);have qB:=g.k _ _ C F1 FZ;have hd6:=g.k _ _ F v (λz=>by rw[z,L.at']at F;cases F);have AF:¬ MFp X' l:=λz=>(g.fp l z).elim F1 λz=>by rw[C]at z;cases z
  have F4:¬ MFp X' d:=λz=>(g.fp d z).elim v λz=>by rw[F]at z;cases z
  have al:ÊG=i:=by rw[D.len,Qx];lia
  refine(l,_,_,rfl,rfl,qB,#[eA,al],(_,_,_,_,rfl),cq,λb u a=>?_,p++[a'],X',gQ,?_,?_,?_,?_,?_,F4,AF,λb a=>?_)
  ·rw[sy,a,AE];exact g.k b u (r b u a) (λz=>by rw[J b z]at a;cases a) (λz=>by rw[z,CH]at a;cases a)
  ·rw[Zb,Qe];rfl
  ·rw[QH,N];exact .snoc D L.ok g3 g.st
  ·rw[ZpI N];exact yu.step (Qk (Hr os i) tU) L.ok F3 g.st
  ·rw[Zc Y.symm,g.m];exact hd6
  ·refine g.D.keep λb o' a dU=>?_;rw[Zc (λz=>by
    rcases dU with y|y|⟨zs,rfl⟩
    ·exact AF #[eS,z,y]
    ·exact FZ ÔE
    ·rw[z,qB]at a;cases a)]
   exact a
  ·rcases g.fp b a with z|z
   ·exact J b z
   ·cases e:c b with
    | none=>rfl
    | some u=>rw[r b u e]at z;cases z
 ·rintro σ m ⟨⟨v4,v5,v6,v7,rfl⟩,hi,r,p,X,t,C,D,_⟩;rw[Qa,yZ,Qv ç]at D;exact(_,rfl,q p _ l m D (s1.free AE) C λb u a=>r b u (s1 b u a))
theorem Ztk(ss:Ñ):Ĝ ss=((ss.zip (Î3 1)).all λp=>!decide Üj):=by
 have h:∀ss:À ak,Ôb LeS↔∀p∈ss.zip (Î3 1),LeS p.1 p.2:=λss=>by
  induction ss with
  | nil=>simp
  | Î a r e =>
   cases r with
   | nil=>simp
   | Î b r =>
    have c:(b::r).Pairwise LeS↔∀p∈(b::r).zip r,LeS p.1 p.2:=e;show _↔∀p∈(a,b,)::(b::r).zip r,LeS p.1 p.2;rw[ÛA,c];refine(λ⟨f,i⟩ p hp=>?_,λh=>(λx hx=>?_,λp hp=>h p (Qm _ hp)))
    ·rcases Ĳ hp with rfl|hp
     ·exact f b Ö
     ·exact i p hp
    ·have d:LeS a b:=h (a,b,) Ö;rcases Ĳ hx with rfl|hx
     ·exact d
     ·have:=#[gt,c.mpr,p,hp];exact ÆJ ((Ôa this).1 x hx)
 rw[QaQ,HW,h,Qae];exact(λg p hp=>by rw[ĕ (g p hp)];rfl,λg p hp z=>by have:=g p hp;rw[ě z]at this;cases this)
def Hq:Sp:=λvs H Q _=>X2 λ(l:ae) (ss:À ak)=>vs=ÄH/\H l=U ÃO/\ī<=300/\∀a,ZB H a->Q (.bl (Ĝ ss)) a
theorem Zqv(T:Ù):Df P w K mg Â 1 "_law_in_order" ÊO Hq:=by
 rw[ed,T.t_l_in_order.df,Zih,N,hr];rw[gm,l,c,I,h300];refine(_,#[Zh,#[Zm,#[Zo,(Ll K),È,T.b.n_all,boot_all,#[Ze,#[XX,TB,#[iZ,K,Óg,#[Ze,‹0›,#[WL,(slL K),‹0›,(@WA _ _ _ Û),(@V3 _)]]],#[ex,1,TB,2],Η,(λ_ _ _ _=>#[XQ,ZoK,#[cw,1,TB],#[cw,2,TB],þ])]]]]],?_);have O:Yg (ŏ Ä) (U (1:Int)) af=(Æt 1).map Ä:=by
  by_cases R:1<=Ĥ
  ·exact(RH c 1 R).2
  ·have S:c=[]:=Ëm Á;rw[S];rfl
 rw[iJ,l,I,p,W,O];have m:=Zi W #[fN,Æt,1];rw[gL,n,H,p,Æt,1];have o:=m _ _ I;generalize upd H p (.lst ((Æt 1).map Ä))=X at m n o ⊢;refine(.l l,.l p,ŏ Ä,(Æt 1).map Ä,rfl,Í o,Í n,λD J=>?_);refine SS (λi zs r d=>(X2 λv z:Ã V=>r=[U ć,v,z])/\(∃bs:À Ï,zs=bs.map V.bl/\bs=((Ü8).take i).map (λp=>!decide Üj))/\i<=(Ü8).length/\d D=U Ż/\ZB X d) ((af,af,rfl),([],rfl,rfl),Qs _,Zb,Zi J _) (λ_ _ _ _ h=>(Í (h.2.2.2.2 _ _ o),Í (h.2.2.2.2 _ _ n))) ?_ ?_
 ·rintro i zs r d x y t g j ⟨⟨v,z,rfl⟩,⟨bs,rfl,k⟩,hi,B,C⟩ Y;rw[Qq]at g j;cases F:c[i]? with
  | none=>rw[F]at g;cases g
  | some a =>
  cases G:(Æt 1)[i]? with
  | none=>rw[(G)]at j;cases j
  | some b =>
  rw[F]at g;rw[fX,G,j,g];cases j;have L:Ü8[i]? = U (a,b,):=by rw[List.getElem?_zip_eq_some];exact(F,G)
  rw[sM,Z,L];have lU:bs.length=i:=by rw[k,Qa,Qx];lia
  have yD:(Ü8).length<=300:=by rw[Ük];lia
  have st:=Zi Y (.tup [Ä a,.str b]);refine(t,_,rfl,û Zb,rfl,_,_,rfl,_,_,rfl,rfl,_,rfl,_,rfl,_,_,rfl,rfl,st _ _ B,#[eA,lU],Èm,(bs++[!decide (b.cps.toList<ÒP)],by rw[Qe];rfl,?_),Z,Zb,λb' u M=>?_)
  ·rw[QH,L,Qe,<- k];rfl
  ·rw[sB,M,J,st,C,b']
 rintro zs r d ⟨⟨v,z,rfl⟩,⟨bs,rfl,k⟩,_,B,C⟩;rw[Qa,Qa,<- Ük,Qv ç]at k;refine(D,bs,rfl,Í B,?_);have e:ÉV id=Ĝ c:=by rw[Ztk,k,List.all_map];rfl
 rw[e];exact q d (m.trans C)
structure AR where
 nm:ak
 t:ae
 n:Int
 k:ae
 ss:À ak
 g:Nat
def kvA(R:í):À ÁJ:=ĉ λe=>(.inr Ú,.ref e.t,)
def dkR(rd:ae)(c:Int):À ÁJ:=[(.inr "rows",.ref rd,),(.inr "coming",.int c,)]
theorem MI(rd:ae)(c:Int):((Ïk).map ó).Nodup:=by show [(Àa "rows" : Key),.inr "coming"].Nodup;refine QS.mpr (λm=>?_,QS.mpr (by simp,.nil));have:=Ål (ò m);exact Ê this ú
theorem V9(rd:ae)(c:Int):Y4 Ïk (.inr "rows")=U (.ref rd):=Vu (MI rd c) (by unfold dkR;simp)
theorem Ho(rd:ae)(c:Int):Y4 Ïk (.inr "coming")=U (.int c):=Vu (MI rd c) (by unfold dkR;simp)
structure Yu (H:Hp) (d rd:ae) (R:í) (c:Int):Prop where
 at':H d=U (.dK Ïk)
 Àu:H rd=U (.dK (kvA R))
 tup:∀e∈R,H e.t=U (.tup [.int e.n,.ref e.k,.int (e.g:Int)])/\H e.k=U #[en,e.ss.map]
 nd:#[pW].Nodup
 ne:d≠rd
theorem Yu.same{H a:Hp}{d rd:ae}{R:í}{c:Int}(D:Yu H d rd R c)(s:ZB H a):Yu a d rd R c:=(s _ _ ĝ,s _ _ Ŧ,λe he=>(s _ _ #[wG].1,s _ _ #[wG].2),ÀP,D.ne)
def ZsQ:Sp:=λvs H Q _=>vs=[]/\∀ (d rd:ae) (a:Hp),H d=af->H rd=af->Yu a d rd [] 0->ZB H a->Q Àw a
theorem Zpz(T:Ù):Df P w K mg Â 1 "_law_begun" [] ZsQ:=by
 refine T.t_l_begun.df ZlX #[iF,t] #[ee,t,a]
 ·obtain rfl|_:=h;rfl
 obtain rfl|q:=h;refine(_,#[Zh,#[Zm,(@Ztd _ _ _ _ _ (@KZ _ _ _ _ _ _ _ _ _ Ý (@PF _ _) (@KZ _ _ _ _ _ _ _ _ _ Ý Û (@ZsF _ _))) rfl rfl ÁL #[eJ,2,15])]],?_);rw[g9,d,c,g,i,H];generalize upd H d (.dK [])=l at g i ⊢;rw[g9,r,a,j,m,l];have n:r≠d:=(Zf i a).symm;have o:=j _ _ i;have k:=g.free a;generalize upd l r (.dK [])=H2 at j m o ⊢;refine(o,dkR r 0,rfl,#[eJ,2,15],?_);rw[Px (dkR r 0) [] (by rw[Ïl];exact MI r 0),Ïl];exact q d r _ c k (Zb,#[hS,n,m],#[eB,e,h],.nil,n.symm) λb u p=>by rw[Zc (Zf p c)];exact j _ _ (g _ _ p)
structure ATo (H H':Hp) (d rd:ae) (R R':í) (c c':Int):Prop where
 D:Yu H' d rd R' c'
 k:∀b u,H b=U u->b≠d->b≠rd->H' b=U u
 kf:∀e∈R',(∃x∈R,x.k=e.k)\/H e.k=af
inductive W8:À AR->Int->Od->ak->À AR->Int->Prop
 | row {R:À AR} {c:Int} {s:ak} {ks:À ak} {t k:ae}:(∀e∈R,Ú≠s)->Ĝ ks=true->ω<=15->W8 R c (.row s ks) "done" (R++[(s,t,c,k,ks,0)]) (c+1)
 | Æk {R:À AR} {c:Int} {s:ak} {ks:À ak}:((∃e∈R,Ú=s)\/Ĝ ks=false\/15<ω)->W8 R c (.row s ks) "refused" R c
 | Àx {R:À AR} {c:Int} {s:ak} {ks:À ak} {e:AR} {t k:ae}:e∈R->Ú=s->Ĝ (Ò++ks)=true->W8 R c (.grow s ks) "done" (ĉ λx=>if β=s then (s,t,e.n,k,Ò++ks,e.g) else x) c
 | Æl {R:À AR} {c:Int} {s:ak} {ks:À ak}:((∀e∈R,Ú≠s)\/∃e∈R,Ú=s/\Ĝ (Ò++ks)=false)->W8 R c (.grow s ks) "refused" R c
 | Ày {R:À AR} {c:Int} {s:ak} {e:AR}:e∈R->Ú=s->W8 R c (.drop s) "done" (R.filter λx=>decide (β≠s)) c
 | Æm {R:À AR} {c:Int} {s:ak}:(∀e∈R,Ú≠s)->W8 R c (.drop s) "refused" R c
structure Ta (R:í) (c:Int) (S:DS):Prop where
 nm:ĉ (λe=>(Ú,e.n,))=Χ
 P:ĉ ÎP=S.P
 c:c=S.nb
theorem W8.link{R H:í}{c I:Int}{o:Od}{a b:ak}{S J:DS}(h:W8 R c o a H I)(L:Ta R c S)(ok:SOk S)(g:Yn S o b J):a=b/\Ta H I J:=by
 have d:∀ {s:ak},(∀e∈R,Ú≠s)↔∀e∈Χ,e.1≠s:=λ{s}=>by rw[<- L.nm];exact(λh e j=>(by obtain x|l|rfl:=Ħ j;exact h x l),λh e j=>h _ (Qd (f:=Ïm) j))
 have len:ω=Ïc:=by have:=#[eC,L.P];rwa [Qa]at this
 have mem:∀e∈R,(Ú,e.n,)∈Χ/\(Ãb:ZI)∈S.P:=λe j=>(by rw[<- L.nm];exact Qd (f:=Ïm) j,by rw[<- L.P];exact Qd (f:=Ïn) j);cases h with
 | row h1 m C =>
  rename_i s ks t k;cases g with
  | row g1 p A D =>
   rename_i P E K lo B k' M;have O:ĉ (λe=>(Ú,e.n,))=B:=L.nm;have F:ĉ ÎP=P:=L.P;have Q:c=E:=L.c;subst Q;refine(rfl,?_,?_,rfl)
   ·show (R++[_]).map _=B++[(s,c,)];rw[Qe,O];rfl
   ·show (R++[_]).map _=P++[(c,ks,0,)];rw[Qe,F];rfl
  | Æk g1 =>
   rcases g1 with⟨e,j,z⟩|g1|g1
   ·exact Ê z (d.mp h1 e j)
   ·rw[rR,m,g1]
   ·lia
 | Æk h1 =>
  cases g with
  | row g1 p A D =>
   rcases h1 with⟨e,j,z⟩|h1|h1
   ·exact Ê z (d.mpr g1 e j)
   ·rw[rR,p,h1]
   ·rename_i P E K lo B k' M;have h5:ω=Ça:=len;lia
  | Æk _=>exact Ïo
 | Àx h1 m C =>
  rename_i s ks e t k;rw[xT];cases g with
  | Àx g1 p A D =>
   rw[s1,p];refine(rfl,?_,?_,L.c)
   ·rw[Qo];refine Eq.trans (QJ λx l=>?_) L.nm;rw[74];split
    ·rename_i v;have r:=#[xh].1;rw[v]at r;have:=ÔF;injection this with _ this;rw[v,this]
    ·rfl
   ·rename_i P E K lo B k' M;have F:P=ĉ ÎP:=L.P.symm;rw[Qo];show _=WM P e.n ks;unfold WM;rw[F,Qo];refine QJ λx l=>?_;rw[74];by_cases v:β=s
    ·have r:=#[xh].1;rw[v]at r;have u:=ÔF;injection u with _ u;have G:=XU ÈI #[xh].2 w u;injection G with _ G;injection G with T V;have N:x.n=e.n:=u;rw[Æ v,Æ N,N,T,V]
    ·have W:¬ x.n=e.n:=λz=>v (by have:=Uu ok.ndN #[xh].1 i z;injection this);rw[hM,v,W]
  | Æl g1 =>
   rcases g1 with g1|⟨y,X,g1,p⟩
   ·exact Ül
   ·rw[s1,X];rw[show Ĝ Èu=false from p]at C;cases C
 | Æl h1 =>
  cases g with
  | Àx g1 p A D =>
   rcases h1 with h1|⟨e,j,h1,m⟩
   ·exact Üm
   ·obtain i|w:=mem e j;rw[h1]at i;rw[s1,p];rw[show Ĝ (Ò++_)=false from m]at A;cases A
  | Æl _=>exact Ïo
 | Ày h1 m =>
  rename_i s e;rw[xT];cases g with
  | Ày g1 p =>
   rename_i n k q;have u:=XU ok.nd g1 i rfl;injection u with _ u;subst u;refine(rfl,?_,?_,L.c)
   ·have:=ō (Ôm λe:ak×Int=>decide (e.1≠s)) L.nm;rw[zR,Qao]
   ·unfold VL;have:=ō (Ôm λx:ZI=>decide (x.1≠e.n)) L.P;rw[Qao]at this;refine Eq.trans ?_ this;congr 1;refine QaX λx l=>ÅW ÛQ
    ·have Y:x.n=e.n:=z;have:=Uu ok.ndN #[xh].1 i Y;rw[qo]
    ·have r:=#[xh].1;rw[z]at r;have:=ÔF;rw[qo]
  | Æm g1=>exact Ül
 | Æm h1 =>
  cases g with
  | Ày g1 _=>exact Üm
  | Æm _=>exact Ïo
theorem Hn(R:í):(kvA R).map ó=#[pW].map ÒS:=by unfold kvA;rw[Qo,Qo];rfl
theorem Zu7{R:í}(nd:Åh):((kvA R).map ó).Nodup:=by rw[Hn];exact ÛK
theorem VJ{R:í}(nd:Åh){e:AR}(h:e∈R):Y4 (kvA R) Ïp=U (.ref e.t):=Vu (Zu7 nd) (Qd (f:=ÔG) h)
theorem MH{R:í}{s:ak}(h:∀e∈R,Ú≠s):Y4 (kvA R) (.inr s)=af:=by
 cases a:Y4 (kvA R) (.inr s) with
 | none=>rfl
 | some v=>obtain e|b|z:=Ħ (Vv a);injection z with z _;exact Ê Æn (h e b)
theorem Zrv(R:í)(s:ak):WH (kvA R) (.inr s)=kvA (R.filter λe=>decide (Ú≠s)):=by unfold WH kvA;rw[Qao];congr 1;exact QaX λe _=>ÅW #[rP,Àa,Ú,Æn]
theorem Zr1{R:í}{s:ak}{e:AR}(he:e∈R)(hs:Ú=s)(t k:ae)(ks:Ñ):YX (kvA R) (.inr s) Ât=kvA (ĉ λx=>if β=s then (s,t,e.n,k,Ò++ks,e.g) else x):=by
 unfold YX;rw[Æ]
 ·unfold kvA;rw[Qo,Qo];refine QJ λx hx=>?_;rw[74];by_cases h:β=s
  ·rw[Æ Ê6,Æ h];show (#[so,β],ù t,)=(.inr s,.ref t,);rw[h]
  ·rw[yh]
 ·exact Èd (_,Qd (f:=ÔG) he,ě (by rw[hs]))
theorem Zsi(rd:ae)(c v:Int):YX Ïk (.inr "coming") (.int v)=dkR rd v:=by have h:¬ (Àa "rows" : Key)=.inr "coming":=λz=>Ê Æn ú;unfold YX dkR;rw[Æ (Èd ((.inr "coming",.int c,),by simp,ě rfl))];rw[Qj,Qj,QaZ,Ç h,Æ rfl]
theorem Hm(R:í)(s:ak):(∀e∈R,Ú≠s)\/∃e∈R,Ú=s:=by
 by_cases h:∃e∈R,Ú=s
 ·exact .inr h
 ·exact ÛL
def Zoc:Sp:=λvs H Q _=>X9 λ(d rd b:ae) (R:À AR) (c:Int) (f s:ak) (ks:À ak) (o:Od)=>vs=[.ref d,.str f,.str s,.ref b]/\Yu H d rd R c/\H b=U ÁX/\Tb f s ks o/\KsS ks/\ω<=30/\(∀e∈R,ĭ<=180/\e.n<c)/\∀ (a:ak) (g:À AR) (h:Int) (i:Hp),W8 R c o a g h->ATo H i d rd R g c h->Q (.str a) i
theorem Zmk(T:Ù)(gJ:#[hk,1,"_law_in_order","_law_keys_here",Hq]):Df P w K mg Â 2 "_law_deed_due" ÒZ Zoc:=by
 rw[ed,T.t_l_deed_due.df,TN,vs,I];obtain d|m|X|R|c|l|i|ks|o|rfl|D|m6|ho|dh|h30|oS|q:=h;refine(_,#[Zd,#[Zu,4,TN.nd,à,#[fu,I]],(@T7 _ _ _ _ _ #[ZN,#[Zk,YS,#[XQ,YS,‹1›,Ý,þ],#[XQ,(inG I),‹2›,‹4›,ÀZ],þ],Èw,ï] #[Zd,#[ZN,ÈJ,#[Zd,#[ZM,#[YN,Q6,QaU,Ó2,Pw,‹4›,Ä5]],Èw],ï],(@T7 _ _ _ _ _ #[YC,#[Z4,ÈJ,#[ZD,(ixG I),‹4›,‹2›],#[Yx,#[Ze,#[fu,I],Ãh,Û]]],#[ef,5,TN.nd,6,7]] (@T7 _ _ _ _ _ #[ZN,(@Ř _ _ _ #[W5,(@Ut _ _ _ _ #[Xi,#[Zz,gJ,I,#[Ze,#[s8,Wi,6,3]],È]]),#[W6,(@Ř _ _ _ #[Xt,ÈJ,#[Xh,#[Zk,Wk,#[Zo,T8,È,Ái,Qy,#[Ze,‹4›]],Û,þ]]])]]),Èw,ï] #[Zd,#[YC,#[Yx,#[Ze,‹5›,#[s8,Wi,6,3],‹7›]],#[Xg,‹4›,‹2›,(Ww I)]],#[Zd,#[YC,#[Zo,(Rh rfl),È,ÓU,boot_max,#[Ze,#[fu,I],#[rZ,XR,5]]],#[Xg,‹0›,Ý,(Ww I)]],Èw]]))])],?_);have no:Ün:=λh z=>h (by injection z);have stay:∀ {a:ak} {Y:Hp},W8 R c o a R c->ZB H Y->Q (.str a) Y:=λst s=>q _ R c _ st (Åd s,λb u r _ _=>s b u r,λe j=>.inl (e,j,rfl));refine(_,rfl,d,_,rfl,ď (k:=ÃY) ĝ (V9 m c),?_);have hrow:Tb l i ks o->(l = "row"/\o=.row i ks\/l = "grow"/\o=.grow i ks\/l = "drop"/\o=.drop i):=id;refine(λJ Y=>J=[U Àw,U (.str l),U (.str i),U (.ref X),U Æg,af,af,af]/\Y=H/\(Üo\/∃e∈R,Ú=i/\(l = "grow"/\o=.grow i ks\/l = "drop"/\o=.drop i)),?_,?_)
 ·rcases Hm R i with L|⟨e,j,ue⟩
  ·have hv:=MH L;refine(_,rfl,rfl,_,rfl,_,rfl,m,_,rfl,ď (k:=.inr i) Ŧ hv,rfl,_,rfl,?_);rcases ho with⟨rfl,rfl⟩|⟨rfl,rfl⟩|⟨rfl,rfl⟩
   ·rw[n9];exact YO ÁL (rfl,rfl,.inl (rfl,rfl,L))
   ·rw[fV,"grow"];exact Y0 rfl (stay (.noGrow (.inl L)) ÁV)
   ·rw[fV,"drop"];exact Y0 rfl (stay (.noDrop L) ÁV)
  ·subst ue;have hv:=VJ ÀP j;refine(_,rfl,rfl,_,rfl,_,rfl,m,_,rfl,ď (k:=Æu) Ŧ hv,rfl,_,rfl,?_);rcases ho with⟨rfl,rfl⟩|⟨rfl,rfl⟩|⟨rfl,rfl⟩
   ·rw[n9];exact Y0 rfl (stay (.noRow (.inl (e,j,rfl))) ÁV)
   ·rw[fV,"grow"];exact YO ÁL (rfl,rfl,.inr (e,j,rfl,.inl Ŕ))
   ·rw[fV,"drop"];exact YO ÁL (rfl,rfl,.inr (e,j,rfl,.inr Ŕ))
 rintro J Y ⟨rfl,rfl,O⟩;have CJ:(∃e∈R,Ú=i/\l = "drop"/\o=.drop i)\/(l ≠ "drop"/\(Üo\/∃e∈R,Ú=i/\l = "grow"/\o=.grow i ks)):=by
  rcases O with⟨rfl,h2,C⟩|⟨e,j,Z,⟨rfl,C⟩|⟨h2,C⟩⟩
  ·exact .inr (by ac_rfl,.inl (rfl,h2,C))
  ·exact .inr (by ac_rfl,.inr (e,j,Z,rfl,C))
  ·exact .inl (e,j,Z,h2,C)
 rcases CJ with⟨e,j,rfl,rfl,rfl⟩|⟨iy,O⟩
 ·refine ÓV;refine(_,rfl,.inr #[rT,Ŧ],_,rfl,m,_,.inr Ú,_,rfl,rfl,Ŧ,VJ ÀP j,?_);rw[Zrv];refine q "done" _ c _ (.drop j rfl) ((by rw[Zc D.ne];exact ĝ,Zb,λx hx=>?_,D.nd.sublist Î1,D.ne),λb u r _ n2=>by rw[Zc n2];exact r,λx hx=>.inl (x,(Ã1 hx).1,rfl));obtain S|W:=Á0 x (Ã1 hx).1;exact(by rw[Zc (λz=>by rw[z,Ŧ]at S;cases S)];exact S,by rw[Zc (λz=>by rw[z,Ŧ]at W;cases W)];exact W)
 refine(_,rfl,rfl,_,rfl,YO (no iy) ?_);refine(λJ H1=>X4 λ(n:Int) (F:ae) (p:À ak) (g:Nat)=>J=Üp/\ZB Y H1/\H1 F=U #[en,p.map]/\ÊG<=180/\((l = "row"/\o=.row i ks/\(∀e∈R,Ú≠i)/\n=c/\p=[]/\g=0)\/(l = "grow"/\o=.grow i ks/\∃e∈R,Ú=i/\n=e.n/\p=Ò/\g=e.g)),?_,?_)
 ·rcases O with⟨rfl,h2,C⟩|⟨e,j,rfl,rfl,C⟩
  ·refine Üq;refine(_,rfl,d,_,rfl,ď (k:=.inr "coming") ĝ (Ho m c),Υ,λF i7=>(ÁM,λt ht=>?_));have s0:=Zi i7 Ş;have G:=Zi ht (.tup [.int c,.ref F,.int 0]);refine(t,_,rfl,û Zb,rfl,_,_,rfl,_,_,rfl,_,_,rfl,rfl,c,F,[],0,rfl,s0.trans G,G _ _ Zb,Qs _,.inl (rfl,h2,C,rfl,rfl,rfl))
  ·obtain S|W:=Á0 e j;refine(_,rfl,rfl,_,rfl,Y0 rfl (_,rfl,_,rfl,m,_,rfl,ď (k:=Æu) Ŧ (VJ ÀP j),?_));exact(e.t,_,rfl,û S,rfl,_,_,rfl,_,_,rfl,_,_,rfl,rfl,e.n,e.k,Ò,e.g,rfl,Çj _,W,(oS e j).1,.inr (rfl,C,e,j,rfl,rfl,rfl,rfl))
 rintro J H1 ⟨n,F,p,g,rfl,G,i7,h180,O⟩;have D1:=Åd G;refine(λJ H2=>J=Üp/\ZB H1 H2/\Ĝ (p++ks)=true/\(l = "row"->ω<=15),?_,?_)
 ·refine(_,rfl,_,rfl,F,X,_,_,rfl,rfl,i7,G _ _ m6,Ür,λe2 ug=>?_);rw[<- Qe];have s2:=Zi ug #[gD,p,ks];refine(e2,p++ks,rfl,Zb,(by rw[Qi];have:=dh.1;lia),λH3 s3=>(_,rfl,?_));have wV:=s2.trans s3;cases v:Ĝ (p++ks) with
  | false =>
   refine YM (YM (stay ?_ (Ïq wV)));rcases O with⟨_,rfl,_,_,rfl,_⟩|⟨_,rfl,e,j,Z,_,rfl,_⟩
   ·exact .noRow #[s9,v]
   ·exact .noGrow (.inr (e,j,Z,v))
  | true =>
   refine Y8 ?_;refine Î9;rcases O with⟨rfl,rfl,C,_⟩|⟨rfl,rfl,_⟩
   ·have ekl:#[im,kvA,R]=(ω:Int):=by unfold kvA;rw[Qa]
    refine Y0 rfl (_,rfl,m,_,rfl,wV _ _ D1.rows,_,_,rfl,rfl,_,rfl,?_);rw[ekl];by_cases vL:15<ω
    ·exact Y0 Á (stay (.noRow (.inr (.inr vL))) (Ïq wV))
    ·exact YO Á (rfl,wV,rfl,λ_=>by lia)
   ·exact YO ÈK (Y8 (rfl,wV,rfl,λz=>Ê z ú))
 rintro J H2 ⟨rfl,s2,v,vL⟩;have D2:=D1.same s2;have pr:=Ïq s2;have AG:=s2 _ _ i7;have AH:=pr _ _ m6;clear G s2 D1 i7;refine(_,rfl,_,rfl,_,rfl,F,X,_,_,rfl,rfl,AG,AH,Ür,λB iN=>(_,rfl,ÁM,λM cT=>?_));rw[<- Qe]at cT ⊢;have s3:=Zi iN #[gD,p,ks];have s4:=Zi cT ÔH;have F5:=s4 _ _ (Zb (H:=H2) (a:=B) (o:=.lst ((p++ks).map Ä)));have uG:(upd (upd H2 B #[gD,p,ks]) M ÔH) M=U ÔH:=Zb;have D4:=(D2.same s3).same s4;have wB:=(pr.trans s3).trans s4;generalize upd (upd H2 B (.lst ((p++ks).map Ä))) M (.tup [.int n,.ref B,.int (g:Int)])=H4 at F5 uG D4 wB ⊢;have yT:=pr.free iN;clear s3 s4 pr AG AH D2 iN cT;obtain⟨N,c',F6,bO,F7,F8,wI⟩:X2 λ(N:À AR) (c':Int)=>YX (kvA R) (.inr i) (.ref M)=kvA N/\W8 R c o "done" N c'/\(if n+1>c then n+1 else c)=c'/\(∀x∈N,x∈R\/(x.t=M/\x.n=n/\x.k=B/\x.ss=p++ks/\x.g=g))/\(N.map (·.nm)).Nodup:=by
  rcases O with⟨Z,rfl,L,rfl,rfl,rfl⟩|⟨_,rfl,e,j,rfl,rfl,rfl,rfl⟩
  ·refine(R++[(i,M,n,B,ks,0)],n+1,?_,.row L v (vL Z),Æ Á,λx hx=>?_,?_)
   ·rw[US _ (MH L)];unfold kvA;rw[Qe];rfl
   ·rcases ë hx with hx|hx
    ·exact .inl hx
    ·rw[vd];exact .inr ÎV
   ·rw[fc,ÀP,ha,r,y,hy];have:b=i:=by simpa using r
    rw[this];exact L y hy
  ·refine(_,c,Zr1 j rfl M B ks,.grow j rfl v,Ç (by have:=(oS e j).2;lia),λx hx=>?_,?_)
   ·rw[em,y,hy,hx];split
    ·exact .inr ÎV
    ·exact .inl hy
   ·have:(ĉ λx=>if β=Ú then ((Ú,M,e.n,B,Ò++ks,e.g):AR) else x).map (·.nm)=ĉ (·.nm):=by
     rw[Qo];refine QJ λx _=>?_;rw[74];split
     ·rename_i h;exact h.symm
     ·rfl
    rw[this];exact ÀP
 have F9:#[tm,kvA,R]:=by unfold kvA;rw[ld]
 refine(_,rfl,_,rfl,m,_,rfl,XD.k (k:=.inr i) D4.rows F9,?_);rw[F6];have mh:#[gQ,H4,m,kvA,N] d=U (.dK (dkR m c)):=by rw[Zc D.ne];exact D4.at'
 refine(_,rfl,d,_,rfl,ď (k:=.inr "coming") mh (Ho m c),_,rfl,_,_,rfl,rfl,_,_,rfl,_,rfl,d,_,rfl,XD.k (k:=.inr "coming") mh (by show 2<aq;exact Zs É),?_);rw[Zsi,F7];have ċ:∀ {b:ae} {u:HO},H4 b=U u->(∀kv,u≠.dK kv)->(upd #[gQ,H4,m,kvA,N] d (.dK (dkR m c'))) b=U u:=λ{b u} r hu=>by rw[Zc (λz=>by rw[z,D4.at']at r;cases r;exact hu _ rfl),Zc (λz=>by rw[z,D4.rows]at r;cases r;exact hu _ rfl)];exact r
 refine q "done" N c' _ bO ((Zb,by rw[Zc D.ne.symm];exact Zb,λx hx=>?_,wI,D.ne),λb u r n1 n2=>by rw[Zc n1,Zc n2];exact wB _ _ r,λx hx=>(F8 x hx).elim (λh=>.inl (x,h,rfl)) λh=>.inr #[ei,h.2.2.1,yT]);rcases F8 x hx with h|⟨e1,e2,e3,e4,e5⟩
 ·obtain S|W:=D4.tup x h;exact(ċ S ÇI,ċ W ÇI)
 ·rw[e1,e2,e3,e4,e5];exact(ċ uG ÇI,ċ F5 ÇI)
def OKs(z:ak):Prop:=∀c∈cds z,c<128
theorem AZ.oks{z:ak}(a:AZ z):OKs z:=λc h=>by have:=a c h;lia
theorem OKs.app{x y:ak}(a:OKs x)(b:OKs y):OKs (x++y):=λc h=>by rw[JD]at h;exact(ë h).elim (a c) (b c)
theorem OKs.ok{z:ak}(a:OKs z):Îg z=true:=by unfold Îg;rw[ÑZ];intro i hi;have:=a Âd[i] Ö;exact ÑV
theorem Hl:∀ss:À ak,(∀s∈ss,OKs s)->Âr Ç3=true
 | [],_=>rfl
 | x::r,h=>by simp[Âr,ÁS,(h x Ö).ok,Hl r λs hs=>h s Úq]
theorem Zl6(ss:Ñ)(h:∀s∈ss,OKs s):ÂV (.list Ç3)=true:=by simp[ÂV,ÁS,Âs,Hl ss h,N8]
theorem Zwo{s k:ak}(hs:AZ s)(hk:AZ k):OKs (thT s k):=by
 have e:OKs (":" : ak):=by intro c a;have:c∈(":" : ak).cps.toList:=a;rw[show (":" : ak).cps.toList=[58] from by ac_rfl]at this;rw[ò this];decide
 have b:OKs (kT0 k):=by
  unfold kT0;split
  ·intro c a;have:c∈("-" : ak).cps.toList:=a;rw[show ("-" : ak).cps.toList=[45] from by ac_rfl]at this;rw[ò this];decide
  ·exact hk.oks
 exact(hs.oks.app e).app b
theorem RA(ks:Ñ):ÂW (.list (Ů ÃQ)) Ç4=decide (ks=[]):=by
 cases ks with
 | nil=>simp[ÂW,Ê0]
 | Î a r=>simp[ÂW,Ê0]
theorem Zk2{a s:ak}{ks:Ñ}{o:Od}(h:Tb a s ks o)(hd:a = "drop"->ks=[]):ÀJ " " (a::[s]++Ů kT0)=Áo:=by
 rcases h with⟨rfl,rfl⟩|⟨rfl,rfl⟩|⟨rfl,rfl⟩
 ·rfl
 ·rfl
 ·rw[hd rfl];rfl
theorem Zn5{a s:ak}{ks:Ñ}{o:Od}(h:Tb a s ks o)(hs:NmS s)(hk:KsS ks):OdW o:=by
 rcases h with⟨rfl,rfl⟩|⟨rfl,rfl⟩|⟨rfl,rfl⟩
 ·exact(hs,hk)
 ·exact(hs,hk)
 ·exact hs
def Y6(R:í):À ZI:=ĉ λe=>(e.n,(Ò,e.g,),)
def nmA(R:í):À (ak×Int):=ĉ λe=>(Ú,e.n,)
theorem Hk{nm:Α}(nd:#[nB].Nodup){e:ak×Int}(he:e∈nm):YT nm e.2=e.1:=by
 unfold YT;cases a:nm.find? λx=>decide (x.2=e.2) with
 | none=>exact Ê Ïa (ÛX a e he)
 | some y =>
  have b:=Qax a;have c:y.2=e.2:=by have:=ÍD;simpa using this
  rw[Uu nd b he c];rfl
def XN(e:AR)(t:ae)(x:AR):AR:=if β=Ú then (Ú,t,e.n,e.k,Ò,e.g+1) else x
inductive ATk (R:í):À ak->À AR->Prop
 | nil:ATk R [] R
 | Ň {R1:À AR} {ws:À ak} {e:AR} {z:ak} {t:ae}:ATk R ws R1->e∈R1->Ò[e.g]? = U z->Win (hdP (Y6 R1)) (ZY (Y6 R1)) (U e.n)->ATk R (ws++[thT Ú z]) (R1.map (XN e t))
theorem Wm(R:í):ZY (Y6 R)=ĉ (·.n):=by unfold ZY Y6;rw[Qo];rfl
theorem VI(R:í):(nmA R).map ę=ĉ (·.n):=by unfold nmA;rw[Qo];rfl
theorem VH(R:í):(nmA R).map ó=ĉ (·.nm):=by unfold nmA;rw[Qo];rfl
theorem MG{a:í}{e:AR}{t:ae}(he:e∈a)(nd:(ŕ (·.nm)).Nodup):nmA (ŕ (XN e t))=nmA a:=by
 unfold nmA;rw[Qo];refine QJ λx b=>?_;rw[74];unfold XN;split
 ·rename_i h;rw[zK,c,β,x,y.nm,b];rw[zK,d,Ú,e,y.nm,he];have:=XU ÎZ c d h;injection this with _ this;rw[this]
 ·rfl
theorem Zum{a:í}{e:AR}{t:ae}(he:e∈a)(nd:(ŕ (·.nm)).Nodup)(g:(ŕ (·.n)).Nodup):Y6 (ŕ (XN e t))=W9 (Y6 a) e.n:=by
 unfold Y6 W9;rw[Qo,Qo];refine QJ λx d=>?_;rw[74];unfold XN Wc;by_cases h:β=Ú
 ·rw[zK,b,β,x,y.nm,d];rw[zK,c,Ú,e,y.nm,he];have:=XU ÎZ b c h;injection this with _ this;rw[Æ h,Æ (by rw[this]),this]
 ·rw[Ç h,Ç];intro i;rw[zK,b,x.n,x,y.n,d];rw[zK,c,e.n,e,y.n,he];have:=XU #[ei,Qo,g] b c i;injection this with _ this;exact h (by rw[this])
theorem ATk.link{R d:í}{ws:Ñ}(h:ATk R ws d)(nd:Åh)(i:Ïr):∃a,TkW (Y6 R) a (Y6 d)/\nmA d=nmA R/\ws=ŕ λt=>thT (YT (nmA R) t.1) t.2.2:=by
 induction h with
 | nil=>exact([],.nil,rfl,rfl)
 | Ň h b k hw l =>
  rename_i g ws e z t;obtain a|m|c|n:=l;have j:(ÃP (·.nm)).Nodup:=by rw[<- VH,c,VH];exact nd
  have o:(ÃP (·.n)).Nodup:=by rw[<- VI,c,VI];exact i
  have st:Tc (Y6 g) Ãb z:=(Qd (f:=Ïn) b,k,hw);refine(a++[(e.n,e.g,z,)],?_,by rw[MG b j,c],?_)
  ·rw[Zum b j o];exact m.snoc st
  ·rw[Qe,ÛN,<- n];have p:(Ú,e.n,)∈nmA R:=by rw[<- c];exact Qd (f:=Ïm) b
   have:=Hk #[ei,VI,i] p;rw[show YT (nmA R) e.n=Ú from this]
theorem left_none'{P:į}(nd:Ä8)(h:Win (hdP P) (ZY P) af):ZQ P=0:=by
 have b:∀x∈P,x.2.1.length-x.2.2=0:=λx b=>by
  have:=h x.1 (Qd (f:=Ä9) b);rw[Nh nd b]at this;cases c:x.2.1[x.2.2]? with
  | none=>have:=List.getElem?_eq_none_iff.mp c;lia
  | some z=>rw[c]at this;cases this
 have g:∀P:À ZI,(∀x∈P,x.2.1.length-x.2.2=0)->ZQ P=0:=λP=>by
  induction P with
  | nil=>intro _;rfl
  | Î a r d=>intro h;rw[hx,h1,e,d,x,b];rw[zB,ZQ,e];rw[Qj,QR];lia
 exact g P b
inductive Xj (R:í):Od->ak->À AR->Prop
 | left:Xj R .left (RD ((ZQ (Y6 R):Nat):Int)) R
 | Àu:Xj R .rows (blT (ĉ λe=>thO Ú Ò[e.g]?)) R
 | comNo:Win (hdP (Y6 R)) (ZY (Y6 R)) af->Xj R .coming "-" R
 | com {e:AR} {z:ak}:e∈R->Ò[e.g]? = U z->Win (hdP (Y6 R)) (ZY (Y6 R)) (U e.n)->Xj R .coming (thT Ú z) R
 | Àz {R':À AR} {n:Nat} {ws:À ak}:ATk R ws R'->(ť=n\/ť<=n/\Win (hdP (Y6 R')) (ZY (Y6 R')) af)->Xj R (.take n) (blT ws) R'
theorem Xj.link{R v:í}{c:Int}{o:Od}{a b:ak}{S w:DS}(h:Xj R o a v)(L:Ta R c S)(ok:SOk S)(g:Yn S o b w):a=b/\Ta v c w:=by
 have i:Y6 R=S.P:=L.P;have r:nmA R=Χ:=L.nm;have nd:Åh:=by rw[<- VH,r];exact ok.nd
 have p:Ïr:=by rw[<- Wm,i];exact ÈI
 have name:∀e∈R,YT Χ e.n=Ú:=λe l=>by rw[<- r];exact Hk (nm:=nmA R) #[ei,VI,p] (Qd (f:=Ïm) l)
 have mem:∀e∈R,(Ãb:ZI)∈S.P:=λe l=>by rw[<- i];exact Qd (f:=Ïn) l
 cases h with
 | left=>cases g;exact(by rw[i],L)
 | Àu=>cases g;refine(?_,L);congr 1;unfold Wo;rw[<- i];unfold Y6;rw[Qo];refine QJ λe l=>?_;show _=thO (YT Χ e.n) Ò[e.g]?;rw[name e l]
 | comNo j =>
  cases g with
  | comNo _=>exact Ïo
  | com _ _ d=>rw[i]at j;exact nomatch j.one d
 | com j d m =>
  rename_i e z;rw[i]at m;cases g with
  | comNo s=>exact nomatch s.one m
  | com s C D=>have ex:=XU ÈI (mem e j) s (Qw (m.one D));subst ex;rw[show Ò[e.g]? = U _ from C]at d;cases d;exact(by rw[<- name e j],L)
 | Àz j d =>
  rename_i n ws;cases g with
  | Àz E g2 =>
   rename_i P P' nb li lo nm F k q;have t:Y6 R=P:=i;have x:nmA R=nm:=r;obtain y|u|A|B:=j.link nd p;have hl:ů=ť:=by rw[B,Qa]
   have G:=u.left #[ei,Wm,p];rw[t]at u G;have H:ů=Íp:=by
    rcases d with d|⟨d,m⟩
    ·lia
    ·have:=left_none' (by rw[Wm,<- VI,A,VI];exact p) m;lia
   obtain I|J:=u.one ÈI E.tk H;refine(by rw[B,I,x],?_,?_,L.c)
   ·exact A.trans x
   ·exact J
inductive WV:À Od->À ak->À AR->Int->Prop
 | nil:WV [] [] [] 0
 | deed {os:À Od} {as:À ak} {R R':À AR} {c c':Int} {o:Od} {a:ak}:WV os as R c->W8 R c o a R' c'->WV (os++[o]) (as++[a]) R' c'
 | ask {os:À Od} {as:À ak} {R R':À AR} {c:Int} {o:Od} {a:ak}:WV os as R c->Xj R o a R'->WV (os++[o]) (as++[a]) R' c
theorem WV.len{os:Âw}{b:Ñ}{R:í}{c:Int}(h:WV os b R c):ħ=Ám:=by
 induction h with
 | nil=>rfl
 | deed _ _ a=>rw[Qi,Qi,a];rfl
 | ask _ _ a=>rw[Qi,Qi,a];rfl
theorem WV.link{os:Âw}{n:Ñ}{R:í}{c:Int}(h:WV os n R c):∀ {bs:À ak} {S:DS},Wn Ëx os bs S->n=bs/\Ta R c S:=by
 induction h with
 | nil =>
  intro bs S g;generalize e:([]:À Od)=os at g;cases g with
  | nil=>exact(rfl,rfl,rfl,rfl)
  | Ň _ _ _ _=>simp at e
 | deed _ b d =>
  rename_i f i p q r c1 o a _;rw[ug];cases g with
  | nil=>simp at e
  | Ň j k _ l=>obtain rfl|rfl:=Nq e;rw[km]
 | ask _ b d =>
  rename_i f i p q r o a _;rw[ug];cases g with
  | nil=>simp at e
  | Ň j k _ l=>obtain rfl|rfl:=Nq e;rw[km]
theorem Zqd{s s' x f:ak}{a b:Int}(h:Y2 [.inr s',.inl b,.inr f] [.inr s,.inl a,.inr x]=false):b=a\/Btr (cds s) a (cds s') b:=by
 rw[Ug]at h;by_cases e:#[so,s']=Àa s
 ·rw[Æ e,Ug]at h;have g:s'=s:=Ål e;by_cases c:#[ty,b]=ÂA a
  ·exact .inl (Ã0 c)
  ·rw[hI,c,h];have d:¬ b<a:=Âh h;have i:b≠a:=λz=>c (by rw[z]);exact .inr (.inr (by rw[g,Jl],by lia))
 ·rw[xG];have d:¬ cds s'<cds s:=Âh h;rw[NZ]at d;have i:=VS (cds s') (cds s);have h3:ZT (cds s) (cds s')≠0:=λz=>e (by rw[Zsa (N6 _ _ z)]);exact .inr (.inl Á)
def hdA(e:AR):Ã ÄI:=Ò[e.g]?.map λz=>[.inr z,.inl e.n,.inr Ú]
def YI(R:í):À ÄI:=R.filterMap hdA
theorem Hj(R:í)(e:AR):YI (R++[e])=YI R++(hdA e).toList:=by unfold YI;rw[List.filterMap_append,QaD,List.filterMap_nil];cases hdA e<;>rfl
theorem Rz{R:í}{k:ς}(h:k∈YI R):∃e∈R,∃z,Ò[e.g]? = U z/\k=Üs:=by
 rw[tq,e,b,h,Éf,h];unfold hdA at h;cases a:Ò[e.g]? with
 | none=>rw[a]at h;cases h
 | some z=>rw[a]at h;cases h;exact(e,b,z,a,rfl)
theorem Hh{R:í}{e:AR}{z:ak}(he:e∈R)(hz:Ôs):[.inr z,.inl e.n,.inr Ú]∈YI R:=Qac.mpr (e,he,by unfold hdA;rw[hz];rfl)
theorem Hg{R:í}(up:Åi):(ĉ (·.n)).Nodup:=Ëy (up.imp λh z=>by lia)
theorem Rx{R:í}(up:Åi){e:AR}(he:e∈R):hdP (Y6 R) e.n=(Ò[e.g]?).map cds:=Nh #[fd,Wm,Hg,up] (x:=Ãb) (Qd (f:=Ïn) he)
theorem He{R:í}(up:Åi){k:ς}(hk:k∈YI R)(hm:∀u∈YI R,Y2 u k=false):∃e∈R,∃z,Ò[e.g]? = U z/\k=Üs/\Win Ëz ËA (U e.n):=by
 obtain e|d|z|h|rfl:=Rz hk;refine(e,d,z,h,rfl,?_,cds z,by rw[Rx up d,h];rfl,λb i y c=>?_)
 ·rw[Wm];exact Qd (f:=λe:AR=>e.n) d
 ·rw[Wm]at i;rw[em,x,j,i];rw[Rx up j]at c;cases g:x.ss[x.g]? with
  | none=>rw[g]at c;cases c
  | some s'=>rw[g]at c;cases c;exact Zqd (hm _ (Hh j g))
theorem Hc{R:í}(up:Åi)(h:YI R=[]):Win Ëz ËA af:=λn c=>by
 rw[Wm]at c;rw[em,x,d,c];rw[Rx up d];cases e:x.ss[x.g]? with
 | none=>rfl
 | some z=>have:=Hh d e;rw[h]at this;cases this
structure ABd (R:í) (c:Int) (i:Nat):Prop where
 few:ω<=16
 n:∀e∈R,0<=e.n/\e.n<c
 c0:0<=c
 c:c<=(i:Int)
 len:∀e∈R,ĭ<=5*i/\e.g<=ĭ
 key:∀e∈R,∀s∈Ò,ŝ<=40/\AZ s
 nmz:∀e∈R,NmS Ú
 up:R.Pairwise λa b=>a.n<b.n
 nd:#[pW].Nodup
theorem Ha{R:í}(nd:Åh){x e:AR}(hx:x∈R)(he:e∈R)(h:β=Ú):x=e:=by have a:(β,x,)∈ĉ λy=>(y.nm,y,):=#[fU,y.nm,hx];have b:(Ú,e,)∈ĉ λy=>(y.nm,y,):=#[fU,y.nm,he];have:=XU ÎZ a b h;injection this
theorem ABd.mono{R:í}{c:Int}{i:Nat}(h:ÃZ):ABd R c (i+1):=(ÁU,h.n,h.c0,by have:=h.c;lia,λe he=>by have:=ÀL e he;lia,Ä7,ÁZ,À2,h.nd)
theorem ABd.step{R v:í}{c w:Int}{i:Nat}{o:Od}{a:ak}(h:ÃZ)(hw:OdW o)(g:W8 R c o a v w):ABd v w (i+1):=by
 have z:=h.c0;have ci:=h.c;cases g with
 | Æk _=>exact h.mono
 | Æl _=>exact h.mono
 | Æm _=>exact h.mono
 | row f p C =>
  rename_i s ks t k;rw[ew,q,j,hw];refine(by rw[Qi,QK];lia,λe he=>?_,by lia,by lia,λe he=>?_,λe he=>?_,λe he=>?_,Ûq (À2,QaH ..,λa l b n=>?_),?_)
  ·rcases ë he with he|he
   ·have:=h.n e he;lia
   ·rw[ò he];show 0<=c/\c<c+1;lia
  ·rcases ë he with he|he
   ·have:=ÀL e he;lia
   ·rw[ò he];have:=j.1;show Ο<=_/\0<=Ο;lia
  ·rcases ë he with he|he
   ·exact Ä7 e he
   ·rw[ò he];exact j.2
  ·rcases ë he with he|he
   ·exact ÁZ e he
   ·rw[ò he];exact q
  ·rw[ò n];exact(h.n a l).2
  ·rw[fc,h.nd,l,n,y,r];have:b=s:=by simpa using n
   rw[this];exact f y r
 | Àx f p C =>
  rename_i s ks e t k;rw[ew,q,j,hw];have m:∀x∈ĉ (λx=>if β=s then ((s,t,e.n,k,Ò++ks,e.g):AR) else x),x∈R\/x=(s,t,e.n,k,Ò++ks,e.g):=λx d=>by
   rw[em,y,r,d];split
   ·exact À8
   ·exact .inl r
  refine(by rw[Qa];exact ÁU,λx d=>?_,z,by lia,λx d=>?_,λx d=>?_,λx d=>?_,?_,?_)
  ·rcases m x d with d|rfl
   ·exact h.n x d
   ·exact h.n e f
  ·rcases m x d with d|rfl
   ·have:=ÀL x d;lia
   ·have:=ÀL e f;have:=j.1;show (Ò++ks).length<=_/\e.g<=(Èu).length;rw[Qi];lia
  ·rcases m x d with d|rfl
   ·exact Ä7 x d
   ·intro A hs';rcases ë hs' with hs'|hs'
    ·exact Ä7 e f A hs'
    ·exact j.2 A hs'
  ·rcases m x d with d|rfl
   ·exact ÁZ x d
   ·exact q
  ·have B:∀x∈R,(if β=s then (Üt:AR) else x).n=x.n:=λx d=>by
    split
    ·rename_i u;rw[Ha h.nd d f (u.trans p.symm)]
    ·rfl
   refine Ëy (h.up.imp_of_mem λl n D=>?_);rw[B _ l,B _ n];exact D
  ·rw[show (ĉ λx=>if β=s then (Üt:AR) else x).map (·.nm)=ĉ (·.nm) from ?_]
   ·exact h.nd
   ·rw[Qo];refine QJ λx _=>?_;rw[74];split
    ·rename_i u;exact u.symm
    ·rfl
 | Ày f p=>exact(Qk (QaT _ _) ÁU,λe he=>h.n e #[xu].1,z,by lia,λe he=>by have:=ÀL e #[xu].1;lia,λe he=>Ä7 e #[xu].1,λe he=>ÁZ e #[xu].1,h.up.sublist QaE,h.nd.sublist (List.filter_sublist.map _))
theorem ABd.out{R:í}{c:Int}{i:Nat}(h:ÃZ){e:AR}{z:ak}{t:ae}(he:e∈R)(hz:Ôs):ABd ËB c i:=by
 rw[sM,hg,hz];have m:∀x∈ĉ (XN e t),x∈R\/x=(Ú,t,e.n,e.k,Ò,e.g+1):=λx a=>by
  rw[em,y,f,a];unfold XN;split
  ·exact À8
  ·exact .inl f
 have b:=MG (t:=t) he h.nd;refine(by rw[Qa];exact ÁU,λx a=>?_,h.c0,h.c,λx a=>?_,λx a=>?_,λx a=>?_,?_,by rw[<- VH,b,VH];exact h.nd)
 ·rcases m x a with a|rfl
  ·exact h.n x a
  ·exact h.n e he
 ·rcases m x a with a|rfl
  ·exact ÀL x a
  ·have:=ÀL e he;show ĭ<=_/\e.g+1<=ĭ;lia
 ·rcases m x a with a|rfl
  ·exact Ä7 x a
  ·exact Ä7 e he
 ·rcases m x a with a|rfl
  ·exact ÁZ x a
  ·exact ÁZ e he
 ·have:=VI ËB;rw[b,VI]at this;have d:(ĉ (·.n)).Pairwise (·<·):=Ëy À2;rw[this]at d;exact List.pairwise_map.mp d
theorem ABd.tk{R a:í}{c:Int}{i:Nat}{ws:Ñ}(h:ÃZ)(g:ATk R ws a):ABd a c i:=by
 induction g with
 | nil=>exact h
 | Ň _ b d _ e=>exact e.out b d
theorem Xj.bd{R b:í}{c:Int}{i:Nat}{o:Od}{a:ak}(h:ÃZ)(g:Xj R o a b):ABd b c i:=by
 cases g with
 | Àz g _=>exact h.tk g
 | _=>exact h
def Rw:Sp:=λvs H Q _=>X5 λ(d rd:ae) (R:À AR) (c:Int) (i:Nat)=>vs=[.ref d]/\Yu H d rd R c/\ABd R c i/\i<=40 /\
 ∀ (l:ae) (b:Xq) (a:Hp),H l=af->a l=U #[sL,b]->AtT a b->Âl ę=YI R->ZB H a->Q ć a
theorem ZlS(T:Ù):Df P w K mg Â 1 "_law_heads" ÁQ Rw:=by
 rw[ed,T.t_l_heads.df,UL,vs,W];obtain d|a|R|c|i|rfl|D|B|hi|q:=h;refine(_,#[Zd,#[hc,1,UL.nd],#[Zd,(@Zsq _ _ _ #[XI,χ,(@KP _ _ _ _ #[fu,W]),#[sa,2,UL.nd],#[Zd,#[YC,#[ZD,(ixG W),#[fu,W],‹2›],#[ef,3,UL.nd,4,5]],#[Zh,#[ZN,#[Zk,WT,‹5›,#[hq,4],þ],#[Zh,#[ZM,#[YN,QE,QF,QG,Z3,‹1›,#[Ze,#[Yx,#[Ze,#[rQ,Τ,4,5],‹3›,‹2›]]]]]],ï]]]]),#[fq,1]]],Υ,λl I=>?_);have X:=Zi I Ş;have N:#[gf,H,l] l=U (.lst (YL [])):=Zb;have j:=Åd X;generalize upd H l (.lst [])=J at X N j ⊢;have O:l≠a:=λz=>by have:=ÁW;rw[<- z,N]at this;cases this
 refine(a,_,ÁW,ŷ,_,rfl,d,_,rfl,ď (k:=ÃY) j.at' (V9 a c),a,_,rfl,ÁW,λo=>?_);have Y:#[h3,J,a]:=λb u m n=>by rw[Zc n];exact m
 rw[fv,il,J,a,ÈL];generalize upd J a (.frz o (.dK (kvA R)))=Hz at Y il ⊢;refine Zro (λi Z C=>(X4 λv2 v3 v4 v5:Ã V=>Z=[U Àw,U ć,v2,v3,v4,v5])/\(∃p:Xq,C l=U #[sL,p]/\AtT C p/\p.map ę=YI (ÈM i)/\ÊG<=i)/\C a=U ÈL/\∀b u,J b=U u->b≠a->b≠l->C b=U u) ((af,af,af,af,rfl),([],Y _ _ N O,λt g=>(by cases g),rfl,Qf _),il,λb u m n _=>Y b u m n) (λ_ _ _ h=>h.2.2.1) ?_ ?_
 ·rintro i ky x Z C F ⟨⟨v2,v3,v4,v5,rfl⟩,⟨p,r,G,L,bf⟩,v,y⟩;rw[h2,kvA,F];cases M:R[i]? with
  | none=>rw[M]at F;cases F
  | some e =>
  rw[sg,M,F,hm];obtain g|hk:=j.tup e hm;have nt:e.t≠a/\e.t≠l:=(λz=>(by rw[z,ÁW]at g;cases g),λz=>(by rw[z,N]at g;cases g));have nk:e.k≠a/\e.k≠l:=(λz=>(by rw[z,ÁW]at hk;cases hk),λz=>(by have:=Á0 e hm;rw[z,I]at this;exact Ê this.2 Ö));have nd:d≠l:=λz=>(by have:=ĝ;rw[z,I]at this;cases this);have cT:=y _ _ g nt.1 nt.2;have iN:=y _ _ hk nk.1 nk.2;have gb:=y _ _ j.at' j.ne nd;have Ň:ÈM (i+1)=ÈM i++[e]:=by rw[QH,M];rfl
  refine(_,rfl,d,_,rfl,ď (k:=ÃY) gb (V9 a c),_,rfl,a,_,rfl,Z7.fz (k:=Æu) v (VJ ÀP hm),e.t,_,rfl,û cT,rfl,_,_,rfl,_,_,rfl,_,_,rfl,rfl,?_);have kR:(e.ss.map Ä).length=ĭ:=Qa ..;refine(_,rfl,_,rfl,e.k,_,rfl,.inl (Í iN),_,_,rfl,rfl,_,rfl,?_);rw[kR];by_cases hg:e.g<ĭ
  ·refine Y0 Á ?_;have hz:Ò[e.g]? = U Ò[e.g]:=Qb hg;refine(_,rfl,.inl #[eG,r],_,rfl,_,rfl,e.k,_,_,_,rfl,rfl,Í iN,XZ (by rw[Qq,hz];rfl),_,rfl,_,rfl,ÁM,λt g=>?_);have st:=Zi g (.tup [.str Ò[e.g],.int e.n,.str Ú]);have ntl:t≠l:=λz=>by rw[z,r]at g;cases g
   have ntr:t≠a:=λz=>by rw[z,v]at g;cases g
   refine(l,_,_,rfl,rfl,st _ _ r,?_,(_,_,_,_,rfl),(p++[(t,[.inr Ò[e.g],.inl e.n,.inr Ú],)],?_,λu hu=>?_,?_,?_),?_,λb u m n1 n2=>?_)
   ·have:ÊG<=16:=by have:=ÁY;lia
    unfold YL;rw[ld]
   ·rw[Zb];unfold YL;rw[Qe];rfl
   ·rcases ë hu with hu|hu
    ·rw[Zc (λz=>by have:=G u hu;rw[z,r]at this;cases this)];exact st _ _ (G u hu)
    ·rw[ò hu];rw[Zc ntl];exact Zb
   ·rw[Qe,L,Ň,Hj];unfold hdA;rw[hz];rfl
   ·rw[Qi,QK];lia
   ·rw[Zc (λz=>O ÅN)];exact st _ _ v
   ·rw[Zc n2];exact st _ _ (y b u m n1 n2)
  ·refine YO Á ((_,_,_,_,rfl),(p,r,G,?_,by lia),v,y);rw[L,Ň,Hj];unfold hdA;rw[QW Á];exact(Qab _).symm
 ·rintro Z C ⟨⟨v2,v3,v4,v5,rfl⟩,⟨p,r,G,L,bf⟩,v,y⟩;rw[hh,aZ,L];refine(o,v,_,rfl,?_);have BU:=O;refine q l p _ I #[hS,O,r] (λu hu=>by rw[Zc (λz=>by have:=G u hu;rw[z,v]at this;cases this)];exact G u hu) L λb u m=>?_;by_cases S:b=a
  ·rw[zV,S,m]
  ·rw[Zc S];exact y b u (X b u m) S (Zf m I)
theorem G9:∀L:À (À Key),(∀k∈L,X3 λz n s=>k=Ïs/\AZ z/\AZ s)->Âr Æv=true/\ÁT Æv<=1
 | [],_=>(rfl,by simp[ÁT])
 | k::r,h=>by obtain a|b:=#[sU,G9,x,hx];obtain z|n|s|rfl|d|e:=h k Ö;have c:tD Ïs=.tuple [.str z,.int n,.str s]:=rfl;refine(by simp[Âr,ÁS,c,d.ok,e.ok,a],?_);rw[Qj,c];simp only[ÁT,Âs];lia
theorem G8(L:À ÄI)(h:#[sr,k,L,k]):ÂV (.list Æv)=true:=by obtain a|b:=G9 L h;simp[ÂV,ÁS,Âs,a];lia
theorem MF(L:À ÄI):ÂW (.list Æv) Ç4=decide (L=[]):=by
 cases L with
 | nil=>simp[ÂW,Ê0]
 | Î a r=>simp[ÂW,Ê0]
theorem Rv{R:í}{c:Int}{i:Nat}(B:ÃZ):∀k∈YI R,X3 λz n s=>k=Ïs/\AZ z/\AZ s:=λk hk=>by obtain e|a|z|b|rfl:=Rz hk;exact(z,e.n,Ú,rfl,(B.key e a z (Qn b)).2,(Ãg e a).1)
def ME:Sp:=λvs H Q _=>X5 λ(d rd:ae) (R:À AR) (c:Int) (i:Nat)=>vs=[.ref d]/\Yu H d rd R c/\ABd R c i/\i<=40 /\
 (∀a,Win Ëz ËA af->ZB H a->Q (.str "-") a)/\∀ (e:AR) (z:ak) a,e∈R->Ò[e.g]? = U z->Win Ëz ËA (U e.n)->ZB H a->Q (.str (thT Ú z)) a
theorem ZrC(T:Ù)(O:ÔI)(S:Ôh):Df P w K mg Â 2 "_law_coming" ÁQ ME:=by
 rw[ed,T.t_l_coming.df,TM,V,k];obtain d|v|R|c|i|rfl|D|B|X|Y|q:=h;refine(_,#[Zd,#[Zu,1,TM.nd,à,#[iR,O,k]],#[Zd,#[ZN,#[e2,eqD,k,1],Èw,ï],#[Zd,#[YC,#[Zo,(K3 K k),È,ÎS,ÎT,Ák],#[ef,2,TM.nd,3,4]],#[Zh,#[Zm,#[ZK,VD,#[ZK,VD,‹4›,Ý],#[Zz,S,k,Ä5,È]]]]]]],_,rfl,d,v,R,c,i,rfl,D,B,X,λl b y hl C F g Z=>?_);have CK:(Âl λt=>tD t.2)=(YI R).map tD:=by rw[<- g,Qo];rfl
 rw[gH,G,jZ,j];refine(.list ((YI R).map tD),.list [],.lst (Í (j _ _ C)) #[sI,CK,b,a,j,F],.lst ÄZ .nil,G8 _ (Rv B),ú,_,rfl,?_);have I:=j _ _ C;have o:AtT #[gf,y,G] b:=λt a=>j _ _ (F t a);have p:=Z.trans j;generalize upd y G (.lst [])=J at I o p ⊢;rw[Ç (by exact Qu),MF];by_cases m:YI R=[]
 ·exact Y0 m (Y J (Hc B.up m) p)
 ·have uH:#[sr,t,b,t.2]:=λt a=>Rv B t.2 (by rw[<- g];exact #[gq,a]);refine YO m (_,rfl,l,b,[false,true,false],rfl,Í I,o,(λz=>m (by rw[<- g,z];rfl)),λt a=>?_,λt a lV=>?_)
  ·obtain z|n|s|e2|_:=uH t a;rw[e2];rfl
  ·have hk:t.2∈YI R:=by rw[<- g];exact #[gq,a]
   have hm:∀u∈YI R,Y2 u t.2=false:=λu L=>by rw[<- g]at L;rw[em,x,hx,L];exact lV x hx
   obtain e|r|z|M|ek|W:=He B.up hk hm;have N:=o t a;rw[ek]at N;have kz:=B.key e r z (Qn M);have nz:=(Ãg e r).2.2;rw[eW,t.1,N];have wU:Æj:=by ac_rfl
   have k1:(kT0 z).length<=41:=by
    unfold kT0;split
    ·ac_rfl
    ·lia
   exact(_,rfl,Ú, ":",rfl,rfl,ē Á,_,rfl,z,rfl,Ú ++ ":",kT0 z,rfl,rfl,ē #[fL,QI],q e z J r M W p)
theorem Ztn{R:í}{e:AR}(he:e∈R)(t:ae):YX (kvA R) Ïp Ât=kvA ËB:=by
 unfold YX;rw[Æ]
 ·unfold kvA;rw[Qo,Qo];refine QJ λx hx=>?_;rw[74];unfold XN;by_cases h:β=Ú
  ·rw[Æ Ê6,Æ h];show (#[so,β],ù t,)=(.inr Ú,.ref t,);rw[h]
  ·rw[yh]
 ·exact Èd (_,Qd (f:=ÔG) he,ě rfl)
theorem Yu.out{H a:Hp}{d rd:ae}{R:í}{c:Int}{e:AR}{t:ae}(D:Yu H d rd R c)(he:e∈R)(ht:a t=U (.tup [.int e.n,.ref e.k,.int #[f0,e.g]]))(k:#[fg,u,H,rd,a])(hr:a rd=U (.dK (kvA ËB))):Yu a d rd ËB c:=by
 have g:∀ {b:ae} {u:HO},H b=U u->(∀i,u≠.dK i)->b≠rd:=λh j z=>by rw[z,Ŧ]at h;cases h;exact j _ rfl
 refine(k _ _ ĝ D.ne,hr,λx l=>?_,by rw[<- VH,MG he ÀP,VH];exact ÀP,D.ne);rw[em,y,f,l];unfold XN;split
 ·exact(ht,k _ _ #[wG].2 (g #[wG].2 λ_ z=>by cases z))
 ·exact(k _ _ #[y4].1 (g #[y4].1 λ_ z=>by cases z),k _ _ #[y4].2 (g #[y4].2 λ_ z=>by cases z))
theorem G7{R:í}(up:Åi)(hw:Win Ëz ËA af):YI R=[]:=List.eq_nil_iff_forall_not_mem.mpr λk hk=>by obtain e|c|z|d|_:=Rz hk;have:=hw e.n (by rw[Wm];exact Qd (f:=λe:AR=>e.n) c);rw[Rx up c,d]at this;cases this
theorem ZvF{R:í}(up:Åi){x e:AR}(hx:x∈R)(he:e∈R)(h:x.n=e.n):x=e:=by have c:(x.n,x,)∈ĉ λy=>(y.n,y,):=#[fU,y.n,hx];have d:(e.n,e,)∈ĉ λy=>(y.n,y,):=#[fU,y.n,he];have:=XU #[fd,Qo,Hg,up] c d h;injection this
theorem G6{s z:ak}(h1:Ër)(h2:Ľ<=40):(thT s z).length<=50:=by
 have wU:Æj:=by ac_rfl
 have k1:(kT0 z).length<=41:=by
  unfold kT0;split
  ·ac_rfl
  ·lia
 rw[rn];lia
def G5:Sp:=λvs H Q _=>X6 λ(d rd:ae) (R:À AR) (c:Int) (i m:Nat)=>vs=[.ref d,.int (m:Int)]/\Yu H d rd R c/\ABd R c i/\i<=40/\m<=400 /\
 ∀ (ws:À ak) (a:À AR) (e:Hp),ATk R ws a->(ť=m\/ť<=m/\Win (hdP (Y6 a)) (ZY (Y6 a)) af)->Yu e d rd a c->#[eK,u,rd,e]->(∀x∈ws,Č<=50)->Q (.str (blT ws)) e
theorem ZmG(T:Ù)(cX:ÔI)(eG:Üu):Df P w K mg Â 3 "_law_taken" Îb G5:=by
 rw[ed,T.t_l_taken.df,VU,vs,J];obtain d|F|R|c|i|m|rfl|D|B|hi|hm|q:=h;refine(_,#[Zd,#[hc,2,VU.nd],#[Zd,#[XI,χ,#[V6,ÇZ,Ák],#[sa,3,VU.nd],#[Zd,#[Zu,4,VU.nd,à,#[iR,cX,J]],#[Zh,#[ZN,#[e2,neD,J,4],#[Zd,#[ZM,#[YN,QE,QF,QG,Z3,‹2›,#[Ze,#[iR,eG,J]]]],#[Zd,#[Zu,5,VU.nd,à,#[ZD,(ixT K),#[Zo,(K3 K J),È,ÎS,ÎT,#[Ze,‹4›]],Û]],#[Zd,#[YC,#[ZD,(ixG J),#[fu,J],‹5›],#[ef,6,VU.nd,7,8]],#[Zh,#[YC,#[Yx,#[Ze,‹6›,‹7›,#[rZ,XR,8]]],#[Xg,#[fu,J],‹5›,(Ww J)]]]]]],ï]]]],#[Zh,#[Zm,#[Z4,#[e2,neD,J,2],#[YN,Q0,Qaj,Qak,(UU K),Ý,Ä5],Ý]]]]],Υ,λl hl=>?_);rw[gA,s1,hl,cE,H,l];have D1:=Åd s1;generalize upd H l (.lst [])=H1 at s1 cE D1 ⊢;have nl:l≠F:=λz=>by have:=D1.rows;rw[<- z,cE]at this;cases this
 have nd:d≠l:=λz=>by have:=ĝ;rw[gY,hl]
 refine(_,rfl,_,rfl,by lia,by lia,?_);refine Uq (λj σ L=>(X6 λv3 v4 v5 v6 v7 v8:Ã V=>σ=[U Àw,U #[hG,m],U ć,v3,v4,v5,v6,v7,v8])/\X2 λ(ws:À ak) (p:À AR)=>ATk R ws p/\L l=U #[en,ÁO]/\Yu L d F p c/\(ť=j\/ť<=j/\Win (hdP (Y6 p)) (ZY (Y6 p)) af)/\(∀x∈ws,Č<=50/\OKs x)/\(∀x∈p,x.k≠l)/\∀b u,H1 b=U u->b≠F->b≠l->L b=U u) ((af,af,af,af,af,af,rfl),[],R,.nil,cE,D1,.inl rfl,λx h=>(by cases h),λx hx z=>(by have:=(Á0 x hx).2;rw[z,hl]at this;cases this),λb u o _ _=>o) ?_ ?_
 ·rintro j σ L hj ⟨⟨v3,v4,v5,v6,v7,v8,rfl⟩,ws,p,fK,bN,D2,hw,v,wW,k2⟩;have G:=B.tk fK;refine(_,rfl,d,F,p,c,i,rfl,D2,G,hi,λwf Z H3 hn3 vP bW bJ s3=>?_);have CK:(Z.map λt=>tD t.2)=(YI p).map tD:=by rw[<- bJ,Qo];rfl
  rw[gH,e1,jZ,s4];refine(.list ((YI p).map tD),.list [],.lst (Í (s4 _ _ vP)) #[sI,CK,Z,C,s4,bW],.lst ÄZ .nil,G8 _ (Rv G),ú,_,rfl,?_);have Gc:=s4 _ _ vP;have mi:AtT #[gf,H3,e1] Z:=λt C=>s4 _ _ (bW t C);have wX:=s3.trans s4;generalize upd H3 e1 (.lst [])=H4 at Gc mi wX ⊢;clear s3 s4 bW vP jZ;rw[Æ rfl,MF];have kb:=wX _ _ bN;have D4:=D2.same wX;by_cases gY:YI p=[]
  ·rw[ě gY];refine Y8 ((_,_,_,_,_,_,rfl),ws,p,fK,kb,D4,   .inr (by lia,Hc G.up gY),v,wW,λb u o N O=>wX _ _ (k2 b u o N O))
  ·rw[ĕ gY];have Gd:ť=j:=by
    rcases hw with hw|⟨_,hw⟩
    ·exact hw
    ·exact Ê (G7 G.up hw) gY
   refine YM (_,rfl,.inl #[eG,kb],_,rfl,d,F,p,c,i,rfl,D4,G,hi,λI hW S=>?_,λe z I M hz W S=>?_)
   ·exact Ê (G7 G.up hW) gY
   ·have iG:=S _ _ kb;have Ge:∀ {b:ae} {u:HO},I b=U u->(∀zs,u≠.lst zs)->b≠l:=λo hu z=>by rw[z,iG]at o;cases o;exact hu _ rfl
    rw[sh,l,iG,Gd];have X:=D4.same S;have k6:#[fg,u,I,l,ÈN]:=λb u o n=>by rw[Zc n];exact o
    have qB:ÈN l=U (.lst ((ws++[thT Ú z]).map Ä)):=by rw[Zb,Qe];rfl
    have Gf:wf≠l:=(Zf bN hn3).symm;have D6:Yu ÈN d F p c:=by have za:∀ {b:ae} {u:HO},I b=U u->b≠l->ÈN b=U u:=λ{b u} o n=>k6 b u o n;exact(za X.at' nd,za X.rows (λY=>nl Y.symm),λx hx=>(za (X.tup x hx).1 (Ge (X.tup x hx).1 λ_ Y=>by cases Y),za (X.tup x hx).2 (wW x hx)),X.nd,X.ne)
    have Gg:=k6 _ _ (S _ _ Gc) Gf;have wY:AtT ÈN Z:=λt C=>k6 _ _ (S _ _ (mi t C)) (Ge (S _ _ (mi t C)) λ_ Y=>by cases Y);have Gh:#[fg,u,L,l,ÈN]:=λb u o n=>k6 b u (S _ _ (wX _ _ o)) n;generalize upd I l (.lst (ÁO Ä++[Ä (thT Ú z)]))=H6 at k6 qB D6 Gg wY Gh ⊢;have uH:#[sr,t,Z,t.2]:=λt C=>Rv G t.2 (by rw[<- bJ];exact #[gq,C]);refine(_,rfl,wf,Z,[false,true,false],rfl,Í Gg,wY,(λz=>gY (by rw[<- bJ,z];rfl)),λt C=>?_,λt C lV=>?_)
    ·obtain z|n|s|e2|_:=uH t C;rw[e2];rfl
    ·have hk:t.2∈YI p:=by rw[<- bJ];exact #[gq,C]
     have gz:∀u∈YI p,Y2 u t.2=false:=λu hu=>by rw[<- bJ]at hu;rw[em,x,hx,hu];exact lV x hx
     obtain g|gP|z'|lW|ek|W':=He G.up hk gz;have:=ZvF G.up gP M (Qw (W'.one W));subst this;have kI:=wY t C;rw[ek]at kI;refine(t.1,_,_,_,rfl,rfl,û kI,rfl,?_);obtain fG|iu:=D6.tup g M;refine(_,rfl,d,_,rfl,ď (k:=ÃY) D6.at' (V9 F c),_,rfl,F,_,rfl,ď (k:=.inr g.nm) D6.rows (VJ D6.nd M),g.t,_,rfl,û fG,rfl,_,_,rfl,_,_,rfl,_,_,rfl,rfl,_,rfl,_,rfl,_,rfl,_,_,rfl,rfl,ÁM,λt2 cT=>?_);have dj:=Zi cT ÔJ;have D7:=D6.same dj;have Gi:∀b u,L b=U u->b≠l->(upd H6 t2 ÔJ) b=U u:=λb u o n=>dj _ _ (Gh b u o n);have uI:=dj _ _ qB;have uw:(upd H6 t2 ÔJ) t2=U (.tup [.int g.n,.ref g.k,.int #[f0,g.g]]):=Zb;generalize upd H6 t2 (.tup [.int g.n,.ref g.k,.int ((g.g:Int)+1)])=H7 at D7 Gi uI uw ⊢;have hsz:#[tm,kvA,p]:=by unfold kvA;rw[Qa];have:=G.few;exact Zs Á
     refine(_,rfl,d,_,rfl,ď (k:=ÃY) D7.at' (V9 F c),_,rfl,F,_,rfl,XD.k (k:=.inr g.nm) D7.rows hsz,(_,_,_,_,_,_,rfl),ws++[thT g.nm z],p.map (XN g t2),fK.snoc M hz W,?_,?_,.inl (by rw[Qi,Gd];rfl),λx hx=>?_,λx hx=>?_,λb u o N O=>?_)
     ·rw[Zc nl];exact uI
     ·rw[Ztn M];exact D7.out M (by rw[Zc (λY=>by rw[Y,D7.rows]at uw;cases uw)];exact uw) (λb u o n=>by rw[Zc n];exact o) Zb
     ·rcases ë hx with hx|hx
      ·exact v x hx
      ·rw[vd];have N:=G.nmz g M;have O:=G.key g M z (Qn hz);exact(G6 N.2.2 O.1,Zwo N.1 O.2)
     ·rw[em,y,hy,hx];unfold XN;split
      ·exact wW g M
      ·exact wW y hy
     ·rw[Zc N];exact Gi _ _ (k2 b u o N O) O
 ·rintro σ L ⟨⟨v3,v4,v5,v6,v7,v8,rfl⟩,ws,p,fK,bN,D2,hw,v,wW,k2⟩;rw[Qa9]at hw;have jT:ť<=m:=by rcases hw with hw|hw<;>lia
  have CL:Èx:=by ac_rfl
  have qJ:Üv:=λl=>by
   induction l with
   | nil=>intro _;exact Qf _
   | Î a r ih=>intro h;rw[wQ];lia
  have hs:=qJ ws λx hx=>(v x hx).1;rw[gH,z,hz,sz];refine(.list (ÁO ÃQ),.list [],.lst (Í (sz _ _ bN)) (UE ws),.lst ÄZ .nil,Zl6 ws λx hx=>(v x hx).2,ú,_,rfl,?_);rw[Æ rfl,RA];have fb:=sz _ _ bN;have D3:=D2.same sz;have k3:∀b u,H b=U u->b≠F->#[gf,L,z] b=U u:=λb u o n=>sz _ _ (k2 b u (s1 _ _ o) n (Zf o hl));generalize upd L z (.lst [])=H3 at fb D3 k3 ⊢;have q':=q ws p H3 fK hw D3 k3 λx hx=>(v x hx).1;unfold blT at q';by_cases hn:ws=[]
  ·rw[ě hn];rw[sX,hn,q'];exact Y8 q'
  ·rw[ĕ hn];rw[hI,hn,q'];exact YM (rfl,_,rfl,_,l,ws,rfl,rfl,Í fb,#[fL,CL],q')
theorem G4:∀k:À Key,(∀s:ak,Àa s∈k->AZ s)->Âr (k.map VO)=true/\ÁT (k.map VO)=0
 | [],_=>(rfl,by simp[ÁT])
 | x::r,h=>by
  obtain a|b:=#[sU,G4,s,hs];cases x with
  | inl i=>exact(by simp[Âr,ÁS,VO,a],by simp[ÁT,Âs,VO,b])
  | inr s=>exact(by simp[Âr,ÁS,VO,(h s Ö).ok,a],by simp[ÁT,Âs,VO,b])
theorem G3:∀L:À (À Key),(∀k∈L,∀s:ak,Àa s∈k->AZ s)->Âr Æv=true/\ÁT Æv<=1
 | [],_=>(rfl,by simp[ÁT])
 | k::r,h=>by obtain a|b:=#[sU,G3,x,hx];obtain c|d:=G4 k (h k Ö);refine(by simp[Âr,ÁS,tD,a,c],?_);rw[Qj];rw[zB,tD,b];simp only[ÁT,Âs]at b ⊢;lia
theorem ZpC(L:À ÄI)(h:∀k∈L,∀s:ak,Àa s∈k->AZ s):ÂV (.list Æv)=true:=by obtain a|b:=G3 L h;simp[ÂV,ÁS,Âs,a];lia
def nkA(e:AR):À Key:=[.inl e.n,.inr Ú]
theorem Zti{R:í}(up:Åi):(Üw).Pairwise λa b=>Y2 b a=false:=Ëy (up.imp λ{a b} h=>by unfold nkA;rw[Ug,Ç (λz=>by have:=Ã0 z;lia)];exact Çf)
theorem Zvl{R:í}{ks:À ÄI}(up:Åi)(p:ks.Perm Üw)(h:ks.Pairwise λa b=>Y2 b a=false):ks=ĉ nkA:=List.Perm.eq_of_pairwise (λa b _ _ h1 h2=>SI _ _ h2 h1) h (Zti up) p
def WU(R:í):À ÁJ:=R.filterMap λe=>Ò[e.g]?.map λz=>(.inr Ú,.str (kT0 z),)
theorem ZpK(R:í):∀k∈(WU R).map (·.1),∃e∈R,k=.inr Ú:=λk hk=>by
 rw[em,p,b,hk];rw[tq,e,c,h,Éf,b];cases a:Ò[e.g]? with
 | none=>rw[a]at h;cases h
 | some z=>rw[a]at h;cases h;exact(e,c,rfl)
theorem MD:∀ {R:À AR},#[pW].Nodup->((WU R).map ó).Nodup
 | [],_=>.nil
 | e::r,h=>by
  rw[Qj,QS]at h;have ih:=MD h.2;rw[zB,WU,ih];rw[QaD];cases hz:Ò[e.g]? with
  | none=>exact ih
  | some z=>refine QS.mpr (λm=>?_,ih);obtain x|a|z:=ZpK r _ m;exact h.1 (by rw[Ål z];exact Qd (f:=λe:AR=>Ú) a)
theorem ZsL{R:í}(nd:Åh){e:AR}(he:e∈R):Y4 (WU R) Ïp=(Ò[e.g]?).map λz=>Ä (kT0 z):=by
 cases b:Ò[e.g]? with
 | some z=>exact Vu (MD nd) (Qac.mpr (e,he,by rw[b];rfl))
 | none =>
  cases c:Y4 (WU R) (.inr Ú) with
  | none=>rfl
  | some v =>
   obtain x|d|h:=Éf (Vv c);cases a:x.ss[x.g]? with
   | none=>rw[a]at h;cases h
   | some z=>rw[a]at h;injection h with h;injection h with h _;have:=Ha nd d he (Ål h);subst this;rw[fX,b,a,a]
def prA:À Key->Key×V
 | [.inr z,_,.inr s]=>(.inr s,.str (kT0 z),)
 | _=>(.inl 0,.non,)
theorem G2(R:í):(YI R).map prA=WU R:=by unfold YI WU;rw[List.map_filterMap];congr 1;funext e;unfold hdA;rw[Option.map_map];rfl
theorem ZnT(x y z:ak):x++y++z=x++(y++z):=by obtain⟨a⟩:=x;obtain⟨b⟩:=y;obtain⟨c⟩:=z;show (⟨a++b++c⟩:ak)=⟨a++(b++c)⟩;rw[Ô3]
def G1:Sp:=λvs H Q _=>X5 λ(d rd:ae) (R:À AR) (c:Int) (i:Nat)=>vs=[.ref d]/\Yu H d rd R c/\ABd R c i/\i<=40/\∀a,ZB H a->Q (.str (blT Üx)) a
theorem Zpi(T:Ù)(cX:ÔI)(bP:Ôh):Df P w K mg Â 2 "_law_rows_text" ÁQ G1:=by
 rw[h0,T.t_l_rows_text.df,Oh];obtain d|g|R|c|i|rfl|D|B|hi|q:=h;refine(_,#[Zd,#[Zu,1,Oh.nd,à,#[Zo,(ZwD K),È,ÓA,ÓB,#[Ze,(@Ua _ _ _ #[XX,Tz,(@KP _ _ _ _ #[ZD,(ixG hr),ÊU,Ý]),#[fO,3,Tz],Η,(λ_ _ _ _=>#[Yx,#[Ze,#[ZD,(ixT K),#[ZD,(ixG hr),#[ZD,(ixG hr),#[cv,0,Tz],Ý],#[cw,3,Tz]],Û],#[cw,3,Tz]]])])]]],#[Zd,#[Zu,2,Oh.nd,ÂM,#[W4,(Zv1 K),T.b.n_dict,boot_dict,#[Ze,#[XX,Vl,#[iL,K,#[Zz,cX,hr,#[Ze,ÊU],È]],#[iC,3,Vl,4,5],Η,(λ_ _ _ _=>#[Yx,#[Ze,#[cw,5,Vl],#[Zz,bP,hr,#[Ze,#[cw,3,Vl]],#[hb,Vl]]]])]]]],#[Zh,#[Zm,#[Z4,#[e2,neD,hr,1],#[YN,Q0,Qaj,Qak,(UU K),Ý,#[Ze,#[XX,UH,Ëp,#[ex,3,UH,4],Η,(λ_ _ _ _=>#[ZK,VD,#[ZK,VD,#[cw,4,UH],Ý],(@ZrT _ _ _ _ _ _ _ _ _ _ hr #[cv,2,UH] #[cw,4,UH] Ý È È È)])]]],Ý]]]]],?_);have few:=ÁY;refine(g,_,Ŧ,ŷ,_,rfl,d,_,rfl,ď (k:=ÃY) ĝ (V9 g c),g,_,rfl,Ŧ,λo=>?_);have cz:#[h3,H,g]:=λb u p n=>by rw[Zc n];exact p
 rw[fv,il,H,g,ÈL];have y4:∀b,(upd H g ÈL) b=af->H b=af:=λb p=>by
  by_cases z:b=g
  ·rw[sT,Zb,p]
  ·rwa [Zc z]at p
 generalize upd H g (.frz o (.dK (kvA R)))=H1 at cz il y4 ⊢;intro B1 m9;refine ZsK (d:=g) (o:=o) (kvs:=kvA R) (λj zs J M=>(∃v:Ã V,J=[U Àw,af,af,v])/\(∃F:Xq,zs=YL F/\AtT M F/\F.map ę=(ÈM j).map nkA)/\j<=ω/\M B1=U Ż/\ZB H1 M) ((af,rfl),Üy,Qs _,Zb,Zi m9 _) #[hL,il] ?_ ?_
 ·rintro j ky x zs J M X ⟨⟨v,rfl⟩,⟨F,rfl,bW,I⟩,hj,N,Y⟩;rw[h2,kvA,X];cases m:R[j]? with
  | none=>rw[m]at X;cases X
  | some e =>
  rw[sg,m,X,hm];have nt:e.t≠g:=λz=>(by have:=(Á0 e hm).1;rw[z,Ŧ]at this;cases this);have cT:=Y _ _ (cz _ _ (Á0 e hm).1 nt);have gb:=Y _ _ (cz _ _ ĝ D.ne);have jH:=Y _ _ il;have aZ:Íp=j:=by have:=#[eC,I];rw[Qa,Qa,Qx]at this;lia
  refine(_,rfl,d,_,rfl,ď (k:=ÃY) gb (V9 g c),_,rfl,g,_,rfl,Z7.fz (k:=Æu) jH (VJ ÀP hm),e.t,_,_,_,rfl,rfl,û cT,rfl,_,rfl,Á6,λt C=>?_);have sn:=Zi C (.tup (nkA e |>.map kV));have O:=sn _ _ N;have CM:B1≠t:=Zf N C;refine(O,(by unfold YL;rw[Qa];exact Zs Á),ü,(F++[(t,nkA e,)],by unfold YL;rw[Qe];rfl,λy hy=>?_,?_),cq,Zb,λb u p=>?_)
  ·rcases ë hy with hy|hy
   ·exact Ji O _ _ _ (sn _ _ (bW y hy))
   ·rw[ò hy,Zc CM.symm];exact Zb
  ·rw[Qe,I,QH,m,Qe];rfl
  ·rw[sB,p,m9,sn,Y,b]
 rintro zs J M ⟨⟨v,rfl⟩,⟨F,rfl,bW,I⟩,hj,N,Y⟩;rw[hh,iR,I];have jH:=Y _ _ il;rw[sC,o,jH];have CN:B1≠g:=λz=>by rw[z]at m9;rw[rR,m9,il]
 have O:ÔK B1=U #[sL,F]:=by rw[Zc CN];exact N
 have tV:AtT ÔK F:=λt C=>by have:=bW t C;rw[eR,jH]
 have s3:ZB H ÔK:=λb u p=>by
  by_cases z:b=g
  ·rw[zV,z,p]
  ·rw[Zc z];exact Y _ _ (cz _ _ p z)
 generalize upd M g (.dK (kvA R))=H3 at O tV s3 ⊢;have bf:Íp=ω:=by have:=#[eC,I];rwa [Qa,Qa]at this
 have uH:∀t∈F,∃e∈R,t.2=nkA e:=λt C=>by have:=#[gq,C];rw[I]at this;rw[s0,e,m,e2];exact(e,m,e2.symm)
 refine(B1,F,[true,false],rfl,Í O,tV,É,(λt C=>by obtain e|_|e2:=uH t C;rw[e2];rfl),by lia,λl G hl hp Z=>?_);have mQ:G.map ę=ĉ nkA:=Zvl B.up (by rw[<- I];exact hp.map _) (Ëy Z);have s4:=Zi hl #[sL,G];have kb:(upd H3 l #[sL,G]) l=U #[sL,G]:=Zb;have mi:AtT (upd H3 l #[sL,G]) G:=λt C=>s4 _ _ (tV t (hp.mem_iff.mp C));have sk:=s3.trans s4;generalize upd H3 l (.lst (YL G))=H4 at kb mi sk ⊢;clear tV O s3 s4 bW N Y jH il cz y4 hl Z hp I uH bf;refine(_,rfl,d,g,R,c,i,rfl,Åd sk,B,hi,λl2 F H5 Gj bN bW I s5=>?_);have iG:=s5 _ _ kb;have AJ:AtT H5 G:=λt C=>s5 _ _ (mi t C);have Gk:=sk.trans s5;clear s5 mi kb sk Gj;have CO:(YI R).length<=16:=Qk (List.length_filterMap_le _ _) few;refine(l2,rfl,#[gF,bN],λB2 N=>?_);refine VQ (K:=K) (a:=l2) (xs:=YL F) (λj zs J H6=>(X3 λv3 v4 v5:Ã V=>J=[U Àw,U ć,af,v3,v4,v5])/\(∃S:À (ae×Key×V),zs=(S.map λt=>ù t.1)/\#[iu,S,H6]/\S.map ę=((YI R).take j).map prA)/\j<=(YI R).length/\H6 B2=U Ż/\ZB H5 H6) ((af,af,af,rfl),Üy,Qs _,Zb,Zi N _) #[eD,bN] ?_ ?_
 ·rintro j y zs J H6 hy ⟨⟨v3,v4,v5,rfl⟩,⟨S,rfl,zb,mj⟩,hj,wZ,s6⟩;rw[h2,YL,hy];cases L:F[j]? with
  | none=>rw[L]at hy;cases hy
  | some t =>
  rw[rR,L,hy];have W:(YI R)[j]? = U t.2:=by rw[<- I,Qq,L];rfl
  obtain e|m|z|hze|ek:=Rz (Qn W);rw[sM,lZ,W];have kI:=s6 _ _ (bW t (Qn L));rw[ek]at kI;have aZ:Ït=j:=by have:=#[eC,mj];rw[Qa,Qa,Qx]at this;lia
  refine(t.1,_,rfl,û kI,rfl,_,_,rfl,_,_,rfl,_,_,rfl,rfl,_,rfl,_,rfl,z,rfl,Á6,λt' fG=>?_);have sn:=Zi fG (.tup [kV Ïp,.str (kT0 z)]);have Gm:=sn _ _ wZ;have CM:B2≠t':=Zf wZ fG;refine(Gm,Ëg,Ës,(S++[(t',.inr Ú,.str (kT0 z),)],by rw[Qe];rfl,λy hy=>?_,?_),lZ,Zb,λb u p=>?_)
  ·rcases ë hy with hy|hy
   ·exact Ji Gm _ _ _ (sn _ _ (zb y hy))
   ·rw[ò hy,Zc CM.symm];exact Zb
  ·rw[Qe,mj,QH,W,Qe,ek];rfl
  ·rw[sB,p,N,sn,s6,b]
 rintro zs J H6 ⟨⟨v3,v4,v5,rfl⟩,⟨S,rfl,zb,mj⟩,hj,wZ,s6⟩;have j3:(YL F).length=(YI R).length:=by unfold YL;rw[Qa,<- I,Qa]
 rw[j3,Qv ç,G2]at mj;have hvl:Ït<=16:=by have:=#[eC,mj];rw[Qa]at this;rw[this,<- G2,Qa];exact CO
 refine(B2,S,rfl,Í wZ,zb,by lia,λD2 bR=>?_);rw[mj,Px (WU R) [] #[fd,Ïl,MD,ÀP],Ïl];have s7:=Zi bR (.dK (WU R));have uJ:#[gQ,H6,D2,WU,R] D2=U (.dK (WU R)):=Zb;have uI:=s7 _ _ (s6 _ _ iG);have w6:AtT #[gQ,H6,D2,WU,R] G:=λt C=>s7 _ _ (s6 _ _ (AJ t C));have Gn:=(Gk.trans s6).trans s7;generalize upd H6 D2 (.dK (WU R))=H7 at uJ uI w6 Gn ⊢;clear wZ zb mj s6 s7 AJ iG Gk bN bW I bR N hj j3;have CP:(G.map λt=>tD t.2)=(Üw).map tD:=by rw[<- mQ,Qo];rfl
 have hz1:∀k∈ĉ nkA,∀s:ak,Àa s∈k->AZ s:=λk hk s Z=>by obtain e|m|rfl:=Ħ hk;unfold nkA at Z;simp at Z;rw[Z];exact(Ãg e m).1
 rw[gH,z,L,sz];refine(.list ((Üw).map tD),.list [],.lst (Í (sz _ _ uI)) #[sI,CP,G,C,sz,w6],.lst ÄZ .nil,ZpC _ hz1,ú,_,rfl,?_);rw[Æ rfl,MF];have Go:=sz _ _ uJ;have CQ:=sz _ _ uI;have AK:AtT #[gf,H7,z] G:=λt C=>sz _ _ (w6 t C);have CS:=Gn.trans sz;generalize upd H7 z (.lst [])=H8 at Go CQ AK CS ⊢;by_cases hn:R=[]
 ·rw[ě #[sJ,hn]];have:=q H8 CS;rw[hn]at this;exact Y8 this
 ·rw[ĕ Üz];refine YM (rfl,_,rfl,l,rfl,#[gF,CQ],λB3 O=>?_);have wU:Æj:=by ac_rfl
  have vi:#[gB,".",1]:=by ac_rfl
  have hlu:G.length=ω:=by have:=#[eC,mQ];rwa [Qa,Qa]at this
  refine VQ (K:=K) (a:=l) (xs:=YL G) (λj zs J H9=>(X2 λv3 v4:Ã V=>J=[U Àw,U ć,U (.ref D2),v3,v4])/\zs=((ÈM j).map λe=>thO Ú Ò[e.g]?).map Ä/\j<=ω/\H9 B3=U Ż/\ZB H8 H9) #[hY,O] #[eD,CQ] ?_ ?_
  ·rintro j y zs J H9 hy ⟨⟨v3,v4,rfl⟩,rfl,hj,zc,s9⟩;rw[h2,YL,hy];cases L:G[j]? with
   | none=>rw[L]at hy;cases hy
   | some t =>
   rw[rR,L,hy];have W:Üw[j]? = U t.2:=by rw[<- mQ,Qq,L];rfl
   rw[Qq]at W;cases m:R[j]? with
   | none=>rw[m]at W;cases W
   | some e =>
   rw[m]at W;have ek:nkA e=t.2:=Qw W;have hm:=Qn m;rw[sM,lZ,m];have Gp:=s9 _ _ (AK t (Qn L));rw[<- ek]at Gp;have uK:=s9 _ _ Go;have nz:=(Ãg e hm).2.2;refine(t.1,_,rfl,û Gp,rfl,_,_,rfl,_,_,rfl,rfl,_,rfl,Ú, ":",rfl,rfl,ē Á,_,rfl,D2,rfl,.inl (_,.inl uK),_,rfl,_,ď (k:=Æu) uK (ZsL ÀP hm),?_);obtain⟨k',hv,hth,hkl'⟩:∃k':ak,((Option.map (λz=>Ä (kT0 z)) Ò[e.g]?).getD (Ä "."))=.str k'/\Ú ++ ":"++k'=thO Ú Ò[e.g]?/\k'.length<=41:=by
    cases hg:Ò[e.g]? with
    | none=>exact(".",rfl,by show Ú ++ ":" ++ "." = Ú ++ ":.";rw[ZnT,show ((":" : ak) ++ ".") = ":." by ac_rfl],by lia)
    | some z =>
     refine(kT0 z,rfl,rfl,?_);have:=(B.key e hm z (Qn hg)).1;unfold kT0;split
     ·ac_rfl
     ·lia
   refine(Ú ++ ":",k',rfl,hv,ē #[fL,QI],zc,ÜA,Èm,?_,lZ,Zb,λb u p=>?_)
   ·rw[hth,QH,m,Qe,Qe];rfl
   ·rw[sy,p,O];exact s9 _ _ p
  rintro zs J H9 ⟨⟨v3,v4,rfl⟩,rfl,hj,zc,s9⟩;have j3:(YL G).length=ω:=by unfold YL;rw[Qa,hlu]
  rw[j3,Qv ç]at zc;have CT:∀e∈R,(thO Ú Ò[e.g]?).length<=50:=λe m=>by
   have n1:=(Ãg e m).2.2;cases hg:Ò[e.g]? with
   | none=>show (Ú ++ ":.").length<=50;rw[QI,show ((":." : ak)).length=2 by ac_rfl];lia
   | some z=>exact G6 n1 (B.key e m z (Qn hg)).1
  have qJ:Üv:=λl=>by
   induction l with
   | nil=>intro _;exact Qf _
   | Î a r ih=>intro h;rw[wQ];lia
  have Z:=qJ Üx λx X=>by obtain e|m|rfl:=Ħ X;exact CT e m
  have CL:Èx:=by ac_rfl
  have q':=q H9 (CS.trans s9);unfold blT at q';rw[Ç Üz]at q';rw[Qa]at Z;exact(_,B3,_,rfl,rfl,Í zc,#[sk,CL,Qa],q')
def G0(a:ak)(m:Nat)(o:Od):Prop:=(a = "coming"/\o=.coming)\/(a = "take"/\o=.take m)\/(a = "rows"/\o=.rows)\/(a = "left"/\o=.left)
def Zuh:Sp:=λvs H Q _=>X8 λ(d rd:ae) (R:À AR) (c:Int) (i m:Nat) (f:ak) (o:Od)=>vs=[.ref d,.str f,.int (m:Int)]/\Yu H d rd R c/\ABd R c i/\i<=36/\m<=400/\G0 f m o /\
 ∀ (a:ak) (g:À AR) (e:Hp),Xj R o a g->Yu e d rd g c->#[eK,u,rd,e]->Q (.str a) e
theorem GZ:∀R:À AR,(∀e∈R,e.g<=ĭ)->#[n3].sum=((ZQ (Y6 R):Nat):Int)
 | [],_=>rfl
 | e::r,h=>by have h1:=h e Ö;have a:=#[sU,GZ,x,b];unfold ZQ Y6 at a ⊢;rw[Qj,QR,a,Qj,Qj,QR];show _=((ĭ-e.g+_:Nat):Int);lia
theorem Zpl(T:Ù)(eG:Üu)(ie:Df P w K mg Â 3 "_law_taken" Îb G5)(gs:#[eo,2,"_law_rows_text",ÁQ,G1]):Df P w K mg Â 4 "_law_ask_due" ÊP Zuh:=by
 rw[ed,T.t_l_ask_due.df,Zkl,vs,F];obtain d|l|R|c|i|m|wd|o|rfl|D|B|hi|hm|ho|q:=h;refine(_,#[Zd,#[ZN,ÈJ,#[Zh,#[Zm,#[iR,eG,F]]],ï],#[Zd,#[ZN,ÈJ,#[Zh,#[Zm,#[fp,ie,F,0,2]]],ï],#[Zd,#[ZN,ÈJ,#[Zh,#[Zm,#[iR,gs,F]]],ï],#[Zh,#[Zm,#[W4,(SN K F),Èy,Èz,#[Ze,#[Zo,(PL K),È,ÓO,boot_sum,#[Ze,(@Ua _ _ _ #[XX,Vk,(@KO _ _ _ _ _ _ #[fu,F] È È),#[iC,3,Vk,4,5],Η,(λ_ _ _ _=>#[ZK,U3,#[Zo,(Yk K),#[hb,Vk],Ái,Qy,#[Ze,#[cw,4,Vk]]],#[cw,5,Vk]])])]]]]]]]]],?_);have no:Ün:=λh z=>h (by injection z);have st:∀ {r:Hp},ZB H r->Yu r d l R c/\∀b u,H b=U u->b≠l->r b=U u:=λs=>(Åd s,λb u t _=>s _ _ t);rcases ho with⟨rfl,rfl⟩|⟨rfl,rfl⟩|⟨rfl,rfl⟩|⟨rfl,rfl⟩
 ·exact(_,rfl,rfl,_,rfl,Y0 rfl (_,rfl,d,l,R,c,i,rfl,D,B,by lia,λr W s=>q _ R r (.comNo W) (st s).1 (st s).2,λe z r p hz W s=>q _ R r (.com p hz W) (st s).1 (st s).2))
 ·exact(_,rfl,rfl,_,rfl,YO ÈK (_,rfl,rfl,_,rfl,Y0 rfl (_,rfl,_,rfl,d,l,R,c,i,m,rfl,D,B,by lia,hm,λws R' r g hw D' k _=>q _ R' r (.take g hw) D' k)))
 ·exact(_,rfl,rfl,_,rfl,YO ÈK (_,rfl,rfl,_,rfl,YO ÈK (_,rfl,rfl,_,rfl,Y0 rfl (_,rfl,d,l,R,c,i,rfl,D,B,by lia,λr s=>q _ R r .rows (st s).1 (st s).2))))
 ·refine(_,rfl,rfl,_,rfl,YO ÈK (_,rfl,rfl,_,rfl,YO ÈK Üq));refine(l,_,Ŧ,ŷ,_,rfl,d,_,rfl,ď (k:=ÃY) ĝ (V9 l c),l,_,rfl,Ŧ,λo J G=>?_);have L:#[h3,H,l]:=λb u t n=>by rw[Zc n];exact t
  rw[fv,I,H,l,ÈL];generalize upd H l (.frz o (.dK (kvA R)))=H1 at L I G ⊢;refine Kz (d:=l) (o:=o) (kvs:=kvA R) (λj zs N v=>(X3 λO S X:Ã V=>N=[U Àw,U (.str "left"),U #[hG,m],O,S,X])/\zs=((ÈM j).map λe=>(ĭ:Int)-(e.g:Int)).map ì/\j<=ω/\v J=U Ż/\ZB H1 v) ((af,af,af,rfl),rfl,Qs _,Zb,Zi G _) #[hL,I] ?_ ?_
  ·rintro j ky x zs N v y ⟨⟨O,S,X,rfl⟩,rfl,hj,M,C⟩;rw[h2,kvA,y];cases p:R[j]? with
   | none=>rw[p]at y;cases y
   | some e =>
   rw[sg,p,y,gz];obtain Y|Z:=Á0 e gz;have few:=ÁY;have cT:=C _ _ #[tp,L,Y,Ŧ,Y];have iN:=C _ _ #[tp,L,Z,Ŧ,Z];refine(e.t,_,rfl,û cT,rfl,_,_,rfl,_,_,rfl,_,_,rfl,rfl,_,rfl,e.k,_,rfl,.inl (Í iN),_,rfl,_,_,rfl,rfl,M,ÜA,Ës,?_,cq,Zb,λb u t=>?_)
   ·rw[QH,p,Qe,Qe,Qa];rfl
   ·rw[sy,t,G];exact C _ _ t
  rintro zs N v ⟨⟨O,S,X,rfl⟩,rfl,hj,M,C⟩;rw[hh,iR,M];have jH:=C _ _ I;rw[sC,o,jH];have CN:J≠l:=λz=>by rw[z]at G;rw[fX,G,I,I]
  have ik:#[gQ,v,l,kvA,R] J=U (.lst (#[n3].map ì)):=by rw[Zc CN];exact M
  have s3:ZB H #[gQ,v,l,kvA,R]:=λb u t=>by
   by_cases z:b=l
   ·rw[zV,z,t]
   ·rw[Zc z];exact C _ _ (L _ _ t z)
  generalize upd v l (.dK (kvA R))=H3 at ik s3 ⊢;have few:=ÁY;have wM:ZQ (Y6 R)<=2880:=MO (by unfold Y6;rw[Qa];exact few) λx hx=>by obtain e|p|rfl:=Ħ hx;have:=(Æp e p).1;show ĭ<=180;lia
  obtain g1|g2|g3|g4:=MR (i:=((ZQ (Y6 R):Nat):Int)) Á;refine(J,_,rfl,Í ik,ÁI,λn hn=>?_,?_)
  ·rw[em,e,p,hn];have:=Æp e p;lia
  ·rw[GZ R λe p=>(Æp e p).2];exact(_,.int _,rfl,.int _,g1,g2,g3,q _ R H3 .left (st s3).1 (st s3).2)
structure AL (H1 H:Hp) (d rd rl dl:ae) (R:í) (c:Int) (rs ds:Ñ):Prop where
 same:ZB H1 H
 D:Yu H d rd R c
 hr:H rl=U #[en,rs.map]
 hd:H dl=U #[en,ds.map]
 ne:rl≠dl
 f0:H1 d=af
 f1:H1 rd=af
 f2:H1 rl=af
 f3:H1 dl=af
 kr:∀e∈R,e.k≠rl/\e.k≠dl
structure NA (H1:Hp) (d rd rl dl p:ae):Prop where
 d:p≠d
 rd:p≠rd
 rl:p≠rl
 dl:p≠dl
 f:H1 p=af
section
variable {H1 H H':Hp} {d rd rl dl p:ae} {R R':À AR} {c c':Int} {rs ds:À ak}
theorem AL.np(I:Åj)(hp:H p=af):NA H1 d rd rl dl p:=((Zf Ïu hp).symm,(Zf Ïv hp).symm,(Zf ÀQ hp).symm,(Zf Áp hp).symm,I.same.free hp)
theorem AL.on(I:Åj)(s:ZB H H'):AL H1 H' d rd rl dl R c rs ds:=(I.same.trans s,I.D.same s,s _ _ ÀQ,s _ _ Áp,I.ne,I.f0,I.f1,I.f2,I.f3,I.kr)
theorem Yu.keep(D:Yu H d rd R c)(h:∀b u,H b=U u->(b=d\/b=rd\/(∃xs,u=.tup xs)\/∃e∈R,b=e.k)->H' b=U u):Yu H' d rd R c :=
 (h _ _ ĝ Ğ,h _ _ Ŧ Å5,λe a=>(h _ _ (Á0 e a).1 (.inr #[s9,ü]),h _ _ (Á0 e a).2 (.inr (.inr (.inr (e,a,rfl))))),ÀP,D.ne)
theorem AL.draw(I:Åj)(n:NA H1 d rd rl dl p){q:Int}(L:Y3 H p q)(B:But p H H'):AL H1 H' d rd rl dl R c rs ds:=by
 obtain u1|u2|g|_:=L;refine(λb o f=>B b o (ÈO b o f) (Zf f n.f),I.D.keep λb u f i=>B b u f λz=>?_,B _ _ ÀQ n.rl.symm,B _ _ Áp n.dl.symm,I.ne,I.f0,I.f1,I.f2,I.f3,I.kr);rcases i with y|y|⟨xs,rfl⟩|⟨e,j,rfl⟩
 ·exact n.d ÔE
 ·exact n.rd ÔE
 ·rw[sT,g,f]
 ·have:=(I.D.tup e j).2;rw[z,g]at this;injection this with this;injection this with this;cases h:Ò with
  | nil=>rw[h]at this;cases this
  | Î a r=>rw[h]at this;injection this with this _;cases this
theorem AL.pushR(I:Åj)(x:ak):AL H1 (upd H rl (.lst (rs.map Ä++[Ä x]))) d rd rl dl R c (rs++[x]) ds:=by
 refine(λb o a=>by rw[Zc (Zf a I.f2)];exact ÈO b o a,I.D.keep λb u a f=>?_,by rw[Zb,Qe];rfl,by rw[Zc I.ne.symm];exact Áp,I.ne,I.f0,I.f1,I.f2,I.f3,I.kr);rw[Zc (λz=>by
  rcases f with y|y|⟨xs,rfl⟩|⟨e,g,rfl⟩
  ·rw[fy,Ïu,y,ÀQ]
  ·rw[fy,Ïv,y,ÀQ]
  ·rw[sT,ÀQ,a]
  ·exact(I.kr e g).1 z)]
 exact a
theorem AL.pushD(I:Åj)(x:ak):AL H1 (upd H dl (.lst (ds.map Ä++[Ä x]))) d rd rl dl R c rs (ds++[x]):=by
 refine(λb o a=>by rw[Zc (Zf a I.f3)];exact ÈO b o a,I.D.keep λb u a f=>?_,by rw[Zc I.ne];exact ÀQ,by rw[Zb,Qe];rfl,I.ne,I.f0,I.f1,I.f2,I.f3,I.kr);rw[Zc (λz=>by
  rcases f with y|y|⟨xs,rfl⟩|⟨e,g,rfl⟩
  ·rw[fy,Ïu,y,Áp]
  ·rw[fy,Ïv,y,Áp]
  ·rw[sT,Áp,a]
  ·exact(I.kr e g).2 z)]
 exact a
theorem AL.nn(I:Åj){b:ae}{zs:Ė}(hb:H b=U Ż):b≠d/\b≠rd:=(λz=>(by have:=Ïu;rw[<- z,hb]at this;cases this),λz=>(by have:=Ïv;rw[<- z,hb]at this;cases this))
theorem AL.to(I:Åj)(g:ÔL):AL H1 H' d rd rl dl R' c' rs ds:=by
 refine(λb o a=>g.k b o (ÈO b o a) (Zf a I.f0) (Zf a I.f1),g.D,g.k _ _ ÀQ (I.nn ÀQ).1 (I.nn ÀQ).2,g.k _ _ Áp (I.nn Áp).1 (I.nn Áp).2,I.ne,I.f0,I.f1,I.f2,I.f3,λe f=>?_);rcases g.kf e f with⟨x,h,z⟩|z
 ·rw[<- z];exact I.kr x h
 ·exact((Zf ÀQ z).symm,(Zf Áp z).symm)
theorem ATk.ks{ws:Ñ}(h:ATk R ws R'):∀e∈R',∃x∈R,x.k=e.k:=by
 induction h with
 | nil=>exact λe b=>(e,b,rfl)
 | @Ň R1 ws c z t _ d _ _ a =>
  intro x f;rw[em,y,g,f];unfold XN;split
  ·exact a c d
  ·exact a y g
theorem AL.ask{o:Od}{a:ak}(I:Åj)(g:Xj R o a R')(D:Yu H' d rd R' c)(k:#[fg,u,H,rd,H']):AL H1 H' d rd rl dl R' c rs ds:=by
 refine(λb o f=>k b o (ÈO b o f) (Zf f I.f1),D,k _ _ ÀQ (I.nn ÀQ).2,k _ _ Áp (I.nn Áp).2,I.ne,I.f0,I.f1,I.f2,I.f3,λe h=>?_);cases g with
 | Àz g _=>obtain x|i|z:=g.ks e h;rw[<- z];exact I.kr x i
 | _=>exact I.kr e h
theorem ATo.left{q:Int}(g:ÔL)(L:Y3 H p q)(h1:p≠d)(h2:p≠rd):Y3 H' p q:=by obtain a|b|e|f:=L;exact(a,b,g.k _ _ e h1 h2,f)
theorem Y3.push{q:Int}{o:HO}(L:Y3 H p q)(h:p≠rl):Y3 (upd H rl o) p q:=by obtain a|b|c|d:=L;exact#[fD,h,c,d]
universe E
def AI(b H:Hp)(d rd rl dl:ae)(i n:Nat):Prop:=X4 λ(os:À Od) (a:À ak) (R:À AR) (c:Int)=>WV os a R c/\AL b H d rd rl dl R c Ôy a/\ABd R c i/\Ám=n/\dds os<=i/\∀o∈os,OdW o
def Xv:À ak:=["a", "aa", "row", "take", "b", "drop", "zebra", "ab", "left", "abcdefgh", "z", "rows"]
theorem Zu1:∀s∈Xv,NmS s:=by
 have:∀s∈Xv,ÜB=true/\1<=ŝ/\ŝ<=8:=by ac_rfl
 rw[oA]
def ZqT:Sp:=λvs H Q _=>X2 λ(l:ae) (ws:À ak)=>vs=ÄH/\H l=U #[en,ÁO]/\ť<=90/\#[tu,ws,1000]/\∀ (b:Ï) a,ZB H a->Q (.bl b) a
theorem ZoR(T:Ù):Df P w K mg Â 1 "_law_is_short" ÊN ZqT:=by
 rw[ed,T.t_l_is_short.df,Zii,B,hr];rw[tf,l,ws,t,wQ,C];refine(_,#[Zh,#[Zm,#[XQ,WT,#[Zo,(PL K),È,ÓO,boot_sum,#[Ze,#[XX,Sa,#[iL,K,‹0›],#[fO,1,Sa],Η,(λ_ _ _ _=>#[ZK,XR,#[Zo,WK,#[hb,Sa],Ái,Qy,#[Ze,#[cw,1,Sa]]],Û])]]],Û,þ]]],?_);refine#[zN,l,t,D,v];refine VQ (K:=K) (a:=l) (xs:=ÁO Ä) (λi zs j e=>(∃k:Ã V,j=[U ć,k])/\(∃c:À Int,zs=ŏ ì/\Ĥ=i/\∀m∈c,0<=m/\m<=2000)/\i<=ť/\e D=U Ż/\ZB H e) ((af,rfl),#[sA,u,F],Qs _,Zb,Zi v _) #[eD,t] ?_ ?_
 ·rintro i y zs j e d ⟨⟨k,rfl⟩,⟨c,rfl,n,o⟩,hi,p,r⟩;rw[Qq]at d;cases g:ws[i]? with
  | none=>rw[g]at d;cases d
  | some x =>
  rw[ez,g,d,G,ť];have I:=C x (Qn g);refine(_,rfl,x,rfl,ē I,_,_,rfl,rfl,p,#[eA,n],ü,(c++[Ób+1],by rw[Qe];rfl,by rw[Qi,n];rfl,λm hm=>?_),G,Zb,λb u z=>?_)
  ·rcases ë hm with hm|hm
   ·exact o m hm
   ·rw[ò hm];lia
  ·rw[sG,z,v,r,b,u]
 ·rintro zs j e ⟨⟨k,rfl⟩,⟨c,rfl,n,o⟩,_,p,r⟩;refine(D,c,rfl,Í p,Á,(λm hm=>by have:=o m hm;lia),_,_,rfl,rfl,?_);exact q _ _ r
def Xu:À ak:=["coming", "grow", "counts", "runs", "sort", "free", "near", "done", "refused"]
theorem ZrS:∀s∈Xu,NmS s:=by
 have:∀s∈Xu,ÜB=true/\1<=ŝ/\ŝ<=8:=by ac_rfl
 rw[oA]
def V8:ak:=ÌJ "abcdefghijklmnopqrstuvwxyz" 2
theorem Zte:∀a:Nat,a<26->∀k:Nat,k<12->((Ü9).cps.toList.all λc=>decide (97<=c/\c<=122))=true/\1<=(Ü9).length/\(Ü9).length<=8:=by ac_rfl
theorem ZtX{a k:Nat}(ha:a<26)(hk:k<12):NmS Ü9:=by obtain b|d|e:=Zte a ha k hk;exact ÜC
theorem Zv4(ss:Ñ)(n:Nat):Yg Ào af (U (n:Int))=(ss.take n).map Ä/\Yg Ào (U (n:Int)) af=(Î3 n).map Ä:=by
 by_cases h:n<=ī
 ·exact RH ss n h
 ·have e:min n (Ào).length=ī:=by rw[Qa];lia
  constructor
  ·unfold Yg;rw[HT.sIx_nat,HT.sIx_none,e,ÒR,Nat.sub_zero,Qv ÁI,Qv Á]
  ·unfold Yg;rw[HT.sIx_nat,HT.sIx_none,e,Qbd ÁI,Qbd Á,List.take_nil];rfl
def Zn8:Sp:=λvs H Q _=>X2 λ(p:ae) (c:Int)=>vs=Ν/\Y3 H p c/\c<2 ^ 40/\∀ (l:ae) (ns:À ak) (b:Int) (a:Hp),H l=af->a l=U #[en,ÃA]->(∀s∈ns,NmS s)->1<=Ĉ->Ĉ<=20->Y3 a p b->c<=b->b<=c+4->But p H a->Q ć a
theorem Zog(T:Ù)(M:ÇY):Df P w K mg Â 3 "_law_names" Å7 Zn8:=by
 rw[ed,T.t_l_names.df,Vp,vs,N];rw[gm,p,c,L,hc];refine(_,#[Zd,#[Zu,1,Vp.nd,à,#[ZZ,#[Za,Ý,#[Za,Ý,#[Za,Ý,ÜD]]]]],#[Zd,#[Zu,1,Vp.nd,à,#[ZK,Wi,‹1›,#[ZZ,ÜD]]],#[Zd,#[Zu,2,Vp.nd,à,Ïw],(@T7 _ _ _ _ _ #[ZN,#[il,YS,Ïw],#[Zd,#[Zu,3,Vp.nd,ÂM,#[ZK,Lq,Ý,Û]],#[Zd,#[Zu,4,Vp.nd,ÂM,Ïw],#[Zh,#[UV,1,Vp.nd,VT,#[tB,Û],#[fO,5,VT],Η,(λ_ _ _ _=>#[WL,Zvi,#[cv,3,VT],(@WA _ _ _ ÜE),(@WA _ _ _ #[ZK,XR,#[ZK,XR,ÜE,Û],#[ZK,U2,#[cw,5,VT],Û]])])]]]],ï] #[Zh,#[Zm,#[WL,(slL K),#[ZK,Wi,#[hj,1,2],#[WL,(slL K),‹1›,(@V3 _),(@WA _ _ _ ‹2›)]],(@V3 _),(@WA _ _ _ #[ZK,XR,Û,Ïw])]]])]]],?_);have c0:=L.ge;refine(#[eJ,12,aq],λl hl=>?_);rw[g8,cE,H,l,ËC];have s1:=Zi hl #[en,ËC];have L1:=L.new (o:=.lst (ËC Ä)) hl;have jF:p≠l:=by obtain u|k:=L.here;exact Zf k hl
 show Mt _ _ _ _ (upd H l #[en,ËC]);generalize upd H l (.lst (ËC Ä))=H1 at cE s1 L1 ⊢;refine(_,rfl,#[eJ,9,aq],λa F=>?_);rw[show (HO.lst [.str "coming",.str "grow",.str "counts",.str "runs",.str "sort",.str "free",.str "near",.str "done",.str "refused"])=.lst (ËD Ä) from rfl];rw[g8,i9,H1,a,ËD];have O:=Zi F #[en,ËD];have L2:=L1.new (o:=.lst (ËD Ä)) F;have bN:=O _ _ cE;generalize upd H1 a (.lst (ËD Ä))=H2 at bN O L2 i9 ⊢;refine(l,a,_,_,rfl,rfl,bN,i9,(by show 12+9<=aq;decide),λe t=>?_);rw[<- Qe];have R:(upd H2 e #[gD,Xv,Xu]) e=U #[gD,Xv,Xu]:=Zb;have x:=Zi t #[gD,Xv,Xu];have L3:=L2.new (o:=.lst ((Xv++Xu).map Ä)) t;have B:e≠p:=λz=>by obtain u|k:=L2.here;rw[iA,t,k]
 have eA:∀s∈Xv++Xu,NmS s:=λs hs=>(ë hs).elim (Zu1 s) (ZrS s);have lU:(Xv++Xu).length=21:=rfl;generalize upd H2 e (.lst ((Xv++Xu).map Ä))=H3 at R x L3 ⊢;generalize Xv++Xu=Â at R eA lU ⊢;have sH:=(s1.trans O).trans x;clear s1 O x cE bN i9 L1 L2 jF;refine(_,rfl,p,c,21,rfl,L3,by lia,by decide,by decide,λr H4 r0 r1 L4 B4=>?_);have Gq:=B4 _ _ R B;have Gr:But p H H4:=λb o i n=>B4 b o (sH b o i) n;rw[fn,n,n,r,r.toNat];refine(λC H'=>X5 λ(f:ae) (S:À ak) (c':Int) (v3 v4:Ã V)=>C=[U Ū,U Ċ,U #[hG,n],v3,v4]/\H' f=U #[en,S.map]/\(∀s∈S,NmS s)/\12<=Ït/\Ït<=21/\Y3 H' p c'/\c<=c'/\c'<=c+3/\But p H H'/\f≠p,?_,?_)
 ·refine(_,rfl,p,c+1,4,rfl,L4,by lia,by decide,by decide,λr2 H5 q0 q1 L5 B5=>(rfl,_,rfl,?_));have W:=B5 _ _ Gq B;have Gs:=Gr.trans B5;refine Y1 Â6 (λ_=>(e,Â,c+1+1,_,_,rfl,W,eA,by lia,by lia,L5,by lia,by lia,Gs,B));refine("abcdefghijklmnopqrstuvwxyz",2,rfl,rfl,by decide,by decide,ú,_,rfl,p,c+1+1,26,rfl,L5,by lia,by decide,by decide,λr3 H6 x0 x1 L6 B6=>?_);rw[fn,g,m,r3,r3.toNat];have hg:g<26:=by lia
  have B6':=Gs.trans B6;refine(_,rfl,by decide,by decide,λD hD=>?_);have BQ:D≠p:=λz=>by obtain u|k:=L6.here;rw[iA,hD,k]
  refine PR (λj zs C X=>(∃v:Ã V,C=[U Ū,U Ś,U #[hG,n],U (.str V8),U #[hG,g],v])/\(∃ws:À ak,zs=ÁO Ä/\ť=j/\∀s∈ws,NmS s)/\X D=U Ż/\ZB H6 X) ((af,rfl),#[sA,s,h],Zb,Zi hD _) ?_ ?_
  ·rintro j zs C X hj ⟨⟨v,rfl⟩,⟨ws,rfl,Y,uF⟩,uJ,Z⟩;have Gu:j<12:=hj;have uD:=ZtX hg Gu;rw[<- Int.zero_add (j:Int)]at uD;have h52:V8.length<=aq:=by rw[show V8.length=52 by ac_rfl];decide
   have hC:S5 2 Ïx:=.inl ÇW;refine(_,rfl,_,rfl,_,rfl,_,_,rfl,rfl,hC,_,_,rfl,rfl,_,rfl,_,rfl,_,rfl,_,_,rfl,rfl,hC,_,_,rfl,rfl,_,_,rfl,rfl,_,rfl,_,_,rfl,rfl,by decide,_,_,rfl,rfl,_,rfl,V8,rfl,h52,uJ,#[eA,Y],ü,(ws++[ÌL V8 (U ((g:Int)+2*Ïx)) (U ((g:Int)+2*Ïx+1+Ïx % 8))],by rw[Qe];rfl,by rw[Qi,Y];rfl,λs hs=>?_),Zb,λb u i=>?_)
   ·rcases ë hs with hs|hs
    ·exact uF s hs
    ·rw[ò hs];exact uD
   ·rw[sG,i,hD,Z,b,u]
  ·rintro zs C X ⟨⟨v,rfl⟩,⟨ws,rfl,Y,uF⟩,uJ,Z⟩;have hwl':ť=12:=Y;exact(D,ws,c+1+1+1,_,_,rfl,uJ,uF,by lia,by lia,L6.same Z,by lia,by lia,ÄX B6' (ÇT Z),BQ)
 rintro C H8 ⟨f,d,c8,v3,v4,rfl,hf,qJ,l12,l21,L8,g1,g2,B8,ud⟩;have hn21:n<21:=by lia
 clear eA lU R Gq B4 Gr L3 L4 t B sH;have fr:∀ {b:ae},H8 b=af->H b=af:=λ{b} i=>by
  cases z:H b with
  | none=>rfl
  | some u =>
   by_cases G:b=p
   ·rw[ew,u',y,L8.here];rw[e4,G,y,i]
   ·rw[B8 b u z G]at i;cases i
 obtain e1|e2:=Zv4 d n;rw[iJ,f,hf,a,F,e2];have x:=Zi F #[fN,Æw,n];rw[gL,qI,H8,a,Æw,n];have fb:=x _ _ hf;have L9:=L8.new (o:=.lst ((Æw n).map Ä)) F;generalize upd H8 a (.lst ((Æw n).map Ä))=H9 at x qI fb L9 ⊢;rw[iJ,f,fb,b,i,e1];have s4:=Zi i #[fN,ÄJ,n];rw[gL,Gv,H9,b,ÄJ,n];have Gw:=s4 _ _ qI;have CU:=L9.new (o:=.lst ((ÄJ n).map Ä)) i;generalize upd H9 b (.lst ((ÄJ n).map Ä))=ju at s4 Gv Gw CU ⊢;have qv:(Æw n).length+(ÄJ n).length=μ:=by rw[QZ,Qx];lia
 refine(a,b,_,_,rfl,rfl,Gw,Gv,Ûv,λe t=>?_);rw[<- Qe];have s5:=Zi t ÜF;rw[rM,W,ju,e,ÜF];have su:=CU.new (o:=.lst ((Ýa).map Ä)) t;generalize upd ju e (.lst ((Æw n++ÄJ n).map Ä))=rA at s5 W su ⊢;have B:e≠p:=λz=>by obtain u|k:=CU.here;rw[iA,t,k]
 refine(_,rfl,p,c8,6,rfl,su,by lia,by decide,by decide,λr2 qp q0 q1 w8 xa=>?_);have Gx:=xa _ _ W B;rw[fn,m,m,r2,r2.toNat];have aZ:(Ýa).length=μ:=by rw[Qi];exact qv
 have hm:3+m<=(Ýa).length:=by lia
 have e3:=(RH Ýa (3+m) hm).1;refine(_,_,rfl,rfl,_,rfl,e,_,rfl,Í Gx,λw hw=>?_);rw[show ((3:Int)+(m:Int))=((3+m:Nat):Int) by lia,e3];have sB:But p H qp:=λI J cW n'=>xa I J (s5 I J (s4 I J (x I J (B8 I J cW n')))) n';have hwH:H w=af:=by
  cases z:H w with
  | none=>rfl
  | some u =>
   by_cases G:w=p
   ·rw[ew,u',y,w8.here];rw[e4,G,y,hw]
   ·rw[sB w u z G]at hw;cases hw
 refine q w ((Ýa).take (3+m)) (c8+1) _ hwH Zb (λs hs=>?_) #[fL,Qx] #[fL,Qx] (w8.new hw) Á Á (ÄX sB #[iD,hw]);have:=Qam hs;rcases ë this with h|h
 ·exact qJ s (QaC h)
 ·exact qJ s (Qam h)
theorem Zr3(ss:Ñ)(lo b:Ź):∃a:À ak,Yg Ào lo b=ŕ Ä/\ľ<=ī/\∀s∈a,s∈ss:=by unfold Yg;rw[<- Ón,<- Ó7];refine(_,rfl,?_,λs c=>QaC (Qam c));rw[Qx,QZ];lia
theorem Zse{c:Ï}{e:Î8}{T:È6}{H:Hp}(h1:c=true->∀d:Ï->Hp->Prop,(∀b a,ZB H a->d b a)->e d)(q:∀b a,ZB H a->T b a):if c=true then e T else T false H:=by
 cases c with
 | true=>rw[Æ rfl];exact h1 rfl T q
 | false=>rw[Ç Qu];exact q false H ÁV
theorem ZtR{c:Ï}{e:Î8}{T:È6}{H:Hp}(h1:c=false->∀d:Ï->Hp->Prop,(∀b a,ZB H a->d b a)->e d)(q:∀b a,ZB H a->T b a):if c=true then T true H else e T:=by
 cases c with
 | true=>rw[Æ rfl];exact q true H ÁV
 | false=>rw[Ç Qu];exact h1 rfl T q
theorem Zuu{c:Ï}(b2:Ï){e:Î8}{T:È6}{H:Hp}(h1:c=false->∀b:Ï->Hp->Prop,(∀a,ZB H a->b b2 a)->e b)(q:∀a,ZB H a->T (c||b2) a):if c=true then T true H else e T:=by
 cases c with
 | true=>rw[Æ rfl];exact q H ÁV
 | false=>rw[Ç Qu];exact h1 rfl T q
def ZsU:Sp:=λvs H Q _=>X11 λ(p d rd g sl:ae) (c:Int) (R:À AR) (h:Int) (i:Nat) (ns ss:À ak)=>vs=[.ref p,.ref d,.ref g,.ref sl]/\Y3 H p c/\c<2 ^ 39/\Yu H d rd R h/\ABd R h i/\i<=36/\p≠d/\p≠rd/\H g=U #[en,ÃA]/\1<=Ĉ/\Ĉ<=20/\(∀s∈ns,NmS s)/\H sl=U ÃO/\1<=ī/\ī<=4/\ÊT /\
 ∀ (t b:ae) (e s:ak) (ks:À ak) (o:Od) (f:Int) (a:Hp),H t=af->H b=af->a t=U (.tup [.str e,.str s,.ref b])->a b=U ÁX->Tb e s ks o->NmS s->KsS ks->(e = "drop"->ks=[])->Y3 a p f->c<=f->f<=c+700->But p H a->Q Ât a
theorem Zo3(T:Ù)(aX:ÇY)(jJ:ÜG):Df P w K mg Â 6 "_law_deed" Ò1 ZsU:=by
 rw[ed,T.t_l_deed.df,Vo,vs,F];obtain p|d|N|nl|sl|c|R|cc|i|ns|ss|rfl|L|hc|D|B|hi|npd|pE|r8|gt|wK|eJ|fP|gc|Gy|zd|q:=h;refine(_,#[Zd,#[Zu,4,Vo.nd,ÂM,#[ZD,(ixG F),‹1›,Ý]],#[Zd,#[UV,5,Vo.nd,Tx,#[iL,K,‹2›],#[fO,10,Tx],(λ_ _ _ _=>(@Lv _ _ _ #[Zk,(T9 F),#[cw,10,Tx],#[cv,4,Tx],ÀZ])),#[tw,10,Tx]],#[Zd,#[Zu,6,Vo.nd,à,#[Zo,ZvX,È,ÓA,ÓB,#[Ze,Ôw]]],#[Zd,#[Zu,7,Vo.nd,à,#[Zz,aX,F,#[Ze,‹0›,Û],È]],#[Zd,#[ZN,(@Ř _ _ _ #[W5,#[e2,eqD,F,6],#[W6,(@Ř _ _ _ #[Xt,#[eq,WT,7,Û],#[Xh,#[e2,neD,F,5]]])]]),#[Zh,#[Zm,#[Yx,#[Ze,Ý,#[ZD,Τ,‹5›,#[Zz,aX,F,#[Ze,‹0›,#[hq,5]],È]],ÜH]]]],ï],#[Zd,#[Zu,8,Vo.nd,à,#[ZD,Τ,‹6›,#[Zz,aX,F,#[Ze,‹0›,#[hq,6]],È]]],#[Zd,#[ZN,#[eq,YS,7,Û],#[Zh,#[Zm,#[Yx,#[Ze,Ý,‹8›,Ãh]]]],ï],#[Zd,#[Zu,9,Vo.nd,ÂM,#[WL,(slL K),#[ZD,(ixT K),#[ZD,(ixG F),Ôw,‹8›],Û],(@WA _ _ _ Ê3),(@V3 _)]],#[Zh,#[Zm,#[Yx,#[Ze,Ý,‹8›,#[XX,UG,#[iL,K,ÜH],#[fO,10,UG],(λ_ _ _ _=>(@Lv _ _ _ (@Ř _ _ _ #[W5,#[Zk,(@eqD _ K _ F È),#[cv,9,UG],Ãh,þ],#[W6,#[Zk,ZnU,#[cw,10,UG],#[ZD,Τ,#[cv,9,UG],Û],þ]]]))),#[tw,10,UG]]]]]]]]]]]]]],?_);have c0:=L.ge;have few:=ÁY;refine(_,rfl,d,_,rfl,ď (k:=ÃY) ĝ (V9 N cc),_,rfl,nl,rfl,#[gF,r8],λD1 CW=>?_);refine Jj (K:=K) (a:=nl) (xs:=ÃA Ä) (λj zs X I=>(∃v:Ã V,X=[U Ū,U Àw,U (.ref nl),U (.ref sl),U (.ref N),af,af,af,af,af,v])/\(∃fs:À ak,zs=ÆX Ä/\ÀS<=j/\(∀s∈fs,NmS s)/\(R=[]->fs=Çv j))/\j<=Ĉ/\I D1=U Ż/\ZB H I) ((af,rfl),([],rfl,Qf _,#[eB,s,h],λ_=>rfl),Qs _,Zb,Zi CW _) #[eD,r8] ?_ ?_
 ·rintro j x zs X I hx ⟨⟨v,rfl⟩,⟨fs,rfl,hJ,G,uM⟩,Y,J,O⟩;rw[Qq]at hx;cases l:ns[j]? with
  | none=>rw[l]at hx;cases hx
  | some s =>
  rw[rR,l,hx];rw[sM,lZ,l];have AM:=O _ _ Ŧ;have uN:=eJ s (Qn l);rcases Hm R s with hn|⟨e,n,rfl⟩
  ·refine(_,rfl,_,rfl,N,_,rfl,ď (k:=.inr s) AM (MH hn),_,rfl,?_);refine YM (_,rfl,J,Ëg,ü,(fs++[s],by rw[Qe];rfl,by rw[Qi];show ÀS+1<=j+1;lia,λx hx=>?_,λh=>?_),lZ,Zb,λb u g=>by rw[Zc (Zf g CW)];exact O _ _ g)
   ·rcases ë hx with hx|hx
    ·exact G x hx
    ·rw[vd];exact uN
   ·rw[uM h,QH,l];rfl
  ·refine(_,rfl,_,rfl,N,_,rfl,ď (k:=Æu) AM (VJ ÀP n),_,rfl,?_);exact Y8 ((_,rfl),(fs,rfl,by lia,G,λh=>by rw[h]at n;cases n),lZ,J,O)
 rintro zs X I ⟨⟨v,rfl⟩,⟨fs,rfl,hJ,G,uM⟩,_,J,O⟩;rw[Qa]at hJ uM;rw[Qv ç]at uM;have L1:=L.same O;have Dd:=Åd O;have il:H D1=af:=CW;refine(_,rfl,N,kvA R,ĉ (·.nm),rfl,Dd.rows,Hn R,ÁI,λZ o j8 sv _=>?_);have s2:=Zi j8 #[en,o.map];rw[g8,cT,I,Z,o.map];have jH:=s2 _ _ J;have L2:=L1.same s2;have sH:=O.trans s2;have Gz:Z≠p:=λz=>by obtain u|S:=L1.here;rw[iA,j8,S]
 have GA:D1≠p:=λz=>by obtain u|S:=L.here;rw[iA,il,S]
 have bJ:∀x∈o,∃e∈R,Ú=x:=λx hx=>by obtain e|n|z:=Ħ (sv.mem_iff.mp hx);exact(e,n,z)
 have htn:o=[]->R=[]:=λz=>by have:=sv.length_eq;rw[z,Qa]at this;exact Ëm Êf
 have htl16:o.length<=16:=by have:=sv.length_eq;rw[Qa]at this;lia
 have hta:∀x∈o,AZ x:=λx hx=>by obtain e|n|rfl:=bJ x hx;exact(Ãg e n).1
 have jF:∀ {b:ae} {xs:À ak},H b=U #[en,ÆC]->b≠p:=λ{b xs} g z=>by
  obtain u1|u2|hp|_:=L;rw[z,hp]at g;injection g with g;injection g with g;cases xs with
  | nil=>cases g
  | Î x r=>injection g with h1 _;cases h1
 have xb:=jF fP;generalize upd I Z (.lst (o.map Ä))=H2 at s2 cT jH L2 sH ⊢;clear O s2 L1 J r8 eJ j8;have fr:∀ {H':Hp} {c':Int} {b:ae},But p H H'->Y3 H' p c'->H' b=af->H b=af:=λ{H' c' b} B' L' g=>by
  cases z:H b with
  | none=>rfl
  | some u =>
   by_cases zp:b=p
   ·rw[ew,u',hu',L'.here];rw[e4,zp,hu',g]
   ·rw[B' b u z zp]at g;cases g
 refine(_,rfl,p,c,6,rfl,L2,by lia,by decide,by decide,λway H3 w0 w1 L3 B3=>?_);have wN:=B3 _ _ cT Gz;have qy:=B3 _ _ jH GA;have b3:But p H H3:=ÄX (ÇT sH) B3;clear B3 L2 cT jH sH;refine(_,rfl,Υ,λz l=>(.list (o.map ÃQ),.list [],.lst #[s6,wN] (UE o),.lst ÄZ .nil,R6 o hta,ú,_,rfl,?_));have s4:=Zi l Ş;have uG:=s4 _ _ wN;have ze:=s4 _ _ qy;have L4:=L3.same s4;have b4:But p H _:=#[s2,b3,s4];generalize upd H3 z (.lst [])=H4 at s4 uG ze L4 b4 ⊢;rw[Ç É,RA];clear s4 L3 wN qy b3 l;refine Zuu (decide (way<3)&&!decide (fs=[])) (λ_ T' hT=>(_,rfl,_,_,rfl,rfl,_,rfl,ZrV (!decide (fs=[])) (λ_ T2 hT2=>(_,rfl,Υ,λz l=>(.list (ÆX ÃQ),.list [],.lst #[s6,ze] (UE fs),.lst ÄZ .nil,R6 fs (λx hx=>(G x hx).1),ú,_,rfl,(by rw[Æ rfl,RA];exact hT2 _ (Zi l _))))) hT)) (λH5 s5=>?_);have rY:=s5 _ _ uG;have CY:=s5 _ _ ze;have L5:=L4.same s5;have b5:But p H H5:=#[s2,b4,s5];clear s5 L4 uG ze b4;rw[fQ,i']
 ·have oZ:fs≠[]:=λz=>by
   by_cases zt:o=[]
   ·have:=uM (htn zt);rw[z]at this;rw[<- this]at gt;exact Ê gt É
   ·rw[z,ĕ zt]at i';simp at i'
  have GB:0<ÀS:=Ôg oZ;refine(_,rfl,_,rfl,_,rfl,D1,_,rfl,.inl (Í CY),p,c+1,_,rfl,L5,by lia,ÁI,ÁI,λj H6 j0 j1 M B6=>?_);rw[wS];have Y:j'<ÀS:=by lia
  have uN:=G _ (Q4 Y);have C:=b5.trans B6;refine(D1,_,_,_,rfl,rfl,Í (B6 _ _ CY GA),XZ (by rw[Qq,Qb Y];rfl),_,rfl,_,rfl,p,sl,c+1+1,5,ss,rfl,M,by lia,by decide,by decide,C _ _ fP xb,gc,Gy,zd,λkl ks c' H7 f1 f2 f3 _ f5 L7 g1 g2 B7=>(ÁM,λt y=>?_));exact q t kl "row" _ ks (.row fs[j'] ks) c' _ (fr (C.trans B7) L7 y) (fr C M f1) Zb (Zi y _ _ _ f2) Êh uN (by lia,λx hx=>(Qk (f5 x hx).1 É,(f5 x hx).2)) #[tC,z,z,ú] (L7.new y) Á Á (ÄX (C.trans B7) #[iD,y])
 have FO:o≠[]:=λz=>by rw[z]at i';exact i' Ö
 have GB:0<o.length:=Ôg FO;clear uM i';refine(_,rfl,_,rfl,_,rfl,Z,_,rfl,.inl (Í rY),p,c+1,_,rfl,L5,by lia,ÁI,ÁI,λj H6 j0 j1 M B6=>?_);rw[wS];have Y:j'<o.length:=by lia
 obtain e|n|uD:=bJ _ (Q4 Y);have uN:=Ãg e n;have C:=b5.trans B6;have AN:=C _ _ Ŧ (À7 pE);have np:∀ {b:ae} {xs:À V},H b=U Β->b≠p:=λ{b xs} g z=>by obtain u1|u2|hp|_:=L;rw[sT,hp,g]
 have kI:=C _ _ #[y5].1 (np #[y5].1);have GC:=C _ _ #[y5].2 (jF #[y5].2);refine(Z,_,_,_,rfl,rfl,Í (B6 _ _ rY Gz),XZ (by rw[Qq,Qb Y];rfl),?_);rw[<- uD];refine Î9;refine Y1 Â6 Â6
 ·refine(_,rfl,Υ,λkl iR=>(ÁM,λt y=>?_));have s7:=Zi iR Ş;exact q t kl "drop" _ [] (.drop Ú) (c+1+1) _ (fr C M (s7.free y)) (fr C M iR) Zb (Zi y _ _ _ Zb) (.inr (.inr Ŕ)) uN (by decide,λx hx=>by cases hx) (λ_=>rfl) ((M.new iR).new y) Á Á (ÄX C (ÇT (s7.trans (Zi y _))))
 obtain W|qH|_|GD:=Zr3 Ò (U (-1)) af;refine(_,rfl,_,rfl,N,_,rfl,ď (k:=Æu) AN (VJ ÀP n),e.t,_,_,_,rfl,rfl,û kI,rfl,_,rfl,_,rfl,e.k,_,rfl,Í GC,λll kF=>?_);have s7:=Zi kF #[en,W.map];rw[qH];rw[g8,xg,H6,ll,W.map];have L7:=Â7 s7;have b7:But p H _:=#[s2,C,s7];have GF:ll≠p:=λz=>by obtain u|S:=M.here;rw[iA,kF,S]
 generalize upd H6 ll (.lst (W.map Ä))=H7 at s7 xg L7 b7 ⊢;clear s7 kI GC AN M C B6 b5 L5 rY CY kF;refine(_,rfl,_,rfl,_,rfl,p,sl,c+1+1,4,ss,rfl,L7,by lia,by decide,by decide,b7 _ _ fP xb,gc,Gy,zd,λkl ks c' H8 f1 f2 f3 _ f5 L8 g1 g2 B8=>(kl,rfl,#[gF,f2],λD2 J=>?_));have b8:=b7.trans B8;have GG:=B8 _ _ xg GF;have f1':=fr b7 L7 f1;clear b7 L7 B8 xg GF f1;refine Jj (K:=K) (a:=kl) (xs:=Ů Ä) (λj zs X I=>(∃v:Ã V,X=[U Ū,U Àw,U (.ref nl),U (.ref sl),U (.ref N),U (.ref D1),U (.ref Z),U (.int way),U (.str Ú),U (.ref ll),v])/\(∃fs:À ak,zs=ÆX Ä/\ÀS<=j/\(∀s∈fs,s∈ks))/\j<=Ο/\I D2=U Ż/\ZB H8 I) ((af,rfl),([],rfl,Qf _,#[eB,s,h]),Qs _,Zb,Zi J _) #[eD,f2] ?_ ?_
 ·rintro j x zs X H9 hx ⟨⟨v,rfl⟩,⟨fs,rfl,hJ,G⟩,Y,uK,s9⟩;rw[Qq]at hx;cases l:ks[j]? with
  | none=>rw[l]at hx;cases hx
  | some s =>
  rw[rR,l,hx];rw[sM,lZ,l];have qJ:=Qn l;have AO:=s9 _ _ GG;refine(_,rfl,Υ,λz l=>(.list (W.map ÃQ),.list [],.lst #[s6,AO] (UE W),.lst ÄZ .nil,R6 W ?_,ú,_,rfl,?_))
  ·exact λx hx=>(B.key e n x (GD x hx)).2
  have qe:=Zi l Ş;have xh:=qe _ _ AO;have AQ:=qe _ _ uK;have sD:=s9.trans qe;generalize upd H9 z (.lst [])=ju at qe xh AQ sD ⊢;rw[Ç É,RA];refine ZtR #[hU,hc,T',hT] #[hU,b,rA,qf]
  ·cases W with
   | nil=>cases hc
   | Î a r=>exact(_,rfl,_,rfl,ll,_,_,_,rfl,rfl,Í xh,XZ (j:=0) rfl,s,a,rfl,rfl,_,rfl,hT _ _ (Çj _))
  ·have AS:=qf _ _ AQ;refine Y1 Â6 (λ_=>((_,rfl),(fs,rfl,by lia,G),lZ,AS,sD.trans qf));refine(_,rfl,AS,(by rw[Qa];exact Zs (by have:=f5;lia)),ü,(fs++[s],by rw[Qe];rfl,by rw[Qi];show ÀS+1<=j+1;lia,λx hx=>?_),lZ,Zb,λb u g=>by rw[Zc (Zf g J)];exact qf _ _ (sD _ _ g));rcases ë hx with hx|hx
   ·exact G x hx
   ·rw[vd];exact qJ
 rintro zs X H9 ⟨⟨v,rfl⟩,⟨fs,rfl,hJ,G⟩,_,uK,s9⟩;rw[Qa]at hJ;refine(ÁM,λt y=>?_);have L9:=L8.same s9;have b9:But p H H9:=#[s2,b8,s9];exact q t D2 "grow" _ fs (.grow Ú fs) c' _ (fr b9 L9 y) (fr b8 L8 J) Zb (Zi y _ _ _ uK) (.inr Êh) uN (by lia,λx hx=>(Qk (f5 x (G x hx)).1 É,(f5 x (G x hx)).2)) #[tC,z,z,ú] (L9.new y) Á Á (ÄX b9 #[iD,y])
theorem ATk.few{R b:í}{ws:Ñ}(h:ATk R ws b)(nd:Åh)(a:Ïr):ť<=ZQ (Y6 R):=by obtain ts|c|_|d:=h.link nd a;have:=c.left #[ei,Wm,a];rw[d,Qa];lia
theorem ZoE{a:Nat}(h2:a=200){os:Âw}{f bs ws:Ñ}{R b:í}{c:Int}{S:DS}(h:WV os f R c)(g:ATk R ws b)(hw:ť=a\/ť<=a/\Win (hdP (Y6 b)) (ZY (Y6 b)) af)(st:Wn Ëx (os++[.take 1000000]) bs S):f++[blT ws]=bs:=by
 generalize e:os++[ÈP 1000000]=lR at st;cases st with
 | nil=>simp at e
 | Ň i d j k =>
  obtain rfl|rfl:=Nq e;obtain rfl|L:=h.link i;have nd:Åh:=by rw[<- VH,show nmA R=_ from L.nm];exact d.nd
  have l:Ïr:=by rw[<- Wm,show Y6 R=_ from L.P];exact d.ndP
  have m:=g.few nd l;rw[show Y6 R=_ from L.P]at m;have h3:=j.tot;obtain rfl|_:=(Xj.take (n:=1000000) g (hw.elim #[tC,z,z,Á] λz=>.inr (by lia,z.2))).link L d k;rfl
theorem Zrz:∀m:Nat,m<7 -> "take" ++ " "++SO #[hG,m]=(ÈP m).txt:=by ac_rfl
theorem MC(os:Âw)(o:Od):dds (os++[o])=dds os+Ëw:=by unfold dds;rw[Qe,Qaz];rfl
theorem ZsN(o:Od):Ëw<=1:=by cases o<;>first|exact Qf 1|exact Qs 1
section
variable {H1 H H':Hp} {d rd rl dl:ae} {R R':À AR} {c c':Int} {os:À Od} {as:À ak} {o:Od} {a:ak} {i n:Nat}
theorem AI.deed(st:WV os as R c)(I:ÜI)(B:ÃZ)(e:Ám=n)(hd:dds os<=i)(hw:Ôz)(b:OdW o)(g:W8 R c o a R' c')(t:ÔL):AI H1 ÜJ d rd rl dl (i+1) (n+1):=by
 refine(os++[o],as++[a],R',c',st.deed g,?_,B.step b g,by rw[Qi,e];rfl,by rw[MC];have:=ZsN o;lia,λx hx=>?_)
 ·rw[Qe];exact(I.to t).pushD a
 ·rcases ë hx with hx|hx
  ·exact hw x hx
  ·rw[vd];exact b
theorem AI.ask(st:WV os as R c)(I:ÜI)(B:ÃZ)(e:Ám=n)(hd:dds os<=i)(hw:Ôz)(f:OdW o)(h0:Ëw=0)(g:Xj R o a R')(D:Yu H' d rd R' c)(k:#[fg,u,H,rd,H']):AI H1 ÜJ d rd rl dl i (n+1):=by
 refine(os++[o],as++[a],R',c,st.ask g,?_,Xj.bd B g,by rw[Qi,e];rfl,by rw[MC,h0];exact hd,λx hx=>?_)
 ·rw[Qe];exact(I.ask g D k).pushD a
 ·rcases ë hx with hx|hx
  ·exact hw x hx
  ·rw[vd];exact f
universe E
theorem ABd.due{R:í}{c:Int}{i:Nat}(B:ÃZ)(hi:i<=36):ω<=30/\∀e∈R,ĭ<=180/\e.n<c:=(Qk ÁY É,λe he=>(by have:=(Æp e he).1;lia,(B.n e he).2))
def Ru(K:Å):Sp:=λvs H Q _=>X2 λ(a:ae) (ns:À Int)=>vs=η/\SqL K H a ξ/\Ĉ<=63/\∀b,Q ÆN b
theorem Zxd(H:Hp)(p:ae):∃c:Hp,#[fF,u,c,H]/\c p=af/\#[eK,u,p,c]:=by
 refine(λb=>if b=p then af else H b,λb u a=>?_,Æ rfl,λb u a z=>?_)
 ·have a:(if b=p then af else H b)=U u:=a;by_cases z:b=p
  ·rw[sX,z,a];cases a
  ·rwa [Ç z]at a
 ·show (if b=p then af else H b)=U u;rw[zE,z];exact a
theorem Zuo{f:ae}{fd:bA}(F:Fun K "law" "law" Vs f fd)(T:Ù)(TD:Æi):YY P w K mg Â CX0 20 f fd Îd (Ru K):=by
 have jE:Úc:=Zvk T;have oW:Df P w K mg Â 1 "_law_left" Í0 (JK K):=ZsG T;have aX:ÇY:=Zsv T jE;have sy:#[eo,3,"_law_stems",Å7,Ju]:=Zp1 T aX;have l6:Úr:=Zup T aX;have j4:ÚK:=Ztp T aX l6;have jJ:ÜG:=ZsX T j4;have iI:Df P w K mg Â 5 "_law_same" ÇN (JC 4):=Jt T 4;have cZ:Ód:=Ziz T;have gS:Ók:=ZpW T cZ;have eD:Óp:=Zq0 T;have l8:ÚB:=Zpq T gS eD;have gD:ÚN:=Zin T cZ eD;have cQ:ÓC:=Zrt T l8;have bG:ÎJ:=ZoG T cQ;have fT:Ós:=ZnW T gS;have fc:ÓG:=ZnY T;rw[ep,bF,ZsE];have be:=ZsD T bF;have eE:=Zmq T fT;have cH:=ZsJ T be gD;have c7:=IZ T be fc cH 8;have bb:=ZlE T c7;have gI:=Ziw T bG eE bb;have cA:=ZoD T be;have gH:=Zrw T bF;have gp:=Zoi T be;have j7:Ûd:=ZtS T fc;have gE:=ZlZ T j7;have dR:=Zp3 T cH;have eT:=Zsg T be gE dR;have gF:=ZsZ T cA eT;have fe:=ZmK T bG eE bb;rw[ep,cB,ZoJ];have eV:=Zlv T bF cB bb;have fJ:=Zln T fT;have gG:=ZrR T cB bG be fJ bb;rw[ep,eB,ZqQ];rw[ep,uZ,ZpJ];have ck:=ZmC T cQ eB;rw[ep,cj,ZmH];have eU:=Zr2 T ck;have sC:=ZjU T bF cj;have gn:=Zpn T ck cj;have eW:=ZuD T gF;rw[ep,fU,ZpQ];have hV:=Zn2 T fU;have iD:=Zqx T fU;rw[ep,gg,ZsB];have gj:=ZqY T gg;have fS:=ZoA T TD hV iD gj;rw[ep,eX,ZuE];rw[ep,gk,Zsn];rw[ep,bP,ZuM];have ff:=ZoV T gk;rw[ep,bK,ZoL];have sE:=ZoZ T bP;have gU:=Zrp T fe eU;have gq:=ZoU T gG gn;have gr:=ZnS T eV;have cm:=Zoo T ff;have bT:=Zmp T cm;have fB:=Zmd T eW bT bK;have iF:=Zma T TD fS eX;have hZ:=ZoB T iF;have ic:=Zqj T gI;have dY:=Zkd T cA bT bK;have fC:=Zl7 T gH;have fD:=ZmI T gp cm bK;have xi:=ZuG T TD hZ ic gU gq gr fB dY fC fD;rw[ep,sF,Zpz];rw[ep,gJ,Zqv];have nc:=Zmk T gJ;rw[ep,cX,ZlS];have eG:=ZrC T cX bP;have ie:=ZmG T cX eG;have gs:=Zpi T cX bP;have pI:=Zpl T eG ie gs;have sG:=Zog T aX;rw[ep,ng,ZoR];have uO:=Zo3 T aX jJ;refine F.ok W0 #[iF,vs] (λaP A Ü s H vs Q E C h=>?_)
 ·obtain a|ns|rfl|_:=h;rfl
 rw[gm,a,L,hS,BP];refine(_,#[Zd,#[Zu,1,Ãj,à,#[fR,oW,0]],#[Zd,(@Zux _ _ 2 3 _ _ _ _ _ _ _ _ _ _ _ rfl Ãj rfl rfl É rfl rfl #[Ze,#[g2,sG,C],#[g2,sy,C]] rfl È),#[Zd,(@Zsy _ _ 4 5 6 _ _ _ _ _ _ _ _ _ _ _ _ _ _ rfl Ãj rfl rfl rfl rfl rfl rfl #[Ze,(@Zu8 _ _ _ _ _ _ _ _ sF C ÊV È É),Ãh,Ãh] rfl È),#[Zd,#[XI,χ,(@Mn _ _ _ _ _ _ _ rfl ÇZ #[Ze,Û,#[Zo,(Rh rfl),È,ÓU,boot_max,#[Ze,Û,#[Zo,(LY rfl),È,ÎS,ÎT,#[Ze,ÇX,Û]]]]] È È),#[sa,7,Ãj],#[Zd,#[Zu,1,Ãj,à,#[fp,oW,C,0,7]],(@T7 _ _ _ _ _ #[ZN,(@Ř _ _ _ #[Xt,#[Zk,WT,#[fR,aX,1],Û,þ],#[Xh,#[Xi,#[Zz,ng,C,#[Ze,‹5›],È]]]]),#[Zd,#[YC,#[Zz,uO,C,#[Ze,‹1›,‹4›,‹2›,‹3›],È],#[ef,8,Ãj,9,10]],#[Zd,#[ZM,#[YN,QE,QF,QG,Z3,‹5›,#[Ze,#[Zz,sE,C,#[Ze,‹8›,#[ZZ,#[Ze,‹9›]],‹10›],È]]]],#[Zh,#[ZM,#[YN,QE,QF,QG,Z3,‹6›,#[Ze,#[Zz,nc,C,#[Ze,‹4›,‹8›,‹9›,‹10›],È]]]]]]],ï] #[Zd,#[Zu,8,Ãj,à,#[ZD,Τ,#[ZZ,#[Ze,Ý,Ý,Ý,Ý,Ý]],#[fR,aX,1]]],#[Zd,#[Zu,11,Ãj,à,#[fR,aX,1]],#[Zd,#[ZM,#[YN,QE,QF,QG,Z3,‹5›,#[Ze,#[Z4,#[eq,YS,8,Ý],#[ZK,VD,#[ZK,VD,‹8›,Ý],#[W4,(SN K C),Èy,Èz,#[Ze,‹11›]]],‹8›]]]],#[Zh,#[ZM,#[YN,QE,QF,QG,Z3,‹6›,#[Ze,#[Zz,pI,C,#[fB,4,8,11],È]]]]]]]])]],#[Zd,#[ZM,#[YN,QE,QF,QG,Z3,‹5›,#[Ze,Ý]]],#[Zd,#[ZM,#[YN,QE,QF,QG,Z3,‹6›,#[Ze,#[fR,ie,4]]]],#[Zd,#[XI,χ,#[tB,Û],#[sa,12,Ãj],#[Zd,#[Zu,13,Ãj,à,#[Zz,xi,C,#[Ze,#[YN,Q0,Qaj,Qak,(UU K),Ý,#[Ze,‹5›]]],È]],#[Zd,#[ZN,(@Ut _ _ _ _ #[Xi,#[fp,iI,C,13,6]]),Îp,ï],#[Zh,#[ZM,#[YN,QE,QF,QG,Z3,‹13›,#[Ze,Ý]]]]]]],#[Zh,#[Zm,#[Zz,iI,C,#[Ze,#[Zz,xi,C,#[Ze,Ý],È],Ãh],È]]]]]]]]]],_,rfl,a,L,_,rfl,hS,BP,by decide,by decide,λp0 H1 wv L0 s1=>?_);refine(_,rfl,p0,0,rfl,L0,by decide,λnl ns c2 H2 AT r8 eJ n1 n20 L2 g1 g2 B2=>?_);refine(_,rfl,p0,c2,rfl,L2,by lia,λsl ss c3 H3 AU fP m1 m4 zd L3 g3 g4 B3=>?_);refine(_,_,rfl,?_);have C0:nl≠p0:=λz=>by obtain u|G:=L0.here;rw[iA,AT,G]
 have AV:=B3 _ _ r8 C0;have s3:ZB H H3:=λb o D=>B3 b o (B2 b o (s1 b o D) (Zf D wv)) (Zf D wv);have xb:sl≠p0:=λz=>by obtain u|G:=L2.here;rw[iA,AU,G]
 obtain Y|C3|GH|rO:=Zxd H3 p0;have GI:=rO _ _ AV C0;have GJ:=rO _ _ fP xb;have sx:ZB H Y:=λb o D=>rO _ _ (s3 _ _ D) (Zf D wv);have fx:∀ {b:ae},H3 b=af->Y b=af:=λ{b} D=>by
  cases z:Y b with
  | none=>rfl
  | some u=>rw[C3 _ _ z]at D;cases D
 have hc3:c3<2 ^ 38:=by lia
 clear B2 B3 L0 L2 g1 g2 g3 g4 r8 AT AU C0 xb;refine(rfl,λd rd Hb sr xj D0 sb=>(Υ,λy j3=>(Υ,λdl kD=>(_,_,_,rfl,?_))));rw[gA,s4,j3,tW,Hb,y];generalize upd Hb y (.lst [])=H4 at s4 tW kD ⊢;rw[gA,s5,kD,xk,H4,dl];generalize upd H4 dl (.lst [])=H5 at s5 xk ⊢;have I5:AL Y H5 d rd y dl [] 0 [] []:=(λb u D=>s5 _ _ (s4 _ _ (sb _ _ (C3 _ _ D))),(D0.same s4).same s5,s5 _ _ tW,xk,Zf tW kD,fx sr,fx xj,fx (Ïy j3),fx (Ïy (s4.free kD)),λe he=>by cases he);have np0:NA Y d rd y dl p0:=by obtain u|G:=L3.here;exact((λz=>by rw[z,sr]at G;cases G),(λz=>by rw[z,xj]at G;cases G),(λz=>by rw[z,Ïy j3]at G;cases G),(λz=>by rw[z,Ïy (s4.free kD)]at G;cases G),GH)
 have L5:=((L3.same sb).same s4).same s5;clear C3 GH rO fx L3 s3 AV fP sb s4 s5 tW xk D0 sr xj j3 kD;refine(_,rfl,a,_,rfl,.inl ((sx.trans I5.same).seq hS),_,_,rfl,_,_,rfl,_,_,rfl,?_);have hN:ÜK<=30/\9<=ÜK:=by split<;>(try split)<;>lia
 generalize (if (if (30:Int)<(((ĸ ì).length:Nat):Int) then 30 else (((ĸ ì).length:Nat):Int))>9 then (if (30:Int)<(((ĸ ì).length:Nat):Int) then 30 else (((ĸ ì).length:Nat):Int)) else 9)=N at hN ⊢;refine(by lia,?_);clear np0 L5 hc3;refine Uq (λj Z H=>(X8 λv1 v7 v8 v9 nh qK qL qM:Ã V=>Z=[U (.ref a),v1,U (.ref nl),U (.ref sl),U (.ref d),U (.ref y),U (.ref dl),v7,v8,v9,nh,qK,qL,qM])/\X2 λi n=>i<=j/\n<=2*j/\AI Y H d rd y dl i n) ((_,_,_,_,_,_,_,_,rfl),0,0,Qf _,Qf _,[],[],[],0,.nil,I5,(Qs _,λe h=>(by cases h),Qbk _,Qbk _,λe h=>(by cases h),λe h=>(by cases h),λe h=>(by cases h),.nil,.nil),rfl,Qf _,λo h=>(by cases h)) ?_ ?_
 ·clear I5;rintro j Z ju hj ⟨⟨v1,v7,v8,v9,nh,qK,qL,qM,rfl⟩,i,n,hi,hn,os,J,R,c,X,I,B,O,jc,hw⟩;have hj29:j<29:=by lia
  refine(_,rfl,_,rfl,a,L,_,rfl,(sx.trans ÈO).seq hS,BP,by lia,by lia,λp rA hp su qf=>?_);have np:=I.np hp;have rB:=I.on qf;clear I hp qf;refine(λZ H'=>(X3 λv8 v9 nh:Ã V=>Z=[U ĩ,U Ū,U (.ref nl),U (.ref sl),U Àw,U (.ref y),U (.ref dl),U (.int (1+(j:Int))),v8,v9,nh,qK,qL,qM])/\(∃q,Y3 H' p q/\q<=1000)/\X2 λi n=>i<=j+1/\n<=2*j+1/\AI Y H' d rd y dl i n,?_,?_)
  ·refine(_,rfl,p,0,5,rfl,su,by decide,by decide,by decide,λr qp r0 r1 w8 xa=>(_,_,rfl,rfl,_,rfl,?_));have vM:=rB.draw np su xa;clear rB su xa;have kB:∀z∈Ãi Ω,Ľ<=1000:=λz hz=>by obtain o|ho|rfl:=Ħ hz;exact Qk (MJ (hw o ho)) É
   refine Zse (λ_ T' hT=>(_,rfl,y,Ãi Ω,rfl,vM.hr,ÁI,kB,λb GK pF=>(_,rfl,hT b GK pF))) #[hU,b,GK,pF];have sI:=vM.on pF;have zf:=w8.same pF;clear vM w8 pF;refine Y1 Â6 (λ_=>((_,_,_,rfl),(_,zf,by lia),i,n,by lia,by lia,os,J,R,c,X,sI,B,O,jc,hw));refine(_,rfl,_,rfl,_,rfl,_,rfl,p,d,rd,nl,sl,_,R,c,i,ns,ss,rfl,zf,by lia,sI.D,B,by lia,np.d,np.rd,sI.same _ _ GI,n1,n20,eJ,sI.same _ _ GJ,m1,m4,zd,λt kl wd s ks o c' H14 ht iR GL xl ho hs hk hdr GN g1 g2 GO=>?_);have C4:=sI.draw np zf GO;have nkr:kl≠y:=λz=>by have:=sI.hr;rw[<- z,iR]at this;cases this
   clear sI zf GO ht iR;rw[eW,t,GL];have wo:OdW o:=Zn5 ho hs hk;have qk:ÔM:=by rw[Qa];exact O
   have uP:Ïz=n:=by rw[X.len];exact O
   refine(_,rfl,.inl #[eG,C4.hr],_,rfl,_,rfl,#[eJ,1,aq],λb D=>(_,rfl,?_));have xm:=Zi D (.lst [.str s]);refine(b,kl,wd,[s],ks,rfl,Zb,xm _ _ xl,#[eJ,1,10],Qk hk.1 É,?_,(λx hx=>by rw[ò hx];exact(Qk hs.2.2 É,hs.1)),(λx hx=>(Qk (hk.2 x hx).1 É,(hk.2 x hx).2)),λGP zg=>?_)
   ·rcases ho with⟨rfl,_⟩|⟨rfl,_⟩|⟨rfl,_⟩<;>ac_rfl
   rw[Zk2 ho hdr];have C5:=(C4.on xm).on zg;have GQ:=(GN.same xm).same zg;have AW:=zg _ _ (xm _ _ xl);clear C4 GN xl xm zg D;rw[sh,y,C5.hr,qk];have xn:=C5.pushR Áo;have GR:=GQ.push (o:=.lst ÜL) np.rl;have AX:(upd GP y (.lst ÜL)) kl=U ÁX:=by rw[Zc nkr];exact AW
   generalize upd GP y (.lst ((Ãi Ω).map Ä++[Ä Áo]))=H17 at xn GR AX ⊢;clear C5 GQ AW;refine(_,rfl,.inl #[eG,xn.hd],_,rfl,_,rfl,_,rfl,_,rfl,d,rd,kl,R,c,wd,s,ks,o,rfl,xn.D,AX,ho,hk,(B.due Á).1,(B.due Á).2,λa2 R2 c2 H18 g tt=>?_);refine(dl,_,_,rfl,rfl,(xn.to tt).hd,#[eA,uP],Ës,(_,(tt.left GR np.d np.rd).push np.dl,by lia),i+1,n+1,by lia,by lia,AI.deed X xn B O jc hw wo g tt)
  clear X rB B O jc hw su hi hn os J R c i n;rintro Z GS ⟨⟨v8,v9,nh,rfl⟩,⟨q1,C6,hq1⟩,i,n,hi,hn,os,J,R,c,X,I,B,O,jc,hw⟩;have qk:ÔM:=by rw[Qa];exact O
  have uP:Ïz=n:=by rw[X.len];exact O
  refine(#[eJ,5,aq],λb D=>?_);have C7:=Zi D ÜM;rw[fv,xp,GS,b,ÜM];have C8:=I.on C7;have zh:=C6.same C7;have nbp:b≠p:=λz=>by obtain u|G:=C6.here;rw[iA,D,G]
  generalize upd GS b (.lst [.str "coming",.str "take",.str "rows",.str "left",.str "take"])=H20 at xp C8 zh ⊢;clear I C6 C7 D;refine(_,rfl,p,q1,5,rfl,zh,by lia,by decide,by decide,λr H21 r0 r1 C9 Db=>?_);have GU:=C8.draw np zh Db;have AY:=Db _ _ xp nbp;clear C8 zh xp Db;obtain⟨M,bW,GV⟩:∃M:ak,atI [Ä "coming",.str "take",.str "rows",.str "left",.str "take"] r=U (.str M)/\(M = "coming"\/M = "take"\/M = "rows"\/M = "left"):=by
   rcases(show r=0\/r=1\/r=2\/r=3\/r=4 by lia) with rfl|rfl|rfl|rfl|rfl
   ·exact("coming",rfl,.inl rfl)
   ·exact ÜN
   ·exact("rows",rfl,.inr Å5)
   ·exact("left",rfl,.inr (.inr Ãz))
   ·exact ÜN
  refine(b,_,_,_,rfl,rfl,Í AY,bW,?_);clear bW AY r0 r1;refine(_,rfl,p,q1+1,7,rfl,C9,by lia,by decide,by decide,λm H22 m0 m7 L22 GW=>?_);have Dc:=GU.draw np C9 GW;rw[fn,m,k,m,m.toNat];clear GU C9 GW L22;obtain⟨o2,GX,wP,GY,sr,wo2⟩:∃o2:Od,G0 M m o2/\(M = "take"->M ++ " "++SO (.int (m:Int))=ËE)/\(M ≠ "take"->M=ËE)/\o2.deed=0/\OdW o2:=by
   rcases GV with rfl|rfl|rfl|rfl
   ·exact(.coming,.inl Ŕ,λz=>Ê z ú,λ_=>by ac_rfl,rfl,trivial)
   ·exact(.take m,.inr Êh,λ_=>Zrz m Á,λz=>Ê rfl z,rfl,.inl Á)
   ·exact(.rows,.inr (.inr Êh),λz=>Ê z ú,λ_=>by ac_rfl,rfl,trivial)
   ·exact(.left,.inr (.inr (.inr Ŕ)),λz=>Ê z ú,λ_=>by ac_rfl,rfl,trivial)
  have hw6:Àr<=6:=by rcases GV with rfl|rfl|rfl|rfl<;>ac_rfl
  refine(_,rfl,.inl #[eG,Dc.hr],_,rfl,rfl,_,rfl,?_);have gi:=MR (i:=(m:Int)) Á;have e1:Èx:=by ac_rfl
  refine Iu (λv H'=>v=.str ËE/\H'=H22) #[hU,hc,Q',hq] #[hU,hc,Q',hq] #[hU,v,H',hv]
  ·have hw:M = "take":=by have:=Ŀ hc;rw[qo]
   refine(_,rfl,_,_,rfl,rfl,ē Á,_,rfl,.int (m:Int),_,rfl,.int _,gi.1,gi.2.1,gi.2.2.1,_,_,rfl,rfl,?_,hq _ _ (by rw[wP hw],rfl));have:=gi.2.2.2;rw[ak.length_append,e1];exact ē (by show _+(RD (m:Int)).length<=_;lia)
  ·exact(_,rfl,hq _ _ (by rw[<- GY (λz=>Âh hc (by rw[z]))],rfl))
  obtain rfl|rfl:=hv;rw[sh,y,Dc.hr,qk];have xq:=Dc.pushR ËE;generalize upd H' y (.lst ((Ãi Ω).map Ä++[Ä ËE]))=H23 at xq ⊢;refine(_,rfl,.inl #[eG,xq.hd],_,rfl,_,rfl,_,rfl,d,rd,R,c,i,m,M,o2,rfl,xq.D,B,by lia,by lia,GX,λa3 R3 H24 g D3 k3=>?_);refine(dl,_,_,rfl,rfl,(xq.ask g D3 k3).hd,#[eA,uP],ÜO,i,n+1,by lia,by lia,AI.ask X xq B O jc hw wo2 sr g D3 k3)
 rintro Z H ⟨⟨v1,v7,v8,v9,nh,qK,qL,qM,rfl⟩,i,n,hi,hn,os,J,R,c,X,I,B,O,jc,hw⟩;have hi29:i<=29:=by lia
 have hn58:n<=58:=by lia
 have qk:ÔM:=by rw[Qa];exact O
 have uP:Ïz=n:=by rw[X.len];exact O
 refine(_,rfl,.inl #[eG,ÀQ],y,_,_,rfl,rfl,ÀQ,#[eA,qk],?_);have W:=I.pushR "take 1000000";generalize upd H y (.lst ((Ãi Ω).map Ä++[Ä "take 1000000"]))=H1 at W ⊢;refine(_,rfl,.inl #[eG,W.hd],_,rfl,d,rd,R,c,i,200,rfl,W.D,B,by lia,by decide,λws R3 H2 g yK D3 k3 jT=>?_);have gb:=k3 _ _ W.hd (W.nn W.hd).2;have e6:=k3 _ _ W.hr (W.nn W.hr).2;rw[sh,dl,gb,uP];have j2:ÜP dl=U (.lst ((J++[blT ws]).map Ä)):=by rw[Zb,Qe];rfl
 have fO:ÜP y=U (.lst (((Ýb).map Ω).map Ä)):=by rw[Zc W.ne,e6,Qe (f:=Ω),show [ÈP 1000000].map Ω=(["take 1000000"]:À ak) by ac_rfl]
 generalize upd H2 dl (.lst (J.map Ä++[Ä (blT ws)]))=H3 at j2 fO ⊢;have sJ:∀ {bs:À ak} {S:DS},Wn Ëx (os++[.take 1000000]) bs S->J++[blT ws]=bs:=λst=>ZoE rfl X g yK st;have sg:∀o∈os++[ÈP 1000000],OdW o:=λo ho=>(ë ho).elim (hw o) λh=>by rw[ò h];exact À8
 have A0:dds Ýb<=36:=by rw[MC];show dds os+0<=36;lia
 have dw:y≠dl:=W.ne;have De:(Ýb).length<=59:=by rw[Qi];show Ám+1<=59;lia
 have rH:(J++[blT ws]).length<=59:=by rw[Qi];show Ïz+1<=59;lia
 clear I W B X g yK D3 k3 jT gb e6 qk uP O jc hw;generalize os++[ÈP 1000000]=lR at fO sJ sg A0 De ⊢;generalize J++[blT ws]=G' at j2 sJ rH ⊢;have e1:#[gB,"\n",1]:=by ac_rfl
 have oR:∀l:À Od,(∀o∈l,OdW o)->((Â0 Ω).map Âq).sum<=612*ś:=λl=>by
  induction l with
  | nil=>intro _;exact Qf _
  | Î o r ih=>intro h;have h1:=MJ (h o Ö);have h2:=#[gt,ih,o',gw];rw[Qj,Qj,QR,QA];lia
 have hs:=oR lR sg;clear oR;have fs:∀ (Y:Hp) (l:À ak),F2 (IsD Y 3) (Â0 Ä) (Â0 Ä):=λY l=>by
  induction l with
  | nil=>exact F2.nil
  | Î s r ih=>exact .cons (ZpV (.inr (.inr (.inr (s,rfl))))) ih
 refine(_,rfl,by decide,by decide,?_);refine Uq (λj Z H'=>(X8 λv1 v7 v8 v9 nh qK qL qM:Ã V=>Z=[U (.ref a),v1,U (.ref nl),U (.ref sl),U (.ref d),U (.ref y),U (.ref dl),v7,v8,v9,nh,qK,qL,qM])/\H' y=U #[fN,lR.map,Ω]/\H' dl=U #[en,G'.map]) ((_,_,_,_,_,_,_,_,rfl),fO,j2) ?_ ?_
 ·clear fO j2;rintro j Z H4 _ ⟨⟨v1,v7,v8,v9,nh,qK,qL,qM,rfl⟩,qw,m8⟩;refine(rfl,_,rfl,_,y,lR.map Ω,rfl,rfl,Í qw,#[sk,e1,Qa],lR,rfl,sg,by lia,A0,λbs S l H5 tX hl iG k5=>?_);have eb:=sJ tX;subst eb;refine(_,rfl,_,rfl,.ref l,.ref dl,rfl,IR iG (k5 _ _ m8) ÁI (fs H5 G'),λH6 s6=>(_,rfl,Y8 ?_));refine(_,rfl,.inl (rfl,_,Í (s6 _ _ iG)),l,_,_,rfl,rfl,s6 _ _ iG,Ëg,ÜO,?_,?_)
  ·rw[sy,qw,hl];exact s6 _ _ (k5 _ _ qw)
  ·rw[sy,m8,hl];exact s6 _ _ (k5 _ _ m8)
 ·rintro Z H4 ⟨⟨v1,v7,v8,v9,nh,qK,qL,qM,rfl⟩,qw,m8⟩;refine([],rfl,#[eB,o,h],by decide,by decide,λbs S l H5 tX hl iG k5=>(Υ,λz hz=>?_));have eb:bs=[]:=by
   generalize e:([]:À Od)=y8 at tX;cases tX with
   | nil=>rfl
   | Ň _ _ _ _=>simp at e
  subst eb;exact(.ref l,.ref z,rfl,IR (Zi hz Ş _ _ iG) Zb É .nil,λH6 _=>q H6)
universe E
def FF(K:Å)(x q:ak)(st:aM)(f:ae):Prop:=X9 λ(b c:Ã ae) (sl:ā (Ã aa)) (d kV e g a ct:aa)=>Ļ f=U (d,b,.func #[eL,q,e,g,c,a],sl)/\Éz K a q=true/\Áb K Ċ=true
theorem ZF{K:Å}{h:aI}{mg:Ā}{x:ak}{st:aM}{ps:Ñ}{f:ae}(X:Ŵ h)(G:h.Ns aL mg)(a:ĵ K aL x=U Àg)(g:FF K x x st f)(hb:#[eu,e,d,i,x]):Top K mg x st ps:=by obtain od|d|sl|oc|kV|dc|b|cd|ct|l|c|k:=g;exact(_,_,WJ (st:=st) l c k,QL X G a,#[qM].binds hb)
theorem XJ{K:Å}{C:ae}{x q:ak}{st:aM}{ps:Ñ}{f:ae}(a:Ī K æ x=U Àg)(i:Ðk)(g:FF K x q st f)(hb:#[eu,e,d,h,q]):Yj K C x q st ps:=by obtain od|d|sl|oc|kV|dc|b|cd|ct|l|c|k:=g;exact(_,_,WJ (st:=st) l c k,(a,i,k),#[qM].binds hb)
theorem MB{K:Å}{h:aI}{mg:Ā}{C:ae}{x q:ak}{st:aM}{ps:Ñ}{f:ae}(X:Ŵ h)(G:h.Ns aL mg)(m:#[hO,C])(e:Áb K æ=true)(j:ĵ K aL x=U (U æ))(a:#[h4,C,f])(i:Ðk)(g:FF K "__init__" q st f)(hb:∀ (kV n b:aa) (d:Ã ae) (o ct:aa) (us:À aa),ÀR=ÀF->bindArgs (ÅJ "__init__" q (Wz st) ÂL (Zg st) .none kV n b d o ct) Éw=pure Æ3):UR K mg C x q st ps:=by obtain od|d|sl|oc|kV|dc|b|cd|ct|l|c|k:=g;exact(_,_,WJ (st:=st) l c k,(m,a,i,e),#[qM].binds hb,QL X G j)
theorem MA{n:Nat}{us:å}(h:ÀR=n+1):X2 λa r=>us=a::r/\ÁA=n:=by obtain a|r|rfl:=List.exists_cons_of_length_eq_add_one h;exact(a,r,rfl,Nat.succ.inj h)
theorem YH(us:å)(h:ÀR=1):∃a0,us=[a0]:=QaO.mp h
theorem Yy(us:å)(h:ÀR=2):X2 λa0 b=>us=[a0,b]:=by obtain a|r|rfl|g:=MA h;obtain c|rfl:=YH r g;exact(a,c,rfl)
theorem Ya(us:å)(h:ÀR=3):X3 λa0 b c=>us=[a0,b,c]:=by obtain a|r|rfl|g:=MA h;obtain d|e|rfl:=Yy r g;exact(a,d,e,rfl)
theorem Mz(us:å)(h:ÀR=4):X4 λa0 b c d=>us=[a0,b,c,d]:=by obtain a|r|rfl|g:=MA h;obtain e|f|i|rfl:=Ya r g;exact(a,e,f,i,rfl)
theorem all_mk{l:Ð5}{w:aF}{K:Å}{h:aI}{mg:Ā}{fa:ae}(X:Ŵ h)(G:h.Ns aL mg)(hfa:mg "law" = U (.ref fa))
  {aw am aA ap aJ aB ao au:ae}
  {zi Dg:ak} {Dh:ae} {zj:å} {zk:Ñ} {xr:å} {zm:Ï} {xt:ÏA} {zn:Ě} {zo zq zr zu zw:Äf}
  {xu zA:ak} {zB:ae} {xv:å} {xw:Ñ} {uQ:å} {xx:Ï} {uR:ÏA} {xy:Ě} {xz xA xB xC xD:Äf}
  {ni pJ:ak} {pK:ae} {nq:å} {nr:Ñ} {mn:å} {nu:Ï} {mq:ÏA} {nv:Ě} {nw nA nB nC nD:Äf}
  {sK uS:ak} {uT:ae} {sL:å} {sM:Ñ} {qN:å} {sN:Ï} {qO:ÏA} {sO:Ě} {sP sQ sR sS sU:Äf}
  {f0 f1 f2 f3 f4 f5 f6 f7 f8 f9 J' K' U' V' Y' Z' f16 f17 f18 f19 f20 f21 f22 f23 Di Dj Dk Dl Dm Do Dp f31 f32 f33 f34 f35 f36 f37 f38 f39 f40 f41 f42 f43 f44 f45 f46 f47 f48 f49 f50 f51 f52 f53 Dq Dr Ds Dt Du Dv Dw Dx Dy Dz DA DB DC DD DE DF DG DI DJ DK:ae}
  {zC kK qP pL pM nE sV sW:Tok}
  {bQ:ae} {oX:Å0} {uU:Nat}
  {dW:ae} {mv:Ě} {mx:Nat} {my:Δ} {jK jL:Tok}
  {bn:ae} {qQ:Å0} {xE:Nat}
  {bp:ae} {qR:Å0} {xF:Nat}
  {dX:ae} {mz:Ě} {mB:Nat} {mC:Δ} {jM:Tok} {fu:ae} {pN:Ě} {pO:Nat} {pP:Δ} {kL:Tok}
  {dB:ae} {kM:Ě} {kN:Nat} {kO:Δ} {jg:Tok} {eN:ae} {nF:Ě} {nG:Nat} {nH:Δ} {ke:Tok}
  {dC:ae} {kP:Ě} {kQ:Nat} {kT:Δ} {jh:Tok} {eO:ae} {nJ:Ě} {nK:Nat} {nL:Δ}
  {cP:ae} {jN:Ě} {jO:Nat} {jP:Δ} {dD:ae} {kU:Ě} {kW:Nat} {kX:Δ}
  {dE:ae} {kY:Ě} {kZ:Nat} {k7:Δ} {ji:Tok} {eQ:ae} {nN:Ě} {nO:Nat} {nP:Δ}
  {dF:ae} {la:Ě} {lb:Nat} {lc:Δ} {eR:ae} {nQ:Ě} {nR:Nat} {nU:Δ}
  {dG:ae} {lf:Ě} {lg:Nat} {lh:Δ} {eS:ae} {nV:Ě} {nW:Nat} {nX:Δ}
  (DL:#[e0,"Row",aw]) (DM:#[r2,aw]) (DN:#[fi,aw]) (DO:#[rS,aw]) (DP:#[g3,aw]) (DQ:#[hO,aw]) (DR:#[Xki,K,aw])
  (lj:#[eF,aw,"all_keys"])
  (qS:#[eF,aw,"fars"])
  (qT:#[eF,aw,"gone"])
  (xG:#[e0,"Merge",am]) (xH:#[r2,am]) (xI:#[fi,am]) (xJ:#[rS,am]) (xK:#[g3,am]) (xL:#[hO,am]) (xM:#[Xki,K,am])
  (nY:#[eF,am,"best"])
  (kh:#[eF,am,"likened"])
  (lm:#[eF,am,"looked"])
  (iH:#[eF,am,"next_number"])
  (nZ:#[eF,am,"rows"])
  (mD:#[eF,am,"stays"])
  (zD:#[e0,"Desk",aA]) (zE:#[r2,aA]) (zF:#[fi,aA]) (zG:#[rS,aA]) (zH:#[g3,aA]) (zI:#[hO,aA]) (zJ:#[Xki,K,aA])
  (n5:#[eF,aA,"merge"])
  (ln:#[eF,aA,"numbers"])
  (n6:#[e0,"MergeError",ap])
  (tY:#[e0,"Full",aJ])
  (qU:#[e0,"NoRow",aB])
  (i3:#[e0,"OutOfOrder",ao])
  (mE:#[e0,"BadLine",au])
  (mF:Ép K ÄW "__getattribute__" = U ÙD)
  (mG:ÙE K ap ÊB=true)
  (mH:ÙF K ÄW ÊB "__init__" = U (.val ÄQ))
  (tZ:Ļ aJ=U (Às zi Dg aJ Dh zj ÇS true zk xr zm xt zn zo zq zr zu zw "ValueError.__new__"))
  (zK:#[Xki,K,aJ])
  (zL:#[fw,Ł,ÄQ])
  (zM:#[fW,Ł])
  (zN:#[gy,Ł])
  (zO:#[eP,Ł,ÀI])
  (zP:#[fi,aJ])
  (zQ:#[f7,Ł])
  (zR:#[gx,aJ])
  (zS:#[eP,Ł,Âo])
  (pQ:#[eP,Ł,Ł])
  (jj:#[gN,Ł,ap])
  (n8:#[e1,Ł,ł])
  (jk:#[e1,Ł,Ĭ])
  (lq:#[e1,Ł,Ķ])
  (xN:Ļ aB=U (Às xu zA aB zB xv ÇS true xw uQ xx uR xy xz xA xB xC xD "ValueError.__new__"))
  (xO:#[Xki,K,aB])
  (xP:#[fw,ł,ÄQ])
  (xQ:#[fW,ł])
  (xR:#[gy,ł])
  (xS:#[eP,ł,ÀI])
  (xT:#[fi,aB])
  (xU:#[f7,ł])
  (xV:#[gx,aB])
  (xW:#[eP,ł,Âo])
  (mI:#[eP,ł,ł])
  (iS:#[gN,ł,ap])
  (n9:#[e1,ł,Ł])
  (iU:#[e1,ł,Ĭ])
  (ki:#[e1,ł,Ķ])
  (i4:Ļ ao=U (Às ni pJ ao pK nq ÇS true nr mn nu mq nv nw nA nB nC nD "ValueError.__new__"))
  (oa:#[Xki,K,ao])
  (og:#[gd,Ĭ])
  (jQ:Ī K Ĭ "row" = U af)
  (iV:Ī K Ĭ "place" = U af)
  (oh:#[fW,Ĭ])
  (oj:#[gy,Ĭ])
  (oo:#[eP,Ĭ,ÀI])
  (oq:#[fi,ao])
  (ou:#[f7,Ĭ])
  (ox:#[gx,ao])
  (oy:#[eP,Ĭ,Âo])
  (gK:#[eP,Ĭ,Ĭ])
  (gM:#[gN,Ĭ,ap])
  (jl:#[e1,Ĭ,Ł])
  (iW:#[e1,Ĭ,ł])
  (im:#[e1,Ĭ,Ķ])
  (sX:Ļ au=U (Às sK uS au uT sL ÇS true sM qN sN qO sO sP sQ sR sS sU "ValueError.__new__"))
  (sY:#[Xki,K,au])
  (sZ:#[gd,Ķ])
  (lu:Ī K Ķ "line" = U af)
  (tj:#[fW,Ķ])
  (tq:#[gy,Ķ])
  (tu:#[eP,Ķ,ÀI])
  (tw:#[fi,au])
  (tz:#[f7,Ķ])
  (tE:#[gx,au])
  (tF:#[eP,Ķ,Âo])
  (jm:#[eP,Ķ,Ķ])
  (io:#[gN,Ķ,ap])
  (lv:#[e1,Ķ,Ł])
  (km:#[e1,Ķ,ł])
  (ip:#[e1,Ķ,Ĭ])
  (fg:#[gc,ap])
  (fh:#[rL,ÄW])
  (pR:#[gc,aJ])
  (pS:#[rL,Ł])
  (mJ:#[gc,aB])
  (mK:#[rL,ł])
  (gN:#[gc,ao])
  (gO:#[rL,Ĭ])
  (jn:#[gc,au])
  (jo:#[rL,Ķ])
  (hkg:ÕF)
  (CP:ÕG)
  (a0:#[e0,"halves",f0]) (g0:FF K "halves" "halves" Pq f0)
  (a1:#[e0,"way_up",f1]) (g1:FF K "way_up" "way_up" Pp f1)
  (a2:#[e0,"is_key",f2]) (g2:FF K "is_key" "is_key" Po f2)
  (a3:#[e0,"alike",f3]) (g3:FF K "alike" "alike" Pn f3)
  (a4:#[e0,"liken",f4]) (g4:FF K "liken" "liken" Pm f4)
  (a5:#[e0,"liken_from",f5]) (g5:FF K "liken_from" "liken_from" Pk f5)
  (a6:#[e0,"alike_from",f6]) (g6:FF K "alike_from" "alike_from" Pj f6)
  (a7:#[e0,"order_at",f7]) (g7:FF K "order_at" "order_at" Pg f7)
  (a8:#[e0,"first_break",f8]) (g8:FF K "first_break" "first_break" Pf f8)
  (a9:#[e0,"alikes",f9]) (g9:FF K "alikes" "alikes" Pe f9)
  (fE:#[e0,"refuse_break",J']) (g10:FF K "refuse_break" "refuse_break" Pd J')
  (lM:#[e0,"matches_up",K']) (g11:FF K "matches_up" "matches_up" Pc K')
  (oY:#[e0,"read_word",U']) (g12:FF K "read_word" "read_word" Pb U')
  (qW:#[e0,"read_name",V']) (g13:FF K "read_name" "read_name" Pa V')
  (u4:#[e0,"read_key",Y']) (g14:FF K "read_key" "read_key" O9 Y')
  (A2:#[e0,"read_number",Z']) (g15:FF K "read_number" "read_number" O8 Z')
  (a16:#[e0,"are_figures",f16]) (g16:FF K "are_figures" "are_figures" O7 f16)
  (a17:#[e0,"written_key",f17]) (g17:FF K "written_key" "written_key" O6 f17)
  (a18:#[e0,"written_thing",f18]) (g18:FF K "written_thing" "written_thing" O5 f18)
  (a19:#[e0,"with_blanks",f19]) (g19:FF K "with_blanks" "with_blanks" O4 f19)
  (a20:#[e0,"run",f20]) (g20:FF K "run" "run" O3 f20)
  (a21:#[e0,"orders_in",f21]) (g21:FF K "orders_in" "orders_in" O2 f21)
  (a22:#[e0,"order_in",f22]) (g22:FF K "order_in" "order_in" T1 f22)
  (a23:#[e0,"may_be_further",f23]) (g23:FF K "may_be_further" "may_be_further" O1 f23)
  (a24:#[e0,"do_row",Di]) (g24:FF K "do_row" "do_row" O0 Di)
  (a25:#[e0,"do_grow",Dj]) (g25:FF K "do_grow" "do_grow" OZ Dj)
  (a26:#[e0,"do_drop",Dk]) (g26:FF K "do_drop" "do_drop" OY Dk)
  (a27:#[e0,"ask_coming",Dl]) (g27:FF K "ask_coming" "ask_coming" OX Dl)
  (a28:#[e0,"ask_take",Dm]) (g28:FF K "ask_take" "ask_take" OW Dm)
  (a29:#[e0,"ask_left",Do]) (g29:FF K "ask_left" "ask_left" OV Do)
  (a30:#[e0,"ask_rows",Dp]) (g30:FF K "ask_rows" "ask_rows" OU Dp)
  (a31:#[e0,"written_things",f31]) (g31:FF K "written_things" "written_things" Ss f31)
  (a32:#[e0,"written_heads",f32]) (g32:FF K "written_heads" "written_heads" T0 f32)
  (a33:#[e0,"_law_mix",f33]) (g33:FF K "_law_mix" "_law_mix" OT f33)
  (a34:#[e0,"_law_left",f34]) (g34:FF K "_law_left" "_law_left" OR f34)
  (a35:#[e0,"_law_pick",f35]) (g35:FF K "_law_pick" "_law_pick" OQ f35)
  (a36:#[e0,"_law_stems",f36]) (g36:FF K "_law_stems" "_law_stems" Sr f36)
  (a37:#[e0,"_law_key",f37]) (g37:FF K "_law_key" "_law_key" Sq f37)
  (a38:#[e0,"_law_keys",f38]) (g38:FF K "_law_keys" "_law_keys" OP f38)
  (a39:#[e0,"_law_row",f39]) (g39:FF K "_law_row" "_law_row" OO f39)
  (a40:#[e0,"_law_same",f40]) (g40:FF K "_law_same" "_law_same" So f40)
  (a41:#[e0,"_law_begun",f41]) (g41:FF K "_law_begun" "_law_begun" ON f41)
  (a42:#[e0,"_law_in_order",f42]) (g42:FF K "_law_in_order" "_law_in_order" Sn f42)
  (a43:#[e0,"_law_deed_due",f43]) (g43:FF K "_law_deed_due" "_law_deed_due" OM f43)
  (a44:#[e0,"_law_heads",f44]) (g44:FF K "_law_heads" "_law_heads" OL f44)
  (a45:#[e0,"_law_key_text",f45]) (g45:FF K "_law_key_text" "_law_key_text" OK f45)
  (a46:#[e0,"_law_coming",f46]) (g46:FF K "_law_coming" "_law_coming" OJ f46)
  (a47:#[e0,"_law_taken",f47]) (g47:FF K "_law_taken" "_law_taken" OI f47)
  (a48:#[e0,"_law_rows_text",f48]) (g48:FF K "_law_rows_text" "_law_rows_text" UM f48)
  (a49:#[e0,"_law_ask_due",f49]) (g49:FF K "_law_ask_due" "_law_ask_due" Sl f49)
  (a50:#[e0,"_law_names",f50]) (g50:FF K "_law_names" "_law_names" Sk f50)
  (a51:#[e0,"_law_words",f51]) (g51:FF K "_law_words" "_law_words" TZ f51)
  (a52:#[e0,"_law_deed",f52]) (g52:FF K "_law_deed" "_law_deed" TY f52)
  (a53:#[e0,"_law_is_short",f53]) (g53:FF K "_law_is_short" "_law_is_short" Sj f53)
  (a54:#[e0,"law",f54]) (l54:#[Xlk,K,f54,oc54,od54,"law","law",Vs,kV54,dc54,pm54,an54,A1,ct54,sl54]) (c54:#[Xci,K,A1,"law"]) (k54:#[Xki,K,f54])
  (a55:#[h4,ao,DT]) (i55:#[Xif,K,DT]) (l55:#[Xlk,K,DT,oc55,od55,"__init__","OutOfOrder.__init__",Z5,kV55,dc55,pm55,an55,cd55,ct55,sl55]) (c55:#[Xci,K,cd55,"OutOfOrder.__init__"]) (k55:#[Xki,K,DT])
  (a56:#[h4,au,DU]) (i56:#[Xif,K,DU]) (l56:#[Xlk,K,DU,oc56,od56,"__init__","BadLine.__init__",TX,kV56,dc56,pm56,an56,cd56,ct56,sl56]) (c56:#[Xci,K,cd56,"BadLine.__init__"]) (k56:#[Xki,K,DU])
  (a57:#[h4,aw,Dq]) (i57:#[Xif,K,Dq]) (g57:FF K "__init__" "Row.__init__" OH Dq)
  (a58:#[Xfi,K,aw,"to_go",Dr]) (i58:#[Xif,K,Dr]) (g58:FF K "to_go" "Row.to_go" OG Dr)
  (a59:#[Xfi,K,aw,"head",Ds]) (i59:#[Xif,K,Ds]) (g59:FF K "head" "Row.head" OF Ds)
  (a60:#[Xfi,K,aw,"lengthen",Dt]) (i60:#[Xif,K,Dt]) (g60:FF K "lengthen" "Row.lengthen" OE Dt)
  (a61:#[h4,am,Du]) (i61:#[Xif,K,Du]) (g61:FF K "__init__" "Merge.__init__" OD Du)
  (a62:#[h5,"coming",Dv]) (i62:#[Xif,K,Dv]) (g62:FF K "coming" "Merge.coming" OC Dv)
  (a63:#[h5,"take",Dw]) (i63:#[Xif,K,Dw]) (g63:FF K "take" "Merge.take" OB Dw)
  (a64:#[h5,"take_few",Dx]) (i64:#[Xif,K,Dx]) (g64:FF K "take_few" "Merge.take_few" OA Dx)
  (a65:#[h5,"left",Dy]) (i65:#[Xif,K,Dy]) (g65:FF K "left" "Merge.left" Si Dy)
  (a66:#[h5,"heads",Dz]) (i66:#[Xif,K,Dz]) (g66:FF K "heads" "Merge.heads" Sh Dz)
  (a67:#[h5,"add_row",DA]) (i67:#[Xif,K,DA]) (g67:FF K "add_row" "Merge.add_row" Oz DA)
  (a68:#[h5,"drop_row",DB]) (i68:#[Xif,K,DB]) (g68:FF K "drop_row" "Merge.drop_row" Oy DB)
  (a69:#[h5,"grow",DC]) (i69:#[Xif,K,DC]) (g69:FF K "grow" "Merge.grow" Ox DC)
  (a70:#[h5,"row_of",DD]) (i70:#[Xif,K,DD]) (g70:FF K "row_of" "Merge.row_of" Ow DD)
  (a71:#[h5,"play_all",DE]) (i71:#[Xif,K,DE]) (g71:FF K "play_all" "Merge.play_all" Ov DE)
  (a72:#[h5,"play",DF]) (i72:#[Xif,K,DF]) (g72:FF K "play" "Merge.play" Ou DF)
  (a73:#[h5,"send_out",DG]) (i73:#[Xif,K,DG]) (g73:FF K "send_out" "Merge.send_out" Ot DG)
  (a74:#[h5,"play_again",DI]) (i74:#[Xif,K,DI]) (g74:FF K "play_again" "Merge.play_again" Oq DI)
  (a75:#[h5,"meet",DJ]) (i75:#[Xif,K,DJ]) (g75:FF K "meet" "Merge.meet" Op DJ)
  (a76:#[h4,aA,DK]) (i76:#[Xif,K,DK]) (g76:FF K "__init__" "Desk.__init__" Oo DK)
  (zT:#[tx,"DONE","done",zC])
  (lA:#[g1,"MOST_FIGURES",9,kK])
  (qV:#[g1,"MOST_KEY",40,qP])
  (pT:#[g1,"MOST_NAME",8,pL])
  (pU:#[g1,"MOST_ROWS",16,pM])
  (oz:#[g1,"MOST_SIZES",12,nE])
  (tG:#[tx,"NOTHING","-",sV])
  (tH:#[tx,"REFUSED","refused",sW])
  (uV:#[e0,"BOUNDS",bQ])
  (uW:#[iw,bQ,oX,uU])
  (uX:ÍQ ÊF oX.toList)
  (uY:(bQ == bD)=false)
  (mL:#[et,bQ,"many",dW])
  (mM:Ļ dW=U (.type "tuple",mv,.seq #[.int 0 jK,.int 1000000 jL] mx,my))
  (xX:#[e0,"DEEDS",bn])
  (xY:#[iw,bn,qQ,xE])
  (xZ:ÍQ ÊF qQ.toList)
  (x5:(bn == bD)=false)
  (pV:#[et,bn,"row",Di])
  (oA:#[et,bn,"grow",Dj])
  (oB:#[et,bn,"drop",Dk])
  (lB:#[et,bn,"coming",Dl])
  (oC:#[et,bn,"take",Dm])
  (oE:#[et,bn,"left",Do])
  (oF:#[et,bn,"rows",Dp])
  (x6:#[e0,"FORMS",bp])
  (x8:#[iw,bp,qR,xF])
  (x9:ÍQ ÊF qR.toList)
  (ya:(bp == bD)=false)
  (pW:#[et,bp,"row",fu])
  (pX:Ļ fu=U (.type "tuple",pN,.seq #[.ref dX,.str "key" kL] pO,pP))
  (mN:#[h6,dX,mz,jM,mB,mC])
  (oG:#[et,bp,"grow",eN])
  (oH:Ļ eN=U (.type "tuple",nF,.seq #[.ref dB,.str "key" ke] nG,nH))
  (lD:#[h6,dB,kM,jg,kN,kO])
  (oI:#[et,bp,"drop",eO])
  (oJ:#[fj,eO,nJ,dC,nK,nL])
  (lE:#[h6,dC,kP,jh,kQ,kT])
  (lF:#[et,bp,"coming",dD])
  (lG:#[fj,dD,kU,cP,kW,kX])
  (jR:#[sn,cP,jN,jO,jP])
  (oK:#[et,bp,"take",eQ])
  (oM:#[fj,eQ,nN,dE,nO,nP])
  (lH:Ļ dE=U (.type "tuple",kY,.seq #[.str "many" ji] kZ,k7))
  (oN:#[et,bp,"left",eR])
  (oO:#[fj,eR,nQ,dF,nR,nU])
  (lI:#[sn,dF,la,lb,lc])
  (oP:#[et,bp,"rows",eS])
  (oQ:#[fj,eS,nV,dG,nW,nX])
  (lJ:#[sn,dG,lf,lg,lh])
  (z0:#[ev,"abs"]) (z1:#[ev,"all"]) (z2:#[ev,"bool"]) (z3:#[ev,"dict"]) (z4:#[ev,"enumerate"]) (z5:#[ev,"int"]) (z6:#[ev,"isinstance"]) (z7:#[ev,"len"]) (z8:#[ev,"list"]) (z9:#[ev,"max"]) (z10:#[ev,"min"]) (z11:#[ev,"range"]) (z12:#[ev,"sorted"]) (z13:#[ev,"str"]) (z14:#[ev,"sum"]) (z15:#[ev,"tuple"]) (z16:#[ev,"zip"]) :
  ∃fd:bA,#[ht,v,fd,"_law_script"]/\∀Â:aI,Ŵ Â->ÈV aL mg->YY l.prog w K mg Â CX0 20 fa fd Îd (Ru K):=by
 have e:=hfa.symm.trans (QL X G a54);cases e;have T:Ù:=((QO X G z0,QO X G z1,QO X G z2,QO X G z3,QO X G z4,QO X G z5,QO X G z6,QO X G z7,QO X G z8,QO X G z9,QO X G z10,QO X G z11,QO X G z12,QO X G z13,QO X G z14,QO X G z15,QO X G z16),ZF X G a0 g0 Ĺ,ZF X G a1 g1 Ŋ,ZF X G a2 g2 Ĺ,ZF X G a3 g3 Ŋ,ZF X G a4 g4 Ŋ,ZF X G a5 g5 γ,ZF X G a6 g6 γ,ZF X G a7 g7 γ,ZF X G a8 g8 Ĺ,ZF X G a9 g9 Ĺ,ZF X G fE g10 Ŋ,ZF X G lM g11 Ŋ,ZF X G oY g12 Ŋ,ZF X G qW g13 Ĺ,ZF X G u4 g14 Ĺ,ZF X G A2 g15 γ,ZF X G a16 g16 Ĺ,ZF X G a17 g17 Ĺ,ZF X G a18 g18 Ŋ,ZF X G a19 g19 Ĺ,ZF X G a20 g20 Ĺ,ZF X G a21 g21 Ĺ,ZF X G a22 g22 Ĺ,ZF X G a23 g23 Ŋ,ZF X G a24 g24 γ,ZF X G a25 g25 γ,ZF X G a26 g26 γ,ZF X G a27 g27 γ,ZF X G a28 g28 γ,ZF X G a29 g29 γ,ZF X G a30 g30 γ,ZF X G a31 g31 Ŋ,ZF X G a32 g32 Ŋ,ZF X G a33 g33 Ŋ,ZF X G a34 g34 Ŋ,ZF X G a35 g35 Ŋ,ZF X G a36 g36 Ĺ,ZF X G a37 g37 Ŋ,ZF X G a38 g38 γ,ZF X G a39 g39 γ,ZF X G a40 g40 Ŋ,ZF X G a41 g41 (λ_ _ _ _ _ _ us hl=>match us,hl with|[],_=>rfl),ZF X G a42 g42 Ĺ,ZF X G a43 g43 (λ_ _ _ _ _ _ us hl=>by obtain _|_|_|_|rfl:=Mz us hl;exact rfl),ZF X G a44 g44 Ĺ,ZF X G a45 g45 Ĺ,ZF X G a46 g46 Ĺ,ZF X G a47 g47 Ŋ,ZF X G a48 g48 Ĺ,ZF X G a49 g49 γ,ZF X G a50 g50 Ĺ,ZF X G a51 g51 γ,ZF X G a52 g52 (λ_ _ _ _ _ _ us hl=>by obtain _|_|_|_|rfl:=Mz us hl;exact rfl),ZF X G a53 g53 Ĺ,(_,_,WJ (st:=Z5) l55 c55 k55,((_,_,_,_,_,_,_,_,_,_,_,_,_,_,i4),a55,i55,oa,og),(WJ (st:=Z5) l55 c55 k55).binds (ps:=ÇO) γ,QL X G i3),(_,_,WJ (st:=TX) l56 c56 k56,((_,_,_,_,_,_,_,_,_,_,_,_,_,_,sX),a56,i56,sY,sZ),(WJ (st:=TX) l56 c56 k56).binds (ps:=ÊJ) Ŋ,QL X G mE),MB X G DQ DR DL a57 i57 g57 Ŋ,XJ a58 i58 g58 Ĺ,XJ a59 i59 g59 Ĺ,XJ a60 i60 g60 Ŋ,MB X G xL xM xG a61 i61 g61 Ŋ,XJ a62 i62 g62 Ĺ,XJ a63 i63 g63 Ĺ,XJ a64 i64 g64 Ŋ,XJ a65 i65 g65 Ĺ,XJ a66 i66 g66 Ĺ,XJ a67 i67 g67 Ŋ,XJ a68 i68 g68 Ŋ,XJ a69 i69 g69 γ,XJ a70 i70 g70 Ŋ,XJ a71 i71 g71 Ĺ,XJ a72 i72 g72 Ŋ,XJ a73 i73 g73 Ŋ,XJ a74 i74 g74 γ,XJ a75 i75 g75 (λ_ _ _ _ _ _ us hl=>by obtain _|_|_|_|rfl:=Mz us hl;exact rfl),MB X G zI zJ zD a76 i76 g76 Ĺ,(DM,DN,DO,DP),lj,qS,qT,(xH,xI,xJ,xK),nY,kh,lm,iH,nZ,mD,(zE,zF,zG,zH),n5,ln,#[ij,zT],#[ij,lA],#[ij,qV],#[ij,pT],#[ij,pU],#[ij,oz],#[ij,tG],#[ij,tH],QL X G n6,QL X G tY,QL X G qU,QL X G i3,QL X G mE,(_,_,_,_,_,_,_,_,_,_,_,_,_,_,_,_,tZ),(_,_,_,_,_,_,_,_,_,_,_,_,_,_,_,_,i4),(mF,mG,mH),jQ,iV,lu,((_,_,_,_,_,_,_,_,_,_,_,_,_,_,tZ),zL,zK,QL X G tY),((_,_,_,_,_,_,_,_,_,_,_,_,_,_,xN),xP,xO,QL X G qU),(zM,zN,zO,zP,zQ,zR),Sx fg fh jj,Sy,WQ mJ mK n8 pQ,WQ gN gO jk pQ,WQ jn jo lq pQ,Sw zS,(xQ,xR,xS,xT,xU,xV),Sx fg fh iS,WQ pR pS n9 mI,Sy,WQ gN gO iU mI,WQ jn jo ki mI,Sw xW,(oh,oj,oo,oq,ou,ox),Sx fg fh gM,WQ pR pS jl gK,WQ mJ mK iW gK,Sy,WQ jn jo im gK,Sw oy,(tj,tq,tu,tw,tz,tE),Sx fg fh io,WQ pR pS lv jm,WQ mJ mK km jm,WQ gN gO ip jm,Sy,Sw tF,hkg,CP)
 have TD:Æi:=(QL X G uV,((_,_,uW,uX),uY),(_,mL,Xo mM ÈQ (.cons ü Æx)),QL X G xX,((_,_,xY,xZ),x5),λf h=>by have e:=#[gv,a24];cases e;exact pV,λf h=>by have e:=#[gv,a25];cases e;exact oA,λf h=>by have e:=#[gv,a26];cases e;exact oB,λf h=>by have e:=#[gv,a27];cases e;exact lB,λf h=>by have e:=#[gv,a28];cases e;exact oC,λf h=>by have e:=#[gv,a29];cases e;exact oE,λf h=>by have e:=#[gv,a30];cases e;exact oF,QL X G x6,((_,_,x8,x9),ya),(_,_,pW,Xo mN ÏB Æx,Xo pX ÈQ (.cons rfl Æx)),(_,_,oG,Xo lD ÏB Æx,Xo oH ÈQ (.cons rfl Æx)),(_,_,oI,Xo lE ÏB Æx,Xo oJ ÈQ ÔN),#[h7,lF,jR,lG],(_,_,oK,Xo lH ÏB Æx,Xo oM ÈQ ÔN),#[h7,oN,lI,oO],#[h7,oP,lJ,oQ]);exact(ÅJ "law" "law" (Wz Vs) (XY Vs) (Zg Vs) .none kV54 dc54 pm54 an54 A1 ct54,λs v=>.of_eq rfl,λbase _ _=>Zuo (WJ (st:=Vs) l54 c54 k54) T TD)
theorem walk{l:Ð5}{q:ay}{e:Ñ}{g:ÐX}{b:aF->aI->Prop}{d:DefRec}{K:Params->Å}(i:l.most=U 63)(j:ÐY)
  (m:∀ (w:aF) (h:aI),b w h->(ÉL).In h)
  (F:∀ (w:aF) (mg:ak->Ã aa) (fa:ae) (h:aI),(ÉL).In h->h.Ns aL mg->mg ÉJ=U (.ref fa) ->
   ∃c:bA,#[ht,u,c,"_law_script"]/\∀Â:aI,(ÉL).In Â->ÈV aL mg->YY l.prog w ÉL mg Â CX0 20 fa c Îd (Ru ÉL)) :
  PySem.W.WalkO q e g b Ìz d [] Ð0 :=
 L2.walk_of (n:=63) (k:=20) (x := "_law_script") (CX:=λ_=>CX0) (sp:=λw=>Ru ÉL) i É j (rfl,by decide,by decide,rfl) m F (λ_ _ a o p _ r=>(a,o,rfl,r,p,λ_=>rfl)) λ_ _ _ _ _ z=>z
universe E.My
open PySem PySem.W PyProof.Rows
namespace PySem.W.Fast
def tw0:=Nat
example:=#[5555756990749432445,16739239042296849094,9036727313217351334,1264490957498217727,6702467993816408169,4724855820401504491,4770079637254142060,12862078592089166021,13306359164316667310,15866598066675550094,17795038976369933800,2184652005467097576,2885039849170236394,17427346421173937332,2029296343821875572,8397320521739694829,8611936386128072237,4701350526716227951,17346883360715442128,13243034645202677881,8391071810072132473,2451547616638552507,7221805806731814869,16058437239245992021,12067167243334981045,287971631229929438,17003057614020451767,3812497869457352312,10986430025013301624,13991859171960343096,13574951392673117217,188506260005657121,5737456273015653665,14125780004629876129,7600789235475884826,6909551807128244186,6356661328668034147,4068074116853887555,15728738234020121369,8290587577917563200,12415034385683178082,14088799859305801656,12518751548448951687,8083243157917876373,10925093016072562156,9636865448809247970,17724659028951732806,7585613736268815417,11229483278098393458,15409007356985320447,857483728333899071,7871728926342143432,5456639528184016803,13026394442517741672,11254002291945533760,6794124422241553567,1011466454348677035,1157514954718923150,18293858689275589062,12119610114380626078,14989208880733669675,4572620021010780789,13641985304868811808,10839323310569145201,9527825205275023807,17138930530976566703,11903168592745607326,10163622786564423750,16388824697170120414,2828768586310652002,16112066120258914198,13710602432372169428,12147040382537084463,7336979436957992390,14839984306918246626,13087799967371916221,14985809159267152269,12700696734018124886,11291537818948707043,4329937402751037577,10794363050615188874,15948629243859291059,5420959097192481013,15020923960032661268,12225516693640267701,17324734353574369308,2951812565505788216,6548015402190009117,8767441890103807982,8289671511225087165,217093529818348109,13948106589123342623,13716013392369072739,4881587405969607778,14484605747124593426,11224949988601153062,2004398403393187925,10493672763007309957,15290593818434946262,11048056471292494583,17733774631606078064,7149243924765780640,17072778843436487960,5882405808321456592,10795583833905395501,14711953863534953790,13360049861794072919,7952562888760589912,10851786213079405431,17382997235847634405,4809191937447291010,13575603731786358531,8461996968184169839,10216958659987825616,8051339546393498354,12672607451716561364,11568803789928331126,1415441565809261584,10234863375967332754,11191882859091908717,11724808904473179936,7647127756188878803,17683216105413748600,16641922150770563261,10284349800790925853,14000602218672980458,16480727170362131894,1315598355018383622,6607756707203890278,9663240761766403054,12497565877441172426,18185520052176313386,7415248250395547306,10578257728992290408,17620236450856959916,11072169957796742535,13721752645507883829,2254364546996868859,14637291847256868635,9659682358994601109,12078330860711143307,8326311828926183152,15832189627753027515,15475672716020192671,2270039485158381024,13415436478049573290,15602339498534758601,11117957502257784738,17838488509345856187,17248097918233236617,13560311202792631580,2530074046677638336,6716694073342006311,1642809760087655557,9257495215351100564,15076467362362303973,8084440679762470937,18284410797273560166,5643480892950147961,6656353044014727456,17701146028831552373,3923374994214904438,15934902812385422112,9920207346748475409,241467708079687752,10658287680457172978,5653391524185269882,3782954044009662956,4486989578254955070,7905145302962075350,15582256827031872094,13638335989043968582,14080701903405504928,1077719392824968741,1511845696243019564,3576818831817165867,3660238375634270714,9736808084283793731,15408099109464967267,8724594958486028768,6795442855884077529,14116034183381739075,3979135949751997401,17162562270332453421,15703261415325214540,12754464986266336820,15760224352476909007,335008386013934305,11940543179039508235,15738021426196254937,8013384992931451279,10559022422845460265,13253067049311430695,15165932192796231423,2120202843309238867,10556127507675438484,2739222969859788447,1489723633750246486,4089238640217367787,9310797484218504395,15186549668356738114,10030245436846399878,8946411988869044672,16168368240182165867,18404801530113904710,18373457757146478775,6334079351114366985,1718281864611693188,15637046877567363557,7874104510254112311,2454850116140239860,13244731075968521463,7805274347998269639,16686225432998538140,11083093190543413365,17608232112212340345,11194750015149548950,13915068503370521203,16381100998676740017,14369101573715284197,1652455330953006732,3558866029134949856,1723857751707364419,4537919734767283524,8717118541237435667,12222748357588336755,9293814516486936953,1597449384165948324,3710827967703947791,8411639256766825308,15870994228349118359,16172428359435002880,16964034124623773026,3352902444329234796,17270698665549224459,15889709529660383343,285155097369548992,8388928923829860519,57843823916619722,5996190530552898547,17544186922696857739,11306874614562186192,17928033648461186075,16318839385343355424,12996501554334954569,2801137888121117807,3283534175827769346,6292589720773320783,2280594157245266570,17537122545993371275,2104378723673412773,17119147176502167505,12931417650035675148,13987122667899406102,807499437062118233,306414955388981473,14915761520200661596,7171444777295277212,16711057477116019828,3482431819777336027,2173577164343964013,18207735432987722839,9336990985091528338,16457709866320156372,6453569286662740694,196074824347378729,5465894756377544425,9973346511931343749,16896457791314872103,9983511054780504236,7360075932714013288,5488663427505281133,3715582487735195328,14130335038546089069,188625267357217460,2235006729213249581,10201120791614846320,16630259914516007305,6932199174928167728,15420388335673417694,13346594137317585457,1555675757000957338,17378018836725108008,1908727528209817969,13902961961706420600,127661313281279422,14491411410431594039,15093887731421564294,6522249998488867012,3993194802478675395,10255319576930288005,16136809061169398207,6288755822657678334,4510840222648606040,1338919466463956044,8966419472153089204,7623524861190693929,10695281079492531343,10563095964688378253,3960476336520778134,5578572381259749233,8882955377354916448,8473093477909707641,1991766948290536285,4506690490864389575,17317718321386275093,1253659955949946465,7129796956163923753,658645053476430085,16873358268063070505,894994539692618665,16115153073597916612,1036221490527155449,9067782463155860528,4926971910476087715,14834742243899798327,17873136650080166485,8608865849665126343,4182877897002672169,11860750507468414050,13529101767838123224,11874737160988306822,667312233907379229,16874892021492125371,14300993139999443584,689977521590040252,13822240625121781890,15114363197935818676,1741157281852646988,14477188757218093666,3565612532349809641,16841037052461822120,13780527519343056551,7101799527378469985,1041979688109951671,1056045037523298518,12386534928340380839,12017940756198222388,16278828710549005457,16809503468377789267,18288753500439082295,16639845339864533228,2013730897188375982,7361469803823261496,15243712461021682507,12549614855956048341,5836960436816651493,11643777011010708275,9528822623355702483,17014325368604252267,14914553030656830763,6667316803938175431,3749538906872174966,16256897073500286368,14354726818489884737,1628647346819260182,3038454459772174640,17627210834258439112,1877065378610120174,4335560281801723092,14111390813726369404,12702522974158208791,12138522354989340424,8411407287978129469,1444780187049885272,4836133113646544227,5235323266062083569,12837278371224345446,15729225475321173269,55191058747276558,783234373800419934,17899007807243298865,11384202940677021750,14739784055387261831,2694585864650961769,4493184723972109288,12021529001736744615,120478110998548305,6561592225310868530,17585246027006960895,2637188968170918103,7869308029533013591,4000136320444399915,6824199384905431403,326809945144136367,5104043677270139060,11339816026470839361,7795253779530048382,6669632438678960164,3899767072151682717,3254741430580759573,14399289678674716619,14410249244077362403,11574434537253210211,18445213653159383065,10160385056802054339,8702558872246588978,4848516169228124966,1099471219397417842,13318333264647758102,12548420865194402319,685132531237684766,12232438501124269344,2050851736219356424,12893571397072027749,9788201552602919300,10529069412834907218,13245512798301479388,1706494465298087448,7389830112639796915,10353825219572514391,7893348780539992737,3478723718816244183,15695635412552983203,17298242945087501749,4048388904725836456,3841238837501242137,12854719530209892987,5232819249968379578,10046718702267963584,3348328721411886919,18283072940926102492,16254888584952589655,6950659605287750293,6244728622467358751,13327351500386868039,903135509660504519,16754983302644037879,13521892973754396718,3947727797021074725,2667304172536394242,8447112114049932830,8615000767420473884,3815105725750129461,3707603691177711390,12928930004023927264,13742962275482370734,16506032736693759630,14407204196891584920,2312627111718520631,10118367385238130111,2142097645943502575,2694634917946730530,2078298149464220775,3308005449935656359,15826476323180548681,7511791352601306184,3602103307813284332,4651840752678050370,5403883684588371961,1731038192855589922,7545360120747489170,8875420819785140458,12124883860120147272,16923190028195916433,10989013370449884154,3930002260349219670,6126037776247289332,4872019452378518057,11473558163363933043,9516498444387853036,8415065171681600046,11995591640776814097,2780376249291830423,17799342727395135344,5895285731368238783,13539018666280206854,3975637985734560206,11470024333049048382,7586765122919412750,1735581837708114589,13073150028645053317,11313990171899131648,12818107460836960591,817706653295582148,2939546350001553648,1426545624750656609,552774011261002741,2817801884836151897,6109987730936470639,6857189268438289929,1717482237186372225,14992546327569328561,18193725853829793839,9032343441535539094,14972791412314927471,14163219947856632337,8254151856186028647,5888768221515162765,2455985172052038124,7764270973815405233,619282330996317237,17740736979174614739,11782633020072859805,12906959228683240245,1528207286031859035,3099258967848996709,17493351422631689890,13263696364531767712,123380237614479215,2629563954232569582,6212016120484410234,16001168990733968497,12028741337637406725,13427622276626177198,10545332618900466753,10341678290576943729,14460278182987106445,13781299620059410984,2970809638284215026,9671385344473069838,7226205997928421762,10611255645902111852,5683273381599096805,7734110748031121253,1527209175220544308,15966573237141627431,17582920617448471954,9996133805921986495,182579215673756523,5543623040617489928,4702509564239529909,10161860960373090628,5066796943144163212,5369542186072525078,1571924606575220510,8279264890902126492,18343157630007063180,8373980785165067739,2474260966828259140,18162036312216518486,4611090883577833443,15747152393950742690,16726306887823317583,5301643580787255306,6937279016146676126,13698057407268806376,545285060273441619,16494535697036221455,3321689337836469428,1838565555938976186,6204596878701947502,985183286259281800,2238896899053956481,4105182438351120950,12021136091633316325,1203059768493944949,14287648868025228079,2988960967796815236,2741816407109993474,12588839225255012803,11856166807818909573,4244833508333125257,1910724698588058414,13617447778394425393,9542901719170556053,10951236638900914562,8726959557147603080,14164286064203296933,14356984247530627438,498895012681667848,5467153376024577368,6827923315634785443,5929293715660584930,13204130023058327010,2049803267285958548,15103466658010874334,2512810972668064056,1469247589024850561,5496226681536593348,6105774271224076853,577191170969340690,17091868129925823856,8978508385210537282,11407315840256209315,5657320734160847207,5000151388024597001,3755408912958278619,15494620831175334810,2379817489571532843,15360082803250714407,10504827402881626423,16146723120141635630,15519770424691603384,16249305642115463278,18293236216070187371,13629668115187380253,11442517878408515456,11103167607967570233,9005906705031649176,7442391767118304283,13427978280395835578,11412144569638786213,666315641622798474,10620498494514430070,2408796553415969998,4114681656161190295,10502475794712236441,8311779288392886026,14109506288933655548,10099260911600852074,11349619375450097234,7446035111567770972,6172636493290870668,10638268503578500981,15277281423138833621,2890064347373876669,3823047969863853297,14036903577407540338,10573416854312814281,10844196697865316879,5237698362228533406,6467992422940827168,1335329815967395900,15589726179047043103,11455018492944909651,1589459675917833701,1313546497454161448,1784004418363114486,13446214870306025684,12383560199476661664,11537592077701846595,3671692099346135785,3195243771207291462,14962617003860999230,3086705808677393912,4383987366213255749,3815175861068877327,7779469651458668312,17371186146627174392,2599781008962426531,1626449182103497441,11246461382046852030,14315074117211533684,9884601948025451005,16086004832391856831,12763057997472722606,14516996175993904071,7813299516605482886,15011702089668128388,3673740747821656193,9805559371205531903,10053724548081721945,12124756205279947900,9919619448425333977,4073884310131789219,15106894922467124021,4917385222702232953,3736657532607586142,4219979693016751788,15726718094799486530,5059890504597503402,13855101489202065564,8856883977171921819,9902716686531335422,2981749578599391256,11465566635771867694,8731592228346853312,1588387926967536642]
universe E.PySem.W.Fast
set_option maxRecDepth 100000 in
set_option maxHeartbeats 0 in
theorem PySem.Challenge.cw_mergetree_k50_desks_asked_holds : PySem.Challenge.rw_mergetree_k50_desks_asked.Holds := by
 w_on;o_law;k_head;(case hw=>w_witness2)
 k_fill
 refine My.walk (l:=PySem.Challenge.rw_mergetree_k50_desks_asked) rfl rfl (λw h Y=>PySem.W.kIn_of Y) ?F;case F =>
  intro w mg fa h KX G hmg
  refine' My.all_mk KX G hmg ?q00 ?q10 ?q20 ?q30 ?q40 ?q50 ?q60 ?q70 ?q80 ?q90 ?qa0 ?qb0 ?qc0 ?qd0 ?qe0 ?qf0 ?qg0 ?qh0 ?qi0 ?qj0 ?qk0 ?ql0 ?qm0 ?qn0 ?qo0 ?qp0 ?qq0 ?qr0 ?qs0 ?qt0 ?qu0 ?qv0 ?qw0 ?qx0 ?qy0 ?qz0 ?q01 ?q11 ?q21 ?q31 ?q41 ?q51 ?q61 ?q71 ?q81 ?q91 ?qa1 ?qb1 ?qc1 ?qd1 ?qe1 ?qf1 ?qg1 ?qh1 ?qi1 ?qj1 ?qk1 ?ql1 ?qm1 ?qn1 ?qo1 ?qp1 ?qq1 ?qr1 ?qs1 ?qt1 ?qu1 ?qv1 ?qw1 ?qx1 ?qy1 ?qz1 ?q02 ?q12 ?q22 ?q32 ?q42 ?q52 ?q62 ?q72 ?q82 ?q92 ?qa2 ?qb2 ?qc2 ?qd2 ?qe2 ?qf2 ?qg2 ?qh2 ?qi2 ?qj2 ?qk2 ?ql2 ?qm2 ?qn2 ?qo2 ?qp2 ?qq2 ?qr2 ?qs2 ?qt2 ?qu2 ?qv2 ?qw2 ?qx2 ?qy2 ?qz2 ?q03 ?q13 ?q23 ?q33 ?q43 ?q53 ?q63 ?q73 ?q83 ?q93 ?qa3 ?qb3 ?qc3 ?qd3 ?qe3 ?qf3 ?qg3 ?qh3 ?qi3 ?qj3 ?qk3 ?ql3 ?qm3 ?qn3 ?qo3 ?qp3 ?qq3 ?qr3 ?qs3 ?qt3 ?qu3 ?qv3 ?qw3 ?qx3 ?qy3 ?qz3 ?q04 ?q14 ?q24 ?q34 ?q44 ?q54 ?q64 ?q74 ?q84 ?q94 ?qa4 ?qb4 ?qc4 ?qd4 ?qe4 ?qf4 ?qg4 ?qh4 ?qi4 ?qj4 ?qk4 ?ql4 ?qm4 ?qn4 ?qo4 ?qp4 ?qq4 ?qr4 ?qs4 ?qt4 ?qu4 ?qv4 ?qw4 ?qx4 ?qy4 ?qz4 ?q05 ?q15 ?q25 ?q35 ?q45 ?q55 ?q65 ?q75 ?q85 ?q95 ?qa5 ?qb5 ?qc5 ?qd5 ?qe5 ?qf5 ?qg5 ?qh5 ?qi5 ?qj5 ?qk5 ?ql5 ?qm5 ?qn5 ?qo5 ?qp5 ?qq5 ?qr5 ?qs5 ?qt5 ?qu5 ?qv5 ?qw5 ?qx5 ?qy5 ?qz5 ?q06 ?q16 ?q26 ?q36 ?q46 ?q56 ?q66 ?q76 ?q86 ?q96 ?qa6 ?qb6 ?qc6 ?qd6 ?qe6 ?qf6 ?qg6 ?qh6 ?qi6 ?qj6 ?qk6 ?ql6 ?qm6 ?qn6 ?qo6 ?qp6 ?qq6 ?qr6 ?qs6 ?qt6 ?qu6 ?qv6 ?qw6 ?qx6 ?qy6 ?qz6 ?q07 ?q17 ?q27 ?q37 ?q47 ?q57 ?q67 ?q77 ?q87 ?q97 ?qa7 ?qb7 ?qc7 ?qd7 ?qe7 ?qf7 ?qg7 ?qh7 ?qi7 ?qj7 ?qk7 ?ql7 ?qm7 ?qn7 ?qo7 ?qp7 ?qq7 ?qr7 ?qs7 ?qt7 ?qu7 ?qv7 ?qw7 ?qx7 ?qy7 ?qz7 ?q08 ?q18 ?q28 ?q38 ?q48 ?q58 ?q68 ?q78 ?q88 ?q98 ?qa8 ?qb8 ?qc8 ?qd8 ?qe8 ?qf8 ?qg8 ?qh8 ?qi8 ?qj8 ?qk8 ?ql8 ?qm8 ?qn8 ?qo8 ?qp8 ?qq8 ?qr8 ?qs8 ?qt8 ?qu8 ?qv8 ?qw8 ?qx8 ?qy8 ?qz8 ?q09 ?q19 ?q29 ?q39 ?q49 ?q59 ?q69 ?q79 ?q89 ?q99 ?qa9 ?qb9 ?qc9 ?qd9 ?qe9 ?qf9 ?qg9 ?qh9 ?qi9 ?qj9 ?qk9 ?ql9 ?qm9 ?qn9 ?qo9 ?qp9 ?qq9 ?qr9 ?qs9 ?qt9 ?qu9 ?qv9 ?qw9 ?qx9 ?qy9 ?qz9 ?q0a ?q1a ?q2a ?q3a
  case q00|q10|q20|q30|q40|q50|q60|q70|q80|q90|qa0|qb0|qc0|qd0|qe0|qf0|qg0|qh0|qi0|qj0|qk0|ql0|qm0|qn0|qo0|qp0|qq0|qr0|qs0|qt0|qu0|qv0|qw0|qx0|qy0|qz0|q01|q11|q21|q31|q41|q51|q61|q71|q81|q91|qa1|qb1|qc1|qd1|qe1|qf1|qg1|qh1|qi1|qj1|qk1|ql1|qm1|qn1|qo1|qp1|qq1|qr1|qs1|qt1|qu1|qv1|qw1|qx1|qy1|qz1|q02|q12|q22|q32|q42|q52|q62|q72|q82|q92|qa2|qb2|qc2|qd2|qe2|qf2|qg2|qh2|qi2|qj2|qk2|ql2|qm2|qn2|qo2|qp2|qq2|qr2|qs2|qt2|qu2|qv2|qw2|qx2|qy2|qz2|q03|q13|q23|q33|q43|q53|q63|q73|q93|qb3|qd3|qf3|qh3|qj3|ql3|qn3|qp3|qr3|qt3|qv3|qx3|qz3|q14|q34|q54|q74|q94|qb4|qd4|qf4|qh4|qj4|ql4|qn4|qp4|qr4|qt4|qv4|qx4|qz4|q15|q35|q55|q75|q95|qb5|qd5|qf5|qh5|qj5|ql5|qn5|qp5|qr5|qt5|qv5|qx5|qz5|q16|q36|q56|q76|q86|q96|qa6|qb6|qc6|qd6|qe6|qf6|qg6|qh6|qi6|qj6|qk6|ql6|qm6|qo6|qp6|qr6|qs6|qu6|qv6|qx6|qy6|q07|q17|q37|q47|q67|q77|q97|qa7|qc7|qd7|qf7|qg7|qi7|qj7|ql7|qm7|qo7|qp7|qr7|qs7|qu7|qv7|qx7|qy7|q08|q18|q38|q48|q68|q78|q98|qa8|qb8|qc8|qd8|qe8|qf8|qg8|qh8|qi8=>k_is
  case qj8=>exact((_,_,rfl,rfl),À5,À5,À5,ŷ)
  case qk8=>first|rfl|decide
  case ql8|qm8|qn8|qo8=>k_is
  case qp8=>exact ÜQ
  case qq8=>first|rfl|decide
  case qr8|qs8|qt8|qu8|qv8|qw8|qx8|qy8|qz8=>k_is
  case q09=>exact ÜQ
  case q19=>first|rfl|decide
  case q29|q39|q49|q59|q69|q79|q89|q99|qa9|qb9|qc9|qd9|qe9|qf9|qg9|qh9|qi9|qj9|qk9|ql9|qm9|qn9|qo9|qp9|qq9|qr9|qs9|qt9|qu9|qv9|qw9|qx9|qy9|qz9|q0a|q1a|q2a|q3a=>k_is
  case q83|qa3|qc3|qe3|qg3|qi3|qk3|qm3|qo3|qq3|qs3|qu3|qw3|qy3|q04|q24|q44|q64|q84|qa4|qc4|qe4|qg4|qi4|qk4|qm4|qo4|qq4|qs4|qu4|qw4|qy4|q05|q25|q45|q65|q85|qa5|qc5|qe5|qg5|qi5|qk5|qm5|qo5|qq5|qs5|qu5|qw5|qy5|q06|q26|q46|q66|qn6|qq6|qt6|qw6|qz6|q27|q57|q87|qb7|qe7|qh7|qk7|qn7|qq7|qt7|qw7|qz7|q28|q58|q88=>exact(_,_,_,_,_,_,_,_,_,by k_is,by k_is,by k_is)
end
