import PyProof.Rows.All
import Wide.All
import OpenK.AllK
import Wide.FinOn
import Lean
import PyProof.EqAt
import PyProof.EqKinds
import PyProof.TupleCall
import PyProof.AttrMissHeap
import KE.KEqDict
import KE.KItemsList
import PyProof.WalksMore
import PyProof.TupleOfStr
import PyProof.DictWalks
import PyProof.WalkInts
import PyProof.ExcClass3
import PyProof.StationsW
import OpenK.KCall
import PyProof.RulesAs
import PyProof.Ns1
import PyProof.InstStoreFacts
import PyProof.ExcBaseAll.ValueError
import PyProof.ExcArgs
import KE.KIsAll
import PyProof.Rows.CountFlat
import PyProof.StrBlockL
import OpenK.KTop
import PyProof.StrLawsTight
import PyProof.Rows.StrFin3
import KE.KUnpackStar
import PyProof.Conv_int_bool
import KE.KIntText
import PyProof.StrLawsIn
import PySem.Challenge.RW_mergetree_k51_rows_not_so_written
set_option maxHeartbeats 4000000
set_option maxRecDepth 100000
open PySem renaming Value->ae,Addr->af,wpAny_bind->ai,Shared->ak,sizeLine->aq,Str->am,wpAny_pure->aw,PyData->aQ,wpAny->av,Program->aA,starEach->aG,mainGlobals->aM,model->ay,Heap->aJ,Around->aE,World->aF,Expr->aL,NameKind->aY,Stmt->aK,Builtin->aR,compareOp->aV,sliceBounds->dL,wpAny_holding->aT,PassesOwn->bf,Obj->aN,wpAny_seqItems->bv,tupleKind->bN,wpAny_field->bg,sizeLine_eq->aO,assignEach->bW,compEnvC->bL,attributeBase->bB,wpAny_setField_rec->bS,sysModules->bE,wpAny_passesOwn->b8,wpAny_truthy_bool->bp,strIterType->bU,foldedSetIterable->cb,codeAny->bJ,Scope->bn,backTo->bj,FuncData->bC,wpAny_standAt->bK,wpAny_pyIter_list->cQ,wpAny_newObj_type->bO,wpAny_call_entry->cq,bootBuiltins->cx,wpAny_mono->aS,wpAny_Call_Name_kw->bw,tupleKind_room_in1->cz,wpAny_letGo->dM,wpAny_Call_method0_late->ed,keywordEach->bV,letOwnedTupleGo->dN
open Option renaming some->aa,none->ah
local macro_rules(kind:=Lean.Parser.Command.mutual)
|s=>if !s[1][0][1].getKind==``Lean.Parser.Command.example then Lean.Macro.throwUnsupported else
 let N:=fun k c=>Lean.Syntax.node .none k c
 let A:=fun v=>Lean.Syntax.atom .none v
 let L:=fun c=>N `null c
 let key:=fun (a:Array Lean.Syntax)=>let k:=a.getD 0 .missing;k.getId.toString++(if k.isIdent then "" else (k.isNatLit?.getD 0).repr)++"/"++a.size.repr
 let put:=fun (f:Lean.Syntax→Lean.Syntax) (s:Lean.Syntax)=>s.rewriteBottomUp f
 let par:=fun (c:Lean.Syntax)=>N ``Lean.Parser.Tactic.paren #[A "(",c[1],A ")"]
 let sub:=fun (t:Lean.Data.Trie (Array Lean.Name×Lean.Syntax))=>put fun s=>
  let look:=fun (a:Array Lean.Syntax)=>match t.find? (key a) with
   |some (p,b)=>if p.isEmpty then b else put (fun v=>match v with|.ident _ _ n _=>(match p.idxOf? n with|some i=>a[i+1]!|none=>v)|_=>v) b
   |none=>s
  match s with
  |.ident _ r n _=>if n.toString.front.toNat>191 then look #[s] else .ident .none r n []
  |.atom _ v=>A v
  |.node _ k c=>
   if k==`«term#[_,]» then look s[1].getSepArgs
   else if k==``Lean.Parser.Command.declaration&&(s[1].getKind==``Lean.Parser.Command.definition||s[1].getKind==``Lean.Parser.Command.abbrev||s[1].getKind==``Lean.Parser.Command.instance) then s.setArg 0 (s[0].setArg 4 (L #[N ``Lean.Parser.Command.noncomputable #[A "noncomputable"]]))
   else if k==``Lean.Parser.Tactic.rwSeq&&s[3].getNumArgs==0 then
    let a:=s[2][1].getSepArgs
    if a.any (·[0].getNumArgs>0) then s else
    let a:=a.map (·[1])
    let b:=if a.size==1&&(a.getD 0 s).getKind==``Lean.Parser.Term.byTactic then a.getD 0 s else look a
    if b.getKind==``Lean.Parser.Term.byTactic then par b else s
   else if k==``Lean.Parser.Tactic.show&&s[1].getKind==``Lean.Parser.Term.byTactic then par s[1]
   else if k==``Lean.Parser.Term.tuple&&s[1].getNumArgs>0&&s[1][2].getNumArgs%2==1 then
    N ``Lean.Parser.Term.anonymousCtor #[A "⟨",L (#[s[1][0],A ","]++s[1][2].getArgs),A "⟩"]
   else if k==``Lean.Parser.Tactic.obtain&&s[1][0][0].getNumArgs>1 then
    let lo:=fun q=>N ``Lean.Parser.Tactic.rcasesPatMed #[L #[q]]
    s.setArg 1 (L #[lo (N ``Lean.Parser.Tactic.rcasesPat.tuple #[A "⟨",Lean.Syntax.mkSep (s[1][0][0].getSepArgs.map fun q=>N ``Lean.Parser.Tactic.rcasesPatLo #[lo q,L #[]]) (A ","),A "⟩"])])
   else s
  |_=>s
 let x:=fun (c:Lean.Syntax)=>c[1][2][1][1].getSepArgs
 let t:=(x s[1][0]).foldl (fun t y=>
  let a:=y[1].getSepArgs
  t.insert (key a.pop) ((a.extract 1 (a.size-1)).map (·.getId),sub t a.back!)) {}
 let r:=s[1].getArgs.foldl (fun r c=>
  if c[1].getKind==``Lean.Parser.Command.example then (if r.isEmpty then r else (x c).foldl (fun q y=>q.push (r.back!.setArg 1 (r.back![1].setArg 1 (N ``Lean.Parser.Command.declId #[Lean.mkIdent (.mkSimple s!"tw{y.isNatLit?.getD 0}"),L #[]])))) r)
  else if c.getKind==``Lean.Parser.Command.universe then
   let n:=c[1][0].getId
   r.push (N ``Lean.Parser.Command.end #[A "end",L (if n==`E then #[] else #[Lean.mkIdent (n.replacePrefix `E .anonymous),L #[]])])
  else r.push (sub t c)) #[]
 return L r
mutual
example:=#[#[À,List],
#[Â,base],
#[Ã,Option],
#[Æ,if_pos],
#[Ç,V.str],
#[È,if_neg],
#[É,SqL.of],
#[Ê,Bool],
#[Ì,X.env],
#[Í,s.heap],
#[Î,absurd],
#[Ñ,cons],
#[Ò,s.heap.objs.size],
#[Ó,data],
#[Õ,heap],
#[Ö,xs.length],
#[Ü,outer],
#[ß,V.int],
#[à,h.get?],
#[å,ae.ref],
#[æ,T.cl_Merge],
#[ç,cFORMS],
#[è,prog],
#[é,I.hok],
#[ê,X.xe],
#[ë,c.length],
#[ì,e.ss],
#[í,s.heap.get?],
#[î,Qo.mp],
#[ð,rows],
#[ó,Qf.mp],
#[ô,PySem.W.nsIn],
#[õ,toks],
#[ø,V.ref],
#[û,decide_eq_true],
#[ü,X.prog],
#[þ,SqT.of],
#[ÿ,Qq.mp],
#[Ā,K.lookup],
#[Ă,kvs.length],
#[Ć,z.length],
#[ĉ,h'.get?],
#[Ċ,eval],
#[Č,rest],
#[Ď,PySem.W.kitOne],
#[ď,ns.length],
#[đ,X.nb],
#[Ē,decide_eq_false],
#[ē,Array],
#[Ĕ,its.toArray],
#[Ė,keep],
#[ė,X.mg],
#[ę,arrOf],
#[ĝ,False],
#[Ğ,more],
#[ğ,X.env.locals],
#[Ġ,List.replicate],
#[Ĥ,X.li],
#[ĥ,X.lo],
#[Ħ,D.nx],
#[ħ,congrArg],
#[ĩ,N.length],
#[Ĭ,os.length],
#[Į,PySem.W.findIn],
#[į,ys.length],
#[İ,l.length],
#[Ĳ,X.rd],
#[ĵ,I.kIn],
#[Ķ,iter],
#[ķ,a.length],
#[ĸ,Zt16],
#[Ļ,h.objs.size],
#[Ľ,aZ.size],
#[ľ,x.length],
#[ł,String],
#[Ń,Qe.mp],
#[ń,small],
#[Ņ,T.cl_Row],
#[ņ,M.rows],
#[Ň,b.length],
#[ň,X.base],
#[ŋ,of_decide_eq_true],
#[Ō,wpS_bind],
#[ō,ks.length],
#[ŏ,L.map],
#[Ő,PW.pt],
#[Œ,call],
#[œ,s.toks],
#[Ŕ,z.cps],
#[ŕ,Zt64],
#[Ŗ,s.length],
#[Ř,I.loc],
#[ř,I.tok],
#[Ŝ,c.map],
#[ŝ,sortedS],
#[ş,o.data],
#[š,I.free],
#[ť,T.na_Merge_rows],
#[Ŧ,vs.length],
#[ŧ,HT.sIx],
#[ũ,c.names.lookup],
#[ū,wpS_pure],
#[Ŭ,SortedToK],
#[ŭ,D.at'],
#[ů,M.nd],
#[Ų,free],
#[ų,K.In],
#[Ŵ,X.s₀.heap.objs.size],
#[ŵ,X.stack],
#[Ŷ,I.ok],
#[ŷ,I.bare],
#[ź,j.heap.objs.size],
#[ż,L.length],
#[Ž,bf.never],
#[ž,X.sd],
#[Α,T.cl_Desk],
#[Β,I.len],
#[Γ,cont],
#[Η,SortSt],
#[Ι,Qu.mp],
#[Κ,Zt32],
#[Μ,True],
#[Ν,I.cell],
#[Ξ,rawInt],
#[Φ,ts.length],
#[Χ,wpAny_loadPart_at],
#[δ,S.li],
#[ε,us.length],
#[ζ,X.env.cells.lookup],
#[η,I.freeC],
#[θ,I.pin],
#[ι,value],
#[μ,r.length],
#[ο,kindOf],
#[π,vs.toArray],
#[ρ,dict],
#[ς,z.cps.size],
#[τ,IsPair],
#[υ,excClassObj],
#[ψ,e.ss.length],
#[Àa,D.sep],
#[Àb,Ne.symm],
#[Àc,True.intro],
#[Àe,M.length],
#[Àf,h.elim],
#[Ài,I.src_off],
#[Àk,Txt.split],
#[Àm,ss.length],
#[Àn,Y0.k'],
#[Àq,ae.none],
#[Àr,X.fs],
#[Às,Model],
#[Àu,s.heap.push],
#[Àv,I.laid],
#[Àx,A.units],
#[Ày,a.heap.objs.size],
#[Àz,d.length],
#[ÀA,k.toNat],
#[ÀD,n.toNat],
#[ÀE,d.map],
#[ÀF,P.map],
#[ÀG,y.length],
#[ÀI,bump],
#[ÀJ,many],
#[ÀM,s₀],
#[ÀN,I.os],
#[ÀO,s'.heap],
#[ÀR,j.length],
#[ÀS,ps.length],
#[ÀU,f.toks],
#[ÀX,am.join],
#[ÀZ,M.each],
#[À2,I.ok.kind],
#[À4,c.heap.objs.size],
#[À5,List.lookup],
#[À7,List.range],
#[À8,pendingOf],
#[À9,ts.map],
#[Áb,wpAny_isSubtype_exc],
#[Ád,Txt.join],
#[Áh,h.key],
#[Ák,X.env.kindOf],
#[Áo,I.turned],
#[Áq,PySem.W.keepIn],
#[Ás,cLine],
#[Áv,i.toNat],
#[Áw,z.cps.toList],
#[Áx,ks.map],
#[Áy,Keyed],
#[Áz,κ.kle],
#[ÁA,atKey],
#[ÁF,T.b.n_len],
#[ÁJ,T.na_Desk_merge],
#[ÁL,IsTup],
#[ÁM,slots],
#[ÁO,holding],
#[ÁP,I.ok.hd],
#[ÁS,am.empty],
#[ÁX,names],
#[ÁY,f.length],
#[ÁZ,f.heap.objs.size],
#[Á1,l.map],
#[Á2,h0.get?],
#[Á7,M.few],
#[Âb,D.stay],
#[Âd,g.take],
#[Âe,List.mem_cons],
#[Âf,List.find?_cons],
#[Âg,Sum.inl],
#[Âh,ae.int],
#[Âi,Sum.inr],
#[Âj,ae.str],
#[Âk,X.outer],
#[Âm,I.list],
#[Ân,I.tuple],
#[Âo,assign],
#[Âp,I.kept],
#[Âq,hr.mono],
#[Âr,wpAny_call],
#[Ât,its.toArray.size],
#[Âu,s.heap.update],
#[Âv,if_true],
#[Âw,if_false],
#[Ây,c.names],
#[Âz,X.env.scope.names.lookup],
#[ÂA,compPost],
#[ÂB,IsZip],
#[ÂE,SortKind],
#[ÂH,x.snd],
#[ÂJ,b.map],
#[ÂK,z.elim],
#[ÂU,D.mg.M],
#[ÂW,YT.take],
#[Â0,AllBare],
#[Â2,False.elim],
#[Â7,I.write],
#[Ãc,aN.mapSeq],
#[Ãd,call_meets],
#[Ãe,Zu.refl],
#[Ãh,j.extBut],
#[Ãi,c.objs.size],
#[Ãn,j.map],
#[Ão,a.map],
#[Ãr,r.map],
#[Ãs,decide_eq_true_eq],
#[Ãt,B.get?],
#[Ãv,x.elim],
#[Ãw,i.objs.size],
#[ÃD,T.b.n_range],
#[ÃF,M.same],
#[ÃI,T.na_Merge_best],
#[ÃL,h.num],
#[ÃQ,os.drop],
#[ÃR,fvL.take],
#[ÃS,Wf.nd],
#[ÃT,g.drop],
#[ÃU,Paired],
#[ÃW,fs.length],
#[ÃX,a.names.lookup],
#[ÃY,I.base.free],
#[ÃZ,standAt],
#[Ã1,o.cls],
#[Ã3,g.length],
#[Ã5,pyNext],
#[Ã7,binaryOp],
#[Ã9,getMethod],
#[Äa,fs.lookup],
#[Äe,I.ok.mod.kin],
#[Äf,bindL],
#[Äg,bindC],
#[Äh,ws.length],
#[Äj,aY.free],
#[Äk,Bool.false_eq_true],
#[Äm,f.heap.push],
#[Än,S.raw],
#[Äo,d.objs.size],
#[Äq,d.extBut],
#[Är,List.not_mem_nil],
#[Äs,or_false],
#[Äu,PyProof.Rows.KeyKind],
#[Äw,wpAny_updateSeq],
#[Äx,pairsOf],
#[Äy,of_decide_eq_false],
#[Äz,decide_eq_decide.mpr],
#[ÄA,f.get?],
#[ÄB,kvs.map],
#[ÄD,valueAt],
#[ÄE,L2.St],
#[ÄH,X.mkd],
#[ÄI,f.objs.size],
#[ÄS,Spec.ltCps],
#[ÄU,T.na_Row_all_keys],
#[ÄX,h.len],
#[ÄZ,h.few],
#[Ä3,nm.map],
#[Ä5,T.na_Desk_numbers],
#[Ä8,os.map],
#[Åa,Wu.nd],
#[Åc,PySem.W.instObj],
#[Åd,GenState],
#[Åe,Drawn],
#[Åf,I.base.frzs],
#[Åg,I.base],
#[Åh,e.symm],
#[Åi,aJ.SameBut],
#[Ål,wpAny_execs_nil],
#[Ån,pyIter],
#[Åp,c.toks],
#[Åt,PySem.W.isFn],
#[Åz,codeAny_mono],
#[ÅA,ks.zip],
#[ÅB,envOfC],
#[ÅD,a.toArray],
#[ÅF,ns.map],
#[ÅG,callerA],
#[ÅH,PySem.W.fnOf],
#[ÅI,env.cells],
#[ÅL,G.extBut],
#[ÅN,κ.blt],
#[ÅO,failedOf],
#[ÅP,NonIncK],
#[ÅU,aN.mapFields],
#[ÅX,ws.map],
#[Å9,best'],
#[Æb,T.na_Merge_stays],
#[Æg,j.rows],
#[Æj,D.ok.ndN],
#[Æl,VA.nd],
#[Æo,u.length],
#[Ær,List.lookup_cons],
#[Æs,Sum.inl.inj],
#[Æt,ae.bool],
#[Æv,env.kindOf],
#[Æw,s.gens],
#[Æx,I.ok.noex],
#[Æy,s.heap.FunFrames],
#[Æz,I.base.tups],
#[ÆA,I.hok.fresh],
#[ÆF,nsFind],
#[ÆH,A.under],
#[ÆI,PySem.W.emptyDict],
#[ÆJ,PySem.W.specialIn],
#[ÆL,A.deeper],
#[ÆM,BindsTo],
#[ÆP,bz.atName],
#[ÆQ,callWith],
#[ÆT,S.kind],
#[ÆU,IntsAre],
#[ÆV,s.TypeIs],
#[ÆW,getItem],
#[ÆY,its.length],
#[Æ0,I.fresh],
#[Æ1,hr.units],
#[Æ2,Decidable],
#[Æ4,noteFrame],
#[Æ5,j.heap],
#[Æ6,aR.SmallTypes.nextOf],
#[Æ7,wpAny_rule],
#[Æ8,f.extBut],
#[Æ9,S2.raw_keep],
#[Ça,O.extBut],
#[Çb,h.push],
#[Çf,z.symm],
#[Çg,aQ.layable0],
#[Çi,κ.keyOf],
#[Çk,wpS_forRange],
#[Çn,rs.length],
#[Çq,call_meetsIn],
#[Çr,a.size],
#[Çu,excMatches],
#[Çv,a.dict],
#[ÇA,w.cps.toList],
#[ÇK,kitOne],
#[ÇM,risingS],
#[ÇO,T.na_Row_gone],
#[ÇP,Btr.total],
#[ÇQ,Win.both],
#[ÇR,N.headD],
#[ÇS,N.getLastD],
#[ÇU,h.rows],
#[ÇV,h.stays],
#[ÇX,M.stays],
#[ÇZ,M.ne_sd],
#[Èa,am.ofString],
#[Èd,counts],
#[Èk,rows.length],
#[Èn,fvL.drop],
#[Èp,Yz.take],
#[Èt,List.size_toArray],
#[Èu,Bool.and_eq_true],
#[Èv,beq_eq_false_iff_ne.mpr],
#[Èw,xs.drop],
#[Èx,xs.map],
#[Èy,PySem.Within],
#[Èz,g.trans],
#[ÈA,Un.kept],
#[ÈB,Qao.mp],
#[ÈC,base.Ns],
#[ÈD,X.base.get?],
#[ÈE,X.H₀],
#[ÈF,I.base.keep],
#[ÈG,I.ok.above],
#[ÈH,I.base.slot],
#[ÈI,I.ok.bsz],
#[ÈJ,I.step],
#[ÈK,o.slots],
#[ÈN,its.toList],
#[ÈP,Operator],
#[ÈQ,h.IsListIter],
#[ÈR,T.keep],
#[ÈT,i.natAbs],
#[ÈU,i.length],
#[ÈW,PySem.W.InstAt],
#[ÈX,setAttr],
#[ÈY,Yi.some_of],
#[È2,Nat.le_of_eq],
#[È4,a.toks],
#[È5,Result],
#[È6,ps.zip],
#[È9,Keyword],
#[Éa,P.length],
#[Éb,PySem.W.codeIn],
#[Éd,d.typeIs],
#[Ée,am.length],
#[Éo,d.name],
#[Ép,c.heap],
#[Ér,a.getD],
#[Ét,d.names],
#[Éx,Txt.mul],
#[Éy,List.length_nil],
#[Éz,Src.at_keep],
#[ÉA,wpAny_setField],
#[ÉB,aN.data_mapFields],
#[ÉC,wpAny_attempt],
#[ÉD,h.extBut],
#[ÉE,i.extBut],
#[ÉG,S1.its],
#[ÉH,S2.its],
#[ÉK,B.length],
#[ÉL,X.A.units],
#[ÉN,a.toList],
#[ÉO,ns.take],
#[ÉP,wpS_get],
#[ÉR,updateSeq],
#[ÉS,x.cps.toList],
#[ÉT,wpAny_tryCatch],
#[ÉU,checkBuiltinCall],
#[ÉW,I.tkey],
#[É1,c.heap.push],
#[É5,a.toList.drop],
#[É7,c.get?],
#[É8,c.push],
#[Êa,OsState],
#[Êe,w.params],
#[Êf,PySem.W.kitAny],
#[Êm,lcp_nil'],
#[Êr,Win.both'],
#[Ês,Win.congr],
#[Êu,YM.one],
#[Êy,R.at'.ob],
#[Êz,M1.rows],
#[ÊD,hM.mem],
#[ÊF,T.b.n_min],
#[ÊG,boot_min],
#[ÊK,Mg.stays],
#[ÊO,Qaq.mp],
#[ÊP,nm.length],
#[ÊQ,nm.filter],
#[ÊU,T.b.n_str],
#[ÊV,boot_str],
#[ÊX,List.all_map],
#[Ê1,e.length],
#[Ê5,c.eraseIdx],
#[Ê8,T.xg_BadLine],
#[Ëb,List.length_cons],
#[Ëc,Sum.inr.inj],
#[Ëd,ae.type],
#[Ëe,ZF.append],
#[Ëh,Paired.mapP],
#[Ëj,a.slots],
#[Ëk,QaE.mpr],
#[Ël,X.A.frames],
#[Ëm,s.heap.Ns],
#[Ën,X.env.scope],
#[Ëo,σ.length],
#[Ëp,I.ok.mod],
#[Ës,I.base.tbls],
#[Ët,s.drawn],
#[Ëw,N.Nodup],
#[Ëx,d.trans],
#[Ëy,storeName],
#[ËA,z.sameBut],
#[ËC,I.ok.has],
#[ËH,swapsWith],
#[ËI,pos.line],
#[ËJ,Bool.false_and],
#[ËS,PySem.W.lookIn],
#[ËT,getAttr],
#[ËU,beq_iff_eq.mp],
#[ËY,PySem.W.plainGet],
#[Ë0,A.depth],
#[Ë1,aE.under],
#[Ë2,Code.isFrame],
#[Ë3,Calls.spliced_cons],
#[Ë4,I.ok.frames],
#[Ë5,r.append],
#[Ìb,ws.toArray],
#[Ìc,subscriptTail],
#[Ìd,subscripted],
#[Ìf,typeIs_str],
#[Ìg,Calls.callWith_builtin],
#[Ìj,zs.length],
#[Ìk,l.row.toRowW],
#[Ìn,ForInStep.yield],
#[Ìo,N'.length],
#[Ìp,aY.cell],
#[Ìq,comprehension],
#[Ìr,newList],
#[Ìt,sep.length],
#[Ìu,Src.at_obj],
#[Ìv,wpAny_callSpecial?_slot],
#[Ìx,b.typeIs],
#[Ìy,F.slot_tuple_iterator_next],
#[ÌB,F.slot_zip_next],
#[ÌC,S2.at_keep],
#[ÌD,l.extBut],
#[ÌE,u.extBut],
#[ÌF,S1.value],
#[ÌG,S2.value],
#[ÌL,d.depth],
#[ÌM,aR.List.listItems],
#[ÌN,List.sum_append],
#[ÌO,KeyOrd.kle_trans],
#[ÌR,minRun'],
#[ÌT,vs.toArray.size],
#[ÌV,aJ.size_update],
#[ÌW,y.cps.toList],
#[Ì0,richCompare],
#[Ì1,m.length],
#[Ì2,Qa6.mpr],
#[Ì3,o.isSome],
#[Ì8,I.base.there],
#[Ì9,p.typeIs],
#[Íd,h'.FunFrames],
#[Íe,setFlight],
#[Íg,Nat.not_lt_zero],
#[Íh,wpAny_onRaise],
#[Íi,storeInDict],
#[Ín,PySem.W.subIn],
#[Íp,Qbd.mpr],
#[Íq,Option.bind_some],
#[Ír,PySem.W.notCls],
#[Ít,occurrences],
#[Íu,join_plain_closes],
#[Ív,PySem.W.KeysLit],
#[Íw,a.toList.take],
#[ÍV,T.b.n_int],
#[ÍW,boot_int],
#[ÍZ,ss.getD],
#[Í5,T.b.n_list],
#[Í6,boot_list],
#[Í8,AtT.mono],
#[Í9,Win.sing],
#[Îa,Win.left],
#[Îb,Win.right],
#[Îf,r.at'.ks],
#[Îg,r.at'.fs],
#[Îi,T.na_Merge_likened],
#[Îk,xi.symm],
#[Îl,M1.each],
#[Îp,Nat.min_eq_left],
#[Îr,T.na_Merge_next_number],
#[Îv,Rd.mono],
#[Îy,Function.comp],
#[ÎC,s2.trans],
#[ÎF,a.natAbs],
#[ÎG,T.m_MergeError],
#[ÎI,strLen_append],
#[ÎK,n.natAbs],
#[ÎN,S.nm.map],
#[ÎR,D.nmlen],
#[ÎS,D.mg.M.each],
#[ÎT,D.ok.nd],
#[Î9,T.b.n_isinstance],
#[Ïa,boot_isinstance],
#[Ïd,List.getElem?_eq_getElem],
#[Ïe,Int.toNat_natCast],
#[Ïh,Paired.length],
#[Ïo,builtinsNs],
#[Ïp,env.cells.lookup],
#[Ïq,X.env.scope.kind],
#[Ïr,X.s₀.heap.get?],
#[Ïs,List.filterMap_cons],
#[Ït,I.ok.exfs],
#[ÏA,wpAny_Name],
#[ÏD,wpAny_execs_cons],
#[ÏE,inplaceOp],
#[ÏG,wpAny_pyNext_list_item],
#[ÏH,I.list_inj],
#[ÏI,wpAny_pyNext_list_end],
#[ÏJ,boot_range],
#[ÏL,List.mem_filterMap.mp],
#[ÏM,j.unpinned],
#[ÏQ,j.cps.toList],
#[ÏR,behindInMarks],
#[ÏU,PySem.W.takerIn],
#[ÏW,wpAny_loadPart],
#[ÏX,wpAny_nsSet1],
#[ÏY,wpAny_lookBehind],
#[ÏZ,pastItsLine_dict],
#[Ï0,PySem.W.typeIn],
#[Ï3,PySem.W.hasDictIn],
#[Ï9,plainObj_wpAny_Assign_Attribute],
#[Ðc,Code.frames],
#[Ðd,d.hok.fresh],
#[Ðe,I.stkFree],
#[Ði,cellsFrom],
#[Ðl,typeLookup],
#[Ðm,a.heap.push],
#[Ðn,IsTup.new],
#[Ðo,seqIndex_of],
#[Ðp,seqIndex_neg],
#[Ðq,subscriptTail_builtinR],
#[Ðr,its'.toArray],
#[Ðs,SeqAt.EqAt],
#[Ðt,List.all_cons],
#[Ðu,typeIs_int],
#[Ðv,PlainAttrs],
#[Ðz,List.foldl],
#[ÐB,aR.List.listTooLong],
#[ÐC,Nat.succ_mul],
#[ÐD,Nat.le_of_not_lt],
#[ÐI,c.heap.Ns],
#[ÐJ,c.heap.get?],
#[ÐK,DictEntry],
#[ÐN,closureFor],
#[ÐP,X.env.cells],
#[ÐQ,env.scope.kind],
#[ÐR,beq_self_eq_true],
#[ÐT,I.ok.glob],
#[ÐX,a.cps.size],
#[ÐY,h.IsStrIter],
#[ÐZ,aN.isFreed_of_fields],
#[Ð0,z.cps.all],
#[Ð2,wpAny_updateSeq_pair],
#[Ð3,D.TOi2.symm],
#[Ð4,wpAny_newTuple],
#[Ð5,D.TOz.symm],
#[Ð6,D.i1z.symm],
#[Ð7,isInstance],
#[Ð8,Src.iter_at],
#[Ð9,Src.pyIter],
#[Ñf,Inv.readsAll],
#[Ñk,Nat.lt_trans],
#[Ño,KeyOrd.kle_of_klt],
#[Ñp,KK_mirror_equal],
#[Ñr,wpS_modify],
#[Ñt,sortedAll],
#[Ñu,wpAny_newList],
#[Ñv,size_push'],
#[Ñz,List.zipIdx_cons],
#[ÑA,wpAny_typeOf],
#[ÑB,PyProof.Rows.KeysOf],
#[ÑD,get?_update_seq],
#[ÑE,s.heap.IsList],
#[ÑF,codeAny_call_builtin_at],
#[ÑG,MeetsSeq.plain_remove_loop],
#[ÑH,List.eraseIdxIfInBounds_toArray],
#[ÑI,a.findIdx],
#[ÑK,QaX.lookup],
#[ÑM,List.filter_cons],
#[ÑN,List.length_filter_le],
#[ÑP,PySem.F.slot_dict_pop],
#[ÑS,more.length],
#[ÑV,PySem.F.slot_dict_get],
#[Ñ9,unbindBehindTheSuite],
#[Òa,e.key.isStr],
#[Òd,wpAny_Try_except],
#[Òg,bm.contains],
#[Òh,wpAny_mkText],
#[Òi,codeAny_call_builtin],
#[Òj,wpAny_madeBy_exc],
#[Òk,a.contains],
#[Òn,i.natAbs.log2],
#[Òr,i.heap.get?],
#[Òs,handedOut],
#[Òu,ae.builtin],
#[Òv,PySem.W.findObj],
#[Òw,PySem.W.clsIn],
#[Òx,PySem.W.kitCls],
#[Òz,partsBetween],
#[ÒA,F.slot_str_split],
#[ÒC,F.entry_str_split],
#[ÒF,List.drop_zero],
#[ÒJ,PySem.W.takesIn],
#[ÒK,But.trans],
#[ÒL,z.cps.toList.length],
#[ÒZ,T.na_Row_fars],
#[Ò4,List.any_map],
#[Ò5,List.any_eq_true.mpr],
#[Ò6,List.Pairwise.map],
#[Ób,T.na_Merge_looked],
#[Óh,T.b.n_enumerate],
#[Ók,T.b.n_sum],
#[Ós,List.filter_congr],
#[Óu,Re.at'.ob],
#[Óx,a.natAbs.log2],
#[Óz,T.na_BadLine_line],
#[ÓB,S.P.length],
#[ÓD,X.L.length],
#[ÓG,T.m_OutOfOrder],
#[ÓO,z.cps.toList.all],
#[ÓT,decide_eq_decide],
#[ÓV,I.kd_FORMS],
#[Ó2,Nat.lt_or_ge],
#[Ó4,rows.take],
#[Ó7,Bool.true_and],
#[Ôu,a.kd_BOUNDS],
#[Ôv,List.nodup_append.mpr],
#[Ôw,List.length_map],
#[Ôx,List.all_eq_true],
#[Ôy,Array.length_toList],
#[ÔA,wpAny_eqBool_int],
#[ÔB,SeqAt.EqAt.int_str],
#[ÔC,SeqAt.EqAt.str_int],
#[ÔD,wpAny_eqBool_str],
#[ÔE,PySem.W.methodObj],
#[ÔH,X.s₀.heap.FunFrames],
#[ÔI,aJ.get?_none_of_le],
#[ÔN,wpAny_loadName_local],
#[ÔO,wpAny_loadName_cell],
#[ÔP,Calls.Name_function_global],
#[ÔW,wpAny_assign_Name],
#[ÔX,assignInOrder_nil],
#[ÔY,assignInOrder_cons],
#[Ô1,aR.Range.rangeSize],
#[Õc,DictEntry.refKey],
#[Õg,PySem.W.plainGet_of],
#[Õh,PySem.W.findObj_own],
#[Õi,PySem.W.bind_fn],
#[Õj,PySem.W.handedIn],
#[Õk,PySem.W.plainOver],
#[Õm,aJ.Ns1.of_empty],
#[Õr,Calls.spliced_nil],
#[Õu,PySem.W.callWith_K0],
#[Õv,PySem.W.makesIn],
#[Õz,sc.names.lookup],
#[ÕA,PySem.W.cellsFrom_some],
#[ÕB,List.getElem?_replicate],
#[ÕE,List.of_mem_zip],
#[ÕF,PyProof.Rows.callWith_builtin1],
#[ÕH,noFill_tuple_add],
#[ÕI,PySem.F.slot_tuple_add],
#[ÕJ,PySem.F.entry_tuple_add],
#[ÕM,slot_list_getitem.lookup],
#[ÕO,List.length_set],
#[ÕQ,SeqAt.EqAt.int_int],
#[ÕR,SeqAt.EqAt.str_str],
#[ÕV,PySem.evalArgs_none],
#[ÕY,Calls.evalArgs_plain],
#[ÕZ,List.append_assoc],
#[Õ0,List.foldl_cons],
#[Õ1,F.slot_int_rmul],
#[Õ3,List.forIn_cons],
#[Öa,theTreesLotGoes],
#[Ög,wpAny_newFunctionEnv],
#[Öt,List.mem_iff_getElem.mp],
#[Öv,Int.mul_le_mul_of_nonneg_left],
#[ÖA,F.entry_tuple_iterator_next],
#[ÖD,aN.cls_mapFields],
#[ÖK,F.entry_zip_next],
#[ÖL,F.args_zip_next_1],
#[ÖM,aR.SmallTypes.ownedTupleHandOut],
#[ÖO,wpAny_isInstance],
#[ÖR,wpAny_pyIter_zip],
#[ÖT,wpAny_pyIter_enum],
#[ÖV,its.toArray.extract],
#[ÖX,wpAny_Dict_empty],
#[Ö9,entry_list_sort],
#[Øa,Array.toList_inj.mp],
#[Øc,PyProof.Rows.lt_int],
#[Øe,PyProof.Rows.lt_str],
#[Øf,wpAny_forIn_list],
#[Øi,Array.toList_map],
#[Øj,wpAny_loadPart'],
#[Øk,List.zip_nil_left],
#[Øo,codeAny_builtin],
#[Øp,List.length_eraseIdx_le],
#[Ør,List.findIdx_getElem],
#[Øs,List.find?_append],
#[Øu,wpAny_getItem_heap],
#[Øw,wpAny_setItem_heap],
#[Øy,wpAny_getItem_of],
#[ØA,PySem.F.entry_dict_get],
#[ØF,PySem.F.slot_dict_values],
#[ØG,PySem.F.slot_dict_items],
#[ØI,wpAny_specialOf],
#[ØK,slot_dict_update'],
#[ØM,decide_eq_false_iff_not],
#[ØN,EntryCells.newEntry],
#[Ø0,wpAny_handleBy_cons],
#[Ø1,codeAny_handlers_test],
#[Ø3,List.getElem?_set_ne],
#[Ø8,aJ.get?_push_at],
#[Ø9,PySem.W.check_slot],
#[Ùc,PySem.wpAt_bind],
#[Ùd,PySem.wpAt_of_wpAny],
#[Ùe,codeAny_call_builtin_code],
#[Ùm,wpAny_check_type_call_sub],
#[Ùo,FormattedValue_plain],
#[Ùq,PySem.W.readsIn],
#[Ùr,PySem.W.findCls],
#[Ùy,PySem.W.handedOut_of],
#[Ùz,aR.ObjectAttr.bindTo],
#[ÙG,ne_true_of_eq_false],
#[ÙI,PySem.W.mapOf_K],
#[Ù3,List.range_succ],
#[Ù4,Bool.and_eq_false_iff],
#[Ù8,Nat.lt_trichotomy],
#[Úc,List.cons_lt_cons_iff],
#[Úf,List.find?_cons_of_pos],
#[ÚF,List.mem_reverse.mp],
#[ÚV,PySem.F.type_dict_pop],
#[Ú0,T.xb_MergeError],
#[Ú3,Bool.not_eq_true'],
#[Ú4,List.pairwise_cons.mp],
#[Ûa,List.lookup_cons_self],
#[Ûc,T.t_OutOfOrder_init.cls],
#[ÛH,PySem.intText_digits],
#[ÛQ,List.length_zip],
#[ÛR,List.getElem?_zip_eq_some],
#[ÛY,List.filterMap_append],
#[Üb,List.mem_of_mem_eraseIdx],
#[Üd,List.not_any_eq_all_not],
#[Üf,List.zip_append],
#[Üh,PySem.F.type_dict_update],
#[Üy,Nat.min_eq_right],
#[Üz,List.drop_eq_nil_of_le],
#[ÜJ,aR.SmallTypes.ownedTupleIsFree],
#[ÜM,I.mod.glob.keeps],
#[ÜN,Code.quiet_builtin],
#[Ω,(rfl,rfl,by ac_rfl,by ac_rfl,by ac_rfl,by decide,by ac_rfl,by ac_rfl)],
#[Û,(rfl,rfl,rfl,by ac_rfl,rfl,by ac_rfl,by ac_rfl)],
#[1,a_,(λ_ _ _ _ _ _ us hl=>by obtain _|h:=a_ us hl;subst h;exact rfl)],
#[2,a_,(λ_ _ _ _ _ _ us hl=>by obtain _|_|h:=a_ us hl;subst h;exact rfl)],
#[3,a_,(λ_ _ _ _ _ _ us hl=>by obtain _|_|_|h:=a_ us hl;subst h;exact rfl)],
#[ä,(by ac_rfl)],
#[Á,(by lia)],
#[á,(Or.inl rfl)],
#[Ù,(by simp)],
#[Ë,(by rfl)],
#[Å,(by decide)],
#[Ä,PySem.W.Frag],
#[Đ,(.inl rfl)],
#[9,x_,PySem.wpAny (PySem.model (x_).prog (x_).w) (x_).A],
#[Xns,a_,b_,c_,ô a_ mainGlobals b_=some (some (.ref c_))],
#[Xfi,a_,b_,c_,d_,Į a_ (.ref b_) c_=some (some (.ref d_))],
#[Xlk,z_,a_,b_,c_,d_,e_,f_,g_,h_,i_,j_,k_,l_,m_,(z_).lookup a_=some (b_,c_,.func (ÅH d_ e_ (Wk f_) (XI f_) (Zi f_) .none g_ h_ i_ j_ k_ l_),m_)],
#[Xci,a_,b_,c_,Éb a_ b_ c_=true],
#[Xki,a_,b_,Áq a_ (.ref b_)=true],
#[Xif,a_,b_,Åt a_ (.ref b_)=true],
#[Zc,a_,b_,@Zc _ _ _ _ _ a_ b_],
#[Zq,a_,b_,c_,d_,@Zq _ _ a_ _ _ _ _ b_ rfl c_ d_ (by rfl) (by trivial)],
#[ZB,a_,b_,c_,@ZB _ _ _ _ _ _ _ _ a_ b_ c_],
#[Ú,@Zk _ _ _ _],
#[Zh,a_,@Zh _ _ _ a_],
#[Zl,a_,@Zl _ _ _ _ a_],
#[Yb,a_,b_,c_,@Yb _ _ _ _ _ _ _ _ a_ b_ c_],
#[Zn,a_,b_,c_,d_,@Zn _ _ _ _ _ _ _ _ a_ b_ c_ d_],
#[Zo,a_,b_,c_,d_,e_,@Zo _ _ _ _ _ _ _ _ _ a_ b_ c_ d_ e_ (by decide) (by decide) (by rfl) (by rfl)],
#[Za,a_,b_,@Za _ _ _ _ _ a_ b_ (by rfl)],
#[Ès,@Zd _],
#[Zd,a0_,#[Za,a0_,Ès]],
#[Zd,a0_,a1_,#[Za,a0_,#[Za,a1_,Ès]]],
#[Zd,a0_,a1_,a2_,#[Za,a0_,#[Za,a1_,#[Za,a2_,Ès]]]],
#[Zd,a0_,a1_,a2_,a3_,#[Za,a0_,#[Za,a1_,#[Za,a2_,#[Za,a3_,Ès]]]]],
#[Zd,a0_,a1_,a2_,a3_,a4_,#[Za,a0_,#[Za,a1_,#[Za,a2_,#[Za,a3_,#[Za,a4_,Ès]]]]]],
#[ZA,a_,b_,c_,@ZA _ _ _ _ _ _ _ a_ b_ c_ (λ_ _=>rfl)],
#[Z2,a_,@Z2 _ _ _ _ a_],
#[Xx,a_,b_,c_,d_,@Xx _ _ _ _ _ _ _ _ _ a_ (by rfl) b_ c_ d_ (by decide) (by decide) (by rfl) (by rfl)],
#[WA,a_,b_,c_,d_,@WA _ _ _ _ _ _ _ _ a_ b_ c_ d_],
#[Yy,a_,b_,@Yy _ _ _ _ _ _ a_ b_ (by rfl) (by rfl) (by rfl)],
#[WK,a_,b_,c_,@WK _ _ _ _ _ _ _ a_ b_ c_ (by intro _;rfl)],
#[ZN,a_,b_,c_,@ZN _ _ _ _ _ _ _ _ a_ b_ c_],
#[ï,@Zv _],
#[ZG,a_,b_,c_,d_,@ZG _ _ _ _ _ _ _ _ _ _ _ a_ b_ c_ (by trivial) d_ (by decide) (by rfl) (by rfl)],
#[W5,a_,b_,@W5 _ _ _ _ _ _ _ a_ b_],
#[WU,a_,@WU _ _ _ _ a_],
#[XN,a_,b_,c_,d_,@XN _ _ _ _ _ _ _ _ a_ rfl b_ c_ d_ (by intro _;rfl)],
#[iE,a_,b_,c_,@iE _ a_ _ _ _ _ _ _ _ b_ c_ (by rfl) (by rfl) (by rfl)],
#[gT,a_,b_,c_,@gT _ a_ _ _ _ b_ _ c_ (by rfl) (by rfl) (by rfl) (by rfl)],
#[Zp,a_,b_,@Zp _ _ _ _ _ a_ b_ (by rfl)],
#[Zw,a_,b_,c_,@Zw _ _ a_ _ b_ rfl c_ (by trivial)],
#[Èh,@Z0 _],
#[ZO,a_,@ZO _ _ _ _ a_ (by rfl)],
#[YF,a_,b_,c_,d_,e_,f_,g_,@YF a_ _ _ _ _ _ _ _ _ _ _ _ _ b_ c_ d_ e_ f_ g_ (by rfl) (by rfl) (by rfl) (by rfl) (by rfl) (by rfl)],
#[WJ,a_,b_,@WJ _ _ _ _ _ _ a_ b_],
#[ZS,a_,@ZS _ _ _ _ _ a_],
#[UQ,a_,b_,@UQ _ _ _ _ _ _ _ rfl a_ b_ (by rfl) (by rfl)],
#[Ł,@ZL _ _ _],
#[Wz,a_,b_,c_,d_,@Wz _ _ _ _ _ _ _ _ _ _ a_ b_ c_ d_],
#[ZH,a_,@ZH _ _ _ _ _ a_ (by rfl)],
#[Ym,a_,b_,c_,d_,@Ym _ _ _ _ _ _ _ _ _ _ _ _ a_ b_ c_ d_ (by trivial) (by rfl)],
#[XJ,a_,b_,@XJ _ _ _ _ _ _ _ _ a_ b_ (by rfl)],
#[Æh,@ZU _ _],
#[Vl,a_,b_,c_,@Vl _ _ _ _ _ _ _ _ _ _ a_ b_ c_],
#[Xb,a_,b_,@Xb _ _ _ _ _ _ _ a_ b_],
#[Xc,a_,@Xc _ _ _ _ a_],
#[Xm,a_,b_,c_,d_,e_,@Xm _ _ _ _ _ _ _ _ _ _ _ _ _ _ _ a_ b_ c_ d_ e_ (by trivial) (by rfl) (by rfl) (by rfl)],
#[TV,a_,b_,c_,@TV _ _ _ _ _ _ _ _ _ _ _ _ a_ b_ c_ (by trivial) (by rfl) (by decide) (by rfl) (by rfl)],
#[W0,a_,b_,c_,d_,e_,@W0 _ _ _ _ _ _ _ _ _ _ _ _ _ _ a_ rfl rfl rfl b_ c_ d_ e_ (by intro _;rfl)],
#[cg,a_,b_,@cg _ _ _ _ _ _ _ _ _ _ _ a_ b_ rfl (by ac_rfl) (by rfl)],
#[cw,a_,b_,@cw _ _ _ _ _ _ _ _ _ _ _ a_ b_ rfl (by ac_rfl) (by rfl) (by decide) (by decide)],
#[iL,a_,b_,@iL _ a_ _ _ _ b_ (by rfl)],
#[VE,a_,@VE _ _ _ _ a_ (by rfl) (by decide)],
#[Xd,a_,@Xd _ _ _ a_ (by intro _;rfl)],
#[VC,a_,@VC _ _ _ _ _ _ a_],
#[XT,a_,b_,@XT _ _ _ _ _ a_ b_],
#[Ý,@Zj _ _ _ _],
#[SE,a_,b_,c_,d_,@SE _ _ _ _ _ _ _ _ _ _ _ _ _ _ _ a_ b_ c_ d_ (by decide) (by trivial) (by rfl) (by decide) (by rfl) (by rfl)],
#[Uv,a_,b_,c_,d_,e_,f_,@Uv _ _ _ _ _ _ _ _ _ _ _ _ _ _ _ _ a_ b_ c_ d_ e_ f_ (by trivial) (by rfl) (by rfl) (by rfl)],
#[Uw,a_,b_,c_,d_,@Uw _ _ _ _ _ _ _ _ _ _ _ _ a_ b_ c_ d_ (by trivial) (by rfl) (by decide) (by rfl) (by rfl)],
#[Wv,a_,b_,@Wv a_ _ _ _ _ _ b_ (by rfl) (by rfl)],
#[cv,a_,b_,@cv _ _ _ _ _ _ _ _ _ _ _ a_ b_ rfl (by ac_rfl) (by rfl) (by decide) (by decide)],
#[Vi,a_,b_,@Vi _ _ _ _ a_ b_ (by rfl) (by decide) (by decide)],
#[ÜK,@WL _ _ _ _],
#[Wi,a_,@Wi _ _ _ _ a_ (by rfl) (by decide)],
#[pv,a_,b_,@pv _ a_ _ _ (by rfl) b_ (by decide) (by decide)],
#[Vj,a_,b_,c_,d_,e_,f_,g_,@Vj _ _ _ _ _ a_ _ _ _ _ _ _ _ _ _ _ _ _ b_ rfl (Or.inl rfl) c_ rfl rfl rfl d_ e_ f_ g_ (by rfl) (by intro _;rfl) (by trivial)],
#[XF,a_,b_,c_,@XF _ _ _ _ _ _ _ _ _ a_ b_ c_],
#[Vn,a_,b_,@Vn _ _ _ _ _ _ rfl a_ b_ (by rfl)],
#[Ø,ZM K mg ax ao aB ar aH aD ap au],
#[ÇY,(Zx "likened" (.int 0) (Zx "next_number" (.int (İ:Int)) (Zx "rows" (.ref c) [])))],
#[g,((Àu (seqObj "list" #[] 0)).update Ò (Ãc λx=>x++π))],
#[Ĺ,["desk", "singles", "further"]],
#[Ρ,aG (e::es) Ì=(false,Ċ e Ì,)::aG es Ì],
#[Ð,(ay è w)],
#[â,Inv X aj σ H s],
#[Ĵ,(x == ("__debug__" : am))=false],
#[ÅW,à C=aa (υ nm q C N bs (.ref B::YE) cy sn sub ab bR dd k0 k1 k2 k3 k5 "ValueError.__new__")],
#[Ào,Xt _ _ _ _ _ _ ä ä ä ä ä ä],
#[ÜL,(λaP f A Ü s H vs Q E hr h=>?_)],
#[Äl,(Y5 ÐP Ây [])],
#[Ç9,(by nofun)],
#[ā,(_,rfl)],
#[ÀH,(lcp (cds x) (cds y):Nat)],
#[Á3,#[.ref T,.none,.none,.none,.bool false,.none]],
#[Ģ,#[ZH,‹0›]],
#[Ź,(Ò+1)],
#[Ãz,(.builtin "object.__class__")],
#[ñ,ae->ak->Prop],
#[Àd,(by with_unfolding_all rfl)],
#[ËG,(ok.mod,ok.kind,ok.glob,ok.blt,ok.above,ok.inj,ok.has,ok.cab,ok.hd,ok.frames,ok.stk,ok.exf,ok.bs,ok.bsz,ok.noex,ok.exfs,ok.funs,ok.frf)],
#[ġ,ē (Ã ae)],
#[Ê6,#[Za,Ý,#[Za,Ý,#[Za,Ý,#[Zd,Ý,Ý,Ý,Ý,Ý]]]]],
#[Àl,["desk", "singles", "keys"]],
#[Át,(bj pos (aG es Ì)).any (·.1)=false],
#[Ť,(by show 2<=aq;decide)],
#[Ô,À Int],
#[ÉJ,(YH X c N' C s H fp)],
#[I,by rw[Æ e]at h;cases h],
#[Ą,am->Ã ae],
#[ÂP,#[Zo,(Y2 K),Ë,ÁF,Qn,#[Zd,‹0›]]],
#[Ĝ,(ay ü X.w)],
#[Ój,(upd (upd (upd Y B (.dT [])) m (.ins ao g (Zx "stays" (.ref B) (Zx "looked" (.int 0) ÇY)))) m (.ins ao g (Zx "best" .non (Zx "stays" (.ref B) (Zx "looked" (.int 0) ÇY)))))],
#[Àj,(.type "BaseException")],
#[Τ,(ÅF ß)],
#[Ï,À am],
#[Q,(((Âu a (Ãc λ_=>#[])).push { cls:=.type "tuple",Ó:=.seq vs.toArray.toList.toArray }).push { cls:=.type "list",Ó:=.seq ([]:À ae).toArray })],
#[ÀC,(.ref ÁZ)],
#[ÁH,#[ZA,(ixL K),‹1›,Ú]],
#[Ãb,∀vs H Q E,sp vs H Q E->Ŧ=ÀS],
#[Ě,(ę st)],
#[ĕ,À (af×aN)],
#[W,by rw[È e]at h],
#[À0,(_,_,rfl,rfl)],
#[Ê9,(ÃT k++[Wo u (Y4 (Âd k)) ((Ö:Nat):Int)])],
#[Æq,(by show 2<=100;decide)],
#[ã,(.ref C)],
#[11,by refine(λi m ys a H=>m=Ă-i/\i<=Ă/\Pv i ys a H,(Ă,by simp,Qp _,h0),?_);rintro i m ys a H ⟨rfl,hi,p⟩;have q:=hl i ys a H p],
#[Àw,(λz=>nomatch z)],
#[ÈZ,(aa (.builtin "object.__setattr__"))],
#[Ĉ,(.ref f)],
#[Ä1,#[Zo,(Y2 K),Ë,ÁF,Qn,#[Zd,‹3›]]],
#[16,by have L:Inv X A B H { s with Õ:=f,õ:=œ+1 }:=Áo (t':=œ+1) (λb o a e=>(J.2 b a).trans e) n p q u x;obtain o|e|c|d:=id D;exact(_,rfl,T6 (s:={ s with Õ:=f,õ:=œ+1 }) e c d Å (.str ⟨#[Ŕ[i]]⟩,H,L,ā,(rfl,_,C,rfl),D,λb a=>(g b a).1))],
#[γ,(λ_ _ _ _=>(@XH _))],
#[18,(mgF rd nb li lo sd a)],
#[Ż,À (À Key×V)],
#[20,by have e1:=Qv (wa.one B);have e2:=Qv (wb.one u);subst e1;subst e2;have e3:=Qv (vd.symm.trans G);have e4:=Qv (ve.symm.trans D);subst e3;subst e4],
#[Ïu,∀b∈ch,(b∈X.ex\/Ŵ<=b)/\b≠ğ/\(∀x c,ζ x=aa c->c≠b)/\∀p∈X.pn++aj,p.1≠b],
#[Ác,(by intro z;cases z)],
#[ÄR,#[Zo,Wy,Ë,ÁF,Qn,#[Zd,‹0›]]],
#[ÄG,((env::Ü).filterMap (·.frame))],
#[ÇT,(mgF rd nb li lo sd aI)],
#[Åv,YN ü X.w X.K ė ň CX k f fd ps sp],
#[ö,["self"]],
#[Æe,#[Zo,(Y2 K),Ë,ÁF,Qn,#[Zd,‹2›]]],
#[Çt,ŵ=Ì::Âk/\X.env.frame=aa ğ],
#[ú,Ã af],
#[ÁK,(Ĭ:Int)],
#[Ο,(rfl,rfl)],
#[ÎH,∀ {x y:am} {n m:Nat},ľ<=n->ÀG<=m->n+m<=10000->(x++y).length<=n+m],
#[ÆC,X.fn x=true\/Âz x=aa .local],
#[Í7,(upd (upd H k (.lst (ÀE Ç))) p (.ins ax c (Zx "all_keys" (.ref k) [])))],
#[Æp,(.cons ā .nil)],
#[Ψ,(".0",.«local»,)],
#[Î2,(_,rfl,rfl,_,rfl,Z5 (λd=>Î (ŋ d) ä) (λ_=>?_))],
#[ÇG,["_law_word", "_law_signs", "_law_most"]],
#[Ü2,(show false=true from c)],
#[ÂN,["desk", "singles", "sizes"]],
#[Á6,(by show 3<=aq;decide)],
#[Áe,(by show 0<=aq;decide)],
#[ÄY,ZQ cR cM H m rd sd L s nb li lo aI],
#[Äd,(.Call (.Name x p) (e::es) [] pos)],
#[Èq,(.tup ((Kb 1 2 (m-1)).map kV))],
#[ÍQ,["sizes", "ways", "there", "trees", "cost", "many", "together", "size"]],
#[ÀK,(ë:Int)],
#[Ío,(.builtin "getset_descriptor.__get__")],
#[50,by rintro i c d _ _ ⟨rfl,rfl⟩;show wpS _ _ _ _ (get >>= _) _ _;refine Ō (ÉP ?_);show wpS _ _ _ _ (if (À8 d).size<=1 then _ else _) _ _;rw[Æ r];exact ū (ū (q _ g j k))],
#[ÄK,(.builtin "ValueError.__init__")],
#[52,by subst e;obtain o|e|c|d:=st;exact(o,e,λv z=>by rw[d]at z;cases z)],
#[χ,(h,g,d,t,os)],
#[ÇW,Mf P w K mg Â 2 ax "head" ö (U3 ax)],
#[ÆO,(.Call (.Attribute o m bz) (e::es) [] pos)],
#[ŗ,.type "list"],
#[ÃB,(û z)],
#[ÄM,["one", "other", "far"]],
#[Áa,(ZJ ü X.w)],
#[ÂR,((lcp (cds i) z:Nat):Int)],
#[Èo,#[ZB,V1,Ý,#[ZB,VI,Ý,Ú]]],
#[Ó9,[((.inr "many" : Key),ø c,),(.inr "room",.ref e,),(.inr "ways",.ref g,),(.inr "size",.ref i,)]],
#[ÇH,["_law_word", "_law_least", "_law_most"]],
#[64,by simp only[Âe,Är,Äs]at d],
#[Ùw,(aa (.builtin "BaseException.__getattribute__"))],
#[ſ,À (am×Int)],
#[Ái,DOk cR cM H X nd nm],
#[É2,(upd B ÁZ (.dK []))],
#[ţ,(ZX I q Ù)],
#[Æn,(.tup ((Kb 0 1 1).map kV))],
#[ÁG,#[Zd,‹1›]],
#[ÒG,["row", "first", "others", "single_kinds", "further_kind", "many", "singles", "further"]],
#[ÁC,(.type "ValueError")],
#[74,by obtain _|q1|q2|q3|q4|_:=f3 b k;have z1:=I4.ok.exf b (by rw[<- w];exact k);refine(hn b k,z1.1,I4.ok.exfs b (by rw[<- w];exact k),.inl (by rw[<- w];exact k),z1.2,λp hp=>?_)],
#[Õq,(.builtin "type.__call__" (.ref C::us,kw))],
#[76,by refine ai ?_;simp only[Ñz,List.zipIdx_nil,Õ3,List.forIn_nil];refine ai (ai (Íh ?_));show av _ _ (Æ6 (.ref i1) >>= _) _ _ _],
#[ÂD,À (À Key×af×ae)],
#[Îm,Df P w K mg Â 5 "refuse_break" ["number", "keys"] (To K)],
#[Îq,(Zx "rows" (.ref c) [])],
#[80,by exact .inr (_,_, "",Æ rfl,by ac_rfl,by ac_rfl,by ac_rfl)],
#[Ãk,ÑB κ aZ],
#[82,by rw[I];refine(by decide,?_,.inl rfl)],
#[83,by show av _ _ (ÜJ (.ref z) >>= _) _ _ _;unfold ÜJ;refine ai (ai (bg hz rfl (x:=.none) rfl (aw ?_)));simp only[Âv]],
#[Ç3,((lcp (cds i) (cds l):Nat):Int)],
#[Ê2,#[Zo,(Y2 K),Ë,ÁF,Qn,#[Zd,‹4›]]],
#[Èm,(upd p D (.lst (ZV (Ê5 i))))],
#[ÁI,(λ_ _ h=>h.unwish)],
#[ÂV,Wd K w mg bi aU ç],
#[89,by have f:=I.type (M:=ay è w);have i:=PySem.W.looks_find (M:=ay è w) X I hf;unfold aR.«object.__getattribute__»;refine ai (aw (ai (aw (ai (f.at (ai (i.at ?_)))))))],
#[90,(Àu { cls:=.type "range",Ó:=.fields #[.int lo t,.int a u,.int 1 v] })],
#[ÁT,(ÆA (Qd _))],
#[Èb,#[Zc,Æh,#[Zc,Æh,#[Zh,Æh]]]],
#[93,by show av _ _ (if (å t == Àq)=true then _ else _) _ _ s;rw[È (show ¬ ((å t == Àq)=true) from Qt)];show av _ _ (field (.ref it) 1 >>= _) _ _ s],
#[ÊA,(((kvM L).length:Nat):Int)],
#[Þ,À ae],
#[Éw,(upd G ÁZ (.lst []))],
#[97,(bL c Äl Ò Ì)],
#[ÊJ,[.inl (ZY M).1,.inl (ZY M).2]],
#[ÁE,["sizes", "ways"]],
#[ξ,PA X (e::es) t],
#[Θ,À (Key×V)],
#[ÂQ,(ss.map Ç)],
#[Æm,(.lst (rows.map Ç))],
#[Èe,(ÊQ λe=>decide (e.1≠s))],
#[Ég,(by simp only[Èt]<;>lia)],
#[Ôt,(Or.inr á)],
#[Ãu,(A.mark (aa (.ref e)))],
#[Ũ,⟨#[c]⟩],
#[ÂF,Äu],
#[În,Mf P w K mg Â 13 ao "play_all" ö (Th ax ao)],
#[Ì7,(ÆL (ÅB c (Zi st) Ò f a))],
#[an,by rw[show Zx f v ((k,x,)::r)=(if k=f then (k,v,)::r else (k,x,)::Zx f v r) from rfl]],
#[ÜR,(À9 λt=>å t.1)],
#[ÓA,(_,rfl,rfl,_,rfl,Z5 (λd=>nomatch (ŋ d)) (λ_=>?_))],
#[ÂL,["one", "other"]],
#[ÎW,Df P w K mg Â 1 "with_blanks" ["words"] (Tb K)],
#[ÌS,(setPending b ((À8 b).push (0,Ľ,0,)))],
#[Éj,(bj br (aG es Ì)).any (·.1)=false],
#[Å2,#[ZA,(ixL K),‹0›,Ú]],
#[ax,by subst p;refine Ō ?_;rw[moveDown'_eq];refine Ñr (ū ?_);exact(rfl,b.set (bubble_perm _ _ _),KO (by rw[b.size];lia) o d f g)],
#[ÀY,ŋ d],
#[az,by have f1:=tc_lookup;have f2:=tc_bind ã;have hT:(χ:ak).TypeIs ã "type":=(_,a,rfl);refine Âr (codeAny_of_tree ?_);show av _ _ (callAny ã _) _ _ _],
#[Úw,(upd (upd (upd t m (.ins ao g (Zx "next_number" (.int (İ:Int)) Îq))) m (.ins ao g ÇY)) m (.ins ao g (Zx "looked" (.int 0) ÇY)))],
#[ÍA,["_law_left_here", "_law_many"]],
#[Èr,(∀v∈ns,0<=v/\v<=1000000000)],
#[Ãx,(Ļ+1)],
#[Ãq,(.frz o (.dK kvs))],
#[Ür,(d,b,e,Kb 0 1 1,_,rfl,rfl,j _ _ hd,x,Y,Z,_,_,_,rfl,rfl,þ (j _ _ u0),rfl,_,rfl,_,rfl,_,rfl,_,rfl,_,_,rfl,rfl,Á6,λa I=>?_)],
#[ÓS,(_,rfl,z,rfl,ń Á,_,_,rfl,rfl,_,rfl,Z5 (λa=>?_) (λa=>?_))],
#[ÃE,Ã (af×Int×Int)],
#[ÂG,(by lia,by lia)],
#[ÅZ,(YV (YZ ZK))],
#[ŉ,(aa Ĉ)],
#[ÙH,(Òz z (Ít z y 0 Ć (Ć+1)) ÀG)],
#[ÜT,(Çb { cls:=.type "dict",Ó:=.dict #[] })],
#[ą,(.ref a)],
#[Ó1,(p,_,rfl,þ Zb,rfl,_,_,rfl,_,_,rfl,rfl,_,rfl,rfl,_,rfl,?_)],
#[Ï7,ËH ι (aa (.Attribute o f cZ)) ËI Ì=pure false],
#[Óv,(upd (upd H c (.lst ((i++j).map Ç))) p (.ins ax d (YQ c f g)))],
#[Úk,(.tup [.int (ZW (cds x) (cds y)),.int ÀH,.int (ÀH-(u:Int)+1)])],
#[aS,by show av _ _ (ÁO [.ref #[g].objs.size] (Œ (.builtin "list.sort") [.ref #[g].objs.size]) >>= λ_=>ret (.ref #[g].objs.size)) _ _ _],
#[Àh,Ën=o],
#[Áj,(Âd k)],
#[Ôp,(decide (ō<=5)&&ks.all λz=>azB z&&decide (Ć<=40))],
#[ÃO,(YC X.L e.n ks k' a)],
#[ÊB,(.lst ((ZC L).map ß))],
#[Á8,(.inr (.inl z))],
#[aZ,by subst m hw n;obtain q|t|R|x|y|A:=j it Ù;obtain B|C:=p;obtain D|a|F:=I.dictF B hd;have l:Ă=D.length:=ķ],
#[a0,by show wpS _ _ _ _ (forIn [:(Ě).size] (ah,(),) _ >>= _) _ _;refine Ō ?_;refine Çk (λi c d=>c=(ah,(),)/\d=a) ?_ ?_ Ο],
#[a1,by obtain nm|q|N|bs|cy|sn|sub|ab|bR|dq|k0|k1|k2|k3|k5|bI|lC:=hC;obtain eV|q'|N'|D1|u4|D6|yq|D7|yr|dq'|D8|sw|D9|D'|Ea|sx|Ec:=Eb],
#[ÂO,(Ć:Int)],
#[ÑU,(if ([]:À È9).isEmpty then 0 else 1)],
#[Ûw,#[Zh,#[ZN,(@Ő _ _ _ #[Xb,#[Zn,Rj,‹1›,Ý,(Zs _)],#[Xc,#[Zn,KS,‹1›,Ý,(Zs _)]]]),#[Zh,#[Zl,ÜK]],ï]]],
#[Êk,["groves", "begin", "end", "most"]],
#[β,(λd=>?_)],
#[ī,(.ref au)],
#[ÀB,(.lst [])],
#[a9,by simp only[Çg,aQ.canLay0,aQ.depth,Èu,Ãs];refine((trivial,rfl),?_);simp only[aQ.weight]],
#[ba,by show av _ _ (field (.ref z) 2 >>= _) _ _ _;refine ai (bg hz rfl (x:=.bool false) rfl ?_);show av _ _ (field (.ref z) 3 >>= _) _ _ _],
#[bb,by rintro r s6 ⟨u,hr,h6⟩;subst hr;refine thn h6 ?_;rintro _ s7 ⟨x,H7,I7,r7,y7,uQ,Dw⟩;have Dx:=I7.pinned (ja Dw) (T.obj _ _ uQ)],
#[ÆS,(backToKw pos (bV [] Ì))],
#[Ôs,(.cons rfl (.cons rfl .nil))],
#[Åq,(_,Qs _ rfl,rfl,rfl)],
#[bf,by exact(_,_,c,d,f)],
#[ÍO,["groves", "sizes", "ways", "begin", "end"]],
#[ÍN,["groves", "alone", "begin", "end", "most"]],
#[Ÿ,X.calm=true],
#[Í4,Mf P w K mg Â 1 ax "to_go" ö (Tp ax)],
#[ØL,(a++Ġ k ah)],
#[ÙX,(_,rfl,_,_,rfl,rfl,.inr (Ji _),_,rfl,_,rfl,_,_,rfl,rfl,.inl (by decide,by decide),_,_,rfl,rfl,Á6,λp b=>?_)],
#[bm,by refine(_,rfl,rfl,_,rfl,XS Àw ?_)],
#[ÜU,(Âu T (ÅU (·.setIfInBounds 3 Àq)))],
#[ÉX,(ÑI λu=>decide (u.2=t.2))],
#[Æi,(YO X.L e.n)],
#[ı,(.ref ap)],
#[Ä2,(.lst (Áx Ç))],
#[ÃA,#[Zh,#[Zl,‹2›]]],
#[Ôd,(["key"],by decide,by rfl,by ac_rfl,by ac_rfl,by ac_rfl)],
#[ÆE,∀x,cb Ķ Ì x=pure x],
#[Áp,Î Ü2 Qt],
#[ÂM,["self", "keys"]],
#[Ùa,(i.update e λo=>{ o with ρ:=aa Ãw }).get? e=aa { cls:=.ref C,ρ:=aa Ãw,Ó:=.fields Á3 }],
#[Ëz,(QG (QB (Ql e) ÈG))],
#[ÛS,(Ä8 Ç)],
#[Ôr,(by show 1<=100;decide)],
#[bC,(É5 1)],
#[År,(.ref Ò)],
#[Ę,(.ref e)],
#[É9,((X.pn++aj).map (·.1))],
#[ÓU,#[YF,K,QZ,Qav,Qaw,TM,‹0›,#[Zd,Ý]]],
#[bH,by subst j hw l;obtain n|p|G|q|u|x:=g it Ù],
#[bI,by refine wpAny_comprehension_free (use:=use) rfl hs uO ÆT S.loc (thn (hi V s σ H _ I h) λv s1 h1=>thn h1 λAA f h2=>?_)],
#[Ñb,∀ {b:af} {o:aN},í b=aa o->Ò≠b],
#[ÏK,aG [a,b] Ì=[(false,Ċ a Ì,),(false,Ċ b Ì,)]],
#[Üm,(.lst ((Ġ (Ĭ-ë) k).map Ç))],
#[ÎJ,∀ {x:am},ľ<=10000->ľ<=aq],
#[Öq,∀ {uR:St} {U:Hp} {Z:ak},Inv Y ([]++UP fp s7.heap) uR U Z->Inv Y [] uR U Z/\tn (i+1) Z.heap/\∀b∈fp,U b=ah],
#[ω,(dsO X nm)],
#[ÛJ,(_,rfl,_,_,rfl,rfl,_,rfl,Z5 (λi=>(_,rfl,t (ŋ g,ŋ i))) (λi=>?_))],
#[ÍG,["self", "one", "other", "far"]],
#[ÁD,["self", "n"]],
#[bS,(ÃQ ë)],
#[ÃK,(hdM (ÀI L e.n))],
#[ÅQ,(by show 0<=_;lia)],
#[Ŀ,(.ref aH)],
#[ŀ,(.ref aD)],
#[ÀQ,(.Name x pos)],
#[Áf,#[Zd,‹3›]],
#[ØP,∀h',Xl B ÄG h'->Íd Â (env::Ü)->Yq NB h' e cls dd (Ξ L)->Q () { s with Õ:=h' }],
#[Êg,["one", "other", "at"]],
#[Æk,(by show 1<=aq;decide)],
#[ÒR,((À7 i).map λj=>.int (WO c j))],
#[ÔM,(λb o e n t hx=>?_,λb o e n t hx=>?_,ÃY,λb o e hx=>?_,Æz,Åf,Ës)],
#[b4,by rw[È Qt];obtain b1|b2|b3:=tL I9;obtain m'|iu|w9:=xZ _ _ _ q9;exact(m',iu,i+1,ys,lO,U,b1,b2,b3,w9)],
#[ÓI,Df P w K mg Â 2 "written_numbers" ["numbers"] (RE K)],
#[ć,(cds x)],
#[Ç0,(by rw[Qa];exact ZD Á)],
#[Ç2,((lcp (cds l) z:Nat):Int)],
#[Òl,#[.ref Ļ,.none,.none,.none,.bool false,.none]],
#[Ál,Unit->ak->Prop],
#[Íl,(∀b o,à b=aa o->ĉ b=aa o)],
#[Äv,Wj è w A s k0 κ],
#[Òq,(.Raise (aa (.Call (.Name x p) (e::es) [] br)) ah pos)],
#[Ðx,typeOf (.builtin id)=pure (.type "method_descriptor")],
#[ù,À Zz],
#[ű,(.tup xs)],
#[Ë6,(.Call (.Attribute o m bz) [] [] pos)],
#[Óf,#[Zo,SH,Ë,ÁF,Qn,#[Zd,Ģ]]],
#[Ün,#[Zh,#[Zl,#[ZA,(ixL K),‹1›,#[ZG,dI,hr,#[Zd,‹0›,#[Zo,(Y2 K),Ë,ÁF,Qn,ÁG]],Ë]]]]],
#[ÂS,#[Zd,‹0›]],
#[Ç7,λe:Zz=>(e.n,(ì,e.g,),)],
#[cn,by rw[I];refine(by decide,?_,.inr Đ)],
#[co,by show (c+k-c).natAbs<=_/\(lo+q-lo).natAbs<=_],
#[ÇC,["self", "row", "place"]],
#[Çs,A.frames=aa (env::Ü)],
#[Üu,(û (show ß ((e:Int)-(b:Int))=ß 1 from by rw[show ((e:Int)-(b:Int))=1 by lia]))],
#[cs,(Xp CX0 P w K mg Â N c (Zi st) f a A Ü s H E)],
#[Ëi,∀b u,à b=aa u->ĉ b=aa u],
#[cu,by intro aj s σ H xs us Q I r h],
#[Ôl,(.tup ((Kb j (j+1+i) (1+l)).map kV))],
#[É3,Nat->À V->ÄE->Hp->Prop],
#[Óc,Df P w K mg Â 1 "halves" ["numbers"] (RW K true)],
#[Ñw,(seqObj "list" π 0)],
#[ÜD,(.tup [.int (Y4 Áj),.int ((Ö:Nat):Int)])],
#[Êq,((∀s∈ss,Ŗ<=1000))],
#[ÊT,#[Zh,#[Zl,(WG T.g_REFUSED)]]],
#[ÀW,À (κ×V)],
#[ÔL,(Ïq == .class||(Ïq == .module&&ğ != X.env.globals))=false],
#[Ät,(.tup (Áx kV))],
#[Àg,Z1 N N' o c],
#[Ða,ÆJ K Ãz "__get__" = aa (aa Ío)],
#[Δ,Ã Int],
#[Ð1,(∃o,ĉ e=aa o/\Ã1=.type "StopIteration")],
#[ËE,(x == ("__classdict__" : am))=false],
#[Ùs,(υ nm q C N bs (.ref B::YE) true sn sub ab bR dd k0 k1 k2 k3 k5 "ValueError.__new__")],
#[ÅJ,(Ìo-ĩ)],
#[Çz,(.type "type")],
#[Ör,(I9.unpinned,ÈR _ _ _ uQ λb k A e=>(I9.pin (b,A,) (QD _ (QD _ (UO k e)))).1,λb k=>?_)],
#[cQ,by intro aj s σ H x y v u Q I a b h],
#[ÄO,["numbers", "n"]],
#[Ük,(upd (upd (upd H2 M (.dK [])) M (.dK (YU ((Èn 6).take 4)))) p (.dK (YU (ÃR 10))))],
#[È0,(by rw[e];exact Àc)],
#[Å8,(.dK (kvM L))],
#[Ôn,((X1 0 İ).map ß)],
#[ÊI,#[ZA,(ixT K),‹3›,Ú]],
#[ÊH,#[ZA,(ixT K),‹2›,Ú]],
#[Ü6,(bL c Äl ź Ì)],
#[Ò8,Df P w K mg Â 4 "first_break" ["keys"] (RX K)],
#[ě,(cds y)],
#[c1,(zH5 Í S1 S2 a b)],
#[č,(Zs _)],
#[Û8,((ah,rfl),([],rfl,(λt h=>by cases h),rfl,λt h=>by cases h),Qp _,Zb,Zf hD _)],
#[ÜI,((_,_,rfl,rfl),À0,À0,À0,À0,À0,À0,À0,À0,À0,À0,À0,Àc)],
#[Ô3,(λi m b H=>m=Ö-i/\i<=Ö/\Pv i b H,(Ö,by simp,Qp _,h0),?_)],
#[Í2,(by lia,by lia,by lia,by lia)],
#[ÉQ,(Äx vs)],
#[Ű,(Y9 M n)],
#[Ôm,(.tup ((Kb 0 Ň 1).map kV))],
#[Î6,(.inr (.inl Ο))],
#[Å4,#[Zh,#[Zl,‹1›]]],
#[ÄT,#[Zh,#[Zl,Ł]]],
#[Ä6,#[Zh,#[Zl,ÜK]]],
#[de,by simp only[Âe,Är,Äs]at j],
#[df,by show Âz y.1=_\/Âz y.1=_;rw[ho];exact(S.free y hy hf).2],
#[Ñ5,(show (å T != Àq)=true from by simp)],
#[Ôi,#[Zq,1,Åa,á,#[ZB,Xn,‹1›,#[Z2,Ê6]]]],
#[ÓP,(_,rfl,_,_,rfl,rfl,_,rfl,?_)],
#[dj,by refine Calls.call_function_entry kind_sorted plain_sorted entry_sorted (args_sorted1 (.ref l)) ?_],
#[dk,by obtain m|b|c|L|s|d|e|lo|g|rfl|M|q:=h;refine(_,#[Zh,#[Zl,Ģ]],?_);obtain i|j:=M.ob],
#[Âl,X.N[i]? = aa x],
#[Í0,(upd d p (.tup [.int i,.str y]))],
#[ÃH,(İ:Int)],
#[Ū,(.ref D)],
#[ÇN,#[WJ,Wm,Ú]],
#[ËW,{ s with õ:=œ+1 }],
#[ÇE,["self", "n", "keys"]],
#[Υ,(ę d)],
#[Ðj,(Xp CX P w K mg Â N d a f g A Ü s H E)],
#[Ê0,(Àk z "\n" = ð)],
#[dw,((ÜT).update x λo=>{ cls:=Ã1,ρ:=aa Ļ,Ó:=ş,ÁM:=ÈK })],
#[Üi,#[XF,Ý,Ý,#[XF,Ý,Ý,(@SJ _ _)]]],
#[Ä4,#[Wv,K,‹0›]],
#[dz,by intro X hP hw hK f i aj s σ H E I g st hg;subst hP hw hK;obtain J|L|⟨a,b',M⟩|N|O:=st],
#[ÇF,["desk", "things"]],
#[ÜO,(Àu ÆI)],
#[dC,(f.2 b (QG (QB (Ql e) (I.ok.cab x c S hc))))],
#[Åo,(by simpa using a)],
#[ÅY,(.inr (.inr Đ))],
#[ÑW,(.DictComp kx vx [(tg,Ķ,dO,0)] c pos)],
#[dG,by subst r hw t;obtain ⟨l,f⟩|g:=st;obtain M|n|A:=y;obtain its|B|C|_:=Âm n],
#[dH,by rw[list_sort_plain];refine ai (UD ha rfl ?_);show av _ _ (ÉR a (λx=>#[]) >>= _) _ _ _],
#[dI,by rw[J]at C;cases C;have dP:i<(Áj).length:=(Ń J).1;obtain z|n|et|z0|n0|u:=wJ t (Qm J)],
#[dJ,by refine(_,rfl,rfl,_,rfl,?_)],
#[dK,by obtain z|lo|i|l|g|B|C|j|m|n|D:=(show Y1 ü X.w k Ép d (.dK f) from A.hok d _ hd)],
#[dL,by obtain u|rfl:=hq],
#[dM,by exact .inl ((q,by lia),hd ys a H (e ▸ p))],
#[Ä7,(Ć<=1000)],
#[Áu,(start N vs)],
#[Ík,(.type "object")],
#[dQ,by rw[Ø3 (Àb w)]at l;obtain O|P|q:=U j y G g l J;refine(O,P,?_)],
#[Ðy,bB o name Ì (Ċ o Ì)=Ċ o Ì],
#[ÙR,["_law_script", "_law_k", "_law_left_here", "_law_rows", "_law_turn", "_law_due"]],
#[ÙM,["_law_row", "_law_words", "_law_forms", "_law_sorts", "_law_told", "_law_least"]],
#[Õ2,(λr g=>r=.ok (.ret (.bool true))/\OldK Ép g.heap/\g.os=c.os/\Â0 g.gens)],
#[Ü3,(show false=true from f)],
#[ģ,(hdM L)],
#[ÚN,(.ins ax dp (YQ e.k e.f ((e.g+1:Nat):Int)))],
#[dY,by refine(c.typeIs,λb q=>?_,hd);cases q;obtain ob|_|_|g|h|_:=c;exact(ob,g,h.2.1)],
#[ÆX,Ē Á],
#[ÓM,(.ins aB c [("merge",.ref m,)])],
#[d1,by refine ai (ai (Íh ?_));show av _ _ (Æ6 (.ref i2) >>= _) _ _ _],
#[Ø6,à C=aa (υ nm q C N bs bm true sn sub ab bR dd k0 k1 k2 k3 k5 bI)],
#[ÐU,Î (QB (Ql e) (Qj ÈI z)) (Qal _)],
#[ÙO,["things", "room", "inside", "next_in", "runs", "goer", "run", "key", "number"]],
#[ÙS,["sizes", "ways", "there", "trees", "cost", "many", "together", "size", "each"]],
#[ÒX,Df P w K mg Â 3 "alikes" ["row"] (R0 K)],
#[Ói,(upd (upd H7 G (.own u)) u (.ins ax G []))],
#[Ôq,(azB s&&decide (1<=Ŗ/\Ŗ<=8))],
#[Ûd,(Yv aB ax ao λo=>X2 λs ks=>o=.grow s ks)],
#[Üv,(.lst (((c.drop 0).take (2-0)).map ß))],
#[ÜG,#[Vn,ÃD,#[Zd,#[ZB,XZ,Ú,#[ZG,L,c,#[Zd,#[pv,2,Ôt],Ú],Ë]]]]],
#[Ñ0,∀ys a H,Pv Ă ys a H->Q Ū H],
#[Íy,["_law_cell", "_law_k"]],
#[Û6,WW "key" z=(decide (Ç z=Ç "-")||Xq z "abcdefghijklmnopqrstuvwxyz" 40)],
#[Éc,V->À V->Hp->VK->Prop],
#[Ŏ,Int×Int],
#[À1,HOk P w H h],
#[ØC,(λxs H Q=>X2 λa kvs=>xs=[ø a]/\H a=aa (.dK kvs)/\Q (.int Ă) H)],
#[Ãg,(λ_ _=>ĝ)],
#[Ñ4,(·.setIfInBounds 1 (å Ãi))],
#[Ãf,(k == Äj)],
#[Éi,(bz.endLine == br.line)],
#[Àp,(ZR X.L)],
#[ÎA,(Z6 8 (ZC L) e.n)],
#[Ûb,(Yv aB ax ao λo=>X2 λs ks=>o=.row s ks)],
#[Ŋ,(.ref l)],
#[Ε,(.lst zs)],
#[Àt,(.lst xs)],
#[È3,(.builtin "isinstance")],
#[ÐV,(.ListComp jr [(tg,Ķ,dO,0)] c pos)],
#[ÎZ,("0" : am)=⟨[48].toArray⟩],
#[ÃG,#[Zd,‹2›]],
#[Èi,#[Z2,Ès]],
#[ey,a_,b_,c_,d_,by refine a_ b_ Ç9 (λaP f A Ü s H c_ Q E d_ h=>?_)],
#[ez,a_,b_,(λaP f A Ü s H a_ Q E b_ h=>?_)],
#[eA,a_,b_,c_,#[Zp,#[Zw,a_,b_,á],#[Zp,#[Zw,c_,b_,á],Èh]]],
#[eB,a_,b_,c_,ô K a_ b_ = aa (aa (.ref c_))],
#[eC,a_,b_,c_,#[gT,K,2,#[Zp,#[Zw,a_,b_,á],#[Zp,#[Zw,c_,b_,á],Èh]]]],
#[eD,a_,b_,c_,d_,by refine(_,rfl,_,rfl,d,aB,a_,_,_,rfl,hd,Α,Ä5,Wr ..,nd,_,rfl,Àn (k:=.inr b_) ŭ c_,_,rfl,d_ ?_)],
#[eE,a_,(by simpa using a_)],
#[eF,a_,b_,c_,d_,(_,rfl,_,rfl,d,aB,a_,_,_,rfl,hd,Α,Ä5,Wr ..,nd,_,rfl,Àn (k:=.inr b_) ŭ c_,_,rfl,d_ ?_)],
#[eG,a_,by subst e;cases h;obtain a|b|c|d|f:=a_;rw[bf]],
#[eH,a_,b_,(by rw[a_];exact b_)],
#[eI,a_,b_,by subst a_;exact .inr (_,_, b_,Æ rfl,by ac_rfl,by ac_rfl,by ac_rfl)],
#[eJ,a_,b_,(by show a_<=b_;decide)],
#[eK,a_,b_,c_,d_,by obtain t|b|c:=a_;refine(_,rfl,bi, b_,.ref t,_,rfl,rfl,Ôu,b,rfl,t,_,rfl,c H,rfl,_,_,rfl,_,_,rfl,rfl,?_);exact(_,rfl,_,rfl,_,rfl,z,c_,d_,rfl,e,q)],
#[eL,a_,b_,c_,#[Zn,a_,‹b_›,c_,č]],
#[eM,a_,b_,by have a_:=b_ T (P:=P) (w:=w) (Â:=Â)],
#[eN,a_,b_,ô K a_ b_ = aa ah],
#[eO,a_,by exact .inr (_,_, a_,Æ rfl,by ac_rfl,by ac_rfl,by ac_rfl)],
#[eP,a_,b_,c_,by refine(_,rfl,bi, a_,.ref t,_,rfl,rfl,Ôu,b,rfl,t,_,rfl,c H,rfl,_,_,rfl,_,_,rfl,rfl,?_);exact(_,rfl,_,rfl,_,rfl,z,b_,c_,rfl,e,q)],
#[eQ,a_,ŋ a_],
#[eR,a_,a_ T (P:=P) (w:=w) (Â:=Â)],
#[eS,a_,by cases h;obtain a|b|c|d|f:=a_;rw[bf]],
#[eT,a_,b_,c_,by refine(λi m a_ b_ H=>m=c_-i/\i<=c_/\Pv i a_ b_ H,(c_,by simp,Qp _,h0),?_);rintro i m a_ b_ H ⟨rfl,hi,p⟩],
#[eU,a_,(_,_, a_,Æ rfl,by ac_rfl,by ac_rfl,by ac_rfl)],
#[eV,a_,b_,c_,by obtain a_|b_|rfl:=Ι c_],
#[eW,a_,b_,c_,d_,∀ (kV a_ b:ae) (b_:Ã af) (c_ ct:ae) (us:À ae),ε=ÀS->bindArgs (ÅH x d_ (Wk st) (XI st) (Zi st) .none kV a_ b b_ c_ ct) (us,[])=pure (È6 us)],
#[eX,a_,b_,c_,(thn (a_ b_ s c_ H _ I h) ?_)],
#[eY,a_,by subst e;cases h;obtain a|b|c|d|f:=a_],
#[eZ,a_,b_,c_,(ZQ a_ b_ H m rd sd L s nb li lo c_)],
#[e0,a_,b_,c_,d_,e_,by have a_:b_ c_=aa (.lst ((ÂW d_).map Ç)):=e_ ▸ Zb],
#[e1,a_,b_,by obtain t|b|c:=a_;refine(_,rfl,bi, b_,.ref t,_,rfl,rfl,Ôu,b,rfl,t,_,rfl,c H,rfl,_,_,rfl,_,_,rfl,rfl,?_)],
#[e2,a_,b_,c_,by obtain a_|b_:=c_],
#[e3,a_,b_,c_,d_,by have a_:(upd b_ c_ d_) c_=aa d_:=Zb],
#[e4,a_,b_,c_,d_,Df P w K mg Â a_ b_ c_ d_],
#[e5,a_,b_,c_,d_,by rw[a_]at b_;cases b_;have c_:i<d_:=(Ń a_).1],
#[e6,a_,b_,Į K (.ref a_) b_ = aa ah],
#[e7,a_,b_,(((a_ b_).length:Nat):Int)],
#[e8,a_,b_,c_,d_,e_,∀a_ b_,c_ a_=aa d_->e_ a_=aa d_],
#[e9,a_,b_,Ín K a_ b_=aa true],
#[fa,a_,b_,c_,d_,Mf P w K mg Â a_ ao b_ c_ (d_ ax ao)],
#[fb,a_,b_,c_,(λ_ _ _ _=>#[gT,K,2,#[Zp,#[cg,a_,b_],#[Zp,#[cg,c_,b_],Èh]]])],
#[fc,a_,b_,c_,d_,∀ (a_:aJ) (t:af×À Key),(∀b o,b_ b=aa o->c_ b=aa o)->t∈ts->(∀u∈ts,YX u.2 t.2=false)->R (.ok (.ret (.ref t.1))) { d_ with Õ:=a_ }],
#[fd,a_,b_,by obtain a_|rfl:=b_],
#[fe,a_,b_,Ín K a_ b_=aa false],
#[ff,a_,b_,#[Xns,K,a_,b_]],
#[fg,a_,b_,c_,d_,e_,Ā a_=aa (.type "tuple",b_,.seq #[.ref c_,.none] d_,e_)],
#[fh,a_,b_,c_,d_,(show ∃a_,u=b_ c_ a_ from d_)],
#[fi,a_,b_,(λa A Ü s H vs Q E a_ h=>b_ a f A Ü s H vs Q E a_ h)],
#[fj,a_,b_,c_,(a_ ▸ (Zf b_ _).trans (Zf c_ _))],
#[fk,a_,b_,(λa_ b_=>by cases b_)],
#[fl,a_,b_,c_,d_,(upd (upd a_ b_ (.own c_)) c_ (.ins d_ b_ []))],
#[fm,a_,(rfl,_,É a_)],
#[fn,a_,((ah,rfl),rfl,Qp _,Zb,Zf a_ _)],
#[fo,a_,b_,c_,d_,a_ (b_ ▸ (Zf c_ _).trans (Zf d_ _))],
#[fp,a_,(QF X G a_).symm.trans h],
#[fq,a_,b_,c_,#[gT,K,2,#[Zp,#[cg,a_,b_],#[Zp,#[cg,c_,b_],Èh]]]],
#[fr,a_,b_,c_,d_,e_,by have a_:=b_ ź j c_ fp;have d_:=e_ ź j c_ fp],
#[fs,a_,b_,c_,(by rw[a_];exact b_ c_)],
#[ft,a_,(a_,.«local»,)],
#[fu,a_,by obtain u|rfl|a_:=Xy r;cases a_],
#[fv,a_,b_,c_,(∀b o,a_ b=aa o->b≠m->b≠b_->c_ b=aa o)],
#[fw,a_,b_,c_,(∀b a_,b_ b=aa a_->c_ b=aa a_)],
#[fx,a_,b_,∀t∈a_,∃its:À ae,ZF (t.2.map kV) its/\ÁL b_ t.1 Ĕ],
#[fy,a_,b_,c_,(_,_,a_,YD b_ Ôr Æp,YD c_ Æq (.cons rfl Æp))],
#[fz,a_,b_,c_,∀C s H fp,a_ ÉJ b_ c_],
#[fA,a_,b_,c_,by intro a_ s b_ H c_ I h],
#[fB,a_,b_,#[Zd,‹a_›,‹b_›]],
#[fC,a_,((a_:Nat):Int)],
#[fD,a_,ħ List.length a_],
#[fE,a_,b_,(by rw[<- a_];exact b_)],
#[fF,a_,by rw[Ze (λz=>by rw[z,a_]at this;cases this)];exact this],
#[fG,a_,((a_ ß).length:Nat)],
#[fH,a_,(by rw[a_];lia)],
#[fI,a_,Ï3 K a_=true],
#[fJ,a_,b_,c_,d_,e_,by cases (show u=å b from a_);obtain z|hd|b_|c_|d_:=e_ é e],
#[fK,a_,b_,c_,#[Zd,‹a_›,‹b_›,‹c_›]],
#[fL,a_,b_,c_,by refine .inr ((q,a_),Pv (i+1),λj3 aX b_ c_=>(Ă-(i+1),by lia,rfl,a_,c_),λx b_ y=>?_)],
#[fM,a_,b_,bB a_ b_ Ì (Ċ a_ Ì)=Ċ a_ Ì],
#[fN,a_,b_,c_,d_,#[Zo,(a_ K),Ë,Î9,Ïa,#[Zd,‹b_›,#[Vi,c_,d_]]]],
#[fO,a_,(.builtin a_)],
#[fP,a_,b_,c_,d_,by subst a_;cases (show u=å b from b_);obtain z|hd|c_|c|d_:=Vg é e],
#[fQ,a_,b_,c_,d_,e_,Inv X a_ b_ c_ { d_ with Õ:=e_ }],
#[fR,a_,b_,(.lst (a_ b_))],
#[fS,a_,(false,Ċ a_ Ì,)],
#[fT,a_,b_,(.tup [.int a_,.int b_])],
#[fU,a_,b_,c_,d_,e_,by have a_:(upd b_ c_ (.lst (d_ e_))) c_=aa (.lst (d_ e_)):=Zb],
#[fV,a_,b_,c_,((q,a_),Pv (i+1),λj3 aX b_ c_=>(Ă-(i+1),by lia,rfl,a_,c_),λx b_ y=>?_)],
#[fW,a_,b_,c_,by rw[a_,b_]at c_;cases c_],
#[fX,a_,aG [a_] Ì=[(false,Ċ a_ Ì,)]],
#[fY,a_,b_,[.int a_,.int b_]],
#[fZ,a_,b_,(.tup [ß a_,ß b_])],
#[f0,a_,∀a_ s',XE X E a_ s'->ê a_ s'],
#[f1,a_,b_,c_,d_,by obtain z|hd|a_|b_|c_:=d_ é e],
#[f2,a_,b_,c_,by exact(_,a_,λb_ c_=>by cases c_)],
#[f3,a_,b_,c_,(_,a_,λb_ c_=>by cases c_)],
#[f4,a_,b_,c_,d_,e_,(.type "tuple",a_,.seq #[.str b_ c_] d_,e_)],
#[f5,a_,b_,∀ (d:À (af×aN)) (E:St->XK),PSs ((X.pnd d).wish (XE (X.pnd d) E)) a_ (b_ E)],
#[f6,a_,b_,c_,d_,(∀b a_,b_ b=aa a_->b≠c_->d_ b=aa a_)],
#[f7,a_,b_,c_,d_,e_,by have a_:H b_=ah:=c_ ((Zf d_ _).free e_)],
#[f8,a_,#[Zn,WT,a_,Ú,č]],
#[f9,a_,b_,c_,d_,(upd a_ b_ (.lst (c_ d_))) b_=aa (.lst (c_ d_))],
#[ga,a_,b_,c_,ZQ a_ b_ H m rd sd L s nb li lo c_],
#[gb,a_,(ÆL (ÅB a_ (Zi st) Ò f a))],
#[gc,a_,(É1 { cls:=.type a_,Ó:=.fields #[.ref d] })],
#[gd,a_,(λ_ _ _ _ h=>É (h.2.2.2.2 _ _ a_))],
#[ge,a_,by rw[Ē (λh=>a_ (by injection h))]],
#[gf,a_,b_,(vs=[.ref a_,.int b_])],
#[gg,a_,(Ċ a_ Ì)],
#[gh,a_,(vs=[.ref a_])],
#[gi,a_,b_,c_,(.tup [.int a_,.int (b_:Int),.str c_])],
#[gj,a_,b_,(λ_ _ _ _=>#[cg,a_,b_])],
#[gk,a_,b_,((a_+b_:Nat):Int)],
#[gl,a_,b_,c_,d_,(λa_ o b_ e=>c_ a_ o d_ e)],
#[gm,a_,Į K a_ "__getattribute__" = aa Ùw],
#[gn,a_,b_,c_,d_,by obtain its|a_|b_|c_:=Âm d_],
#[go,a_,b_,a_ ü X.w X.K ė ň k C b_ ps sp],
#[gp,a_,b_,(λh=>a_ (û b_))],
#[gq,a_,b_,Į K a_ "__init__" = aa (aa b_)],
#[gr,a_,["self", a_]],
#[gs,a_,b_,(a_,_,rfl,þ b_,rfl,_,_,rfl,_,_,rfl,rfl,?_)],
#[gt,a_,b_,c_,d_,#[gT,K,3,#[Zp,#[Zw,a_,b_,á],#[eA,c_,b_,d_]]]],
#[gu,a_,b_,by refine(a_,_,rfl,þ b_,rfl,_,_,rfl,_,_,rfl,rfl,?_)],
#[gv,a_,b_,c_,by rw[a_]at b_;cases c_],
#[gw,a_,b_,c_,(thn (a_ b_ s b H _ I h) λu g ⟨y,i,j,k,c_⟩=>thn (ha b_ g b i _ j c_) ?_)],
#[gx,a_,b_,(_,rfl,a_,_,rfl,.inl (É b_),_,_,rfl,rfl,_,rfl,Z5 β β)],
#[gy,a_,b_,c_,d_,by have a_:=Zf b_ ÀB;rw[e3,c_,H,d_,ÀB];generalize upd H d_ (.lst [])=H1 at a_ c_ ⊢],
#[gz,a_,b_,c_,by rw[a_,b_,ph]at c_;refine thn c_ ?_],
#[gA,a_,Pv 0 [] ØL (upd a_ D ÀB)],
#[gB,a_,b_,by refine(_,rfl,m,ao,a_,_,rfl,b_,æ,ÃI,VT ..,?_);rw[RR]],
#[gC,a_,Į K a_ "__class__" = aa (aa Ãz)],
#[gD,a_,b_,#[ZO,#[YF,K,QH,QN,QO,WR,‹a_›,#[Zd,‹b_›]]]],
#[gE,a_,b_,by refine(_,rfl,a_,_,rfl,.inl (É b_),_,_,rfl,rfl,_,rfl,Z5 β β)],
#[gF,a_,#[eL,Xz,a_,Ł]],
#[gG,a_,b_,by exact .inr (by rw[show b=a_ from z];exact b_)],
#[gH,a_,b_,(.inr (.inr (.inr (a_,b_,.inl z))))],
#[gI,a_,b_,c_,d_,by obtain d|a_|b_|c_|X|nd|d_|o|rfl|hd|js|D|B|cT|gS|hw|rfl|q:=h],
#[gJ,a_,(λh=>a_ (by injection h))],
#[gK,a_,b_,c_,d_,by intro aj s σ H x a_ v b_ Q I c_ d_ h],
#[gL,a_,[(false,Ċ a_ Ì,)]],
#[gM,a_,Į K a_ "__setattr__" = aa ÈZ],
#[gN,a_,b_,c_,hdS (a_ (b_ (c_ ZK)))],
#[gO,a_,b_,c_,(a_ b_ s c_ H _ I h)],
#[gP,a_,b_,by exact(a_ e b_).keep (Ze a.symm) (Ze b.symm) (Ze c.symm)],
#[gQ,a_,b_,c_,(∀a_ b_,N a_ b_->∃c_,c_<m/\W (i+1) c_ a_ b_)],
#[gR,a_,b_,c_,(upd a_ D (.lst (b_++[c_])))],
#[gS,a_,by refine Z5 (λa_=>?_) (λa_=>?_)],
#[gU,a_,b_,c_,(_,_,a_,YD b_ #[eJ,0,100] .nil,YD c_ Æq Ôs)],
#[gV,a_,b_,c_,(_,rfl,m,ao,dx,_,_,rfl,a_,æ,b_,c_ ..,_,_,rfl,rfl,dx,_,a_,VT ..,?_)],
#[gW,a_,b_,(ha pos a_ s b_ H _ I h)],
#[gX,a_,b_,c_,d_,by refine(_,rfl,m,ao,dx,_,_,rfl,a_,æ,b_,c_ ..,_,_,rfl,rfl,dx,_,a_,VT ..,?_);rw[d_]],
#[gY,a_,b_,(_,rfl,m,ao,a_,_,rfl,b_,æ,ÃI,VT ..,?_)],
#[gZ,a_,PySem.W.isClsIn K a_=true],
#[g0,a_,(aa (.ref a_))],
#[g1,a_,b_,(∀H,SqT K H a_ [.ref b_,.non])],
#[g2,a_,b_,c_,d_,by obtain a_|b_|rfl|c_|d_|q:=h],
#[g3,a_,PySem.W.mroIn K a_ Ík=aa true],
#[g4,a_,Ï0 K a_=aa Çz],
#[g5,a_,b_,c_,d_,by rw[show ((a_ : am)++Éx b_ c_:am) = d_ by ac_rfl]],
#[g6,a_,b_,(.str a_,H,ř _,ā,b_)],
#[g7,a_,b_,c_,∀b o,a_ b=aa o->b≠b_->c_ b=aa o],
#[g8,a_,b_,c_,d_,e_,by rw[Qi];refine Ôv (a_,by simp,λa b_ b c_=>?_);rw[eV,d_,e_,b_]],
#[g9,a_,Į K a_ "__getattr__" = aa ah],
#[ha,a_,b_,#[e2,a_,b_,M.ob]],
#[hb,a_,([a_],by decide,by rfl,by ac_rfl,by ac_rfl,by ac_rfl)],
#[hc,a_,b_,c_,d_,(_,rfl,_,rfl,_,rfl,a_,_,rfl,É b_,λc_ d_=>?_)],
#[hd,a_,b_,c_,d_,by refine(_,rfl,_,rfl,_,rfl,a_,_,rfl,É b_,λc_ d_=>?_)],
#[he,a_,b_,c_,ô K aM a_ = aa (aa (.int b_ c_))],
#[hf,a_,b_,(∀x a_,ζ x=aa a_->a_≠b_)],
#[hg,a_,b_,c_,d_,by obtain a_|e|d:=T.obj _ _ b_ b c_;exact(d_ (b,a_,) (QD _ (QD _ (UO c_ e)))).2.1],
#[hh,a_,b_,(by show a_<b_;decide)],
#[hi,a_,b_,(a_,_,rfl,þ b_,rfl,_,_,rfl,_,_,rfl,_,_,rfl,rfl,?_)],
#[hj,a_,#[pv,a_,Ôt]],
#[hk,a_,b_,c_,(∀H,SqT K H a_ [.ref b_,.str c_])],
#[hl,a_,(λz=>a_ (.inl z))],
#[hm,a_,b_,c_,d_,e_,(.type "tuple",a_,.seq #[.ref b_,.str "key" c_] d_,e_)],
#[hn,a_,b_,c_,d_,by obtain e|cls|dd|i'|a_|b_|rfl|he|jH|jI|c_|I'|hp|hx|C|bm|rfl|hC|lE|dH:=d_],
#[ho,a_,b_,#[Ym,a_,æ,b_,‹0›]],
#[hp,a_,(.inr (.inl (rfl,.inl (_,a_))))],
#[hq,a_,by exact([a_],by decide,by rfl,by ac_rfl,by ac_rfl,by ac_rfl)],
#[hr,a_,b_,by rw[e2,a_,b_,M.ob]],
#[hs,a_,b_,by refine(a_,_,rfl,þ b_,rfl,_,_,rfl,_,_,rfl,_,_,rfl,rfl,?_)],
#[ht,a_,(.tup [.int (ZY a_).1,.int (ZY a_).2])],
#[hu,a_,b_,c_,(∀b o,H b=aa o->¬ Fp m a_ b_ L b->c_ b=aa o)],
#[hv,a_,#[Zo,(Y2 K),Ë,ÁF,Qn,#[Zd,#[pv,a_,Ôt]]]],
#[hw,a_,b_,c_,d_,Ā a_=aa (.type "tuple",b_,.seq #[] c_,d_)],
#[hx,a_,b_,{ a_ with Õ:=b_ }],
#[hy,a_,b_,c_,d_,e_,by rintro u a_ ⟨x,b_,c_,d_,a,dx,fs,ex,e_,l,q⟩;subst ex;obtain rfl:u=å a:=d_],
#[hz,a_,b_,(a_,g,d,b_,os)],
#[hA,a_,b_,c_,d_,(.ListComp a_ [(b_,Ķ,c_,0)] d_ pos)],
#[hB,a_,b_,(upd a_ b_ (.dK []))],
#[hC,a_,b_,(∀H,SqT K H a_ [.str b_])],
#[hD,a_,b_,((lcp a_ b_:Nat):Int)],
#[hE,a_,Į K (.ref a_) "__setattr__" = aa ÈZ],
#[hF,a_,b_,(a_ b_=aa .cell\/a_ b_=aa .free)],
#[hG,a_,À (am×a_)],
#[hH,a_,(by show a_<=_;rw[aO];decide)],
#[hI,a_,b_,#[Zn,a_,‹b_›,#[Zo,Wy,Ë,ÁF,Qn,ÁG],č]],
#[hJ,a_,#[Zh,#[Zl,‹a_›]]],
#[hK,a_,a_->ak->Prop],
#[hL,a_,b_,c_,hdS (a_ (ĸ (b_ (c_ ZK))))],
#[hM,a_,b_,c_,d_,e_,by rintro zs a_ b_ ⟨⟨c_,rfl⟩,rfl,_,d_,e_⟩],
#[hN,a_,b_,c_,by obtain a_|g|d|b_|os:=c_],
#[hO,a_,by exact nomatch z.one a_],
#[hP,a_,b_,(ZQ a_ b_ H m rd sd L s nb li lo (Yx w))],
#[hQ,a_,b_,(@a_ _ _ _ _ ‹b_›)],
#[hR,a_,b_,c_,d_,e_,by have a_:(ÁS++(b_ : am)).length<=0+c_:=z Å Å Å;have d_:=z a_ e_ Å],
#[hS,a_,by exact Q6 a_ ĵ Àc e Àw h],
#[hT,a_,b_,c_,#[ZG,a_,b_,c_,Ë]],
#[hU,a_,b_,c_,by rw[Qi];refine Ôv (a_,by simp,λa b_ b c_=>?_)],
#[hV,a_,b_,c_,d_,e_,by refine Ôv (a_,by simp,λa b_ b c_=>?_);rw[eV,d_,e_,b_]],
#[hW,a_,b_,c_,d_,∀a_ b_,a_≠c_->d_ a_=aa b_->ĉ a_=aa b_],
#[hX,a_,b_,c_,(λa_ b_ c_=>Qc _ c_)],
#[hY,a_,b_,c_,(show Y1 ü X.w H Í a_ (.dT b_) from é a_ _ c_)],
#[hZ,a_,(a_,.globalImplicit,)],
#[h0,a_,#[ZA,(ixL K),‹a_›,ÇN]],
#[h1,a_,b_,c_,d_,e_,by rw[Ze (Zg a_ b_)];exact c_ _ _ (d_ b e_ a_)],
#[h2,a_,Ín K a_ (.ref ar)=aa true],
#[h3,a_,b_,(_,a_,YD b_ Æq (.cons ā Æp))],
#[h4,a_,b_,[.ref a_,.ref b_]],
#[h5,a_,Qj (int_text_length_le10 (k:=a_) Å Á) Å],
#[h6,a_,b_,by refine a_ b_ Ç9 ÜL],
#[h7,a_,b_,c_,#[Zq,a_,b_,á,c_]],
#[h8,a_,b_,#[Xfi,K,ao,a_,b_]],
#[h9,a_,#[c1].get? (a_ Í S1 S2 a b).objs.size=aa _],
#[ia,a_,(.lst ((a_::os).map Ç))],
#[ib,a_,b_,by rw[a_]at this;exact Î this (Ì2 b_)],
#[ic,a_,b_,#[Wz,(slL K),‹a_›,(@Wl _ _ _ ‹b_›),(@VJ _)]],
#[id,a_,b_,c_,d_,e_,by have a_:atI [ß b_,.int c_] d_=aa (.int e_):=Ya (j:=d_) rfl],
#[ie,a_,b_,c_,ZQ cR cM a_ X.m Ĳ b_ c_ s' đ (Ĥ+k) (ĥ+q) (Yx w)],
#[ig,a_,(∀r∈ð,r ≠ ""->Vs K a_ r)],
#[ih,a_,Į K ã name=aa a_],
#[ii,a_,b_,c_,d_,e_,(ÅH x a_ (Wk st) (XI st) (Zi st) .none kV b_ c_ d_ e_ ct)],
#[ij,a_,b_,c_,#[Zq,a_,b_,á,‹c_›]],
#[ik,a_,b_,c_,d_,by rw[Ze (Zg a_ b_)];exact c_ b d_ a_],
#[il,a_,#[YF,K,QZ,QaR,QaS,(SV K),Ý,a_]],
#[im,a_,b_,(a_ Í S1 S2 a b).objs.size=Ò+b_],
#[io,a_,b_,c_,(λa_ b_ c_=>?_)],
#[ip,a_,b_,c_,(∀ (s:ak) (a_:ae),ÆM s b_ ([a_],[]) [(c_,a_,)])],
#[iq,a_,b_,c_,(Xp (CX1 P w) P w K mg Â N a_ b_ f c_ A Ü s H E)],
#[ir,a_,b_,(.type "dict",ah,.dict a_ b_,#[])],
#[it,a_,b_,(vs=[.ref a_,.ref b_])],
#[iu,a_,(@Wl _ _ _ ‹a_›)],
#[iv,a_,((a_::os).map Ç)],
#[iw,a_,b_,c_,by obtain a_|b_:=Ì8 b o e c_],
#[ix,a_,b_,(S1.at_keep (λo e=>a_ _ o D.i1z e) b_)],
#[iy,a_,nomatch z.one a_],
#[iz,a_,by rw[z,a_]at this;cases this],
#[iA,a_,b_,c_,by subst a_;rw[gv,b_,c_,c_]],
#[iB,a_,b_,c_,by intro a_ s b_ H c_ us Q I r h],
#[iC,a_,b_,(SqL a_ H p b_\/SqT a_ H p b_)],
#[iD,a_,b_,((a_ : am) = b_)],
#[iF,a_,by have hb:(g == a_)=false:=Èv h],
#[iG,a_,b_,c_,∀a_ b_ H,Pv c_ a_ b_ H->Q Ū H],
#[iH,a_,by rw[<- a_]at this;exact this],
#[iI,a_,#[fR,a_,Ç]],
#[iJ,a_,b_,#[ZO,#[Ym,a_,æ,b_,‹0›]]],
#[iK,a_,b_,#[XT,(@a_ _ _ _ _ ‹b_›),#[XT,Ý,(@Uy _)]]],
#[iM,a_,b_,c_,d_,(upd (upd a_ b_ (.dK [])) b_ (.dK (YU (c_ d_))))],
#[iN,a_,#[Za,Ý,#[Zd,Ý,Ý,a_,a_,Ý]]],
#[iO,a_,Õv K a_=true],
#[iP,a_,b_,#[e8,b,o,a_,o,b_]],
#[iQ,a_,b_,c_,(.lst (a_ λb_=>ø c_))],
#[iR,a_,(∀b∈fp,a_ b=ah)],
#[iS,a_,a_ tm=aa (.tup ((ÊJ:À Key).map kV))],
#[iT,a_,b_,#[e2,a_,b_,D.mg.M.ob]],
#[iU,a_,b_,["desk", "singles", a_, b_]],
#[iV,a_,b_,#[Xfi,K,a_,"__init__",b_]],
#[iW,a_,λ_ a_=>Q .non a_],
#[iX,a_,Àx+a_<Ás],
#[iY,a_,b_,a_ λ_ _ _ _ _ _ _ q=>b_ q],
#[iZ,a_,b_,c_,d_,(a_ λb_=>decide (c_=d_))],
#[i0,a_,(_,_,_,_,_,_,_,_,_,_,_,_,_,_,_,_,a_)],
#[i1,a_,b_,#[ZA,(ixG a_),Ģ,‹b_›]],
#[i2,a_,b_,(.inr (.inr (.inr (a_,b_,z))))],
#[i3,a_,a_ Ën x],
#[i4,a_,(_,QF X G a_)],
#[i5,a_,b_,(å a_::b_).contains Àj=true],
#[i6,a_,b_,(upd a_ e (exN e C (aa b_)))],
#[i7,a_,b_,c_,d_,by have a_:=z b_ (show (c_ : am).length<=d_ by decide) Å],
#[i8,a_,b_,(_,rfl,a_,_,_,_,rfl,rfl,É b_,rfl,?_)],
#[i9,a_,b_,c_,(upd a_ b_ (.lst [.str c_])) b_=aa (.lst [.str c_])],
#[ja,a_,b_,c_,d_,by obtain a_|b_|c_:=d_],
#[jb,a_,(Q (.int (a_ ć ě)) H)],
#[jc,a_,(Ġ (Ĭ-a_))],
#[jd,a_,b_,by rw[È a_,È b_]],
#[je,a_,b_,c_,by obtain a_|rfl|b_:=c_],
#[jf,a_,(vs=[.str a_])],
#[jg,a_,(by rw[Qr,Qb a_]<;>rfl)],
#[jh,a_,(.lst [.str a_])],
#[ji,a_,(å C::a_)],
#[jj,a_,b_,í a_=aa { cls:=ŗ,Ó:=.seq b_ n }],
#[jk,a_,b_,c_,by obtain m|⟨o,_,_,a_,_⟩|_:=b_;exact c_ _ _ a_ Çf],
#[jl,a_,b_,by have:=a_;rw[<- z2,z,b_]at this;cases this],
#[jm,a_,b_,c_,d_,Df P w K mg Â a_ b_ [c_] d_],
#[jn,a_,b_,c_,by rw[show nd=a_ from z,b_]at c_;cases c_],
#[jo,a_,b_,by refine(_,rfl,a_,_,_,_,rfl,rfl,É b_,rfl,?_)],
#[jp,a_,b_,#[Ym,a_,æ,b_,Ģ]],
#[jq,a_,b_,c_,d_,by have a_:(upd b_ c_ (.lst [.str d_])) c_=aa (.lst [.str d_]):=Zb],
#[jr,a_,b_,∀b a_,H b=aa (.tup a_)->b_ b=aa (.tup a_)],
#[js,a_,by obtain o|A|e|_:=Ìu a_],
#[jt,a_,b_,#[WK,Ģ,‹a_›,(Vf b_)]],
#[ju,a_,b_,by rw[Æ a_,Æ b_]],
#[jv,by refine Øo F.entry_min_loop ?_;show av _ _ (seqItems? (.ref S) >>= _) _ _ _],
#[jw,by rw[cu];obtain i|j|rfl|q:=h;obtain u|w'|rfl|⟨t,rfl⟩|⟨t',rfl⟩:=S7 r],
#[Äi,Zm N ps (Zi st)],
#[Ñ6,Ve B Â NB env Ü L e cls dd Í],
#[jz,(show ĝ from r)],
#[Ôc,(ÃQ ō)],
#[Úz,(by rcases eY with z|z|z<;>rw[z];exact n1.symm;exact n2.symm;exact n3.symm)],
#[Ót,(List.Sublist.map _ List.filter_sublist)],
#[Éq,(K Êe)],
#[ÍF,["self", "meeting", "comer"]],
#[ÖN,(∀c o,c≠z->c≠TO->c≠i1->c≠i2->í c=aa o->ĉ c=aa o)],
#[jG,by rw[e2,y,A,x];obtain B|f|C:=I.dictF y hd;have n:Ă=ÉK:=ÁY],
#[Ñ3,e ∉ (env::Ü).filterMap (·.frame)],
#[Ðk,V->Ã Int->Ã Int->Hp->VK->Prop],
#[Ï8,(.Assign [.Attribute o f cZ] ι pos)],
#[jK,by rw[Ze (Zg this hu),Ze (Zg this ug)];exact this],
#[ØW,(λT=>NB Ŵ H É9 T/\(hideAll Í ch).get? T=ah)],
#[jM,by obtain iC|r1|m1|f1:=I.src B;obtain iY|r2|m2|f2:=I.src C;have T:=g z Ù],
#[ś,À Nat],
#[jO,(backToKw br (bV [] Ì))],
#[Å1,(SqL K H a Τ)],
#[ò,(Qd _)],
#[Ś,(.ref p)],
#[Èl,am×À V×À V],
#[Êh,["number", "keys"]],
#[ÇI,["_law_left_here"]],
#[ÆR,(aG (e::es) Ì)],
#[ÁW,(.inr rfl)],
#[ÑZ,∀i ys a H,Pv i ys a H->H d=aa Ãq],
#[Êv,À (Int×Ã am)],
#[Ûp,Df P w K mg Â 15 "ask_take" Ĺ (Yv aB ax ao λo=>∃n,o=.take n)],
#[ÒU,(upd (upd H f A) r B)],
#[ÃP,(ÁK-ÀK)],
#[Ãl,(rfl,?_)],
#[ÍL,["things", "runs", "tree"]],
#[ÍP,["things", "room", "ways"]],
#[ÍJ,["_law_sort", "_law_word"]],
#[Ûo,Df P w K mg Â 15 "do_drop" Ĺ (Yv aB ax ao λo=>∃s,o=.drop s)],
#[ÚL,([("all_keys",.ref k,),("fars",.ref f,),("gone",.int g,)]:À (am×V))],
#[ÏV,(λy=>if y=name then aa v else mA y)],
#[j9,by simp only[Ww,↓reduceIte]],
#[ka,by obtain g|d|r:=e.get b;rw[show its[k]? = aa u from f]at d;cases d;exact r],
#[Ûq,Df P w K mg Â 15 "ask_counts" Ĺ (Yv aB ax ao λo=>o=.counts)],
#[Ûr,Df P w K mg Â 15 "ask_coming" Ĺ (Yv aB ax ao λo=>o=.coming)],
#[ÍU,(by decide,by decide)],
#[ke,by rintro e g ⟨⟨v,rfl⟩,rfl,k⟩;rw[Hl (λj c a=>k j (Q1.mp a).1 c a)]at q],
#[ÍI,["word", "least", "most"]],
#[Íz,["_law_script", "_law_k"]],
#[Åw,Ys X.K fd ps ds],
#[Á0,SB k0 aZ st],
#[Ī,À ZP],
#[Çj,KeyOrd.kle_refl _],
#[ÅS,ē ÐK],
#[ÃN,(·.length)],
#[ÒS,(by rw[e];exact û rfl)],
#[Í3,(YQ k f g)],
#[ÇL,(SqL K H a ÂQ)],
#[Ô4,(Ro ha hb I h λv u f x y g i j k q=>c d f e g x y v u Q i j k q)],
#[Úl,(.ins ao dx (mgF j l (p+1) lo C r))],
#[ÁB,(.dK kvs)],
#[ÐG,(.call (.ref fa) ([.ref a],[]))],
#[Ù5,(_,rfl,_,rfl,y,rfl,ń i,rfl,_,rfl,Z5 (λc=>?_) (λc=>?_))],
#[kv,by simp only[Ôw];rw[È Á]],
#[Üs,(upd k a (.tup [ß #[fC,1],ß #[fC,2],ß ((m:Int)-1)]))],
#[Ñ2,Æy Â (env::Ü)],
#[ky,by have q:=(c.val k).isSome_eq;rw[Qbb]at q;rw[<- q,<- l];exact h _ (ř _)],
#[kz,by have b:=#[eQ,b];rw[Æ (rfl,by lia,by lia)]at q;exact(_,rfl,q)],
#[Ûi,Df P w K mg Â 3 "written_heads" ["desk", "heads"] (MH K aB)],
#[Ût,Df P w K mg Â 15 "ask_rows" Ĺ (Yv aB ax ao λo=>o=.rows)],
#[Ûs,Df P w K mg Â 15 "ask_left" Ĺ (Yv aB ax ao λo=>o=.left)],
#[ÎD,(L++[(i,u,k,f,l,0)])],
#[Λ,(.ref r)],
#[Ó3,(_,rfl,rfl,_,rfl,XS Ác ?_)],
#[kG,by rw[show its.toArray.any (eqU x)=its.any (eqU x) by simp,P7 r fs];exact q],
#[ÊW,[thT (YB nm e.n) z]],
#[ĭ,À aL],
#[Â9,Â2 a],
#[Ãa,A.handled=ah],
#[Äp,.type "tuple"],
#[ÕG,(thn #[gW,a,b] λj k ⟨l,m,n,o,q⟩=>hc a k b m l j Q n o q)],
#[ÜS,(Äx (f.map λt=>å t.1))],
#[Ðh,(ÅB a b Ò f c)],
#[Ãm,(ę a)],
#[Â3,(ÁP hc)],
#[ÁV,(.lst ys)],
#[Ùt,(.Call (.Attribute (.Name x p) "__init__" bz) (e::es) [] pos)],
#[ĳ,#[1,YL]],
#[Øm,ÄA S=aa { cls:=ŗ,Ó:=.seq #[.ref t.1,.ref t.1] c }],
#[kV,(Äm { cls:=ŗ,Ó:=.seq ([]:À ae).toArray })],
#[Îx,(_,λaX H' h=>h,?_)],
#[kX,by simp only[dL,ŧ,Option.getD_none,show (1:Int)>0 by decide,Âv]],
#[ÅV,env.frame=aa L],
#[ØZ,YN ü X.w X.K ė ň (CX1 ü X.w) k f fd ps sp],
#[Îh,Tq _ _ _ ä ä ä],
#[Ζ,À Key],
#[ÅK,(ķ:Int)],
#[ÄW,(ŏ toL)],
#[Øl,(.builtin "min.loop" { pos:=[.ref I,.none,.ref S],kw:=kw })],
#[ĺ,#[2,YI]],
#[Ún,(_,rfl,_,rfl,_,_,rfl,rfl,_,rfl,Z5 (λg=>?_) (λg=>?_))],
#[k7,by simp only[Îy]],
#[ÜV,(Xp (CX1 P w) P w K mg Â N b (Zi st) f a A Ü s H E)],
#[k9,by have:Âz x=aa .free:=hk;rw[k]at this;cases this],
#[la,by have a:=#[eQ,a];refine(_,_,rfl,rfl,_,rfl,Z5 (λb=>?_) (λb=>?_))],
#[ÍM,["things", "room"]],
#[ÉV,ÉL+64<Ás],
#[ÈO,V->V->Hp->VK->Prop],
#[Òt,ÈW Í e oe C od],
#[ÊZ,(Ć<=100000)],
#[Õt,(thn #[gW,g,i] λus s1 ⟨vs,H1,a,r,q⟩=>(a.kIn,?_))],
#[Ø2,(by simp only[aN.dropName_eq,aN.dropNameByArray,c]<;>rfl)],
#[Ó6,(by rw[Qa,Qa,Qx];exact ZD Á)],
#[ÉY,(H d=aa (.dT kvs))],
#[Úq,(.tup [.int D,.int (ÀH:Int)])],
#[Án,(.ref it)],
#[Ìw,Èa "__next__"],
#[ÌA,SX z TI TO i1 i2 S1 S2],
#[Íx,(#[bC].length-(2-1-1))],
#[ØY,(G,h,T,j,k,J,K,L,N,O,P,l,n,Q,q,hideAll_none _ Ù)],
#[lr,by rw[cQ];obtain i|j|rfl|rfl|q:=h;rw[fd,t,a];rw[fd,c,b]],
#[ls,by refine((o,e,ex.1),λa f=>?_);cases f;exact(o,e,ex.2.1)],
#[Òf,Ël=aa (Ì::Âk)],
#[Ðb,ÒJ K Ãz=aa true],
#[Ç8,(Φ:Int)],
#[Ís,(ÄI+1)],
#[lx,(Xi n ks k f x)],
#[Úv,(.tup [.int (i:Int),.ref x.1])],
#[Ù0,(.lst ((À7 Àm).map λj=>.int (WO ss j)))],
#[Ä0,(λ_ _=>rfl)],
#[Ã2,(EP X a b Q)],
#[ÅE,(_,e,rfl)],
#[ÙP,["groves", "begin", "end", "most", "price", "middle"]],
#[ν,Zt k X.A],
#[Õ4,Y5 a ((n,k,)::r) b=Y5 a r ((n,(a.lookup n).getD 0,)::b)],
#[ËX,H a=aa (.ins C dx fs)],
#[Ãj,ē Áy],
#[ÃJ,2<=Àe],
#[Îc,(λe=>decide (e.1=k))],
#[Í1,(ŋ d)],
#[Íc,(Æ4 Ę env)],
#[ÌQ,(mirror_perm _ _ _ _)],
#[ÉZ,(.tup (k.map kV))],
#[Îo,(.ins ao g Îq)],
#[Ôe,((Èn 6).take 4)],
#[Ól,((ψ:Int)-(e.g:Int))],
#[ÒP,#[iE,K,Óh,ÂS]],
#[ÒN,#[e4,1,"alike_from",ÄM,R3]],
#[lT,by rintro v j ⟨x,g,i,k,d⟩;rw[je,c,d,d];cases k;refine bp ?_],
#[lU,by obtain _|_|_|_|o|_|_|e|ex|_:=é p _ b;exact(o,e,ex)],
#[ċ,(·.1)],
#[ÙB,(ÆJ K Ãz "__get__" = aa (aa Ío))],
#[Ú7,(X.m,Ĳ,f,X.L++[e],s',đ+1,Ĥ+k,ĥ+q,w)],
#[Ø5,∀self:ae,refuseLoop self "__setattr__" bm=pure ()],
#[lZ,by rw[I];exact .inr (.inr (.inr (.inr (.inr (.inr (Ο))))))],
#[Ú1,M1f P w K mg Â 1 ao "row_of" ÁD (MT ax ao aD)],
#[Ûl,Df P w K mg Â 4 "written_things" ÇF (MG K aB)],
#[ÛV,Df P w K mg Â 4 "order_in" ["row"] (MC K ç)],
#[Üw,(upd H7 d (.dT (x++[(Kb j (j+1+i) (1+l),.ref r,)])))],
#[l4,(Äm { cls:=.type "dict",Ó:=.dict #[] })],
#[Ó0,(.tup [.int (i:Int),.str o])],
#[Ü0,((c++Xg (.str k)).map Ç)],
#[Ôh,#[e4,2,"_law_pick",ÍA,R6]],
#[ý,#[9,X]],
#[l9,by show wpS _ _ _ _ (get >>= _) _ _;refine Ō (ÉP ?_)],
#[ma,by show av _ _ (Ðl ã _) _ _ _;refine(Qai X2 m).at ?_],
#[mb,by rw[Du];obtain W|⟨m0,w0⟩|turn:=hR ÁZ hD],
#[ÙQ,["things", "room", "ways", "runs", "cost", "tree"]],
#[Õn,Q6 PySem.W.kitx_list ĵ (_,g,rfl) e Àw h],
#[Õo,Q6 PySem.W.kitx_dict ĵ (o,g,l.1) e Àw h],
#[Ûu,(∀f,mg x=aa Ĉ->ô K aU y=aa ŉ)],
#[mg,(low n (Z6 8 N n) i)],
#[ÃV,(ZJ P w)],
#[Ág,(Y6 M n)],
#[ÂT,(X.L++[e])],
#[Îs,(Win ģ (ZC L) w)],
#[ÙA,((a=ah\/X2 λdx fs=>a=aa dx/\H dx=aa (xdO dx fs)))],
#[Óy,(_,rfl,rfl,_,rfl,Y3 ?_)],
#[ÈM,x ≠ "__name__"],
#[mo,by rintro _ s8 ⟨lO,H8,I8,q8⟩;have P2:=iW _ s8 lO H8 _ I8 q8],
#[Êj,["kind", "many"]],
#[Ám,PE X a ta],
#[Êo,(ÀG<=1000)],
#[Ên,(ľ<=1000)],
#[ÊM,(e.n,(ì,e.g,),)],
#[Óe,(ZW ć ě=0/\I.n<J.n)],
#[Òy,((Àk z y).map Ç)],
#[ÒT,#[e4,1,"order_at",Êg,RY]],
#[Ş,#[3,Yj]],
#[my,by refine ai (Ñu ?_ ÅQ)],
#[Ña,(zH1 c S1 a,g,d,tk,os)],
#[ÓQ,(_,rfl,z,rfl,_,rfl,?_)],
#[Å6,λz=>d ÃB],
#[mC,by refine Ìg rfl (ÕV ?_)],
#[mD,by obtain⟨m,rfl⟩:∃m:Nat,r=(m:Int):=(r.toNat,by lia)],
#[mE,by obtain _|q1|_|q3|q4|q5:=f3 b k;exact(q3,q1,q4,q5)],
#[Ñe,ũ x=aa .local],
#[ÄN,["numbers"]],
#[ÒH,["desk", "heads", "names"]],
#[Ìz,Ã ae->ak->Prop],
#[Š,À af],
#[Ţ,À aK],
#[Ã8,ų Í],
#[ÜB,(upd (upd H3 rg (.rng 0 ÃH)) B (.lst Ôn))],
#[ÒM,(by show (0:Int)<_;decide)],
#[Å5,(aa (m:Int))],
#[Îz,(Z3 ģ s (ZC L))],
#[mQ,(S.lo-S.lo)],
#[Ëf,(.tup (p.1.map kV))],
#[Èj,(.lst ÛS)],
#[ÎM,(":" : am).length=1],
#[ÄP,#[gr,"row"]],
#[ÄV,#[Zh,Æh]],
#[ÛM,(_,rfl,rfl,_,rfl,Y3 (_,rfl,z,rfl,e,q))],
#[mX,by rw[I];exact .inr Î6],
#[mY,by rw[RC a Á]at q;exact q],
#[mZ,by refine Z5 β β],
#[Ùu,YN ü X.w X.K ė ň CX0 k f fd ps sp],
#[ÊY,(am×À V×À V)],
#[Ú2,D1f P w K mg Â 5 "refuse_break" Êh (MU K ap)],
#[ØR,(NB Ŵ a ((X.pn++d).map ċ))],
#[ÕW,((e::es).length+([]:À È9).length+ÑU<30)],
#[È1,Ò],
#[ÓY,(.inr (.inr (.inr ÁW)))],
#[Ço,(_,rfl,q)],
#[ÖZ,í a=aa (seqObj "list" π n)],
#[ÐS,ũ x=aa .free],
#[Éf,Î Ü3 Qt],
#[ÉI,[z,TI,TO,i1,i2]],
#[Êi,["name", "key"]],
#[Ç6,Ye P ts a k q],
#[ÏT,Åt K Ĉ=true],
#[Ñd,Nat->À V->St->Hp->Prop],
#[Çp,À (κ×ae)],
#[Öc,(∀f h j,N f h j->∃l,l<m/\W (i+1) l f h j)],
#[Ø7,(∀a dx,à x=aa a->Çv=aa dx->b≠dx)],
#[ÐH,(λf vs=>PySem.call f vs)],
#[Ül,(upd #[iM,H3,N,Èn,10] p (.dK (YU fvL)))],
#[Êd,(j.objs.size+1)],
#[ÏO,(f (.int i t) (.int j u))],
#[ÐE,(am->Ã ae)->aJ->Prop],
#[ÃM,(YO L e.n)],
#[ÜP,(Xp CX P w K mg Â N o j f t A Ü s H E)],
#[Êt,(XY s k v)],
#[Úr,(.tup [.int (ÇR 0),.int (ÇS 0)])],
#[ÇJ,(.ref ar::YE)],
#[ÂZ,(.frz o u)],
#[ÓH,#[Zh,#[Zl,(WG T.g_DONE)]]],
#[Úm,(_,rfl,_,_,rfl,rfl,_,rfl,Z5 β β)],
#[Ü4,λk hk=>nomatch hk],
#[nx,by rw[Æ d]at h2;rw[Æ (f.trans d)];exact ih h1 h2],
#[ÀP,.inl rfl],
#[Õ9,(notedBy Ð A env λe s'=>R (.error e) s')],
#[ÒE,(ÀX Ũ ws)],
#[Î0,(a<=XR z/\XR z<=b)],
#[Ìa,([]:À (af×aN))],
#[ÎE,(YC L e.n ks k' a)],
#[ÌP,(KK κ Ě (n-1))],
#[ÀT,(.str z)],
#[ÀL,(.ref x)],
#[ÕX,(.Call (.Attribute o name bz) (e::es) [] br)],
#[ÚY,#[Zd,‹1›,#[ZB,Xn,#[ZH,‹3›],‹2›]]],
#[Ñq,Ã Nat->Η->Prop],
#[ÜF,Df P w K mg Â 4 "near_plan" ÁE (Mt K)],
#[Ôk,(e-b<=i\/(e-b=i+1/\b<j))],
#[ÕD,(ÅH name d D m a F kV G L M g ct)],
#[ÒD,(F.args_str_split_2 _ _)],
#[Û7,(.tup [ß 0,ß (10 ^ (6:Int).toNat)])],
#[ÛT,(.lst (#[bS].map Ç))],
#[Ú8,(.inr (.inr (.inr (x,(ÈB f).1,z))))],
#[ÒO,#[e4,2,"alike",ÂL,R4]],
#[ÛD,#[Zn,Yu,#[ZA,UG,‹0›,Ú],Ý,č]],
#[nT,by unfold Xw at a;unfold ÁA;rw[Q8]at a ⊢;rw[<- h.1]],
#[nU,by refine ÓP;rw[n,Ts];refine Z5 (λb=>Y3 ?_) (λb=>?_)],
#[nV,by have c:=congrFun ih n;unfold hdL at c ⊢;rw[Q8,Q8,d]],
#[Öj,(λx=>([]:À (am×ae)).reverse.lookup x)],
#[Ùk,(å C::.ref B::YE).contains ã=true],
#[ÖP,(S1.raw_keep #[gl,c,n,Äq,n] D.s1z I)],
#[ÛU,((∀j y,j<i->ð[j]? = aa y->Yd y=true))],
#[Û5,#[ZG,L,o,#[Zd,‹1›,‹2›,Ú],Ë]],
#[Ñi,(o,k it Ù o e,r)],
#[ÛL,(_,rfl,k λh=>g (û h.1))],
#[Êp,(_,rfl,?_)],
#[Öp,(0,[],_,_,I4,xY,λb k=>(f3 b k).1,?_)],
#[ÓK,∀e∈nm,e.1.length<=8],
#[Æd,λx:ZP=>x.1],
#[n7,by rw[Ze (λz=>by rw[z,e]at q;cases q;exact a)];exact q],
#[ÌZ,k.isLeft=m.isLeft],
#[ÈS,ae->ae->Sem ae],
#[À6,[.ref p]],
#[Ár,[.ref a]],
#[ËL,Nat->St->Hp->Prop],
#[ÜE,Df P w K mg Â 5 "runs_of" ÍM (MA K)],
#[Úu,Cf P w K mg Â 4 ax "Row" ÂM (NN ax)],
#[Å7,2<=ĩ],
#[À3,.inr rfl],
#[Ìi,(λx=>x.1.isSome)],
#[ÅM,(Áx kV)],
#[Ê3,(ÀR:Int)],
#[Ëg,(fs.map ċ)],
#[Æc,(Ãe H)],
#[ÜY,(Z6 k Ű n)],
#[Ïc,(M.mem_iff.mp ht)],
#[Ïx,(ÃY b o e n a)],
#[Ém,(H l=aa Àt)],
#[Ê4,(0+(i:Int))],
#[Éh,(.type "list")],
#[Å3,(.inl Á)],
#[Ît,(.frz g Å8)],
#[Ë9,((p,w,)::P.zip vs)],
#[ÚS,(((Ŝ λu=>ø u.1).length:Nat):Int)],
#[Ôa,(ÁK-(ō:Int))],
#[ÎB,#[hD,ě,ć]],
#[Êl,#[ft,"number"]],
#[oC,#[e2,kX,cX,M2.ob]],
#[Ûe,#[Zd,#[ZA,(ixG m),Ä4,‹3›],‹2›]],
#[Ó8,#[ZS,#[Zd,Ú,Ú]]],
#[Üg,#[XF,Ý,Ý,#[XF,Ý,Ý,Üi]]],
#[ă,À V],
#[Ûv,λc hc=>ŋ (QY.mp h c hc)],
#[oI,by rw[<- (c.val k).isSome_eq,<- l];exact h _ (ř _)],
#[oJ,by rintro c d ⟨rfl,rfl⟩;exact ū (q _ g j k)],
#[oK,by refine T.t_Merge_play.mf VU (λvs H Q E h=>?_) ÜL],
#[oL,by obtain s|j:=D.ok.has (show x∈(ω).P from b)],
#[oM,by have p:c.heap.DictOf Áa d i:=(g,B,C,j,m,n,D)],
#[oN,by have e:=μ;simp only[Ôy]at e],
#[Év,(λ_ _ z=>z)],
#[Üc,(upd y F (.lst (g.map ß++[.int n])))],
#[ÚE,(upd f o (.lst (h.map ø++[.ref y])))],
#[Çx,(exN e C ah)],
#[ÊN,(ì++ks)],
#[Ç5,(ÀI L e.n)],
#[ÄL,(YR ÅZ)],
#[Çw,(St->XK)->TS],
#[Çc,(Qat Å _)],
#[Çy,(.ref Ãx)],
#[Øx,(.DictComp d f [(c,Ķ,g,0)] l pos)],
#[ØH,(.DictComp b d [(a,Ķ,e,0)] c pos)],
#[ÖU,(.Call (.Name "enumerate" p) [l] [] pos)],
#[ÆG,#[hK,È5]],
#[ÇD,#[gr,"line"]],
#[ÚT,#[Zn,Rk,Óf,#[VE,T.g_MOST_ROWS],č]],
#[Ús,#[Xx,Kf,Í5,Í6,#[Zd,Ģ]]],
#[ØU,∀x c,ζ x=aa c->c≠e],
#[Úg,∀t,v=aa t->H t.1=aa #[fT,t.2.1,t.2.2]],
#[ØS,Ŵ<=Ò],
#[ÚQ,RJ _ #[eH,ÃL,nd] s.1 (Ń s.2.1).1],
#[ÓR,(λh=>Î h.1 Å)],
#[Ĩ,(·.2)],
#[Út,(upd I m (.ins ao z (mgF j p t i g u)))],
#[ÖC,(aJ.SameBut.update ..)],
#[Ů,(ZC L)],
#[Üt,(.tup ([.int #[fC,0]]++[.int #[fC,1]]))],
#[ÜC,(.lst (ZV (ÃT k)))],
#[Óa,#[Vl,‹0›,Ú,T3]],
#[ph,by show (ah,0+Ľ,)=(ah,Ľ,);rw[Nat.zero_add]],
#[pi,by obtain o|p|q:=C d e m;exact(o,p,d,e,l,q)],
#[ÍH,["kind", "word"]],
#[Öm,Y.env=bL c Äl ź Ì],
#[Ìm,(λ_ _ _=>ĝ)],
#[ÎL,(WG T.g_NOTHING)],
#[Îj,(F,D,(ÀH:Int),)],
#[ÁU,(.ref b)],
#[ÍY,(.int #[gk,k,1])],
#[Ía,(.frz g (.dK f))],
#[Ö8,((#[g].push Ñw).get? Ź)=aa Ñw],
#[Î1,#[eL,Yu,0,Ý]],
#[ÙV,#[Zo,LF,Ë,T.b.n_abs,boot_abs,ÃG]],
#[ÊC,(_,_,rfl)],
#[Â1,X.N.Nodup],
#[Â8,PE X o ta],
#[Â6,Ã ae],
#[ÈL,Inv X a b H s],
#[ÓL,(∃s,(s,u.2.1,)∈nm)],
#[Ïy,(λz=>a (by simp[z]))],
#[ÔR,(thn (ha b s d H Q I h) λc s1 e=>?_)],
#[Ñ7,(Ξ ğ)],
#[Ñs,(keyKind' π)],
#[Ïj,(Äa f)],
#[Ûf,(Èa (toString i)).length<=13],
#[ÂY,(a == bE)],
#[ÐL,(V4 Ép H)],
#[ÃC,(Qb Á)],
#[Ò7,(ŏ ċ)],
#[Ðg,(ÆA (Qaa _))],
#[ÉM,(.type "str")],
#[ÈV,(.type "int")],
#[Ãp,(.dT kvs)],
#[ÑL,#[iZ,kvs.any,a,a.1,k]],
#[ÔQ,#[fs,ÐT,ÜM,I.bk]],
#[Ûx,((ah,rfl),rfl,λj h=>by lia)],
#[Ûy,((_,rfl),rfl,λj hj p l=>?_)],
#[pT,by subst f hw g;obtain m|p|D|q|r|u:=d it Ù],
#[pU,by rw[fA,a,b,Q];refine bw (Vp I c hm d ?_ hn f)],
#[pV,by rw[bH];have C:Ŕ[i]? = aa Ŕ[i]:=Qad m],
#[pW,by rw[arm_exec_Raise];refine ai (bK (JV hr.hd ?_))],
#[pX,by obtain m|rd|sd|L|s|nb|li|lo|S|l|N|rfl|_:=h],
#[pY,by obtain G|h|T|j|k|J|K|L|N|O|P|l|n|Q|q:=x.ex],
#[ÖI,τ Í TI (.ref i1) (.ref i2)],
#[Ú5,(λd=>Î (û rfl) d)],
#[Úd,(if (hd n).isSome then aa n else ah)],
#[Õl,(Åc C Ò)],
#[ÚB,(@Kj _ _ _ _ _ _ _ _ Ģ Ë Ë)],
#[ÖS,(.Call (.Name "zip" p) [a,b] [] pos)],
#[ÙU,((a % 2147483629+k*k*7919+11)*48271)],
#[Úp,#[Zo,(Y2 K),Ë,ÁF,Qn,ÁG]],
#[Ö4,#[Q].get? a=aa (seqObj "list" #[] _)],
#[ÏC,(a,b,I.unwish,q)],
#[ÎY,(_,_,_,rfl)],
#[Ô5,(.int (g i j),H,ř _,ā,q)],
#[ÙY,q p _ b (_,_,Zb,Qap _) (Zf b _)],
#[Öi,ź=ÁZ+1],
#[qd,by have:=Ul n _ k h;refine(λz=>?_,λm a=>?_)],
#[Ïl,e=x\/H e=aa (.own x)],
#[ÐF,d.params.defaults=[]],
#[Á4,["word"]],
#[Á5,["text"]],
#[ÍR,["_law_script"]],
#[Íf,Ys X.K fd ps []],
#[Ë7,ė x=aa ã],
#[ÛX,W6 o=(XU f os).map λp=>(f,p.1,p.2,)],
#[Çh,VH H kvs xs],
#[Öl,ÈR 0 _ _ cI λb _ A e=>iB b A e],
#[ËQ,OpR X (aV op) r],
#[ÁN,À Env],
#[Ïv,HOk ü X.w H' h'],
#[Úe,(λe=>if e.1=k then (e.1,v,) else e)],
#[ÔJ,(λb ps e=>(#[],by rw[e];simp))],
#[ÅC,(x=.ref a)],
#[Æu,(upd H a o)],
#[ÆN,(È6 us)],
#[Ñ8,(hideAll_get _ f hc)],
#[Èf,(hdM Æi)],
#[ÓN,(by have:=h.tot;lia)],
#[Ç4,(ÀI L n)],
#[ËP,(Ã7 .Add)],
#[Ón,(Z6 k M n)],
#[ÚD,(Z4 s (ZY M)=ah\/Z4 s (ZY M)=aa ah)],
#[ÜQ,(YH X c N' Ò s H fp)],
#[Îd,(Æs z)],
#[Ï5,(Nat.lt_succ_self _)],
#[qG,(Nat.log2_lt z)],
#[Óp,(ÀZ e he).at'.ob],
#[Óo,(À Int×À Int)],
#[qJ,(I.ok.bs b o e)],
#[Õp,(ÆH Õq)],
#[Ó5,(1<=ÂO/\ÂO<=m)],
#[Âs,(.ref t)],
#[Âa,(.ref d)],
#[Æ3,(.ok .next)],
#[Ï6,(.Attribute e f pos)],
#[ÛW,#[iE,K,Óh,#[Zd,ÓU]]],
#[ÍD,#[gr,"numbers"]],
#[ÆZ,#[fO,"len"]],
#[Óg,ÊA=(ż:Int)],
#[qU,by rw[82];exact Ü4],
#[qV,by rw[Qa,Qa]at this;exact this],
#[qW,by refine Ō (wpS_lift (Æ7 Ãl))],
#[Ök,r9.extBut b A (QG (Ql e)) (Qc _ e)],
#[Ùp,(aa #[fO,"type.__getattribute__"])],
#[ÔG,(ÔE Ĉ (.ref y))],
#[ØV,(NB Ŵ H É9)],
#[Òc,(a,b,I.unpnd,q)],
#[Ïm,∃u,ĉ e=aa u],
#[ÑC,∀t∈ts,YJ t.2=sh],
#[Ô2,∀b H,Pv Ö b H->Ħ b H],
#[Ü5,λb k=>QB (xW b k) #[fs,tI,Qaa,_]],
#[q6,by rw[I];refine(by decide,?_,.inr ÁW)],
#[q7,by rw[Æ rfl]],
#[q8,by rw[e];exact r.fpOk ò (r.hok.fresh ò)],
#[q9,by rw[Qb l]at c;rw[Qb Á]at e;cases c;cases e],
#[Ò2,[.inl k.1,.inl k.2]],
#[È8,Zt (k+1) X.A],
#[ÏS,Vm Í x dx C mA],
#[Ã0,PE X b tb],
#[ÄC,KV kvs vs],
#[É0,H a=aa ÁB],
#[Äb,Cls X.K C],
#[Äc,(vs++dvs)],
#[Û3,(rI0 λi j=>V.bl (decide (i<=j)))],
#[Üe,(os.take ō)],
#[Î8,(ÃR 6)],
#[rl,(ÅB o j Ò f t)],
#[Ñn,(by show i-1<_;lia)],
#[ÐW,(by rw[Qa]at a;lia)],
#[Ö2,(aR.«list.sort» { pos:=Ár })],
#[ÊL,(Y8 P).Nodup],
#[rq,(Wx (st:=st) l c k)],
#[ÒW,(U4 C H p k f ss g)],
#[ÙJ,(PySem.strKind_is ü X.w z t)],
#[És,(Or.inr rfl)],
#[ru,(ÕE a)],
#[ÄQ,(.ref ar)],
#[Êb,(.ref B::YE)],
#[ÜW,(.lst [.int a,.int b,.int (c+1)])],
#[Én,(.bool true)],
#[Ö7,#[g].objs.size=Ò+1],
#[ÜH,#[ZG,lM,c,#[Zd,#[il,Áf]],Ë]],
#[ÛE,#[Xx,JG,ÍV,ÍW,ÂS]],
#[ÒY,#[XJ,‹0›,Ú]],
#[rE,by show wpS _ _ _ _ (if f>0 then _ else _) _ _],
#[rF,by rw[È ä,Æ rfl]],
#[rG,by rw[Qbe];refine(by lia,by lia,by lia,?_)],
#[rH,by refine Ō (w_rev ?_)],
#[rI,by obtain oe|vs|T|oT|eU|tW|uX|tY|_:=c3.ex],
#[Ôz,Ē (λq=>nomatch q)],
#[ÂC,Zt j X.A],
#[Î5,Xr f=aa (ks,a,)],
#[ËN,Int->Int->Prop],
#[ÕS,(λw hw=>P6 b c r fs w #[eE,hw])],
#[Ìs,(ys.map Ç)],
#[rP,(È (ÙG a))],
#[ÛO,(by rw[eT];exact ń #[fH,QE])],
#[ÙC,(ÒJ K Ãz=aa true)],
#[Î7,(ŏ aQ.str)],
#[ÂI,(Key×V)],
#[ÖB,(F.args_tuple_iterator_next_1 _)],
#[Îw,(1<=ď)],
#[Üq,(.tup [.ref aH,.ref aD,.ref ap])],
#[Íj,(.str name tk)],
#[Ú9,(.inr (.inr (.inl (z.trans i))))],
#[ÍE,#[gr,"number"]],
#[ÌU,#[fO,"sorted"]],
#[ÚI,(_,rfl,rfl,_,rfl,Xu rfl ?_)],
#[Øt,λf b=>(bN Áa).is Í f b],
#[r3,by rw[fA,g,i,Q];refine bw (WV I b hm ?_ c)],
#[ļ,œ],
#[r5,by rw[Qa];exact ZD Á],
#[ÙN,["_law_left_here", "_law_some"]],
#[ÓF,(λz=>Àa Á8)],
#[Óm,(λe=>(e.1,e.2.2,))],
#[ÒB,(Ìf _ _ _)],
#[ÙT,(if b=true then (1:Int) else 0)],
#[Øv,(by show ÉL+1<Ás;lia)],
#[Ñj,(by rw[aO];decide)],
#[ÀV,(aw ?_)],
#[ÖE,(Æ6 (.ref i))],
#[ÙD,(Òw K D).isSome=true],
#[Ùf,(ÜN _ FV.quiet)],
#[ÚC,(.tup [kV (.inl e.n),.ref e.p])],
#[Ùn,(.FormattedValue e (-1) ah pos)],
#[ÔT,(.BoolOp .And (a::b::Č) pos)],
#[Ï2,#[fh,t,Âj,x,r]],
#[Ï1,#[fh,t,Âh,i,r]],
#[ÔK,#[e8,b,u,í,u,ĉ]],
#[Ôo,#[Zd,‹2›,ÁH]],
#[ÖW,#[iZ,kvs.find?,a,a.1,k].map Ĩ],
#[sp,by have xX:∀b∈fp,b<ź:=Ü5],
#[sq,(Ä3 Ĩ)],
#[sr,a_,b_,c_,d_,by have a_:(upd b_ c_ d_) c_=aa d_:=Zb],
#[ss,a_,b_,c_,d_,e_,∀b a_,b_ b=aa a_->b≠c_->(upd d_ c_ e_) b=aa a_],
#[st,a_,b_,c_,(upd a_ b_ c_) b_=aa c_],
#[su,a_,(Ò+a_)],
#[sv,a_,(ď<=a_)],
#[sw,a_,Õk K a_=true],
#[sx,a_,b_,(ŧ a_ a_ b_-ŧ a_ 0 lo)],
#[sy,a_,by refine ai (seqEpoch_at a_ rfl ?_)],
#[sz,a_,#[fR,a_,ß]],
#[sA,a_,#[e7,a_,ß]],
#[sB,a_,b_,c_,d_,e_,Df P w K mg Â a_ b_ c_ (d_ e_)],
#[sC,a_,b_,(Áe,λa_ b_=>?_)],
#[sD,a_,#[eH,a_,Àc]],
#[sE,a_,b_,(by rw[Ze a_];exact b_)],
#[sF,a_,b_,c_,#[ZG,a_,b_,#[fB,c_,1],Ë]],
#[sG,a_,b_,(H a_=aa (.lst b_))],
#[sH,a_,b_,(a_,_,rfl,rfl,b_)],
#[sI,a_,(ZX I q (ħ not a_))],
#[sJ,a_,b_,c_,by rw[fA,a_,b_,Q];refine QaN (pl:=pl) #[eX,he,a_,b_] c_],
#[sK,a_,(_,É a_)],
#[sL,a_,ËY K a_ ÁS=true],
#[sM,a_,b_,hdS (a_ (b_ ZK))],
#[sN,a_,(.dK (kvN a_))],
#[sO,a_,b_,c_,(@a_ _ _ _ _ _ _ _ _ _ _ d.xc b_ ‹0› ‹c_› Ë)],
#[sP,a_,by show (Y8 (ZR a_)).Nodup;rw[<- Xs];exact ů],
#[sQ,a_,b_,c_,d_,by obtain its|a_|b_|c_:=Ân d_],
#[sR,a_,b_,by rw[È a_]at b_],
#[sS,a_,b_,(a_++Ġ b_ ah)],
#[sT,a_,b_,c_,d_,by rw[a_ (λb_=>by rw[b_,c_]at d_;cases d_)];exact d_],
#[sU,a_,b_,#[Zw,a_,b_,á]],
#[sV,a_,b_,∀b∈fp,Xa X a_ b_ b],
#[sW,a_,(.tup [.int a_,x])],
#[sX,a_,b_,c_,d_,e_,by obtain a_|b_|c_:=d_ e_],
#[sY,a_,by have hb:(g == a_)=true:=beq_iff_eq.mpr h],
#[sZ,a_,b_,c_,#[ZB,a_,‹b_›,‹c_›]],
#[s0,a_,b_,by obtain e|n|ne|a_|d:=θ p b_],
#[s1,a_,λ_ _ _ _ _ st h=>a_ st h],
#[s2,a_,(ĸ (YY (YR (a_ ZK))))],
#[s3,a_,b_,c_,d_,e_,#[ZN,#[Zn,(a_ b_),‹c_›,d_,Àd],e_,ï]],
#[s4,a_,([(a_ : am)]:À am)],
#[s5,a_,b_,c_,d_,by obtain a_|b_:=ÈH b o e n c_ d_],
#[s6,a_,b_,c_,by refine(a_,λb_ c_=>?_)],
#[s7,a_,(show b∈([]:À af) from a_)],
#[s8,a_,(.lst ((Èp a_).map Ç))],
#[s9,a_,b_,∀p∈X.pn++a_,p.1≠b_],
#[ta,a_,b_,(.inr (a_,_,rfl,rfl,b_))],
#[tb,a_,b_,c_,(H d=aa (.ins a_ b_ (dkF c_ nd)))],
#[tc,a_,(YY (YR (a_ ZK)))],
#[td,a_,b_,(.compLoop a_ 0 b_ ÀC Ü6)],
#[te,a_,Ď K t a_=aa false],
#[tf,a_,b_,#[ZB,a_,b_,Ú]],
#[tg,a_,b_,c_,∀b o,H b=aa o->b≠a_->b≠b_->c_ b=aa o],
#[th,a_,#[XJ,‹0›,(@a_ _ _)]],
#[ti,a_,by rw[È a_]],
#[tj,a_,b_,(ÈF b o e n a_ b_)],
#[tk,a_,b_,c_,d_,(λb a_ b_ c_=>(d_ b b_).trans c_)],
#[tl,a_,b_,c_,by obtain f|fd|F|a_|b_|c_:=F.ex],
#[tm,a_,b_,(.tup [.int a_,.ref b_])],
#[tn,a_,b_,c_,d_,(upd a_ b_ (.dK (c_ d_)))],
#[tp,a_,b_,(a_ : am)=⟨[b_].toArray⟩],
#[tq,a_,b_,c_,d_,e_,by have a_:b_ c_=aa (.lst ((Èp d_).map Ç)):=e_ ▸ Zb],
#[tr,a_,(by rw[a_];rfl)],
#[ts,a_,b_,a_ (ZX I q (ħ not b_))],
#[tt,a_,b_,c_,by obtain z|its|a_|r|b_|e:=I.lstM c_],
#[tu,a_,b_,by obtain Ğ|this:=Ës b a_ b_],
#[tv,a_,by unfold a_ at this],
#[tw,a_,(vs=[.ref d,.ref sl,.ref a_])],
#[tx,a_,b_,c_,a_ b_=aa (.lst ((Èp c_).map Ç))],
#[ty,a_,by obtain f|a_|F|m|b:=T.ex],
#[tz,a_,b_,by exact a_ (ZX I q (ħ not b_))],
#[tA,a_,b_,c_,d_,by obtain B|M|a_|hM|b_:=I'.fly c_ he jH jI d_ hp hx],
#[tB,a_,b_,c_,#[Xm,a_,æ,b_,‹0›,c_]],
#[tC,a_,by rw[È #[gp,a_,Á]]at q],
#[tD,a_,(Vh a_ rfl ä)],
#[tE,a_,b_,a_ b_=aa .cell\/a_ b_=aa .free],
#[tF,a_,(by rw[a_];simp)],
#[tG,a_,(vs=[.str x,.str y,.int a_])],
#[tH,a_,b_,#[ZA,UG,‹a_›,‹b_›]],
#[tI,a_,((a_:Int)-1)=((a_-1:Nat):Int)],
#[tJ,a_,b_,(Qk (f:=λx:Zz=>(a_,x,)) b_)],
#[tK,a_,b_,c_,a_ λb_ c_=>h b_ (Qw _ c_)],
#[tL,a_,(.lst [.ref a_])],
#[tM,a_,b_,by rw[Æ a_]at b_],
#[tN,a_,b_,(.Attribute o a_ b_)],
#[tO,a_,Áq a_ Ĉ=true],
#[tP,a_,λb a_=>Qam _ _ (Àb a_)],
#[tQ,a_,b_,c_,d_,e_,by have a_:=ÀZ e b_;rw[e2,c_,d_,e_]],
#[tR,a_,by rw[fd,t,a_]],
#[tS,a_,#[fw,o,í,a_]],
#[tT,a_,b_,(by rw[a_];exact Qp _,by rw[a_,b_])],
#[tU,a_,b_,(.inr a_,.ref b_,)],
#[tV,a_,b_,c_,ô K aM a_ = aa (aa (.str b_ c_))],
#[tW,a_,#[eN,aM,a_]],
#[tX,a_,a_->Η->Prop],
#[tY,a_,b_,c_,(a_,(b_ b Ëz).trans c_)],
#[tZ,a_,b_,c_,by rw[fA,e,f,a_];refine b_ #[eX,c_,e,f]],
#[t0,a_,ÂB a_ z TI TO .ellipsis],
#[t1,a_,b_,(.int a_,H,ř _,ā,b_)],
#[t2,a_,Î rfl a_],
#[t3,a_,b_,(by rw[a_,b_];lia)],
#[t4,a_,b_,(mirror Ě a_ b_ ((b_-a_) / 2))],
#[t5,a_,b_,c_,d_,e_,(thn #[gO,a_,b_,c_] λd_ e_ a=>?_)],
#[t6,a_,(∀H,SqT K H a_ [])],
#[t7,a_,b_,#[ZA,(ixL K),‹a_›,‹b_›]],
#[t8,a_,b_,c_,#[Ym,a_,Ņ,b_,‹c_›]],
#[t9,a_,(((a_-lo).toNat:Nat):Int)],
#[ua,a_,b_,c_,Ân (þ (K:=X.K) (a_ b_ c_))],
#[ub,a_,b_,c_,#[Zd,#[cw,a_,b_],#[cw,c_,b_]]],
#[uc,a_,b_,c_,d_,(upd a_ b_ #[fZ,c_,d_]) b_=aa #[fZ,c_,d_]],
#[ud,a_,b_,by refine(a_,b_,?_)],
#[ue,a_,b_,by rintro i m a_ H ⟨rfl,b_,p⟩],
#[uf,a_,(Àm<=a_)],
#[ug,a_,by exact .inr (.inr a_)],
#[uh,a_,b_,#[gN,ŕ,a_,b_]],
#[ui,a_,b_,c_,(∀H,SqT K H a_ #[fY,b_,c_])],
#[uj,a_,b_,#[h7,a_,b_,Èi]],
#[uk,a_,b_,c_,d_,(by rw[<- a_ b_ c_];exact d_)],
#[ul,a_,by rw[È a_,Æ Á]],
#[um,a_,(upd H a_ ÁV)],
#[un,a_,b_,c_,by exact(a_,(b_ b Ëz).trans c_)],
#[uo,a_,b_,T1 (X:=X) S a_ Äl b_ x],
#[uq,a_,#[e2,a_,hd,h.ob]],
#[ur,a_,a_ l (ÜR).toArray],
#[us,a_,b_,∀e,PSs (ÄH e) (a_::b_) ts],
#[ut,a_,∀b∈a_ M n,b∈M],
#[uu,a_,b_,c_,((ÎS a_ b_).str _ (Qm c_))],
#[uv,a_,b_,c_,d_,e_,by have a_:(upd b_ c_ #[fZ,d_,e_]) c_=aa #[fZ,d_,e_]:=Zb],
#[ØO,∀T,Ò<=T->NB T],
#[ux,by show av _ _ (seqItems? Âs >>= _) _ _ s],
#[ÛI,ħ (λs:am=>s.cps[0]?) h],
#[Õ8,Î rfl (S.nocell _ (SY q))],
#[ÆK,Yt X.K C f],
#[Õd,ËY K C name=true],
#[ÚW,(λe=>(e.1,e.2.2.1[e.2.2.2]?,))],
#[ÕU,(λa c i e=>f its d g a c i e)],
#[ÛB,(Ŕ[0]? = aa 48/\z ≠ "0")],
#[ÙF,(upd l Ís (exN Ís C ah))],
#[Ød,(aV .Lt (.str x t) (.str y u))],
#[Øb,(aV .Lt (.int i t) (.int j u))],
#[Èg,(ZC Æi)],
#[ÊE,(Z6 8 N n)],
#[ÇB,(YY ÅZ)],
#[ÜZ,(XY s (ZY M) (aa (S,R,Ç3,)))],
#[ÕK,(PySem.F.args_tuple_add_2 _ _)],
#[uN,(Ġ ÀD a.cps)],
#[ÛZ,(List.length_filterMap_le _ _)],
#[Ç1,(À Int)],
#[ÔV,(.BoolOp .Or (a::b::Č) pos)],
#[uR,#[ti,Á]],
#[Çm,#[hK,Ê]],
#[Úh,(λz=>?_,λz=>?_,λz=>?_)],
#[È7,(us,[])],
#[Ñl,(rfl,rfl,rfl)],
#[uW,by simp only[aQ.showable,Ãs]],
#[uX,by rintro i c e g a ⟨⟨v,rfl⟩,rfl,k⟩],
#[uY,by obtain m|hn|_:=id F.loc;rw[Yl]at hn],
#[uZ,by obtain f0|f1|f2|f3|f4|f5:=m it Ù],
#[ËV,ď<=aq],
#[ÛK,k λh=>i (û h.2)],
#[Ö3,ÑD ha (λ_=>#[])],
#[Ë8,am->Ã aY],
#[ÙE,Î this (Ì2 (Qaa _))],
#[ÜX,[.inl (ZY N).1,.inl (ZY N).2]],
#[Å0,["thing"]],
#[ÙL,["one", "other", "far", "at"]],
#[ÒI,["desk", "heads"]],
#[Åx,ZF dvs ds],
#[Ön,Y.env.locals=ź],
#[Åy,VL CX X E],
#[Õf,Q v { s with õ:=œ+1 }],
#[ËZ,PE X ι tv],
#[Åm,PE X e te],
#[Ëa,Ã Ê],
#[ÑY,List.find?_some a],
#[Ì6,À (TE×TE)],
#[ËK,Inv X c d H s],
#[Éu,Ë4],
#[ÐA,ÆA ò],
#[Â4,ē ae],
#[Ò9,(∃xs,o=.tup xs)],
#[ÚJ,(λj hj=>by rw[Wb,È hj])],
#[Êc,(xdO dx fs)],
#[ËO,(tOp r ta tb)],
#[Î3,(Ó4 i)],
#[ÓZ,(Èk<=90)],
#[Õa,(p f D g E x y v u _ F B l G)],
#[Óq,(low e.n ÎA i)],
#[Ôf,(Èn 10)],
#[Ëu,(frs ŵ)],
#[Ôj,(exO e au (aa d))],
#[Ñm,(by show i<_;lia)],
#[Õx,(å Ź::us)],
#[Ös,(aS lp Év λ_ _ z=>ÂK)],
#[Ï4,(Zx f y fs)],
#[vB,(Zx f v fs)],
#[ÓW,(XV c os)],
#[ÛP,(XQ c os d)],
#[Öu,(Ád sep ys)],
#[ØB,(PySem.F.args_dict_get_2 _ _)],
#[Íb,(Iti d o kvs)],
#[Åu,(ř _)],
#[Ö1,(Fin.done (Flow.ret Àq))],
#[Ãy,(.ref B)],
#[Ô9,(.Compare a [op,i] [b,c] pos)],
#[Õy,(.Call (.Name x p) [] [] pos)],
#[ÊS,((m:Int)+1)],
#[Ø4,(#[ji,a].contains ÁU=true)],
#[Êw,(Ů).Nodup],
#[Ék,#[hX,_,_,q]],
#[Â5,#[hG,ae]],
#[ÍT,#[fC,ÀA]],
#[vS,#[fA,aj,σ,Q]],
#[Új,#[e4,2,"liken_from",ÄM,NP]],
#[Ûn,#[e4,15,"do_grow",Àl,Ûd]],
#[Û1,#[e4,1,"_law_is_of",ÇG,MB]],
#[Õ7,∀b∈fp,b<Ò],
#[Öf,∀b∈fp,b<ÁZ],
#[ÕN,ÒL=Ć],
#[vZ,by show av _ _ (field Án 0 >>= _) _ _ s],
#[v0,by rw[show ("\n" : am).length=1 by ac_rfl]],
#[v1,by rw[e,a,ÒF,Nat.sub_zero,Qa2]],
#[v2,by rw[Ē e]at a ⊢;exact b a],
#[v3,by obtain ⟨T,j⟩|_|_:=é e _ he],
#[Ô8,lastMarks [op,i] [b,c]=false],
#[v5,by have N:=C e he;rw[e2,de,gW,N.at'.ob]],
#[Öe,ÐN c Ì=pure Äl],
#[Õs,Vk P w K mg Â A Ü s H],
#[Ö0,ÑB κ ÉQ],
#[ő,Gl X x],
#[Ùv,(λv eJ c8=>ai (bK (aw c8)))],
#[Üo,(λe=>#[Zh,#[ij,1,U9.nd,2]])],
#[Úi,(upd H sd (.dT (kvS Êt)))],
#[Öz,(Æ6 Án)],
#[ÖQ,(Qc _ (Qc _ (Qs _ (l _ _))))],
#[Üp,(@JQ _ _ _ _ _ ‹1› Ë)],
#[ÚA,(.tup [.int t.2.1,oV t.2.2])],
#[ÔS,(.BoolOp .And (b::Č) pos)],
#[Ûm,#[e4,15,"do_row",Àl,Ûb]],
#[ÛA,#[WA,V2,‹0›,Ý,č]],
#[ØQ,∀b o,Ãt b=aa o->b≠T],
#[Ûk,λu:af×Int×Ã am=>u.2],
#[Ù7,¬ lcp ć ě=ÀG],
#[wn,by rw[cQ];obtain rfl|q:=h;cases b],
#[wo,by rintro rfl;have e:=Äe a o hk],
#[wq,by have:=RN h;refine(λz=>?_,λm=>?_)],
#[wr,by exact this],
#[Ñc,À4],
#[ÖF,bU z = "str_ascii_iterator"],
#[Øn,[(Èa "default",d,)]],
#[ÑQ,À (Ã aL)],
#[Ód,(λb o h _ _=>h)],
#[ÛC,(vs=[.str z,.int a,.int b])],
#[Ö5,(vs.toArray.zip π)],
#[ÔF,(show à a=aa _ from x)],
#[ÙK,(show 101000<=aq by decide)],
#[Ú6,(nm++[(s,đ,)])],
#[Ñx,(f.symm.trans e)],
#[Ñy,(e.trans d.symm)],
#[Ïn,(c b _ q λz=>z)],
#[ÕP,(by rw[d];exact(_,l,q))],
#[ÏP,(Ã7 .Mult)],
#[ÁR,(am×V)],
#[Úx,(Zx "looked" (.int 0) ÇY)],
#[Úa,(Zx "all_keys" (.ref k) [])],
#[ÑR,(Yr kvs p.1 p.2)],
#[Ùl,(ÜN _ ä)],
#[Ôg,(.tup #[h4,O,G])],
#[Ðf,(.cons rfl .nil)],
#[ÔU,(.BoolOp .Or (b::Č) pos)],
#[Ûg,((∀e∈nm,e.1.length<=8))],
#[Ûz,#[jm,1,"is_key","thing",ME]],
#[ÚR,#[gi,u.2.1,u.2.2.1,u.2.2.2]],
#[ÓX,#[fs,Qx,ZD,Á]],
#[ÙZ,#[e4,1,"_law_mix",Íy,NU]],
#[Üj,#[ZA,(ixG hr),‹2›,ÁH]],
#[Üx,(v,gP _ _ W,X.mono vE)],
#[ÕT,(œ+1,by rw[QA,c])],
#[Û4,(_,rfl,_,_,rfl,rfl,?_)],
#[ËD,λ_ _=>ĝ],
#[wZ,by rw[iA,w,B,g];rw[QaI W]at l;cases l],
#[w0,by show wpS _ _ _ _ (modify _ >>= _) _ _],
#[Ö6,ÑE l π],
#[ÄF,af->Prop],
#[ÍK,["_law_row"]],
#[Õ5,Y5 a ((n,k,)::r) b=Y5 a r b],
#[ÛG,PySem.intText? z=aa (XR z)],
#[ÖH,ÂB Í z TI TO .none],
#[Ëq,Ν x c e],
#[Ím,Â2 l],
#[ÛN,(∀s∈os,Ŗ<=1000)],
#[Ëv,(λ_ _ e=>e)],
#[Øz,(upd H a (.dK (VY kvs k)))],
#[ØD,(t.endLine == u.line)=true],
#[ÎP,(s,e.n,)∈nm],
#[ÍX,(by trivial)],
#[Öh,(by intro y hy;simp at hy)],
#[Ã4,(ay P w)],
#[ÑO,(Yr kvs k v)],
#[Ã6,(2 ^ 62)],
#[Ä9,(.str k)],
#[Ìe,(.str Ũ)],
#[ÄJ,(.ref c)],
#[ÎQ,(.grow s ks)],
#[ÚZ,((Ão Ç).length:Int)],
#[ÍB,#[gr,"rows"]],
#[ÍC,#[gr,"many"]],
#[Ïz,(v,H,I,r,h)],
#[ÚK,(rfl,rfl,rfl,rfl,rfl)],
#[ÖY,ū (q n st B o p S)],
#[Öy,s.heap.IsTupleIter it t i],
#[Òm,rest.length<=aq],
#[xv,by refine Ō ?_],
#[Òp,ÀS<=1000],
#[Ù6,inj (ŋ c)],
#[ÏN,V->Hp->VK->Prop],
#[ÊR,Ι this],
#[ÐM,PySem.W.OpenLaw],
#[ÆD,PE X o to],
#[Á9,À Yf],
#[É4,À Áy],
#[Çl,À Ê],
#[Ñ1,ē (Int×ae)],
#[Ò3,(λz=>h (NM z))],
#[Ûj,(λt=>(t.2.1,aa t.2.2.2,))],
#[Øh,(λa b=>YX b.2 a.2=false)],
#[Èc,(λ_=>?_)],
#[Çd,(ys++[y])],
#[Él,(x=.ref l)],
#[ÒQ,(upd H r ÀB)],
#[ØJ,(upd H p (.tup [kV k,x]))],
#[ÒV,(upd ÒU t T)],
#[Ûh,(thO (YB nm h.2.1) h.2.2)],
#[É6,(Ξ L)],
#[Òo,(ne this Ác)],
#[ÜA,(n,[.inl y,.inl (i:Int)],)],
#[Êx,(kvM L)],
#[Âc,(j+1+i)],
#[Çe,(e ▸ p)],
#[Ùi,(by rw[QK,FV.noName];rfl)],
#[Ùh,(by rw[QK,FV.noAttr];rfl)],
#[Ïi,(bN ÃV)],
#[ÑJ,(bN Áa)],
#[Ò0,(ZW x y=0/\a<b)],
#[Ì4,(YW kvs k)],
#[Ów,(YC L n ks k f)],
#[ÏB,(X.wish E)],
#[Òb,(X.pnd aj)],
#[ÓC,(Ëc z)],
#[Ïg,(Âi a:Key)],
#[Ïf,(Âg a:Key)],
#[ÉF,(Qs _ rfl)],
#[Ô0,(Itr lo n)],
#[ÏF,(Itl K a)],
#[Ñh,(Ite K a)],
#[Ïw,(η x c e)],
#[Ñg,(DVs.mono s hs)],
#[ÑX,(DHs.mono s hs)],
#[ÁQ,(0:Int)],
#[Ô7,(.Compare a [op] [b] pos)],
#[ÎU,(" " : am)],
#[Ôb,#[jc,ō]],
#[yj,#[ja,ok,j,a,st]],
#[ÓJ,#[iL,K,‹1›]],
#[ÆB,#[i3,Loc]],
#[ÚP,#[fa,3,"coming",ö,Nk]],
#[ÚU,#[fa,1,"row_of",ÁD,RI]],
#[Ê7,#[eJ,8,aq]],
#[ÚH,#[e4,2,"way_up",ÄO,Nc]],
#[ØX,(by simp,λT' d=>?_)],
#[yr,by rw[û rfl]],
#[ys,by obtain a|q:=Ñf I c f],
#[Ô6,ÏR op b=false],
#[ØT,Ŵ<=e],
#[ÚM,Win ģ Ů (aa e.n)],
#[ØE,A.freeze hd Àc j],
#[Öd,(∀p∈X.pn++V,p.1≠C)],
#[Úy,(upd H a (.frz j Å8))],
#[ÚX,(e.g<ψ\/ks=[])],
#[ÚO,(by show ¬ 2<=1;decide)],
#[ÕL,(by rw[d];simpa using k)],
#[Úb,([]:À ÁR).length=0],
#[Ü1,(Ġ _ k++[])],
#[yE,(À7 Ļ)],
#[Ùx,(JT (s:=ËW) X I c ?_)],
#[Ùb,(.type "AttributeError")],
#[Ù2,(.lst (ÒR++[.int z]))],
#[yI,((ns.drop 0).take (2-0))],
#[Õ6,#[hF,o.names.lookup,y.1]],
#[Ù9,#[e4,3,"liken",ÂL,NQ]],
#[Ìl,(t,rfl)],
#[Öx,(.str _,H,I,ā,q)],
#[ÎX,Ŗ<=8],
#[ÖJ,ÆV (.ref z) "zip"],
#[yP,by rw[U];have g:=j.trans (Zf I Èq)],
#[yQ,by rw[Qh,Q7]at nd],
#[yR,by obtain y|A|S|B|C|D:=j it Ù],
#[yS,by injection this],
#[ËM,i=Ö],
#[yU,by have:=q H (Ãe _);rw[tv,Xq]],
#[Ïk,Ļ<=a],
#[ÛF,atI Áw 0=aa c],
#[Ùj,Ø8 rfl rfl],
#[Ïb,[true,true]],
#[Ù1,[aa ą,aa Λ,g,k]],
#[ÌY,ZI (kV m) q],
#[ÌX,ZI (kV k) p],
#[Ðw,Slot T name id],
#[Õe,Õj v=true],
#[Ì5,KT H kvs xs],
#[Öo,HOk ü X.w l t.heap],
#[ÓE,Àa (.inl z)],
#[Îu,1<ď],
#[Æa,.inl e.n],
#[Û0,(∀r∈ð,Yd r=true)],
#[ÔZ,(∀b∈fp,Xa X aj H b)],
#[Ìh,(λx=>!x.1)],
#[Øq,(λu=>decide (u.2=t.2))],
#[zd,(ys.map ÃN)],
#[ÐO,(x == n)=false],
#[ÎV,(ÅF Xh)],
#[Öw,(n == 1||ķ == 0)],
#[Û9,(j.getD (Ê4).toNat "")],
#[ÂX,(ixT K)],
#[Õb,(if i<0 then -i else i)],
#[zk,(hf b d)],
#[Ór,(hdM (L++[e]))],
#[ÌK,(g i2 Ù)],
#[ÌJ,(g i1 Ù)],
#[ÌI,(g TO Ù)],
#[zp,(dL lo a ah n)],
#[ËB,(cne y c e)],
#[Üa,(Ê5 i)],
#[Ùg,(by rw[QK,FV.hasB,Qau])],
#[Ò1,(af×Int×Int)],
#[Õw,(å Ź::(us++ds))],
#[Ås,(aV .In)],
#[ÑT,(aG [e] Ì)],
#[zx,(Ão λt=>å t.1)],
#[Æf,(ZC X.L)],
#[Âx,(XI st)],
#[Û2,(Ç Ũ=Ç "0")],
#[zB,(T5 f y fs)],
#[zC,(ÈB hx)],
#[zD,(Õg a)],
#[ÕC,(List.take_sublist _ _)],
#[ÚG,(ÚF k)],
#[zG,(ŏ (·.p))],
#[Öb,(J.stop i c/\Q Ū c)],
#[Òe,(I.pnd.wish _)],
#[zJ,(ÜM I.bk)],
#[Ër,(G b o e a)],
#[ÖG,(.type "StopIteration")],
#[ÌH,(.ref Ź)],
#[Åb,(.own a)],
#[Î4,(.int room)],
#[ÅT,(.int n)],
#[Åj,(.int i)],
#[Îe,(.inr Đ)],
#[Åk,(.inl h)],
#[ÅR,(.dK [])],
#[ËF,(.bl false)],
#[Øg,((∀t∈ts,YJ t.2=sh))],
#[zW,((Z4 s (ZY M)).map stV)],
#[ÙW,(((Τ).length:Nat):Int)],
#[zY,#[iB,aj,σ,vs]],
#[zZ,#[hr,dx,hm]],
#[ÎO,#[hl,Àa]],
#[ÍS,#[ft,"row"]],
#[Úo,#[fa,3,"meet",ÍG,Nm]],
#[ËR,#[fO,"min"]],
#[z4,a_,b_,∀a_ s',Inv X aj σ b_ s'->ZI v a_->Q a_ s'],
#[z5,a_,b_,c_,∀a a_,b_ a=aa (.tup a_)->c_ a=aa (.tup a_)],
#[z6,a_,by rw[show WP [] (YU a_)=YU a_ by rfl]],
#[z7,a_,b_,c_,Åi a_ b_ c_],
#[z8,a_,b_,c_,by have r:=h.each e a_;rw[e2,b_,c_,r.at'.ob]],
#[z9,a_,#[Zh,#[Zl,a_]]],
#[Aa,a_,b_,by rw[a_,Qy ò]at b_],
#[Ab,a_,by rw[this]at a_;cases a_],
#[Ac,a_,b_,#[hT,a_,b_,ÁG]],
#[Ad,a_,b_,Qk (f:=λx:α×a=>a_) b_],
#[Ae,a_,b_,c_,Y1 ü X.w (upd H a_ b_) c_ a_ b_],
#[Af,a_,d.fpOk a_ (Ðd a_)],
#[Ag,a_,(λz=>(a_ _ z).2.1 rfl)],
#[Ah,a_,b_,c_,d_,e_,by obtain oc|od|kV|a_|b_|c_|d_|ct|pf|rfl|lk|e_:=F.ex],
#[Ai,a_,#[iP,à,a_]],
#[Aj,a_,b_,#[ZB,a_,‹b_›,Ú]],
#[Ak,a_,b_,by unfold a_ at b_;rw[Qr]at b_],
#[Al,a_,#[eN,ç,a_]],
#[Am,a_,b_,c_,((a_ p.1 b_).trans e,n,ne,c_,d)],
#[An,a_,b_,(É (a_ _ _ b_))],
#[Ao,a_,Qai (M:=ay è w) X a_],
#[Ap,a_,b_,c_,d_,(lcp x a_<=lcp b_ c_/\lcp d_ z=lcp x a_)],
#[Aq,a_,b_,by have a_:=b_ h2;rw[z,a_]at this],
#[Ar,a_,(∀f,Yi Ïj (a_ f))],
#[As,a_,b_,c_,(a_,ÅL _ _ b_ c_)],
#[At,a_,b_,ÁL Í a_ b_],
#[Au,a_,b_,a_[i]? = aa b_],
#[Av,a_,b_,by rw[fW,z,a_,b_]],
#[Aw,a_,b_,(vs=[.str a_,.str b_])],
#[Ax,a_,b_,c_,d_,e_,(_,rfl,m,ao,a_,_,_,rfl,b_,æ,c_,d_ ..,e_)],
#[Ay,a_,b_,(.lst ((a_ b_ n).map ß))],
#[Az,a_,(λa_=>(_,rfl,?_))]]
inductive X2 {t0 t1:Type} (p:t0->t1->Prop):Prop where
 | mk (a0:t0) (a1:t1) (h:p a0 a1)
inductive X3 {t0 t1 t2:Type} (p:t0->t1->t2->Prop):Prop where
 | mk (a0:t0) (a1:t1) (a2:t2) (h:p a0 a1 a2)
inductive X4 {t0 t1 t2 t3:Type} (p:t0->t1->t2->t3->Prop):Prop where
 | mk (a0:t0) (a1:t1) (a2:t2) (a3:t3) (h:p a0 a1 a2 a3)
inductive X5 {t0 t1 t2 t3 t4:Type} (p:t0->t1->t2->t3->t4->Prop):Prop where
 | mk (a0:t0) (a1:t1) (a2:t2) (a3:t3) (a4:t4) (h:p a0 a1 a2 a3 a4)
inductive X6 {t0 t1 t2 t3 t4 t5:Type} (p:t0->t1->t2->t3->t4->t5->Prop):Prop where
 | mk (a0:t0) (a1:t1) (a2:t2) (a3:t3) (a4:t4) (a5:t5) (h:p a0 a1 a2 a3 a4 a5)
inductive X7 {t0 t1 t2 t3 t4 t5 t6:Type} (p:t0->t1->t2->t3->t4->t5->t6->Prop):Prop where
 | mk (a0:t0) (a1:t1) (a2:t2) (a3:t3) (a4:t4) (a5:t5) (a6:t6) (h:p a0 a1 a2 a3 a4 a5 a6)
inductive X8 {t0 t1 t2 t3 t4 t5 t6 t7:Type} (p:t0->t1->t2->t3->t4->t5->t6->t7->Prop):Prop where
 | mk (a0:t0) (a1:t1) (a2:t2) (a3:t3) (a4:t4) (a5:t5) (a6:t6) (a7:t7) (h:p a0 a1 a2 a3 a4 a5 a6 a7)
inductive X9 {t0 t1 t2 t3 t4 t5 t6 t7 t8:Type} (p:t0->t1->t2->t3->t4->t5->t6->t7->t8->Prop):Prop where
 | mk (a0:t0) (a1:t1) (a2:t2) (a3:t3) (a4:t4) (a5:t5) (a6:t6) (a7:t7) (a8:t8) (h:p a0 a1 a2 a3 a4 a5 a6 a7 a8)
inductive X10 {t0 t1 t2 t3 t4 t5 t6 t7 t8 t9:Type} (p:t0->t1->t2->t3->t4->t5->t6->t7->t8->t9->Prop):Prop where
 | mk (a0:t0) (a1:t1) (a2:t2) (a3:t3) (a4:t4) (a5:t5) (a6:t6) (a7:t7) (a8:t8) (a9:t9) (h:p a0 a1 a2 a3 a4 a5 a6 a7 a8 a9)
inductive X11 {t0 t1 t2 t3 t4 t5 t6 t7 t8 t9 i9:Type} (p:t0->t1->t2->t3->t4->t5->t6->t7->t8->t9->i9->Prop):Prop where
 | mk (a0:t0) (a1:t1) (a2:t2) (a3:t3) (a4:t4) (a5:t5) (a6:t6) (a7:t7) (a8:t8) (a9:t9) (dF:i9) (h:p a0 a1 a2 a3 a4 a5 a6 a7 a8 a9 dF)
inductive X12 {t0 t1 t2 t3 t4 t5 t6 t7 t8 t9 i9 jZ:Type} (p:t0->t1->t2->t3->t4->t5->t6->t7->t8->t9->i9->jZ->Prop):Prop where
 | mk (a0:t0) (a1:t1) (a2:t2) (a3:t3) (a4:t4) (a5:t5) (a6:t6) (a7:t7) (a8:t8) (a9:t9) (dF:i9) (j0:jZ) (h:p a0 a1 a2 a3 a4 a5 a6 a7 a8 a9 dF j0)
inductive X13 {t0 t1 t2 t3 t4 t5 t6 t7 t8 t9 i9 jZ nG:Type} (p:t0->t1->t2->t3->t4->t5->t6->t7->t8->t9->i9->jZ->nG->Prop):Prop where
 | mk (a0:t0) (a1:t1) (a2:t2) (a3:t3) (a4:t4) (a5:t5) (a6:t6) (a7:t7) (a8:t8) (a9:t9) (dF:i9) (j0:jZ) (rR:nG) (h:p a0 a1 a2 a3 a4 a5 a6 a7 a8 a9 dF j0 rR)
inductive X14 {t0 t1 t2 t3 t4 t5 t6 t7 t8 t9 i9 jZ nG tz:Type} (p:t0->t1->t2->t3->t4->t5->t6->t7->t8->t9->i9->jZ->nG->tz->Prop):Prop where
 | mk (a0:t0) (a1:t1) (a2:t2) (a3:t3) (a4:t4) (a5:t5) (a6:t6) (a7:t7) (a8:t8) (a9:t9) (dF:i9) (j0:jZ) (rR:nG) (uH:tz) (h:p a0 a1 a2 a3 a4 a5 a6 a7 a8 a9 dF j0 rR uH)
inductive X15 {t0 t1 t2 t3 t4 t5 t6 t7 t8 t9 i9 jZ nG tz xI:Type} (p:t0->t1->t2->t3->t4->t5->t6->t7->t8->t9->i9->jZ->nG->tz->xI->Prop):Prop where
 | mk (a0:t0) (a1:t1) (a2:t2) (a3:t3) (a4:t4) (a5:t5) (a6:t6) (a7:t7) (a8:t8) (a9:t9) (dF:i9) (j0:jZ) (rR:nG) (uH:tz) (xJ:xI) (h:p a0 a1 a2 a3 a4 a5 a6 a7 a8 a9 dF j0 rR uH xJ)
inductive X16 {t0 t1 t2 t3 t4 t5 t6 t7 t8 t9 i9 jZ nG tz xI G':Type} (p:t0->t1->t2->t3->t4->t5->t6->t7->t8->t9->i9->jZ->nG->tz->xI->G'->Prop):Prop where
 | mk (a0:t0) (a1:t1) (a2:t2) (a3:t3) (a4:t4) (a5:t5) (a6:t6) (a7:t7) (a8:t8) (a9:t9) (dF:i9) (j0:jZ) (rR:nG) (uH:tz) (xJ:xI) (De:G') (h:p a0 a1 a2 a3 a4 a5 a6 a7 a8 a9 dF j0 rR uH xJ De)
set_option Elab.async false
set_option linter.all false
inductive C3 (a0 a1 a2:Prop):Prop where
 | mk (h0:a0) (h1:a1) (h2:a2):C3 a0 a1 a2
inductive C4 (a0 a1 a2 a3:Prop):Prop where
 | mk (h0:a0) (h1:a1) (h2:a2) (h3:a3):C4 a0 a1 a2 a3
inductive C5 (a0 a1 a2 a3 a4:Prop):Prop where
 | mk (h0:a0) (h1:a1) (h2:a2) (h3:a3) (h4:a4):C5 a0 a1 a2 a3 a4
inductive C6 (a0 a1 a2 a3 a4 a5:Prop):Prop where
 | mk (h0:a0) (h1:a1) (h2:a2) (h3:a3) (h4:a4) (h5:a5):C6 a0 a1 a2 a3 a4 a5
inductive C7 (a0 a1 a2 a3 a4 a5 a6:Prop):Prop where
 | mk (h0:a0) (h1:a1) (h2:a2) (h3:a3) (h4:a4) (h5:a5) (h6:a6):C7 a0 a1 a2 a3 a4 a5 a6
inductive C8 (a0 a1 a2 a3 a4 a5 a6 a7:Prop):Prop where
 | mk (h0:a0) (h1:a1) (h2:a2) (h3:a3) (h4:a4) (h5:a5) (h6:a6) (h7:a7):C8 a0 a1 a2 a3 a4 a5 a6 a7
inductive C9 (a0 a1 a2 a3 a4 a5 a6 a7 a8:Prop):Prop where
 | mk (h0:a0) (h1:a1) (h2:a2) (h3:a3) (h4:a4) (h5:a5) (h6:a6) (h7:a7) (h8:a8):C9 a0 a1 a2 a3 a4 a5 a6 a7 a8
inductive C10 (a0 a1 a2 a3 a4 a5 a6 a7 a8 a9:Prop):Prop where
 | mk (h0:a0) (h1:a1) (h2:a2) (h3:a3) (h4:a4) (h5:a5) (h6:a6) (h7:a7) (h8:a8) (h9:a9):C10 a0 a1 a2 a3 a4 a5 a6 a7 a8 a9
inductive C11 (a0 a1 a2 a3 a4 a5 a6 a7 a8 a9 dF:Prop):Prop where
 | mk (h0:a0) (h1:a1) (h2:a2) (h3:a3) (h4:a4) (h5:a5) (h6:a6) (h7:a7) (h8:a8) (h9:a9) (rS:dF):C11 a0 a1 a2 a3 a4 a5 a6 a7 a8 a9 dF
inductive C12 (a0 a1 a2 a3 a4 a5 a6 a7 a8 a9 dF j0:Prop):Prop where
 | mk (h0:a0) (h1:a1) (h2:a2) (h3:a3) (h4:a4) (h5:a5) (h6:a6) (h7:a7) (h8:a8) (h9:a9) (rS:dF) (h11:j0):C12 a0 a1 a2 a3 a4 a5 a6 a7 a8 a9 dF j0
local macro_rules|`(tactic|nofun)=>`(tactic|(intro _ _ _ _ h;repeat(first|(obtain h|_:=h;subst h;rfl)|(cases h;rename_i h))))
local macro_rules|`(tactic|ac_rfl)=>`(tactic|decide +kernel)
def Qa:=@Ôw
def Qb:=@Ïd
def Qc:=@PySem.Heap.get?_push_of_some
def Qd:=@Nat.le_refl
def Qe:=@List.getElem?_eq_some_iff
def Qf:=@List.mem_singleton
def Qg:=@List.length_append
def Qh:=@List.map_cons
def Qi:=@List.map_append
def Qj:=@Nat.le_trans
def Qk:=@List.mem_map_of_mem
def Ql:=@PySem.Heap.lt_size
def Qm:=@List.mem_of_getElem?
def Qn:=@PySem.boot_len
def Qo:=@Âe
def Qp:=@Nat.zero_le
def Qq:=@List.mem_append
def Qr:=@List.getElem?_map
def Qs:=@PySem.Heap.get?_push_size
def Qt:=@Bool.false_ne_true
def Qu:=@List.mem_map
def Qv:=@Option.some.inj
def Qw:=@List.mem_cons_of_mem
def Qx:=@List.length_take
def Qy:=@List.take_of_length_le
def Qz:=@List.map_map
def QA:=@Èt
def QB:=@Nat.lt_of_lt_of_le
def QC:=@List.length_singleton
def QD:=@List.mem_append_right
def QE:=@Ëb
def QF:=@PySem.W.mg_of
def QG:=@Nat.ne_of_lt
def QH:=@PySem.F.plainAttrs_list
def QI:=@List.take_add_one
def QJ:=@List.getD_eq_getElem?_getD
def QK:=@List.contains_cons
def QL:=@List.length_drop
def QM:=@PySem.W.mg_none_of
def QN:=@PySem.F.slot_list_append
def QO:=@PySem.F.type_list_append
def QP:=@List.sum_cons
def QR:=@List.mem_append_left
def QS:=@PySem.Str.length_append
def QT:=@Èu
def QU:=@List.map_congr_left
def QV:=@List.append_nil
def QW:=@List.getElem?_append_right
def QX:=@List.getElem?_append_left
def QY:=@Ôx
def QZ:=@PySem.F.plainAttrs_str
def Q0:=@PySem.Heap.get?_update_self
def Q1:=@Array.getElem?_eq_some_iff
def Q3:=@List.mem_of_mem_drop
def Q4:=@Nat.ne_of_gt
def Q5:=@PySem.Heap.size_push
def Q6:=@PySem.W.kia_one
def Q7:=@List.nodup_cons
def Q8:=@Âf
def Q9:=@PySem.F.plainAttrs_dict
def Qaa:=@Nat.le_succ
def Qab:=@List.getElem_mem
def Qac:=@PySem.Heap.get?_update_of_ne
def Qad:=@Array.getElem?_eq_getElem
def Qae:=@Ôy
def Qaf:=@List.getElem?_eq_none
def Qag:=@Array.getElem?_toList
def Qah:=@PySem.W.callWith_K
def Qai:=@PySem.W.looks_findIn
def Qaj:=@List.mem_of_mem_take
def Qak:=@PyProof.Rows.callWith_type1
def Qal:=@Nat.lt_irrefl
def Qam:=@PySem.Heap.get?_update_other
def Qan:=@List.replicate_succ
def Qao:=@List.mem_filter
def Qap:=@Int.le_refl
def Qaq:=@List.length_eq_zero_iff
def Qar:=@Bool.eq_iff_iff
def Qas:=@PySem.mem_of_lookup
def Qat:=@Nat.add_lt_add_left
def Qau:=@Bool.or_true
def Qav:=@PySem.F.slot_str_split
def Qaw:=@PySem.F.type_str_split
def Qax:=@Nat.lt_of_le_of_lt
def Qay:=@Nat.add_sub_cancel
def Qaz:=@List.getElem?_toArray
def QaA:=@List.mem_of_find?_eq_some
def QaB:=@List.getLastD_eq_getLast?
def QaC:=@Nat.le_of_lt
def QaD:=@Ïe
def QaE:=@List.mem_range
def QaF:=@Ær
def QaG:=@Nat.lt_add_of_pos_right
def QaH:=@List.mem_cons_self
def QaI:=@List.getElem?_set_self
def QaJ:=@List.zip_cons_cons
def QaK:=@List.find?_cons_of_neg
def QaL:=@List.length_eq_one_iff
def QaM:=@Int.add_zero
def QaN:=@PySem.W.methodCall_KW
def QaO:=@List.length_replicate
def QaP:=@List.take_append_drop
def QaQ:=@PySem.ofString_length
def QaR:=@PySem.F.slot_str_join
def QaS:=@PySem.F.type_str_join
def QaT:=@List.reverse_cons
def QaU:=@List.flatten_cons
def QaV:=@Nat.le_add_right
def QaW:=@Nat.succ_le_succ
def QaX:=@PySem.F.slot_dict_getitem
def QaY:=@List.getElem?_eq_none_iff
def QaZ:=@PySem.Heap.get?_update_ne
def Qa0:=@List.any_cons
def Qa1:=@PySem.F.slot_dict_update
def Qa2:=@List.map_take
def Qa3:=@List.getLast?_eq_getLast
def Qa4:=@Int.emod_nonneg
def Qa5:=@List.filter_map
def Qa6:=@Nat.not_lt
def Qa7:=@Int.emod_lt_of_pos
def Qa8:=@List.pairwise_singleton
def Qa9:=@List.map_nil
def Qba:=@Array.getElem?_eq_none
def Qbb:=@Option.isSome_map
def Qbc:=@Option.map_eq_some_iff
def Qbd:=@Bool.eq_false_iff
def Qbe:=@Nat.pow_succ
def Qbf:=@List.length_pos_of_mem
def Qbg:=@Nat.sub_self
def Qbk:=@PySem.W.any_some
def Qbm:=@List.map_drop
def Qbo:=@Int.add_mul
namespace L2
open PySem PySem.Spec PyProof.Rows
abbrev Key:=Sum Int am
def Vr:Key->ae->Ê
 | .inl k,v=>ae.isInt k v
 | .inr x,v=>ae.isStrOf x v
def Mi(w:aF):Key->Int
 | .inl k=>hashInt k
 | .inr x=>hashStr w x
theorem Wn:∀ {k:Key} {v:ae},Vr k v=true->(X2 λi t=>k=Âg i/\v=Âh i t)\/(X2 λx t=>k=Âi x/\v=Âj x t)
 | .inl i,v,h=>by obtain t|e:=ae.isInt_shape (k:=i) (v:=v) h;exact .inl (i,t,rfl,e)
 | .inr x,v,h=>by obtain t|e:=ae.isStrOf_shape (x:=x) (v:=v) h;exact .inr (x,t,rfl,e)
theorem Zph(i:Int)(t:Tok):Vr (.inl i) (.int i t)=true:=by simp[Vr,ae.isInt]
theorem Zog(x:am)(t:Tok):Vr (.inr x) (.str x t)=true:=by simp[Vr,ae.isStrOf]
theorem ZvF(a b:Int):decide (Ïf=Âg b)=(a == b):=by
 by_cases e:a=b
 ·subst e;simp
 ·have h:¬ Ïf=Âg b:=λq=>e (Æs q);rw[Ē h];exact(Èv e).symm
theorem ZuX(a b:am):decide (Ïg=Âi b)=decide (a=b):=by
 by_cases e:a=b
 ·subst e;simp
 ·have h:¬ Ïg=Âi b:=λq=>e (Ëc q);rw[Ē h,Ē e]
theorem Zuq(a:Int)(b:am):decide (Ïf=Âi b)=false:=Ôz
theorem ZuY(a:am)(b:Int):decide (Ïg=Âg b)=false:=Ôz
def ZJ(è:aA)(w:aF):PySem.KeyKind è w Key where
 is:=Vr
 hash:=Mi w
 inj:=λv a b g f=>by
  rcases Wn g with⟨i,t,rfl,rfl⟩|⟨x,t,rfl,rfl⟩
  ·rcases Wn f with⟨j,u,rfl,e⟩|⟨y,u,rfl,e⟩
   ·injection e with c _;rw[c]
   ·exact nomatch e
  ·rcases Wn f with⟨j,u,rfl,e⟩|⟨y,u,rfl,e⟩
   ·exact nomatch e
   ·injection e with c _;rw[c]
 byValue:=λk v h=>by rcases Wn h with⟨i,t,rfl,rfl⟩|⟨x,t,rfl,rfl⟩<;>rfl
 pyHash:=λd h=>by
  rcases Wn d with⟨i,t,rfl,rfl⟩|⟨x,t,rfl,rfl⟩
  ·exact wpAny_pyHash_int h
  ·exact wpAny_pyHash_str h
 eqBool:=λl d h=>by
  rcases Wn l with⟨i,t,rfl,rfl⟩|⟨x,t,rfl,rfl⟩
  ·rcases Wn d with⟨j,u,rfl,rfl⟩|⟨y,u,rfl,rfl⟩
   ·rw[ZvF]at h;exact ÔA h
   ·rw[Zuq]at h;exact ÔB i t y u _ _ _ _ h
  ·rcases Wn d with⟨j,u,rfl,rfl⟩|⟨y,u,rfl,rfl⟩
   ·rw[ZuY]at h;exact ÔC x t j u _ _ _ _ h
   ·rw[ZuX]at h;exact ÔD h
 «strs»:=λk x t v h=>by
  rcases Wn h with⟨i,u,rfl,e⟩|⟨y,u,rfl,e⟩
  ·exact nomatch e
  ·injection e with c _;subst c;cases v<;>rfl
theorem ZmP(è:aA)(w:aF)(k:Key)(v:ae):(ZJ è w).is k v=Vr k v:=rfl
theorem Me(è:aA)(w:aF)(i:Int)(t:Tok):(ZJ è w).is (.inl i) (.int i t)=true:=Zph i t
theorem Md(è:aA)(w:aF)(x:am)(t:Tok):(ZJ è w).is (.inr x) (.str x t)=true:=Zog x t
inductive V where
 | non|bl (b:Ê)|int (i:Int)|str (x:am)|byt (b:ē UInt8)|flt (b:UInt64)|ref (a:af)|ty (n:ł)
 deriving DecidableEq
def ZI:V->ae->Prop
 | .non,u=>u=Àq
 | .bl b,u=>u=Æt b
 | .int i,u=>∃t,u=Âh i t
 | .str x,u=>∃t,u=Âj x t
 | .byt b,u=>∃t,u=ae.bytes b t
 | .flt b,u=>∃t,u=ae.float b t
 | .ref a,u=>u=å a
 | .ty n,u=>u=Ëd n
abbrev ZF:À V->À ae->Prop:=ÃU ZI
theorem ZF.length{xs:ă}{us:Þ}(r:ZF xs us):Ö=ε:=Ïh r
theorem ZF.get:∀ {xs:À V} {us:À ae} {i:Nat} {x:V},ZF xs us->xs[i]? = aa x->∃u,us[i]? = aa u/\ZI x u
 | _,_,_,_,.nil,e=>by simp at e
 | _,_,0,_,.cons r _,e=>by simp at e;subst e;exact(_,rfl,r)
 | _,_,i+1,x,.cons _ t,e=>by obtain u|h1|h2:=ZF.get (i:=i) (x:=x) t #[eE,e];exact(u,by simpa using h1,h2)
theorem ZF.set{x:V}{u:ae}(r:ZI x u):∀ {xs:À V} {us:À ae} (i:Nat),ZF xs us->ZF (xs.set i x) (us.set i u)
 | _,_,_,.nil=>.nil
 | _,_,0,.cons _ t=>.cons r t
 | _,_,i+1,.cons q t=>.cons q (ZF.set r i t)
theorem Ëe:∀ {xs ys:À V} {us ws:À ae},ZF xs us->ZF ys ws->ZF (xs++ys) (us++ws)
 | _,_,_,_,.nil,s=>s
 | _,_,_,_,.cons r t,s=>.cons r (Ëe t s)
theorem ZF.take:∀ {xs:À V} {us:À ae} (n:Nat),ZF xs us->ZF (xs.take n) (us.take n)
 | _,_,0,_=>.nil
 | _,_,_+1,.nil=>.nil
 | _,_,n+1,.cons r t=>.cons r (ZF.take n t)
theorem ZF.drop:∀ {xs:À V} {us:À ae} (n:Nat),ZF xs us->ZF (Èw n) (us.drop n)
 | _,_,0,r=>r
 | _,_,_+1,.nil=>.nil
 | _,_,n+1,.cons _ t=>ZF.drop n t
def Yi:Ã V->Ã ae->Prop
 | some v,aa u=>ZI v u
 | none,ah=>Μ
 | _,_=>ĝ
def KV{κ:Type}:À (κ×V)->À (κ×ae)->Prop:=ÃU λ(p:κ×V) (q:κ×ae)=>p.1=q.1/\ZI p.2 q.2
def kV:Key->V
 | .inl i=>.int i
 | .inr x=>.str x
inductive HO where
  | lst (xs:À V)
  | tup (xs:À V)
  | dK (kvs:À (Key×V))|dT (kvs:À (À Key×V))
  | set (S:Int->Ê) (n:Nat)
  | ins (C dx:af) (fs:À (am×V))
  | own (x:af)
  | xd (fs:À (am×V))
  | met (f x:af)
  | rng (lo hi:Int)
  | frz (o:aN) (u:HO)
  | tbl (ps:ē ae)
  | ext (φ:aJ->Prop)
abbrev Hp:=af->Ã HO
def upd(H:Hp)(a:af)(o:HO):Hp:=λb=>if b=a then aa o else H b
theorem Zb{H:Hp}{a:af}{o:HO}:upd H a o a=aa o:=by unfold upd;rw[Æ rfl]
theorem Ze{H:Hp}{a b:af}{o:HO}(h:b≠a):upd H a o b=H b:=by unfold upd;rw[È h]
theorem Zr5{H:Hp}{a:af}{o u:HO}:upd Æu a u=upd H a u:=by funext b;unfold upd;split<;>rfl
theorem Ru{H:Hp}{a b:af}{o u:HO}(h:H a=aa o)(h':H b=aa u)(d:o≠u):a≠b:=by intro e;subst e;rw[h]at h';exact d (Qv h')
theorem Zg{H:Hp}{a b:af}{o:HO}(h:H a=aa o)(h':H b=ah):a≠b:=by intro e;subst e;rw[h]at h';cases h'
section
variable (P:aA) (w:aF)
def Y1(H:Hp)(h:aJ)(a:af):HO->Prop
 | .lst xs=>Ö<=aq/\X2 λ(its:À ae) (n:Nat)=>ZF xs its/\à a=aa { cls:=ŗ,Ó:=.seq Ĕ n }
 | .tup xs=>Ö<=aq/\∃its:À ae,ZF xs its/\ÁL h a Ĕ
 | .dK b=>Ň<=aq/\ÂY=false/\∃g,KV b g/\h.DictOf ÃV a g
 | .dT b=>Ň<=aq/\ÂY=false/\∃xs:À (À Key×af×ae),
   ÃU (λ(p:À Key×V) (q:À Key×af×ae)=>p.1=q.1/\H q.2.1=aa Ëf/\ZI p.2 q.2.2) b xs /\
   X3 λo i l=>à a=aa o/\o.ExactDict/\ş=.dict i l/\i.toList=Èx (entryOfKey Ïi)/\(Èx ċ).Nodup
 | .set S n=>h.SetOf (intKind P w) a S n
 | .ins C d fs=>H d=aa Åb/\ÃW<=1000/\d≠a/\à a=aa (Åc C d) /\
   ∃c,h.Ns1 d c/\#[Ar,c]/\Èy c Ëg
 | .own _=>∃o,à a=aa o
 | .xd fs=>∃c,h.Ns1 a c/\∀f,Yi Ïj (c f)
 | .rng lo m=>X3 λt u v=>à a=aa { cls:=.type "range",Ó:=.fields #[.int lo t,.int m u,.int 1 v] }
 | .frz o u=>à a=aa o/\Y1 H h a u
 | .tbl r=>à a=aa { cls:=.none,Ó:=.fields r }
 | .met f x=>à a=aa (ÔE Ĉ ÀL)
 | .ext e=>e h/\(∃o,à a=aa o)/\∀j k:aJ,e j->(∀o,j.get? a=aa o->k.get? a=aa o)->e k
def HOk(H:Hp)(h:aJ):Prop:=∀a o,H a=aa o->Y1 P w H h a o
universe E
section
variable {P:aA} {w:aF} {H H':Hp} {h h':aJ} {a:af} {o:HO}
theorem Y1.lt(x:Y1 P w H h a o):a<Ļ:=by
 cases o with
 | lst c=>obtain _|_|_|_|e:=x;exact Ql e
 | tup c=>obtain _|_|_|p:=x;exact p.lt
 | dK b=>obtain _|_|_|_|o|_|_|e|_:=x;exact Ql e
 | dT b=>obtain _|_|_|_|o|_|_|e|_:=x;exact Ql e
 | set S n=>obtain o|_|_|_|e|_:=x;exact Ql e
 | ins C dx fs=>obtain _|_|_|e|_:=x;exact Ql e
 | own y=>obtain _|e:=x;exact Ql e
 | xd fs=>obtain _|⟨_,_,_,e,_⟩|_:=x;exact Ql e
 | rng lo hi=>obtain _|_|_|e:=x;exact Ql e
 | frz ob u=>obtain e|_:=x;exact Ql e
 | tbl ps=>exact Ql ÔF
 | met f y=>exact Ql ÔF
 | ext φ=>obtain _|⟨_,e⟩|_:=x;exact Ql e
theorem Ëh{α c:Type}{F G:α->c->Prop}:∀ {l₁:À α} {l₂:À c},ÃU F l₁ l₂->(∀a b,F a b->G a b)->ÃU G l₁ l₂
 | _,_,.nil,_=>.nil
 | _,_,.cons r t,f=>.cons (f _ _ r) (Ëh t f)
theorem Y1.stay(x:Y1 P w H h a o)(k:∀b u,(b=a\/H b=aa Åb)->à b=aa u->ĉ b=aa u)
  (A:∀b,H b=aa Åb->H' b=aa Åb) (ht:#[e8,b,xs,H,ű,H']):Y1 P w H' h' a o:=by
 induction o with
 | lst xs=>obtain z|its|n|r|e:=x;exact(z,its,n,r,k _ _ Đ e)
 | tup xs=>obtain z|its|r|g|e|c:=x;exact(z,its,r,g,k _ _ Đ e,c)
 | dK l=>obtain z|y|B|r|g|i|j|e|c:=x;exact(z,y,B,r,g,i,j,k _ _ Đ e,c)
 | dT l=>obtain z|y|xs|r|g|i|j|e|c:=x;exact(z,y,xs,Ëh r λp q z=>(z.1,ht _ _ z.2.1,z.2.2),g,i,j,k _ _ Đ e,c)
 | set S n=>obtain g|i|j|t|e|c:=x;exact(g,i,j,t,k _ _ Đ e,c)
 | ins C dx fs=>obtain d|z|ne|e|m|⟨od,i,j,D,c⟩|r:=x;exact(A _ d,z,ne,k _ _ Đ e,m,(od,i,j,k _ _ (.inr d) D,c),r)
 | own y=>obtain g|e:=x;exact(g,k _ _ Đ e)
 | xd fs=>obtain m|⟨od,i,j,e,c⟩|r:=x;exact(m,(od,i,j,k _ _ Đ e,c),r)
 | rng lo hi=>obtain t|u|v|e:=x;exact(t,u,v,k _ _ Đ e)
 | frz g u E=>obtain e|q:=x;exact(k _ _ Đ e,E q)
 | tbl s=>have e:à a=aa { cls:=.none,Ó:=.fields s }:=x;show ĉ a=aa { cls:=.none,Ó:=.fields s };exact k a _ Đ e
 | met f y=>have e:à a=aa ÔG:=x;show ĉ a=aa ÔG;exact k a _ Đ e
 | ext φ=>obtain p|⟨o,e⟩|st:=x;exact(st _ _ p λo q=>k _ _ Đ q,(o,k _ _ Đ e),st)
theorem HOk.lt(x:À1)(e:H a=aa o):a<Ļ:=(x a o e).lt
theorem HOk.fresh(x:À1)(e:Ïk):H a=ah:=by
 cases q:H a with
 | none=>rfl
 | some u=>exact Î (QB (x.lt q) e) (Qal _)
theorem HOk.kept(x:À1)(k:Ëi):HOk P w H h':=λa o e =>
 (x a o e).stay (λb u _ q=>k b u q) (λ_ q=>q) λ_ _ q=>q
theorem HOk.laid(x:À1)(k:Ëi)(g:Ïk)(new:Y1 P w Æu h' a o):HOk P w Æu h':=λb u e=>by
 have d:=x.fresh g;by_cases f:b=a
 ·rw[iA,f,Zb,e];exact new
 ·rw[Ze f]at e;exact(x b u e).stay (λc v _ q=>k c v q) (λc q=>by rw[Ze (Zg q d)];exact q) λc xs q=>by rw[Ze (Zg q d)];exact q
universe E
def Rd(H:Hp)(a:af)(u:HO):Prop:=H a=aa u\/∃o,H a=aa ÂZ
theorem Rd.ok{P:aA}{w:aF}{H:Hp}{h:aJ}{a:af}{u:HO}(r:Rd H a u)(x:À1):Y1 P w H h a u:=by
 rcases r with r|⟨o,r⟩
 ·exact x a u r
 ·obtain _|q:=x a _ r;exact q
def Mut:Ã HO->Prop
 | some (.lst _)=>Μ
 | some (.dK _)=>Μ
 | some (.dT _)=>Μ
 | some (.set _ _)=>Μ
 | some (.ins _ _ _)=>Μ
 | some (.ext _)=>Μ
 | _=>ĝ
section
variable {P:aA} {w:aF} {H:Hp} {h h':aJ} {x e:af} {o':HO}
theorem HOk.write(ok:À1)(a:Mut (H x))(he:Ïl)(k:#[hW,b,u,e,à])(l:Ïm)
  (new:Y1 P w (upd H x o') h' x o'):HOk P w (upd H x o') h':=λb u q=>by
 have i:∀c y,H c=aa (.own y)->c≠x:=λc y r z=>by subst z;rw[r]at a;exact a
 have m:∀c d,H c=aa (.tup d)->c≠x:=λc d r z=>by subst z;rw[r]at a;exact a
 by_cases f:b=x
 ·rw[iA,f,Zb,q];exact new
 ·rw[Ze f]at q;by_cases g:b=e
  ·have j:H b=aa (.own x):=by
    rcases he with z|z
    ·exact Î (Èz z) f
    ·rw[g];exact z
   rw[gv,q,j,j];rw[e2,v,n,l];exact(v,by rw[g];exact n)
  ·refine(ok b u q).stay (λc v hc r=>k c v ?_ r) (λc r=>by rw[Ze (i c b r)];exact r) λc d r=>by rw[Ze (m c d r)];exact r
   rcases hc with rfl|hc
   ·exact g
   ·rintro rfl;rcases he with z|z
    ·exact i c b hc z
    ·rw[gv,hc,z,z];exact f rfl
universe E
structure Un (fs ex:Š) (H H':Hp) (h h':aJ):Prop where
 Ė:∀b o,à b=aa o->H b=ah->b ∉ fs->b ∉ ex->ĉ b=aa o
 slot:∀b o,à b=aa o->H b=ah->b∈fs->b ∉ ex->∃sl,ĉ b=aa { o with ÁM:=sl }
 Ų:∀b o,à b=aa o->H b=ah->b ∉ ex->H' b=ah
 there:∀b o,à b=aa o->b ∉ ex->∃o',ĉ b=aa o'
 tups:∀b xs,H b=aa ű->H' b=aa ű
 frzs:∀b o u,H b=aa ÂZ->H' b=aa ÂZ
 tbls:∀b ps,H b=aa (.tbl ps)->∃Ğ,H' b=aa (.tbl (ps++Ğ))
section
variable {fs wQ ex ex':À af} {H H1 H2:Hp} {h h1 h2 h':aJ} {a x e:af} {o:HO}
theorem Un.any(u:Un fs ex H H1 h h1){b:af}{ob:aN}(q:à b=aa ob)(n:H b=ah)(hx:b ∉ ex):∃sl,h1.get? b=aa { ob with ÁM:=sl }:=by
 by_cases a:b∈fs
 ·exact u.slot b ob q n a hx
 ·exact(ob.slots,u.keep b ob q n a hx)
theorem ÈA(k:Ëi):Un fs ex H H h h' :=
 (λb a q _ _ _=>k b a q,λb a q _ _ _=>(Ëj,k b a q),λ_ _ _ n _=>n,λb a q _=>(a,k b a q),λ_ _ q=>q,λ_ _ _ q=>q,λ_ ps q=>(#[],by rw[q];simp))
theorem Un.refl:Un fs ex H H h h:=ÈA λ_ _ q=>q
theorem Un.laid(k:Ëi)(c:Ïk)(hn:H a=ah):Un fs ex H Æu h h' where
 Ė:=λb u q _ _ _=>k b u q
 slot:=λb u q _ _ _=>(u.slots,k b u q)
 Ų:=λb u q n _=>by rw[Ze (QG (QB (Ql q) c))];exact n
 there:=λb u q _=>(u,k b u q)
 tups:=λb d q=>by rw[Ze (Zg q hn)];exact q
 frzs:=λb u d q=>by rw[Ze (Zg q hn)];exact q
 tbls:=λb ps q=>(#[],by rw[Ze (Zg q hn),q];simp)
theorem Un.write(a:Mut (H x))(he:Ïl)(k:#[hW,b,u,e,à])(i:Ïm):Un fs ex H (upd H x o) h h':=by
 have d:∀b,H b=ah->b≠x:=λb n z=>by subst z;rw[n]at a;exact a
 have f:∀b,H b=ah->b≠e:=λb n z=>by
  subst z;rcases he with r|r
  ·exact d b n r
  ·rw[gv,n,r,r]
 have c:∀b u,H b=aa u->¬ Mut (aa u)->b≠x:=λb u q j z=>by subst z;rw[q]at a;exact j a
 refine⟨λb u q n _ _=>k b u (f b n) q,λb u q n _ _=>(u.slots,k b u (f b n) q),λb u q n _=>by rw[Ze (d b n)];exact n,λb u q _=>?_,
  λb l q=>by rw[Ze Ïn];exact q,λb u l q=>by rw[Ze Ïn];exact q,λb ps q=>(#[],by rw[Ze Ïn,q];simp)⟩
 by_cases g:b=e
 ·subst g;exact i
 ·exact(u,k b u g q)
universe E
def trk(h:aJ)(H:Hp):À af:=#[yE].filter λa=>(H a).isSome
def V4(h:aJ)(H:Hp):aJ:=PySem.W.hideAll h (trk h H)
theorem Zoj(h:aJ)(H:Hp):(V4 h H).objs.size=Ļ:=PySem.W.hideAll_size _ _
theorem ZpQ{h:aJ}{H:Hp}{b:af}{o:aN}(e:à b=aa o)(n:H b=ah):(V4 h H).get? b=aa o :=
 PySem.W.hideAll_get _ e λa=>by have q:(H b).isSome=true:=(ÈB a).2;rw[n]at q;simp at q
theorem ZsD{h:aJ}{H:Hp}{b:af}{o:aN}(e:(V4 h H).get? b=aa o):à b=aa o/\H b=ah:=by
 have a:à b=aa o:=PySem.W.of_hideAll (trk h H) e;refine(a,?_);cases q:H b with
 | none=>rfl
 | some x=>have c:b∈trk h H:=List.mem_filter.mpr (Ëk (Ql a),by simp[q]);have z:(V4 h H).get? b=ah:=PySem.W.hideAll_none (trk h H) c;rw[gv,z,e,e]
def Zsd(g h:aJ)(L:af):À (af×aN):=#[yE].filterMap λa=>if a=L\/(g.get? a).isSome=true then ah else (à a).map λo=>(a,o,)
def Č(g h:aJ)(L d:af):À (af×aN):=(Zsd g h L).filter λp=>decide (p.1≠d)
structure Mod (K:Ä) (mg:Ą) (Â:aJ):Prop where
 kin:ų Â
 glob:ÈC aM mg
 blt:∃mb,ÈC Ïo mb/\∀x:am,x ≠ "__name__"->mb x=cx x
 nolimit:base.NoLimit
structure Cx where
 è:aA
 w:aF
 K:Ä
 mg:am->Ã ae
 Â:aJ
 A:aE
 N:À am
 ÀM:ak
 H₀:Hp
 env:Env
 Ü:À Env
 stack:À Env
 ex:À af
 fn:am->Ê
 calm:Ê
 pn:À (af×aN)
 xe:ae->ak->Prop
def frs(l:ÁN):À af:=l.filterMap (·.frame)
abbrev Cx.fs(X:Cx):À af:=frs Âk
def Vis(a:bn)(x:am):Prop:=ÃX x=aa .local\/ÃX x=aa .cell\/ÃX x=aa .free
def Loc(a:bn)(x:am):Prop:=ÃX x=aa .local\/ÃX x=aa .cell
def Mc(env:Env)(h:aJ)(m:Ą)(x:am)(u:ae):Prop :=
 (Æv x=aa .local/\m x=aa u)\/(#[hF,Æv,x]/\∃c,Ïp x=aa c/\h.IsCell c (aa u))
structure Cx.Ok (X:Cx):Prop where
 mod:Mod X.K ė ň
 kind:Ïq=.function
 glob:X.env.globals=aM
 blt:X.env.builtins=Ïo
 above:Ŵ<=ğ
 inj:∀x y c,ζ x=aa c->ζ y=aa c->x=y
 has:∀x,#[hF,Ák,x]->∃c,ζ x=aa c
 cab:∀x c,X.fn x=true->ζ x=aa c->Ŵ<=c
 hd:X.calm=true->X.A.handled=ah
 frames:Ël=aa ŵ
 stk:ŵ=Âk\/(ŵ=Ì::Âk/\X.env.frame=aa ğ)
 exf:∀b∈X.ex,b≠ğ/\∀x c,ζ x=aa c->c≠b
 bs:∀b o,ÈD b=aa o->Ïr b=aa o/\ÈE b=ah
 bsz:X.base.objs.size<=Ŵ
 noex:∀b o,ÈD b=aa o->b ∉ X.ex
 exfs:∀b∈X.ex,b ∉ Àr
 funs:ÔH ň Âk
 frf:∀b∈Àr,ÈE b=ah
structure Inv (X:Cx) (aj:ĕ) (σ:À (Ã V)) (H:Hp) (s:ak):Prop where
 ok:X.Ok
 os:s.os=X.s₀.os
 bare:Â0 Æw
 Â:Un Àr X.ex ÈE H X.s₀.heap Í
 loc:∃m,Ëm ğ m/\∀ (i:Nat) (x:am) (v:V),X.N[i]? = aa x->σ[i]? = aa (aa v)->Vis Ën x->∃u,ZI v u/\Mc Ì Í m x u
 cell:∀x c,ζ x=aa c->∃v,s.heap.IsCell c v
 Ų:H ğ=ah
 freeC:∀x c,ζ x=aa c->H c=ah
 pin:∀p∈X.pn++aj,í p.1=aa p.2/\H p.1=ah/\p.1≠ğ/\p.1 ∉ Àr/\∀v,p.2.data≠.cell v
 hok:HOk ü X.w H Í
 len:Ëo=X.N.length
section
variable {X:Cx} {aj:À (af×aN)} {σ:À (Ã V)} {H H':Hp} {s:ak} {h':aJ}
theorem Cx.Ok.nofr(ok:X.Ok){b:af}{o:aN}(e:ÈD b=aa o):b ∉ Àr:=λhb=>by have:=(ok.funs.mem hb).1;rw[e]at this;cases this
theorem Inv.bs(I:â):∀b o,ÈD b=aa o->í b=aa o/\H b=ah:=λb o e =>
 (ÈF b o #[qJ].1 #[qJ].2 (I.ok.nofr e) (Æx b o e),ÃY b o #[qJ].1 #[qJ].2 (Æx b o e))
theorem Inv.bk(I:â):∀b o,ÈD b=aa o->í b=aa o:=λb o e=>(I.bs b o e).1
theorem Inv.mod(I:â):Mod X.K ė ň:=Ëp
theorem Inv.kIn(I:â):X.K.In Í:=I.ok.mod.kin.keeps I.bk
theorem Inv.lt(I:â):ğ<Ò:=let ⟨_,hn,_⟩:=Ř;hn.lt
theorem Inv.sz(I:â):Ŵ<=Ò:=Qj ÈG (QaC I.lt)
theorem Inv.nofs(I:â){a:af}(h:Ò<=a):a ∉ Àr:=λhb=>by obtain _|o|b|_:=I.ok.funs.mem hb;exact Î (QB (Ql b) (Qj I.sz h)) (Qal _)
theorem Inv.cne(I:â):∀x c,ζ x=aa c->c≠ğ:=λx c e z=>by obtain v|o|a|hd:=Ëq;obtain m|⟨o',es,ep,b,d,_⟩|_:=Ř;rw[z,b]at a;cases a;rw[d]at hd;cases hd
theorem Inv.funs(I:â):Æy ň Âk:=by
 have all:∀ (l:À Env),(∀b∈frs l,b∈Àr)->ÔH ň l->Æy ň l:=by
  intro l;induction l with
  | nil=>intro _ _;trivial
  | Ñ env r g=>intro f h;obtain i|⟨L,o,a,j,k,hd⟩|m:=h;have c:L∈Àr:=f L (by unfold frs;rw[Ïs,a];exact QaH);obtain sl|e:=ÈH L o k (I.ok.frf L c) c λz=>Ït L z c;exact(i,(L,_,a,j,e,hd),g (λb d=>f b (by unfold frs;rw[Ïs,a];exact Qw _ d)) m)
 exact all Âk (λ_ d=>d) I.ok.funs
theorem Inv.stack(I:â):Æy ň ŵ:=by
 rcases I.ok.stk with e|⟨e,a⟩
 ·rw[e];exact I.funs
 ·rw[e];obtain m|b|_:=Ř;refine .cons (by rw[À2];decide) a b ?_ I.funs;exact ÔI (Qj ÈI ÈG)
theorem Inv.stkSub(I:â):∀b∈frs ŵ,b∈ğ::Àr:=λb hb=>by
 rcases I.ok.stk with e|⟨e,a⟩
 ·rw[e]at hb;exact Qw _ hb
 ·rw[e]at hb;unfold frs at hb;rw[Ïs,a]at hb;exact hb
theorem Inv.stkFree(I:â):∀b∈frs ŵ,H b=ah:=λb hb=>by
 rcases î (I.stkSub b hb) with e|hb
 ·rw[e];exact š
 ·obtain _|o|a|_:=I.ok.funs.mem hb;exact ÃY b o a (I.ok.frf b hb) λz=>Ït b z hb
theorem Inv.step{g':ē Åd}{t':Nat}{d':Åe}{ch:Š}(I:â)
  (w:Ïu)
  (Ė:∀b o,b≠ğ->b ∉ Àr->b ∉ ch->í b=aa o->H b=ah->ĉ b=aa o)
  (slot:∀b o,b≠ğ->b∈Àr->b ∉ ch->í b=aa o->H b=ah->∃sl,ĉ b=aa { o with ÁM:=sl }) (Ų:∀b o,b ∉ ch->í b=aa o->H b=ah->H' b=ah)
  (h:∀b o,b ∉ ch->í b=aa o->∃y,ĉ b=aa y)
  (A:#[jr,g,H']) (B:∀b o u,H b=aa ÂZ->H' b=aa ÂZ) (C:∀b F,H b=aa (.tbl F)->∃Ğ,H' b=aa (.tbl (F++Ğ)))
  (P:∀m,Ëm ğ m->h'.Ns ğ m) (J:Ïv) (Q:Â0 g') :
  Inv X aj σ H' { s with Õ:=h',gens:=g',drawn:=d',õ:=t' }:=by
 have K:∀b o,Ïr b=aa o->b≠ğ:=λb o e=>QG (QB (Ql e) ÈG);have G:∀b o,Ïr b=aa o->b ∉ X.ex->b ∉ ch:=λb o e a j=>by
  rcases(w b j).1 with z|z
  ·exact a z
  ·exact Î (QB (Ql e) z) (Qal _)
 have L:∀x c,ζ x=aa c->∀v,s.heap.IsCell c v->h'.IsCell c v:=λx c e v ⟨o,t,hd⟩=>by
  have D:c ∉ ch:=λz=>(w c z).2.2.1 x c e rfl;by_cases M:c∈Àr
  ·obtain sl|q:=slot c o (I.cne x c e) M D t Ïw;exact(_,q,hd)
  ·exact(o,Ė c o (I.cne x c e) M D t Ïw,hd)
 refine(Ŷ,ÀN,Q,(λb o e n j a=>?_,λb o e n j a=>?_,λb o e n a=>?_,λb o e a=>?_,λb g e=>A b g (Æz b g e),λb o g e=>B b o g (Åf b o g e),λb F e=>?_),?_,λx c e=>?_,?_,λx c e=>?_,λp N=>?_,J,Β)
 ·exact Ė b o (K b o e) j Ër #[tj,j,a] Ïx
 ·rw[s5,sl,f,j,a];obtain R|E:=slot b _ (K b o e) j Ër f Ïx;exact(R,E)
 ·rw[iw,y,f,a];exact Ų b y Ër f Ïx
 ·rw[iw,y,f,a];exact h b y Ër f
 ·obtain S|f:=Ës b F e;obtain T|E:=C b _ f;exact(S++T,by rw[E,Array.append_assoc])
 ·rw[ja,m,U,V,Ř];refine(m,P m U,λi x v f E W=>?_);obtain u|r|l:=V i x v f E W;rw[ud,u,r];rcases l with l|⟨k,c,e,z⟩
  ·exact .inl l
  ·exact .inr (k,c,e,L x c e _ z)
 ·obtain v|z:=Ëq;exact(v,L x c e v z)
 ·obtain m|⟨o,_,_,t,_⟩|_:=Ř;exact Ų _ o #[Ag,w] t š
 ·obtain v|o|t|hd:=Ëq;exact Ų c o (λz=>(w c z).2.2.1 x c e rfl) t Ïw
 ·rw[s0,O,N];have D:p.1 ∉ ch:=λz=>(w p.1 z).2.2.2 p N rfl;exact(Ė p.1 p.2 ne O D e n,Ų p.1 p.2 D e n,ne,O,d)
theorem Inv.un{t':Nat}(I:â)(u:Un Àr [] H H' Í h')(hok:Ïv):Inv X aj σ H' { s with Õ:=h',õ:=t' }:=by obtain m|⟨o,es,ep,c,r⟩|_:=id Ř;obtain sl|f:=u.any c š Ù;exact ÈJ (g':=Æw) (d':=Ët) (ch:=[]) (λ_ z=>nomatch z) (λb o _ a _ e n=>u.keep b o e n a Ù) (λb o _ a _ e n=>u.slot b o e n a Ù) (λb o _ e n=>u.free b o e n Ù) (λb o _ e=>u.there b o e Ù) u.tups u.frzs u.tbls (λm' g=>by obtain o'|h|i|d|j:=g;rw[c]at d;cases d;exact(_,h,i,f,j)) hok ŷ
theorem Inv.call{g':ē Åd}{t':Nat}{d':Åe}{ch:Š}(I:â)(u:Un Ëu ch H H' Í h')(hok:Ïv)(i:Â0 g')
  (f:Ïu) :
  Inv X aj σ H' { s with Õ:=h',gens:=g',drawn:=d',õ:=t' }:=by
 obtain m|⟨o,es,ep,g,r⟩|_:=id Ř;obtain sl|d:=u.any g š λz=>(f _ z).2.1 rfl;exact ÈJ (ch:=ch) f (λb o d j a e n=>u.keep b o e n (λz=>(î (I.stkSub b z)).elim d j) a) (λb o _ _ a e n=>u.any e n a) (λb o a e n=>u.free b o e n a) (λb o a e=>u.there b o e a) u.tups u.frzs u.tbls (λm' k=>by obtain o'|l|q|h|t:=k;rw[g]at h;cases h;exact(_,l,q,d,t)) hok i
theorem Inv.turned{t':Nat}{it:af}(I:â)(k:#[hW,b,o,it,í])(hn:H it=ah)(d:it≠ğ)
  (h1:it∈X.ex\/Ŵ<=it) (h2:∀x c,ζ x=aa c->c≠it) (g:#[s9,aj,it]):Inv X aj σ H { s with Õ:=h',õ:=t' }:=by
 have f:∀b u,H b=aa u->b≠it:=λb u e z=>by rw[z,hn]at e;cases e
 refine ÈJ (g':=Æw) (d':=Ët) (ch:=[it]) (λb h=>?_) (λb o _ _ a e _=>k b o Ïy e) (λb o _ _ a e _=>(ÈK,k b o Ïy e)) (λ_ _ _ _ n=>n)
  (λb o a e=>(o,k b o Ïy e)) Ëv (λ_ _ _ e=>e) ÔJ (λm i=>?_) #[io,b,u,e] ŷ
 ·have e:b=it:=by simpa using h
  subst e;exact(h1,d,h2,g)
 ·obtain o|j|l|t|r:=i;exact(o,j,l,k _ o (Àb d) t,r)
 ·refine(é b u e).stay (λc v a q=>k c v ?_ q) (λ_ q=>q) λ_ _ q=>q;rcases a with z|z
  ·rw[z];exact f b u e
  ·exact f c _ z
theorem Inv.tok(I:â)(t:Nat):Inv X aj σ H { s with õ:=t }:=I.un (h':=Í) (t':=t) Un.refl é
theorem Inv.kept{t':Nat}(I:â)(k:ÔK):Inv X aj σ H { s with Õ:=h',õ:=t' }:=I.un (ÈA k) (I.hok.kept k)
theorem Inv.laid{a:af}{o:HO}{t':Nat}(I:â)(k:ÔK)(c:Ò<=a)(new:Y1 ü X.w Æu h' a o) :
  Inv X aj σ Æu { s with Õ:=h',õ:=t' }:=I.un (Un.laid k c (ÆA c)) (I.hok.laid k c new)
theorem Inv.write{x e:af}{o:HO}{t':Nat}(I:â)(a:Mut (H x))(he:Ïl)(k:#[hW,b,u,e,í])(c:Ïm)
  (new:#[Ae,x,o,h']):Inv X aj σ (upd H x o) { s with Õ:=h',õ:=t' }:=I.un (Un.write a he k c) (I.hok.write a he k c new)
theorem Inv.pins_of{a:ĕ}(I:â)(h:∀p∈a,í p.1=aa p.2/\H p.1=ah/\p.1≠ğ/\p.1 ∉ Àr/\∀v,p.2.data≠.cell v):Inv X a σ H s :=
 (Ŷ,ÀN,ŷ,Åg,Ř,Ν,š,η,λp b=>(ÿ b).elim (λz=>θ p (QR _ z)) (h p),é,Β)
theorem Rt{N:Ï}(c:Ëw){i j:Nat}{x:am}(a:#[Au,N,x])(b:N[j]? = aa x):i=j:=by obtain h1|d:=Ń a;obtain h2|e:=Ń b;exact(List.getElem_inj c).mp (Ëx Åh)
theorem Mb{M:Às}{A:aE}{E:ñ}{i:Nat}{x:am}{v:V}{u:ae}{Q:Ál}(I:â)(T:Â1)(B:Âl)(hx:ÆB)(r:ZI v u)
  (h:∀s',Inv X aj (σ.set i (aa v)) H s'->(∃a,Åi a Í ÀO/\(a=ğ\/ζ x=aa a))->Q () s') (hf:ÆC:=by first|exact ÀP|exact À3|assumption):av M A (Ëy Ì x u) Q E s:=by
 rw[sX,m,F,U,id,Ř];have j1:ÔL:=by rw[À2];rfl
 have W:i<Ëo:=by rw[Β];exact(Ń B).1
 have cne:=I.cne;have Y:∀ {a:af} {h':aJ},(∃o,í a=aa o/\H a=ah)->Åi a Í h'->HOk ü X.w H h':=λ{a h'} ha f b ob e=>by
  obtain _|_|Z:=ha;refine(é b ob e).stay (λc C hc q=>(f.2 c ?_).trans q) (λ_ q=>q) λ_ _ q=>q;rintro rfl;rcases hc with rfl|hc
  ·rw[gv,Z,e,e]
  ·rw[gv,Z,hc,hc]
 rcases hx with hk|hk
 ·refine wpAny_storeName_local hk F #[io,h',rT,f] j1;obtain oL|_|_|uI|_:=id F;refine h _ (Ŷ,ÀN,ŷ,ÔM,(_,rT,λj y G g l J=>?_),λy c e=>?_,š,η,λp K=>?_,Y (oL,uI,š) f,by simpa using Β) (_,f,.inl rfl)
  ·exact(f.2 b Ëz).trans #[tj,t,hx]
  ·rw[s5,L,g,t,hx];rw[un,L,f.2,g]
  ·rw[iw,N,g,hx];rw[un,N,f.2,g]
  ·by_cases w:j=i
   ·rw[wZ];exact(u,r,.inl (hk,by simp))
   ·rw[dQ];rcases q with⟨k,e⟩|⟨k,c,e,z⟩
    ·refine .inl (k,?_);have:y≠x:=λe=>w (Rt T g (e ▸ B));simp[this,e]
    ·exact .inr (k,c,e,ËA f ËB)
  ·obtain C|z:=Ν y c e;exact(C,ËA f ËB)
  ·rw[s0,R,K];exact#[Am,f.2,ne,R]
 ·have S:X.fn x=true:=by
   rcases hf with z|z
   ·exact z
   ·rw[gv,z,hk,hk]
  obtain c|hc:=ËC x (.inl hk);obtain C|z:=Ν x c hc;refine wpAny_storeName_cell À2 hk hc z #[io,h',jA,f];rw[sX,oc,U',V',id,z];refine h { s with Õ:=h' } (Ŷ,ÀN,ŷ,ÔM,(m,F.sameBut f (Àb (cne x c hc)),λj y G g l J=>?_),λy D e=>?_,š,η,λp K=>?_,Y (oc,U',η x c hc) f,by simpa using Β) (c,f,.inr hc)
  ·exact#[dC].trans #[tj,t,hx]
  ·rw[s5,L,g,t,hx];exact(L,#[dC].trans g)
  ·rw[iw,N,g,hx];exact(N,#[dC].trans g)
  ·by_cases w:j=i
   ·rw[wZ];exact(u,r,.inr (.inl hk,c,hc,jA))
   ·rw[dQ];rcases q with q|⟨k,D,e,z'⟩
    ·exact .inl q
    ·refine .inr (k,D,e,z'.sameBut f ?_);rintro rfl;exact w (Rt T g (I.ok.inj _ _ _ e hc ▸ B))
  ·by_cases Y':D=c
   ·subst Y';exact(_,jA)
   ·obtain w2|z2:=Ν y D e;exact(w2,z2.sameBut f Y')
  ·rw[s0,R,K];refine#[Am,f.2,?_,R];intro q;rw[q,U']at e;have q':oc=p.2:=Qv e;exact d C #[fE,q',V']
theorem Ub{M:Às}{A:aE}{E:ñ}{i:Nat}{x:am}{v:V}{u:ae}{Q:Ál}(I:â)(a:Â1)(b:Âl)(hx:ÆB)(r:ZI v u)
  (h:∀s',Inv X aj (σ.set i (aa v)) H s'->Q () s') (hf:ÆC:=by first|exact ÀP|exact À3|assumption):av M A (Ëy Ì x u) Q E s :=
 Mb I a b hx r (λs' c _=>h s' c) hf
theorem Inv.call'{s':ak}{ch:Š}(I:â)(a:s'.os=s.os)(u:Un Ëu ch H H' Í ÀO)(hok:HOk ü X.w H' ÀO)(d:Â0 s'.gens)
  (f:Ïu):Inv X aj σ H' s':=by
 obtain h'|g'|d'|t'|g:=s';have e:g=s.os:=a;subst e;exact I.call (g':=g') (t':=t') (d':=d') u hok d f
universe E
abbrev XK:=ae->Ã af->Hp->Prop
abbrev St:=À (Ã V)
abbrev VK:=V->Hp->Prop
abbrev TE:=St->Hp->VK->Prop
abbrev TT:=St->Hp->(Ê->Hp->Prop)->Prop
abbrev TA:=St->Hp->(À V->Hp->Prop)->Prop
structure XA where
 nx:St->Hp->Prop
 rt:VK
 bk:St->Hp->Prop:=ËD
 ct:St->Hp->Prop:=ËD
abbrev TS:=XA->St->Hp->Prop
def EP(X:Cx)(b:ĕ)(c:St)(Q:VK)(u:ae)(s':ak):Prop:=X2 λv a=>Inv X b c a s'/\ZI v u/\Q v a
def TP(X:Cx)(c:ĕ)(d:St)(Q:Ê->Hp->Prop)(b:Ê)(s':ak):Prop:=∃a,Inv X c d a s'/\Q b a
def AP(X:Cx)(b:ĕ)(c:St)(Q:À V->Hp->Prop)(us:Þ)(s':ak):Prop:=X2 λvs a=>Inv X b c a s'/\ZF vs us/\Q vs a
def SP(X:Cx)(c:ĕ)(D:XA)(f:Flow)(s':ak):Prop :=
 match f with
 | .next=>X2 λb a=>Inv X c b a s'/\Ħ b a
 | .brk=>X2 λb a=>Inv X c b a s'/\D.bk b a
 | .cont=>X2 λb a=>Inv X c b a s'/\D.ct b a
 | .ret u=>X3 λv b a=>Inv X c b a s'/\ZI v u/\D.rt v a
def PE(X:Cx)(e:aL)(t:TE):Prop :=
 ∀ (b:À (af×aN)) (s:ak) (a:St) (H:Hp) (Q:VK),Inv X b a H s->t a H Q->ý #[gg,e] (EP X b a Q) ê s
def PT(X:Cx)(e:aL)(t:TT):Prop :=
 ∀ (b:À (af×aN)) (s:ak) (a:St) (H:Hp) (Q:Ê->Hp->Prop),Inv X b a H s->t a H Q->ý (isTrue e Ì #[gg,e]) (TP X b a Q) ê s
def PW(X:Cx)(e:aL)(t:TT):Prop :=
 ∀ (c:Sem ae) (b:À (af×aN)) (s:ak) (a:St) (H:Hp) (Q:Ê->Hp->Prop),Inv X b a H s->t a H Q->ý (isTrue e Ì c) (TP X b a Q) ê s
theorem Ő{X:Cx}{e:aL}{t:TT}(h:PW X e t):PT X e t:=h _
def PA(X:Cx)(d:ĭ)(t:TA):Prop :=
 ∀ (a:Pos) (c:À (af×aN)) (s:ak) (b:St) (H:Hp) (Q:À V->Hp->Prop),Inv X c b H s->t b H Q->ý (spliced (bj a (aG d Ì))) (AP X c b Q) ê s
def PS(X:Cx)(st:aK)(t:TS):Prop :=
 ∀ (a:À (af×aN)) (s:ak) (b:St) (H:Hp) (D:XA),Inv X a b H s->t D b H->ý (exec st Ì) (SP X a D) ê s
def PSs(X:Cx)(st:Ţ)(t:TS):Prop :=
 ∀ (a:À (af×aN)) (s:ak) (b:St) (H:Hp) (D:XA),Inv X a b H s->t D b H->ý (execs st Ì) (SP X a D) ê s
theorem thn{α:Type}{t:Sem α}{Q b:α->ak->Prop}{M:Às}{A:aE}{E:ñ}{s:ak}(h:av M A t Q E s)(c:∀a s,Q a s->b a s):av M A t b E s:=aS h c λ_ _ x=>x
section
variable {X:Cx}
inductive EA {α:Type} (A B:α->Prop):Prop where
 | mk (v:α) (a:A v) (b:B v)
def Vq(i:Nat):TE:=λa H Q=>EA (λv=>a[i]? = aa (aa v)) (λv=>Q v H)
def tC(v:V):TE:=λ_ H Q=>Q v H
theorem Rs{i:Nat}{x:am}{pos:Pos}(f:Âl)(g:#[i3,Vis])(hd:Ĵ:=by decide)(j:ËE:=by decide):PE X ÀQ (Vq i):=by
 rw[fA,k,n,Q];rw[ja,v,e,h,h];rw[ja,m,o,p,Ř];obtain u|r|l:=p i x v f e g;have a:EP X k n Q u s:=Ïz;rcases l with⟨hk,q⟩|⟨hk,c,b,d⟩
 ·exact ÏA (ÔN À2 hk o q a) hd
 ·rcases hk with hk|hk
  ·exact ÏA (ÔO À2 hk b d a) hd
  ·exact ÏA (wpAny_loadName_free À2 hk b d a j) hd
theorem Zk{i j pos}:PE X (.Constant Åj j pos) (tC Åj):=λ_ _ _ H _ I h=>wpAny_Constant_int #[t1,i,h]
theorem WL{b j pos}:PE X (.Constant (.bool b) j pos) (tC (.bl b)):=λ_ _ _ H _ I h=>Constant_bool (.bl b,H,I,rfl,h)
theorem ZL{j pos}:PE X (.Constant .none j pos) (tC .non):=λ_ _ _ H _ I h=>Constant_none (.non,H,I,rfl,h)
theorem Zj{x j pos}:PE X (.Constant (.str x) j pos) (tC (.str x)):=λ_ _ _ H _ I h=>Calls.Constant_str #[g6,x,h]
def Gl(X:Cx)(x:am):Prop:=Ák x=aa .globalImplicit
theorem WV{E:ñ}{a:ĕ}{s:ak}{b:St}{H:Hp}{x:am}{u:ae}{pos:Pos}{Q:ñ}(I:ÈL)(c:ő)(hm:ė x=aa u)(h:Q u s)
  (hd:Ĵ:=by decide):ý #[gg,ÀQ] Q E s :=
 ÔP À2 c (Calls.loadGlobal_global ÔQ hm h) hd
theorem Vp{E:ñ}{a:ĕ}{s:ak}{b:St}{H:Hp}{x:am}{u:ae}{pos:Pos}{Q:ñ}(I:ÈL)(c:ő)(hm:ė x=ah)(d:cx x=aa u)(h:Q u s)
  (hn:ÈM:=by decide) (hd:Ĵ:=by decide):ý #[gg,ÀQ] Q E s:=by
 rw[ja,mb,e,f,I.mod.blt];exact ÔP À2 c (Calls.loadGlobal_builtin ÔQ hm #[fs,I.ok.blt,e.keeps,I.bk] ((f x hn).trans d) h) hd
theorem Ma{x:am}{v:V}{u:ae}{pos:Pos}(a:ő)(hm:ė x=aa u)(r:ZI v u)(hd:Ĵ:=by decide):PE X ÀQ (tC v) :=
 λ_ _ _ H _ I h=>WV I a hm Ïz hd
theorem Zr4{x:am}{v:V}{u:ae}{pos:Pos}(a:ő)(hm:ė x=ah)(b:cx x=aa u)(r:ZI v u)(hn:ÈM:=by decide)(hd:Ĵ:=by decide):PE X ÀQ (tC v) :=
 λ_ _ _ H _ I h=>Vp I a hm b Ïz hn hd
variable {a b:aL} {ta tb:TE} {pos:Pos}
def tB(t:TE):TT:=λa H Q=>t a H λx b=>EA (λc=>x=.bl c) (λc=>Q c b)
theorem Xd{e:aL}{t:TE}(h:PE X e t)(he:∀a,isTrue e Ì a=(do let v <- a;ÃZ e.pos;ÁO [v] (truthy v)):=by intro _;rfl):PT X e (tB t):=by intro b s c H Q I hw;refine isTrue_plain (thn (h b s c H _ I hw) ?_) (he _);rintro v s1 ⟨x,f,g,i,j⟩;obtain d|rfl|q:=j;cases i;exact bp (f,g,q)
variable {tA Az:TT} {Č:À aL}
def Zxq(t u:TT):TT:=λa H Q=>t a H λc b=>if c=true then u a b Q else Q false b
def tOr(t u:TT):TT:=λa H Q=>t a H λc b=>if c=true then Q true b else u a b Q
def Zxf(t:TT):TT:=λa H Q=>t a H λc b=>Q (!c) b
theorem WU(ha:PT X a tA):PW X (.BoolOp .And [a] pos) tA:=by
 intro wh b s d H Q I h;refine isTrue_and ÔR;cases c with
 | true=>exact isTrue_and_nil e
 | false=>exact e
theorem Xc(ha:PT X a tA):PW X (.BoolOp .Or [a] pos) tA:=by
 intro wh b s d H Q I h;refine isTrue_or ÔR;cases c with
 | false=>exact isTrue_or_nil e
 | true=>exact e
theorem W5(ha:PT X a tA)(hb:PW X ÔS Az):PW X ÔT (Zxq tA Az):=by
 intro j d s e H Q I h;refine isTrue_and #[eX,ha,d,e];rintro c k ⟨f,g,i⟩;cases c with
 | true=>exact hb j d k e f Q g i
 | false=>exact(f,g,i)
theorem Xb(ha:PT X a tA)(hb:PW X ÔU Az):PW X ÔV (tOr tA Az):=by
 intro j d s e H Q I h;refine isTrue_or #[eX,ha,d,e];rintro c k ⟨f,g,i⟩;cases c with
 | true=>exact(f,g,i)
 | false=>exact hb j d k e f Q g i
theorem Vo(ha:PT X a tA):PT X (.UnaryOp .Not a pos) (Zxf tA):=by intro b s d H Q I h;exact isTrue_not (ha b s d H (λc e=>Q (!c) e) I h)
def ZwV(ta tb:TE):TE:=λa H Q=>ta a H λx b=>∃c,x=.bl c/\if c=true then tb a b Q else Q ËF b
def Zxd(ta tb:TE):TE:=λa H Q=>ta a H λx b=>∃c,x=.bl c/\if c=true then Q (.bl true) b else tb a b Q
def Zww(ta:TE):TE:=λa H Q=>ta a H λx b=>∃c,x=.bl c/\Q (.bl (!c)) b
theorem Ua{op}{t:TE}(h:PE X a t):PE X (.BoolOp op [a] pos) t:=λb s c H Q I hw=>BoolOp_one (h b s c H Q I hw)
theorem Rr(ha:Ám)(hb:PE X ÔS tb):PE X ÔT (ZwV ta tb):=by
 rw[tZ,Q,BoolOp_and,ha];rw[lT];cases c with
 | true=>exact hb e j f g Q i d
 | false=>exact(.bl false,g,i,rfl,d)
theorem LZ(ha:Ám)(hb:PE X ÔU tb):PE X ÔV (Zxd ta tb):=by
 rw[tZ,Q,BoolOp_or,ha];rw[lT];cases c with
 | false=>exact hb e j f g Q i d
 | true=>exact(.bl true,g,i,rfl,d)
theorem Zvi(ha:Ám):PE X (.UnaryOp .Not a pos) (Zww ta):=by intro d s e H Q I h;refine UnaryOp_ #[eX,ha,d,e];rintro v s1 ⟨x,f,g,i,b⟩;obtain c|rfl|b:=b;cases i;exact not_of (bp (.bl (!c),f,g,rfl,b))
def tIf(t:TT)(ta tb:TE):TE:=λa H Q=>t a H λc b=>if c=true then ta a b Q else tb a b Q
theorem Yb{c:aL}(hc:PT X c tA)(ha:Ám)(hb:Ã0):PE X (.IfExp c a b pos) (tIf tA ta tb):=by
 rw[tZ,Q,wpAny_IfExp,hc];rintro d g ⟨i,j,k⟩;cases d with
 | true=>exact ha e g f i Q j k
 | false=>exact hb e g f i Q j k
universe E
def SqL(K:Ä)(H:Hp)(a:af)(xs:ă):Prop :=
 Rd H a Àt \/
  X3 λ(o:aN) (its:ē ae) (n:Nat)=>Ā a=aa o/\Ã1=.type "list"/\o.dict=ah/\ş=.seq its n/\its.size<=aq/\ZF xs ÈN
def SqT(K:Ä)(H:Hp)(a:af)(xs:ă):Prop :=
 Rd H a ű \/
  X3 λ(o:aN) (its:ē ae) (n:Nat)=>Ā a=aa o/\Ã1=.type "tuple"/\ş=.seq its n/\its.size<=aq/\ZF xs ÈN
def Zxn:ae->Ã V
 | .none=>aa .non
 | .bool b=>aa (.bl b)
 | .int i _=>aa Åj
 | .str x _=>aa (.str x)
 | .bytes b _=>aa (.byt b)
 | .float b _=>aa (.flt b)
 | .ref a=>aa ą
 | .type n=>aa (.ty n)
 | _=>ah
theorem ZI.abs{x:V}{u:ae}(r:ZI x u):Zxn u=aa x:=by
 cases x with
 | non=>cases r;rfl
 | bl _=>cases r;rfl
 | int _=>obtain t|rfl:=r;rfl
 | str _=>obtain t|rfl:=r;rfl
 | byt _=>obtain t|rfl:=r;rfl
 | flt _=>obtain t|rfl:=r;rfl
 | ref _=>cases r;rfl
 | ty _=>cases r;rfl
theorem ZI.inj{x y:V}{u:ae}(r:ZI x u)(q:ZI y u):x=y:=Qv (r.abs.symm.trans q.abs)
theorem ZF.inj:∀ {xs ys:À V} {us:À ae},ZF xs us->ZF ys us->xs=ys
 | _,_,_,.nil,.nil=>rfl
 | _,_,_,.cons r t,.cons a t'=>by rw[r.inj a,ZF.inj t t']
section
variable {X:Cx} {aj:À (af×aN)} {σ:St} {H:Hp} {s:ak} {a:af} {xs ys:À V}
theorem É{K:Ä}(h:H a=aa Àt):SqL K H a xs:=.inl Åk
theorem þ{K:Ä}(h:H a=aa ű):SqT K H a xs:=.inl Åk
theorem Inv.list(I:â)(h:SqL X.K H a xs):∃its:À ae,ZF xs its/\PlainL Í a Ĕ/\Ö<=aq:=by
 rcases h with h|⟨o,its,n,b,c,hd,d,hz,r⟩
 ·obtain z|its|n|r|e:=h.ok é;exact(its,r,(_,n,e,rfl,rfl,rfl),z)
 ·refine(ÈN,r,(o,n,ĵ a o b,c,hd,by simpa using d),?_);rw[oN];lia
theorem Inv.tuple(I:â)(h:SqT X.K H a xs):∃its:À ae,ZF xs its/\ÁL Í a Ĕ/\Ö<=aq:=by
 rcases h with h|⟨o,its,n,b,c,d,hz,r⟩
 ·obtain z|its|r|p:=h.ok é;exact(its,r,p,z)
 ·refine(ÈN,r,(o,ĵ a o b,c,n,by simpa using d),?_);rw[oN];lia
theorem Inv.list_inj(I:â)(h:SqL X.K H a xs)(h':SqL X.K H a ys):xs=ys:=by
 obtain its|r|⟨o,n,e,_,_,d⟩|_:=Âm h;obtain b|g|⟨o',n',c,_,_,f⟩|_:=Âm h';rw[gv,e,c,c];rw[d]at f;injection f with i _;have:its=b:=by simpa using ħ Array.toList i
 subst this;exact r.inj g
theorem Inv.tuple_inj(I:â)(h:SqT X.K H a xs)(h':SqT X.K H a ys):xs=ys:=by
 obtain its|r|⟨o,e,_,n,d⟩|_:=Ân h;obtain b|g|⟨o',c,_,n',f⟩|_:=Ân h';rw[gv,e,c,c];rw[d]at f;injection f with i _;have:its=b:=by simpa using ħ Array.toList i
 subst this;exact r.inj g
universe E
abbrev Cx.wish(X:Cx)(E:ñ):Cx:={ X with xe:=E }
abbrev Cx.nox(X:Cx):Cx:=X.wish λ_ _=>ĝ
theorem Cx.Ok.wish{X:Cx}(ok:X.Ok)(E:ñ):(ÏB).Ok :=
 ËG
theorem Cx.Ok.unwish{X:Cx}{E:ñ}(ok:(ÏB).Ok):X.Ok :=
 ËG
section
variable {X:Cx} {aj:À (af×aN)} {σ:St} {H:Hp} {s:ak} {E:ae->ak->Prop}
theorem Inv.wish(I:â)(E:ñ):Inv ÏB aj σ H s:=(I.ok.wish E,ÀN,ŷ,Åg,Ř,Ν,š,η,θ,é,Β)
theorem Inv.unwish(I:Inv ÏB aj σ H s):Inv X aj σ H s:=(I.ok.unwish,ÀN,ŷ,Åg,Ř,Ν,š,η,θ,é,Β)
theorem SP.unwish{D:XA}{f:Flow}{s':ak}(h:SP ÏB aj D f s'):SP X aj D f s':=by
 cases f with
 | next=>obtain a|b|I|q:=h;exact ÏC
 | brk=>obtain a|b|I|q:=h;exact ÏC
 | Γ=>obtain a|b|I|q:=h;exact ÏC
 | ret u=>obtain v|a|b|I|r|q:=h;exact(v,a,b,I.unwish,r,q)
theorem PSs.nox{st:Ţ}{t:TS}(h:PSs X.nox st t):PSs X st t:=λaj s σ H D I hw =>
 aS (h aj s σ H D (I.wish _) hw) (λ_ _ q=>q.unwish) λ_ _ z=>Â2 z
universe E
section
variable {X:Cx} {st:aK} {Č:À aK} {t u:TS} {e:aL} {te:TE} {pos:Pos}
def ZwE:TS:=λD a H=>Ħ a H
def Zw7(t u:TS):TS:=λD a H=>t { D with nx:=u D } a H
theorem Zv:PSs X [] ZwE:=λ_ _ a H _ I h=>Ål (a,H,I,h)
theorem Zc(h1:PS X st t)(h2:PSs X Č u):PSs X (st::Č) (Zw7 t u):=by
 rw[fA,a,b,D];refine ÏD (thn (h1 a s b H { D with nx:=u D } I h) λf c q=>?_);cases f with
 | next=>obtain d|e|g|q:=q;exact h2 a c d e D g q
 | ret v=>exact q
 | brk=>exact q
 | Γ=>exact q
theorem Zh(h1:PS X st t):PSs X [st] t:=by
 rw[fA,a,b,D];refine ÏD (thn (h1 a s b H D I h) λf s1 q=>?_);cases f with
 | next=>exact Ål q
 | ret v=>exact q
 | brk=>exact q
 | Γ=>exact q
theorem Inv.quiet{a:ĕ}{b:St}{H:Hp}{s:ak}(I:ÈL):interactive Ì=false:=by simp[interactive,À2]
def ZvW(te:TE):TS:=λD a H=>te a H λ_ b=>Ħ a b
theorem ZO(he:Åm)(hs:ËH e ah ËI Ì=pure false:=by rfl):PS X (.Expr e pos) (ZvW te):=by intro b s a H D I h;exact wpAny_Expr_any (thn #[gO,he,b,a] λv s1 ⟨x,c,d,r1,f⟩=>(a,c,d,f)) I.quiet hs
def LY(te:TE):TS:=λD a H=>te a H D.rt
theorem Zl(he:Åm):PS X (.Return (aa e) pos) (LY te):=by intro b s a H D I h;exact wpAny_Return_some (thn #[gO,he,b,a] λv s1 ⟨x,c,d,f,g⟩=>(x,a,c,d,f,g))
def Zxc(c:TT)(t u:TS):TS:=λD a H=>c a H λb d=>if b=true then t D a d else u D a d
theorem ZN{c:aL}{a b:Ţ}{g:TT}(hc:PT X c g)(ha:PSs X a t)(hb:PSs X b u):PS X (.If c a b pos) (Zxc g t u):=by
 rw[tZ,D,wpAny_If,hc];rintro d i ⟨j,k,l⟩;cases d with
 | true=>exact ha e i f j D k l
 | false=>exact hb e i f j D k l
universe E
abbrev TG:=V->St->Hp->(St->Hp->Prop)->Prop
abbrev TGs:=À V->St->Hp->(St->Hp->Prop)->Prop
def PG(X:Cx)(e:aL)(t:TG):Prop :=
 ∀ (a:À (af×aN)) (s:ak) (b:St) (H:Hp) (v:V) (u:ae) (Q:St->Hp->Prop),Inv X a b H s->ZI v u->t v b H Q ->
  ý (Âo e Ì u) (λ_ f=>X2 λc d=>Inv X a c d f/\Q c d) ê s
def PGs(X:Cx)(ts:ĭ)(t:TGs):Prop :=
 ∀ (a:À (af×aN)) (s:ak) (b:St) (H:Hp) (c:À V) (d:À ae) (Q:St->Hp->Prop),Inv X a b H s->ZF c d->t c b H Q ->
  ý (assignInOrder ((bW ts Ì).map Ĩ) d) (λ_ g=>X2 λe f=>Inv X a e f g/\Q e f) ê s
abbrev T9:=V->V->V->Hp->(Hp->Prop)->Prop
def T8(X:Cx)(t:T9):Prop :=
 ∀ (a:À (af×aN)) (s:ak) (b:St) (H:Hp) (o i v:V) (c d u:ae) (Q:Hp->Prop),Inv X a b H s->ZI o c->ZI i d->ZI v u->t o i v H Q ->
  ý (setItem c d u) (λ_ f=>∃e,Inv X a b e f/\Q e) ê s
abbrev TIp:=ÈO
def PIp(X:Cx)(op:ÈP)(t:TIp):Prop :=
 ∀ (a:À (af×aN)) (s:ak) (b:St) (H:Hp) (x y:V) (v u:ae) (Q:VK),Inv X a b H s->ZI x v->ZI y u->t x y H Q ->
  ý (ÏE op v u) Ã2 ê s
section
variable {X:Cx} {pos:Pos}
def S9(i:Nat):TG:=λv a H Q=>Q (a.set i (aa v)) H
theorem Zw{i:Nat}{x:am}(a:Â1)(b:Âl)(hx:ÆB)(hf:ÆC:=by first|exact ÀP|exact À3|assumption):PG X ÀQ (S9 i):=by intro aj s σ H v u Q I r h;exact ÔW (Ub I a b hx r (λs' c=>(_,H,c,h)) hf)
def LX:TGs:=λvs a H Q=>vs=[]/\Q a H
inductive RGc (vs:ă) (B:V->À V->Prop):Prop where
 | mk (v:V) (r:À V) (e:vs=v::r) (q:B v r)
def LW(t:TG)(u:TGs):TGs:=λvs a H Q=>RGc vs λv r=>t v a H λb c=>u r b c Q
theorem Z0:PGs X [] LX:=by intro aj s a H vs us Q I r h;obtain e|h:=h;subst e;cases r;exact ÔX (a,H,I,h)
theorem Zp{e:aL}{a:ĭ}{t:TG}{u:TGs}(h1:PG X e t)(h2:PGs X a u)
  (hs:(bW (e::a) Ì).map Ĩ=Âo e Ì::(bW a Ì).map Ĩ:=by rfl):PGs X (e::a) (LW t u):=by
 rw[iB,b,c,vs];obtain v|vr|d|h:=h;subst d;cases r with
 | Ñ r f=>rw[hs];refine ÔY (thn (h1 b s c H _ _ _ I r h) ?_);rintro _ g ⟨i,j,k,l⟩;exact h2 b g i j _ _ Q k f l
inductive RGt (K:Ä) (H:Hp) (n:Nat) (v:V) (B:À V->Prop):Prop where
 | mk (a:af) (xs:À V) (e:v=.ref a) (s:SqT K H a xs) (l:Ö=n) (q:B xs)
def LV(K:Ä)(n:Nat)(t:TGs):TG:=λv a H Q=>RGt K H n v λxs=>t xs a H Q
theorem Zut{c:ĭ}{k:Nat}{t:TGs}{n:Nat}(hc:Ÿ)(h:PGs X c t)
  (hn:(bW c Ì).length=n:=by rfl) (i:(bW c Ì).findIdx? ċ=ah:=by rfl):PG X (.Tuple c k pos) (LV X.K n t):=by
 intro d s f H v u Q I r hw;obtain a|j|l|m|p|hw:=hw;subst l;cases r;rw[sQ,g,q,hz,m];refine assign_Tuple_tuple Â3 q (by simp[hn,<- p,Ã3]) i λw x=>?_;have y:#[fQ,d,f,H,s,w]:=Âp (t':=ļ) λb o e=>x b o (QG (Ql e)) e;exact h d _ f H j _ Q y #[eE,g] hw
def Zw4(to b:TE)(t:T9):TG:=λv a H Q=>to a H λo c=>b a c λi d=>t o i v d λe=>Q a e
theorem WK{o i:aL}{to e:TE}{t:T9}(f:ÆD)(g:PE X i e)(hs:T8 X t)
  (ha:∀v,Âo (.Subscript o i pos) Ì v=(do
   let a <- ÁO [v] (Ċ o Ì);let b <- ÁO [v,a] (Ċ i Ì)
   ÃZ pos
   ÁO [v,a,b] (setItem a b v)
   release [v,a,b] []):=by intro _;rfl):PG X (.Subscript o i pos) (Zw4 to e t):=by
 intro d s c H v u Q I r h;rw[ha];refine ai (aT #[eX,f,d,c]);rintro a j ⟨x,k,l,m,n⟩;refine ai (aT (thn (g d j c k _ l n) ?_));rintro b p ⟨y,q,w,z,A⟩;refine ai (bK (ai (aT (thn (hs d p c q x y v a b u _ w m z r A) ?_))));rintro _ s3 ⟨B,C,D⟩;exact wpAny_release (c,B,C,D)
def Rq(b:TE)(g:TG):TS:=λD a H=>b a H λx c=>g x a c Ħ
theorem Yy{a e:aL}{b:TE}{g:TG}(he:PE X e b)(f:PG X a g)(hs:swapsWithSole [a] e ËI Ì=pure false:=by rfl)(hw:swappedStores [a] e Ì=pure ah:=by rfl)
  (i:(bW [a] Ì).map Ĩ=[Âo a Ì]:=by rfl):PS X (.Assign [a] e pos) (Rq b g):=by
 rw[fA,c,d,D];refine wpAny_Assign_stores #[eX,he,c,d] hs hw;rintro v j ⟨x,k,l,m,n⟩;rw[i];exact thn (f c j d k x v _ l m n) λ_ s2 q=>q
theorem Zq{i:Nat}{x:am}{e:aL}{a:TE}{b:Pos}(c:Â1)(d:Âl)(hx:ÆB)(he:PE X e a)(hs:ËH e (aa (.Name x b)) ËI Ì=pure false:=by rfl)(hf:ÆC:=by first|exact ÀP|exact À3|assumption) :
  PS X (.Assign [.Name x b] e pos) (Rq a (S9 i)):=by
 rw[fA,f,g,D];refine wpAny_Assign_Name #[eX,he,f,g] hs;rintro v s1 ⟨y,j,k,l,m⟩;exact Ub k c d hx l (λs2 n=>(_,j,n,m)) hf
def Zxl(i:Nat)(b:TE)(c:TIp):TS:=λD a H=>∃x,a[i]? = aa (aa x)/\b a H λy d=>c x y d λz e=>Ħ (a.set i (aa z)) e
theorem LU{i:Nat}{x:am}{e:aL}{b:TE}{op:ÈP}{d:TIp}{j:Pos}(n:Â1)(f:Âl)(hx:ÆB)(he:PE X e b)(o:PIp X op d)(hf:ÆC:=by first|exact ÀP|exact À3|assumption) :
  PS X (.AugAssign (.Name x j) op e pos) (Zxl i b d):=by
 rw[fA,a,g,D];rw[ja,v,p,h,h];rw[ja,m,q,t,Ř];have A:#[i3,Vis]:=by rcases hx with k|k;exact .inl k;exact .inr (.inl k)
 obtain u|r|l:=t i x v f p A;refine wpAny_AugAssign_Name ?_;have go:ý #[gg,e] (λw B=>ý (ÏE op u w) (λr C=>ý (Ëy Ì x r) (λ_=>SP X a D .next) ê C) ê B) ê s:=by refine thn #[gO,he,a,g] ?_;rintro w E ⟨y,F,G,J,K⟩;refine thn (o a E g F v y u w _ G r J K) ?_;rintro z s2 ⟨zv,L,M,N,O⟩;exact Ub M n f hx N (λs3 P=>(_,L,P,O)) hf
 rcases l with⟨hk,Q⟩|⟨hk,c,R,S⟩
 ·exact ÔN À2 hk q Q go
 ·rcases hk with hk|hk
  ·exact ÔO À2 hk R S go
  ·rcases hx with k|k
   ·rw[k9]
   ·rw[k9]
def ipI(f:Int->Int->Int):TIp:=λx y H Q=>X2 λi j=>C3 (x=.int i) (y=.int j) (Q (.int (f i j)) H)
theorem LS:PIp X .Add (ipI λi j=>i+j):=by intro aj s σ H x y v u Q I a b h;obtain i|j|c|d|q:=h;subst c;subst d;obtain t|rfl:=a;obtain t'|rfl:=b;exact iadd_int #[t1,_,q]
universe E
section
variable {X:Cx} {pos:Pos}
def Zuk(c:TT)(h:TS):TS:=λD a H=>∃W:Nat->St->Hp->Prop,(∃m,W m a H)/\∀m a H,W m a H ->
 c a H λb d=>if b=true then ∃N:St->Hp->Prop,(∀e f,N e f->∃g,g<m/\W g e f)/\h { D with nx:=N,ct:=N,bk:=Ħ } a d else Ħ a d
theorem T7{c:aL}{r:Ţ}{t:TT}{u:TS}(w:bf Ĝ X.A Ì ê)(hc:PT X c t)(hb:PSs X r u):PS X (.While c r [] pos) (Zuk t u):=by
 rw[fA,k,E,D];obtain W|⟨F,G⟩|a:=h;refine wpAny_While (codeAny_whileLoop (λn J=>X2 λx y=>Inv X k x y J/\W n x y) ?_ F (E,H,I,G));rintro n K ⟨g,z,L,M⟩;refine b8 w (thn (hc k K g z _ L (a n g z M)) ?_);rintro b O ⟨A,B,i⟩;cases b with
 | true =>
  rw[ja,N,C,i,i];rw[q7];refine b8 w (thn (hb k O g A _ B i) λf s3 j=>?_);cases f with
  | next=>obtain d|e|l|m:=j;rw[pi]
  | Γ=>obtain d|e|l|m:=j;rw[pi]
  | brk=>exact j
  | ret v=>exact j
 | false=>rw[È Qt];exact Ål (g,A,B,i)
universe E
structure It where
 go:Nat->Hp->Prop
 yld:Nat->Hp->V->Hp->Prop
 stop:Nat->Hp->Prop
def Xa(X:Cx)(a:ĕ)(H:Hp)(b:af):Prop :=
 H b=ah/\b≠ğ/\b ∉ Àr/\(b∈X.ex\/Ŵ<=b)/\#[hf,c,b]/\∀p∈X.pn++a,p.1≠b
theorem Inv.fpOk{X:Cx}{a:ĕ}{f:St}{H d:Hp}{s:ak}{b:af}(I:Inv X a f H s)(hb:Ò<=b)(hn:d b=ah):Xa X a d b:=by
 refine(hn,Q4 (QB I.lt hb),I.nofs hb,.inr (Qj I.sz hb),λx c e z=>?_,λp g z=>?_)
 ·obtain v|q:=Ëq;exact Î (QB q.lt #[eH,z,hb]) (Qal _)
 ·exact Î (QB (Ql (θ p g).1) #[eH,z,hb]) (Qal _)
structure V3 (P:aA) (w:aF) (K:Ä) (tg:aL) (J:It) (fp:Š) (it:af) (tn:Nat->aJ->Prop):Prop where
 mem:it∈fp
 obj:∀i h,tn i h->∀b∈fp,∃o,à b=aa o/\∀v,ş≠.cell v
 Ė:∀i h h',tn i h->(∀b∈fp,∀o,à b=aa o->ĉ b=aa o)->tn i h'
 item:∀ (X:Cx),ü=P->X.w=w->X.K=K->X.calm=true->∀ (i:Nat) (aj:À (af×aN)) (s:ak) (σ:St) (H:Hp) (E:ae->ak->Prop),Inv X aj σ H s->ÔZ->tn i Í->J.go i H ->
  av Ã4 X.A (Ã5 Án) (λr s1=>∃u,r=aa u /\
   av Ã4 X.A (dN tg Án u) (λ_ s2=>X2 λx H'=>Inv X aj σ H' s2/\ZI x u/\J.yld i H x H'/\tn (i+1) s2.heap/\∀b∈fp,H' b=ah) E s1) E s
 done:∀ (X:Cx),ü=P->X.w=w->X.K=K->X.calm=true->∀ (i:Nat) (aj:À (af×aN)) (s:ak) (σ:St) (H:Hp) (E:ae->ak->Prop),Inv X aj σ H s->ÔZ->tn i Í->J.stop i H ->
  av Ã4 X.A (Ã5 Án) (λr s1=>r=ah/\Inv X aj σ H s1) E s
 self:∀ (A:aE) (i:Nat) (s:ak) (Q:ae->ak->Prop) (E:ae->ak->Prop),tn i Í->Q Án s->av Ã4 A (Ån Án) Q E s
abbrev TI:=St->Hp->(It->Hp->Prop)->Prop
def PIE(X:Cx)(c:ĕ)(g:St)(h:aL)(R:It->Hp->Prop)(i:ae)(d:ak):Prop :=
 X5 λ(e:af) (fp:À af) (f:Nat->aJ->Prop) (J:It) (a:Hp)=>i=.ref e/\Inv X c g a d/\V3 ü X.w X.K h J fp e f/\f 0 d.heap/\(∀b∈fp,Xa X c a b)/\R J a
def PI(X:Cx)(c Ķ:aL)(d:TI):Prop :=
 ∀ (b:À (af×aN)) (s:ak) (a:St) (H:Hp) (R:It->Hp->Prop),Inv X b a H s->d a H R ->
  ý #[gg,Ķ] (λv e=>ý (Ån v) (PIE X b a c R) ê e) ê s
theorem T6{M:Às}{A:aE}{E:ñ}{s:ak}{b:aL}{it:af}{u:ae}{o:aN}{n:ł}{vs:Â4}{Q:Ál}(c:í it=aa o)(hc:Ã1=.type n)(hd:ş=.fields vs)
  (hn:["enumerate", "zip", "dict_itemiterator", "dict_reverseitemiterator", "odict_iterator", "itertools.zip_longest", "itertools.pairwise"].contains n=false) (a:Q () s):av M A (dN b Án u) Q E s:=by
 unfold dN;cases b<;>first
  | exact aw a
  | (cases u<;>first
    | exact aw a
    | (refine ai (wpAny_load c ?_);rw[hc,hd];show av M A (if (["enumerate", "zip", "dict_itemiterator", "dict_reverseitemiterator", "odict_iterator", "itertools.zip_longest", "itertools.pairwise"].contains n&&vs[0]? == aa (Ξ _))=true then _ else _) Q E s;rw[È (by intro h;rw[hn,ËJ]at h;cases h)];exact aw a))
def Itl(K:Ä)(a:af):It :=
 (λi H=>X2 λb x=>SqL K H a b/\b[i]? = aa x,λi H x c=>c=H/\∀b,SqL K H a b->b[i]? = aa x,λi H=>∃b,SqL K H a b/\Ň<=i)
def Itr(lo:Int)(n:Nat):It:=(λi _=>i<n,λi H x a=>a=H/\x=.int (lo+i),λi _=>n<=i)
theorem Zn5{P:aA}{w:aF}{K:Ä}{M:aL}(a it:af):V3 P w K M ÏF [it] it (λi h=>ÈQ it a i) where
 mem:=by simp
 obj:=λi h st b f=>by
  have e:b=it:=by simpa using f
  rw[52]
 Ė:=λi h g st k=>st.at λo e=>k it Ù o e
 item:=by intro X m hw n F i G s J H E I j st q;subst m hw n;obtain N|x|l|r:=q;rw[gn,t,p,O,l];rw[sX,u,Q,R,t.get,r];rw[yR];refine ÏG st p.isList (x:=u) #[eE,Q] λg L T=>?_;have U:#[fQ,G,J,H,s,g]:=Áo (t':=ļ) #[tk,o,f,e,T.2] y A B C D;obtain o|e|c|d:=id L;exact(u,rfl,T6 (s:=#[hx,s,g]) e c d Å (x,H,U,R,(rfl,λys V=>by rw[ÏH V l];exact r),L,λb f=>(j b f).1))
 done:=by intro X m hw n F i G s J H E I j st q;subst m hw n;rw[ja,N,l,r,q];rw[gn,t,p,O,l];rw[yR];have hl:=t.length;exact ÏI (ÁP F) st p.isList (by simp;lia) λg W=>(rfl,Áo (t':=ļ) #[gl,b,f,W,f] y A B C D)
 self:=#[s1,wpAny_pyIter_listiter]
theorem ZlY{P:aA}{w:aF}{K:Ä}{B:aL}(it:af)(lo:Int)(n:Nat):V3 P w K B Ô0 [it] it (λi h=>IsRangeIter h it (lo+(i:Nat)*1) ((n:Int)-(i:Nat)) 1) where
 mem:=by simp
 obj:=λi h st b a=>by
  have e:b=it:=by simpa using a
  subst e;exact(_,st,λv z=>by have C:Data.fields _=Data.cell v:=z;cases C)
 Ė:=λi h c st k=>k it Ù _ st
 item:=by intro X f hw g j i x s y H E I d st l;rw[pT];have W:=Walks.range (è:=ü) (w:=X.w) (ÁP j) it lo 1 n;refine W.item i s _ _ l st λv c tk F A kk=>?_;rw[tR,F];have G:Inv X x y H { s with Õ:=c,õ:=tk }:=Áo #[gl,b,a,kk,Åo] m p q r u;refine(_,rfl,T6 (s:={ s with Õ:=c,õ:=tk }) (n := "range_iterator") A rfl rfl Å (.int (lo+i),H,G,(t,?_),Ο,A,λb a=>(d b a).1));rw[Int.mul_one]
 done:=by intro X f hw g j i x s y H E I d st l;rw[pT];exact wpAny_pyNext_range_end (ÁP j) st (by have:n<=i:=l;lia) λc J=>(rfl,Áo (t':=ļ) #[gl,b,a,J,a] m p q r u)
 self:=#[s1,wpAny_pyIter_rangeiter]
section
variable {X:Cx} {tg:aL}
def LR(K:Ä)(c:TE):TI:=λd H R=>c d H λx b=>∃a,x=.ref a/\(∃xs,SqL K b a xs)/\R ÏF b
theorem ZsI{l:aL}{f:TE}(hl:PE X l f):PI X tg l (LR X.K f):=by
 rw[fA,g,i,R];refine thn #[gO,hl,g,i] ?_;rintro v c ⟨x,j,d,k,m⟩;obtain a|e|⟨xs,n⟩|q:=m;subst e;cases k;obtain its|rv|p|hz:=d.list n;refine cQ p.isList ?_;refine(À4,[À4],_,_,j,rfl,d.kept (t':=Åp) λb o e=>Qc _ e,Zn5 a _,Åq,λb r=>?_,q);have e:b=À4:=by simpa using r
 subst e;exact #[Af,ò]
theorem LQ{c:ĕ}{d:St}{H:Hp}{s:ak}{R:It->Hp->Prop}{E:ñ}{lo a:Int}{t u v:Tok}{tk:Nat}(I:ËK)(h1:-Ã6<=lo)(h2:lo<2 ^ 62)(g:-Ã6<=a)(h:a<2 ^ 62)
  (q:R (Itr lo (a-lo).toNat) H):ý (Ån År) (PIE X c d tg R) E { s with Õ:=Àu { cls:=.type "range",Ó:=.fields #[.int lo t,.int a u,.int 1 v] },õ:=tk }:=by
 refine wpAny_pyIter_range (IsRange.new ..) (small_one h1 h2 g h) ?_;have f:Inv X c d H { s with Õ:=Àu { cls:=.type "range",Ó:=.fields #[.int lo t,.int a u,.int 1 v] },õ:=tk }:=Âp λb o e=>Qc _ e;refine⟨#[90].objs.size,[#[90].objs.size],_,_,H,rfl,
  f.kept (t':=tk) λb o e=>Qc _ e,ZlY _ lo (a-lo).toNat,?_,λb i=>?_,q⟩
 ·have j:lo+#[fC,0]*1=lo:=by simp
  have k:#[t9,a]-#[fC,0]=Ô1 lo a 1:=by rw[rangeSize_one];split<;>lia
  show IsRangeIter _ _ (lo+#[fC,0]*1) (#[t9,a]-#[fC,0]) 1;rw[j,k];exact Qs _ rfl
 ·have e:b=#[90].objs.size:=by simpa using i
  subst e;exact f.fpOk ò (f.hok.fresh ò)
def ZvH(a:TA):TI:=λb H R=>a b H λvs c=>∃j:Int,vs=[.int j] /\ -Ã6<=j/\j<2 ^ 62/\R (Itr 0 j.toNat) c
def ZwS(a:TA):TI:=λb H R=>a b H λvs c=>X2 λi j:Int=>vs=#[fY,i,j]/\(-Ã6<=i/\i<2 ^ 62 /\ -Ã6<=j/\j<2 ^ 62)/\R (Itr i (j-i).toNat) c
theorem Vn{a:aL}{c:TA}{p pos:Pos}(d:Gl X "range")(hm:ė "range" = ah)(ha:PA X [a] c)(hs:#[fX,a]:=by rfl):PI X tg (.Call (.Name "range" p) [a] [] pos) (ZvH c):=by
 rw[fA,f,g,R];refine Call_ (Vp I d hm ÏJ (Qak (thn #[gW,f,g] ?_) hs rfl));rintro us s1 ⟨vs,H1,i,k,b⟩;obtain j|e|b|l|q:=b;subst e;cases k with
 | Ñ r m=>cases m;rw[tR,r];exact call_range_1 (LQ i Á Á b l #[eE,q])
theorem UQ{a b:aL}{f:TA}{p pos:Pos}(k:Gl X "range")(hm:ė "range" = ah)(ha:PA X [a,b] f)(hs:ÏK:=by rfl)(g:#[fX,b]:=by rfl) :
  PI X tg (.Call (.Name "range" p) [a,b] [] pos) (ZwS f):=by
 rw[fA,l,m,R];refine Call_ (Vp I k hm ÏJ (Qak (thn #[gW,l,m] ?_) (by rw[hs,g]) #[tr,g]));rintro us s1 ⟨vs,H1,n,o,c⟩;obtain i|j|e|⟨c,u,v,w⟩|q:=c;subst e;cases o with
 | Ñ r d =>
  cases d with
  | Ñ x d=>cases d;rw[tR,r];rw[fd,t',x];exact call_range_2 (LQ n c u v w q)
def Zxk(e:TI)(g:TG)(f:TS):TS:=λD a H=>e a H λJ h=>∃W:Nat->Nat->St->Hp->Prop,(∃m,W 0 m a h)/\∀i m a H,W i m a H ->
 (J.stop i H/\Ħ a H)\/(J.go i H/\∃N:St->Hp->Prop,#[gQ,c,b,d]/\∀x b,J.yld i H x b->g x a b λj k=>f { D with nx:=N,ct:=N,bk:=Ħ } j k)
def UP(fp:Š)(h:aJ):À (af×aN):=fp.filterMap λb=>(à b).map λo=>(b,o,)
theorem UO{fp:Š}{h:aJ}{b:af}{o:aN}(hb:b∈fp)(e:à b=aa o):(b,o,)∈UP fp h:=List.mem_filterMap.mpr (b,hb,by rw[e];rfl)
theorem Zot{fp:Š}{h:aJ}{p:af×aN}(a:p∈UP fp h):p.1∈fp/\à p.1=aa p.2:=by
 rw[sX,b,c,e,ÏL,a];cases q:à b with
 | none=>rw[q]at e;cases e
 | some o=>rw[q]at e;have d:(b,o,)=p:=Qv e;subst d;exact(c,q)
theorem Inv.pinned{a:ĕ}{c:St}{H:Hp}{s:ak}{fp:Š}(I:Inv X a c H s)(hf:#[sV,a,H])(h:∀b∈fp,∃o,í b=aa o/\∀v,ş≠.cell v):Inv X (a++UP fp Í) c H s :=
 I.pins_of λp i=>(ÿ i).elim (λz=>θ p (QD _ z)) λz=>by obtain f|e:=Zot z;obtain j|k|l|_:=hf p.1 f;obtain o|g|d:=h p.1 f;rw[gv,e,g,g];exact(e,j,k,l,d)
theorem Inv.unpinned{a pl:ĕ}{b:St}{H:Hp}{s:ak}(I:Inv X (a++pl) b H s):Inv X a b H s:=I.pins_of λp c=>θ p (QD _ (QR _ c))
theorem XN{Ķ:aL}{L:Ţ}{M:TI}{g:TG}{O:TS}{pos:Pos}(q:bf Ĝ X.A Ì ê)(hc:Ÿ)(hi:PI X tg Ķ M)(hg:PG X tg g)(hb:PSs X L O)
  (hs:ÆE:=by intro _;rfl):PS X (.For tg Ķ L [] pos) (Zxk M g O):=by
 rw[fA,p,P,D];refine wpAny_For (thn #[gO,hi,p,P] λv s1 h1=>thn h1 λAA s2 h2=>?_) hs;obtain it|fp|Q|J|H2|e|I2|T|cA|R|W|⟨m0,w0⟩|t:=h2;subst e;have B:∀ {k:Hp},#[iR,k]->∀b∈fp,Xa X p k b:=λhn b hb=>(hn b hb,(R b hb).2);refine codeAny_forLoop_any (λn S=>X3 λi w k=>Inv X p w k S/\Q i S.heap/\#[iR,k]/\W i n w k) ?_ m0 (0,P,H2,I2,cA,λb hb=>(R b hb).1,w0);rintro n U ⟨i,y,A,V,Y,Z,w3⟩;rcases t i n y A w3 with⟨stop,qn⟩|⟨go,N,hN,step⟩
 ·refine b8 q (thn (T.done X rfl rfl rfl hc i p U y A ê V (B Z) Y stop) ?_);rintro r s4 ⟨C,I4⟩;subst C;exact Ål (y,A,I4,qn)
 ·refine b8 q (thn (T.item X rfl rfl rfl hc i p U y A ê V (B Z) Y go) ?_);rintro r s4 ⟨u,C,h4⟩;subst C;refine b8 q (thn h4 ?_);rintro _ s5 ⟨x,H5,I5,r5,y5,E,uK⟩;have F:=I5.pinned (B uK) (T.obj _ _ E);refine b8 q (thn (hg _ s5 y H5 x u _ F r5 (step x H5 y5)) ?_);rintro _ s6 ⟨G,H6,I6,q6⟩;refine b8 q (thn (hb _ s6 G H6 _ I6 q6) λf K l=>?_);have again:∀ {a:St} {c:Hp},Inv X (p++UP fp s5.heap) a c K->N a c->∃m,m<n/\X3 λi w k=>Inv X p w k K/\Q i K.heap/\#[iR,k]/\W i m w k:=λ{a c} j z=>by obtain m'|hm|w7:=hN a c z;refine(m',hm,i+1,a,c,ÏM,ÈR _ _ _ E λb hb o e=>(j.pin (b,o,) (QD _ (QD _ (UO hb e)))).1,λb hb=>?_,w7);rw[hg,o,E,hb,j.pin]
  cases f with
  | next=>obtain a|c|j|z:=l;exact again j z
  | Γ=>obtain a|c|j|z:=l;exact again j z
  | brk=>obtain a|c|j|l:=l;exact(a,c,ÏM,l)
  | ret v=>obtain x7|a|c|j|r7|l:=l;exact(x7,a,c,ÏM,r7,l)
universe E
theorem Rp{K:Ä}{a:af}{xs:ă}{g:TG}{j:TS}{D:XA}{b:St}{H:Hp}(Pv:ËL)(h0:Pv 0 b H)(hl:∀i b H,i<=Ö->Pv i b H->SqL K H a xs)
  (hs:∀i x b H,xs[i]? = aa x->Pv i b H->g x b H λd f=>j { D with nx:=Pv (i+1),ct:=Pv (i+1),bk:=Ħ } d f) (hd:Ô2) :
  ∃W:Nat->Nat->St->Hp->Prop,(∃m,W 0 m b H)/\∀i m b H,W i m b H ->
   ((ÏF).stop i H/\Ħ b H)\/((ÏF).go i H/\∃N:St->Hp->Prop,#[gQ,h,c,k]/\∀x c,(ÏF).yld i H x c->g x b c λd f=>j { D with nx:=N,ct:=N,bk:=Ħ } d f):=by
 refine Ô3;rw[ue,b,n];have q:=hl i b H n p;by_cases l:i<Ö
 ·refine .inr ((xs,xs[i],q,by simp[l]),Pv (i+1),λh c o=>(Ö-(i+1),by lia,rfl,l,o),λx c y=>?_);rw[e2,e,y,y];subst e;exact hs i x b _ (y xs q) p
 ·have e:ËM:=by lia
  subst e;exact .inl ((xs,q,Qd _),hd b H p)
theorem UN{lo:Int}{n:Nat}{g:TG}{j:TS}{D:XA}{a:St}{H:Hp}(Pv:ËL)(h0:Pv 0 a H)
  (hs:∀i a H,i<n->Pv i a H->g (.int (lo+i)) a H λc d=>j { D with nx:=Pv (i+1),ct:=Pv (i+1),bk:=Ħ } c d) (hd:∀a H,Pv n a H->Ħ a H) :
  ∃W:Nat->Nat->St->Hp->Prop,(∃m,W 0 m a H)/\∀i m a H,W i m a H ->
   ((Ô0).stop i H/\Ħ a H)\/((Ô0).go i H/\∃N:St->Hp->Prop,#[gQ,f,b,k]/\∀x b,(Ô0).yld i H x b->g x a b λc d=>j { D with nx:=N,ct:=N,bk:=Ħ } c d):=by
 refine(λi m a H=>m=n-i/\i<=n/\Pv i a H,(n,by simp,Qp _,h0),?_);rw[ue,a,hi];by_cases h:i<n
 ·refine .inr (h,Pv (i+1),λf b l=>(n-(i+1),by lia,rfl,h,l),λx b y=>?_);rw[e2,e,y,y];subst e y;exact hs i a _ h p
 ·have e:i=n:=by lia
  subst e;exact .inl (Qd _,hd a H p)
abbrev R2:=ÈO
def OpR(X:Cx)(f:ÈS)(r:R2):Prop :=
 ∀ (a:À (af×aN)) (s:ak) (b:St) (H:Hp) (x y:V) (v u:ae) (Q:VK),Inv X a b H s->ZI x v->ZI y u->r x y H Q ->
  ý (f v u) Ã2 ê s
def UnR(X:Cx)(f:ae->Sem ae)(r:ÏN):Prop :=
 ∀ (a:À (af×aN)) (s:ak) (b:St) (H:Hp) (x:V) (v:ae) (Q:VK),Inv X a b H s->ZI x v->r x H Q ->
  ý (f v) Ã2 ê s
def YS(X:Cx)(f:ae)(r:À V->Hp->VK->Prop):Prop :=
 ∀ (a:À (af×aN)) (s:ak) (b:St) (H:Hp) (c:À V) (d:À ae) (Q:VK),Inv X a b H s->ZF c d->r c H Q ->
  ý (Œ f d) Ã2 ê s
def tOp(r:R2)(b c:TE):TE:=λa H Q=>b a H λx d=>c a d λy e=>r x y e Q
def tUn(r:ÏN)(a:TE):TE:=λb H Q=>a b H λx c=>r x c Q
inductive RI2 (x y:V) (B:ËN):Prop where
 | mk (i j:Int) (a:x=.int i) (b:y=.int j) (q:B i j)
inductive RI3 (x y:V) (C B:ËN):Prop where
 | mk (i j:Int) (a:x=.int i) (b:y=.int j) (c:C i j) (q:B i j)
def rI(C:ËN)(g:Int->Int->V):R2:=λx y H Q=>RI3 x y C (λi j=>Q (g i j) H)
def rI0(g:Int->Int->V):R2:=λx y H Q=>RI2 x y (λi j=>Q (g i j) H)
def rU(g:Int->V):V->Hp->VK->Prop:=λx H Q=>EA (λi=>x=.int i) (λi=>Q (g i) H)
section
variable {X:Cx} {a b c:aL} {ta tb tc:TE} {pos:Pos}
theorem Ro(ha:Ám)(hb:Ã0){e:ĕ}{s:ak}{c:St}{H:Hp}{R:V->V->Hp->Prop}(I:Inv X e c H s)
  (h:ta c H λx i=>tb c i λy d=>R x y d) {Q:ñ} {f:ÈS}
  (hf:∀v u g x y d,Inv X e c d g->ZI x v->ZI y u->R x y d->ý (f v u) Q ê g) :
  ý #[gg,a] (λv j=>ý #[gg,b] (λu k=>ý (f v u) Q ê k) ê j) ê s:=by
 refine thn #[gO,ha,e,c] ?_;rintro v l ⟨x,i,m,n,o⟩;refine thn (hb e l c i _ m o) ?_;rintro u g ⟨y,d,p,q,r⟩;exact hf v u g x y d p n q r
theorem ZB{op:ÈP}{r:R2}(c:OpR X (Ã7 op) r)(ha:Ám)(hb:Ã0):PE X (.BinOp a op b pos) ËO:=by intro d s e H Q I h;exact wpAny_BinOp Ô4
theorem WJ{op:UnaryOp}{r:ÏN}(d:UnR X (unaryOp op) r)(ha:Ám):PE X (.UnaryOp op a pos) (tUn r ta):=by intro b s c H Q I h;exact UnaryOp_ (thn #[gO,ha,b,c] λv e ⟨x,f,g,i,j⟩=>d b e c f x v Q g i j)
theorem opI{f:ÈS}{C:ËN}{g:Int->Int->Int}
  (rule:∀ (i j:Int) (t u:Tok) (s:ak) (Q:ae->ak->Prop) (E:ae->ak->Prop),C i j->Q (.int (g i j) œ) { s with õ:=œ+1 }->ý ÏO Q E s) :
  OpR X f (rI C λi j=>.int (g i j)):=by
 rw[cQ];obtain i|j|rfl|rfl|c|q:=h;rw[tR,a];rw[fd,d,b];exact rule i j t d s _ _ c Ô5
theorem LP{f:ÈS}{g:Int->Int->Int}
  (rule:∀ (i j:Int) (t u:Tok) (s:ak) (Q:ae->ak->Prop) (E:ae->ak->Prop),Q (.int (g i j) œ) { s with õ:=œ+1 }->ý ÏO Q E s) :
  OpR X f (rI0 λi j=>.int (g i j)):=by
 rw[lr];exact rule i j t c s _ _ Ô5
theorem S8{f:ÈS}{g:Int->Int->Ê}
  (rule:∀ (i j:Int) (t u:Tok) (s:ak) (Q:ae->ak->Prop) (E:ae->ak->Prop),Q (.bool (g i j)) s->ý ÏO Q E s) :
  OpR X f (rI0 λi j=>.bl (g i j)):=by
 rw[lr];exact rule i j t c s _ _ (.bl (g i j),H,I,rfl,q)
def Zw5(i j:Int):Prop:=0<j/\j<1073741824
def LO(i j:Int):Prop:=0<=j/\j<=1000000/\ÈT<2 ^ 64
def Rm(i j:Int):Prop:=(-(2 ^ 64)<i/\i<2 ^ 64)\/(-(2 ^ 64)<j/\j<2 ^ 64)
theorem Rm.ok{i j:Int}(h:Rm i j):IntMulOk i j:=by
 rcases h with⟨a,b⟩|⟨a,b⟩
 ·exact .of_left (intBits_le_64 a b)
 ·exact .of_right (intBits_le_64 a b)
theorem XZ:OpR X ËP (rI0 λi j=>.int (i+j)):=#[iY,LP,add_int]
theorem W4:OpR X (Ã7 .Sub) (rI0 λi j=>.int (i-j)):=#[iY,LP,sub_int]
theorem UM:OpR X ÏP (rI Rm λi j=>.int (i*j)):=opI λ_ _ _ _ _ _ _ hc q=>mul_int q hc.ok
theorem Rl:OpR X (Ã7 .FloorDiv) (rI Zw5 λi j=>.int (i / j)):=opI λi j _ _ _ _ _ hc q=>by have h1:ÁQ<j:=hc.1;have h2:j<1073741824:=hc.2;exact floordiv_int Á (by rw[Int.fdiv_eq_ediv_of_nonneg i Á];exact q) (.inl (PyProof.noPylong_small Á))
theorem UL:OpR X (Ã7 .Mod) (rI (λ_ j=>0<j) λi j=>.int (i % j)):=opI λi j _ _ _ _ _ hc q=>by have h1:ÁQ<j:=hc;exact mod_int' Á (by rw[Int.fmod_eq_emod_of_nonneg i Á];exact q)
theorem LN:OpR X (Ã7 .Pow) (rI LO λi j=>.int (i ^ j.toNat)):=opI λ_ _ _ _ _ _ _ hc q=>pow_int_small hc.1 hc.2.1 hc.2.2 q
theorem unI{f:ae->Sem ae}{g:Int->Int}
  (rule:∀ (i:Int) (t:Tok) (s:ak) (Q:ae->ak->Prop) (E:ae->ak->Prop),Q (.int (g i) œ) { s with õ:=œ+1 }->ý (f (.int i t)) Q E s) :
  UnR X f (rU λi=>.int (g i)):=by
 intro aj s σ H x v Q I a h;rw[je,i,q,h];rw[tR,a];exact rule i t s _ _ (.int (g i),H,ř _,ā,q)
theorem Wm:UnR X (unaryOp .USub) (rU λi=>.int (-i)):=unI λ_ _ _ _ _ q=>neg_int q
universe E
def LM:V->V->Ê
 | .non,.non=>true|.non,.int _=>true|.int _,.non=>true|.non,.bl _=>true|.bl _,.non=>true|.non,.str _=>true|.str _,.non=>true
 | .int _,.int _=>true|.bl _,.bl _=>true|.str _,.str _=>true|.byt _,.byt _=>true
 | .int _,.str _=>true|.str _,.int _=>true|.bl _,.str _=>true|.str _,.bl _=>true
 | _,_=>false
def rEq:R2:=λx y H Q=>LM x y=true/\Q (.bl (decide (x=y))) H
def rNe:R2:=λx y H Q=>LM x y=true/\Q (.bl (!decide (x=y))) H
theorem LL{i j:Int}:decide (ß i=ß j)=(i == j):=by rw[Qar];simp
theorem LK{i j:Ê}:decide (V.bl i=V.bl j)=(i == j):=by rw[Qar];simp
theorem LJ{i j:am}:decide (Ç i=Ç j)=(i == j):=by rw[Qar];simp
theorem LI{i j:ē UInt8}:decide (V.byt i=V.byt j)=(i.toList == j.toList):=by rw[Qar];cases i;cases j;simp
section
variable {X:Cx} {a b c:aL} {ta tb tc:TE} {pos:Pos}
theorem ZX{a:ĕ}{b:St}{H:Hp}{s:ak}{Q:VK}{k k':Ê}(I:ÈL)(q:Q (.bl k) H)(e:k=k'):EP X a b Q (.bool k') s:=by subst e;exact(.bl k,H,I,rfl,q)
theorem Yu:OpR X (aV .Eq) rEq:=by
 rw[gK,y,u,d,a];rw[e2,c,q,h];cases x with
 | non =>
  cases d;cases y with
  | non=>cases a;exact PySem.EqNone.eq_none_none ţ
  | bl j=>cases a;exact PySem.EqNone.eq_none_bool ţ
  | int j=>obtain b|rfl:=a;exact PySem.EqNone.eq_none_int ţ
  | str j=>obtain b|rfl:=a;exact PySem.EqNone.eq_none_str ţ
  | _=>exact Áp
 | bl i =>
  cases d;cases y with
  | non=>cases a;exact PySem.EqNone.eq_bool_none ţ
  | bl j=>cases a;exact eq_bool (ZX I q LK)
  | str j=>obtain b|rfl:=a;exact PySem.EqMixed.eq_bool_str ţ
  | _=>exact Áp
 | int i =>
  rw[tR,d];cases y with
  | non=>cases a;exact PySem.EqNone.eq_int_none ţ
  | int j=>obtain b|rfl:=a;exact eq_int (ZX I q LL)
  | str j=>obtain b|rfl:=a;exact PySem.EqMixed.eq_int_str ţ
  | _=>exact Áp
 | str i =>
  rw[tR,d];cases y with
  | non=>cases a;exact PySem.EqNone.eq_str_none ţ
  | bl j=>cases a;exact PySem.EqMixed.eq_str_bool ţ
  | int j=>obtain b|rfl:=a;exact PySem.EqMixed.eq_str_int ţ
  | str j=>obtain b|rfl:=a;exact eq_str (ZX I q LJ)
  | _=>exact Áp
 | byt i =>
  rw[tR,d];cases y with
  | byt j=>obtain b|rfl:=a;exact PySem.W.eq_bytes (ZX I q LI)
  | _=>exact Áp
 | _=>cases y<;>exact Áp
theorem V2:OpR X (aV .NotEq) rNe:=by
 rw[gK,y,u,d,a];rw[e2,c,q,h];cases x with
 | non =>
  cases d;cases y with
  | non=>cases a;exact PySem.EqNone.ne_none_none ţ
  | bl j=>cases a;exact PySem.EqNone.ne_none_bool ţ
  | int j=>obtain b|rfl:=a;exact PySem.EqNone.ne_none_int ţ
  | str j=>obtain b|rfl:=a;exact PySem.EqNone.ne_none_str ţ
  | _=>exact Áp
 | bl i =>
  cases d;cases y with
  | non=>cases a;exact PySem.EqNone.ne_bool_none ţ
  | bl j=>cases a;rw[tz,ne_bool,LK]
  | str j=>obtain b|rfl:=a;exact PySem.EqMixed.ne_bool_str ţ
  | _=>exact Áp
 | int i =>
  rw[tR,d];cases y with
  | non=>cases a;exact PySem.EqNone.ne_int_none ţ
  | int j=>obtain b|rfl:=a;rw[tz,ne_int,LL]
  | str j=>obtain b|rfl:=a;exact PySem.EqMixed.ne_int_str ţ
  | _=>exact Áp
 | str i =>
  rw[tR,d];cases y with
  | non=>cases a;exact PySem.EqNone.ne_str_none ţ
  | bl j=>cases a;exact PySem.EqMixed.ne_str_bool ţ
  | int j=>obtain b|rfl:=a;exact PySem.EqMixed.ne_str_int ţ
  | str j=>obtain b|rfl:=a;rw[tz,ne_str,LJ]
  | _=>exact Áp
 | byt i =>
  rw[tR,d];cases y with
  | byt j=>obtain b|rfl:=a;rw[tz,PySem.W.ne_bytes,LI]
  | _=>exact Áp
 | _=>cases y<;>exact Áp
theorem WB:OpR X (aV .Lt) (rI0 λi j=>.bl (decide (i<j))):=#[iY,S8,lt_int]
theorem WI:OpR X (aV .LtE) (rI0 λi j=>.bl (decide (i<=j))):=#[iY,S8,le_int]
theorem WT:OpR X (aV .Gt) (rI0 λi j=>.bl (decide (j<i))):=#[iY,S8,gt_int]
theorem Rk:OpR X (aV .GtE) (rI0 λi j=>.bl (decide (j<=i))):=#[iY,S8,ge_int]
theorem Rj:OpR X (aV .Lt) (λx y H Q=>X2 λi j=>x=.str i/\y=.str j/\Q (.bl (decide (i.cps.toList<ÏQ))) H):=by intro aj s σ H x y v u Q I a b h;obtain i|j|rfl|rfl|q:=h;obtain t|rfl:=a;obtain t'|rfl:=b;exact lt_str (ZX I q rfl)
theorem ZoJ:OpR X Ås (λx y H Q=>X2 λi j=>x=.str i/\y=.str j/\Q (.bl (!(aR.Str.occurrences j i 0 ÀR 1).isEmpty)) H):=by intro aj s σ H x y v u Q I a b h;obtain i|j|rfl|rfl|q:=h;obtain t|rfl:=a;obtain t'|rfl:=b;exact in_str (ZX I q rfl)
theorem Xz:OpR X (aV .Is) (λx y H Q=>y=.non/\Q (.bl (decide (x=.non))) H):=by
 rw[wn];refine is_none_gen (ZX I q ?_);cases x<;>first
  | (cases a;rfl)
  | (obtain t|rfl:=a;rfl)
theorem UK:OpR X (aV .IsNot) (λx y H Q=>y=.non/\Q (.bl (!decide (x=.non))) H):=by
 rw[wn];refine isnot_none_gen (ZX I q ?_);cases x<;>first
  | (cases a;rfl)
  | (obtain t|rfl:=a;rfl)
theorem Zs(b:aL){op:CmpOp}(h:op≠.In:=by decide)(h2:op≠.NotIn:=by decide):ÏR op b=false:=by
 have a:(op == CmpOp.In)=false:=by cases op<;>first|rfl|exact #[t2,h]
 have c:(op == CmpOp.NotIn)=false:=by cases op<;>first|rfl|exact #[t2,h2]
 cases b<;>simp[ÏR,a,c]
theorem WA{op:CmpOp}{r:R2}(c:ËQ)(ha:Ám)(hb:Ã0)(hm:Ô6):PE X Ô7 ËO:=by intro d s e H Q I h;exact wpAny_Compare1 Ô4 hm
def LH(t:TE):TT:=λa H Q=>t a H λx b=>EA (λk=>x=.bl k) (λk=>Q k b)
theorem Zn{op:CmpOp}{r:R2}(g:ËQ)(ha:Ám)(hb:Ã0)(hm:Ô6):PT X Ô7 (LH ËO):=by
 rw[fA,d,f,Q];refine wpAny_isTrue_Compare1 (thn #[gO,ha,d,f] λv i ⟨x,j,l,m,n⟩=>thn (hb d i f j _ l n) λu o ⟨y,p,q,t,w⟩=>
  thn (g d o f p x y v u _ q m t w) λc s3 ⟨z,A,B,C,k,e,D⟩=>?_) hm
 subst e;cases C;exact bp (A,B,D)
def Ri(r c:R2)(ta tb tc:TE):TE:=λa H Q=>ta a H λx d=>tb a d λy e=>r x y e λz b=>∃k,z=.bl k /\
 (if k=true then tc a b λf g=>c y f g Q else Q ËF b)
theorem Rh{op i:CmpOp}{r j:R2}(p:ËQ)(q:OpR X (aV i) j)(ha:Ám)(hb:Ã0)(hc:PE X c tc)
  (hm:Ô8:=by with_unfolding_all rfl):PE X Ô9 (Ri r j ta tb tc):=by
 rw[fA,f,g,Q];refine Compare_chain (thn #[gO,ha,f,g] λv t ⟨x,w,A,B,C⟩=>chain_link (thn (hb f t g w _ A C) λu D ⟨y,E,F,l,G⟩=>
  thn Õa λd J ⟨z,m,n,K,k,e,o⟩=>?_)) hm
 subst e;cases K;refine bp ?_;cases k with
 | false=>exact ite_ff (.bl false,m,n,rfl,o)
 | true=>exact ite_tt (chain_last (thn (hc f J g m _ n o) λL M ⟨N,O,P,R,S⟩=>q f M g O y N u L Q P l R S))
theorem Rg{op i:CmpOp}{r j:R2}(p:ËQ)(q:OpR X (aV i) j)(ha:Ám)(hb:Ã0)(hc:PE X c tc)
  (hm:Ô8:=by with_unfolding_all rfl):PT X Ô9 (LH (Ri r j ta tb tc)):=by
 rw[fA,f,g,Q];refine isTrue_chain (thn #[gO,ha,f,g] λv t ⟨x,w,A,B,C⟩=>test_link (thn (hb f t g w _ A C) λu D ⟨y,E,F,l,G⟩=>
  thn Õa λd J ⟨z,m,n,K,k,e,o⟩=>?_)) hm
 subst e;cases K;refine bp ?_;cases k with
 | false=>obtain k'|L|M:=o;cases L;exact ite_ff (m,n,M)
 | true=>refine ite_tt (test_last (thn (hc f J g m _ n o) λN O ⟨P,R,S,T,U⟩=>thn (q f O g R y P u N _ S l T U) ?_));rintro d' s5 ⟨z2,V,W,Y,k2,Z,q5⟩;subst Z;cases Y;exact bp (V,W,q5)
theorem UJ:(aq:Nat)<2 ^ 63:=by rw[aO];decide
theorem V1:OpR X ËP (λx y H Q=>X2 λi j=>x=.str i/\y=.str j/\ÈU+ÀR<=aq/\Q (.str (i++j)) H):=by intro aj s σ H x y v u Q I a b h;obtain i|j|rfl|rfl|c|q:=h;obtain t|rfl:=a;obtain d|rfl:=b;exact add_str (λd tk=>(.str (i++j),H,ř _,ā,q)) c
theorem Xy{x:V}{us:Þ}(r:ZF [x] us):∃u,us=[u]/\ZI x u:=by
 cases r with
 | Ñ a b=>cases b;exact(_,rfl,a)
theorem S7{x y:V}{us:Þ}(r:ZF [x,y] us):X2 λu a=>us=[u,a]/\ZI x u/\ZI y a:=by
 cases r with
 | Ñ b c =>
  cases c with
  | Ñ d e=>cases e;exact(_,_,rfl,b,d)
theorem LF:YS X #[fO,"abs"] (λxs H Q=>∃i,xs=[.int i]/\Q (.int Õb) H):=by intro aj s σ H xs us Q I r h;obtain i|rfl|q:=h;obtain u|rfl|t|rfl:=Xy r;exact call_abs_int λu tk=>(.int Õb,H,ř _,ā,q)
theorem Zos(hc:Ÿ):YS X #[fO,"max"] (λxs H Q=>X2 λi j=>xs=#[fY,i,j]/\Q (.int (if j>i then j else i)) H):=by
 rw[jw];refine max_two_ints Â3 λh' tk k=>(_,H,Âp k,?_,q);by_cases a:j>i
 ·rw[ju,a,a];exact ā
 ·rw[jd,a,a];exact ā
theorem Rc(hc:Ÿ):YS X ËR (λxs H Q=>X2 λi j=>xs=#[fY,i,j]/\Q (.int (if j<i then j else i)) H):=by
 rw[jw];refine min_two_ints Â3 λh' tk k=>(_,H,Âp k,?_,q);by_cases a:j<i
 ·rw[ju,a,a];exact ā
 ·rw[jd,a,a];exact ā
theorem LD:YS X ÈV (λxs H Q=>(∃i,xs=[.int i]/\Q Åj H)\/∃k,xs=[.bl k]/\Q (.int (if k then 1 else 0)) H):=by
 rw[cu];rcases h with⟨i,rfl,q⟩|⟨k,rfl,q⟩
 ·obtain u|rfl|t|rfl:=Xy r;exact call_int_int (.int i,H,I,ā,q)
 ·rw[fu,a];exact call_int_bool (.int (if k then 1 else 0),H,ř _,ā,q)
universe E
structure Vm (h:aJ) (x dx C:af) (mA:Ą):Prop where
 obj:à x=aa (Åc C dx)
 ns:h.Ns1 dx mA
 ne:dx≠x
theorem LC{h:aJ}{dx:af}{mA:Ą}(n:h.Ns1 dx mA):∃od,à dx=aa od/\∀name,ËS name od=aa (mA name):=by
 obtain o|b|ep|c|hd|d|_|f:=n;refine(o,c,λname=>?_);have e:=f name;unfold ÆF findBy at e;rw[<- Array.find?_toList]at e;unfold ËS;rw[hd];dsimp only;split
 ·rename_i y q;rw[q]at e;exact ħ aa e
 ·rename_i q;rw[q]at e;have a:b.toList.any (·.refKey)=false:=by rw[List.any_eq_false];intro y g;obtain z|t|i:=d y (Array.mem_toList_iff.mp g);simp[Õc,i]
  have j:¬ b.toList.any (·.refKey)=true:=by rw[a];exact Qt
  rw[ti,j];exact ħ aa e
theorem Vm.look{h:aJ}{x dx C:af}{mA:Ą}(I:Vm h x dx C mA):∃od,ÈW h x (Åc C dx) C (aa od)/\∀name,ËS name od=aa (mA name) :=
 let ⟨od,a,b⟩:=LC I.ns
 (od,(I.obj,rfl,rfl,a),b)
section
variable {è:aA} {w:aF} {A:aE} {E:ae->ak->Prop} {s:ak} {K:Ä} {x dx C f:af} {mA:am->Ã ae} {name:am} {v:ae}
theorem Zs4{a:Ê}{Q:ñ}(X:Ã8)(I:ÏS)(b:Õd)(c:#[fI,C])
  (ha:#[ih,ah]) (d:mA name=aa v) (e:Õe) (h:Õf) :
  av Ð A (ËT ÀL name a) Q E s:=by
 rw[ja,od,J,f,I.look];exact PySem.W.get_value X J (Õg b).1 (Õh c ha rfl (by rw[f,d])) e h
theorem Zqf{pl:Sem Ê}{Q:ae×À ae->ak->Prop}(X:Ã8)(I:ÏS)(a:Õd)
  (hf:#[ih,ŉ]) (ht:ÏT) (b:mA name=ah) (h:Q (.ref f,[.ref x],) s) :
  av Ð A (Ã9 ÀL name pl) Q E s:=by
 rw[ja,od,J,c,I.look];exact PySem.W.method_fn X J #[zD].1 #[zD].2 hf (ËU ht) (by show (ËS name od).map (·.isSome)=aa false;rw[c,b];rfl) h
theorem Ztw{ns:Ï}{Q:Ál}(X:Ã8)(I:ÏS)
  (hs:#[gM,ã]) (e:#[sw,C]) (ht:ÏU K C name=aa ah) (f:#[fI,C])
  (hw:Èy mA ns) (hsz:ËV)
  (h:∀h',Vm h' x dx C ÏV->Åi dx Í h'->Q () { s with Õ:=h',õ:=œ+2 }) :
  av Ð A (ÈX ÀL name v) Q E s:=by
 rw[ja,od,J,hl,I.look];refine PySem.W.set_plain X J hs (PySem.W.osa_open (s:=ËW) (r:=ah) X J e ht λb=>?_);rw[sX,cd,g,i,Qbk,f];have j:í x=aa (.ref C,aa dx,.plain,#[]):=I.obj;refine ai (aw (ai (ai (ÏW j (ai (PySem.W.Looks.here (s:=ËW) (PySem.W.looks_clsIn X g) ?_))))));rw[i];refine aw (a:=aa dx) (ai (aw (ai ?_)));refine ÏX (s:=ËW) I.ns λh' c d=>?_;obtain oD|esD|epD|k|l|m:=c.count (PySem.Within.cons name v hw);refine ai (ÏY k (by rw[l];exact ÏZ (Qj m #[fH,QE])) ?_);exact aw (h _ ((d.2 _ (Àb I.ne)).trans I.obj,c,I.ne) d)
theorem Zqe{R:ÆG}{vs:Þ}{kw:Â5}(X:Ã8)(hm:#[iO,C])
  (a:Į K ã "__init__" = aa ŉ) (hf:Ï0 K Ĉ=aa (.type "function"))
  (h:bJ Ð (ÆH (.builtin "type.__call__" (.ref C::vs,kw))) (.call Ĉ (.ref Ź::vs,kw)) (PySem.W.InitBack Ź R)
   { s with Õ:=(Àu ÆI).push (Åc C Ò) }) :
  bJ Ð A (.call ã (vs,kw)) R s:=by
 rw[hN,hh,t,s];exact PySem.W.make_core (PySem.W.makes_of X hm) (Qai X a) (λself=>Õi X self hf) Đ h
universe E
def Zx(f:am)(v:V):À ÁR->À ÁR
 | []=>[(f,v,)]
 | (g,x,)::r=>if g=f then (g,v,)::r else (g,x,)::Zx f v r
theorem Zr(f g:am)(v:V):∀fs:À (am×V),#[vB].lookup g=if g=f then aa v else Äa g
 | []=>by
  show À5 g [(f,v,)]=_;by_cases h:g=f
  ·rw[sY,f];simp only[À5,hb,Æ h]
  ·rw[iF,f];simp only[À5,hb,È h]
 | (k,x,)::r=>by
  have b:=Zr f g v r;rw[an];by_cases a:k=f
  ·rw[Æ a];by_cases h:g=k
   ·rw[sY,k];simp only[À5,hb,Æ (h.trans a)]
   ·rw[iF,k];simp only[À5,hb,È (λe:g=f=>h (e.trans a.symm))]
  ·rw[ti,a];by_cases h:g=k
   ·rw[sY,k];simp only[À5,hb,È (λe:g=f=>a (h.symm.trans e))]
   ·rw[iF,k];simp only[À5,hb];exact b
theorem T5(f:am)(v:V):∀fs:À (am×V),f∈#[vB].map ċ/\∀g,g∈fs.map ċ->g∈#[vB].map ċ
 | []=>(by simp[Zx],λg h=>by simp at h)
 | (k,x,)::r=>by
  obtain i1|i2:=T5 f v r;rw[an];by_cases a:k=f
  ·rw[Æ a];subst a;exact(by simp,λg h=>by simpa using h)
  ·rw[ti,a];rw[s6,?_,g,h]
   ·rw[Qh];exact Qw _ i1
   ·rw[Qh]at h ⊢;rcases î h with e|e
    ·exact List.mem_cons.mpr (.inl e)
    ·exact Qw _ (i2 g e)
theorem LB(f:am)(v:V):∀fs:À (am×V),#[vB].length<=ÃW+1
 | []=>by simp[Zx]
 | (k,x,)::r=>by
  have ih:=LB f v r;rw[an];by_cases a:k=f
  ·rw[Æ a,QE,QE];lia
  ·rw[È a,QE,QE];lia
theorem ÈY{v:V}{o:Â6}(r:Yi (aa v) o):∃u,o=aa u/\ZI v u:=by
 cases o with
 | none=>exact#[jz].elim
 | some u=>exact(u,rfl,r)
theorem Yi.none_of{o:Â6}(r:Yi ah o):o=ah:=by
 cases o with
 | none=>rfl
 | some u=>exact#[jz].elim
theorem LA{v:V}{u:ae}(r:ZI v u):Õj u=true:=by
 cases v with
 | non=>cases (show u=Àq from r);rfl
 | bl b=>cases (show u=Æt b from r);rfl
 | int i=>obtain t|e:=Ï1;cases e;rfl
 | str x=>obtain t|e:=Ï2;cases e;rfl
 | byt b=>obtain t|e:=#[fh,t,ae.bytes,b,r];cases e;rfl
 | flt b=>obtain t|e:=#[fh,t,ae.float,b,r];cases e;rfl
 | ref a=>cases (show u=å a from r);rfl
 | ty n=>cases (show u=Ëd n from r);rfl
section
variable {P:aA} {w:aF} {H H':Hp} {h h':aJ} {a C dx:af} {fs wQ:À (am×V)}
theorem S6(hok:À1)(e:ËX):∃mA,Vm h a dx C mA/\#[Ar,mA]/\Èy mA Ëg/\ÃW<=1000/\H dx=aa Åb:=by obtain d|z|ne|b|mA|n|r|q:=(show Y1 P w H h a (.ins C dx fs) from hok a _ e);exact(mA,(b,n,ne),r,q,z,d)
universe E
structure Cls (K:Ä) (C:af):Prop where
 pg:ËY K C ÁS=true
 hd:Ï3 K C=true
 po:Õk K C=true
 sa:Į K ã "__setattr__" = aa ÈZ
theorem Cls.get{K:Ä}{C:af}(c:Cls K C)(f:am):ËY K C f=true:=c.pg
def Yt(K:Ä)(C:af)(f:am):Prop:=Į K ã f=aa ah
theorem Yt.taker{K:Ä}{C:af}{f:am}(n:Yt K C f):ÏU K C f=aa ah:=by unfold ÏU;rw[show Į K ã f=aa ah from n];rfl
structure Con (K:Ä) (C:af) (f:am) (v:V) (u:ae):Prop where
 at_:Į K ã f=aa (aa u)
 rel:ZI v u
 get:ÆJ K u "__get__" = aa ah
 cp:PySem.W.copiedNames.contains f=false
structure UI (K:Ä) (C:af) (m:am) (f:af):Prop where
 at_:Į K ã m=aa ŉ
 fn:Åt K Ĉ=true
 kp:Áq K Ĉ=true
section
variable {X:Cx} {aj:À (af×aN)} {σ:St} {H:Hp} {s:ak} {a C dx:af} {fs:À (am×V)} {f:am} {v:V} {A:aE} {E:ae->ak->Prop}
theorem Lz{b:Ê}{Q:ñ}(I:â)(e:ËX)(c:Äb)(n:ÆK)(l:Äa f=aa v)
  (h:#[z4,u,H]):av Ĝ A (ËT ą f b) Q E s:=by
 obtain g|O|r|_|_|_:=S6 é e;obtain u|i|d:=ÈY (v:=v) (o:=g f) (by rw[<- l];exact r f);exact Zs4 ĵ O (c.get f) c.hd n i (LA d) (h u _ Åu d)
theorem P9{m:am}{g:af}{pl:Sem Ê}{Q:ae×À ae->ak->Prop}(I:â)(e:ËX)(c:Äb)(k:UI X.K C m g)(l:Äa m=ah)
  (h:Q (.ref g,Ár,) s):av Ĝ A (Ã9 ą m pl) Q E s:=by
 obtain b|O|r|_|_|_:=S6 é e;have d:b m=ah:=Yi.none_of (by rw[<- l];exact r m);exact Zqf ĵ O (c.get m) k.at_ k.fn d h
theorem Ly{y:V}{u:ae}{Q:Ál}(I:â)(e:ËX)(c:Äb)(n:ÆK)(hl:ÃW<1000)(l:ZI y u)
  (h:∀s',Inv X aj σ (upd H a (.ins C dx Ï4)) s'->Q () s'):av Ĝ A (ÈX ą f u) Q E s:=by
 obtain i|O|r|j|_|k:=S6 é e;have m:(Ëg).length<=aq:=by rw[Qa,aO];lia
 refine Ztw ĵ O c.sa c.po n.taker c.hd j m λp d t=>h _ ?_;have hd:∃o,p.get? dx=aa o:=let ⟨o,_,_,v,_⟩:=d.ns;(o,v);refine Â7 (x:=a) (e:=dx) È0 (.inr k) #[tk,q,w,z,t.2] hd ?_;refine(by rw[Ze O.ne];exact k,?_,O.ne,d.obj,_,d.ns,λg=>?_,λg B=>?_)
 ·have:=LB f y fs;lia
 ·show Yi ((Ï4).lookup g) (if g=f then aa u else i g);rw[Zr];by_cases q:g=f
  ·rw[ju,q,q];exact l
  ·rw[jd,q,q];exact r g
 ·by_cases q:g=f
  ·rw[q];exact#[zB].1
  ·refine#[zB].2 g (j g λz=>B ?_);show (if g=f then aa u else i g)=ah;rw[ti,q];exact z
theorem Inv.made(I:â):Inv X aj σ #[fl,H,Ò,Ź,C]
  { s with Õ:=(Àu ÆI).push (Åc C Ò) }:=by
 have c:(ÜO).get? Ò=aa ÆI:=Qs Í rfl;have d:((ÜO).push Õl).get? Ź=aa Õl:=by have:=Qs ÜO (o:=Åc C Ò) rfl;rwa [Q5]at this
 have f:(ÜO).Ns Ò (λ_=>ah):=(ÆI,#[],_,c,rfl,(λe g=>Î g Ù),λ_=>rfl);have h:=Àv (a:=È1) (o:=.own Ź) (h':=Àu ÆI) (t':=ļ) #[hX,b,u,q] ò (_,c);refine h.laid (a:=Ò+1) (o:=.ins C Ò []) (t':=ļ) #[hX,b,u,q] (È2 (Q5 _ _)) ?_;have ne:Ò≠Ò+1:=QG Ï5;refine(by rw[Ze ne,Zb],Qp _,ne,d,λ_=>ah,(Õm f).at λo q=>Qc _ q,λ_=>Àc,λy i=>Î rfl i)
theorem Lx{è:aA}{w:aF}{env:Env}{e:aL}{f:am}{pos:Pos}{s:ak}{Q:ñ}(hb:bB e f env (Ċ e env)=Ċ e env)
  (h:av Ð A (Ċ e env) (λo a=>av Ð A (ËT o f true) Q E a) E s):av Ð A (Ċ Ï6 env) Q E s :=
 Attribute_any_ h (by rw[arm_eval_Attribute,hb])
universe E
inductive ZxC (K:Ä) (f:am) (x:V) (H:Hp) (B:V->Prop):Prop where
 | mk (a C dx:af) (fs:À (am×V)) (v:V) (e:x=.ref a) (g:H a=aa (.ins C dx fs)) (c:Cls K C) (n:Yt K C f) (l:Äa f=aa v) (q:B v)
def Lw(K:Ä)(b:TE)(f:am):TE:=λc H Q=>b c H λx a=>ZxC K f x a (λv=>Q v a)
inductive RSF (K:Ä) (f:am) (x:V) (H:Hp) (B:af->HO->Prop) (y:V):Prop where
 | mk (a C dx:af) (fs:À (am×V)) (e:x=.ref a) (g:H a=aa (.ins C dx fs)) (c:Cls K C) (n:Yt K C f) (l:ÃW<1000) (q:B a (.ins C dx (Zx f y fs)))
def Zxa(K:Ä)(d e:TE)(f:am):TS:=λD b H=>e b H λy g=>d b g λx c=>RSF K f x c (λa o=>Ħ b (upd c a o)) y
def Lv(X:Cx)(op:ÈP)(rd:ÈO):Prop :=
 ∀ (a:À (af×aN)) (s:ak) (b:St) (H:Hp) (x y:V) (u v:ae) (Q:VK),Inv X a b H s->ZI x u->ZI y v->rd x y H Q->ý (ÏE op u v) Ã2 ê s
def ZrZ(K:Ä)(h i:TE)(rd:ÈO)(f:am):TS:=λD b H=>h b H λx d=>X5 λa C dx fs v=>x=.ref a/\d a=aa (.ins C dx fs)/\Cls K C/\Yt K C f/\Äa f=aa v /\
 i b d λy j=>rd v y j λz e=>X2 λg c=>e a=aa (.ins C g c)/\ë<1000/\Ħ b (upd e a (.ins C g (Zx f z c)))
section
variable {X:Cx} {o e ι:aL} {f:am} {pos cZ fE:Pos} {ta tv:TE}
theorem ZH(he:PE X e ta)(hb:#[fM,e,f]):PE X Ï6 (Lw X.K ta f):=by intro b s d H Q I h;refine Lx hb #[eX,he,b,d];rintro u s1 ⟨x,g,i,j,a,C,dx,fs,v,ex,k,c,n,l,q⟩;subst ex;obtain rfl:u=å a:=j;exact Lz i k c n l λu' s2 m o=>(v,g,m,o,q)
theorem XJ(ha:Â8)(e:ËZ)(hs:Ï7):PS X Ï8 (Zxa X.K ta tv f):=by intro d s b H D I h;refine Ï9 #[gw,e,d,q] hs;rintro m s2 ⟨x,H2,p,r,a,C,dx,fs,ex,t,c,n,l,v⟩;subst ex;obtain rfl:m=å a:=r;exact Ly p t c n l k λs3 w=>(b,_,w,v)
theorem Vl{op:ÈP}{rd:ÈO}(ha:Â8)(g:ËZ)(d:Lv X op rd):PS X (.AugAssign #[tN,f,fE] op ι pos) (ZrZ X.K ta tv rd f):=by intro e s b H D I h;refine wpAny_AugAssign_AttributeAny #[eX,ha,e,b];rintro i s1 ⟨x,j,k,m,a,C,dx,fs,v,ex,p,c,n,l,q⟩;subst ex;obtain rfl:i=å a:=m;refine Lz k p c n l λu r t w=>thn (g e r b j _ t q) λA B ⟨y,E,F,G,J⟩=>thn (d e B b E v y u A _ F w G J) ?_;rintro w4 s4 ⟨z,H3,K,L,xO,wQ,M,N,O⟩;exact Ly K M c n N L λs5 P=>(b,_,P,O)
def Zxx:V->V->Hp->VK->Prop:=λx y H Q=>RI2 x y (λi j=>Q (.int (i+j)) H)
theorem T3:Lv X .Add Zxx:=by rintro aj s σ H x y u v Q I b c ⟨i,j,rfl,rfl,q⟩;obtain t|rfl:=#[fh,t,Âh,i,b];obtain a|rfl:=(show ∃a,v=Âh j a from c);exact PyProof.Rows.iadd_int (.int (i+j),H,ř _,ā,q)
universe E
section
variable {X:Cx} {aj:À (af×aN)} {σ:St} {H:Hp} {s:ak} {A:aE} {E:ae->ak->Prop} {Q:ae->ak->Prop} {c:ae} {b:Ê}
inductive WS (K:Ä) (H:Hp):V->ae->Prop where
 | non:WS K H .non (.type "NoneType")
 | bl (x:Ê):WS K H (.bl x) (.type "bool")
 | int (i:Int):WS K H (.int i) (.type "int")
 | str (x:am):WS K H (.str x) (.type "str")
 | flt (x:UInt64):WS K H (.flt x) (.type "float")
 | lst {a:af} {xs:À V} (e:H a=aa (.lst xs)):WS K H (.ref a) (.type "list")
 | frz {a:af} {o:aN} {xs:À V} (e:H a=aa (.frz o (.lst xs))):WS K H (.ref a) (.type "list")
 | tup {a:af} {xs:À V} (e:H a=aa (.tup xs)):WS K H (.ref a) (.type "tuple")
 | dK {a:af} {kvs:À (Key×V)} (e:H a=aa (.dK kvs)):WS K H (.ref a) (.type "dict")
 | dT {a:af} {kvs:À (À Key×V)} (e:H a=aa (.dT kvs)):WS K H (.ref a) (.type "dict")
 | ins {a C dx:af} {fs:À (am×V)} (e:H a=aa (.ins C dx fs)) (cl:Cls K C) (ha:Į K (.ref C) "__class__" = aa (aa (.builtin "object.__class__")))
   (hn:Ða) (iV:Ðb)
   (hm:#[g3,C]):WS K H ą ã
theorem Zo4{x:V}{u t:ae}(I:â)(d:ZI x u)(ty:WS X.K H x t)(e:Ď X.K t c=aa b)(h:∀tk,Q (.bool b) { s with õ:=tk }) :
  av Ĝ A (Œ È3 [u,c]) Q E s:=by
 cases ty with
 | non=>cases (show u=Àq from d);rw[hS,PySem.W.kitx_none]
 | bl y=>cases (show u=Æt y from d);rw[hS,PySem.W.kitx_bool]
 | int i=>obtain t|q:=#[fh,t,Âh,i,d];cases q;rw[hS,PySem.W.kitx_int]
 | str y=>obtain t|q:=#[fh,t,Âj,y,d];cases q;rw[hS,PySem.W.kitx_str]
 | flt y=>obtain t|q:=#[fh,t,ae.float,y,d];cases q;rw[hS,PySem.W.kitx_float]
 | @lst a k f=>cases (show u=å a from d);obtain _|_|n|_|g:=(show Y1 ü X.w H Í a (.lst k) from é a _ f);exact Õn
 | @frz a r k f=>cases (show u=å a from d);obtain _|_|_|n|_|g:=(show Y1 ü X.w H Í a (.frz r (.lst k)) from é a _ f);exact Õn
 | @tup a k f=>cases (show u=å a from d);obtain _|_|_|p:=(show Y1 ü X.w H Í a (.tup k) from é a _ f);obtain o|g|l|_:=p;exact Q6 PySem.W.kitx_tuple ĵ (o,g,l) e Àw h
 | @dK a j f=>cases (show u=å a from d);obtain _|_|vs|_|p:=(show Y1 ü X.w H Í a (.dK j) from é a _ f);obtain o|v|w|g|l|_:=p;exact Õo
 | @dT a j f=>cases (show u=å a from d);obtain _|_|k|_|o|v|w|g|l|_:=#[hY,a,j,f];exact Õo
 | @ins a C dx fs f m B D F G=>cases (show u=å a from d);obtain mA|O|_:=S6 é f;obtain od|J|_:=O.look;exact Q6 (PySem.W.kitx_own (m.get _) m.hd B D F G) ĵ J e Àw h
universe E
structure Zt (k:Nat) (A:aE):Prop where
 hd:A.handled=ah
 dp:Ë0+3*k+5<recursionLimit
 un:Àx+16*k+200<Ás
 gd:A.guards=aa []
theorem Zt.mono{j k:Nat}{A:aE}(r:Zt k A)(h:j<=k):Zt j A:=(r.hd,by have:=r.dp;lia,by have:=r.un;lia,r.gd)
theorem Zt.deeper{k:Nat}{A:aE}(r:Zt (k+1) A)(env:Env):Zt k (ÆL env) :=
 (r.hd,by have:=r.dp;show Ë0+1+3*k+5<_;lia,by have:=r.un;show Àx+3+16*k+200<_;lia,r.gd)
theorem Zmz{A:aE}{C:af}{us:Þ}{kw:Â5}:(Õp).depth=Ë0+1:=by first|rfl|simp[Ë1,Code.weight,Code.isCreation,Code.isGuard,Code.isCaller,Ðc,Ë2,guardIds]
theorem Zmt{A:aE}{C:af}{us:Þ}{kw:Â5}:(Õp).units=Àx+1:=by first|rfl|simp[Ë1,Code.cUnits,Ðc,Ë2]
theorem Zt.make{k:Nat}{A:aE}(r:Zt (k+1) A)(C:af)(us:Þ)(kw:Â5):Zt k Õp :=
 (r.hd,by have:=r.dp;rw[Zmz];lia,by have:=r.un;rw[Zmt];lia,by rw[show (ÆH Õq).guards=A.guards from by first|rfl|simp[Ë1,pushGuards,Code.guards,Code.isGuard,guardIds]];exact r.gd)
theorem Zt.depth{k:Nat}{A:aE}(r:Zt k A):Ë0<recursionLimit:=by have:=r.dp;lia
theorem Zt.units{k:Nat}{A:aE}(r:Zt k A):Àx+64<Ás:=by have:=r.un;lia
def UH:TA:=λ_ H Q=>Q [] H
def Lu(b:TE)(c:TA):TA:=λa H Q=>b a H λx d=>c a d λxs e=>Q (x::xs) e
section
variable {X:Cx} {e:aL} {es:À aL} {te:TE} {t:TA} {pos:Pos}
theorem Zd:PA X [] UH:=λ_ _ _ _ H Q I h=>Õr ([],H,I,.nil,h)
theorem Za(ha:Åm)(hr:PA X es t)(hs:Ρ:=by rfl):PA X (e::es) (Lu te t):=by intro pos a s b H Q I h;rw[hs];show av _ _ (spliced (#[fS,e]::bj pos (aG es Ì))) _ _ s;refine Ë3 #[eX,ha,a,b];rintro u c ⟨x,d,f,g,i⟩;exact thn (hr pos a c b d _ f i) λus s2 ⟨j,k,l,m,n⟩=>(x::j,k,l,.cons g m,n)
def Zxu(t:TA):TE:=λb H Q=>t b H λxs a=>Ö<=aq/\∀p,a p=ah->Q Ś (upd a p ű)
def ZxF(t:TA):TE:=λb H Q=>t b H λxs a=>Ö<=aq/\∀p,a p=ah->Q Ś (upd a p Àt)
theorem ZS{f}(h:PA X es t):PE X (.Tuple es f pos) (Zxu t):=by intro g s i H Q I j;refine wpAny_Tuple_spliced (thn (h pos g s i H _ I j) λk a ⟨l,c,d,r,z,q⟩=>(by rw[<- μ];exact z,?_));have m:c Ày=ah:=Ðd ò;refine(.ref Ày,upd c Ày (.tup l),d.laid (t':=È4) #[hX,b,u,e] ò ?_,rfl,q _ m);exact(z,k,r,(_,Qs _ rfl,rfl,_,rfl))
theorem Z2(h:PA X es t):PE X (.List es pos) (ZxF t):=by intro f s g H Q I i;refine wpAny_List_spliced (thn (h pos f s g H _ I i) λj a ⟨k,c,d,r,z,q⟩=>(by rw[<- μ];exact z,?_));have l:c Ày=ah:=Ðd ò;refine(.ref Ày,upd c Ày (.lst k),d.laid (t':=È4) #[hX,b,u,e] ò ?_,rfl,q _ l);exact(z,j,0,r,Qs _ rfl)
universe E
abbrev Sp:=À V->Hp->VK->XK->Prop
abbrev CXT:=À Env->Hp->ak->XK->ae->ak->Prop
structure Vk (P:aA) (w:aF) (K:Ä) (mg:Ą) (Â:aJ) (A:aE) (Ü:ÁN) (s:ak) (H:Hp):Prop where
 frames:A.frames=aa Ü
 mod:Mod K mg Â
 bs:∀b o,base.get? b=aa o->í b=aa o/\H b=ah
 bsz:base.objs.size<=Ò
 funs:Æy Â Ü
 frf:∀b∈frs Ü,H b=ah
 hok:HOk P w H Í
 bare:Â0 Æw
def CE(Ü:ÁN)(P:aA)(w:aF)(H:Hp)(s:ak)(Q:VK)(u:ae)(s':ak):Prop :=
 X2 λv a=>s'.os=s.os/\Â0 s'.gens/\Un (frs Ü) [] H a Í ÀO/\HOk P w a ÀO/\ZI v u/\Q v a
def CR(CX:CXT)(Ü:ÁN)(P:aA)(w:aF)(H:Hp)(s:ak)(Q:VK)(E:XK)(r:È5)(s':ak):Prop :=
 match r with
 | .ok (.ret u)=>CE Ü P w H s Q u s'
 | .ok _=>ĝ
 | .error e=>CX Ü H s E e s'
structure YN (P:aA) (w:aF) (K:Ä) (mg:Ą) (Â:aJ) (CX:CXT) (k:Nat) (f:af) (fd:bC) (ps:Ï) (sp:Sp):Prop where
 len:∀vs H Q E,sp vs H Q E->Ŧ=ÀS
 run:∀ (A:aE) (Ü:À Env) (s:ak) (H:Hp) (args:Args) (us:À ae) (vs:À V) (Q:VK) (E:XK),Zt k A->Vk P w K mg Â A Ü s H->ÆM s fd args ÆN->ZF vs us->sp vs H Q E ->
  bJ Ã4 A (.call Ĉ args) (CR CX Ü P w H s Q E) s
theorem YN.mono{P:aA}{w:aF}{K:Ä}{mg:Ą}{Â:aJ}{CX:CXT}{j k:Nat}{f:af}{a:bC}{ps:Ï}{sp:Sp}(F:YN P w K mg Â CX j f a ps sp)(h:j<=k) :
  YN P w K mg Â CX k f a ps sp:=(F.len,λA Ü s H args us vs Q E hr=>F.run A Ü s H args us vs Q E (Âq h))
theorem YN.imp{P:aA}{w:aF}{K:Ä}{mg:Ą}{Â:aJ}{CX:CXT}{k:Nat}{f:af}{c:bC}{ps:Ï}{sp b:Sp}(F:YN P w K mg Â CX k f c ps sp)
  (h:∀vs H Q E,b vs H Q E->sp vs H Q E):YN P w K mg Â CX k f c ps b :=
 (λvs H Q E q=>F.len vs H Q E (h _ _ _ _ q),λA a s H args d vs Q E e g i j l=>F.run A a s H args d vs Q E e g i j (h _ _ _ _ l))
theorem Vk.make{P:aA}{w:aF}{K:Ä}{mg:Ą}{Â:aJ}{A:aE}{Ü:ÁN}{s:ak}{H:Hp}(e:Õs)(C:af)(us:Þ)(kw:Â5) :
  Vk P w K mg Â Õp Ü s H:=(by first|exact e.frames|(simpa [Ë1,Code.envs,Ë2,pushEnvs] using e.frames),e.mod,e.bs,e.bsz,e.funs,e.frf,e.hok,e.bare)
section
variable {X:Cx} {aj:À (af×aN)} {σ:St} {H:Hp} {s s':ak}
theorem Inv.env0(I:â):Vk ü X.w X.K ė ň X.A ŵ s H :=
 (Ë4,Ëp,I.bs,Qj ÈI I.sz,I.stack,Ðe,é,ŷ)
theorem Inv.after{Q:VK}{u:ae}(I:â)(h:CE ŵ ü X.w H s Q u s'):EP X aj σ Q u s':=by obtain v|e|os|a|un|c|r|q:=h;obtain f|g|d|t|i:=s';obtain rfl:i=s.os:=os;exact(v,e,I.call (h':=f) (g':=g) (d':=d) (t':=t) (ch:=[]) un c a (λb z=>Î z Ù),r,q)
universe E
def Ls(sp:Sp)(dvs:ă)(E:XK)(t:TA):TE:=λa H Q=>t a H λvs b=>sp Äc b Q E
inductive RMt (C:af) (m:am) (x:V) (H:Hp) (B:Prop):Prop where
 | mk (a dx:af) (fs:À (am×V)) (e:x=.ref a) (g:H a=aa (.ins C dx fs)) (l:Äa m=ah) (q:B)
def S5(C:af)(m:am)(sp:Sp)(dvs:ă)(E:XK)(c:TE)(t:TA):TE:=λa H Q=>c a H λx b=>RMt C m x b (t a b λvs d=>sp (x::Äc) d Q E)
def S4(C:af)(sp:Sp)(dvs:ă)(E:XK)(t:TA):TE:=λb H Q=>t b H λvs a=>∀x dx,a x=ah->a dx=ah->dx≠x ->
 sp (.ref x::Äc) #[fl,a,dx,x,C] (λv c=>v=.non/\Q ÀL c) E
def Ys(K:Ä)(b:bC)(ps:Ï)(ds:Þ):Prop :=
 ∀ (s:ak) (a:À ae),ų Í->(a++ds).length=ÀS->ÆM s b (a,[]) (È6 (a++ds))
theorem Ys.all{K:Ä}{a:bC}{ps:Ï}(h:∀us:À ae,ε=ÀS->bindArgs a È7=pure ÆN):Ys K a ps []:=λs us _ hl=>by rw[QV]at hl ⊢;exact .of_eq (h us hl)
def VL(CX:CXT)(X:Cx)(E:XK):Prop:=∀ (a:À (af×aN)) (b:St) (H:Hp) (s:ak) (e:ae) (s':ak),Inv X a b H s->CX ŵ H s E e s'->ê e s'
section
variable {X:Cx} {CX:CXT} {k:Nat} {f C:af} {fd:bC} {ps:À am} {sp:Sp} {dvs:À V} {ds:À ae} {E:XK} {x m:am} {p pos bz:Pos} {e o:aL} {es:À aL} {ta:TE} {t:TA}
theorem S0{b:ĕ}{c:St}{H:Hp}{s:ak}{Q:VK}{us:Þ}{vs:ă}(F:Åv)(hr:ν)(hb:Åw)(hd:Åx)(hx:Åy)
  (I:Inv X b c H s) (r:ZF vs us) (h:sp Äc H Q E):ý (Œ Ĉ us) (EP X b c Q) ê s:=by
 have d:ZF Äc (us++ds):=Ë5 hd;have g:(us++ds).length=ÀS:=by rw[<- Àz];exact F.len _ _ _ _ h
 refine Âr (Åz (F.run X.A ŵ s H È7 (us++ds) Äc Q E hr I.env0 (hb s us ĵ g) d h) λr i a=>?_);cases r with
 | error e=>exact hx b c H s e i I a
 | ok j =>
  cases j with
  | ret u=>exact I.after a
  | next=>exact Â9
  | brk=>exact Â9
  | Γ=>exact Â9
theorem Ztu(F:Åv)(hr:ν)(b:ő)(hm:ė x=aa Ĉ)(hk:#[tO,X.K])(hb:Åw)(hd:Åx)(hx:Åy)
  (ha:ξ) (c:Ĵ:=by decide) (he:Ρ:=by rfl) (d:Át:=by rfl) :
  PE X Äd (Ls sp dvs E t):=by
 rw[r3];refine Qah (h₀:=ň) Äe hk Õt he d;exact S0 F hr hb hd hx a r q
theorem ZsY{pl:Sem Ê}(he:Â8)(c:Äb)(hm:UI X.K C m f)(F:Åv)(hr:ν)(hb:Åw)(hd:Åx)(hx:Åy)(ha:ξ)
  (n:Ρ:=by rfl) (p:Át:=by rfl)
  (v:Ċ ÆO Ì=(do
   let b <- Ċ o Ì
   ÃZ ÆP
   let (f,first) <- ÁO [b] (Ã9 b m pl)
   ÆQ pos f first (bj pos ÆR) ÆS):=by rfl) :
  PE X ÆO (S5 C m sp dvs E ta t):=by
 rw[sJ,d,g,v];rw[hy,w,y,i,z,A];refine P9 i A c hm l ?_;refine Qah (first:=Ár) (h₀:=ň) Äe hm.kp (thn (ha pos d w g y _ i q) λus s2 ⟨vs,H2,j,r,B⟩=>(j.kIn,?_)) n p;exact S0 (us:=.ref a::us) (vs:=.ref a::vs) F hr hb hd hx j (.cons rfl r) B
theorem ZpS{pl:Sem Ê}(he:Â8)(c:Äb)(hm:UI X.K C m f)(F:Åv)(hr:ν)(hb:Åw)(hd:Åx)(hx:Åy)
  (ht:Ċ Ë6 Ì=(do
   let d <- Ċ o Ì
   ÃZ ÆP
   let (f,first) <- ÁO [d] (Ã9 d m pl)
   ÆQ pos f first (bj pos (aG [] Ì)) ÆS):=by rfl) :
  PE X Ë6 (S5 C m sp dvs E ta UH):=by
 rw[sJ,e,g,ht];rw[hy,s1,H1,b,i,j];refine P9 b j c hm l ?_;exact Õu (first:=Ár) b.kIn hm.kp (S0 (us:=Ár) (vs:=Ár) F hr hb hd hx b Ðf q)
structure Mk (K:Ä) (C f:af):Prop where
 makes:Õv K C=true
 init:Į K ã "__init__" = aa ŉ
 fn:Åt K Ĉ=true
 kp:Áq K ã=true
theorem Lr{c:ĕ}{d:St}{H:Hp}{s:ak}{Q:VK}{us:Þ}{vs:ă}(M:Mk X.K C f)(F:Åv)(hr:È8)(hb:Åw)(hd:Åx)
  (hx:Åy) (I:ËK) (r:ZF vs us)
  (h:∀x dx,H x=ah->H dx=ah->dx≠x->sp (.ref x::Äc) #[fl,H,dx,x,C] (λv j=>v=.non/\Q ÀL j) E) :
  ý (Œ ã us) (EP X c d Q) ê s:=by
 have g:=h Ź Ò Ðg ÁT (QG Ï5);have b:=Inv.made (C:=C) I;have i:ZF (ø Ź::Äc) Õw:=.cons rfl (Ë5 hd);have l:(å Ź::us++ds).length=ÀS:=by have e:=ÈU;rw[F.len _ _ _ _ g]at e;exact Åh
 refine Âr (Zqe (f:=f) ĵ M.makes M.init (ËU M.fn) (Åz (F.run _ ŵ _ _ (å Ź::us,[]) Õw _ _ E (hr.make C us [])
  (b.env0.make C us []) (hb _ Õx b.kIn l) i g) λr m a=>?_))
 cases r with
 | error e=>exact hx c d _ _ e m b a
 | ok n =>
  cases n with
  | ret u=>obtain v|o|p|q|t|w:=b.after a;subst t;exact(q,(ø Ź,o,p,rfl,w))
  | next=>exact Â9
  | brk=>exact Â9
  | Γ=>exact Â9
theorem Ztj(M:Mk X.K C f)(F:Åv)(hr:È8)(b:ő)(hm:Ë7)(hb:Åw)(hd:Åx)(hx:Åy)
  (ha:ξ) (c:Ĵ:=by decide) (he:Ρ:=by rfl) (d:Át:=by rfl) :
  PE X Äd (S4 C sp dvs E t):=by
 rw[r3];refine Qah (h₀:=ň) Äe M.kp Õt he d;exact Lr M F hr hb hd hx a r q
theorem ZrF(M:Mk X.K C f)(F:Åv)(hr:È8)(a:ő)(hm:Ë7)(hb:Åw)(hd:Åx)(hx:Åy)
  (b:Ĵ:=by decide):PE X Õy (S4 C sp dvs E UH):=by
 rw[vS];refine bw (WV I a hm ?_ b);exact Õu ĵ M.kp (Lr (us:=[]) M F hr hb hd hx I .nil h)
universe E
section
variable {X:Cx} {CX:CXT} {k:Nat} {f C:af} {fd:bC} {ps ks:À am} {sp:Sp} {E:XK} {x m:am} {p pos bz kpos:Pos} {e o:aL} {es:À aL} {kws:À È9} {te ta:TE} {t tk:TA} {nm:Ã am}
structure KBinds (K:Ä) (fd:bC) (ps ks:Ï) (g:À ae->À ae->À ae) (gV:À V->À V->À V):Prop where
 to:∀ (s:ak) (us ws:À ae),ų Í->(g us ws).length=ÀS->ÆM s fd (us,ÅA ws) (È6 (g us ws))
 rel:∀ {vs:À V} {us:À ae} {zs:À V} {ws:À ae},ZF vs us->ZF zs ws->ZF (gV vs zs) (g us ws)
variable {g:À ae->À ae->À ae} {gV:À V->À V->À V}
universe E
structure Zm (N P:Ï) (sc:bn):Prop where
 kind:sc.kind=.function
 co:sc.isCoroutine=false
 gen:sc.isGenerator=false
 nd:Ëw
 pre:N.take Éa=P
 par:∀x∈P,Õz x=aa .local\/Õz x=aa .cell
 nofree:∀y∈sc.names,y.2≠.free
theorem Lq{ο:Ë8}{x:am}:∀ {binds:À (am×ae)} {m:am->Ã ae},(∀v,(x,v,) ∉ binds)->Äf ο binds m x=m x
 | [],_,_=>rfl
 | (n,v,)::r,m,h=>by
  unfold Äf;rw[Lq λw hw=>h w (Qw _ hw)];split
  ·have:x≠n:=by rintro rfl;exact h v QaH
   simp[this]
  ·rfl
theorem Lp{ο:Ë8}{x:am}:∀ {binds:À (am×ae)} {m:am->Ã ae},(∀v,(x,v,) ∉ binds)->Äg ο binds m x=m x
 | [],_,_=>rfl
 | (n,v,)::r,m,h=>by
  unfold Äg;rw[Lp λw hw=>h w (Qw _ hw)];split
  ·rfl
  ·have:x≠n:=by rintro rfl;exact h v QaH
   simp[this]
theorem Ln{ο:Ë8}{x:am}{v:ae}:∀ {P:À am} {vs:À ae} {i:Nat} {m:am->Ã ae},P.Nodup->P[i]? = aa x->vs[i]? = aa v->ο x=aa .local ->
  Äf ο (P.zip vs) m x=aa v
 | [],_,_,_,_,h,_,_=>by simp at h
 | _::_,[],_,_,_,_,h,_=>by simp at h
 | p::P,w::vs,0,m,nd,h1,h2,hk=>by simp at h1 h2;subst h1;subst h2;show Äf ο Ë9 m p=_;unfold Äf;rw[Lq λv a=>(Q7.mp nd).1 #[ru].1,Æ hk];simp
 | p::P,w::vs,i+1,m,nd,h1,h2,hk=>by show Äf ο Ë9 m x=_;unfold Äf;exact Ln (i:=i) (Q7.mp nd).2 #[eE,h1] #[eE,h2] hk
theorem Lm{ο:Ë8}{x:am}{v:ae}:∀ {P:À am} {vs:À ae} {i:Nat} {m:am->Ã ae},P.Nodup->P[i]? = aa x->vs[i]? = aa v->ο x≠aa .local ->
  Äg ο (P.zip vs) m x=aa v
 | [],_,_,_,_,h,_,_=>by simp at h
 | _::_,[],_,_,_,_,h,_=>by simp at h
 | p::P,w::vs,0,m,nd,h1,h2,hk=>by simp at h1 h2;subst h1;subst h2;show Äg ο Ë9 m p=_;unfold Äg;rw[Lp λv a=>(Q7.mp nd).1 #[ru].1,È hk];simp
 | p::P,w::vs,i+1,m,nd,h1,h2,hk=>by show Äg ο Ë9 m x=_;unfold Äg;exact Lm (i:=i) (Q7.mp nd).2 #[eE,h1] #[eE,h2] hk
def start(N:Ï)(vs:ă):St:=vs.map aa++Ġ (ĩ-Ŧ) ah
def Xp(CX:CXT)(P:aA)(w:aF)(K:Ä)(mg:Ą)(Â:aJ)(N:Ï)(a:am)(b:bn)(f:af)(c:ae)(A:aE)(Ü:ÁN)(s:ak)(H:Hp)(E:XK):Cx where
 è:=P
 w:=w
 K:=K
 mg:=mg
 Â:=Â
 A:=ÆL Ðh
 N:=N
 ÀM:=s
 H₀:=H
 env:=ÅB a b Ò f c
 Ü:=Ü
 stack:=ÅB a b Ò f c::Ü
 ex:=[]
 calm:=true
 fn:=λ_=>true
 pn:=[]
 xe:=λe g=>av Ã4 (ÆL Ðh) (leaving Ðh e) (λ_ d=>CX Ü H s E e d) (λh d=>CX Ü H s E h d) g
theorem Ll{a:bn}{n:Nat}{x:am}(h:ÃX x=aa .cell):∃c,(Ði n a.names []).lookup x=aa c:=by have q:=ÕA a.names n [] Åk;exact Option.isSome_iff_exists.mp q
theorem Zo1{CX:CXT}{P:aA}{w:aF}{K:Ä}{mg:Ą}{Â:aJ}{N ps:Ï}{o:am}{j:bn}{f:af}{t:ae}{A:aE}{Ü:ÁN}{s F:ak}{H:Hp}{E:XK}{us:Þ}{vs:ă}
  (S:Zm N ps j) (hd:Ãa) (g:Õs) (hl:Ŧ=ÀS) (r:ZF vs us)
  (x:InCallC s Ò (Äf #[rl].kindOf ÆN λ_=>ah) (Ði Ź j.names []) (Äg #[rl].kindOf ÆN λ_=>ah) F) :
  Inv ÜP [] Áu H F:=by
 have cr:ÀS<=ĩ:=by have:=#[fD,S.pre];rw[Qx]at this;lia
 obtain B|tk|rfl|G:=x.done;have D:∀b:af,b ∉ (ÜP).ex:=λb z=>Î #[s7,z] Ù;refine⟨(g.mod,ÆT,rfl,rfl,Qd _,λy z c B d=>?_,λy hy=>?_,λy c _ h=>?_,λ_=>hd,aE.frames_deeper g.frames,.inr Ο,λb z=>Î z (D b),g.bs,g.bsz,λb _ _=>D b,λb z=>Î z (D b),g.funs,g.frf),
  rfl,g.bare,ÈA G,(_,x.toInCall.ns,λi y v B d h3=>?_),λy c h=>(_,x.cell y c h),g.hok.fresh ò,λy c h=>?_,λp l=>Î (show p∈Ìa from l) Ù,g.hok.kept G,?_⟩
 ·exact name_of_addr x.apart (Qas B) (Qas d)
 ·have hy:#[tE,j.names.lookup,y]:=hy;rcases hy with hy|hy
  ·exact Ll hy
  ·exact Î rfl (S.nofree _ (Qas hy))
 ·exact QaC (x.above y c (Qas h))
 ·have C:i<Ŧ:=by
   unfold start at d;by_cases C:i<Ŧ
   ·exact C
   ·rw[QW #[eE,C]]at d;rw[ÕB]at d;split at d<;>cases d
  have J:#[Au,vs,v]:=by
   unfold start at d;rw[QX #[eE,C],Qr]at d;cases e:vs[i]? with
   | none=>rw[e]at d;cases d
   | some a=>rw[e]at d;cases d;rfl
  rw[sX,u,I,L,r.get,J];have l:#[Au,ps,y]:=by rw[<- S.pre,List.getElem?_take_of_lt Á];exact B
  have m:ps.Nodup:=by rw[<- S.pre];exact S.nd.sublist ÕC
  rw[ud,u,L];rcases S.par y (Qm l) with k|k
  ·exact .inl (k,Ln m l I k)
  ·obtain c|e:=Ll (n:=Ò+1) k;refine .inr (.inl k,c,e,?_);have q:=x.cell y c e;rw[Lm m l I (by show j.names.lookup y≠_;rw[k];decide)]at q;exact q
 ·exact g.hok.fresh (QaC (x.above y c (Qas h)))
 ·unfold start;show _=ĩ;rw[Qg,Qa,QaO];lia
theorem Lk{CX:CXT}{P:aA}{w:aF}{K:Ä}{mg:Ą}{Â:aJ}{k:Nat}{f:af}{name d:am}{D:Arguments}{m:Ţ}{a:bn}{F kV G L g ct T:ae}{M od:ú}
  {U:ġ} {N ps:Ï} {sp:Sp} (lk:Ā f=aa (T,od,.func ÕD,U)) (W:Éb K g d=true) (S:Zm N ps a)
  (len:Ãb)
  (X:∀ (A:aE) (Ü:À Env) (s:ak) (H:Hp) (vs:À V) (Q:VK) (E:XK),Zt k (ÆL (ÅB d a Ò f g))->sp vs H Q E ->
   ∃t,PSs Ðj m t/\t { nx:=#[iW,c],rt:=Q } Áu H) :
  YN P w K mg Â CX (k+1) f ÕD ps sp:=by
 refine(len,λA Ü s H args Y vs Q E p i Z r O=>?_);have hl:=len _ _ _ _ O;have KX:Ã8:=i.mod.kin.keeps λb o e=>(i.bs b o e).1;have z:s.heap.NoLimit:=i.mod.nolimit.keeps λb o e=>(i.bs b o e).1;have Dl:∀y∈È6 Y,ÃX y.1=aa .local\/(ÃX y.1=aa .cell/\((Ði Ź a.names []).lookup y.1).isSome=true):=λ⟨n,v⟩ hy=>by
  rcases S.par n (ÕE hy).1 with q|q
  ·exact .inl q
  ·exact .inr (q,ÕA _ _ _ (.inl q))
 refine codeAny_call_function p.depth (KX _ _ lk) rfl S.co S.gen rfl (PySem.W.codeRec_of KX W) (Z _ _ _ _ ?_);refine wpAny_newFunctionEnv_cells ÆT Dl λenv he R x=>?_;subst he;refine(z.keeps x.toInCall.keep,codeAny_func ?_);obtain t|ht|hq:=X A Ü s H vs Q E (p.deeper _) O;have I:Inv Ðj [] Áu H R:=Zo1 S p.hd i hl r x;refine aS (ht [] R Áu H _ I hq) #[io,fl,B,h] λe B h=>h;have j:∀ {l:St} {c:Hp} {v:V} {u:ae},Inv Ðj [] l c B->ZI v u->Q v c->CE Ü P w H s Q u B :=
  λ{l c v u} J C q=>(v,c,J.os,J.bare,J.base,J.hok,C,q)
 cases fl with
 | ret u=>obtain v|l|c|J|C|q:=h;exact j J C q
 | next=>obtain l|c|J|q:=h;exact j (v:=V.non) (u:=Àq) J rfl q
 | brk=>obtain _|_|_|q:=h;exact Â2 q
 | Γ=>obtain _|_|_|q:=h;exact Â2 q
section
variable {X:Cx} {x:am} {p pos:Pos} {e:aL} {es:À aL} {t:TA} {id T:ł} {r:À V->Hp->VK->Prop}
def tCB(r:À V->Hp->VK->Prop)(t:TA):TE:=λa H Q=>t a H λvs b=>r vs b Q
theorem Zo(hc:YS X #[fO,id] r)(c:ő)(hm:ė x=ah)(d:cx x=aa #[fO,id])(ha:ξ)(hn:ÈM:=by decide)(f:Ĵ:=by decide)
  (g:Ρ:=by rfl) (i:Át:=by rfl):PE X Äd (tCB r t):=by
 rw[pU];exact ÕF ÕG g i
theorem Xx(hc:YS X (.type T) r)(c:ő)(hm:ė x=ah)(d:cx x=aa (.type T))(ha:ξ)(hn:ÈM:=by decide)(f:Ĵ:=by decide)
  (g:Ρ:=by rfl) (i:Át:=by rfl):PE X Äd (tCB r t):=by
 rw[pU];exact Qak ÕG g i
universe E
universe E.L2
namespace HT
open PySem PyProof.Rows
section
variable {è:aA} {w:aF} {A:aE} {E:ae->ak->Prop} {s:ak}
theorem cat_tup{t b:af}{vs ws:Þ}{Q:ñ}(ht:#[At,t,π])(hb:#[At,b,Ìb])(f:vs≠[])
  (h1:ws=[]->Q Âs s) (h2:ws≠[]->Q År { s with Õ:=Àu { cls:=.type "tuple",Ó:=.seq (vs++ws).toArray } })
  (d:Ŧ+Äh<=aq):av Ð A (Ã7 .Add Âs ÁU) Q E s:=by
 obtain ⟨cls,g,Ó,h⟩|a|i|n|hd:=id ht;obtain ⟨cls2,j,data2,k⟩|c|l|m|o:=id hb;simp only at i hd l o;subst i hd l o;have e:π++Ìb=(vs++ws).toArray:=by simp
 by_cases hw:ws=[]
 ·exact concat_meets (_,a,rfl) (_,c,rfl) ÕH seq_tuple_add ÕI ÕJ ÕK
   (tuple_addW1 t b π Ìb n m g j h k #[eE,f] (by simp[hw])) (a,c,h1 hw)
 ·refine concat_meets (_,a,rfl) (_,c,rfl) ÕH seq_tuple_add ÕI ÕJ ÕK
   (tuple_addW2 t b π Ìb n m g j h k #[eE,f] #[eE,hw] (by rw[QA,QA];exact d)) (a,c,?_)
  rw[e];exact h2 hw
def sIx(n d:Nat):Ã Int->Nat
 | none=>d
 | some v=>if v<0 then (v+(n:Int)).toNat else min v.toNat n
theorem sIx_none(n d:Nat):sIx n d ah=d:=rfl
theorem sIx_nat(n d k:Nat):sIx n d (aa (k:Int))=min k n:=by show (if (k:Int)<0 then ((k:Int)+(n:Int)).toNat else min (k:Int).toNat n)=min k n;rw[È Á,QaD]
universe E
universe E.HT
namespace L2
open PySem PySem.Spec PyProof.Rows
abbrev TO:=St->Hp->(Ã Int->Hp->Prop)->Prop
def PO(X:Cx)(e:Ã aL)(t:TO):Prop :=
 ∀ (b:À (af×aN)) (s:ak) (a:St) (H:Hp) (Q:Ã Int->Hp->Prop),Inv X b a H s->t a H Q ->
  ý (evalPart e Ì) (λu d=>X2 λo c=>Inv X b a c d/\IsPart u o/\Q o c) ê s
def ZsG:TO:=λ_ H Q=>Q ah H
def Zwr(t:TE):TO:=λa H Q=>t a H λx b=>EA (λi=>x=.int i) (λi=>Q (aa i) b)
theorem Zl7{ns:Ô}:∀ {us:À ae},ZF Τ us->ÆU us ns:=by
 induction ns with
 | nil=>intro us r;rw[gv,Qa9,r,r];exact .nil
 | Ñ n ns a =>
  intro us r;rw[Qh]at r;cases r with
  | Ñ b c=>obtain t|e:=b;subst e;exact .cons n t (a c)
section
variable {X:Cx} {e:aL} {te:TE} {lo hi:Ã aL} {tl th:TO} {pos p2:Pos}
theorem VJ:PO X ah ZsG:=by intro aj s σ H Q I h;rw[evalPart_none];exact aw (ah,H,I,.none,h)
theorem Wl(h:Åm):PO X (aa e) (Zwr te):=by intro a s b H Q I hw;rw[evalPart_some];refine thn (h a s b H _ I hw) ?_;rintro u s1 ⟨x,c,d,f,g⟩;obtain i|rfl|q:=g;obtain t|rfl:=f;exact(aa i,c,d,.int i t,q)
def SlR(X:Cx)(r:Ðk):Prop :=
 ∀ (a:À (af×aN)) (s:ak) (b:St) (H:Hp) (x:V) (v c d:ae) (lo hi:Ã Int) (e:af) (Q:VK),Inv X a b H s->ZI x v->s.heap.IsSliceOf e c d .none->IsPart c lo->IsPart d hi->r x lo hi H Q ->
  X2 λT id=>Ðl (.type T) "__getitem__" = pure (aa #[fO,id])/\ÆV v T/\ý (ÆW v Ę) Ã2 ê s
def tSl(r:Ðk)(te:TE)(tl th:TO):TE:=λa H Q=>te a H λx b=>tl a b λl c=>th a c λu d=>r x l u d Q
theorem Wz{r:Ðk}(hr:SlR X r)(he:Åm)(hl:PO X lo tl)(hu:PO X hi th):PE X (.Subscript e (.Slice lo hi ah p2) pos) (tSl r te tl th):=by intro c s d H Q I h;refine Subscript_ #[eX,he,c,d];rintro v j ⟨x,k,m,n,o⟩;refine wpAny_Slice (thn (hl c j d k _ m o) λf p ⟨l,t,w,y,z⟩=>thn (hu c p d t _ w z) ?_);rintro g a ⟨u,i,A,B,C⟩;rw[evalPart_none];refine aw ?_;have D:Inv X c d i { a with Õ:=Ðm { cls:=.type "slice",Ó:=.fields #[f,g,.none] } }:=A.kept (t':=È4) λb ob q=>Qc _ q;obtain T|id|E|F|G:=hr c { a with Õ:=Ðm { cls:=.type "slice",Ó:=.fields #[f,g,.none] } } d i x v f g l u Ày Q D n (aJ.IsSliceOf.new ..) y B C;show ý (Ìc e (.Slice lo hi ah p2) v (.ref Ày)) (EP X c d Q) ê { a with Õ:=Ðm { cls:=.type "slice",Ó:=.fields #[f,g,.none] } };exact tail_any (ops:=[.ref Ày,v]) F E G Àd
def Yh(xs:ă)(lo hi:Δ):À V:=(Èw (ŧ Ö 0 lo)).take #[sx,Ö,hi]
theorem Zk5(xs:ă)(lo hi:Δ):(Yh xs lo hi).length<=Ö:=by unfold Yh;rw[Qx,QL];lia
def Zws(K:Ä):R2:=λx y H Q=>X4 λa b xs ys=>C8 ÅC (y=.ref b) (SqT K H a xs) (SqT K H b ys) (xs≠[]) (Ö+į<=aq) ((ys=[]->Q ą H)) ((ys≠[]->∀p,H p=ah->Q Ś (upd H p (.tup (xs++ys)))))
theorem ZF.nil_iff{xs:ă}{us:Þ}(r:ZF xs us):us=[]↔xs=[]:=by
 cases r with
 | nil=>simp
 | Ñ _ _=>simp
theorem Ztq:OpR X ËP (Zws X.K):=by intro aj s σ H x y v u Q I f g h;obtain a|b|i|j|rfl|rfl|k|l|m|e|n|p:=h;cases f;cases g;obtain its|d|r|_:=Ân k;obtain lA|c|p2|_:=Ân l;refine HT.cat_tup r p2 (λz=>m (d.nil_iff.mp z)) (λz=>(.ref a,H,I,rfl,n (c.nil_iff.mp z))) (λz=>?_) (by rw[<- Àz,<- ë];exact e);refine(.ref Ò,_,Àv (t':=ļ) (o:=.tup (i++j)) #[hX,b,ob,q] ò ?_,rfl,p (λw=>z (c.nil_iff.mpr w)) _ ÁT);exact(by rw[Qg];exact e,_,d.append c,Ðn _ _)
universe E
def ixN(n:Nat)(i:Int):Ã Nat:=if 0<=i then (if i<n then aa Áv else ah) else if -(n:Int)<=i then aa (i+n).toNat else ah
def atI{α:Type}(xs:À α)(i:Int):Ã α:=(ixN Ö i).bind λj=>xs[j]?
theorem Lj{n:Nat}{i:Int}{j:Nat}(h:ixN n i=aa j):seqIndex? i n=aa j/\j<n /\ -(n:Int)<=i/\i<n:=by
 unfold ixN at h;by_cases b:0<=i
 ·rw[tM,b,h];by_cases a:i<n
  ·rw[tM,a,h];have e:Áv=j:=Qv h;exact(by rw[Ðo b a,e],by lia,by lia,a)
  ·rw[sR,a,h];cases h
 ·rw[sR,b,h];by_cases a:-(n:Int)<=i
  ·rw[tM,a,h];have e:(i+n).toNat=j:=Qv h;exact(by rw[Ðp Á a,e],by lia,a,by lia)
  ·rw[sR,a,h];cases h
theorem P8{α:Type}{xs:À α}{i:Int}{v:α}(h:atI xs i=aa v):∃j,seqIndex? i Ö=aa j/\xs[j]? = aa v/\j<Ö /\ -(Ö:Int)<=i/\i<Ö:=by
 unfold atI at h;cases e:ixN Ö i with
 | none=>rw[e]at h;cases h
 | some j=>rw[e]at h;obtain a|b|c|d:=Lj e;exact(j,a,h,b,c,d)
theorem Ya{α:Type}{xs:À α}{j:Nat}{v:α}(h:xs[j]? = aa v):atI xs (j:Int)=aa v:=by
 have hj:j<Ö:=(Ń h).1;have e:ixN Ö (j:Int)=aa j:=by unfold ixN;rw[ju,Á,Á];simp
 unfold atI;rw[e];exact h
theorem ZrD{α:Type}(xs:À α)(v:α):atI (xs++[v]) (-1)=aa v:=by
 have a:(xs++[v]).length=Ö+1:=by simp
 have e:ixN (xs++[v]).length (-1)=aa Ö:=by unfold ixN;rw[a,È Å,Æ Á];congr 1;lia
 unfold atI;rw[e];show (xs++[v])[Ö]? = aa v;simp
def Zsw(b:aL):Prop:=∀o i,Ìd b false o i=operate [o,i] (ÆW o i)
def IxR(X:Cx)(r:R2):Prop :=
 ∀ (ι a:aL) (b:À (af×aN)) (s:ak) (c:St) (H:Hp) (x y:V) (v u:ae) (Q:VK),Inv X b c H s->ZI x v->ZI y u->r x y H Q ->
  Ìd a false v u=operate [v,u] (ÆW v u)->ý (Ìc ι a v u) (EP X b c Q) ê s
def MtR(X:Cx)(id:ł)(r:Éc):Prop :=
 ∀ (a:À (af×aN)) (s:ak) (b:St) (H:Hp) (x:V) (c:À V) (v:ae) (d:À ae) (Q:VK),Inv X a b H s->ZI x v->ZF c d->r x c H Q ->
  ý (Œ #[fO,id] (v::d)) Ã2 ê s
section
variable {X:Cx} {a b:aL} {ta tb:TE} {pos:Pos}
theorem ZA{r:R2}(hr:IxR X r)(ha:Ám)(hb:Ã0)(hs:Zsw b):PE X (.Subscript a b pos) ËO:=by intro c s d H Q I h;exact Subscript_ (Ro ha hb I h λv u e x y f g i j q=>hr a b c e d f x y v u Q g i j q (hs _ _))
inductive RIx (S:af->À V->Prop) (x y:V) (B:V->Prop):Prop where
 | mk (p:af) (xs:À V) (i:Int) (v:V) (a:x=.ref p) (b:y=.int i) (c:S p xs) (d:atI xs i=aa v) (q:B v)
def Li(K:Ä):R2:=λx y H Q=>RIx (SqL K H) x y (λv=>Q v H)
def Lh(K:Ä):R2:=λx y H Q=>RIx (SqT K H) x y (λv=>Q v H)
def Zxj:R2:=λx y H Q=>X3 λz i c=>C5 (x=.str z) (y=.int i) (Ć<=aq) (atI Áw i=aa c) (Q Ìe H)
theorem Zss:IxR X (Li X.K):=by
 intro ι fY e s f H x y v u Q I m n h g;obtain p|xs|i|z|rfl|rfl|o|A|q:=h;cases m;rw[tR,n];rw[gn,r,c,hz,o];obtain j|b|B|h3|C|D:=P8 A;rw[sX,w,k,E,r.get,B];have F:=μ;have hn:=UJ;have a:EP X e f Q w s:=(z,H,I,E,q);by_cases l:0<=i
 ·have d:Áv=j:=by rw[Ðo l D]at b;exact Qv b
  exact item_listR c.isList l Á ÕL a g
 ·have d:(i+(Ât:Int)).toNat=j:=by rw[Ðp Á C]at b;rw[QA,<- F];exact Qv b
  exact Ðq (x:=w) c.isList.typeIs ÕM
   (wpAny_getItem_list_neg (Q:=λr G=>r=w/\EP X e f Q r G) c.isList Á (by rw[QA]<;>lia) Á ÕL (rfl,a)) g
theorem Zu8:IxR X (Lh X.K):=by
 intro ι fY b s c H x y v u Q I e f h g;obtain p|xs|i|z|rfl|rfl|k|l|q:=h;cases e;rw[tR,f];rw[sQ,r,d,hz,k];obtain j|m|n|h3|h4|h5:=P8 l;rw[sX,w,o,A,r.get,n];have B:=μ;have hn:=UJ;have a:EP X b c Q w s:=(z,H,I,A,q);exact Ðq (x:=w) Éd slot_tuple_getitem.lookup
  (getItem_tuple (j:=j) (Q:=λr C=>r=w/\EP X b c Q r C) d Á Á (by rw[QA,<- B];exact m) #[eE,o] (rfl,a)) g
theorem UG:IxR X Zxj:=by
 intro ι fY aj s σ H x y v u Q I b d h e;obtain z|i|c|rfl|rfl|hz|f|q:=h;rw[tR,b];rw[fd,t',d];obtain j|a|g|h3|k|l:=P8 f;have m:ÕN:=by simp[Ée]
 rw[m]at a k l;have hn:=UJ;exact tail_any (Ìf s z t) slot_str_getitem.lookup (getItem_str (c:=c) (by have n:decide (i < -(2 ^ 63:Int))=false:=ÆX;have o:decide (i>=2 ^ 63)=false:=ÆX;rw[n,o,Bool.or_false]) (by rw[a];simpa using g) #[g6,Ũ,q]) e
theorem ZmW(its:Þ)(n j:Nat)(u:ae):Ãc (·.setIfInBounds j u) { cls:=ŗ,Ó:=.seq Ĕ n }={ cls:=ŗ,Ó:=.seq (its.set j u).toArray n }:=by simp[Ãc]
theorem Inv.lst{a:ĕ}{b:St}{H:Hp}{s:ak}{p:af}{xs:ă}(I:ÈL)(h:H p=aa Àt) :
  X2 λ(its:À ae) (n:Nat)=>ZF xs its/\í p=aa { cls:=ŗ,Ó:=.seq Ĕ n }/\Ö<=aq:=by
 obtain z|its|n|r|e:=é p _ h;exact(its,n,r,e,z)
theorem Inv.lstUpd{c:ĕ}{d:St}{H:Hp}{s:ak}{p:af}{xs ys:ă}{its its':Þ}{n a:Nat}{f:aN->aN}(I:ËK)(h:H p=aa Àt)
  (g:#[jj,p,Ĕ]) (hf:f { cls:=ŗ,Ó:=.seq Ĕ n }={ cls:=ŗ,Ó:=.seq Ðr a }) (r:ZF ys its') (hz:į<=aq) (t:Nat) :
  Inv X c d #[um,p] { s with Õ:=Âu p f,õ:=t }:=by
 have e:(Âu p f).get? p=aa { cls:=ŗ,Ó:=.seq Ðr a }:=by rw[Q0 f g (by rw[hf]<;>rfl),hf]
 refine Â7 (x:=p) (e:=p) (by rw[h];trivial) Đ (λb u i q=>(Qam _ _ (Àb i)).trans q) (_,e) ?_;exact(hz,its',a,r,e)
def Zwv:V->V->V->Hp->(Hp->Prop)->Prop:=λo i v H Q=>X4 λp xs k j=>C5 (o=.ref p) (i=.int k) (H p=aa Àt) (ixN Ö k=aa j) (Q (upd H p (.lst (xs.set j v))))
theorem Lg:T8 X Zwv:=by
 intro w s x H o i v ov iv u Q I y z A h;obtain p|B|k|j|rfl|rfl|e|C|q:=h;cases y;rw[tR,z];obtain its|n|r|b|D:=I.lst e;obtain a|h2|f|g:=Lj C;have c:=μ;have hn:=UJ;have l:Inv X w x (upd H p (.lst (B.set j v))) { s with Õ:=Âu p (Ãc (·.setIfInBounds j u)) } :=
  I.lstUpd e b (ZmW its n j u) (r.set A j) #[eH,ÕO,D] œ
 by_cases m:0<=k
 ·have d:ÀA=j:=by rw[Ðo m g]at a;exact Qv a
  exact PySem.W.ki_setAt b m Á (by rw[QA,<- c];exact g) ÕP
 ·have d:(k+(Ât:Int)).toNat=j:=by rw[Ðp Á f]at a;rw[QA,<- c];exact Qv a
  exact PySem.W.ki_setBack b Á (by rw[QA,<- c];exact f) Á ÕP
theorem ZkB(lo a:Δ)(n:Nat):#[zp].1=((ŧ n 0 lo:Nat):Int)/\#[zp].2.1=((ŧ n n a:Nat):Int)/\#[zp].2.2=1:=by
 refine(?_,?_,rfl)
 ·cases lo with
  | none=>simp[dL,ŧ]
  | some i =>
   rw[kX];by_cases h:i<0
   ·simp only[h,Âv]<;>lia
   ·simp only[h,Âw]<;>lia
 ·cases a with
  | none=>simp[dL,ŧ]
  | some i =>
   rw[kX];by_cases h:i<0
   ·simp only[h,Âv]<;>lia
   ·simp only[h,Âw]<;>lia
theorem ZiK(its:Þ)(lo a:Δ):slicePick Ĕ lo a ah=((its.drop (ŧ ÆY 0 lo)).take #[sx,ÆY,a]).toArray:=by obtain b|c|d:=ZkB lo a Ât;unfold slicePick;rw[b,c,d];simp only[sliceRange_one,pick_run,Èt]<;>rfl
inductive RSl (K:Ä) (x:V) (lo hi:Δ) (H:Hp) (B:af->Hp->Prop):Prop where
 | mk (a:af) (xs:À V) (e:x=.ref a) (s:SqL K H a xs) (q:∀p,H p=ah->B p (upd H p (.lst (Yh xs lo hi))))
def Lf(K:Ä):V->Ã Int->Ã Int->Hp->VK->Prop:=λx lo a H Q=>RSl K x lo a H λp b=>Q Ś b
theorem Zsh:SlR X (Lf X.K):=by intro aj s σ H x v vl vu lo d sl Q I f g i j h;obtain a|c|rfl|k|q:=h;cases f;obtain its|r|e|l:=Âm k;have m:=μ;refine("list",_,ÕM,e.isList.typeIs,?_);refine wpAny_getItem_list_slice e.isList g i j .none Ù ?_ (by rw[QA]<;>lia);rw[ZiK,<- m];refine(.ref Ò,_,Àv (t':=ļ) (o:=.lst (Yh c lo d)) #[hX,b,ob,q] ò ?_,rfl,q _ ÁT);exact(Qj (Zk5 c lo d) l,_,0,(r.drop (ŧ ë 0 lo)).take #[sx,ë,d],Qs _ rfl)
def Xo:V->Ê
 | .non=>true
 | .bl _=>true
 | .int _=>true
 | .str _=>true
 | _=>false
def eqV:V->V->Ê
 | .non,.non=>true
 | .bl a,.bl b=>a == b
 | .bl a,.int b=>(if a then 1 else 0) == b
 | .int a,.bl b=>a == (if b then 1 else 0)
 | .int a,.int b=>a == b
 | .str a,.str b=>a == b
 | _,_=>false
theorem Zvk{A:aE}{s:ak}{y x:V}{u v:ae}(e:ZI y u)(c:ZI x v)(g:Xo y=true)(f:Xo x=true):Ðs A s u v (eqV y x):=by
 cases y with
 | non =>
  cases e;cases x with
  | non=>cases c;exact SeqAt.EqAt.same _
  | bl b=>cases c;exact SeqAt.EqAt.none_bool b
  | int b=>obtain t|rfl:=c;exact SeqAt.EqAt.none_int b t
  | str b=>obtain t|rfl:=c;exact SeqAt.EqAt.none_str b t
  | _=>exact Éf
 | bl a =>
  cases e;cases x with
  | non=>cases c;exact SeqAt.EqAt.bool_none a
  | bl b=>cases c;exact SeqAt.EqAt.bool_bool a b
  | int b=>obtain t|rfl:=c;exact SeqAt.EqAt.bool_int a b t
  | str b=>obtain t|rfl:=c;exact SeqAt.EqAt.bool_str a b t
  | _=>exact Éf
 | int a =>
  rw[fd,d,e];cases x with
  | non=>cases c;exact SeqAt.EqAt.int_none a d
  | bl b=>cases c;exact SeqAt.EqAt.int_bool a d b
  | int b=>obtain t|rfl:=c;exact ÕQ a d b t
  | str b=>obtain t|rfl:=c;exact ÔB a d b t
  | _=>exact Éf
 | str a =>
  rw[fd,d,e];cases x with
  | non=>cases c;exact SeqAt.EqAt.str_none a d
  | bl b=>cases c;exact SeqAt.EqAt.str_bool a d b
  | int b=>obtain t|rfl:=c;exact ÔC a d b t
  | str b=>obtain t|rfl:=c;exact ÕR a d b t
  | _=>exact Éf
 | _=>exact Î (show false=true from g) Qt
def eqU(x:V)(u:ae):Ê:=match u with
 | .none=>eqV .non x
 | .bool b=>eqV (.bl b) x
 | .int i _=>eqV Åj x
 | .str z _=>eqV ÀT x
 | _=>false
theorem Le{x y:V}{u:ae}(r:ZI y u)(f:Xo y=true):eqU x u=eqV y x:=by
 cases y with
 | non=>cases r;rfl
 | bl b=>cases r;rfl
 | int i=>obtain t|rfl:=r;rfl
 | str z=>obtain t|rfl:=r;rfl
 | _=>exact Éf
theorem P7{x:V}:∀ {xs:À V} {us:À ae},ZF xs us->xs.all Xo=true->us.any (eqU x)=xs.any λy=>eqV y x
 | _,_,.nil,_=>rfl
 | y::xs,u::us,.cons r t,f=>by rw[Ðt,QT]at f;rw[Qa0,Qa0,Le r f.1,P7 t f.2]
theorem P6{A:aE}{s:ak}{x:V}{v:ae}(a:ZI x v)(b:Xo x=true):∀ {xs:À V} {us:À ae},ZF xs us->xs.all Xo=true->∀u∈us,Ðs A s u v (eqU x u)
 | _,_,.nil,_=>λu hu=>by cases hu
 | y::xs,u::us,.cons r t,f=>λc hu=>by
  rw[Ðt,QT]at f;rcases î hu with rfl|hu
  ·rw[Le r f.1];exact Zvk r a f.1 b
  ·exact P6 a b t f.2 c hu
def inV(x:V)(xs:ă):Ê:=xs.any λy=>eqV y x
def rIn(K:Ä)(a:Ê):R2:=λx y H Q=>X2 λp xs=>C5 (y=.ref p) (#[iC,K,xs]) (Xo x=true) (xs.all Xo=true) (Q (.bl (if a then !inV x xs else inV x xs)) H)
theorem Zoe:OpR X Ås (rIn X.K false):=by
 rw[gK,y,u,b,d];obtain p|xs|rfl|hq|c|fs|q:=h;cases d;rcases hq with hq|hq
 ·rw[gn,r,a,e,hq];refine SeqAt.in_listAt (eqU x) a.isList ÕS (.bl _,H,I,rfl,?_);rw[kG]
 ·rw[sQ,r,a,e,hq];refine SeqAt.in_tupleAt (eqU x) a ÕS (.bl _,H,I,rfl,?_);rw[kG]
theorem Zj6:YS X ÆZ (λxs H Q=>X2 λp ys=>xs=À6/\#[iC,X.K,ys]/\Q (.int į) H):=by
 rw[cu];obtain p|ys|rfl|hq|q:=h;rw[fu,d];have hn:=UJ;rcases hq with hq|hq
 ·rw[gn,a,b,e,hq];have c:=ķ;exact Calls.call_len_list b.isList Ég (.int į,H,ř _,ÕT,q)
 ·rw[sQ,a,b,e,hq];have c:=ķ;exact len_tuple b Ég (.int į,H,ř _,ÕT,q)
theorem Wy:YS X ÆZ (λxs H Q=>∃z,xs=[.str z]/\Ć<=aq/\Q (.int Ć) H):=by intro aj s σ H xs us Q I r h;obtain z|rfl|hz|q:=h;obtain u|rfl|t|rfl:=Xy r;have hn:=UJ;exact len_str Á (.int Ć,H,ř _,ā,q)
theorem ZjS:YS X Éh (λxs H Q=>X2 λp ys=>xs=À6/\#[iC,X.K,ys]/\∀l,H l=ah->Q Ŋ #[um,l]):=by
 rw[iB,v,w,xs];obtain p|ys|rfl|hq|q:=h;rw[fu,x];have f:∀ (its:À ae),ZF ys its->į<=aq->∀ (a:aJ) (c:Nat),#[fw,t,í,a.get?] ->
   a.get? Ò=aa { cls:=ŗ,ρ:=ah,Ó:=.seq Ĕ c,ÁM:=#[] }->EP X v w Q År { s with Õ:=a }:=λits d g a c i e =>
  (.ref Ò,_,Àv (t':=ļ) i ò (show Y1 ü X.w _ a _ ÁV from(g,its,c,d,e)),rfl,q _ ÁT)
 rcases hq with hq|hq
 ·rw[gn,d,j,g,hq];have y:=Àz;obtain o|k|m|n|hd:=j.isList;exact call_list_seq p Đ k m hd ÕU Ég
 ·rw[sQ,d,j,g,hq];have y:=Àz;obtain o|k|m|n|hd:=j;exact call_list_seq p ÁW k m hd ÕU Ég
theorem ZiO:YS X (.type "tuple") (λxs H Q=>X2 λp ys=>xs=À6/\((SqL X.K H p ys/\∀l,H l=ah->Q Ŋ (upd H l (.tup ys)))\/(SqT X.K H p ys/\Q Ś H))):=by
 rw[iB,g,i,xs];obtain p|ys|rfl|h:=h;rw[fu,m];rcases h with⟨c,q⟩|⟨c,q⟩
 ·rw[gn,d,f,j,c];have bx:=Àz;refine call_tuple_list f.isList (λa n=>?_) Ég;have k:#[fQ,g,i,H,s,a]:=Âp (t':=ļ) n;have t:Inv X g i (upd H a.objs.size (.tup ys)) { s with Õ:=a.push { cls:=.type "tuple",Ó:=.seq Ĕ } } :=
   k.laid (t':=ļ) #[hX,b,o,e] ò (show Y1 ü X.w _ _ _ (.tup ys) from(j,its,d,Ðn _ _))
  exact(.ref a.objs.size,_,t,rfl,q _ (k.hok.fresh ò))
 ·rw[sQ,d,f,j,c];exact call_tuple_same f (.ref p,H,I,rfl,q)
def tyV(K:Ä)(T:ł)(x:V)(H:Hp):Prop:=match x with
 | .str _=>T = "str"
 | .int _=>T = "int"
 | .ref p=>(T = "list"/\∃b,SqL K H p b)\/(T = "tuple"/\∃o,Ā p=aa o/\Ã1=.type "tuple"/\o.dict=ah) \/
   (T = "dict"/\((∃a,H p=aa (.dK a))\/∃a,H p=aa (.dT a)))\/(T = "set"/\X2 λS n=>H p=aa (.set S n))
 | _=>ĝ
theorem Ld{h:ĕ}{j:St}{H:Hp}{s:ak}{T:ł}{x:V}{v:ae}(I:Inv X h j H s)(r:ZI x v)(ty:tyV X.K T x H) :
  ÆV v T/\∀a,v=.ref a->∃ob,í a=aa ob/\ob.dict=ah:=by
 cases x with
 | str z=>obtain t|rfl:=r;cases (show T = "str" from ty);exact(Ìf s z t,λ_ e=>nomatch e)
 | int i=>obtain t|rfl:=r;cases (show T = "int" from ty);exact(Ðu s i t,λ_ e=>nomatch e)
 | ref p =>
  cases r;rcases ty with⟨rfl,xs,k⟩|⟨rfl,o,b,l,hd⟩|⟨rfl,b⟩|⟨rfl,S,n,b⟩
  ·obtain its|_|g|_:=Âm k;rw[s6,g.isList.typeIs,a,e];cases e;obtain o|n|e|c|hd|_:=g;exact(o,e,hd)
  ·refine((o,ĵ p o b,l),λa e=>?_);cases e;exact(o,ĵ _ o b,hd)
  ·have z:∃o,í p=aa o/\o.ExactDict:=by
    rcases b with⟨d,b⟩|⟨d,b⟩
    ·rw[lU]
    ·rw[lU]
   rw[ja,o,e,ex,z];rw[ls]
  ·obtain o|_|_|_|e|ex|_:=é p _ b;rw[ls]
 | _=>exact Â2 ty
def Zxo(K:Ä)(T:ł)(r:Éc)(to:TE):TE:=λb H Q=>to b H λx a=>tyV K T x a/\r x [] a Q
def tBM(K:Ä)(T:ł)(r:Éc)(to:TE)(t:TA):TE:=λa H Q=>to a H λx b=>tyV K T x b/\t a b λxs c=>r x xs c Q
variable {o e:aL} {es:À aL} {to:TE} {t:TA} {name:am} {bz br:Pos} {T id:ł} {r:V->À V->Hp->VK->Prop}
theorem ZuC(e:Ðv T)(slot:Ðw)(f:Ðx)(hm:MtR X id r)(g:ÆD)
  (i:Ðy:=by rfl) (j:Éi=true:=by rfl):PE X (.Call (.Attribute o name bz) [] [] br) (Zxo X.K T r to):=by
 rw[fA,a,b,Q];refine ed i j #[eX,g,a,b];rintro v k ⟨x,l,c,d,ty,m⟩;obtain n|p:=Ld c d ty;exact(T,id,e,slot,f,n,p,Ìg rfl (ÕV (hm a k b l x [] v [] Q c d .nil m)))
theorem Lc(g:Ðv T)(slot:Ðw)(i:Ðx)(hm:MtR X id r)(j:ÆD)(ha:ξ)
  (k:Ðy:=by rfl)
  (l:((bj br ÆR).all Ìh&&#[jO].all Ìi
   && decide ÕW)=true:=by rfl)
  (m:Éi=true:=by rfl) (n:Ρ:=by rfl) (p:Éj:=by rfl) :
  PE X ÕX (tBM X.K T r to t):=by
 rw[fA,a,b,Q];refine wpAny_Call_method_late k l m rfl #[eX,j,a,b];rintro v q ⟨x,u,c,d,ty,w⟩;obtain y|z:=Ld c d ty;refine(T,id,g,slot,i,y,z,?_);have f:=ha br a q b u _ c w;rw[n]at f ⊢;refine Ìg (by show (false||(bj br (aG es Ì)).any ċ)=false;rw[p]<;>rfl) (ÕY ?_);exact thn f λA B ⟨C,D,E,F,G⟩=>hm a B b D x C v A Q E d F G
universe E
def MtM(X:Cx)(id:ł)(r:Éc):Prop :=
 ∀ (a:À (af×aN)) (s:ak) (b:St) (H:Hp) (x:V) (c:À V) (v:ae) (d:À ae) (Q:VK),Inv X a b H s->ZI x v->ZF c d->r x c H Q ->
  ý (Œ #[fO,id] (v::d)) Ã2 ê s
theorem ZF.one:∀ {x:V} {us:À ae},ZF [x] us->∃u,us=[u]/\ZI x u
 | _,_,.cons r .nil=>(_,rfl,r)
theorem ZF.two:∀ {x y:V} {us:À ae},ZF [x,y] us->X2 λu v=>us=[u,v]/\ZI x u/\ZI y v
 | _,_,_,.cons r (.cons q .nil)=>(_,_,rfl,r,q)
theorem ZF.zero:∀ {us:À ae},ZF [] us->us=[]
 | _,.nil=>rfl
theorem ZF.eraseIdx:∀ {xs:À V} {us:À ae} (i:Nat),ZF xs us->ZF (xs.eraseIdx i) (us.eraseIdx i)
 | _,_,_,.nil=>.nil
 | _,_,0,.cons _ t=>t
 | _,_,i+1,.cons r t=>.cons r (ZF.eraseIdx i t)
theorem ZF.reverse{xs:ă}{us:Þ}(h:ZF xs us):ZF xs.reverse us.reverse:=by
 induction h with
 | nil=>exact .nil
 | Ñ r t a=>rw[QaT,QaT];exact Ëe a (.cons r .nil)
theorem ZF.rep{xs:ă}{us:Þ}(h:ZF xs us):∀k:Nat,ZF (Ġ k xs).flatten (Ġ k us).flatten
 | 0=>.nil
 | k+1=>by rw[Qan,Qan,QaU,QaU];exact Ëe h (ZF.rep h k)
theorem Lb(its:Þ):∀ (k:Nat) (a:À ae),
  Ðz (λb c=>b++c) ÅD (Ġ k Ĕ)=(a++(Ġ k its).flatten).toArray
 | 0,a=>by simp
 | k+1,a=>by
  have e:ÅD++Ĕ=(a++its).toArray:=by simp
  have d:(a++its)++(Ġ k its).flatten=a++(Ġ (k+1) its).flatten:=by rw[Qan,QaU,ÕZ]
  rw[<- d,<- Lb its k (a++its),<- e,Qan,Õ0]
section
variable {X:Cx} {aj:À (af×aN)} {σ:St} {H:Hp} {s:ak} {l b:af} {xs ys zs:À V}
theorem Inv.lset{its its':Þ}{n:Nat}{f:ē ae->ē ae}{t':Nat}(I:â)(a:H l=aa Àt)
  (e:#[jj,l,Ĕ]) (hf:f Ĕ=Ðr) (b:ZF ys its') (hz:į<=aq) :
  Inv X aj σ #[um,l] { s with Õ:=Âu l (Ãc f),õ:=t' }:=by
 have q:=PySem.IsL.update e f;rw[hf]at q;refine Â7 (x:=l) (e:=l) (by rw[a];exact trivial) Đ (λb' u c d=>(Qam Í (Ãc f) (Àb c)).trans d) (_,q) ?_;exact(hz,its',_,b,q)
theorem Inv.lnew{its:Þ}{t':Nat}(I:â)(a:ZF ys its)(hz:į<=aq) :
  Inv X aj σ #[um,Ò] { s with Õ:=Àu { cls:=.type "list",Ó:=.seq Ĕ },õ:=t' } :=
 Àv Ék ò (hz,its,0,a,Qs _ rfl)
theorem Inv.fresh(I:â):H Ò=ah:=ÐA
theorem Inv.lstM(I:â)(a:H l=aa Àt):Ö<=aq/\X2 λ(its:À ae) (n:Nat)=>ZF xs its/\Ö=ÆY/\í l=aa { cls:=ŗ,Ó:=.seq Ĕ n }:=by obtain z|its|n|r|e:=é l _ a;exact(z,its,n,r,μ,e)
theorem ZpU{n:Nat}(h:n<=aq):ÐB n=false:=by unfold ÐB;exact ÆX
universe E
section
variable {X:Cx}
inductive RAp (x:V) (vs:ă) (H:Hp) (B:Hp->Prop):Prop where
 | mk (l:af) (xs:À V) (y:V) (a:x=.ref l) (b:vs=[y]) (c:H l=aa (.lst xs)) (d:Ö<aq) (q:B (upd H l (.lst (xs++[y]))))
def Zsj:V->À V->Hp->VK->Prop:=λx vs H Q=>RAp x vs H λa=>Q .non a
theorem WR:MtM X "list.append" Zsj:=by intro aj s σ H x vs v us Q I b c h;obtain l|xs|y|rfl|rfl|a|hz|q:=h;cases b;obtain u|rfl|d:=c.one;obtain z|its|n|r|hl|e:=I.lstM a;refine Ãd F.slot_list_append ÅE F.entry_list_append (F.args_list_append_2 _ _) (PySem.list_append l Ĕ n u #[fH,QA]) (e,?_);refine(.non,_,I.lset (its':=its++[u]) a e Ù (Ë5 (.cons d .nil)) ?_,rfl,q);rw[Qg,QC];lia
def Zrw:V->À V->Hp->VK->Prop:=λx vs H Q=>X2 λl xs=>C4 Él (vs=[]) Ém (Q .non (upd H l (.lst xs.reverse)))
theorem Zm2:MtM X "list.reverse" Zrw:=by intro aj s σ H x vs v us Q I b c h;obtain l|xs|rfl|rfl|a|q:=h;cases b;have d:=c.zero;subst d;obtain z|its|n|r|hl|e:=I.lstM a;refine Ãd F.slot_list_reverse ÅE F.entry_list_reverse (F.args_list_reverse_1 _) (AutoSeq1.list_reverse_list_0 l Ĕ n #[fH,QA]) (e,?_);refine(.non,_,I.lset (its':=its.reverse) a e Ù r.reverse ?_,rfl,q);rw[List.length_reverse];lia
def Zxe:R2:=λx y H Q=>X4 λl b xs zs=>C6 Él (y=.ref b) Ém (H b=aa Ε) (Ö+Ìj<=aq) (∀p,H p=ah->Q Ś (upd H p (.lst (xs++zs))))
theorem Xn:OpR X ËP Zxe:=by
 rw[gK,y,u,c,d];obtain l|b|xs|zs|rfl|rfl|f|g|hz|q:=h;cases c;cases d;rw[tt,n,hl,f];obtain z2|a|n2|i|fB|j:=I.lstM g;refine PySem.P.add_list e j ?_ #[t3,QA,QA];have k:Ĕ++ÅD=(its++a).toArray:=by simp
 rw[k];exact(.ref _,_,I.lnew (t':=ļ) (Ë5 i) #[fH,Qg],rfl,q _ Æ0)
def Zw3:R2:=λx y H Q=>X3 λl k xs=>C7 Él (y=.int k) Ém (-(2 ^ 63)<=k) (k<2 ^ 63) (Ö*ÀA<=aq) (∀p,H p=ah->Q Ś (upd H p (.lst (Ġ ÀA xs).flatten)))
theorem Zs0{α:Type}(xs:À α)(k:Nat):(Ġ k xs).flatten.length=k*Ö:=by
 induction k with
 | zero=>simp
 | succ k a=>rw[Qan,QaU,Qg,a,ÐC,Nat.add_comm]
theorem Zvn:OpR X ÏP Zw3:=by
 rw[gK,y,u,f,g];obtain l|k|xs|rfl|rfl|i|j|o|d|q:=h;cases f;rw[tR,g];rw[tt,n,p,i];have w:Ât*ÀA<=aq:=by rw[QA,<- p];exact d
 have A:¬ Ât*ÀA>(2 ^ 63-1) / 8:=by
  have:(aq:Nat)<=(2 ^ 63-1) / 8:=by decide
  lia
 have B:¬ (!aR.List.listFitsIndex k)=true:=by rw[fitsIndex_both j o];exact Qt
 have C:¬ ÐB (Ât*ÀA)=true:=by rw[ZpU w];exact Qt
 have D:Ðz (λb c=>b++c) #[] (Ġ (if its.toArray.isEmpty=true then 0 else ÀA) Ĕ)=(Ġ ÀA its).flatten.toArray:=by
  have E:∀m:Nat,Ðz (λb c=>b++c) #[] (Ġ m Ĕ)=(Ġ m its).flatten.toArray:=λm=>by have:=Lb its m [];rw[List.nil_append]at this;rw[wr]
  rw[E];cases its with
  | nil=>simp
  | Ñ a r'=>rw[È Ù]
 refine wpAny_binaryOp_repeat_ref (T := "list") (U := "int") Å (_,e,rfl) (λG=>Ðu G k t) noFill_list_mul F.fills_int_mul Õ1 repeat_list F.slot_int_index.lookup
  (Ãd Õ1 (Ðu s k t) F.entry_int_rmul (F.args_int_rmul_2 _ _) (int___rmul___int_list k t l Ĕ n)
   (e,rfl,ÅE,Ãd F.slot_list_mul ÅE F.entry_list_mul (F.args_list_mul_2 _ _) (AutoListH.list___mul___list_int_3 l Ĕ n k t B A C) (e,?_)))
 rw[D];exact(.ref _,_,I.lnew (t':=ļ) (r.rep ÀA) (by rw[Zs0,Nat.mul_comm];exact d),rfl,q _ Æ0)
universe E
universe E.L2
namespace Att
open PySem PySem.W PySem.Calls PyProof.Rows
theorem Zhi{P:Params}{h:aJ}:∀ (ns:À Int) (vs:À ae),WellAll P h vs (ÅF WData.int)->ÆU vs ns:=by
 intro ns;induction ns with
 | nil=>intro vs w;rw[gv,Qa9,w,w];exact .nil
 | Ñ n ns c =>
  intro vs w;rw[Qh]at w;cases w with
  | Ñ a b=>cases a;exact .cons _ _ (c _ b)
theorem Zn7{l:OpenLaw}{n:Nat}(hn:l.most=aa n){P:Params}{h:aJ}{args:À WData}{e:Þ}
  (f:l.row.toRowW.claim.pre args=true) (i:WellAll P h e args) :
  X3 λa vs ns=>e=[å a]/\args=[WData.list (ÅF WData.int)]/\à a=aa { cls:=ŗ,Ó:=.seq π }/\ÆU vs ns/\ď<=n:=by
 have j:WShape.hasAll [] args [.list .int]=true:=(pre_splitW f).1;have g:l.pre.holds [] { args:=args }=true:=(pre_splitW f).2;obtain d|r|rfl|k|m:=hasAllW_cons j;obtain rfl:=hasAllW_nil m;obtain xs|rfl|o:=hasW_list k;obtain ns|rfl:=items_int o;have p:ď<=n:=by
  unfold OpenLaw.pre at g;have b:(WTm.not (.lt (.lit (.int (n:Int))) (.len (.arg 0)))).holds [] { args:=[.list (ÅF .int)] }=true:=by have b:=(holds_andW g).1;rw[hn]at b;exact b
  have c:=condW_of b (w_not (w_lt w_lit (w_len_list (w_arg rfl))));rw[Qa]at c;refine ÐD λq=>?_;have s:(n:Int)<#[fC,ď]:=by lia
  first
   | (rw[û s]at c;exact Î c Å)
   | (simp at c;lia)
 cases i with
 | Ñ t u =>
  cases u;cases t with
  | list v w=>exact(_,_,ns,rfl,rfl,v,Zhi ns _ w,p)
theorem Zoo(l:OpenLaw)(args:À WData):l.row.toRowW.claim.post args Én args=true :=
 postW_of (r:=Ìk) (X:=(true == true))
  (show WShape.has [] Én .bool=true by first|rfl|decide|simp[WShape.has,WShape.arms,WShape.armsAll])
  (show (WTm.eq .res (.lit Én)).value [] { args:=args,res:=aa Én,after:=args }=aa (.bool (true == true)) from w_eq_bool (w_res rfl) w_lit) rfl
theorem attach_call{l:OpenLaw}{n:Nat}{q:aA}{j:Ï}{k:ÐE}{m:aF->aJ->Prop}{d:DefRec}
  (hn:l.most=aa n) (s:ÐF)
  (Œ:∀ (w:aF) (ÀM b:ak) (mg g:am->Ã ae) (fa:af) (o:aN) (h c i:ae) (a:af) (vs:À ae) (ns:À Int),
   Ground q j [] k w ÀM mg g b.heap->m w b.heap ->
   b.heap.get? fa=aa o->ş=.func (docDef Éo d.params d.body d.scope h c i)->b.heap.CodeRec c Éo->mg Éo=aa (.ref fa) ->
   b.heap.get? a=aa { cls:=ŗ,Ó:=.seq π }->ÆU vs ns->ď<=n->b.gens = #[] ->
   bJ (ay l.prog w) ÅG ÐG (λr e=>r=.ok (.ret Én)/\OldK b.heap e.heap/\e.os=b.os/\Â0 e.gens) b) :
  WalkO q j k m Ìk d [] ÐH:=by
 intro w ÀM b mg g G Y fa o h c i t kV u hd v p hmg x args xS as y hlay r6 z kQ;obtain rfl:t=.none:=Dflts.none p s;obtain rfl:kV=.none:=Dflts.noKw p;obtain a|vs|ns|rfl|rfl|A|B|C:=Zn7 hn y z;refine enter_call (Åz (Œ w ÀM b mg g fa o h c i a vs ns G Y u (fd_plain hd) v hmg A B C x) λr e D=>?_);obtain rfl|E|F|H:=D;exact(.inl (.bool true,.bool true,[],rfl,λ_=>rfl,.bool true,Zoo l _,λ_=>(List.Pairwise.nil,λ_ I=>(nomatch I))),E,F,H)
universe E.Att
namespace L2
open PySem PySem.Spec PyProof.Rows
theorem La:∀ {vs:À ae} {ns:À Int},ÆU vs ns->ZF Τ vs
 | _,_,.nil=>.nil
 | _,_,.cons n t h=>.cons Ìl (La h)
def P0(H:Hp):Prop:=∀b,H b=ah\/X2 λo xs=>H b=aa (.frz o Àt)
theorem Zqa{P:aA}{w:aF}{K:Ä}{mg E:Ą}{CX:CXT}{k:Nat}{fa a:af}{J:bC}{x:am}{sp:Sp}{c:ak}{vs:Þ}{ns:Ô}
  (KX:ų Ép) (L:ÐI aM mg) (hb:ÐI Ïo E) (T:∀x:am,x ≠ "__name__"->E x=cx x) (i:c.heap.NoLimit) (U:c.gens = #[])
  (ha:ÐJ a=aa { cls:=ŗ,Ó:=.seq π }) (M:ÆU vs ns) (hl:ËV) (hr:Zt k ÅG)
  (F:∀f:aJ,ų f->f.Ns aM mg->YN P w K mg f CX k fa J [x] sp) (W:∀ (s:ak) (u:ae),ÆM s J ([u],[]) [(x,u,)])
  (X:∀H:Hp,P0 H->SqL K H a Τ->sp Ár H (λv _=>v=.bl true) λ_ _ _=>ĝ)
  (Y:∀H e g,CX [] H c Ìm e g->ĝ) :
  bJ Ã4 ÅG ÐG Õ2 c:=by
 have N:=La M;have j:=Àe;have core:∀H:Hp,P0 H->SqL K H a Τ->HOk P w H Ép->(∀b,H b≠ah->b=a)->(H a≠ah->Ā a=ah) ->
   bJ Ã4 ÅG ÐG Õ2 c:=by
  intro H O Z l Q hK;have R:∀ {b:af} {o:aN},ÐJ b=aa o->H b=ah->(ÐL).get? b=aa o:=λe n=>ZpQ e n;have xP:∀ {b:af} {o:aN} {p:ē ÐK} {t:Nat},ÐJ b=aa o->ş=.dict p t->H b=ah:=λ{b o p t} e d=>by
   cases q:H b with
   | none=>rfl
   | some u=>have G:b=a:=Q b #[tF,q];rw[iA,G,ha,e];have d':Data.seq π _=Data.dict p t:=d;cases d'
  have D:∀ {b:af} {m:am->Ã ae},ÐI b m->(ÐL).Ns b m:=λ{b m} ⟨o,p,t,e,d,r⟩=>(o,p,t,R e (xP e d),d,r);have y:ų ÐL:=λb o e=>R (KX b o e) (by
   cases q:H b with
   | none=>rfl
   | some u=>have G:b=a:=Q b #[tF,q];subst G;rw[hK #[tF,q]]at e;cases e)
  have hM:Mod K mg ÐL:=(y,D L,(E,D hb,T),let ⟨mc,h1,h2⟩:=i;(mc,D h1,h2));have e0:Vk P w K mg ÐL ÅG [] c H:=(rfl,hM,λb o e=>ZsD e,È2 (Zoj _ _),trivial,λb hb=>Î #[s7,hb] Ù,l,.of_eq U);refine Åz ((F _ y (D L)).run ÅG [] c H ([.ref a],[]) Ár Ár _ _ hr e0 (W c ą) Ðf (X H O Z)) λr g h=>?_;cases r with
  | error e=>exact(Y H e g h).elim
  | ok fl =>
   cases fl with
   | next=>exact Â2 h
   | brk=>exact Â2 h
   | Γ=>exact Â2 h
   | ret u =>
    obtain v|H'|os|A|un|B|r'|q:=h;have q':v=.bl true:=q;subst q';obtain rfl:u=Æt true:=r';refine(rfl,OldK.of_keep λb o e=>?_,os,A);cases q:H b with
    | none=>exact un.keep b o e q (by intro z;exact Î #[s7,z] Ù) Ù
    | some u =>
     rcases O b with z|⟨ob,xs,z⟩
     ·rw[gv,q,z,z]
     ·have z2:=un.frzs b ob _ z;obtain S|_:=l b _ z;obtain e2|_:=B b _ z2;rw[gv,e,S,S];exact e2
 cases I:Ā a with
 | some o=>have e:=KX a o I;rw[gv,ha,e,e];refine core (λ_=>ah) (λ_=>.inl rfl) (.inr (_,π,_,I,rfl,rfl,rfl,by rw[QA,j];exact hl,by simpa using N)) (λb u z=>by have C:(ah:Ã HO)=aa u:=z;cases C) (λb z=>Î rfl z) λz=>Î rfl z
 | none =>
  refine core (λb=>if b=a then aa (.frz { cls:=ŗ,Ó:=.seq π } (.lst Τ)) else ah) (λb=>?_) (.inl (.inr ({ cls:=ŗ,Ó:=.seq π },Æ rfl))) #[io,b,u,z] (λb z=>?_) λ_=>I
  ·by_cases hb:b=a
   ·exact .inr (_,_,Æ hb)
   ·exact .inl (È hb)
  ·by_cases hb:b=a
   ·have C:=(Æ hb).symm.trans z;cases C;subst hb;exact(ha,by rw[Qa];exact hl,vs,_,N,ha)
   ·have C:=(È hb).symm.trans z;cases C
  ·by_cases hb:b=a
   ·exact hb
   ·exact Î (È hb) z
theorem walk_of{l:ÐM}{n k:Nat}{q:aA}{i:Ï}{j:ÐE}{c:aF->aJ->Prop}{d:DefRec}{K:Params->Ä}{CX:aF->CXT}{sp:aF->Sp}{x:am}
  (hn:l.most=aa n) (m:n<=aq) (p:ÐF) (hr:Zt k ÅG)
  (r:∀ (w:aF) (h:aJ),c w h->(Éq).In h)
  (F:∀ (w:aF) (mg:am->Ã ae) (fa:af) (h:aJ),(Éq).In h->h.Ns aM mg->mg Éo=aa (.ref fa) ->
   ∃b:bC,#[ip,u,b,x] /\
    ∀Â:aJ,(Éq).In Â->ÈC aM mg->YN l.prog w Éq mg Â (CX w) k fa b [x] (sp w))
  (t:∀ (w:aF) (H:Hp) (a:af) (ns:À Int),ď<=n->P0 H->SqL Éq H a Τ->sp w Ár H (λv _=>v=.bl true) λ_ _ _=>ĝ)
  (y:∀ (w:aF) (H:Hp) (s:ak) (e:ae) (s':ak),CX w [] H s Ìm e s'->ĝ) :
  PySem.W.WalkO q i j c Ìk d [] ÐH:=by
 refine Att.attach_call hn p λw ÀM z mg mb fa o pm cd fX a vs ns G Y ho hd gZ hmg A B g C=>?_;have KX:=r w _ Y;obtain b|D|E:=F w mg fa _ KX G.T.g hmg;exact Zqa KX G.T.g G.T.b G.T.builtins G.T.nolimit C A B (Qj g m) hr E D (λH I J=>t w H a ns g I J) λH e s'=>y w H z e s'
def Z9(s:aK)(j:Nat):aK:=match s with
 | .ClassDef _ _ _ a _ _ _ _ _ _ _=>Ér j (.Pass (0,0,0,0))
 | _=>.Pass (0,0,0,0)
def Wk(s:aK):Arguments:=match s with
 | .FunctionDef _ a _ _ _ _ _ _ _ _=>a
 | _=>{ posonlyargs:=[],args:=[],vararg:=ah,kwonlyargs:=[],kw_defaults:=[],kwarg:=ah,defaults:=[] }
def XI(s:aK):À aK:=match s with
 | .FunctionDef _ _ b _ _ _ _ _ _ _=>b
 | _=>[]
def Zi(s:aK):bn:=match s with
 | .FunctionDef _ _ _ _ _ _ a _ _ _=>a
 | _=>{ kind:=.function,ÁX:=[],isGenerator:=false,isCoroutine:=false }
abbrev CX0:CXT:=λ_ _ _ _ _ _=>ĝ
abbrev E0:XK:=λ_ _ _=>ĝ
theorem UF{X:Cx}:VL CX0 X E0:=λ_ _ _ _ _ _ _ h=>Àf
structure Fun (K:Ä) (x bb:am) (st:aK) (f:af) (fd:bC):Prop where
 ex:X9 λ(oc:ae) (od:Ã af) (kV fX pm:ae) (an:Ã af) (aP ct:ae) (pf:ē (Ã ae)) =>
  fd=ÅH x bb (Wk st) Âx (Zi st) .none kV fX pm an aP ct/\Ā f=aa (oc,od,.func fd,pf)/\Éb K aP bb=true
 kp:Áq K Ĉ=true
section
variable {P:aA} {w:aF} {K:Ä} {mg:am->Ã ae} {Â:aJ}
theorem Fun.ok{x b:am}{st:aK}{f:af}{c:bC}{N ps:Ï}{k:Nat}{sp:Sp}(F:Fun K x b st f c)(S:Äi)(len:Ãb)
  (d:∀ (a:ae) (A:aE) (Ü:À Env) (s:ak) (H:Hp) (vs:À V) (Q:VK) (E:XK),Zt k #[gb,b]->sp vs H Q E ->
   ∃t,PSs (Xp CX0 P w K mg Â N b (Zi st) f a A Ü s H E).nox Âx t/\t { nx:=#[iW,e],rt:=Q } Áu H):YN P w K mg Â CX0 (k+1) f c ps sp:=by
 rw[Ah,fX,pm,an,a,g];refine Lk lk g S len λA Ü s H vs Q E i j=>?_;obtain t|h|q:=d a A Ü s H vs Q E i j;exact(t,h.nox,q)
theorem Fun.binds{x e:am}{st:aK}{f:af}{g:bC}{ps:Ï}(F:Fun K x e st f g)
  (h:#[eW,a,c,d,e]):Ys K g ps []:=by
 rw[Ah,a,b,c,d,gZ];exact .all (h kV a b c d ct)
theorem Wx{x a:am}{st:aK}{f:af}{h:ae}{od d:ú}{i:ġ}{kV e g b ct:ae}(l:Ā f=aa (h,od,.func #[ii,a,e,g,d,b],i))
  (c:Éb K b a=true) (k:#[tO,K]):Fun K x a st f #[ii,a,e,g,d,b]:=((h,od,kV,e,g,d,b,ct,i,rfl,l,c),k)
universe E
theorem T2{A:aE}{k:Nat}(hr:Zt k A):Àx+1<Ás:=Qax (Nat.add_le_add_left (by decide:1<=64) _) Æ1
theorem ZD{n:Nat}(h:n<=1000):n<aq:=Qax h Å
section
variable {X:Cx}
theorem pv(i:Nat){x:am}{pos:Pos}(a:Âl:=by rfl)(b:#[i3,Vis]:=by first|exact Or.inl rfl|exact Or.inr á|exact Or.inr És)(hd:Ĵ:=by decide)
  (c:ËE:=by decide):PE X ÀQ (Vq i):=Rs a b hd c
universe E
theorem Y7{A B:Prop}(h:B):if false=true then A else B:=by rw[È Qt];exact h
theorem Y3{A B:Prop}(h:A):if true=true then A else B:=by rw[Æ rfl];exact h
theorem Z5{c A B:Prop}[Æ2 c](h1:c->A)(h2:¬ c->B):if c then A else B:=by
 by_cases h:c
 ·rw[Æ h];exact h1 h
 ·rw[ti,h];exact h2 h
theorem K9{c A B:Prop}[Æ2 c](hc:c)(h:B):if (!decide c)=true then A else B:=by rw[û hc];exact Y7 h
def Zu(H a:Hp):Prop:=#[iP,H,a]
theorem Ãe(H:Hp):Zu H H:=λ_ _ h=>h
theorem Zu.trans{H d e:Hp}(a:Zu H d)(b:Zu d e):Zu H e:=λc o h=>b c o (a c o h)
theorem Zu.free{H a:Hp}(e:Zu H a){l:af}(h:a l=Option.none):H l=Option.none:=by
 cases q:H l with
 | none=>rfl
 | some o=>rw[e l o q]at h;cases h
theorem Zu.seq{K:Ä}{H b:Hp}{a:af}{xs:ă}(e:Zu H b)(h:SqL K H a xs):SqL K b a xs:=by
 rcases h with(h|⟨o,h⟩)|h
 ·exact .inl (.inl (e _ _ h))
 ·exact .inl (.inr (o,e _ _ h))
 ·exact .inr h
def Y5(b:#[hG,af]):À (am×aY)->À (am×af)->À (am×af)
 | [],a=>a
 | (n,k,)::r,a=>if k == .free then Y5 b r ((n,(b.lookup n).getD 0,)::a) else Y5 b r a
theorem K8{d:bn}{env:Env}(h:∀y∈Ét,y.2=.free->∃c,Ïp y.1=aa c) :
  ÐN d env=pure (Y5 ÅI Ét []):=by
 have go:∀ (a:À (am×aY)) (b:À (am×af)),(∀y∈a,y.2=.free->∃c,Ïp y.1=aa c) ->
   (forIn a b λ(x:am×aY) (r:À (am×af))=>if (x.2 == Äj)=true then (do let c <- cellOf env x.1;pure (Ìn ((x.1,c,)::r))) else pure (Ìn r):Sem (À (am×af)))=pure (Y5 ÅI a b):=by
  intro a;induction a with
  | nil=>intro b _;rfl
  | Ñ y r j =>
   intro b f;rw[e2,n,k,y];rw[Õ3];cases e:(k == Äj) with
   | false =>
    have g:Y5 ÅI ((n,k,)::r) b=Y5 ÅI r b:=by show (if Ãf=true then _ else _)=_;rw[e];rfl
    rw[g,<- j b λz i=>f z (Qw _ i)];simp only[e,Äk,Âw,pure_bind]
   | true =>
    have m:k=.free:=by simpa using e
    obtain c|l:=f (n,k,) QaH m;have g:Y5 ÅI ((n,k,)::r) b=Y5 ÅI r ((n,c,)::b):=by show (if Ãf=true then _ else _)=_;rw[e,l];rfl
    have o:cellOf env n=pure c:=by unfold cellOf;rw[l]
    rw[g,<- j ((n,c,)::b) λz i=>f z (Qw _ i)];simp only[e,Âv,o,pure_bind]
 have q:=go Ét [] h;unfold ÐN;first
  | (rw[show (forIn Ét ([]:À (am×af)) _:Sem (À (am×af)))=pure (Y5 ÅI Ét []) from q];rfl)
  | (simp only[bind_pure];exact q)
  | exact q
theorem PZ(a:#[hG,af]):∀ (ÁX:À (am×aY)) (b:À (am×af)) (x:am) (c:af),(Y5 a ÁX b).lookup x=aa c ->
  (∃y∈ÁX,y.1=x/\y.2=.free/\c=(a.lookup x).getD 0)\/b.lookup x=aa c
 | [],b,x,c,h=>.inr h
 | (n,k,)::r,b,x,c,h=>by
  by_cases hk:Ãf=true
  ·have e:Õ4:=by show (if Ãf=true then _ else _)=_;rw[Æ hk]
   rw[e]at h;rcases PZ a r _ x c h with⟨y,d,q⟩|q
   ·exact .inl (y,Qw _ d,q)
   ·rw[QaF]at q;by_cases f:(x == n)=true
    ·rw[f]at q;have g:x=n:=by simpa using f
     subst g;exact .inl ((x,k,),QaH,rfl,by simpa using hk,(Qv q).symm)
    ·have g:ÐO:=by simpa using f
     rw[g]at q;exact .inr q
  ·have e:Õ5:=by show (if Ãf=true then _ else _)=_;rw[ti,hk]
   rw[e]at h;rcases PZ a r _ x c h with⟨y,d,q⟩|q
   ·exact .inl (y,Qw _ d,q)
   ·exact .inr q
theorem PY(a:#[hG,af]):∀ (ÁX:À (am×aY)) (b:À (am×af)) (x:am),((∃y∈ÁX,y.1=x/\y.2=.free)\/∃c,b.lookup x=aa c) ->
  ∃c,(Y5 a ÁX b).lookup x=aa c
 | [],b,x,h=>by
  rcases h with⟨y,hy,_⟩|h
  ·cases hy
  ·exact h
 | (n,k,)::r,b,x,h=>by
  by_cases hk:Ãf=true
  ·have e:Õ4:=by show (if Ãf=true then _ else _)=_;rw[Æ hk]
   rw[e];refine PY a r _ x ?_;by_cases d:(x == n)=true
   ·exact .inr (_,by rw[QaF,d])
   ·have f:ÐO:=by simpa using d
    rcases h with⟨y,hy,q⟩|⟨c,q⟩
    ·rcases î hy with rfl|hy
     ·exact Î #[eE,q.1.symm] d
     ·exact .inl (y,hy,q)
    ·exact .inr (c,by rw[QaF,f];exact q)
  ·have e:Õ5:=by show (if Ãf=true then _ else _)=_;rw[ti,hk]
   rw[e];refine PY a r _ x ?_;rcases h with⟨y,hy,q⟩|h
   ·rcases î hy with rfl|hy
    ·exact Î #[eE,q.2] hk
    ·exact .inl (y,hy,q)
   ·exact .inr h
structure Z1 (N N':Ï) (o c:bn):Prop where
 kind:c.kind=.function
 okind:o.kind=.function
 nocell:∀y∈Ây,y.2≠.cell
 loc:∀y∈Ây,y.2=.local->ũ y.1=aa .local
 Ų:∀y∈Ây,y.2=.free->ũ y.1=aa .free/\Õ6
 len:ĩ<=Ìo
 same:∀i∈À7 ĩ,∀x∈N'[i]?,ũ x=aa .local\/ũ x=aa .free->ũ x=aa .free/\N[i]? = aa x
 nd:N'.Nodup
def YH(X:Cx)(c:bn)(a:Ï)(C:af)(s:ak)(H:Hp)(fp:Š):Cx :=
 { X with N:=a,ÀM:=s,H₀:=H,env:=bL c (Y5 ÐP Ây []) C Ì,Ü:=ŵ,stack:=ŵ,ex:=fp,fn:=λ_=>false,pn:=[],xe:=λ_ _=>ĝ }
theorem K7{env:Env}(hf:ÐQ=.function):∀ (ÁX:À (am×aY)) (x:am),
  (names.map λ(p:am×aY)=>if (p.2 == Äj&&ÐQ == .function&&Æv p.1 == aa .cell)=true then (p.1,Ìp,) else (p.1,p.2,)).lookup x =
   match names.lookup x with
   | some .free=>if Æv x=aa .cell then aa .cell else aa .free
   | k=>k
 | [],x=>rfl
 | (n,k,)::r,x=>by
  have ih:=K7 hf r x;rw[Qh];by_cases e:(x == n)=true
  ·have a:x=n:=by simpa using e
   subst a;have c:À5 x ((x,k,)::r)=aa k:=by rw[QaF];simp
   rw[c];by_cases d:k=.free
   ·subst d;by_cases b:Æv x=aa .cell
    ·simp[Ær,hf,b]
    ·simp[Ær,hf,b]
   ·have f:Ãf=false:=by simpa using d
    rw[f];simp only[ËJ,Äk,Âw,Ær,ÐR];all_goals (cases k<;>first|rfl|exact #[t2,d])
  ·have a:ÐO:=by simpa using e
   have c:À5 x ((n,k,)::r)=À5 x r:=by rw[QaF,a]
   rw[c,<- ih];by_cases b:(k == Äj&&ÐQ == .function&&Æv n == aa .cell)=true
   ·simp only[b,Âv,Ær,a]
   ·simp only[b,Âw,Ær,a,Äk]
section
variable {X:Cx} {N N':À am} {o c:bn}
theorem T1(S:Àg)(a:Àh)(b:#[hG,af])(C:af)(x:am):(bL c b C Ì).kindOf x =
  match ũ x with
  | some .free=>if Ák x=aa .cell then aa .cell else aa .free
  | k=>k:=K7 (env:=Ì) #[eH,a,S.okind] Ây x
theorem SY{ÁX:#[hG,aY]}{x:am}{k:aY}(h:names.lookup x=aa k):(x,k,)∈ÁX:=Qas h
theorem UE(S:Àg)(g:Àh)(ok:X.Ok){x:am}{a:af}(h:(Äl).lookup x=aa a) :
  ζ x=aa a/\ũ x=aa .free:=by
 rcases PZ _ _ _ _ _ h with⟨y,i,rfl,j,e⟩|q
 ·have d:=S.free y i j;have k:#[tE,Ák,y.1]:=by show Âz y.1=_\/Âz y.1=_;rw[g];exact d.2
  obtain b|f:=ok.has y.1 k;rw[f]at e;exact(by rw[f,e];rfl,d.1)
 ·cases q
theorem K6(S:Àg)(d:Àh)(ok:X.Ok){x:am}(h:ÐS):∃a,(Äl).lookup x=aa a/\ζ x=aa a:=by obtain a|b:=PY ÐP Ây [] x (.inl ((x,.free,),SY h,rfl,rfl));exact(a,b,(UE S d ok b).1)
theorem ZsX(S:Àg)(f:Àh){j:ĕ}{m:St}{H:Hp}{s:ak}{fp:Š}(I:Inv X j m H s)
  (hf:#[sV,j,H]) (ht:Õ7):(ÜQ).Ok where
 mod:=Ëp
 kind:=ÆT
 glob:=ÐT
 blt:=I.ok.blt
 above:=Qd _
 inj:=λx y a n p=>I.ok.inj x y a (UE S f Ŷ n).1 (UE S f Ŷ p).1
 has:=λx r=>by
  have e:=#[uo,f,Ò];have g:#[97].kindOf x=aa .cell\/#[97].kindOf x=aa .free:=r;rw[e]at g;cases q:ũ x with
  | none=>rw[q]at g;rcases g with z|z<;>cases z
  | some k =>
   by_cases l:k=.free
   ·subst l;obtain a|t|_:=K6 S f Ŷ q;exact(a,t)
   ·rw[q]at g;have u:k=.cell:=by cases k<;>first|rfl|exact #[t2,l]|(rcases g with z|z<;>cases z)
    subst u;exact Õ8
 cab:=λx a h=>by cases (show false=true from h)
 hd:=ÁP
 frames:=Éu
 stk:=ÀP
 exf:=λb d=>(QG (ht b d),λx a h=>(hf b d).2.2.2.2.1 x a (UE S f Ŷ h).1)
 bs:=λb i e=>I.bs b i e
 bsz:=Qj ÈI I.sz
 noex:=λb i e d=>by
  rcases(hf b d).2.2.2.1 with z|z
  ·exact Æx b i e z
  ·exact ÐU
 exfs:=λb d v=>by
  rcases î (I.stkSub b v) with z|z
  ·exact#[zk].2.1 z
  ·exact#[zk].2.2.1 z
 funs:=I.stack
 frf:=Ðe
theorem K5(S:Àg)(t:X.N=N)(g:Àh){C:ĕ}{f:St}{H:Hp}{s:ak}{fp:Š}{w:aJ}{tk:Nat}{D:Ą}(I:Inv X C f H s)
  (hf:#[sV,C,H]) (ht:Õ7) (F:w.Ns Ò D) (hk:#[e8,b,ob,í,ob,w.get?]) :
  Inv ÜQ [] #[sS,f,ÅJ] H { s with Õ:=w,õ:=tk } where
 ok:=ZsX S g I hf ht
 os:=rfl
 bare:=ŷ
 Â:=ÈA hk
 loc:=by
  refine(D,F,λi x v G j J=>?_);rw[ja,m,hn,K,Ř];have L:ÁY=ĩ:=by rw[Β,t]
  have y:i<ÁY:=by
   by_cases y:i<ÁY
   ·exact y
   ·rw[QW Á,ÕB]at j;split at j<;>cases j
  have M:f[i]? = aa (aa v):=by rw[QX y]at j;exact j
  have E:=#[uo,g,Ò];have O:ũ x=aa .local\/ũ x=aa .free:=by
   have n:#[97].kindOf x=aa .local\/#[97].kindOf x=aa .cell\/#[97].kindOf x=aa .free:=J;rw[E]at n;cases q:ũ x with
   | none=>rw[q]at n;rcases n with z|z|z<;>cases z
   | some k =>
    cases k with
    | «local»=>exact ÀP
    | Ų=>exact À3
    | cell=>exact Õ8
    | _=>rw[q]at n;rcases n with z|z|z<;>cases z
  obtain A|B:=S.same i (Ëk Á) x (by rw[show N'[i]? = aa x from G];rfl) O;have hok:#[tE,Ák,x]:=by show Âz x=_\/Âz x=_;rw[g];exact(S.free _ (SY A) rfl).2
  obtain u|r|l:=K i x v #[eH,t,B] M (.inr hok);refine(u,r,.inr (?_,?_))
  ·show (bL c Äl Ò Ì).kindOf x=aa .cell\/#[97].kindOf x=aa .free;rw[E,A];show (if Ák x=aa .cell then aa Ìp else aa Äj)=aa .cell\/(if Ák x=aa .cell then aa Ìp else aa Äj)=aa .free;by_cases q:Ák x=aa .cell
   ·rw[Æ q];exact ÀP
   ·rw[ti,q];exact À3
  ·obtain a|P|Q:=K6 S g Ŷ A;rw[ud,a,P];rcases l with⟨z,_⟩|⟨_,a',e,ob,R,hd⟩
   ·rcases hok with q|q<;>rw[q]at z<;>cases z
   ·rw[gv,Q,e,e];exact(ob,hk _ _ R,hd)
 cell:=λx a h=>by obtain v|ob|e|d:=Ν x a (UE S g Ŷ h).1;exact(v,ob,hk _ _ e,d)
 Ų:=ÐA
 freeC:=λx a h=>η x a (UE S g Ŷ h).1
 pin:=λp T=>Î (show p∈Ìa from T) Ù
 hok:=I.hok.kept hk
 len:=by
  have L:ÁY=ĩ:=by rw[Β,t]
  have:=S.len;show (f++Ġ ÅJ ah).length=Ìo;rw[Qg,QaO];lia
universe E
abbrev PX(a:ĭ)(env:Env):Sem Ê :=
 forIn a true λk r=>if r=true then do let ok <- isTrue k env (Ċ k env);pure (Ìn ok) else pure (Ìn r)
def PTs(X:Cx)(c:ĭ)(t:TT):Prop :=
 ∀ (b:À (af×aN)) (s:ak) (a:St) (H:Hp) (Q:Ê->Hp->Prop),Inv X b a H s->t a H Q->ý (PX c Ì) (TP X b a Q) ê s
def Ww:TT:=λ_ H Q=>Q true H
theorem XH{X:Cx}:PTs X [] Ww:=λ_ _ _ H _ I h=>wpAny_tests_nil (H,I,h)
section
variable {è:aA} {w:aF} {A:aE} {R:È5->ak->Prop} {s:ak}
theorem Zkq{c b Ķ:aL}{d:ĭ}{k:bn}{pos:Pos}{it f:ae}{env:Env}{E:ñ}(I:#[hK,Nat])
  (B:∀e s',E e s'->ĝ)
  (turn:∀n s,I n s->av Ð A (Ã5 it) (λr g=>match r with
   | none=>R Æ3 g
   | some v=>av Ð A (dN b it v) (λ_ ÀM=>av Ð A (Âo b env v) (λ_ l =>
     av Ð A (PX d env) (λok i =>
      if ok=true then av Ð A (Ċ c env) (λx o =>
       av Ð A (Œ #[fO,"list.append"] [f,x]) (λ_ p=>∃m,m<n/\I m p) E o) E i
      else ∃m,m<n/\I m i) E l) E ÀM) E g) E s)
  (n:Nat) (h:I n s):bJ Ð A (.compLoop #[hA,c,b,d,k] 0 it f env) R s:=by
 have go:∀ {j:Type} {t:Sem j} {Q:j->ak->Prop} {s:ak},av Ð A t Q E s->av Ð A t Q Õ9 s :=
  λ{j t Q s} q=>aS q Év λe s' z=>(B e s' z).elim
 refine codeAny_loop rfl I #[io,n,s,C] n h;show av _ A ((compTurn #[hA,c,b,d,k] 0 it f env).onRaise (λx=>do Æ4 x env;Öa x)) _ _ s;refine wpAny_noted ?_;rw[compTurn_list];refine ai (bK (ai (thn (go (turn n s C)) λr g u=>?_)));cases r with
 | none=>exact aw u
 | some v =>
  refine ai (thn (go u) λ_ ÀM a=>ai (thn (go a) λ_ l D=>ai (thn (go D) λok i y=>?_)));cases ok with
  | false=>exact aw (rfl,y)
  | true=>exact ai (ai (thn (go y) λx o F=>ai (thn (go F) λ_ p G=>aw (aw (rfl,G)))))
universe E
def V0(J:It)(D:af)(k:Nat)(q:St)(r:Hp)(g:TG)(s:TT)(t:TE)(Q:VK):Prop :=
 ∃W:Nat->Nat->À V->St->Hp->Prop,(∃m,W 0 m [] #[sS,q,k] (upd r D ÀB)) /\
  ∀i m a e c,W i m a e c->Öb \/
   (J.go i c/\∃N:À V->St->Hp->Prop,Öc/\∀x n,J.yld i c x n->g x e n λd u=>s d u λb o =>
    if b=true then t d o λy p=>p D=aa (.lst a)/\ķ<aq/\N (a++[y]) d #[gR,p,a,y] else N a d o)
def PV(n:Nat)(c:TI)(g:TG)(d:TT)(e:TE):TE:=λa H Q=>c a H λJ b=>∀D,b D=ah->V0 J D n a b g d e Q
section
variable {X:Cx} {N N':À am} {o c:bn}
theorem K4{jr tg Ķ:aL}{dO:ĭ}{pos cZ:Pos}{wi:TI}{g:TG}{tc:TT}{te:TE}{use:Ã (ae->Sem Unit)}{QQ:ñ}(S:Àg)(hN:X.N=N)(ho:Àh)(hc:Ÿ)
  (hi:PI X tg Ķ wi) (hg:#[fz,PG,tg,g]) (ht:#[fz,PTs,dO,tc]) (he:#[fz,PE,jr,te])
  (hs:ÆE) {V:ĕ} {s:ak} {σ:St} {H:Hp} {Q:VK} (I:Inv X V σ H s) (h:PV ÅJ wi g tc te σ H Q)
  (post:∀ (D C:af) (t:ak) (l:Hp) (m:am->Ã ae),Inv X V σ l t->l C=ah->t.heap.Ns C m->C≠ğ->Ŵ<=C->#[hf,a,C]->Öd ->
   Q Ū l->ÂA Ĝ X.A ê use QQ Ū C Æ3 t) :
  ý (Ìq ÐV c Ì cZ (Ìr []) false #[gg,Ķ] use) QQ ê s:=by
 have uO:Öe:=K8 λy hy hf=>by refine ËC y.1 ?_;rw[df]
 rw[bI];obtain it|fp|tn|J|G|e|I2|T|cA|f2|hR:=h2;subst e;have hD:G ÁZ=ah:=I2.fresh;have M:Inv X V σ Éw { f with Õ:=Äm { cls:=.type "list",Ó:=.seq ([]:À ae).toArray } } :=
  I2.lnew (ys:=[]) (its:=[]) (t':=ÀU) .nil (Qp _)
 have xW:Öf:=λb k=>by obtain A|e|_:=T.obj 0 _ cA b k;exact Ql e
 refine bO (Ög S.nocell Öh #[io,K,r8,r9] ÆT);have O:∃j:ak,j={ f with Õ:=Äm { cls:=.type "list",Ó:=.seq ([]:À ae).toArray } }:=ā;rw[e2,j,uP,O];have O:Æ5=Äm { cls:=ŗ,Ó:=.seq ([]:À ae).toArray }:=by rw[uP]
 have tI:Öi:=by rw[O,Q5]
 rw[sp];have f3:#[sV,V,Éw]:=λb k=>(by rw[Ze (QG (xW b k))];exact(f2 b k).1,(f2 b k).2);have cI:tn 0 Æ5:=ÈR 0 _ _ cA λb _ A e=>by rw[O];exact Qc _ e
 rw[<- uP]at M;show bJ Ĝ X.A (.compStart _ 0 Án ÀC (bL c Äl #[kV].objs.size Ì))
  (ÂA Ĝ X.A ê use QQ ÀC #[kV].objs.size)
  { f with Õ:=K,õ:=ÀU+([]:À (am×ae)).length }
 have bX:K.Ns ź Öj:=by rw[O];exact r8
 have iB:#[e8,b,A,j.heap.get?,A,K.get?]:=λb A e=>by rw[O]at e;exact Ök
 rw[<- O];have Du:({ f with Õ:=K,õ:=ÀU+([]:À (am×ae)).length }:ak)={ j with Õ:=K,õ:=ÀU }:=by rw[uP];rfl
 rw[mb];have I4:=K5 (tk:=ÀU) S hN ho M f3 xX bX iB;have xY:tn 0 K:=Öl;generalize w:YH X c N' ź j (upd G ÁZ (.lst [])) fp=Y at I4;have P:Y.prog=ü:=by rw[<- w];rfl
 have R:Y.w=X.w:=by rw[<- w];rfl
 have YK:Y.K=X.K:=by rw[<- w];rfl
 have Yc:Y.calm=true:=by rw[<- w];exact hc
 have YA:Y.A=X.A:=by rw[<- w];rfl
 have tJ:Öm:=by rw[<- w];rfl
 have Yl:Ön:=by rw[tJ];rfl
 have ph:Y.xe=λ_ _=>ĝ:=by rw[<- w];rfl
 rw[fr,pi,hg,Éw,iW,ht];have iX:=he ź j Éw fp;rw[w]at pi iW iX;have ja:∀ {B:Hp},#[iR,B]->∀b∈fp,Xa Y [] B b:=λ{B} hn b k=>by
  rw[74];have j4:p∈Ìa:=by
   have:Y.pn=[]:=by rw[<- w];rfl
   rw[this]at hp;exact hp
  cases j4
 have fin:∀ (t:ak) (L:St) (l:Hp),Inv Y [] L l t->Q ÀC l->ÂA Ĝ X.A ê use QQ ÀC ź Æ3 t:=λt L l F q=>by
  rw[uY];have se:l ź=ah:=by have:=F.free;rw[Yl]at this;rw[wr]
  have un:Un Ëu fp Éw l Æ5 t.heap:=by have:=F.base;rw[iH,w]
  have Dv:t.os=j.os:=by have:=F.os;rw[iH,w]
  have j5:Öo:=by have:=F.hok;rw[P,R]at this;rw[wr]
  refine post _ _ t l m (M.call' (s':=t) (ch:=fp) Dv un j5 F.bare λb k=>?_) se hn (Q4 M.lt) M.sz #[io,x,a,e] (λp hp=>?_) q
  ·rw[mE]
  ·obtain v|A|e'|_:=M.cell x a e;exact QG (Ql e')
  ·exact QG (Ql (M.pin p hp).1)
 have tK:bJ Ĝ X.A #[td,ÐV,Án]
   (ÂA Ĝ X.A ê use QQ ÀC ź) { j with Õ:=K,õ:=ÀU }:=by
  rw[<- tJ,<- YA];refine Zkq (E:=ËD) (λn s'=>X4 λi ys aX B=>Inv Y [] aX B s'/\tn i ÀO/\#[iR,B]/\W i n ys aX B) Év ?_ m0
   Öp
  ·rintro n t ⟨i,ys,L,l,F,rX,uK,w5⟩;rcases turn i n ys L l w5 with⟨stop,qn⟩|⟨go,Nn,xZ,step⟩
   ·refine thn (T.done Y P R YK Yc i [] t L l _ F (ja uK) rX stop) ?_;rintro r s6 ⟨hr,I6⟩;subst hr;have fq:=fin s6 L l I6 qn;rw[<- YA]at fq;exact fq
   ·refine thn (T.item Y P R YK Yc i [] t L l _ F (ja uK) rX go) ?_;rw[bb];have tL:Öq:=λ{uR U Z} I9=>by refine Ör;rw[hg,A,uQ,k,I9.pin]
    have P1:=pi _ s7 L H7 x u _ Dx r7 (step x H7 y7);rw[gz,P,R,P1];rw[mo];rw[gz,P,R,P2];rintro ok Z ⟨U,I9,q9⟩;cases ok with
    | false=>rw[È Qt]at q9;rw[b4]
    | true=>rw[Æ rfl]at q9;rw[q7];have P3:=iX _ Z lO U _ I9 q9;rw[gz,P,R,P3];rintro y gv ⟨vy,gg,Dy,Dz,DA,hsz,q10⟩;have P4:=WR (X:=Y) _ gv lO gg ÀC [vy] ÀC [y] (λ_ B=>Nn (ys++[vy]) lO B) Dy rfl (.cons Dz .nil) (_,ys,vy,rfl,rfl,DA,hsz,q10);rw[gz,P,R,P4];rintro _ lP ⟨_,jB,DB,_,q11⟩;rw[sX,b1,b2,b3,tL,DB];obtain m'|iu|w11:=xZ _ _ _ q11;exact(m',iu,i+1,ys++[vy],lO,jB,b1,b2,b3,w11)
  ·exact w0
 have lp:=T.self X.A 0 { j with Õ:=K,õ:=ÀU } (λDC s'=>bJ Ĝ X.A #[td,ÐV,DC]
   (ÂA Ĝ X.A ê use QQ ÀC ź) s') Ãg xY tK
 exact codeAny_compStart_list tK Ös
theorem Inv.let{c:ĕ}{d:St}{H:Hp}{s:ak}{C:af}{h':aJ}(I:ËK)(hn:H C=ah)(f:C≠ğ)(h1:Ŵ<=C)
  (h2:∀x a,ζ x=aa a->a≠C) (g:#[s9,c,C]) (hs:#[z7,C,Í,h']):Inv X c d H { s with Õ:=h' } :=
 Áo (t':=ļ) (λb h i e=>hs.extBut b h i e) hn f (.inr h1) h2 g
theorem W0{b a Ķ:aL}{d:ĭ}{pos:Pos}{e:TI}{g:TG}{f:TT}{i:TE}(S:Àg)(j:X.N=N)(k:Àh)(hc:Ÿ)
  (l:PI X a Ķ e) (n:#[fz,PG,a,g]) (ht:#[fz,PTs,d,f]) (he:#[fz,PE,b,i])
  (hs:ÆE:=by intro _;rfl) :
  PE X #[hA,b,a,d,c] (PV ÅJ e g f i):=by
 rw[vS];rw[eval_ListComp];refine K4 (use:=ah) S j k hc l n ht he hs I h λD C s5 p m r t u v w y z q=>(m,u,λh' A=>?_);exact(.ref D,p,r.let t v w y z A,rfl,q)
theorem Vj{i:Nat}{x:am}{f b Ķ:aL}{j:ĭ}{pos d n:Pos}{p:TI}{g:TG}{r:TT}{t:TE}(A:Â1)(hx:Âl)(hl:ÆB)(S:Àg)(B:X.N=N)(E:Àh)(hc:Ÿ)
  (F:PI X b Ķ p) (G:#[fz,PG,b,g]) (ht:#[fz,PTs,j,r]) (he:#[fz,PE,f,t])
  (k:ËH #[hA,f,b,j,c] (aa (.Name x d)) n.line Ì=pure true)
  (hs:ÆE:=by intro _;rfl) (hf:ÆC:=by first|exact ÀP|exact À3|assumption) :
  PS X (.Assign [.Name x d] #[hA,f,b,j,c] n) (Rq (PV ÅJ p g r t) (S9 i)):=by
 rw[fA,J,σ,D];rw[exec_Assign_Name_used _ _ _ _ k];refine ai (bK (ai ?_));show av _ X.A (do let _ <- Ìq (.ListComp f [⟨b,Ķ,j,0⟩] c pos) c Ì _ (Ìr []) false (Ċ Ķ Ì) (aa (Âo (.Name x d) Ì))) _ _ s;refine ai (thn (K4 (QQ:=λ_ u=>SP X J D .next u) (use:=aa (Âo (.Name x d) Ì)) S B E hc F G ht he hs I h ?_) λ_ u K=>aw (aw K));intro L C s5 M m O P Q w R y T q;show av _ X.A (Âo (.Name x d) Ì (.ref L)) _ _ _;refine ÔW (Mb (v:=.ref L) O A hx hl rfl (?_) hf);rintro s6 U ⟨a,V,W⟩;have l:C≠a:=by
  rcases W with z|z
  ·rw[z];exact w
  ·exact(y x a z).symm
 exact(m,Q.sameBut V l,λh' e=>(_,M,U.let P w R y T e,q))
universe E
theorem ZmG{ys:Ï}:∀ {us:À ae},ZF Ìs us->StrsAre us ys:=by
 induction ys with
 | nil=>intro us r;rw[gv,Qa9,r,r];exact .nil
 | Ñ y ys a =>
  intro us r;rw[Qh]at r;cases r with
  | Ñ b c=>obtain t|e:=b;subst e;exact .cons _ _ (a c)
section
variable {X:Cx}
def K3(K:Ä):À V->Hp->VK->Prop:=λxs H Q=>X4 λx c t b=>C4 (xs=[x,.ty c]) (WS K H x t) (Ď K t (.type c)=aa b) (Q (.bl b) H)
theorem Zq5:YS X È3 (K3 X.K):=by intro aj s σ H xs us Q I r h;obtain x|c|t|b|rfl|ty|e|q:=h;obtain u|w'|rfl|a|d:=S7 r;cases d;exact Zo4 I a ty e λtk=>(.bl b,H,ř _,rfl,q)
theorem ZpL(hc:Ÿ):YS X #[fO,"all"] (λxs H Q=>X2 λ(p:af) (bs:À Ê)=>xs=À6/\SqL X.K H p (bs.map V.bl)/\Q (.bl (bs.all id)) H):=by
 rw[cu];obtain p|bs|rfl|t|q:=h;rw[fu,w];rw[gn,j,x,hz,t];have k:=x.isList;have y:p<Ò:=by obtain _|e|_:=k;exact Ql e
 refine call_all_walk (cQ k ?_);refine⟨Ò,[Ò,p],[Ò],Ât,_,_,λi=>(bs[i]?).getD true,rfl,Walks.list (A:=X.A.in1) Â3 _ p (QG y) Ĕ,
  ((_,Qs _ rfl,rfl,rfl),k.push _),λi v B C E' D E=>?_,λh' tk F=>?_⟩
 ·have c:#[Au,its,v]:=by simpa using D
  have d:i<ÆY:=(Ń c).1;have a:=ÀR;have l:(bs.map V.bl)[i]? = aa (V.bl (bs[i]' ÐW)):=by rw[Qr,Qb ÐW];rfl
  rw[sX,u',f,m,j.get,l];rw[gv,c,f,f];obtain rfl:v=Æt _:=m;have g:C ((bs[i]?).getD true) B:=E;rw[Qb ÐW]at g;exact bp g
 ·have e:((À7 Ât).all λi=>(bs[i]?).getD true)=bs.all id:=by
   have a:=ÀR;rw[Qa]at a;rw[QA,<- a,Qar,QY,QY];constructor
   ·intro z b l;obtain i|d|rfl:=Öt l;have:=z i (Ëk d);rw[Qb d]at this;rw[wr]
   ·intro z i d;have o:=QaE.mp d;rw[Qb o];exact z _ (Qab o)
  refine(.bl (bs.all id),H,Âp λb G n=>F b G (λJ=>?_) (Qc _ n),by rw[e];rfl,q);rw[ó J]at n;exact Qal _ (Ql n)
theorem Zsy:MtR X "str.join" (λx vs H Q=>X3 λ(sep:am) (p:af) (ys:À am)=>x=.str sep/\vs=À6/\SqL X.K H p Ìs/\#[zd].sum+į*Ìt<=16777216/\Q (.str Öu) H):=by intro aj s σ H x vs v us Q I a b h;obtain sep|p|ys|rfl|rfl|c|d|q:=h;obtain t|rfl:=a;obtain u|rfl|e:=b.one;cases e;obtain its|f|g|_:=Âm c;exact join_list g.isList (ZmG f) d λt' k=>(.str _,H,ř _,ā,q)
theorem VI:OpR X ÏP (λx y H Q=>X2 λa n=>x=.str a/\y=.int n/\0<=n/\n<=1000000/\ÅK*n<=1000000/\Q (.str (Éx a n)) H):=by
 rw[gK,y,u,g,i];obtain a|n|rfl|rfl|j|l|h2|q:=h;rw[tR,g];rw[fd,t',i];have m:ķ*ÀD<=1000000:=by
  have e:((ķ*ÀD:Nat):Int)=ÅK*n:=by rw[Int.natCast_mul,Int.toNat_of_nonneg j]
  lia
 refine PySem.P.mul_str ?_ (λb c=>?_) (λb c=>?_) ?_
 ·have o:decide (n < -(2 ^ 63:Int))=false:=ÆX;have f:decide (n>=2 ^ 63)=false:=ÆX;rw[o,f];rfl
 ·have p:(1:Int)<=n:=by lia
  have q1:ÅK*1<=ÅK*n:=Öv p (Int.natCast_nonneg _);have q2:(1000000:Int)<=(2 ^ 63-1) / n:=by rw[Int.le_ediv_iff_mul_le Á];have:(1000000:Int)*n<=1000000*1000000:=Öv l Å;lia
  lia
 ·unfold aR.Str.tooLong;have r:aq=16777216:=aO;exact ÆX
 ·have e:Éx a n=if n<1 then ÁS else if Öw=true then a else ⟨#[uN].foldl (·++·) #[]⟩:=rfl
  rw[e]at q;by_cases b:n<1
  ·rw[Æ b]at q ⊢;exact(by decide,.str _,H,ř _,ā,q)
  ·rw[È b]at q ⊢;by_cases c:Öw=true
   ·rw[Æ c]at q ⊢;exact Öx
   ·rw[È c]at q ⊢;refine(?_,.str _,H,ř _,ā,q);have w:∀ (k:Nat) (d:ē Nat),((Ġ k a.cps).foldl (·++·) d).size=d.size+k*ÐX:=by
     intro k;induction k with
     | zero=>intro d;simp
     | succ k z=>intro d;rw[Qan,Õ0,z,Array.size_append,ÐC];lia
    show (#[uN].foldl (·++·) #[]).size<=aq;rw[w];have f:ÐX=ķ:=rfl;have:ÀD*ÐX<=1000000:=by rw[f,Nat.mul_comm];exact m
    have r:aq=16777216:=aO;simp only[Èt,Éy];lia
universe E
inductive Src where
 | l (a:af)|t (a:af)|s (z:am)
def Src.val:Src->V
 | .l a=>.ref a
 | .t a=>.ref a
 | .s z=>.str z
def Zsa(c:Nat):V:=.str Ũ
def Src.its(K:Ä)(H:Hp):Src->À V->Prop
 | .l a,xs=>SqL K H a xs
 | .t a,xs=>SqT K H a xs
 | .s z,xs=>xs=z.cps.toList.map Zsa
def Src.at(h:aJ)(i:af):Src->Nat->Prop
 | .l a,k=>ÈQ i a k
 | .t a,k=>h.IsTupleIter i a k
 | .s z,k=>∃tk,ÐY i (bU z) z tk k
def Src.raw(h:aJ):Src->À ae->Prop
 | .l a,us=>h.IsList a us.toArray
 | .t a,us=>h.IsTuple a us.toArray
 | .s _,_=>Μ
def Src.fit:Src->À ae->Nat->ae->Prop
 | .l _,us,k,u=>us[k]? = aa u
 | .t _,us,k,u=>us[k]? = aa u
 | .s z,_,k,u=>X2 λc tk=>Ŕ[k]? = aa c/\u=.str Ũ tk
def Src.many:Src->À ae->Nat
 | .l _,us=>ε
 | .t _,us=>ε
 | .s z,_=>ς
def Src.off:Src->af->Prop
 | .l a,b=>a≠b
 | .t a,b=>a≠b
 | .s _,_=>Μ
theorem Ìu{h:aJ}{i:af}:∀ {S:Src} {k:Nat},S.at h i k->X2 λo vs=>à i=aa o/\ş=.fields vs
 | .l _,_,⟨o,e,_,d⟩=>(o,_,e,d)
 | .t _,_,⟨o,e,_,d⟩=>(o,_,e,d)
 | .s _,_,⟨_,o,e,_,d⟩=>(o,_,e,d)
theorem Éz{h h':aJ}{i:af}(k':∀o,à i=aa o->ĉ i=aa o):∀ {S:Src} {k:Nat},S.at h i k->S.at h' i k
 | .l _,_,⟨o,e,d⟩=>(o,k' o e,d)
 | .t _,_,⟨o,e,d⟩=>(o,k' o e,d)
 | .s _,_,⟨tk,o,e,d⟩=>(tk,o,k' o e,d)
theorem Src.raw_keep{h h':aJ}{b:af}(k':#[hW,c,o,b,à]):∀ {S:Src} {us:À ae},S.off b->Än h us->Än h' us
 | .l _,_,f,⟨o,e,d⟩=>(o,k' _ o f e,d)
 | .t _,_,f,⟨o,e,d⟩=>(o,k' _ o f e,d)
 | .s _,_,_,_=>trivial
section
variable {è:aA} {w:aF} {A:aE} {E:ae->ak->Prop} {s:ak}
theorem Zj9{it t:af}{i:Nat}{c:Â4}{x:ae}{Q:ñ}(b:Öy)(ht:s.heap.IsTuple t c)(hx:#[Au,c,x])
  (d:∀h',h'.IsTupleIter it t (i+1)->Åi it Í h'->Q x { s with Õ:=h' }):av Ð A Öz Q E s:=by
 obtain o|a|e|hd:=id b;obtain ol|f|_|nl|g:=ht;unfold Æ6;refine ai (Ìv (name:=Ìw) Ìx Ìy
  (cq Ìy Ìx ÖA ?_ ÖB))
 rw[vZ];refine ai (bg a hd (x:=.ref t) rfl ?_);rw[93];refine ai (bg a hd (x:=.int i 0) rfl ?_);rw[ux];refine ai (bv f g ?_);simp only[Ïe,hx];refine ai (ÉA a hd Ù (aw (x,rfl,aw (d _ ?_ ÖC))));exact⟨_,Q0 _ a (ÐZ (ÉB hd _)),(ÖD ..).trans e,by
  rw[ÉB hd];simp[Ξ]⟩
theorem PU{i:af}{k:Nat}{us:Þ}{Q:ñ}:∀ {S:Src},S.at Í i k->Än Í us->k<S.many us ->
  (∀h' tk u,S.fit us k u->S.at h' i (k+1)->Åi i Í h'->Q u { s with Õ:=h',õ:=tk })->av Ð A ÖE Q E s
 | .l a,c,h,b,g=>wpAny_nextOf_list_item c h (x:=us[k]'b) #[fs,Qaz,Qb,b] λh' d f=>g h' œ _ (Qb b) d f
 | .t a,c,h,b,g=>Zj9 c h (x:=us[k]'b) #[fs,Qaz,Qb,b] λh' d f=>g h' œ _ (Qb b) d f
 | .s z,⟨tk,c⟩,h,b,g=>by
  have j:Ŕ[k]? = aa Ŕ[k]:=Qad b;by_cases l:Ð0 (·<128)=true
  ·have e:ÖF:=by unfold bU;rw[Æ l]
   rw[e]at c;exact wpAny_nextOf_ascii_item c j λh' d f=>g h' _ _ (_,_,j,rfl) (tk,by rw[e];exact d) f
  ·have e:bU z = "str_iterator":=by unfold bU;rw[ti,l]
   rw[e]at c;exact wpAny_nextOf_wide_item c j λh' d f=>g h' _ _ (_,_,j,rfl) (tk,by rw[e];exact d) f
theorem ZgU{it t:af}{i:Nat}{d:Â4}{Q:ñ}(f:Ãa)(b:Öy)(ht:s.heap.IsTuple t d)(hx:d[i]? = ah)
  (g:∀h' e,aJ.ExtBut it Í h'->Ð1->E Ę { s with Õ:=h' }):av Ð A Öz Q E s:=by
 obtain o|c|hc|hd:=id b;obtain ol|h|_|nl|j:=ht;unfold Æ6;refine ai (Ìv (name:=Ìw) Ìx Ìy
  (cq Ìy Ìx ÖA ?_ ÖB))
 rw[vZ];refine ai (bg c hd (x:=.ref t) rfl ?_);rw[93];refine ai (bg c hd (x:=.int i 0) rfl ?_);rw[ux];refine ai (bv h j ?_);simp only[Ïe,hx];refine ai (Æ7 (ai (ÉA c hd Ù ?_)));show av _ _ (newExc ÖG [] >>= _) _ _ _;refine ai ?_;simp only[newExc,newTuple];refine ai (bO ?_ (by size_fits));refine ai (m:=firstArgMember _ _) (wpAny_of_eq (a:=Àq) (by first|rfl|(simp only[firstArgMember];rfl)) ?_);refine bO ?_ (by size_fits);simp only[raiseNew];refine ai (wpAny_handled ?_);first|rw[show A.in1.handled=ah from f]|rw[f]
 refine ai (aw (wpAny_throw ?_));exact g _ _ (((ÖC).extBut.push _).push _) (_,Qs _ rfl,rfl)
theorem K2{i:af}{k:Nat}{us:Þ}{Q:ñ}(f:Ãa):∀ {S:Src},S.at Í i k->Än Í us->S.many us<=k ->
  (∀h' e,aJ.ExtBut i Í h'->Ð1->E Ę { s with Õ:=h' })->av Ð A ÖE Q E s
 | .l a,b,g,d,c=>wpAny_nextOf_list_end f b g #[fs,Qaz,Qaf,d] c
 | .t a,b,g,d,c=>ZgU f b g #[fs,Qaz,Qaf,d] c
 | .s z,⟨tk,b⟩,g,d,c=>by
  have h:Ŕ[k]? = ah:=Qba d;by_cases j:Ð0 (·<128)=true
  ·have e:ÖF:=by unfold bU;rw[Æ j]
   rw[e]at b;exact wpAny_nextOf_ascii_end f b h c
  ·have e:bU z = "str_iterator":=by unfold bU;rw[ti,j]
   rw[e]at b;exact wpAny_nextOf_wide_end f b h c
structure SX (z TI TO i1 i2:af) (S1 S2:Src):Prop where
 TIz:TI≠z
 TOz:TO≠z
 i1z:i1≠z
 i2z:i2≠z
 TITO:TI≠TO
 TIi1:TI≠i1
 TIi2:TI≠i2
 TOi1:TO≠i1
 TOi2:TO≠i2
 i12:i1≠i2
 s1z:S1.off z
 s1TO:S1.off TO
 s1i1:S1.off i1
 s1i2:S1.off i2
 s2z:S2.off z
 s2TO:S2.off TO
 s2i1:S2.off i1
 s2i2:S2.off i2
theorem ZqE{z TI TO i1 i2:af}{S1 S2:Src}{k:Nat}{t u:Þ}{a b:ae}{Q:Ìz}(D:ÌA)
  (hz:ÖH) (Z:ÖI) (j7:τ Í TO a b)
  (h1:S1.at Í i1 k) (h2:S2.at Í i2 k) (r1:S1.raw Í t) (r2:S2.raw Í u) (m1:k<S1.many t) (m2:k<S2.many u)
  (hQ:∀h' tk x y,S1.fit t k x->S2.fit u k y->ÂB h' z TI TO (Ξ Ò)->τ h' TO x y->S1.at h' i1 (k+1)->S2.at h' i2 (k+1)->τ h' Ò x y->h'.objs.size=Ò+1 ->
   (∀c o,c≠z->c≠TO->c≠i1->c≠i2->í c=aa o->ĉ c=aa o)->Q (aa År) { s with Õ:=h',õ:=tk }) :
  av Ð A (Ã5 (.ref z)) Q E s:=by
 have R:ÖJ:=(_,hz,rfl);unfold Ã5;refine ai (ÉC (Ìv (name:=Ìw) R ÌB (cq ÌB R ÖK ?_ (ÖL _))));rw[ba];refine ai (bg hz rfl (x:=.ref TI) rfl (ai (bv Z rfl ?_)));rw[83];refine ai (Æ7 (ai (bg hz rfl (x:=.ref TO) rfl (ai (bS hz Ù λT G f=>?_)))));replace G:ÂB T z TI TO .ellipsis:=G;rw[76];refine ai (PU (S:=S1) (us:=t) (k:=k) #[ix,Æ8,h1] (S1.raw_keep #[gl,c,n,Æ8,n] D.s1z r1) m1 λH DG x fx x6 kR=>aw ?_);have h:#[z7,i1,T,H]:=kR;have U:τ H TO a b:=ÉD _ _ D.TOi1 (Æ8 _ _ D.TOz j7);refine ai (bv U rfl (ai (Ð2 U λI J kT=>ai (dM ÀV))));replace J:τ I TO x b:=J;have i:#[z7,TO,H,I]:=kT;rw[d1];refine ai (PU (S:=S2) (us:=u) (k:=k)
  (ÌC (λo e=>ÉE _ o Ð3 (ÉD _ o D.i12.symm (Æ8 _ o D.i2z e))) h2)
  (Æ9 #[gl,c,n,ÉE,n] D.s2TO (Æ9 #[gl,c,n,ÉD,n] D.s2i1 (Æ9 #[gl,c,n,Æ8,n] D.s2z r2))) m2 λK DI y fy DJ sf=>aw ?_)
 have j:#[z7,i2,I,K]:=sf;have V:τ K TO x b:=Ãh _ _ D.TOi2 J;refine ai (bv V rfl (ai (Ð2 V λd v sg=>ai (dM (aw ÀV)))));replace v:τ d TO x y:=v;have l:#[z7,TO,K,d]:=sg;refine ai (bv v rfl (ai (Ð4 ?_)));have m:Äo=Ò:=by rw[l.1,j.1,i.1,h.1,f.1]
 have W:#[t0,d]:=ÌD _ _ Ð5 (Ãh _ _ D.i2z.symm (ÉE _ _ Ð5 (ÉD _ _ Ð6 G)));have DK:∀c o,c≠z->c≠TO->c≠i1->c≠i2->í c=aa o->d.get? c=aa o:=λc o g B L M e =>
  ÌD _ _ B (Ãh _ _ M (ÉE _ _ B (ÉD _ _ L (Æ8 _ _ g e))))
 have DL:S1.at d i1 (k+1):=S1.at_keep (λo e=>ÌD _ o D.TOi1.symm (Ãh _ o D.i12 (ÉE _ o D.TOi1.symm e))) x6;have DM:S2.at d i2 (k+1):=ÌC (λo e=>ÌD _ o Ð3 e) DJ;have X:z<Äo:=Ql W;show av _ _ (ÖM (.ref z) (.ref Äo) >>= _) _ _ _;refine ai ?_;unfold ÖM;have DN:ÂB (d.push { cls:=Äp,Ó:=.seq #[x,y] }) z TI TO .ellipsis:=Qc _ W;refine ai (bS DN Ù λp N O=>?_);replace N:ÂB p z TI TO (Ξ Äo):=N;refine bS N Ù λq C P=>?_;replace C:ÂB q z TI TO (Ξ Äo):=C;have up:∀c o,c≠z->d.get? c=aa o->q.get? c=aa o:=λc o g e=>P.extBut _ _ g (Ça _ _ g (Qc _ e));have Y:τ q Äo x y:=P.extBut _ _ (Q4 X) (Ça _ _ (Q4 X) ÉF);have r:q.objs.size=Äo+1:=by rw[P.1,O.1,Q5]
 rw[m]at C Y r;refine aw (_,rfl,aw ?_);show Q #[g0,Äo] _;rw[m];exact hQ q DI x y fx fy C (up _ _ D.TOz v) #[ix,up,DL] (ÌC (λo e=>up _ o D.i2z e) DM) Y r λc o g B L M e=>up c o g (DK c o g B L M e)
theorem ZrM{z TI TO i1 i2:af}{S1 S2:Src}{k:Nat}{g p:Þ}{a b:ae}{Q:Ìz}(H:Ãa)(D:ÌA)
  (hz:ÖH) (R:ÖI) (U:τ Í TO a b)
  (h1:S1.at Í i1 k) (h2:S2.at Í i2 k) (I:S1.raw Í g) (V:S2.raw Í p) (h:S1.many g<=k\/S2.many p<=k)
  (W:∀h' tk,ÖN->Q ah { s with Õ:=h',õ:=tk }) :
  av Ð A (Ã5 (.ref z)) Q E s:=by
 have J:ÖJ:=(_,hz,rfl);unfold Ã5;have done:∀ (h':aJ) (tk:Nat) (e:af),ÖN->Ð1 ->
   av Ð A (do if (<- Ð7 Ę ÖG) then pure ah else throw Ę:Sem (Ã ae)) Q E { s with Õ:=h',õ:=tk }:=λh' tk e X ⟨o,Y,Z⟩=>
  ai (ÖO (T := "StopIteration") (b:=true) (o,Y,Z) isSubtype_stop (aw (W h' tk X)))
 refine ai (ÉC (Ìv (name:=Ìw) J ÌB (cq ÌB J ÖK ?_ (ÖL _))));rw[ba];refine ai (bg hz rfl (x:=.ref TI) rfl (ai (bv R rfl ?_)));rw[83];refine ai (Æ7 (ai (bg hz rfl (x:=.ref TO) rfl (ai (bS hz Ù λK q d=>?_)))));replace q:ÂB K z TI TO .ellipsis:=q;rw[76];by_cases m1:k<S1.many g
 ·have m2:S2.many p<=k:=by rcases h with z'|z';lia;exact z'
  refine ai (PU (S:=S1) (us:=g) (k:=k) #[ix,Äq,h1] ÖP m1 λi DG x fx x6 r=>aw ?_);have j:#[z7,i1,K,i]:=r;have L:τ i TO a b:=Ãh _ _ D.TOi1 (Äq _ _ D.TOz U);refine ai (bv L rfl (ai (Ð2 L λv nD t=>ai (dM ÀV))));have u:#[z7,TO,i,v]:=t;rw[d1];refine ai (K2 (S:=S2) (us:=p) (k:=k) H
   (ÌC (λo e=>ÌE _ o Ð3 (Ãh _ o D.i12.symm (Äq _ o D.i2z e))) h2)
   (Æ9 #[gl,c,n,ÌE,n] D.s2TO (Æ9 #[gl,c,n,Ãh,n] D.s2i1 (Æ9 #[gl,c,n,Äq,n] D.s2z V))) m2 λir e M y=>?_)
  rw[ja,B,f,l,y];have N:#[t0,ir]:=M _ _ D.i2z.symm (ÌE _ _ Ð5 (Ãh _ _ Ð6 q));have C:e≠z:=λx=>by subst x;rw[gv,N,f,f];simp at l
  exact bS N Ù λcW _ O=>done cW _ e (λc o m c2 G c4 x=>Ça _ _ m (M _ _ c4 (ÌE _ _ c2 (Ãh _ _ G (Äq _ _ m x))))) (B,Ça _ _ C f,l)
 ·refine ai (K2 (S:=S1) (us:=g) (k:=k) H #[ix,Äq,h1] ÖP Á λi e r y=>?_);rw[ja,B,f,l,y];have P:#[t0,i]:=r _ _ Ð6 q;have C:e≠z:=λx=>by subst x;rw[gv,P,f,f];simp at l
  exact bS P Ù λv _ t=>done v _ e (λc o m _ G _ x=>t.extBut _ _ m (r _ _ G (Äq _ _ m x))) (B,t.extBut _ _ C f,l)
universe E
def Src.iter(tk:Tok):Src->aN
 | .l a=>{ cls:=.type "list_iterator",Ó:=.fields #[.ref a,.int 0 0] }
 | .t a=>{ cls:=.type "tuple_iterator",Ó:=.fields #[.ref a,.int 0 0] }
 | .s z=>{ cls:=.type (bU z),Ó:=.fields #[.str z tk,.int 0 0] }
def Src.value(tk:Tok):Src->ae
 | .l a=>.ref a
 | .t a=>.ref a
 | .s z=>.str z tk
theorem Ð8{h:aJ}{i:af}{tk:Tok}:∀ {S:Src},à i=aa (S.iter tk)->S.at h i 0
 | .l _,e=>(_,e,rfl,rfl)
 | .t _,e=>(_,e,rfl,rfl)
 | .s _,e=>(tk,_,e,rfl,rfl)
theorem Ð9{è:aA}{w:aF}{A:aE}{E:ñ}{s:ak}{tk:Tok}{us:Þ}{Q:ñ}:∀ {S:Src},Än Í us ->
  Q År { s with Õ:=Àu (S.iter tk) }->av Ð A (Ån (S.value tk)) Q E s
 | .l _,r,q=>cQ r q
 | .t _,r,q=>wpAny_pyIter_tuple r q
 | .s _,_,q=>wpAny_pyIter_strU q
theorem Src.raw_push{h:aJ}{ob:aN}:∀ {S:Src} {us:À ae},Än h us->Än (Çb ob) us
 | .l _,_,⟨o,e,d⟩=>(o,Qc _ e,d)
 | .t _,_,⟨o,e,d⟩=>(o,Qc _ e,d)
 | .s _,_,_=>trivial
abbrev zH1(h:aJ)(S1:Src)(a:Tok):aJ:=Çb (S1.iter a)
abbrev zH2(h:aJ)(S1 S2:Src)(a b:Tok):aJ:=(zH1 h S1 a).push (S2.iter b)
abbrev zH3(h:aJ)(S1 S2:Src)(a b:Tok):aJ:=(zH2 h S1 S2 a b).push { cls:=Äp,Ó:=.seq #[.ref Ļ,.ref (zH1 h S1 a).objs.size] }
abbrev zH4(h:aJ)(S1 S2:Src)(a b:Tok):aJ:=(zH3 h S1 S2 a b).push { cls:=Äp,Ó:=.seq #[.none,.none] }
abbrev zH5(h:aJ)(S1 S2:Src)(a b:Tok):aJ:=(zH4 h S1 S2 a b).push { cls:=.type "zip",Ó:=.fields #[.none,.bool false,.bool false,.ref (zH2 h S1 S2 a b).objs.size,.ref (zH3 h S1 S2 a b).objs.size] }
theorem Zst(S1 S2:Src)(a e:Tok)(f i:Þ) :
  Meets (aR.«zip.__new__» ([.type "zip",ÌF a,ÌG e],[])) (λ_ R s=>S1.raw Í f/\S2.raw Í i /\
   R (.ok (.ret (.ref (zH4 Í S1 S2 a e).objs.size))) { s with Õ:=zH5 Í S1 S2 a e }) :=
 .of_wp λb w A R s h=>by
  rw[hN,c,tk,s];rw[ja,l,m,h,h];have lE:=sub_zip;have j:∀ {A:aE} {E:ae->ak->Prop} {Q:ae->ak->Prop},Q (.ref Ãi) Ña->av (ay b w) A (Ån (ÌF a)) Q E #[hz,c,tk]:=
   λ{A E Q} q=>Ð9 (s:=#[hz,c,tk]) (us:=f) l q
  have k:∀ {A:aE} {E:ae->ak->Prop} {Q:ae->ak->Prop},Q (.ref (zH1 c S1 a).objs.size) (zH2 c S1 S2 a e,g,d,tk,os)->av (ay b w) A (Ån (ÌG e)) Q E Ña:=
   λ{A E Q} q=>Ð9 (s:=Ña) (us:=i) (S2.raw_push m) q
  generalize ÌF a=v1 at j ⊢;generalize ÌG e=v2 at k ⊢
  wp_walk using j,k
  exact(_,rfl,h)
section
variable {è:aA} {w:aF} {A:aE} {E:ae->ak->Prop} {s:ak}
theorem ZrO{S1 S2:Src}{a b:Tok}{j k:Þ}{Q:ñ}(q:S1.raw Í j)(r:S2.raw Í k)
  (h:∀h',ÂB h' #[su,4] #[su,2] #[su,3] .none->τ h' #[su,2] År ÌH ->
   τ h' #[su,3] .none .none->S1.at h' Ò 0->S2.at h' Ź 0->h'.objs.size=Ò+5 ->
   (∀c o,í c=aa o->ĉ c=aa o)->Q (.ref #[su,4]) { s with Õ:=h' }) :
  av Ð A (Œ (.type "zip") [ÌF a,ÌG b]) Q E s:=by
 refine callType_new F.called_zip Å (F.typeCall_zip_2 _ _) (F.newCall_zip_2 _ _) (λobj=>F.args_object_init_3 obj _ _) F.entry_zip_new (Zst S1 S2 a b j k) (q,r,?_);have d:(zH1 Í S1 a).objs.size=Ò+1:=Q5 ..;have e:#[im,zH2,2]:=by rw[Q5,d]
 have f:#[im,zH3,3]:=by rw[Q5,e]
 have g:#[im,zH4,4]:=by rw[Q5,f]
 have t:#[c1].objs.size=Ò+5:=by rw[Q5,g]
 have l:∀ (tk:Tok) (S:Src),(S.iter tk).isFreed=false:=λtk S=>by cases S<;>rfl
 have i:#[h9,zH4]:=Qs _ rfl;have m:#[h9,zH3]:=Qc _ ÉF;have n:#[h9,zH2]:=Qc _ (Qc _ ÉF);have p:#[c1].get? (zH1 Í S1 a).objs.size=aa (S2.iter b):=Qc _ ÖQ;have u:#[c1].get? Ò=aa (S1.iter a):=Qc _ (Qc _ ÖQ);show _/\_;rw[e,f,g]at i;rw[d,e]at n;rw[f]at m;rw[d]at p;rw[g];exact⟨(_,i,rfl),h _ i n m (Ð8 u) (Ð8 p) t λc o x =>
  Qc _ (Qc _ (Qc _ (Qc _ (Qc _ x))))⟩
universe E
def Itz(K:Ä)(S1 S2:Src):It :=
 ⟨λi H=>X2 λa b=>ÉG K H a/\ÉH K H b/\i<ķ/\i<Ň,
  λi H v c=>∃p,H p=ah/\v=.ref p/\∀a b,ÉG K H a->ÉH K H b->∀x y,a[i]? = aa x->b[i]? = aa y->c=upd H p (.tup [x,y]),
  λi H=>X2 λa b=>ÉG K H a/\ÉH K H b/\(ķ<=i\/Ň<=i)⟩
section
variable {X:Cx} {aj:À (af×aN)} {σ:St} {H:Hp} {s:ak}
theorem Inv.src(I:â):∀ {S:Src} {xs:À V},S.its X.K H xs->∃us,Än Í us/\S.many us=Ö/\∀k u x,S.fit us k u->xs[k]? = aa x->ZI x u
 | .l a,xs,h=>by obtain its|e|pl|_:=Âm h;refine(its,pl.isList,e.length.symm,λk u x f b=>?_);rw[ka]
 | .t a,xs,h=>by obtain its|e|pl|_:=Ân h;refine(its,pl,e.length.symm,λk u x f b=>?_);rw[ka]
 | .s z,xs,h=>by
  refine([],trivial,?_,λk u x f b=>?_)
  ·rw[show xs=_ from h,Qa];simp[Src.many]
  ·obtain c|tk|d|i:=f;subst i;rw[show xs=_ from h,Qr]at b;have j:Áw[k]? = aa c:=by simpa using d
   rw[gv,j,b,b];exact(tk,rfl)
theorem Inv.src_off(I:â){b:af}(hb:Xa X aj H b):∀ {S:Src} {xs:À V},S.its X.K H xs->S.off b
 | .l a,xs,h=>by
  rcases h with(h|⟨ob,h⟩)|⟨o,its,n,hk,_⟩
  ·exact Zg h hb.1
  ·exact Zg h hb.1
  ·rw[wo];rcases hb.2.2.2.1 with z|z
   ·exact Æx a o e z
   ·exact ÐU
 | .t a,xs,h=>by
  rcases h with(h|⟨ob,h⟩)|⟨o,its,n,hk,_⟩
  ·exact Zg h hb.1
  ·exact Zg h hb.1
  ·rw[wo];rcases hb.2.2.2.1 with z|z
   ·exact Æx a o e z
   ·exact ÐU
 | .s z,xs,h=>trivial
theorem Inv.zipped{fp:Š}{h':aJ}{tk:Nat}{x y:V}{u v:ae}(I:â)(hf:#[sV,aj,H])(j:ZI x u)(k:ZI y v)
  (l:τ h' Ò u v) (hfh:∀b∈fp,∃o,ĉ b=aa o) (hk:∀c o,c ∉ fp->í c=aa o->ĉ c=aa o) :
  Inv X aj σ (upd H Ò (.tup [x,y])) { s with Õ:=h',õ:=tk }:=by
 have p:H Ò=ah:=Æ0;have ne:∀b a,í b=aa a->b≠Ò:=λb a e=>QG (Ql e);have g:∀b u,H b=aa u->b≠Ò:=λb u e=>Zg e p;have h:∀b u,H b=aa u->b ∉ fp:=λb u e d=>by rw[#[zk].1]at e;cases e
 refine ÈJ (g':=Æw) (d':=Ët) (ch:=fp) (λb d=>(#[zk].2.2.2.1,#[zk].2.1,#[zk].2.2.2.2.1,#[zk].2.2.2.2.2))
  (λb a _ _ f e _=>hk b a f e) (λb a _ _ f e _=>(Ëj,hk b a f e)) (λb a _ e n=>by rw[Ze (ne b a e)];exact n) (λb a f e=>(a,hk b a f e))
  (λb t e=>by rw[Ze (g b _ e)];exact e) (λb a u e=>by rw[Ze (g b _ e)];exact e) (λb ps e=>(#[],by rw[Ze (g b _ e),e];simp)) (λm w=>?_) #[io,b,i,e] ŷ
 ·obtain a|A|B|C|r:=w;exact(a,A,B,hk _ a #[Ag,hf] C,r)
 ·by_cases d:b=Ò
  ·rw[iA,d,Zb,e];exact(by show 2<=aq;decide,[u,v],.cons j (.cons k .nil),(_,l,rfl,_,rfl))
  ·rw[Ze d]at e;refine(é b i e).stay (λc D f q=>hk c D ?_ q) (λc q=>by rw[Ze (g c _ q)];exact q) λc t q=>by rw[Ze (g c _ q)];exact q
   rcases f with z|z
   ·rw[z];exact h b i e
   ·exact h c _ z
universe E
theorem Zri{P:aA}{w:aF}{K:Ä}{gw:ĭ}{x1:Nat}{fE:Pos}{S1 S2:Src}{z TI TO i1 i2:af}
  (Q:TI≠z) (W:TO≠z) (Y:i1≠z) (Z:i2≠z) (d5:TI≠TO) (d6:TI≠i1) (d7:TI≠i2) (d8:TO≠i1) (d9:TO≠i2) (tN:i1≠i2) :
  V3 P w K (.Tuple gw x1 fE) (Itz K S1 S2) ÉI z
   (λi h=>ÂB h z TI TO .none/\τ h TI (.ref i1) (.ref i2)/\(X2 λa b=>τ h TO a b)/\S1.at h i1 i/\S2.at h i2 i) where
 mem:=by simp
 obj:=λi h st b j=>by
  obtain J|L|⟨a,b',M⟩|N|O:=st;have nf:∀ {o:aN} {A:ē ae},ş=.fields A->∀v,ş≠.cell v:=λd v e=>by rw[d]at e;cases e
  rw[de];rcases j with rfl|rfl|rfl|rfl|rfl
  ·exact(_,J,nf rfl)
  ·rw[f2,L,v,e]
  ·rw[f2,M,v,e]
  ·obtain o|A|e|d:=Ìu N;exact(o,e,nf d)
  ·obtain o|A|e|d:=Ìu O;exact(o,e,nf d)
 Ė:=λi h R st k=>by obtain J|L|⟨a,b',M⟩|N|O:=st;exact(k z Ù _ J,k TI Ù _ L,(a,b',k TO Ù _ M),Éz (λo e=>k i1 Ù o e) N,Éz (λo e=>k i2 Ù o e) O)
 item:=by
  rw[dz];obtain xs|ys|B|C|l1|l2:=hg;rw[jM];have D:ÌA:=⟨Q,W,Y,Z,d5,d6,d7,d8,d9,tN,Ài T B,Ài ÌI B,Ài ÌJ B,Ài ÌK B,
   Ài T C,Ài ÌI C,Ài ÌJ C,Ài ÌK C⟩
  refine ZqE D J L M N O r1 r2 Á Á λR tk x y fx fy a1 a2 a3 a4 a5 a6 a7=>?_;have rx:=f1 i x _ fx (Qb l1);have ry:=f2 i y _ fy (Qb l2);refine(_,rfl,wpAny_letOwnedTupleGo_zip a1 λsj B5 tO=>?_);have G:#[z7,z,R,sj]:=tO;have B7:τ R TI (.ref i1) (.ref i2):=a7 _ _ Q d5 d6 d7 L;have lt:Ñb:=λe=>Q4 (Ql e);have ye:Ò≠z:=lt J;have I2:Inv X aj σ (upd H Ò (.tup [xs[i],ys[i]])) { s with Õ:=sj,õ:=tk }:=by
   refine I.zipped (fp:=ÉI) g rx ry (ÅL _ _ ye a5) (λb j=>?_) λc o f e=>?_
   ·rw[de];rcases j with rfl|rfl|rfl|rfl|rfl
    ·exact(_,B5)
    ·exact#[As,_,Q,B7]
    ·exact#[As,_,W,a2]
    ·rw[js,a3];exact#[As,o,Y,e]
    ·rw[js,a4];exact#[As,o,Z,e]
   ·simp only[Âe,Är,Äs,not_or]at f;exact ÅL _ _ f.1 (a7 c o f.1 f.2.2.1 f.2.2.2.1 f.2.2.2.2 e)
  refine(.ref Ò,_,I2,rfl,(Ò,Æ0,rfl,λxs' j3 w1 w2 x' y' e1 e2=>?_),(B5,ÅL _ _ Q B7,(_,_,ÅL _ _ W a2),Éz (λo e=>ÅL _ o Y e) a3,Éz (λo e=>ÅL _ o Z e) a4),λb j=>?_)
  ·have same:∀ {S:Src} {us A:À V},S.its X.K H us->S.its X.K H A->us=A:=λ{S us A} p q=>by
    cases S with
    | l a=>exact ÏH p q
    | t a=>exact I.tuple_inj p q
    | s z=>rw[show us=_ from p,show A=_ from q]
   have e3:=same w1 B;have e4:=same w2 C;subst e3;subst e4;rw[Qb l1]at e1;rw[Qb l2]at e2;cases e1;cases e2;rfl
  ·rw[Ze (λe=>by
    obtain⟨o,e1,_⟩:∃o,í b=aa o/\Μ:=by
     rw[de];rcases j with rfl|rfl|rfl|rfl|rfl
     ·exact(_,J,trivial)
     ·exact(_,L,trivial)
     ·exact(_,M,trivial)
     ·rw[js,N];exact(o,e,trivial)
     ·rw[js,O];exact(o,e,trivial)
    exact lt e1 Åh)]
   exact(g b j).1
 done:=by
  rw[dz];obtain xs|ys|B|C|l:=hg;rw[jM];have D:ÌA:=⟨Q,W,Y,Z,d5,d6,d7,d8,d9,tN,Ài T B,Ài ÌI B,Ài ÌJ B,Ài ÌK B,
   Ài T C,Ài ÌI C,Ài ÌJ C,Ài ÌK C⟩
  refine ZrM (ÁP f) D J L M N O r1 r2 Á λR tk hk=>(rfl,?_);have U:∀c o,c ∉ ÉI->í c=aa o->R.get? c=aa o:=λc o f e=>by simp only[Âe,Är,Äs,not_or]at f;exact hk c o f.1 f.2.2.1 f.2.2.2.1 f.2.2.2.2 e
  have yd:∀b u,H b=aa u->b ∉ ÉI:=λb u e j=>by rw[(g b j).1]at e;cases e
  refine ÈJ (g':=Æw) (d':=Ët) (ch:=ÉI) (λb j=>((g b j).2.2.2.1,(g b j).2.1,(g b j).2.2.2.2.1,(g b j).2.2.2.2.2))
   (λb F _ _ f e _=>U b F f e) (λb F _ _ f e _=>(F.slots,U b F f e)) (λb F _ e n=>n) (λb F f e=>(F,U b F f e))
   (λb xs e=>e) (λb F u e=>e) ÔJ (λm hm=>?_) #[io,b,ub,e] ŷ
  ·obtain F|es|ep|ho|r:=hm;exact(F,es,ep,U _ F #[Ag,g] ho,r)
  ·refine(é b ub e).stay (λc w' f q=>U c w' ?_ q) (λc q=>q) λc xs q=>q;rcases f with z'|z'
   ·rw[z'];exact yd b ub e
   ·exact yd c _ z'
 self:=λ_ _ _ _ _ st h=>ÖR st.1 h
def K1(K:Ä)(b:TA):TI:=λc H R=>b c H λvs a=>X4 λS1 S2 xs ys=>vs=[Src.val S1,Src.val S2]/\ÉG K a xs/\ÉH K a ys/\R (Itz K S1 S2) a
theorem Zvf{X:Cx}{a b:aL}{g:TA}{p pos:Pos}{y:ĭ}{A:Nat}{B:Pos}(C:Gl X "zip")(hm:ė "zip" = ah)(ha:PA X [a,b] g)
  (hs:ÏK:=by rfl) (i:#[fX,b]:=by rfl) :
  PI X (.Tuple y A B) ÖS (K1 X.K g):=by
 rw[fA,j,k,R];refine Call_ (Vp I C hm boot_zip (Qak (thn #[gW,j,k] ?_) (by rw[hs,i]) #[tr,i]));rintro us c ⟨vs,m,d,f,D⟩;obtain S1|S2|xs|ys|e|E|F|q:=D;subst e;obtain u1|u2|rfl|G|J:=f.two;have o:∀ {S:Src} {u:ae},ZI S.val u->∃tk,u=S.value tk:=λ{S u} r=>by
  cases S with
  | l a=>exact(0,r)
  | t a=>exact(0,r)
  | s z=>obtain tk|e:=r;exact(tk,e)
 obtain t1|rfl:=o G;obtain t2|rfl:=o J;obtain iC|f|m1|f1:=d.src E;obtain iY|K|m2|f2:=d.src F;refine ZrO f K λL v M N O P a3 Q=>ÖR v ?_;have T:#[fQ,j,k,m,c,L]:=d.kept (t':=Åp) Q;have n:=Ñc;refine⟨_,_,_,_,m,rfl,T,Zri (S1:=S1) (S2:=S2) (z:=À4+4) (TI:=À4+2) (TO:=À4+3) (i1:=Ñc) (i2:=À4+1)
  (QG Çc) (QG Çc) (QG (QaG Å)) (QG Çc)
  (QG Çc) (Q4 (QaG Å)) (Q4 Çc) (Q4 (QaG Å))
  (Q4 Çc) (QG (QaG Å)),(v,M,(_,_,N),O,P),λb w=>?_,q⟩
 have x:À4<=b:=by
  simp only[Âe,Är,Äs]at w;rcases w with rfl|rfl|rfl|rfl|rfl
  ·exact QaV _ 4
  ·exact QaV _ 2
  ·exact QaV _ 3
  ·exact Qd _
  ·exact QaV _ 1
 exact #[Af,x]
section
variable {X:Cx} (K:Ä)
theorem ixL(h:X.K=K:=by rfl):IxR X (Li K):=by subst h;exact Zss
theorem ixT(h:X.K=K:=by rfl):IxR X (Lh K):=by subst h;exact Zu8
theorem slL(h:X.K=K:=by rfl):SlR X (Lf K):=by subst h;exact Zsh
def ZwL:À V->Hp->VK->Prop:=λxs H Q=>X2 λp ys=>xs=À6/\#[iC,K,ys]/\Q (.int į) H
theorem Y2(h:X.K=K:=by rfl):YS X ÆZ (ZwL K):=by subst h;exact Zj6
theorem SW(h:X.K=K:=by rfl):YS X È3 (K3 K):=by subst h;exact Zq5
def Zwc:À V->Hp->VK->Prop:=λxs H Q=>X2 λ(p:af) (bs:À Ê)=>xs=À6/\SqL K H p (bs.map V.bl)/\Q (.bl (bs.all id)) H
theorem K0(hc:Ÿ:=by rfl)(h:X.K=K:=by rfl):YS X #[fO,"all"] (Zwc K):=by subst h;exact ZpL hc
def Zv5:V->À V->Hp->VK->Prop:=λx vs H Q=>X3 λ(sep:am) (p:af) (ys:À am)=>x=.str sep/\vs=À6/\SqL K H p Ìs/\#[zd].sum+į*Ìt<=16777216/\Q (.str Öu) H
theorem SV(h:X.K=K:=by rfl):MtR X "str.join" (Zv5 K):=by subst h;exact Zsy
theorem iL{b l:aL}{a:TE}(hl:PE X l a)(h:X.K=K:=by rfl):PI X b l (LR K a):=by subst h;exact ZsI hl
theorem gT{a:ĭ}{k:Nat}{t:TGs}{n:Nat}{pos:Pos}(h:PGs X a t)(b:X.K=K:=by rfl)(hc:Ÿ:=by rfl)
  (c:(bW a Ì).length=n:=by rfl) (d:(bW a Ì).findIdx? ċ=ah:=by rfl):PG X (.Tuple a k pos) (LV K n t):=by subst b;exact Zut hc h c d
theorem iZ{a b:aL}{c:TA}{p pos:Pos}{d:ĭ}{e:Nat}{f:Pos}(hm:ė "zip" = ah)(ha:PA X [a,b] c)(g:Gl X "zip":=by rfl)(h:X.K=K:=by rfl)
  (i:ÏK:=by rfl) (j:#[fX,b]:=by rfl) :
  PI X (.Tuple d e f) ÖS (K1 K c):=by subst h;exact Zvf g hm ha i j
universe E
structure Df (P:aA) (w:aF) (K:Ä) (mg:Ą) (Â:aJ) (k:Nat) (x:am) (ps:Ï) (sp:Sp):Prop where
 ex:X2 λf fd=>YN P w K mg Â CX0 k f fd ps sp/\mg x=aa Ĉ/\Áq K Ĉ=true/\Ys K fd ps []
section
variable {P:aA} {w:aF} {K:Ä} {mg:am->Ã ae} {Â:aJ}
structure Top (K:Ä) (mg:Ą) (x:am) (st:aK) (ps:Ï):Prop where
 ex:X2 λf fd=>Fun K x x st f fd/\mg x=aa Ĉ/\Ys K fd ps []
theorem Top.df{x:am}{st:aK}{N ps:Ï}{k:Nat}{sp:Sp}(T:Top K mg x st ps)(S:Äi)(len:Ãb)
  (c:∀ (a:ae) (f:af) (A:aE) (Ü:À Env) (s:ak) (H:Hp) (vs:À V) (Q:VK) (E:XK),Zt k #[gb,x]->sp vs H Q E ->
   ∃t,PSs (Xp CX0 P w K mg Â N x (Zi st) f a A Ü s H E).nox Âx t/\t { nx:=#[iW,d],rt:=Q } Áu H):Df P w K mg Â (k+1) x ps sp:=by
 rw[ty,e];exact(f,e,F.ok S len #[fi,g,c],m,F.kp,b)
universe E
section
variable {X:Cx} {k j:Nat} {x:am} {ps:À am} {sp:Sp} {e:aL} {es:À aL} {t:TA} {p pos:Pos}
theorem ZG(F:Df ü X.w X.K ė ň k x ps sp)(hr:ÂC)(ha:ξ)(a:k<=j:=by decide)(c:ő:=by rfl)(d:Ĵ:=by decide)
  (g:Ρ:=by rfl) (h:Át:=by rfl) :
  PE X Äd (Ls sp [] E0 t):=by
 rw[tl,m,i,b];exact Ztu F (Âq a) c m i b .nil UF ha d g h
theorem Vi{T:ł}(hm:ė x=ah)(a:cx x=aa (.type T))(b:ő:=by rfl)(hn:ÈM:=by decide)(hd:Ĵ:=by decide):PE X ÀQ (tC (.ty T)) :=
 Zr4 b hm a rfl hn hd
universe E
theorem PR{lo:Int}{n k:Nat}{D:af}{a:St}{c:Hp}{g:TG}{d:TE}{Q:VK}(Pv:Ñd)(h0:#[gA,c])
  (hs:∀i ys a H,i<n->Pv i ys a H->g (.int (lo+i)) a H λf j=>d f j λy h=>h D=aa ÁV/\į<aq/\Pv (i+1) Çd f #[gR,h,ys,y])
  (hd:#[iG,ys,a,n]):V0 Ô0 D k a c g Ww d Q:=by
 rw[eT,ys,a,n];by_cases b:i<n
 ·refine .inr (b,Pv (i+1),λj3 aX l o=>(n-(i+1),by lia,rfl,b,o),λx l y=>?_);rw[e2,e,y,y];subst e y;rw[j9];exact hs i ys a _ b p
 ·have e:i=n:=by lia
  subst e;exact .inl (Qd _,hd ys a H p)
theorem KZ{K:Ä}{S1 S2:Src}{xs ys:ă}{k:Nat}{D:af}{a:St}{h:Hp}{g:TG}{j:TE}{Q:VK}(Pv:Ñd)(h0:#[gA,h])
  (hl:∀i zs a H,Pv i zs a H->ÉG K H xs/\ÉH K H ys)
  (hs:∀i zs a H x y p,xs[i]? = aa x->ys[i]? = aa y->Pv i zs a H->H p=ah->g Ś a (upd H p (.tup [x,y])) λl o=>j l o λz n=>n D=aa Ε/\Ìj<aq/\Pv (i+1) (zs++[z]) l #[gR,n,zs,z])
  (hd:∀zs a H,Pv (min Ö į) zs a H->Q Ū H):V0 (Itz K S1 S2) D k a h g Ww j Q:=by
 refine(λi m zs a H=>m=min Ö į-i/\i<=min Ö į/\Pv i zs a H,(min Ö į,by simp,Qp _,h0),?_);rintro i m zs a H ⟨rfl,hi,p⟩;obtain b|c:=hl i zs a H p;by_cases q:i<min Ö į
 ·have d:i<Ö:=by lia
  have f:i<į:=by lia
  refine .inr ((xs,ys,b,c,d,f),Pv (i+1),λj3 aX s t=>(min Ö į-(i+1),by lia,rfl,q,t),λx s y=>?_);obtain r|u|rfl|e:=y;have v:=e xs ys b c _ _ (Qb d) (Qb f);subst v;rw[j9];exact hs i zs a H _ _ r (Qb d) (Qb f) p u
 ·have e:i=min Ö į:=by lia
  refine .inl ((xs,ys,b,c,by lia),hd zs a H Çe)
section
variable {X:Cx} {N N':À am} {o c:bn} {x:am} {pos:Pos} {C:af} {s:ak} {H:Hp} {fp:À af}
theorem PQ(S:Àg)(a:Àh)(hl:Ñe):(ÉJ).env.scope.names.lookup x=aa .local:=by have e:=#[uo,a,C];rw[hl]at e;exact e
theorem Vh(S:Àg)(a:Àh)(hl:ũ x=aa .globalImplicit):Gl ÉJ x:=by have e:=#[uo,a,C];rw[hl]at e;exact e
theorem Zrn(S:Àg)(b:Àh)(hl:ÐS):Vis (ÉJ).env.scope x:=by
 have e:=#[uo,b,C];rw[hl]at e;have a:(ÉJ).env.scope.names.lookup x=if Ák x=aa .cell then aa Ìp else aa Äj:=e
 by_cases z:Ák x=aa .cell
 ·rw[tM,z,a];exact .inr (.inl a)
 ·rw[sR,z,a];rw[ug,a]
theorem cv(i:Nat)(S:Àg)(a:Àh)(hl:ÐS)(b:#[Au,N',x]:=by rfl)(hd:Ĵ:=by decide)(d:ËE:=by decide) :
  PE ÉJ ÀQ (Vq i):=Rs b (Zrn S a hl) hd d
theorem cw(i:Nat)(S:Àg)(a:Àh)(hl:Ñe)(b:#[Au,N',x]:=by rfl)(hd:Ĵ:=by decide)(d:ËE:=by decide) :
  PE ÉJ ÀQ (Vq i):=Rs b (.inl (PQ S a hl)) hd d
theorem cg(i:Nat)(S:Àg)(a:Àh)(hl:Ñe)(b:#[Au,N',x]:=by rfl):PG ÉJ ÀQ (S9 i) :=
 Zw S.nd b (.inl (PQ S a hl)) (.inr (PQ S a hl))
universe E
mutual
inductive DV (K:Ä) (H:Hp):V->aQ->Prop where
 | non:DV K H .non .none
 | bl (b:Ê):DV K H (.bl b) (.bool b)
 | int (i:Int):DV K H (.int i) (.int i)
 | str (s:am):DV K H (.str s) (.str s)
 | lst {a:af} {xs:À V} {ds:À aQ}:SqL K H a xs->DVs K H xs ds->DV K H (.ref a) (.list ds)
 | tup {a:af} {xs:À V} {ds:À aQ}:SqT K H a xs->DVs K H xs ds->DV K H (.ref a) (.tuple ds)
inductive DVs (K:Ä) (H:Hp):À V->À aQ->Prop where
 | nil:DVs K H [] []
 | Ñ {x:V} {d:aQ} {xs:À V} {ds:À aQ}:DV K H x d->DVs K H xs ds->DVs K H (x::xs) (d::ds)
end
section
variable {X:Cx} {aj:À (af×aN)} {σ:St} {H:Hp} {s:ak}
mutual
theorem Inv.reads(I:â):∀ {x:V} {d:aQ} {u:ae},DV X.K H x d->ZI x u->∃a,Reads Í u d a
 | _,_,_,.non,r=>by cases r;exact(_,.none)
 | _,_,_,.bl b,r=>by cases r;exact(_,.bool b)
 | _,_,_,.int i,r=>by obtain t|rfl:=r;exact(_,.int i t)
 | _,_,_,.str z,r=>by obtain t|rfl:=r;exact(_,.str z t)
 | _,_,_,.lst h c,r=>by cases r;obtain its|f|⟨o,n,e,g,_,hd⟩|_:=Âm h;rw[ys];exact(_,reads_list_at e g hd #[eE,q])
 | _,_,_,.tup h c,r=>by cases r;obtain its|f|⟨o,e,g,n,hd⟩|_:=Ân h;rw[ys];exact(_,reads_tuple_at e g hd #[eE,q])
theorem Ñf(I:â):∀ {xs:À V} {ds:À aQ} {us:À ae},DVs X.K H xs ds->ZF xs us->∃a,ReadsAll Í us ds a
 | _,_,_,.nil,r=>by cases r;exact(_,.nil)
 | _,_,_,.cons h hs,r=>by
  cases r with
  | Ñ b c=>obtain a|d:=Inv.reads I h b;obtain bs|e:=Ñf I hs c;exact(_,.cons d e)
end
universe E
mutual
theorem DV.mono{K:Ä}{H a:Hp}(s:Zu H a):∀ {x:V} {d:aQ},DV K H x d->DV K a x d
 | _,_,.non=>.non
 | _,_,.bl b=>.bl b
 | _,_,.int i=>.int i
 | _,_,.str z=>.str z
 | _,_,.lst h hs=>.lst (s.seq h) Ñg
 | _,_,.tup h hs=>.tup (by
   rcases h with(h|⟨ob,h⟩)|h
   ·exact .inl (.inl (s _ _ h))
   ·exact .inl (.inr (ob,s _ _ h))
   ·exact .inr h) Ñg
theorem DVs.mono{K:Ä}{H a:Hp}(s:Zu H a):∀ {xs:À V} {ds:À aQ},DVs K H xs ds->DVs K a xs ds
 | _,_,.nil=>.nil
 | _,_,.cons h hs=>.cons (DV.mono s h) Ñg
end
def Ite(K:Ä)(a:af):It :=
 ⟨λi H=>∃b,SqL K H a b/\i<Ň,
  λi H v c=>∃p,H p=ah/\v=.ref p/\∀b,SqL K H a b->∀x,b[i]? = aa x->c=upd H p #[sW,i],
  λi H=>∃b,SqL K H a b/\Ň<=i⟩
theorem ZoD{P:aA}{w:aF}{K:Ä}{R:ĭ}{S:Nat}{T:Pos}{a e it:af}(G:e≠it) :
  V3 P w K (.Tuple R S T) Ñh [e,it] e (λi h=>(∃l,IsEnum h e it i l)/\ÈQ it a i) where
 mem:=by simp
 obj:=λi h st b d=>by
  obtain ⟨l,f⟩|o|g|j|hd:=st;rw[64];rcases d with rfl|rfl
  ·rw[f2,f,v,z]
  ·exact(o,g,λv z=>by rw[hd]at z;cases z)
 Ė:=λi h p st k=>by obtain ⟨l,f⟩|g:=st;exact((l,k e Ù _ f),g.at λo q=>k it Ù o q)
 item:=by
  intro X r hw t j i J s L H E I m st y;rw[dG];obtain u|U|V:=B.get (Qb A);refine wpAny_pyNext_enum_item f g C.isList (x:=u) #[eE,U] G λp W Y Z a4 a5=>?_;have lt:Ñb:=λq=>Q4 (Ql q);have AE:Ò≠e:=lt f;refine(_,rfl,wpAny_letOwnedTupleGo_enum W λD N tO=>?_);have F:#[z7,e,p,D]:=tO;have O:D.IsListIter it a (i+1):=Y.extBut F.extBut G.symm;have I2:Inv X J L (upd H Ò (.tup [.int i,M[i]])) { s with Õ:=D,õ:=œ+1 }:=by
   refine I.zipped (fp:=[e,it]) (u:=.int i œ) (v:=u) m ā V (F.extBut _ _ AE Z) (λb d=>?_) λc o j q=>?_
   ·rw[64];rcases d with rfl|rfl
    ·exact(_,N)
    ·obtain o|q|_:=O;exact(o,q)
   ·simp only[Âe,Är,Äs,not_or]at j;exact F.extBut _ _ j.1 (a5 c o j.1 j.2 q)
  refine(.ref Ò,_,I2,rfl,(Ò,Æ0,rfl,λxs' w1 x' Q=>?_),((_,N),O),λb d=>?_)
  ·have e3:=ÏH w1 n;subst e3;rw[Qb A]at Q;cases Q;rfl
  ·rw[Ze (λz=>by
    obtain⟨o,q⟩:∃o,í b=aa o:=by
     rw[64];rcases d with rfl|rfl
     ·exact(_,f)
     ·obtain o|q|_:=g;exact(o,q)
    exact lt q Çf)]
   exact(m b d).1
 done:=by intro X r hw t j i J s L H E I m st y;rw[dG];rw[uZ];have hl:=ÉK;exact wpAny_pyNext_enum_end (ÁP j) f g C.isList #[fs,Qaz,Qaf,Á] λp eb=>(rfl,Áo (t':=ļ) (λb o d q=>eb b o d q) f0 f1 f3 f4 f5)
 self:=λ_ _ _ _ _ st h=>by obtain ⟨l,f⟩|_:=st;exact ÖT f h
def KY(K:Ä)(c:TA):TI:=λd H R=>c d H λvs b=>X2 λa xs=>vs=[ø a]/\SqL K b a xs/\R Ñh b
theorem Zr8{X:Cx}{l:aL}{f:TA}{p pos:Pos}{o:ĭ}{r:Nat}{t:Pos}(v:Gl X "enumerate")(hm:ė "enumerate" = ah)(ha:PA X [l] f)
  (hs:#[fX,l]:=by rfl):PI X (.Tuple o r t) ÖU (KY X.K f):=by
 rw[fA,g,i,R];refine Call_ (Vp I v hm boot_enumerate (Qak (thn #[gW,g,i] ?_) hs rfl));rintro us c ⟨vs,j,d,w,x⟩;obtain a|xs|e|y|q:=x;subst e;rw[je,u,z,w.one];cases z;obtain its|rv|A|_:=d.list y;refine call_enumerate_list A.isList λB k C hsz D=>ÖT k ?_;have E:#[fQ,g,i,j,c,B]:=d.kept (t':=Åp) D;refine(_,_,_,_,j,rfl,E,ZoD (a:=a) (e:=À4+1) (it:=Ñc) (Q4 Ï5),((_,k),C),λb m=>?_,q);have n:À4<=b:=by
  simp only[Âe,Är,Äs]at m;rcases m with rfl|rfl
  ·exact QaV _ 1
  ·exact Qd _
 exact #[Af,n]
theorem iE{X:Cx}(K:Ä){l:aL}{a:TA}{p pos:Pos}{b:ĭ}{c:Nat}{d:Pos}(hm:ė "enumerate" = ah)(ha:PA X [l] a)(e:Gl X "enumerate":=by rfl)(f:X.K=K:=by rfl)
  (g:#[fX,l]:=by rfl):PI X (.Tuple b c d) ÖU (KY K a):=by subst f;exact Zr8 e hm ha g
theorem T0{K:Ä}{a:af}{xs:ă}{g:TG}{l:TS}{D:XA}{b:St}{H:Hp}(Pv:ËL)(h0:Pv 0 b H)(hl:∀i b H,Pv i b H->SqL K H a xs)
  (hs:∀i x b H p,xs[i]? = aa x->Pv i b H->H p=ah->g Ś b (upd H p #[sW,i]) λf h=>l { D with nx:=Pv (i+1),ct:=Pv (i+1),bk:=Ħ } f h) (hd:Ô2) :
  ∃W:Nat->Nat->St->Hp->Prop,(∃m,W 0 m b H)/\∀i m b H,W i m b H ->
   ((Ñh).stop i H/\Ħ b H)\/((Ñh).go i H/\∃N:St->Hp->Prop,#[gQ,j,c,n]/\∀x c,(Ñh).yld i H x c->g x b c λf h=>l { D with nx:=N,ct:=N,bk:=Ħ } f h):=by
 refine Ô3;rw[ue,b,hi];have k:=hl i b H p;by_cases d:i<Ö
 ·refine .inr ((xs,k,d),Pv (i+1),λj c o=>(Ö-(i+1),by lia,rfl,d,o),λx c y=>?_);obtain r|q|rfl|e:=y;have s:=e xs k _ (Qb d);subst s;exact hs i _ b H r (Qb d) p q
 ·have e:ËM:=by lia
  exact .inl ((xs,k,by lia),hd b H Çe)
def ZvB(K:Ä):À V->Hp->VK->Prop:=λxs H Q=>X2 λp ys=>xs=À6/\#[iC,K,ys]/\∀l,H l=ah->Q Ŋ #[um,l]
theorem KW{X:Cx}(K:Ä)(h:X.K=K:=by rfl):YS X Éh (ZvB K):=by subst h;exact ZjS
theorem Zsq{α:Type}(its:À α)(k:Nat)(u:α)(h:k<=ÆY):((ÖV 0 k).push u++ÖV k).toList=its.take k++u::its.drop k:=by simp;exact Qy #[fH,QL]
section
variable {X:Cx}
def ZsR:V->À V->Hp->VK->Prop:=λx vs H Q=>X4 λl xs i y=>C7 Él (vs=[.int i,y]) Ém (0<=i) (i<=Ö) (Ö<aq) (Q .non (upd H l (.lst (xs.take Áv++y::Èw Áv))))
theorem Zpa:MtM X "list.insert" ZsR:=by
 rw[gK,vs,us,b,c];obtain l|xs|i|y|rfl|rfl|a|i0|i1|hz|q:=h;cases b;obtain ui|u|rfl|d|f:=c.two;rw[tR,d];rw[tt,n,hl,a];have cT:aq=16777216:=aO;refine Ãd F.slot_list_insert ÅE F.entry_list_insert (F.args_list_insert_3 _ _ _) (AutoSeq1.list_insert_list_int_val_1 l Ĕ n i t u (by rw[fitsIndex_both Á Á];decide) #[fH,QA]) (e,?_);refine(.non,_,I.lset (its':=its.take Áv++u::its.drop Áv) a e ?_ ((r.take Áv).append (.cons f (r.drop Áv))) ?_,rfl,q)
 ·have g:min Áv ÆY=Áv:=by lia
  simp only[Èt];rw[È Á,g];apply Array.ext';exact Zsq its Áv u Á
 ·rw[Qg,Qx,QE,QL];lia
theorem inQ(K:Ä)(h:X.K=K:=by rfl):OpR X Ås (rIn K false):=by subst h;exact Zoe
def Zwk(K:Ä):À V->Hp->VK->Prop:=λxs H Q=>X2 λp ys=>xs=À6/\((SqL K H p ys/\∀l,H l=ah->Q Ŋ (upd H l (.tup ys)))\/(SqT K H p ys/\Q Ś H))
theorem Zxw(K:Ä)(h:X.K=K:=by rfl):YS X (.type "tuple") (Zwk K):=by subst h;exact ZiO
universe E
def Its(z:am):It:=(λi _=>i<ς,λi H v a=>a=H/\∃c,Ŕ[i]? = aa c/\v=.str Ũ,λi _=>ς<=i)
theorem Zpe{P:aA}{w:aF}{K:Ä}{F:aL}(z:am)(t:Tok)(it:af):V3 P w K F (Its z) [it] it (λi h=>ÐY it "str_ascii_iterator" z t i) where
 mem:=by simp
 obj:=λi h st b a=>by
  have e:b=it:=by simpa using a
  rw[52]
 Ė:=λi h f st k=>by obtain o|e|r:=st;exact Ñi
 item:=by intro X j hw l y i A s B H E I g st m;rw[pV];refine wpAny_pyNext_ascii_item st C λf D J=>?_;rw[16]
 done:=by intro X j hw l y i A s B H E I g st m;rw[bH];exact wpAny_pyNext_ascii_end (ÁP y) st (Qba m) λf M=>(rfl,Áo (t':=ļ) #[gl,b,a,M,a] n p q u x)
 self:=#[s1,wpAny_pyIter_striter_ascii]
theorem ZoT{P:aA}{w:aF}{K:Ä}{F:aL}(z:am)(t:Tok)(it:af):V3 P w K F (Its z) [it] it (λi h=>ÐY it "str_iterator" z t i) where
 mem:=by simp
 obj:=λi h st b a=>by
  have e:b=it:=by simpa using a
  rw[52]
 Ė:=λi h f st k=>by obtain o|e|r:=st;exact Ñi
 item:=by intro X j hw l y i A s B H E I g st m;rw[pV];refine wpAny_pyNext_wide_item st C λf D J=>?_;rw[16]
 done:=by intro X j hw l y i A s B H E I g st m;rw[bH];exact wpAny_pyNext_wide_end (ÁP y) st (Qba m) λf M=>(rfl,Áo (t':=ļ) #[gl,b,a,M,a] n p q u x)
 self:=#[s1,wpAny_pyIter_striter_wide]
section
variable {X:Cx} {tg:aL}
def ZxA(a:TE):TI:=λb H R=>a b H λx c=>∃z,x=.str z/\R (Its z) c
theorem PP{l:aL}{f:TE}(hl:PE X l f):PI X tg l (ZxA f):=by
 rw[fA,g,j,R];refine thn #[gO,hl,g,j] ?_;rintro v a ⟨x,d,c,k,m⟩;rw[ja,z,e,q,m];subst e;rw[tR,k];have fp:∀b∈[Ày],Xa X g d b:=λb n=>by
  have e:b=Ày:=by simpa using n
  subst e;exact c.fpOk ò (c.hok.fresh ò)
 cases i:Ð0 (·<128)
 ·exact wpAny_pyIter_wide i (Ày,[Ày],_,_,d,rfl,c.kept (t':=È4) λb o e=>Qc _ e,ZoT z t _,Åq,fp,q)
 ·exact wpAny_pyIter_ascii i (Ày,[Ày],_,_,d,rfl,c.kept (t':=È4) λb o e=>Qc _ e,Zpe z t _,Åq,fp,q)
theorem KU{z:am}{g:TG}{k:TS}{D:XA}{a:St}{H:Hp}(Pv:ËL)(h0:Pv 0 a H)
  (hs:∀i c a H,Ŕ[i]? = aa c->Pv i a H->g Ìe a H λd f=>k { D with nx:=Pv (i+1),ct:=Pv (i+1),bk:=Ħ } d f) (hd:∀a H,Pv ς a H->Ħ a H) :
  ∃W:Nat->Nat->St->Hp->Prop,(∃m,W 0 m a H)/\∀i m a H,W i m a H ->
   ((Its z).stop i H/\Ħ a H)\/((Its z).go i H/\∃N:St->Hp->Prop,#[gQ,h,b,l]/\∀x b,(Its z).yld i H x b->g x a b λd f=>k { D with nx:=N,ct:=N,bk:=Ħ } d f):=by
 refine(λi m a H=>m=ς-i/\i<=ς/\Pv i a H,(ς,by simp,Qp _,h0),?_);rw[ue,a,hi];by_cases j:i<ς
 ·refine .inr (j,Pv (i+1),λh b n=>(ς-(i+1),by lia,rfl,j,n),λx b y=>?_);obtain rfl|c|o|rfl:=y;exact hs i c a _ o p
 ·have e:i=ς:=by lia
  exact .inl (ÐD j,hd a H Çe)
theorem KS:OpR X (aV .Gt) (λx y H Q=>X2 λi j=>x=.str i/\y=.str j/\Q (.bl (decide (ÏQ<i.cps.toList))) H):=by intro aj s σ H x y v u Q I a b h;obtain i|j|rfl|rfl|q:=h;obtain t|rfl:=a;obtain t'|rfl:=b;exact PySem.P.gt_str (ZX I q rfl)
universe E
def KR:aQ->am
 | .str z=>z
 | d=>d.shown
def KQ(K:Ä):À V->Hp->VK->Prop:=λxs H Q=>X2 λx d=>C6 (xs=[x]) (DV K H x d) (Çg d=true) (d.intsShort 13=true) (d.showable=true) (Q (.str (KR d)) H)
theorem ZoC{X:Cx}(n:X.A.guards=aa [])(hu:ÉL+64+30<Ás):YS X ÉM (KQ X.K):=by
 rw[iB,p,y,xs];obtain x|d|rfl|hd|c|B|l|q:=h;obtain u|rfl|f:=Xy r;have C:d.shown.length<=aq:=Qj (shown_le13 c B) Ñj;have hdp:ÌL<=64:=by unfold Çg at c;rw[QT,QT]at c;exact #[eQ,c.1.2]
 have D:d.canLay0=true:=by unfold Çg at c;rw[QT,QT]at c;exact c.1.1
 have ref:∀a,u=.ref a->KR d=d.shown->ý (Œ ÉM [u]) (EP X p y Q) ê s:=λa E G=>by
  subst E;obtain as|J:=I.reads hd f;rw[G]at q;exact callType_new F.called_str Å (F.typeCall_str_1 _) (F.newCall_str_1 _) (λobj=>F.args_object_init_2 obj _) F.entry_str_new
   (meets_str_new (v:=.ref a) (S:=λA R m=>m=s/\A=X.A.in1/\∀g u tk,#[tS,g.get?]->R (.ok (.ret (.str d.shown u))) { s with Õ:=g,õ:=tk }) λprog w A R m j=>by obtain rfl|rfl|j:=j;exact strOf_of_reads J l (aQ.noDict_hsm (aQ.hasDict_of_canLay d D)) n (by show ÉL+1+1+(ÌL+1)<Ás;lia) Ëv (λg u tk k=>j g u tk k) C)
   (rfl,rfl,λg u tk k=>(Ìf _ _ _,.str _,H,Âp k,ā,q))
 cases hd with
 | non=>cases f;exact PySem.P.str_of_none #[g6,_,q]
 | bl b=>cases f;exact PySem.P.str_of_bool #[g6,_,q]
 | int i=>obtain t|rfl:=f;exact PySem.P.str_of_int (ŋ l) #[g6,_,q]
 | str z=>obtain t|rfl:=f;exact PySem.P.str_of_str Öx
 | lst K L=>cases f;exact ref _ rfl rfl
 | tup K L=>cases f;exact ref _ rfl rfl
theorem SU{X:Cx}(K:Ä){k:Nat}(hr:ν)(h:X.K=K:=by rfl):YS X ÉM (KQ K):=by subst h;exact ZoC hr.gd (by have:=hr.un;lia)
theorem Zo3{z:am}{k:Nat}{D:af}{a:St}{h:Hp}{g:TG}{j:TT}{l:TE}{Q:VK}(Pv:Ñd)(h0:#[gA,h])
  (hs:∀i c ys a H,Ŕ[i]? = aa c->Pv i ys a H->g Ìe a H λd q=>j d q λb n=>if b=true then l d n λy o=>o D=aa ÁV/\į<aq/\Pv (i+1) Çd d #[gR,o,ys,y] else Pv (i+1) ys d n)
  (hd:#[iG,ys,a,ς]):V0 (Its z) D k a h g j l Q:=by
 rw[eT,ys,a,ς];by_cases f:i<ς
 ·refine .inr (f,Pv (i+1),λj3 aX r s=>(ς-(i+1),by lia,rfl,f,s),λx r y=>?_);obtain rfl|c|t|rfl:=y;exact hs i c ys a _ t p
 ·have e:i=ς:=by lia
  exact .inl (ÐD f,hd ys a H Çe)
def Xw(kvs:Ż)(k:Ζ):Ã V:=ÖW
abbrev VH(H:Hp):À (À Key×V)->À (À Key×af×ae)->Prop:=ÃU λ(p:À Key×V) (q:À Key×af×ae)=>p.1=q.1/\H q.2.1=aa Ëf/\ZI p.2 q.2.2
theorem Zou{H:Hp}{kvs:Ż}{xs:ÂD}(r:Çh){p:À Key×V}{q:À Key×af×ae}(h:p.1=q.1/\H q.2.1=aa Ëf/\ZI p.2 q.2.2):VH H (kvs++[p]) (xs++[q]):=by
 induction r with
 | nil=>exact .cons h .nil
 | Ñ a t b=>exact .cons a b
theorem Zod{H c:Hp}{kvs:Ż}{xs:ÂD}(k:#[jr,ys,c])(r:Çh):VH c kvs xs:=by
 induction r with
 | nil=>exact .nil
 | Ñ a t d=>exact .cons (a.1,k _ _ a.2.1,a.2.2) d
theorem KP{H:Hp}{R:À Key->af->Prop}(k:∀ks b,H b=aa Ät->R ks b){kvs:Ż}{xs:ÂD}(r:Çh):∀x∈xs,R x.1 x.2.1:=by
 induction r with
 | nil=>intro x hx;cases hx
 | Ñ a t c =>
  intro x hx;rcases î hx with rfl|hx
  ·exact k _ _ #[fE,a.1,a.2.1]
  ·exact c x hx
theorem ZqX{H:Hp}{kvs:Ż}{xs:ÂD}(r:Çh):Ă=Ö:=by
 induction r with
 | nil=>rfl
 | Ñ a t b=>rw[QE,QE,b]
theorem Zu0{P:aA}{w:aF}{k:Key}{u:ae}(r:ZI (kV k) u):(ÃV).is k u=true:=by
 rcases k with i|x
 ·obtain t|e:=Ï1;rw[e];exact Me P w i t
 ·obtain t|e:=Ï2;rw[e];exact Md P w x t
theorem PN{P:aA}{w:aF}:∀ (ks:À Key) (us:À ae),ZF ÅM us->ItemsAre ÃV ks us:=by
 intro ks;induction ks with
 | nil=>intro us r;cases (show ZF [] us from r);exact .nil
 | Ñ k ks c =>
  intro us r;cases (show ZF (kV k::Áx kV) us from r) with
  | Ñ a b=>exact .cons (Zu0 a) (c _ b)
section
variable {X:Cx} {aj:À (af×aN)} {σ:St} {H:Hp} {s:ak}
theorem Inv.tkey{ks:Ζ}{b:af}(I:â)(e:H b=aa Ät):(ÑJ).is Í ks b:=by obtain _|its|r|a:=é b _ e;obtain o|c|d|n|f:=a;refine(o,Ĕ,n,c,d,f,?_);have:=PN (P:=ü) (w:=X.w) ks its r;simpa using this
def Zwh:TE:=λ_ H Q=>∀p,H p=ah->Q Ś (upd H p (.dT []))
theorem PM{pos:Pos}:PE X (.Dict [] [] pos) Zwh:=by intro aj s σ H Q I h;have a:bE<Ò:=Ñk Å (show aM<Ò from#[zJ].lt);refine ÖX (.ref Ò,upd H Ò (.dT []),?_,rfl,h _ ÁT);refine Àv (t':=ļ) Ék ò ?_;refine(Qp _,?_,[],.nil,_,#[],0,Qs _ rfl,Ñl,rfl,rfl,List.nodup_nil);exact Èv λz=>Qal _ (z ▸ a)
universe E
def Zwu:À V->Hp->VK->Prop:=λxs H Q=>∃j:Int,xs=[.int j]/\∀p,H p=ah->Q Ś (upd H p (.rng 0 j))
theorem Zxy{X:Cx}:YS X (.type "range") Zwu:=by intro aj s σ H xs us Q I r h;obtain j|rfl|q:=h;obtain u|rfl|t|rfl:=Xy r;refine call_range_1 (.ref Ò,_,Àv (a:=È1) (o:=.rng 0 j) #[hX,b,o,e] ò ?_,rfl,q _ ÁT);exact(_,_,_,Qs _ rfl)
def X1(lo:Int)(n:Nat):À Int:=(À7 n).map λ(k:Nat)=>lo+k
theorem SS(lo:Int)(n:Nat):(X1 lo n).length=n:=by simp[X1]
theorem Zmc{lo:Int}:∀ (n:Nat) (us:À ae),ε=n->(∀ (j:Nat) (v:ae),us[j]? = aa v->∃t,v=Âh (lo+j*1) t)->ZF ((X1 lo n).map ß) us:=by
 intro n us b h;subst b;induction us generalizing lo with
 | nil=>exact .nil
 | Ñ u r c =>
  have e:X1 lo (u::r).length=lo::X1 (lo+1) μ:=by unfold X1;rw[QE,List.range_succ_eq_map,Qh,Qz];refine congr (ħ _ Ù) (QU λa _=>?_);rw[k7];lia
  rw[e,Qh];refine .cons ?_ (c λj v d=>?_)
  ·obtain t|e:=h 0 u rfl;exact(t,by rw[e];simp)
  ·obtain t|e:=h (j+1) v #[eE,d];exact(t,by rw[e];congr 1;lia)
def Zvl:À V->Hp->VK->Prop:=λxs H Q=>X3 λ(p:af) (lo a:Int)=>C8 (xs=À6) (H p=aa (.rng lo a)) (-Ã6<=lo) (lo<2 ^ 62) (-Ã6<=a) (a<2 ^ 62) ((a-lo).toNat<=1000) (∀l,H l=ah->Q Ŋ (upd H l (.lst ((X1 lo (a-lo).toNat).map ß))))
theorem Zwm{X:Cx}(hc:Ÿ:=by rfl):YS X Éh Zvl:=by
 rw[cu];obtain p|lo|b|rfl|d|f|g|i|k|l|q:=h;rw[fu,m];obtain t|u|v|e:=é _ _ d;have sz:Ô1 lo b 1=#[t9,b]:=by rw[rangeSize_one];split<;>lia
 refine call_list_range Â3 e (small_one f g i k) sz Á λn tk a o w x c=>?_;refine(.ref Ò,_,Àv (t':=tk) w ò (show Y1 ü X.w _ n _ (.lst ((X1 lo (b-lo).toNat).map ß)) from(?_,ÉN,o,Zmc _ _ #[eE,c.1] (λj v y=>c.2 j v #[eE,y]),by simpa using x)),rfl,q _ ÁT);rw[Qa,SS];exact QaC (ZD l)
section
variable {X:Cx}
theorem UD{è:aA}{w:aF}{A:aE}{E:ñ}{s:ak}{a:af}{o:aN}{xs:Â4}{n:Nat}{Q:ē ae->ak->Prop}(b:í a=aa o)(hd:ş=.seq xs n)(h:Q xs s):av Ð A (ÌM ą) Q E s:=by unfold ÌM;exact ai (bv b hd (aw h))
theorem SR(ns:Ô):∀n,n<=ď->preSum (λj=>ns.getD j 0) n=(ÉO n).sum
 | 0,_=>rfl
 | n+1,h=>by
  have ih:=SR ns n Á;have e:ÉO (n+1)=ÉO n++[ns.getD n 0]:=by rw[QI,Qb Á,QJ,Qb Á];rfl
  rw[e,ÌN,<- ih];simp[preSum]
universe E
section
variable {è:aA} {w:aF} {A:aE} {E:ae->ak->Prop} {s:ak} {κ:Äu} {k0:ÂE} {aZ:ē Áy} {st:Η}
def Wj(è:aA)(w:aF)(A:aE)(s:ak)(k0:ÂE)(κ:ÂF):Prop :=
 ∀ (E:ae->ak->Prop) (x y:ae) (a b:κ.α) (Q:Ê->ak->Prop),Çi x=aa a->Çi y=aa b->Q (ÅN a b) s->av Ð A (keyLt' k0 x y) Q E s
structure SB (k0:ÂE) (aZ:Ãj) (st:Η):Prop where
 perm:(Ě).Perm aZ
 kind:ο st=k0
 failed:ÅO st=ah
 pend:À8 st = #[]
theorem SB.size(B:Á0):(Ě).size=Ľ:=B.perm.size_eq
theorem SB.at(B:Á0)(hk:Ãk){i:Nat}(hi:i<Ľ):X2 λx p=>(ę st)[i]? = aa (x,p,)/\Çi x=aa (KK κ Ě i):=by
 have hs:=B.size;have e:Ě[i]? = aa Ě[i]:=Qad Á;have b:Ě[i]∈aZ.toList:=by have c:Ě[i]∈ę st:=Array.getElem_mem Á;have d:=(B.perm.mem_iff (a:=Ě[i])).mp c;simpa using d
 obtain a|f:=hk _ b;refine(Ě[i].1,Ě[i].2,e,?_);unfold KK;rw[e];show _=aa ((Çi Ě[i].1).getD κ.dflt);rw[f];rfl
theorem SB.set(B:Á0){xs:Ãj}(h:xs.Perm Ě):SB k0 aZ (setArr st xs):=(h.trans B.perm,B.kind,B.failed,B.pend)
theorem w_elem{arr:Ãj}{i:Nat}{p:Áy}{Q:#[tX,Áy]}(h:#[Au,arr,p])(q:Q p st):wpS Ð A E s (elem' arr i) Q st:=by rw[elem'_eq,h];exact ū q
theorem w_lt(a:Äv)(hk:Ãk)(B:Á0){i j:Nat}(b:i<Ľ)(c:j<Ľ){Q:Ã Ê->Η->Prop}(q:Q (aa (ÅN (KK κ Ě i) (KK κ Ě j))) st):wpS Ð A E s (ltAt' i j) Q st:=by obtain x|p|d|e:=B.at hk b;obtain y|p'|f|g:=B.at hk c;rw[ltAt'_eq];refine Ō (ÉP ?_);show wpS _ _ _ _ (elem' Ě i >>= _) _ _;refine Ō (w_elem d (Ō (w_elem f ?_)));rw[lt'_eq];refine Ō (ÉP (Ō (wpS_lift (ÉC ?_))));rw[B.kind];refine a _ x y _ _ _ e g Ãl;exact ū q
theorem Zpv{xs:Ãj}{i:Nat}(h0:1<=i)(S:Ŭ κ xs i)(h:Áz (KK κ xs (i-1)) (KK κ xs i)):Ŭ κ xs (i+1):=by
 intro a b c hb;by_cases e:b<i
 ·exact S a b c e
 ·have d:b=i:=by lia
  subst d;by_cases f:a=b
  ·subst f;exact Çj
  ·exact ÌO (S a (b-1) Á Á) h
theorem w_asc(h:Äv)(hk:Ãk){a b:Nat}(hn:b<=Ľ)(h1:1<=a)(ha:a<=b)(B:Á0)(S:Ŭ κ Ě a){Q:#[tX,AscSt]}
  (q:∀n,a<=n->n<=b->Ŭ κ Ě n->(n=b\/κ.klt (KK κ Ě n) ÌP)->Q (ah,n,) st):wpS Ð A E s (ascLoop a b) Q st:=by
 unfold ascLoop;refine Çk (λi c d=>d=st/\c=(ah,i,)/\Ŭ κ Ě i) ?_ ?_ (rfl,rfl,S)
 ·rintro i c d f kb ⟨rfl,rfl,e⟩;refine Ō (w_lt h hk B Ñm Ñn ?_);cases g:ÅN (KK κ (ę d) i) (KK κ (ę d) (i-1)) with
  | true=>exact ū (q i f Á e (.inr g))
  | false=>exact ū (rfl,rfl,Zpv Á e g)
 ·rintro c d ⟨rfl,rfl,e⟩;rw[show max a b=b by lia]at e ⊢;exact q b ha ò e Đ
theorem w_rev{i j:Nat}{Q:#[tX,Unit]}(q:Q () (setArr st #[t4,i,j])):wpS Ð A E s (reverseSlice' i j) Q st:=wpS_reverse q
theorem w_desc(D:Äv)(hk:Ãk){n h:Nat}(hn:h<=Ľ)(h1:1<=n)(G:n<=h)(B:Á0)(S:ÅP κ Ě n){Q:#[tX,DescSt]}
  (q:∀ (m f:Nat) (d:Η),SB k0 aZ d->n<=m->m<=h->ÅP κ Υ m->f+1<=m->(∀i,m-(f+1)<=i->i<m->KK κ Υ i=KK κ Υ (m-1))->Q (ah,m,f,) d):wpS Ð A E s (descLoop n h) Q st:=by
 unfold descLoop;refine Çk (λi c d=>∃f,c=(ah,i,f,)/\SB k0 aZ d/\n<=i/\i<=h/\ÅP κ Υ i/\f+1<=i/\(∀k,i-(f+1)<=k->k<i->KK κ Υ k=KK κ Υ (i-1))) ?_ ?_ ?_
 ·rintro i c d hai kb ⟨f,rfl,g,u,v,j,x,l⟩;have Ğ:∀ (r:Η),SB k0 aZ r->(∀k,KK κ (ę r) k=KK κ Υ k)->Áz (KK κ Υ i) (KK κ Υ (i-1))->ÅP κ (ę r) (i+1):=λr B2 e t a b H y=>by
   rw[e a,e b];by_cases z:b<i
   ·exact j a b H z
   ·have I:b=i:=by lia
    subst I;by_cases J:a=b
    ·subst J;exact Çj
    ·exact ÌO t (j a (b-1) Á Á)
  refine Ō (w_lt D hk g Ñm Ñn ?_);cases y:ÅN (KK κ (ę d) i) (KK κ (ę d) (i-1)) with
  | true =>
   have t:Áz (KK κ Υ i) (KK κ Υ (i-1)):=Ño y;rw[rE];by_cases F:f>0
   ·rw[Æ F];refine Ō (w_rev (ū ?_));have e:∀k,KK κ (mirror Υ (i-(f+1)) i ((i-(i-(f+1))) / 2)) k=KK κ Υ k:=Ñp #[fH,g.size] (λk h1 o=>l k h1 o);refine(0,rfl,g.set ÌQ,by lia,by lia,Ğ _ (g.set ÌQ) e t,by lia,λk h1 o=>?_);have:k=i:=by lia
    subst this;rfl
   ·rw[ti,F];refine ū (0,rfl,g,by lia,by lia,Ğ _ g (λ_=>rfl) t,by lia,λk h1 o=>?_);have:k=i:=by lia
    subst this;rfl
  | false =>
   refine Ō (w_lt D hk g Ñn Ñm ?_);cases p:ÅN (KK κ (ę d) (i-1)) (KK κ (ę d) i) with
   | true=>exact ū (q i f d g u v j x l)
   | false =>
    have K:=κ.total _ _ y p;refine ū (f+1,rfl,g,by lia,by lia,Ğ _ g (λ_=>rfl) p,by lia,λk h1 o=>?_);show KK κ Υ k=KK κ Υ i;by_cases C:k=i
    ·rw[C]
    ·rw[K];exact l k Á Á
 ·rintro c d ⟨f,rfl,g,u,v,j,x,l⟩;rw[show max n h=h by lia]at *
  exact q h f d g u v j x l
 ·refine(0,rfl,B,Qd _,G,S,by lia,λk h1 o=>?_);have:k=n-1:=by lia
  rw[this]
theorem w_tail(g:Äv)(hk:Ãk){n c:Nat}(hn:c<=Ľ)(h1:1<=n)(h:n<=c)(B:Á0)(N:ÅP κ Ě n){Q:Ñq}
  (q:∀ (m:Nat) (d:Η),SB k0 aZ d->1<=m->m<=c->Ŭ κ Υ m->Q (aa m) d):wpS Ð A E s (tail3 n c) Q st:=by
 unfold tail3;rw[rH];have f:=B.set (mirror_perm Ě 0 n ((n-0) / 2));have e:=KK_mirror (κ:=κ) (xs:=ę st) (i:=0) (j:=n) #[fH,B.size];have S:Ŭ κ #[t4,0,n] n:=λa b hJ hb=>by rw[e a,e b,Æ ÂG,Æ ÂG];exact N _ _ Á Á
 refine Ō (w_asc g hk hn h1 h f S λm gx k l _=>?_);exact ū (q m _ f Á k l)
theorem w_part(g:Äv)(hk:Ãk){n d:Nat}(hn:d<=Ľ)(o:n+1<=d)(B:Á0)(N:ÅP κ Ě (n+1)){Q:Ñq}
  (q:∀ (m:Nat) (c:Η),SB k0 aZ c->1<=m->m<=d->Ŭ κ (ę c) m->Q (aa m) c):wpS Ð A E s (descPart n d) Q st:=by
 unfold descPart;rw[qW];refine Ō (w_desc g hk hn Á o B N λm f c h m1 i j hq p=>?_);rw[rE];by_cases l:f>0
 ·rw[Æ l];rw[rH];have e:∀k,KK κ (mirror (ę c) (m-(f+1)) m ((m-(m-(f+1))) / 2)) k=KK κ (ę c) k:=Ñp #[fH,h.size] (λk r t=>p k r t);exact w_tail g hk hn Á i (h.set ÌQ) (λa b u v=>by rw[e a,e b];exact j a b u v) q
 ·rw[ti,l];exact w_tail g hk hn Á i h j q
theorem w_count(g:Äv)(hk:Ãk){c:Nat}(hn:c<=Ľ)(h1:1<=c)(B:Á0){Q:Ñq}
  (q:∀ (m:Nat) (h:Η),SB k0 aZ h->1<=m->m<=c->Ŭ κ (ę h) m->Q (aa m) h):wpS Ð A E s (countRun' 0 c) Q st:=by
 rw[countRun0_eq];refine Ō (w_asc g hk hn (Qd 1) h1 B (λa b i f=>by obtain rfl:a=b:=Á;exact Çj) λn o p S u=>?_);show wpS _ _ _ _ (if (n == c)=true then _ else _) _ _;by_cases j:n=c
 ·rw[Æ #[fs,j,ÐR,_]];exact ÖY
 ·rw[È (by intro z;exact j (eq_of_beq z))];have v:=u.resolve_left j;have r:(∀k,k<n->KK κ Ě k=KK κ Ě (n-1))->ÅP κ Ě (n+1):=λd a b i f=>by
   by_cases x:b<n
   ·rw[d a Á,d b x];exact Çj
   ·have y:b=n:=by lia
    subst y;by_cases C:a=b
    ·subst C;exact Çj
    ·rw[d a Á];exact Ño v
  by_cases t:n>1
  ·rw[Æ t];refine Ō (w_lt g hk B Á Á ?_);cases f:ÅN (KK κ (ę st) 0) (KK κ (ę st) (n-1)) with
   | true=>exact ÖY
   | false =>
    have d:∀k,k<n->KK κ Ě k=KK κ Ě (n-1):=λk l=>by have D:Áz (KK κ Ě k) ÌP:=S k (n-1) Á Á;have F:Áz ÌP (KK κ Ě k):=ÌO (show Áz ÌP (KK κ Ě 0) from f) (S 0 k Á Á);exact KeyOrd.kle_antisymm D F
    rw[rH];have e:∀k,KK κ #[t4,0,n] k=KK κ Ě k:=Ñp #[fH,B.size] (λk _ G=>d k G);exact w_part g hk hn Á (B.set ÌQ) (λa b i f=>by rw[e a,e b];exact r d a b i f) q
  ·rw[ti,t];exact w_part g hk hn Á B (r λk l=>by rw[show k=n-1 by lia]) q
theorem KO{xs:Ãj}{k l:Nat}(hk:k<xs.size)(hl:l<=k)(e:Ŭ κ xs k)(h:∀j,j<l->Áz (KK κ xs j) (KK κ xs k))(i:∀j,l<=j->j<k->κ.klt (KK κ xs k) (KK κ xs j)) :
  Ŭ κ (bubble xs (0+k) (0+k-(0+l))) (k+1):=by
 have f:=KK_bubble (κ:=κ) (xs:=xs) (src:=0+k) (d:=0+k-(0+l)) Á Á;intro a b m hb;rw[f a,f b];rw[show 0+k=k by lia,show 0+l=l by lia,show k-(k-l)=l by lia];by_cases g:a=l
 ·rw[Æ g];by_cases c:b=l
  ·rw[Æ c];exact Çj
  ·rw[È c,Æ ÂG];exact Ño (i (b-1) Á Á)
 ·rw[ti,g];by_cases n:a<l
  ·rw[uR];by_cases c:b=l
   ·rw[Æ c];exact h a n
   ·rw[ti,c];by_cases o:l<b
    ·rw[Æ (o,by lia)];exact e a (b-1) Á Á
    ·rw[uR];exact e a b m Á
  ·rw[Æ ÂG,È Á,Æ ÂG];exact e (a-1) (b-1) Á Á
theorem w_binary(x:Äv)(hk:Ãk){n ok:Nat}(hn:n<=Ľ)(h1:ok<=n)(h0:1<=ok)(B:Á0)(S:Ŭ κ Ě ok){Q:#[tX,Ê]}
  (q:∀ (a:Η),SB k0 aZ a->Ŭ κ Ãm n->Q true a):wpS Ð A E s (binarySort' 0 n ok) Q st:=by
 rw[binarySort'_eq];rw[xv];refine Çk (λi c a=>c=(ah,(),)/\SB k0 aZ a/\Ŭ κ Ãm i) ?_ ?_ (rfl,B,by rw[show max ok 1=ok by lia];exact S)
 ·rintro k c a hak hkn ⟨rfl,b,d⟩;have k1:1<=k:=by lia
  rw[xv];refine Çk (λi c e=>X2 λl r=>c=(ah,l,r,)/\e=a/\l<=r/\r<=k/\r-l<=k-i/\(∀j,j<l->Áz (KK κ Ãm j) (KK κ Ãm k))/\(∀j,r<=j->j<k->κ.klt (KK κ Ãm k) (KK κ Ãm j))) ?_ ?_ (0,k,rfl,rfl,Qp _,Qd _,by lia,λj h=>by lia,λj h1 t=>by lia)
  ·rintro i c e hi0 hik ⟨l,r,rfl,rfl,m,o,y,f,g⟩;show wpS _ _ _ _ (if l>=r then _ else _) _ _;by_cases u:l>=r
   ·rw[Æ u];refine ū ?_;have p:l=r:=by lia
    rw[ax]
   ·rw[ti,u];refine Ō (w_lt x hk b (by show 0+k<_;lia) (by show 0+(l+r) / 2<_;lia) ?_);rw[show 0+k=k by lia,show 0+(l+r) / 2=(l+r) / 2 by lia];cases v:ÅN (KK κ (ę e) k) (KK κ (ę e) ((l+r) / 2)) with
    | true=>refine ū (l,(l+r) / 2,rfl,rfl,by lia,by lia,by lia,f,λj h1 t=>?_);exact KeyOrd.klt_of_klt_of_kle v (d _ j h1 t)
    | false=>refine ū ((l+r) / 2+1,r,rfl,rfl,by lia,by lia,by lia,λj h=>?_,g);exact ÌO (d j ((l+r) / 2) Á Á) v
  ·rintro c e ⟨l,r,rfl,rfl,m,o,y,f,g⟩;have p:l=r:=by lia
   rw[ax]
 ·rintro c a ⟨rfl,b,d⟩;rw[show max (max ok 1) n=n by lia]at d;exact ū (q a b d)
theorem w_runs(t:Äv)(hk:Ãk)(B:Á0)(h2:2<=Ľ)(wW:Ľ<64){Q:#[tX,Unit]}
  (q:∀ (a:Η),(Ãm).Perm aZ->ÅO a=ah->Ŭ κ Ãm Ľ->Q () a):wpS Ð A E s sortRuns' Q st:=by
 rw[sortRuns'_eq];refine Ō (ÉP ?_);have l:=B.size;have z:ÌR (Ě).size (Ě).size 0=(Ě).size:=by obtain⟨f,C⟩:∃f,(ę st).size=f+1:=((Ě).size-1,by lia);rw[show ÌR (Ě).size (Ě).size 0=ÌR (f+1) (Ě).size 0 by rw[<- C],minRun'_succ,Æ Á];rfl
 rw[xv];refine Çk (λi c a=>(i=0/\c=(ah,0,)/\a=st)\/(i≠0/\c=(ah,Ľ,)/\(Ãm).Perm aZ/\ÅO a=ah/\(À8 a).size<=1/\Ŭ κ Ãm Ľ)) ?_ ?_ (.inl Ñl)
 ·rintro i c a hi0 hi ⟨⟩
  ·rename_i h;obtain rfl|rfl|rfl:=h;show wpS _ _ _ _ (if 0>=(Ãm).size then _ else _) _ _;rw[uR];rw[xv];rw[show (ę a).size-0=Ľ by lia];refine w_count t hk ò Á B λm d n D m2 u=>?_;have v:∀ (b:Η),SB k0 aZ b->Ŭ κ (ę b) Ľ->(ę ÌS).Perm aZ/\ÅO ÌS=ah/\(À8 ÌS).size<=1/\Ŭ κ (ę ÌS) Ľ:=λb e o =>
    (e.perm,e.failed,by show ((À8 b).push (0,Ľ,0,)).size<=1;rw[e.pend,Array.size_push];exact Qd _,o)
   show wpS _ _ _ _ (if m<ÌR (Ãm).size (Ãm).size 0 then _ else _) _ _;rw[z,l];by_cases y:m<Ľ
   ·rw[Æ y];rw[qW];show wpS _ _ _ _ (binarySort' 0 (min Ľ Ľ) m >>= _) _ _;rw[Nat.min_self];refine Ō (w_binary t hk ò Á D n u λb e o=>?_);rw[l9];show wpS _ _ _ _ (match (À8 b).back? with|some (F,G,p,)=>_|x=>_) _ _
    rw[show (À8 b).back? = ah by rw[e.pend];rfl];rw[w0];refine Ō (Ñr (ū (.inr (by lia,?_,v b e o))));rw[ph]
   ·rw[ti,y];have H:m=Ľ:=by lia
    subst H;rw[l9];show wpS _ _ _ _ (match (À8 d).back? with|some (F,G,p,)=>_|x=>_) _ _
    rw[show (À8 d).back? = ah by rw[n.pend];rfl];rw[w0];refine Ō (Ñr (ū (.inr (by lia,?_,v d n u))));rw[ph]
  ·rename_i h;obtain I|rfl|g|j|r|k:=h;show wpS _ _ _ _ (if Ľ>=(Ě).size then _ else _) _ _;rw[Æ Á];refine ū ?_;rw[a0]
   ·rw[50]
   ·rw[oJ]
 ·rintro c a ⟨⟩
  ·rename_i h;exact Î h.1 Á
  ·rename_i h;obtain I|rfl|g|j|r|k:=h;rw[a0]
   ·rw[50]
   ·rw[oJ]
universe E
section
variable {è:aA} {w:aF} {A:aE} {E:ae->ak->Prop} {s:ak} {κ:Äu}
theorem w_sort{a:af}{vs:Þ}{n:Nat}{P:#[hK,PySem.Fin]}(ha:ÖZ)(hk:Ö0)(h2:2<=Ŧ)(p:Ŧ<64)
  (t:∀ (s':ak),(∀b o,b≠a->í b=aa o->s'.heap.get? b=aa o)->∀ (E:ae->ak->Prop) (Q:ÂE->ak->Prop),(∀e,Wj è w A s' e κ->Q e s')->av Ð A Ñs Q E s')
  (q:∀ (d:Η),(Υ).Perm ÉQ->Ŭ κ Υ (ÉQ).size->P Ö1 { s with Õ:=sortedHeap Í a vs ((ę d).map λx=>ÂH) }) :
  av Ð A Ö2 P E s:=by
 have f:ÌT<=aq:=by rw[QA,aO];lia
 rw[dH];refine ai (Äw ha rfl ?_ f ÅQ);have j:=Ö3;rw[sy,j];refine ai (Ð4 ?_ #[eE,f]);rw[my];refine aT ?_;have k:¬ ÌT<2:=by rw[QA];lia
 have g:(ÉQ).size=Ŧ:=by unfold Äx;simp
 rw[jd,k,k];have Ė:∀b o,b≠a->í b=aa o->#[Q].get? b=aa o:=λb o u h =>
  Qc _ (Qc _ (Qac _ (Àb u) h))
 have l:Ö4:=Qc _ (Qc _ j);refine ai (t _ Ė _ _ λe v=>?_);refine ai ?_;have B:SB e ÉQ (SortSt.mk' e Ö5 #[] 7 ah):=(Array.Perm.refl _,rfl,rfl,rfl);refine thn (w_runs (E:=E) v hk B #[eH,g,h2] #[eH,g,p] (Q:=λ_ d=>(ę d).Perm ÉQ/\ÅO d=ah/\Ŭ κ Υ (ÉQ).size) (λd a b c=>(a,b,c))) λr s' y=>?_;obtain ⟨⟩|d:=r;obtain rfl|m|z|C:=y;rw[sy,l];have i:((Υ).map λx=>ÂH).size=Ŧ:=by rw[Array.size_map,m.size_eq,g]
 show av _ _ (ÉR a (λx=>(ę d).map λx=>ÂH) >>= _) _ _ _;refine ai (Äw l rfl ?_ ÅQ (by show ((Υ).map λx=>ÂH).size<=_;rw[i];rw[QA]at f;lia));rw[z];rw[ti,Ù];exact aw (q d m C)
theorem w_sorted{l:af}{vs:Þ}{Q:ñ}(hl:Ö6)(hk:Ö0)(h2:2<=Ŧ)(g:Ŧ<64)
  (i:∀ (A:aE) (s':ak),#[tS,s'.heap.get?]->∀ (E:ae->ak->Prop) (Q:ÂE->ak->Prop),(∀d,Wj è w A s' d κ->Q d s')->av Ð A Ñs Q E s')
  (q:∀ (a:Η),(Ãm).Perm ÉQ->Ŭ κ Ãm (ÉQ).size->Q ÌH { s with Õ:=Ñt Í vs ((ę a).map λx=>ÂH) }) :
  av Ð A (Œ ÌU [.ref l]) Q E s:=by
 rw[dj];have e:Ŧ<=aq:=by rw[aO];lia
 refine ai (aw (ai (collect_list hl (ai (Ñu ?_ e)) e)));have c:Ö7:=by rw[ÌV,Ñv]
 have f:Ö8:=by rw[<- c];exact Qs _ rfl
 have Ė:∀b o,í b=aa o->(#[g].push Ñw).get? b=aa o:=λb o h =>
  Qc _ (Qac _ (Q4 (Ql h)) (Qc _ h))
 rw[aS];rw[c];refine ai (aT (cq slot_list_sort (_,f,rfl) Ö9 ?_ (args_list_sort _)));refine w_sort f hk h2 g (λs' j=>i _ s' λb o h=>j b o (QG (QB (Ql h) (Qaa _))) (Ė b o h)) λa k m=>?_;exact(_,rfl,aw (_,rfl,q a k m))
universe E
def kLt:Key->Key->Ê
 | .inl i,.inl j=>decide (i<j)
 | .inr x,.inr y=>decide (ÉS<ÌW)
 | .inl _,.inr _=>true
 | .inr _,.inl _=>false
theorem ZmX:∀a:Key,kLt a a=false
 | .inl i=>Ē Á
 | .inr x=>Ē (List.lt_irrefl _)
theorem Zo9:∀a b c:Key,kLt a b=true->kLt b c=true->kLt a c=true
 | .inl i,.inl j,.inl k,h1,h2=>by have:=#[eQ,h1];have:=#[eQ,h2];exact û Á
 | .inr x,.inr y,.inr z,h1,h2=>û (List.lt_trans (ŋ h1) (ŋ h2))
 | .inl _,.inl _,.inr _,_,_=>rfl
 | .inl _,.inr _,.inr _,_,_=>rfl
 | .inl _,.inr _,.inl _,_,h=>by cases h
 | .inr _,.inl _,_,h,_=>by cases h
 | .inr _,.inr _,.inl _,_,h=>by cases h
theorem ZoH:∀a b:Key,kLt a b=false->kLt b a=false->a=b
 | .inl i,.inl j,h1,h2=>by have:=Äy h1;have:=Äy h2;congr 1;lia
 | .inr x,.inr y,h1,h2=>by have c:¬ ÉS<ÌW:=Äy h1;have d:¬ ÌW<ÉS:=Äy h2;have e:ÉS=ÌW:=List.le_antisymm d c;obtain⟨xs⟩:=x;obtain⟨ys⟩:=y;congr 2;exact Øa e
 | .inl _,.inr _,h,_=>by cases h
 | .inr _,.inl _,_,h=>by cases h
def YX:À Key->À Key->Ê
 | [],[]=>false
 | [],_::_=>true
 | _::_,[]=>false
 | x::xs,y::ys=>if x=y then YX xs ys else kLt x y
theorem KN(x y:Key)(xs ys:Ζ):YX (x::xs) (y::ys)=if x=y then YX xs ys else kLt x y:=rfl
theorem SQ:∀a:À Key,YX a a=false
 | []=>rfl
 | x::r=>by unfold YX;rw[q7];exact SQ r
theorem SO:∀a b c:À Key,YX a b=true->YX b c=true->YX a c=true
 | [],[],_,h,_=>by cases h
 | [],_::_,[],_,h=>by cases h
 | [],_::_,_::_,_,_=>rfl
 | _::_,[],_,h,_=>by cases h
 | _::_,_::_,[],_,h=>by cases h
 | x::r,y::s,z::t,h1,h2=>by
  have ih:=SO r s t;unfold YX at h1 h2 ⊢;by_cases f:x=y
  ·rw[tM,f,h1];by_cases d:y=z
   ·rw[nx]
   ·rw[sR,d,h2];rw[È (λe=>d Ñx),f];exact h2
  ·rw[sR,f,h1];by_cases d:y=z
   ·rw[È (λe=>f Ñy),<- d];exact h1
   ·rw[sR,d,h2];have g:=Zo9 _ _ _ h1 h2;rw[sT,È,e,ZmX,g]
theorem PL:∀a b:À Key,YX a b=false->YX b a=false->a=b
 | [],[],_,_=>rfl
 | [],_::_,h,_=>by cases h
 | _::_,[],_,h=>by cases h
 | x::r,y::s,h1,h2=>by
  unfold YX at h1 h2;by_cases e:x=y
  ·rw[tM,e,h1];rw[tM,Åh,h2];rw[e,PL r s h1 h2]
  ·rw[sR,e,h1];rw[È λz=>e Çf]at h2;exact Î (ZoH _ _ h1 h2) e
theorem ZqC(a b c:Ζ)(h:YX a c=true):YX a b=true\/YX b c=true:=by
 by_cases d:YX a b=true
 ·exact .inl d
 ·by_cases f:YX b a=true
  ·exact .inr (SO _ _ _ f h)
  ·have e:=PL a b #[eE,d] #[eE,f];rw[<- e];exact .inr h
def unV:V->Ã Key
 | .int i=>aa (.inl i)
 | .str x=>aa (.inr x)
 | _=>ah
def VG:À V->Ã (À Key)
 | []=>aa []
 | x::r=>(unV x).bind λk=>(VG r).map (k::·)
theorem Zuo(k:Key):unV (kV k)=aa k:=by cases k<;>rfl
theorem KL:∀ks:À Key,VG ÅM=aa ks
 | []=>rfl
 | k::r=>by show (unV (kV k)).bind _=_;rw[Zuo,KL r];rfl
theorem Zve:∀ {x:V} {k:Key},unV x=aa k->x=kV k
 | .int i,k,h=>by cases h;rfl
 | .str z,k,h=>by cases h;rfl
 | .non,_,h=>by cases h
 | .bl _,_,h=>by cases h
 | .byt _,_,h=>by cases h
 | .flt _,_,h=>by cases h
 | .ref _,_,h=>by cases h
 | .ty _,_,h=>by cases h
theorem KJ:∀ {xs:À V} {ks:À Key},VG xs=aa ks->xs=Áx kV
 | [],ks,h=>by cases h;rfl
 | x::r,ks,h=>by
  unfold VG at h;cases hu:unV x with
  | none=>rw[hu]at h;cases h
  | some k =>
   rw[hu]at h;cases hr:VG r with
   | none=>rw[hr]at h;cases h
   | some ms=>rw[hr]at h;cases h;rw[Zve hu,KJ hr];rfl
def YJ(ks:Ζ):À Ê:=Áx λk=>k.isLeft
def UC(H:Hp)(sh:Çl):ae->Ã (À Key)
 | .ref a=>match H a with
  | some (.tup xs)=>(VG xs).bind λks=>if YJ ks=sh then aa ks else ah
  | _=>ah
 | _=>ah
theorem KI{H:Hp}{a:af}{ks:Ζ}(h:H a=aa Ät):UC H (YJ ks) ą=aa ks:=by unfold UC;dsimp only;rw[h];show (VG ÅM).bind _=_;rw[KL];show (if YJ ks=YJ ks then aa ks else ah)=_;rw[Æ rfl]
theorem KH{H:Hp}{sh:Çl}{v:ae}{ks:Ζ}(h:UC H sh v=aa ks):∃a,v=.ref a/\H a=aa Ät/\YJ ks=sh:=by
 unfold UC at h;split at h
 ·rename_i a;split at h
  ·rename_i f g;cases c:VG f with
   | none=>rw[c]at h;cases h
   | some d =>
    rw[c]at h;have b:(if YJ d=sh then aa d else ah)=aa ks:=h;by_cases e:YJ d=sh
    ·rw[tM,e,b];cases b;exact(a,rfl,by rw[g,KJ c],e)
    ·rw[sR,e,b];cases b
  ·cases h
 ·cases h
def PH(H:Hp)(sh:Çl):Äu:=((À Key,YX,SQ,SO,λa b c h=>ZqC a b c h,PL),UC H sh,[])
section
variable {è:aA} {w:aF} {A:aE} {E:ae->ak->Prop} {s:ak}
theorem Zu7{k m:Key}{p q:ae}(a:ÌX)(hq:ÌY)(hs:ÌZ){Q:Çm}(h:Q (decide (k=m)) s):av Ð A (eqBool p q) Q E s:=by
 cases k with
 | inl i =>
  cases m with
  | inl j =>
   rw[tR,a];rw[dL];refine ÔA ?_;have e:(i == j)=decide ((Âg i:Key)=Âg j):=by
    by_cases z:i=j
    ·rw[z];simp
    ·rw[Ē (λe=>z (Æs e))];simpa using z
   rw[e];exact h
  | inr y=>cases hs
 | inr x =>
  cases m with
  | inl j=>cases hs
  | inr y=>obtain t|rfl:=a;rw[dL];refine ÔD ?_;have e:decide (x=y)=decide ((Âi x:Key)=Âi y):=Äz (λz=>by rw[z],λz=>Ëc z);rw[e];exact h
theorem ZuQ{c:Ê}{k m:Key}{p q:ae}(a:ÌX)(hq:ÌY)(hs:ÌZ){Q:Çm}(h:Q (kLt k m) s):av Ð A (oneLt' c p q) Q E s:=by
 cases k with
 | inl i =>
  cases m with
  | inl j =>
   rw[tR,a];rw[dL];cases c with
   | true=>exact oneLt_int h
   | false=>rw[oneLt'_eq];show av _ _ (Ì0 .Lt (.int i t) (.int j u) >>= _) _ _ _;refine ai (show av Ð A Øb _ _ _ from Øc ?_);exact aw h
  | inr y=>cases hs
 | inr x =>
  cases m with
  | inl j=>cases hs
  | inr y =>
   rw[tR,a];rw[dL];cases c with
   | true=>exact oneLt_str h
   | false=>rw[oneLt'_eq];show av _ _ (Ì0 .Lt (.str x t) (.str y u) >>= _) _ _ _;refine ai (show av Ð A Ød _ _ _ from Øe ?_);exact aw h
theorem Zu6{b:Ê}{x y:af}{ks j:Ζ}{its m:Þ}(hx:#[At,x,Ĕ])(hy:#[At,y,m.toArray])(B:ZF ÅM its)(C:ZF (Ãn kV) m)(hs:YJ ks=YJ j){Q:Çm}
  (h:Q (YX ks j) s):av Ð A (keyLt' (tuples' b) ÀL (.ref y)) Q E s:=by
 obtain o1|r|_|n1|K:=hx;obtain o2|L|_|n2|M:=hy;show av _ _ (ÌM ÀL >>= _) _ _ _;refine ai (UD r K (ai (UD L M (ai ?_))));have N:=ÉK;have O:=C.length;have i3:ō=ÀR:=by have:=#[fD,hs];simpa [YJ] using this
 rw[Qa]at N O;refine Øf _ (λrest c t=>c=(ah,(),)/\t=s/\X5 λ(n ws:À ae) (k:Nat) (d a:À Key)=>Č=(n.zip ws).zipIdx k/\ZF (ÀE kV) n/\ZF (Ão kV) ws/\YJ d=YJ a/\YX ks j=YX d a) _ ?_ ?_ _ _ (rfl,rfl,its,m,0,ks,j,by simp,B,C,hs,rfl)
 ·rintro⟨⟨p,q⟩,i⟩ Č c t ⟨rfl,rfl,n,ws,k,d,a,l,o,u,g,f⟩;cases d with
  | nil=>cases o;cases l
  | Ñ D kr =>
   cases a with
   | nil=>cases g
   | Ñ F G =>
    cases o with
    | Ñ v H =>
     cases u with
     | Ñ z I =>
      rw[QaJ,Ñz]at l;injection l with P R;injection P with S T;injection S with U V;subst T U V;unfold YJ at g;rw[Qh,Qh]at g;injection g with J W;refine ai (Zu7 v z J ?_);rw[KN]at f;by_cases e:D=F
      ·rw[tM,e,f];rw[û e];exact aw (rfl,rfl,_,_,_,kr,G,R,H,I,W,f)
      ·rw[sR,e,f];rw[Ē e];refine ai (ZuQ v z J ÀV);refine aw ?_;rw[<- f];exact h
 ·rintro c t ⟨rfl,rfl,n,ws,k,d,a,l,o,u,g,f⟩;refine aw ?_;have e:YX d a=false:=by
   cases d with
   | nil =>
    cases a with
    | nil=>rfl
    | Ñ _ _=>cases g
   | Ñ D kr =>
    cases a with
    | nil=>cases g
    | Ñ F G =>
     cases o with
     | Ñ v H =>
      cases u with
      | Ñ z I=>rw[QaJ,Ñz]at l;cases l
  rw[e]at f;rw[f]at h;have X:decide (Ât<m.toArray.size)=false:=Ē #[t3,QA,QA];rw[X];exact h
universe E
section
variable {è:aA} {w:aF} {A:aE} {E:ae->ak->Prop} {s:ak}
theorem w_mapM{M:Às}{α b:Type}{f:α->Sem b}(R:α->b->Prop):∀ (l:À α) {Q:À b->ak->Prop},(∀v∈l,∃r,R v r/\∀ (d:b->ak->Prop),d r s->av M A (f v) d E s)->(∀rs,Çn=İ->(∀r∈rs,∃v∈l,R v r)->Q rs s)->av M A (List.mapM f l) Q E s
 | [],Q,_,q=>by rw[List.mapM_nil];exact aw (q [] rfl #[fk,r,h])
 | a::l,Q,h,q=>by
  rw[List.mapM_cons];obtain r|hr|hw:=h a Ù;refine ai (hw _ (ai (w_mapM R l (λv c=>h v (Qw _ c)) λrs e g=>aw (q (r::rs) (by simp[e]) λz hz=>?_))));rcases î hz with rfl|hz
  ·exact(a,by simp,hr)
  ·obtain v|c|i:=g z hz;exact(v,Qw _ c,i)
theorem w_mapA{M:Às}{α a:Type}{f:α->Sem a}(R:α->a->Prop)(l:ē α){Q:ē a->ak->Prop}(h:∀v∈l.toList,∃r,R v r/\∀ (b:a->ak->Prop),b r s->av M A (f v) b E s)(q:∀rs:ē a,(∀r∈rs.toList,∃v∈l.toList,R v r)->Q rs s):av M A (Array.mapM f l) Q E s:=by rw[Array.mapM_eq_mapM_toList,map_eq_pure_bind];exact ai (w_mapM R l.toList h λrs _ c=>aw (q rs.toArray #[eE,c]))
theorem ZoX{a:af}{its:Þ}(ht:#[At,a,Ĕ]){Q:Ìz}(q:Q its[0]? s):av Ð A (firstOfTuple' ą) Q E s:=by obtain o|b|hc|n|hd:=id ht;show av _ _ (typeOf ą >>= _) _ _ _;refine ai (ÑA ht.typeIs ?_);rw[È Å];refine ai (UD b hd ÀV);simpa using q
theorem ZpC{k:Key}{v:ae}(h:ZI (kV k) v){Q:ñ}(q:Q (.type (if k.isLeft then "int" else "str")) s):av Ð A (typeOf v) Q E s:=by
 cases k with
 | inl i=>obtain t|rfl:=h;exact ÑA (T := "int") rfl q
 | inr x=>obtain t|rfl:=h;exact ÑA (T := "str") rfl q
theorem ZqP{vs:Þ}(h:∀v∈vs,X4 λ(a:af) (its:À ae) (k:Key) (c:ae)=>v=.ref a/\ÁL Í a Ĕ/\its[0]? = aa c/\ZI (kV k) c){Q:#[hK,ÂE]}(q:∀b,Q (tuples' b) s):av Ð A Ñs Q E s:=by
 rw[keyKind'_eq];refine ai (w_mapA (λ_ r=>X2 λ(k:Key) (c:ae)=>r=aa c/\ZI (kV k) c) _ (λv d=>?_) λf l=>?_)
 ·obtain a|its|k|c|rfl|n|p|g:=h v #[eE,d];exact(its[0]?,(k,c,p,g),λt j=>ZoX n j)
 ·have u:(f.all λx=>x.isSome)=true:=by rw[Array.all_eq_true];intro i hi;obtain v|_|k|c|e|_:=l f[i] Ù;rw[e];rfl
  rw[Æ u];refine ai (Æ7 (ai ?_));rw[oneTypeOnly'_eq];refine ai (w_mapA (λ_ _=>Μ) _ (λv d=>?_) λts _=>?_)
  ·have m:v∈(Array.filterMap id f).toList:=d;rw[Array.toList_filterMap]at m;rw[sX,o,y,z,ÏL,m];obtain _|_|k|c|e|g:=l o y;have B:c=v:=by have:o=aa v:=z;rw[e]at this;exact Qv this
   subst B;exact(_,trivial,λt j=>ZpC g j)
  ·split
   ·exact aw (aw (q _))
   ·exact aw (aw (q _))
theorem w_sort0{a:af}{vs:Þ}{n:Nat}{P:#[hK,PySem.Fin]}(ha:ÖZ)(h2:Ŧ<2)
  (q:P Ö1 { s with Õ:=sortedHeap Í a vs ((Äx vs).map λx=>ÂH) }) :
  av Ð A Ö2 P E s:=by
 have b:ÌT<=aq:=by rw[QA,aO];lia
 rw[dH];refine ai (Äw ha rfl ?_ b ÅQ);have d:=Ö3;rw[sy,d];refine ai (Ð4 ?_ #[eE,b]);rw[my];refine aT ?_;have e:ÌT<2:=by rw[QA];lia
 have g:(ÉQ).size=Ŧ:=by unfold Äx;simp
 rw[ju,e,e];have f:Ö4:=Qc _ (Qc _ d);refine ai ÀV;show av _ _ (pure ((),SortSt.mk' general' Ö5 #[] 7 ah,) >>= _) _ _ _;refine ai ÀV;rw[sy,f];have c:((ÉQ).map λx=>ÂH).size=Ŧ:=by rw[Array.size_map,g]
 show av _ _ (ÉR a (λx=>(Äx vs).map λx=>ÂH) >>= _) _ _ _;refine ai (Äw f rfl ?_ ÅQ (by show ((ÉQ).map λx=>ÂH).size<=_;rw[c];rw[QA]at b;lia));show av _ _ (if _ then _ else _) _ _ _;rw[ti,Ù];exact aw q
theorem w_sorted0{l:af}{vs:Þ}{Q:ñ}(hl:Ö6)(h2:Ŧ<2)
  (q:Q ÌH { s with Õ:=Ñt Í vs ((Äx vs).map λx=>ÂH) }) :
  av Ð A (Œ ÌU [.ref l]) Q E s:=by
 rw[dj];have b:Ŧ<=aq:=by rw[aO];lia
 refine ai (aw (ai (collect_list hl (ai (Ñu ?_ b)) b)));have a:Ö7:=by rw[ÌV,Ñv]
 have c:Ö8:=by rw[<- a];exact Qs _ rfl
 rw[aS];rw[a];refine ai (aT (cq slot_list_sort (_,c,rfl) Ö9 ?_ (args_list_sort _)));exact w_sort0 c h2 (_,rfl,aw Ço)
universe E
theorem ZqJ{α n:Type}(f:α->n){l m:À n}(h:l.Perm m):∀ts:À α,m=À9 f->∃g:À α,g.Perm ts/\l=g.map f:=by
 induction h with
 | nil =>
  intro ts e;have:ts=[]:=by cases ts with
   | nil=>rfl
   | Ñ _ _=>cases e
  subst this;exact([],.nil,rfl)
 | Ñ x _ o =>
  intro ts e;cases ts with
  | nil=>cases e
  | Ñ a r=>rw[Qh]at e;injection e with d c;obtain g|p|i:=o r c;exact(a::g,p.cons a,by rw[Qh,d,i])
 | swap x y l =>
  intro ts e;cases ts with
  | nil=>cases e
  | Ñ a r =>
   cases r with
   | nil=>cases e
   | Ñ b r=>rw[Qh,Qh]at e;injection e with d c;injection c with c i;exact(b::a::r,.swap a b r,by rw[Qh,Qh,d,c,i])
 | trans _ _ j k=>intro ts e;obtain q|s|c:=k ts e;obtain t|u|d:=j q c;exact(t,u.trans s,d)
theorem KG{α:Type}:∀l:À α,l.zip l=Á1 λv=>(v,v,)
 | []=>rfl
 | a::r=>by rw[QaJ,KG r];rfl
abbrev YG:=À (af×À Key)
def ZV(ts:YG):À V:=À9 λt=>ø t.1
def AtT(H:Hp)(ts:YG):Prop:=∀t∈ts,H t.1=aa (.tup (t.2.map kV))
theorem SN:∀ {ts:YG} {us:À ae},ZF (ZV ts) us->us=À9 λt=>å t.1
 | [],_,h=>by cases h;rfl
 | t::r,_,h=>by
  cases h with
  | Ñ a b=>rw[SN b];cases a;rfl
theorem KC:∀ts:YG,ZF (ZV ts) ÜR
 | []=>.nil
 | t::r=>.cons rfl (KC r)
def KA(K:Ä):À V->Hp->VK->Prop:=λxs H Q=>X3 λ(p:af) (ts:YG) (sh:À Ê)=>C7 (xs=À6) (SqL K H p (ZV ts)) (AtT H ts) (sh≠[]) Øg (Φ<64) (∀ (l:af) (c:YG),H l=ah->c.Perm ts->c.Pairwise Øh->Q Ŋ (upd H l #[fR,ZV,c]))
theorem ZkD{X:Cx}:YS X ÌU (KA X.K):=by
 rw[iB,T,U,xs];obtain p|f|w|rfl|V|C|W|D|Y|q:=h;rw[fu,Z];rw[gn,rv,L,hz,V];have ei:=SN rv;subst ei;have DU:#[fx,f,Í]:=λt g=>by obtain i|v|q|_:=#[ua,C,t,g];exact(i,v,q)
 have A:(ÜS).toList=f.map λt=>(å t.1,å t.1,):=by unfold Äx;rw[Array.toList_zip,KG,Qz];rfl
 have m:∀ (n:ē ae) (d:YG),d.Perm f->d.Pairwise Øh->n.toList=ÀE (λt=>å t.1)->EP X T U Q ÌH { s with Õ:=Ñt Í (f.map λt=>å t.1) n }:=λn d l pw eo=>by obtain e|he:=sortedAll_at Í (f.map λt=>å t.1) n;refine(.ref Ź,_,Àv (t':=ļ) (o:=.lst (ZV d)) (λ_ _=>sortedAll_old) (Qaa _) (?_,n.toList,e,by rw[eo];exact KC d,by simpa using he),rfl,q _ d Ðg l pw);unfold ZV;rw[Qa,l.length_eq,aO];lia
 by_cases B:ÁY<2
 ·refine w_sorted0 L.isList #[eH,Qa,B] (m _ f (.refl _) ?_ ?_)
  ·cases f with
   | nil=>exact .nil
   | Ñ t r=>have:r=[]:=List.eq_nil_of_length_eq_zero (by rw[QE]at B;lia);subst this;exact Qa8 _ _
  ·rw[Øi,A,Qz];rfl
 ·have hk:ÑB (PH H w) ÜS:=λz M=>by rw[A]at M;rw[eV,t,g,M];exact(t.2,by rw[<- D t g];exact KI (C t g))
  refine w_sorted (κ:=PH H w) L.isList hk #[fH,Qa] #[eH,Qa,Y] (λA' s' kp E' Q' q'=>?_) λN p1 p3=>?_
  ·have E:∀ {a:af} {its:À ae},ÁL Í a Ĕ->ÁL ÀO a Ĕ:=λ⟨o,ho,hc⟩=>(o,kp _ _ ho,hc);refine ZqP (λv hv=>?_) λb=>q' _ λE2 x y a c Q2 hx hy B=>?_
   ·rw[eV,t,g,hv];obtain i|v|qt:=DU t g;have O:=D t g;cases P:t.2 with
    | nil=>rw[P]at O;exact Î O.symm W
    | Ñ k kr =>
     rw[P]at v;cases v with
     | Ñ r1 rr=>exact(t.1,_,k,_,rfl,E qt,rfl,r1)
   ·obtain a1|rfl|u0|s1:=KH hx;obtain a2|rfl|gQ|s2:=KH hy;obtain i1|v1|t1|_:=Ân (þ (K:=X.K) u0);obtain i2|v2|t2|_:=Ân (þ (K:=X.K) gQ);exact Zu6 (E t1) (E t2) v1 v2 (s1.trans s2.symm) B
  ·have F:=p1.toList;obtain d|l|e:=ZqJ (λt:af×À Key=>(å t.1,å t.1,)) F f A;refine m _ d l ?_ ?_
   ·rw[List.pairwise_iff_getElem];intro i j hi R hij;have G:(ÜS).size=Àz:=by rw[<- Qae,A,Qa,l.length_eq]
    have:=p3 i j Á #[eH,G,R];have key:∀k (J:k<Àz),KK (PH H w) (ę N) k=d[k].2:=λk J=>by
     unfold KK;have e1:(ę N)[k]? = aa (å d[k].1,å d[k].1,):=by rw[<- Qag,e,Qr,Qb J];rfl
     rw[e1];have S:d[k]∈f:=l.mem_iff.mp (Qab J);show ((UC H w (.ref d[k].1)).getD _)=_;rw[<- D _ S,KI (C _ S)];rfl
    rw[key i hi,key j R]at this;rw[wr]
   ·rw[Øi,e,Qz];rfl
theorem Kz{X:Cx}(K:Ä)(h:X.K=K:=by rfl):YS X ÌU (KA K):=by subst h;exact ZkD
theorem Zqu(A:aE)(s:ak){k m:Key}{p q:ae}(a:ÌX)(hq:ÌY)(hs:ÌZ):∃e,Ðs A s p q e/\(e=true↔k=m):=by
 cases k with
 | inl i =>
  cases m with
  | inl j=>obtain t|rfl:=a;rw[dL];exact(_,ÕQ i t j u,by simp)
  | inr y=>cases hs
 | inr x =>
  cases m with
  | inl j=>cases hs
  | inr y=>obtain t|rfl:=a;rw[dL];exact(_,ÕR x t y u,by simp)
theorem Zp4(A:aE)(s:ak){k m:Key}{p q:ae}(a:ÌX)(hq:ÌY)(hs:ÌZ)(è:aA)(w:aF)(E:ñ)(Q:ñ)(h:Q (.bool (kLt k m)) s) :
  av Ð A (Ì0 .Lt p q) Q E s:=by
 cases k with
 | inl i =>
  cases m with
  | inl j=>obtain t|rfl:=a;rw[dL];exact(Øc h:av Ð A Øb Q E s)
  | inr y=>cases hs
 | inr x =>
  cases m with
  | inl j=>cases hs
  | inr y=>obtain t|rfl:=a;rw[dL];exact(Øe h:av Ð A Ød Q E s)
section
open PySem.SeqAt
open PySem.AutoSeq1 (wpAny_loadPart')
open PySem.MeetsSeq PySem.MeetsSeq2 PySem.MeetsSeq3
theorem ZiI(l b:af)(o p:Â4)(n M:Nat)(N O:ú)(sl P:ġ)(ks m:Ζ)(G:ZF ÅM o.toList)(H:ZF (m.map kV) p.toList)(hs:YJ ks=YJ m) :
  Meets (aR.«tuple.__lt__» ([.ref l,.ref b],[]))
   (λ_ R s=>í l=aa { cls:=Äp,ρ:=N,Ó:=.seq o n,ÁM:=sl }/\í b=aa { cls:=Äp,ρ:=O,Ó:=.seq p M,ÁM:=P } /\
    R (.ok (.ret (.bool (YX ks m)))) s) :=
 .of_wp λc w A R s h=>by
  rw[hN,r,tk,s];rw[ja,Q,S,h,h];have f2:=AutoSeq1.sub_tuple_tuple;have z1:o.size=ō:=by have:=G.length;simpa using this.symm
  have z2:p.size=Ì1:=by have:=H.length;simpa using this.symm
  have z3:ō=Ì1:=by have:=#[fD,hs];simpa [YJ] using this
  wp_walk using Øj Q,Øj S,Øf _ (λrest b v=>b.1=ah/\v=(r,g,d,tk,os)/\X4 λ(t ws:À ae) (f a:À Key)=>Č=t.zip ws /\
   ZF (f.map kV) t/\ZF (Ão kV) ws/\YJ f=YJ a/\R (.ok (.ret (.bool (YX f a)))) #[hz,r,tk]) _
  case turn =>
   rintro⟨y,x⟩ Č b v ⟨z,rfl,t,ws,f,a,j,u,B,k,i⟩;cases f with
   | nil=>cases u;rw[gv,Øk,j,j]
   | Ñ T kr =>
    cases a with
    | nil=>cases k
    | Ñ U V =>
     cases u with
     | Ñ C I =>
      cases B with
      | Ñ D J =>
       rw[QaJ]at j;injection j with E W;injection E with X Y;subst X Y;rw[KN]at i;unfold YJ at k;rw[Qh,Qh]at k;injection k with K Z;obtain e|he|L:=Zqu A.in1 #[hz,r,tk] C D K;refine ai (he c w _ _ ?_);cases e with
       | true =>
        rw[Æ (L.mp rfl)]at i
        wp_walk
        exact(rfl,rfl,_,_,_,_,W,I,J,Z,i)
       | false =>
        rw[È (λq=>Î (L.mpr q) Qt)]at i;have F:=Zp4 A.in1 #[hz,r,tk] C D K c w
        wp_walk using F
        exact(_,rfl,by simpa using i)
  case fin =>
   rintro⟨b1,b2⟩ v ⟨z,rfl,t,ws,f,a,j,u,B,k,i⟩;simp only at z;subst z;have hv:YX f a=decide (o.size<p.size):=by
    rw[Ē Á];cases f with
    | nil =>
     cases a with
     | nil=>rfl
     | Ñ _ _=>cases k
    | Ñ T kr =>
     cases a with
     | nil=>cases k
     | Ñ U V =>
      cases u with
      | Ñ C I =>
       cases B with
       | Ñ D J=>rw[QaJ]at j;cases j
   rw[hv]at i
   wp_walk
   exact(_,rfl,by simpa [aR.Tuple.tupleCompareSizes] using i)
  case h=>exact(rfl,rfl,o.toList,p.toList,ks,m,rfl,G,H,hs,h)
universe E
section
variable {è:aA} {w:aF} {A:aE} {E:ae->ak->Prop} {s:ak}
theorem Zmo{l b:af}{c d:Â4}{ks a:Ζ}{Q:ñ}(hl:#[At,l,c])(hb:#[At,b,d])(k:ZF ÅM c.toList)(m:ZF (Ão kV) d.toList)(hs:YJ ks=YJ a)
  (hu:Àx<Ás) (h:Q (.bool (YX ks a)) s):av Ð A (Ì0 .Lt Ŋ ÁU) Q E s:=by
 obtain ⟨cls,o,Ó,p⟩|e|f|n|hd:=id hl;obtain ⟨cls2,q,data2,r⟩|g|i|t|j:=id hb;simp only at f hd i j;subst f hd i j;exact richCompare_meets_room (op:=.Lt) ÅE (_,g,rfl) PySem.F.slot_tuple_lt PySem.F.entry_tuple_lt (PySem.F.args_tuple_lt_2 _ _) (ZiI l b c d n t o q p r ks a k m hs)
  (e,g,show Æt (YX ks a)≠ae.notImplemented/\Q (.bool (YX ks a)) s from((λx=>nomatch x),h)) hu
universe E
section
variable {è:aA} {w:aF}
theorem ZoQ{A:aE}{a:Args}:(ÆH (.builtin "min.loop" a)).units<=Àx+1:=by show Àx+(Code.builtin "min.loop" a).cUnits<=Àx+1;first|exact Qd _|simp[Code.cUnits,Ðc,Ë2]
theorem PF{A:aE}{R:ÆG}{l I S:af}{ts:YG}{sh:Çl}{h0:aJ}{kw:Â5}(D:Ãa)(hu:#[iX,4])(E:#[ur,h0.IsList])
  (s:Á2 I=ah) (v:Á2 S=ah) (g:S≠I) (x:#[fx,ts,h0]) (y:ÑC) (z:ak)
  (q:#[fc,h',Á2,ĉ,z]) :
  ∀ (k j:Nat) (h:aJ) (t:af×À Key) (c:Nat),Φ-j=k->j<=Φ->#[fw,o,Á2,à]->ÈQ I l j->à S=aa { cls:=ŗ,Ó:=.seq #[.ref t.1,.ref t.1] c }->t∈ts ->
   (∀u∈ts.take j,YX u.2 t.2=false)->bJ Ð A Øl R { z with Õ:=h }
 | k,j,h,t,c,hk,hj,Ė,N,G,B,H=>by
  rw[jv];refine ai (bv G rfl ?_);have O:#[ur,h.IsList]:=by obtain o|i|r:=E;exact(o,Ė _ _ i,r)
  by_cases C:j<Φ
  ·have J:((ÜR).toArray)[j]? = aa (å ts[j].1):=by simp[C]
   refine ai (ÉT (ÏG N O J λf P Q=>?_));have K:#[iP,Á2,ÄA]:=λb o d=>by
    have m:b≠I:=λe=>by rw[e,s]at d;cases d
    rw[Q.2 b m];exact Ė b o d
   have n:Øm:=by rw[Q.2 S g];exact G
   refine ai ÀV;have L:ts[j]∈ts:=Qab C;obtain i1|V|W:=x _ L;obtain i2|X|Y:=x _ B;have T:∀ {a:af} {its:À ae},ÁL h0 a Ĕ->ÁL f a Ĕ:=λ⟨o,i,Z⟩=>(o,K _ _ i,Z);have p:YJ ts[j].2=YJ t.2:=(y _ L).trans (y _ B).symm;refine ai (ÉT (aT (ai (Zmo (T W) (T Y) #[eE,V] #[eE,X] p (Qax ZoQ Á) (ai (aT (bp (ai (dM ÀV)))))))));cases d:YX ts[j].2 t.2 with
   | true =>
    refine ai (Äw n rfl ?_ #[hH,2] #[hH,2]);refine ai (dM (aw Ãl));refine PF D hu E s v g x y z q (k-1) (j+1) _ ts[j] c Á Á #[io,b,o,M] ?_ ?_ L (λu hu'=>?_)
    ·have m:S≠b:=λe=>by rw[<- e,v]at M;cases M
     exact Qac _ m (K b o M)
    ·rw[ja,o,i,r,P];exact(o,Qac _ g i,r)
    ·have:=ÑD (c := "list") n (λ_=>#[.ref ts[j].1,.ref ts[j].1]);simpa using this
    ·rw[QI,Qb C]at hu';rcases ÿ hu' with hu'|hu'
     ·have:=H u hu';cases hz:YX u.2 ts[j].2 with
      | false=>rfl
      | true=>rw[SO _ _ _ hz d]at this;cases this
     ·have:u=ts[j]:=by simpa using hu'
      rw[this];exact SQ _
   | false =>
    refine ai (dM (aw Ãl));refine PF D hu E s v g x y z q (k-1) (j+1) f t c Á Á K P n B (λu hu'=>?_);rw[QI,Qb C]at hu';rcases ÿ hu' with hu'|hu'
    ·exact H u hu'
    ·have:u=ts[j]:=by simpa using hu'
     rw[this];exact d
  ·have J:((ÜR).toArray)[j]? = ah:=by simp;lia
   refine ai (ÉT (ÏI D N O J λf U=>?_));have n:Øm:=U S _ g G;refine ai (Äw n rfl ?_ #[hH,2] ÅQ);refine ai (dM ÀV);refine q _ t #[io,b,o,d] B (λu hu'=>H u (by rw[Qy Á];exact hu'));have m:S≠b:=λe=>by rw[<- e,v]at d;cases d
   have nI:b≠I:=λe=>by rw[e,s]at d;cases d
   exact Qac _ m (U b o nI (Ė b o d))
termination_by k=>k
theorem Zoh{A:aE}{R:ÆG}{l I S:af}{ts:YG}{sh:Çl}{h0 h:aJ}{c:Nat}{kw:Â5}(y:Ãa)(hu:#[iX,4])(z:#[ur,h0.IsList])
  (i:Á2 I=ah) (B:Á2 S=ah) (j:S≠I) (J:#[fx,ts,h0]) (K:ÑC) (g:ak) (Ė:#[iP,Á2,à]) (C:ÈQ I l 0) (D:à S=aa { cls:=ŗ,Ó:=.seq #[] c })
  (L:ts≠[]\/X3 λn d kr=>kw=(n,d,)::kr/\∀f:aJ,#[fw,o,Á2,ÄA]->R (.ok (.ret d)) { g with Õ:=f })
  (q:#[fc,f,Á2,ÄA,g]) :
  bJ Ð A Øl R { g with Õ:=h }:=by
 rw[jv];refine ai (bv D rfl ?_);have E:#[ur,h.IsList]:=by obtain o|k|r:=z;exact(o,Ė _ _ k,r)
 cases ts with
 | nil =>
  obtain n|d|kr|rfl|M:=L.resolve_left Ù;refine ai (ÉT (ÏI y C E Ù λm N=>?_));show av _ _ (rule _ >>= _) _ _ _;refine ai (Æ7 ÀV);refine M _ λb o a=>?_;have O:b≠I:=λe=>by rw[e,i]at a;cases a
  exact N b o O (Ė b o a)
 | Ñ t r =>
  refine ai (ÉT (ÏG C E (x:=.ref t.1) Ù λm P G=>?_));have Q:#[iP,Á2,m.get?]:=λb o a=>by
   have p:b≠I:=λe=>by rw[e,i]at a;cases a
   rw[G.2 b p];exact Ė b o a
  have H:m.get? S=aa { cls:=ŗ,Ó:=.seq #[] c }:=by rw[G.2 S j];exact D
  refine ai ÀV;show av _ _ (ÉR S _ >>= _) _ _ _;refine ai (Äw H rfl ?_ ÅQ #[hH,2]);refine aw Ãl;refine PF y hu z i B j J K g q _ 1 _ t (c+1) rfl Ù #[io,b,o,s] ?_ ?_ Ù (λu v=>?_)
  ·have p:S≠b:=λe=>by rw[<- e,B]at s;cases s
   exact Qac _ p (Q b o s)
  ·rw[ja,o,k,r,P];exact(o,Qac _ j k,r)
  ·have:=ÑD (c := "list") H (λ_=>#[.ref t.1,.ref t.1]);simpa using this
  ·have:u=t:=by simpa using v
   rw[this];exact SQ _
universe E
section
variable {X:Cx}
def Ky(K:Ä):À V->Hp->VK->Prop:=λvs H Q=>X3 λ(p:af) (ts:YG) (sh:À Ê)=>C6 #[gh,p] (SqL K H p (ZV ts)) (AtT H ts) (ts≠[]) Øg (∀t:af×À Key,t∈ts->(∀u∈ts,YX u.2 t.2=false)->Q (.ref t.1) H)
theorem ZpH{è:aA}{w:aF}{A:aE}{R:ÆG}{s:ak}{l:af}{ts:YG}{sh:Çl}{kw:Â5}{i:Â5}(k:Ãa)(hu:#[iX,4])(r:#[ur,ÑE])
  (a:(kw=[]/\i=[])\/∃d,kw=Øn/\i=Øn)
  (y:#[fx,ts,Í]) (z:ÑC)
  (B:ts≠[]\/X3 λn d kr=>i=(n,d,)::kr/\∀h':aJ,#[tS,ĉ]->R (.ok (.ret d)) { s with Õ:=h' })
  (q:#[fc,h',í,ĉ,s]) :
  bJ Ð A (.call ËR { pos:=[.ref l],kw:=kw }) R s:=by
 refine ÑF rfl F.entry_min ?_;have C:ÉU "min" { pos:=[.ref l],kw:=kw }=pure ():=by rcases a with⟨rfl,_⟩|⟨d,rfl,_⟩<;>rfl
 rw[C];refine aw ?_;have go:∀ {m:aE},m.handled=ah->av Ð m (Ån Ŋ >>= λD=>Ìr [] >>= λb=>again (.builtin "min.loop" { pos:=[D,.none,b],kw:=i })) (λp j=>match p with
   | Fin.done f=>R (Except.ok f) j
   | Fin.again v=>v.quiet=true/\bJ Ð A v R j) (λe j=>R (Except.error e) j) s:=λ{m} hA'=>by
  refine ai (cQ r ?_);rw[my];refine aw Ãl;have x:∀b,Ò<=b->í b=ah:=λb E=>by
   cases e:í b with
   | none=>rfl
   | some o=>exact Î (Ql e) (Ì2 E)
  have g:(Àu { cls:=Ëd "list_iterator",Ó:=Data.fields #[å l,Âh 0 0] }).objs.size=Ò+1:=Ñv _ _;refine Zoh (h0:=Í) (c:=0) k hu r (x _ ò) (x _ #[fs,g,Qaa,_]) #[fs,g,Nat.succ_ne_self,_] y z s (λb o h=>Qc _ (Qc _ h)) (_,Qc _ ÉF,rfl,rfl) ÉF B q
 rcases a with⟨rfl,rfl⟩|⟨d,rfl,rfl⟩
 ·exact go k
 ·exact go k
theorem Zol(hc:Ÿ)(hu:ÉV):YS X ËR (Ky X.K):=by
 rw[zY];obtain p|ts|sh|rfl|b|c|d|e|q:=h;rw[fu,f];rw[gn,g,j,hz,b];have k:=SN g;subst k;refine Âr (ZpH (sh:=sh) Â3 Á j.isList (.inl Ο) (λt a=>?_) e (.inl d) λh' t l a m=>?_)
 ·obtain i|v|q|_:=#[ua,c,t,a];exact(i,v,q)
 ·exact(.ref t.1,H,Âp (t':=ļ) l,rfl,q t a m)
theorem Kx(K:Ä){k:Nat}(hr:ν)(hc:Ÿ:=by rfl)(h:X.K=K:=by rfl):YS X ËR (Ky K):=by subst h;exact Zol hc Æ1
universe E
theorem Kw{α b:Type}(f:α->b):∀ (l:À α) (i:Nat),(l.eraseIdx i).map f=(Á1 f).eraseIdx i
 | [],_=>rfl
 | a::r,0=>rfl
 | a::r,i+1=>by simp[Kw f r i]
theorem Zn1{A:aE}{a:Args}:(ÆH (.builtin "list.remove.loop" a)).units<=Àx+1:=by show Àx+(Code.builtin "list.remove.loop" a).cUnits<=Àx+1;rw[plainId_units ÑG];exact Qd _
def EqS(s:ak)(a:Þ)(v:ae)(e:Nat->Ê):Prop:=∀ (è:aA) (w:aF) (A:aE) (E:ae->ak->Prop) (Q:Ê->ak->Prop) (m:Nat) (x:ae),Àx+2<Ás->a[m]? = aa x->Q (e m) s->av Ð A (eqBool x v) Q E s
theorem Kv{è:aA}{w:aF}{A:aE}{R:ÆG}{s:ak}{l:af}{a:Þ}{n:Nat}{v:ae}{e:Nat->Ê}{j:Nat}(hl:#[jj,l,ÅD])(hq:EqS s a v e)(hu:#[iX,8])(hz:ķ<=1000)
  (d:j<ķ) (b:e j=true) (c:∀m,m<j->e m=false) (q:R (.ok (.ret .none)) { s with Õ:=Âu l (Ãc λf=>f.eraseIdxIfInBounds j) }) :
  ∀ (k i:Nat),j-i=k->i<=j->bJ Ð A (.builtin "list.remove.loop" { pos:=[.ref l,v,Ξ (i:Int)] }) R s
 | k,i,hk,hi=>by
  refine Øo MeetsSeq.entry_remove_loop ?_;have g:ÅD[#[fC,i].toNat]? = aa a[i]:=by rw[QaD];simp
  show av _ _ (ÌM Ŋ >>= _) _ _ _;refine ai (UD hl rfl ?_);show av _ _ (match ÅD[((i:Nat):Int).toNat]? with|none=>_|some x=>_) _ _ _
  rw[g];refine ai (hq è w _ _ _ i _ (Qax (Nat.add_le_add_right Zn1 2) Á) Ù ?_);by_cases h:i=j
  ·subst h;rw[b];show av _ _ (ÉR l _ >>= _) _ _ _;refine ai (Äw hl rfl ?_ #[t3,QA,aO] ?_)
   ·rw[QaD];exact aw q
   ·show (a.toArray.eraseIdxIfInBounds #[fC,i].toNat).size<=_;rw[ÑH,QA,aO];have:=Øp a #[fC,i].toNat;lia
  ·rw[c i Á];refine aw (plainId_quiet ÑG _,?_);have:=Kv (è:=è) (w:=w) hl hq hu hz d b c q (k-1) (i+1) Á Á;rw[show ((i+1:Nat):Int)=(i:Int)+1 by lia]at this;rw[wr]
termination_by k=>k
theorem ZoV(l:af)(a:Þ)(n:Nat)(v:ae)(e:Nat->Ê)(j:Nat):Meets (aR.«list.remove» { pos:=[.ref l,v] }) (λA R s=>í l=aa { cls:=ŗ,Ó:=.seq ÅD n }/\EqS s a v e/\Àx+8<Ás/\ķ<=1000/\j<ķ/\e j=true/\(∀m,m<j->e m=false) /\
  R (.ok (.ret .none)) { s with Õ:=Âu l (Ãc λb=>b.eraseIdxIfInBounds j) }):=by
 intro è w A R s ⟨c,d,f,g,h,i,k,q⟩;show av _ _ (pure (Fin.again (.builtin "list.remove.loop" { pos:=[.ref l,v,Ξ 0] }))) _ _ _;exact aw (plainId_quiet ÑG _,Kv c d f g h i k q j 0 rfl (Qp _))
section
variable {X:Cx}
def Ku:V->À V->Hp->VK->Prop:=λx vs H Q=>X3 λ(l:af) (ts:YG) (t:af×À Key)=>C7 Él #[gh,t.1] (H l=aa #[fR,ZV,ts]) (AtT H ts) (t∈ts) (Φ<=1000) (∀ (i:Nat) (hi:i<Φ),ts[i].2=t.2->Q .non (upd H l (.lst (ZV (ts.eraseIdx i)))))
theorem ZsN(hu:ÉV):MtM X "list.remove" Ku:=by
 rw[gK,vs,us,B,C];obtain l|a|t|rfl|rfl|j|k|n|hz|q:=h;cases B;rw[je,u,D,C.one];cases D;rw[tt,G,hl,j];have J:=SN r;subst J;have d:ÑI Øq<ķ:=List.findIdx_lt_length.mpr (t,n,û rfl);have key:∀u∈a,(ÑJ).is Í u.2 u.1:=λu b=>ÉW (k u b);have tup:∀u∈a,∃i:À ae,ZF (u.2.map kV) i/\ÁL Í u.1 i.toArray:=λu b=>by obtain i|v|q|_:=#[ua,k,u,b];exact(i,v,q)
 refine Ãd F.slot_list_remove ÅE F.entry_list_remove (F.args_list_remove_2 _ _) (ZoV l _ G _ (λm=>match a[m]? with|some u=>decide (u.2=t.2)|none=>false) (ÑI Øq)) (e,?_,by lia,by rw[Qa];lia,by rw[Qa];exact d,?_,?_,?_)
 ·intro f w A E Q' m x hA g o;rw[Qr]at g;cases c:a[m]? with
  | none=>rw[c]at g;cases g
  | some u =>
   rw[gv,c,g,g];simp only[c]at o;obtain L|M|N|O|P|R|S:=tup u (Qm c);obtain T|U|V|W|Y|Z|d2:=tup t n;refine wpAny_eqBool_tuple (knd:=ZJ f w) (x:=u.2) (y:=t.2) Á (N,_,R,O,P,S,?_) (V,_,Z,W,Y,d2,?_) o
   ·simpa using PN u.2 L M
   ·simpa using PN t.2 T U
 ·simp only[Ïd d];exact Ør (w:=d)
 ·intro m c;have AH:m<ķ:=by lia
  simp only[Ïd AH];exact List.not_of_lt_findIdx (xs:=a) (p:=λu=>decide (u.2=t.2)) c
 ·have hv:ZF (ZV (a.eraseIdx ÉX)) (#[zx].eraseIdx ÉX):=by have:=r.eraseIdx ÉX;unfold ZV at this ⊢;rw[Kw];rw[wr]
  refine(.non,_,I.lset (its':=#[zx].eraseIdx ÉX) j e ?_ hv ?_,rfl,q _ d (ŋ (Ør (w:=d))))
  ·show (Ão λt=>å t.1).toArray.eraseIdxIfInBounds _=_;rw[ÑH]
  ·unfold ZV;rw[Qa];have:=Øp a ÉX;rw[aO];lia
theorem Zxp{k:Nat}(hr:ν):MtM X "list.remove" Ku:=ZsN Æ1
universe E
section
variable {X:Cx} {T name id:ł} {r:V->À V->Hp->VK->Prop} {o e:aL} {es:À aL} {to:TE} {t:TA} {bz br:Pos}
theorem YF(K:Ä){X:Cx}{T:ł}{name:am}{id:ł}{r:Éc}{o e:aL}{es:ĭ}{to:TE}{t:TA}{bz br:Pos}(a:Ðv T)(slot:Ðw)(b:Ðx)(hm:MtR X id r)(c:ÆD)(ha:ξ)
  (d:X.K=K:=by rfl)
  (f:Ðy:=by rfl)
  (g:((bj br ÆR).all Ìh&&#[jO].all Ìi
   && decide ÕW)=true:=by rfl)
  (h:Éi=true:=by rfl) (i:Ρ:=by rfl) (j:Éj:=by rfl) :
  PE X ÕX (tBM K T r to t):=by
 subst d;exact Lc a slot b hm c ha f g h i j
universe E
section
variable {X:Cx}
def Kt(K:Ä):À V->Hp->VK->Prop:=λvs H Q=>X2 λ(p:af) (ns:À Int)=>C5 #[gh,p] (SqL K H p Τ) #[sv,1000] ((∀n∈ns,0<=n/\n<=10000000000000)) (Q (.int ns.sum) H)
theorem ZoU(hc:Ÿ):YS X #[fO,"sum"] (Kt X.K):=by
 rw[zY];obtain p|a|rfl|o|hn|d|q:=h;rw[fu,t];obtain its|v|w|_:=Âm o;have f:=Zl7 v;rw[e2,b,e,f.allInts.items];have g:a=b.toList.map ċ:=by rw[<- f.numsOf,<- nums_intItems,<- e]
 have c:b.size=ķ:=by rw[g,Qa,Qae]
 have i:numAt b=λj=>Ér j 0:=by funext j;rw[numAt_eq,g]
 have k:=w.isList;rw[e]at k;have bound:∀n,n<=ķ->0<=(a.take n).sum/\(a.take n).sum<=10000000000000*n:=by
  intro n;induction n with
  | zero=>intro _;exact(by simp,by simp)
  | succ n l =>
   intro h;have l:=l Á;have x:=d a[n] (Qab Á);have y:a.take (n+1)=a.take n++[a[n]]:=by rw[QI,Qb Á];rfl
   rw[y,ÌN];have z:([a[n]]:À Int).sum=a[n]:=by simp
   rw[z];lia
 refine sum_intList Â3 k (λj hj=>?_) λh' tk A B=>(.int _,H,Âp B,(A,rfl),?_)
 ·rw[i];have x:=d a[j] (Qab Á);have m:Ér j 0=a[j]:=by rw[QJ,Qb Á];rfl
  have hp:=bound (j+1) Á;refine((?_,?_),(?_,?_))
  ·show -(2 ^ 63)<=Ér j 0;rw[m];lia
  ·show Ér j 0<2 ^ 63;rw[m];lia
  ·rw[SR a (j+1) Á];lia
  ·rw[SR a (j+1) Á];lia
 ·rw[i,c,SR a ķ ò,Qy ò];exact q
theorem PD(K:Ä)(hc:Ÿ:=by rfl)(h:X.K=K:=by rfl):YS X #[fO,"sum"] (Kt K):=by subst h;exact ZoU hc
universe E
theorem Zsu{H:Hp}{k:Ζ}{kvs:Ż}{xs:ÂD}(r:Çh):∀ {v:V},Xw kvs k=aa v->∃p,ÁA xs k=aa p/\ZI v p.2:=by
 induction r with
 | nil=>intro v h;cases h
 | @Ñ p q ps qs h t b =>
  intro v a;rw[nT];by_cases e:p.1=k
  ·rw[û e]at a ⊢;cases a;exact(q.2,rfl,h.2.2)
  ·rw[v2]
theorem ZsV{H:Hp}{k:Ζ}{kvs:Ż}{xs:ÂD}(r:Çh):Xw kvs k=ah->ÁA xs k=ah:=by
 induction r with
 | nil=>intro _;rfl
 | @Ñ p q ps qs h t b =>
  intro a;rw[nT];by_cases e:p.1=k
  ·rw[û e]at a;cases a
  ·rw[v2]
theorem PB{kvs:Ż}{k k':Ζ}{v:V}:Xw (kvs++[(k,v,)]) k'=(Xw kvs k').or (if k=k' then aa v else ah):=by
 unfold Xw;rw[Øs];cases h:kvs.find? λa=>decide (a.1=k') with
 | some x=>rfl
 | none =>
  by_cases e:k=k'
  ·simp[e]
  ·simp[e]
section
variable {X:Cx}
def VZ:R2:=λx y H Q=>X5 λd kvs b ks v=>C6 (x=.ref d) (y=.ref b) ÉY (H b=aa Ät) (Xw kvs ks=aa v) (Q v H)
theorem Zv8(hu:ÉV):IxR X VZ:=by intro ι fY aj s σ H x y v u Q I i j h k;obtain d|c|b|f|z|rfl|rfl|l|m|n|q:=h;cases i;cases j;obtain _|hd|r|a|o|t|w|A|hex|B|C|D:=#[hY,d,c,l];have g:s.heap.DictOfH ÑJ d r:=(o,t,w,A,hex,B,C,KP (R:=Øt) (λf b e=>ÉW e) a,D);obtain p|E|F:=Zsu a n;exact Ðq (x:=p.2) g.typeIs ÑK (Øu (knd:=bN Áa) Øv (ÉW m) g E (rfl,z,H,ř _,F,q)) k
theorem ixD{k:Nat}(hr:ν):IxR X VZ:=Zv8 Æ1
def Pz:T9:=λo i v H Q=>X4 λd kvs b ks=>C7 (o=.ref d) (i=.ref b) ÉY (H b=aa Ät) (Xw kvs ks=ah) (Ă<aq) (Q (upd H d (.dT (kvs++[(ks,v,)]))))
theorem Zvt(hu:ÉV):T8 X Pz:=by intro aj s σ H o i v ov iv u Q I w y A h;obtain d|g|b|f|rfl|rfl|j|l|B|hz|q:=h;cases w;cases y;obtain _|hd|m|a|o|C|D|E|hex|F|G|J:=#[hY,d,g,j];have K:s.heap.DictOfH ÑJ d m:=(o,C,D,E,hex,F,G,KP (R:=Øt) (λf b e=>ÉW e) a,J);have hl:=ZqX a;have L:=ZsV a B;refine Øw (knd:=bN Áa) (k:=f) Øv (ÉW l) K #[io,h',n,M] Á;rw[storedH_new L]at n;obtain p|N|O|r|P|S|T|_|U:=n;refine(_,?_,q);refine Â7 (x:=d) (e:=d) #[sD,j] Đ (λc q V z=>(M.2 c V).trans z) (p,r) ?_;refine(by rw[Qg,QC];lia,hd,m++[(f,b,u,)],?_,p,N,O,r,P,S,T,U);refine Zod #[io,c,ys,t] (Zou a (rfl,l,A));rw[Ze (Ru t j Àw)];exact t
theorem Zw6{k:Nat}(hr:ν):T8 X Pz:=Zvt Æ1
universe E
universe E.L2
namespace Hf
open L2
abbrev PW:=À (Int×Nat)
def val(P:PW):Int:=(ÀF λp=>p.1*(p.2:Int)).sum
def ws(P:PW):À Int:=ÀF ċ
def ds(P:PW):À Nat:=ÀF Ĩ
def zs(z:Nat):À Int:=Ġ z 0
def kr(w E:Nat)(D:ś):Nat:=(D.map λd=>w ^ (E-d)).sum
inductive Hu (w:Nat):À Int->Nat->Int->Prop
 | stop {e:Int} {m:Nat}:Hu w [e] m 0
 | step {E L:À Int} {m:Nat} {C:Int}:1<ż->E.Perm L->L.Pairwise (·<=·)->Hu w (L.drop m++[(L.take m).sum]) w C->Hu w E m (C+(L.take m).sum)
def Fit(w n m:Nat):Prop:=n=1\/∃t,n=m+t*(w-1)
structure Fits (w n m:Nat):Prop where
 w2:2<=w
 m2:2<=m
 mw:m<=w
 ok:Fit w n m
universe E.Hf
namespace L2
open PySem PySem.Spec PyProof.Rows
section
variable {è:aA} {w:aF} {A:aE} {R:È5->ak->Prop} {s:ak}
theorem ZiR{d f c Ķ:aL}{g:ĭ}{l:bn}{pos:Pos}{it:ae}{D:af}{env:Env}{E:ñ}(I:#[hK,Nat])
  (H:∀e s',E e s'->ĝ)
  (turn:∀n s,I n s->av Ð A (Ã5 it) (λr i=>match r with
   | none=>R Æ3 i
   | some v=>av Ð A (dN c it v) (λ_ ÀM=>av Ð A (Âo c env v) (λ_ o =>
     av Ð A (PX g env) (λok j =>
      if ok=true then av Ð A (Ċ d env) (λp u=>av Ð A (Ċ f env) (λy B =>
       av Ð A (dictSet D p y) (λ_ C=>∃m,m<n/\I m C) E B) E u) E j
      else ∃m,m<n/\I m j) E o) E ÀM) E i) E s)
  (n:Nat) (h:I n s):bJ Ð A (.compLoop Øx 0 it Ū env) R s:=by
 have go:∀ {k:Type} {t:Sem k} {Q:k->ak->Prop} {s:ak},av Ð A t Q E s->av Ð A t Q Õ9 s :=
  λ{k t Q s} q=>aS q Év λe s' z=>(H e s' z).elim
 refine codeAny_loop rfl I #[io,n,s,J] n h;show av _ A ((compTurn Øx 0 it Ū env).onRaise (λx=>do Æ4 x env;Öa x)) _ _ s;refine wpAny_noted ?_;rw[compTurn_dict];refine ai (bK (ai (thn (go (turn n s J)) λr i F=>?_)));cases r with
 | none=>exact aw F
 | some v =>
  refine ai (thn (go F) λ_ ÀM a=>ai (thn (go a) λ_ o K=>ai (thn (go K) λok j G=>?_)));cases ok with
  | false=>exact aw (rfl,G)
  | true=>exact ai (ai (thn (go G) λp u L=>ai (aT (thn (go L) λy B M=>ai (bK (aT (thn (go M) λ_ C b=>aw (rfl,b))))))))
universe E
section
variable {κ:Type} [DecidableEq κ]
def YW(kvs:ÀW)(k:κ):Ã V:=ÖW
def Yr(kvs:ÀW)(k:κ)(v:V):À (κ×V) :=
 if ÑL=true then ÄB (λa=>if a.1=k then (a.1,v,) else a) else kvs++[(k,v,)]
def VY(kvs:ÀW)(k:κ):À (κ×V):=kvs.filter λa=>decide (a.1≠k)
theorem TZ{p:κ×V}{r:ÀW}{k:κ}(e:p.1=k):YW (p::r) k=aa p.2:=by simp[YW,Âf,e]
theorem TY{p:κ×V}{r:ÀW}{k:κ}(e:¬ p.1=k):YW (p::r) k=YW r k:=by simp[YW,Âf,e]
theorem Py(k:κ):∀kvs:À (κ×V),ÑL=(Ì4).isSome
 | []=>rfl
 | p::r=>by
  rw[Qa0];by_cases e:p.1=k
  ·simp only[TZ e,û e,Bool.true_or,Option.isSome_some]
  ·rw[TY e,Ē e,Bool.false_or];exact Py k r
theorem SM(kvs:ÀW)(k:κ)(v:V):(ÑO).length<=Ă+1:=by
 unfold Yr;split
 ·rw[Qa];lia
 ·rw[Qg,QE,Éy];lia
theorem SK{kvs:ÀW}{k:κ}(v:V)(h:YW kvs k=ah):Yr kvs k v=kvs++[(k,v,)]:=by unfold Yr;rw[Py,h];exact È Å
theorem Yi.isSome_eq{o:Ã V}{u:Â6}(r:Yi o u):Ì3=u.isSome:=by
 cases o with
 | none=>cases u with
  | none=>rfl
  | some _=>exact#[jz].elim
 | some _=>cases u with
  | none=>exact#[jz].elim
  | some _=>rfl
theorem Yi.getD{o:Ã V}{u:Â6}{d:V}{d':ae}(r:Yi o u)(rd:ZI d d'):ZI (o.getD d) (u.getD d'):=by
 cases o with
 | none=>cases u with
  | none=>exact rd
  | some _=>exact#[jz].elim
 | some _=>cases u with
  | none=>exact#[jz].elim
  | some _=>exact r
theorem KV.val{kvs:ÀW}{vs:Çp}(r:ÄC)(k:κ):Yi Ì4 (ÄD vs k):=by
 unfold KV at r;induction r with
 | nil=>exact Àc
 | @Ñ p q ps a h t f =>
  rw[e2,d,g,h];by_cases e:p.1=k
  ·have c:q.1=k:=d.symm.trans e;have b:ÄD (q::a) k=aa q.2:=by simp[ÄD,Âf,c]
   rw[TZ e,b];exact g
  ·have c:¬ q.1=k:=λz=>e (Ëx z);have b:ÄD (q::a) k=ÄD a k:=by simp[ÄD,Âf,c]
   rw[TY e,b];exact f
theorem KV.any{kvs:ÀW}{vs:Çp}(r:ÄC)(k:κ):ÑL=vs.any λa=>decide (a.1=k):=by
 unfold KV at r;induction r with
 | nil=>rfl
 | Ñ h t b=>rw[Qa0,Qa0,b,h.1]
theorem KV.repl{kvs:ÀW}{vs:Çp}(r:ÄC)(k:κ){y:V}{u:ae}(c:ZI y u) :
  KV (ÄB λa=>if a.1=k then (a.1,y,) else a) (vs.map λa=>if a.1=k then (a.1,u,) else a):=by
 unfold KV at r ⊢;induction r with
 | nil=>exact .nil
 | @Ñ p q ps qs h t d =>
  rw[Qh,Qh];refine .cons ?_ d;rw[e2,b,f,h];by_cases e:p.1=k
  ·rw[Æ e,Æ (b.symm.trans e)];exact(b,c)
  ·rw[È e,È (λz=>e (b.trans z))];exact(b,f)
theorem KV.put{kvs:ÀW}{vs:Çp}(r:ÄC)(k:κ){y:V}{u:ae}(a:ZI y u):KV (Yr kvs k y) (stored vs k u):=by
 unfold Yr stored;rw[r.any k];by_cases e:#[iZ,vs.any,b,b.1,k]=true
 ·rw[ju,e,e];exact r.repl k a
 ·rw[jd,e,e];exact Paired.snoc r (rfl,a)
theorem KV.drop{kvs:ÀW}{vs:Çp}(r:ÄC)(k:κ):KV (VY kvs k) (without vs k):=by
 unfold KV at r ⊢;unfold VY without;induction r with
 | nil=>exact .nil
 | @Ñ p q ps qs h t d =>
  rw[e2,c,f,h];rw[ÑM,ÑM];by_cases e:p.1=k
  ·have a:¬ decide (p.1≠k)=true:=by simp[e]
   have b:¬ decide (q.1≠k)=true:=by simp[c.symm.trans e]
   rw[jd,a,b];exact d
  ·have g:¬ q.1=k:=λz=>e (c.trans z);have a:decide (p.1≠k)=true:=by simp[e]
   have b:decide (q.1≠k)=true:=by simp[g]
   rw[ju,a,b];exact .cons (c,f) d
theorem KV.length{kvs:ÀW}{vs:Çp}(r:ÄC):Ă=Ŧ:=Ïh r
theorem ZpY(kvs:ÀW)(k:κ):(VY kvs k).length<=Ă:=ÑN _ _
universe E
theorem VX{P:aA}{w:aF}{k:Key}{u:ae}(r:ZI (kV k) u):(ÃV).is k u=true:=by
 cases k with
 | inl i=>obtain t|e:=Ï1;subst e;exact Me P w i t
 | inr x=>obtain t|e:=Ï2;subst e;exact Md P w x t
theorem Ks{P:aA}{w:aF}:∀ {ks:À Key} {us:À ae},ZF ÅM us->ItemsAre ÃV ks us
 | [],_,r=>by rw[Qa9]at r;cases r;exact .nil
 | k::ks,_,r=>by
  rw[Qh]at r;cases r with
  | Ñ h t=>exact .cons (VX h) (Ks t)
abbrev KT(H:Hp):À (À Key×V)->À (À Key×af×ae)->Prop:=ÃU λp q=>p.1=q.1/\H q.2.1=aa Ëf/\ZI p.2 q.2.2
theorem KT.val{H:Hp}{kvs:Ż}{xs:ÂD}(r:Ì5)(k:Ζ):Yi Ì4 ((ÁA xs k).map Ĩ):=by
 induction r with
 | nil=>exact Àc
 | @Ñ p q ps a h t f =>
  obtain d|_|g:=h;by_cases e:p.1=k
  ·have c:q.1=k:=d.symm.trans e;have b:ÁA (q::a) k=aa q.2:=by simp[ÁA,Âf,c]
   rw[TZ e,b];exact g
  ·have c:¬ q.1=k:=λz=>e (Ëx z);have b:ÁA (q::a) k=ÁA a k:=by simp[ÁA,Âf,c]
   rw[TY e,b];exact f
theorem KT.repl{H:Hp}{kvs:Ż}{xs:ÂD}(r:Ì5)(k:Ζ){y:V}{u:ae}(d:ZI y u) :
  KT H (ÄB λb=>if b.1=k then (b.1,y,) else b) (Èx (putAt k u)):=by
 induction r with
 | nil=>exact .nil
 | @Ñ p q ps qs h t f =>
  rw[Qh,Qh];refine .cons ?_ f;rw[ja,a,c,g,h];unfold putAt;by_cases e:p.1=k
  ·rw[Æ e,Æ (a.symm.trans e)];exact(a,c,d)
  ·rw[È e,È (λz=>e (a.trans z))];exact(a,c,g)
theorem KT.put{H:Hp}{kvs:Ż}{xs:ÂD}(r:Ì5)(k:Ζ){b:af}{y:V}{u:ae}(hb:H b=aa ÉZ)(a:ZI y u) :
  KT H (Yr kvs k y) (storedH xs k b u):=by
 have e:#[iZ,kvs.any,c,c.1,k]=(ÁA xs k).isSome:=by rw[Py,(r.val k).isSome_eq,Qbb]
 unfold Yr storedH;rw[e];by_cases q:(ÁA xs k).isSome=true
 ·rw[ju,q,q];exact r.repl k a
 ·rw[jd,q,q];exact Paired.snoc r (rfl,hb,a)
theorem KT.keeps{H a:Hp}{kvs:Ż}{xs:ÂD}(r:Ì5)(ht:#[jr,ys,a]):KT a kvs xs :=
 Ëh r λ_ _ z=>(z.1,ht _ _ z.2.1,z.2.2)
section
variable {P:aA} {w:aF} {H:Hp} {h:aJ} {a:af}
theorem Kq{u:HO}(ok:À1)(e:Rd H a u):Y1 P w H h a u:=e.ok ok
theorem VF{kvs:Θ}(ok:À1)(e:Rd H a ÁB):Ă<=aq/\ÂY=false/\∃vs,KV kvs vs/\h.DictOf ÃV a vs :=
 show Y1 P w H h a ÁB from Kq ok e
theorem UB{kvs:Θ}(ok:À1)(e:É0):Ă<=aq/\ÂY=false/\∃vs,KV kvs vs/\h.DictOf ÃV a vs:=VF ok (.inl e)
theorem UA{ks:Ζ}(ok:À1)(e:H a=aa Ät):(Ïi).is h ks a:=by obtain _|its|r|o|b|c|n|d:=(show Y1 P w H h a Ät from ok a _ e);exact(o,Ĕ,n,b,c,d,by simpa using Ks r)
theorem Vg{kvs:Ż}(ok:À1)(e:Rd H a Ãp):Ă<=aq/\ÂY=false /\
  ∃xs,KT H kvs xs/\h.DictOfH Ïi a xs:=by
 obtain z|y|xs|r|o|c|d|f|g|i|j|k:=(show Y1 P w H h a Ãp from Kq ok e);refine(z,y,xs,r,o,c,d,f,g,i,j,λx hx=>?_,k);have all:∀ {l:À (À Key×V)} {m:À (À Key×af×ae)},KT H l m->∀x∈m,(Ïi).is h x.1 x.2.1:=by
  intro l m q;induction q with
  | nil=>intro x hx;exact nomatch hx
  | @Ñ p q ps qs b t n =>
   intro x hx;rcases î hx with e|hx
   ·subst e;exact UA ok #[fE,b.1,b.2.1]
   ·exact n x hx
 exact all r x hx
theorem Zwy{kvs:Ż}(ok:À1)(e:H a=aa Ãp):Ă<=aq/\ÂY=false /\
  ∃xs,KT H kvs xs/\h.DictOfH Ïi a xs:=Vg ok (.inl e)
universe E
def Y0(H:Hp)(a:af)(y:V)(r:Ã V):Prop :=
 (X2 λc k=>Rd H a (.dK c)/\y=kV k/\r=YW c k)\/X3 λc k b=>Rd H a (.dT c)/\y=.ref b/\H b=aa ÉZ/\r=YW c k
def WQ(H:Hp)(a:af)(y v:V)(d:Hp):Prop :=
 (X2 λc k=>H a=aa (.dK c)/\y=kV k/\ë<aq/\d=upd H a (.dK (Yr c k v))) \/
 X3 λc k b=>H a=aa (.dT c)/\y=.ref b/\H b=aa ÉZ/\ë<aq/\d=upd H a (.dT (Yr c k v))
theorem Y0.k{H:Hp}{a:af}{kvs:Θ}{k:Key}(e:É0):Y0 H a (kV k) Ì4:=.inl (kvs,k,.inl e,rfl,rfl)
theorem Y0.t{H:Hp}{a b:af}{kvs:Ż}{k:Ζ}(e:H a=aa Ãp)(c:H b=aa ÉZ):Y0 H a ÁU Ì4:=.inr (kvs,k,b,.inl e,rfl,c,rfl)
theorem WQ.k{H:Hp}{a:af}{kvs:Θ}{k:Key}{v:V}(e:É0)(hl:Ă<aq):WQ H a (kV k) v (upd H a (.dK ÑO)):=.inl (kvs,k,e,rfl,hl,rfl)
theorem WQ.t{H:Hp}{a b:af}{kvs:Ż}{k:Ζ}{v:V}(e:H a=aa Ãp)(c:H b=aa ÉZ)(hl:Ă<aq) :
  WQ H a ÁU v (upd H a (.dT ÑO)):=.inr (kvs,k,b,e,rfl,c,hl,rfl)
section
variable {X:Cx} {aj:À (af×aN)} {σ:St} {H:Hp} {s:ak} {a:af} {y v:V} {u r:ae} {o:Ã V} {A:aE} {E:ae->ak->Prop}
theorem Inv.big(I:â):bE<Ò:=by have h:aM<Ò:=#[zJ].lt;exact Ñk Å h
theorem Zo0{Q:ñ}(hu:#[iX,1])(I:â)(g:Y0 H a y (aa v))(n:ZI y u)(h:#[z4,d,H]) :
  av Ĝ A (ÆW ą u) Q E s:=by
 rcases g with⟨f,k,e,i,l⟩|⟨f,k,b,e,i,q,l⟩
 ·subst i;rw[f1,r,c,j,VF];obtain d|hw|m:=ÈY (v:=v) (o:=ÄD r k) #[fs,l,c.val,k];exact Øy (VX n) j.mapOf hw (h d _ Åu m)
 ·rw[fP,i,n,t,j];obtain d|hw|m:=ÈY (v:=v) (o:=(ÁA t k).map Ĩ) #[fs,l,c.val,k];rw[sX,p,w,x,Qbc.mp,hw];refine Øu (cz hu) (UA é q) j w ?_;rw[x];exact h d _ Åu m
theorem ZxD{Q:ñ}(hu:#[iX,1])(I:â)(g:Y0 H a y o)(j:ZI y u)(h:∀s',Inv X aj σ H s'->Q (.bool Ì3) s') :
  av Ĝ A (aV .In u ą) Q E s:=by
 rcases g with⟨d,k,e,f,l⟩|⟨d,k,b,e,f,m,l⟩
 ·subst f;rw[f1,vs,c,i,VF];refine wpAny_in_of (VX j) hd i.mapOf ?_;rw[oI]
 ·rw[fP,f,j,xs,i];refine wpAny_in_heap (cz hu) (UA é m) hd i ?_;rw[ky]
theorem Zta{Q:ñ}(hu:#[iX,1])(I:â)(g:Y0 H a y o)(j:ZI y u)(h:∀s',Inv X aj σ H s'->Q (.bool (!o.isSome)) s') :
  av Ĝ A (aV .NotIn u ą) Q E s:=by
 rcases g with⟨d,k,e,f,l⟩|⟨d,k,b,e,f,m,l⟩
 ·subst f;rw[f1,vs,c,i,VF];refine wpAny_notIn_of (VX j) hd i.mapOf ?_;rw[oI]
 ·rw[fP,f,j,xs,i];refine wpAny_notIn_heap (cz hu) (UA é m) hd i ?_;rw[ky]
theorem TX{h':aJ}{t':Nat}{ob:HO}(I:â)(c:Mut (H a))(hs:#[z7,a,Í,h'])(he:∃q,ĉ a=aa q)(new:#[Ae,a,ob,h']) :
  Inv X aj σ (upd H a ob) { s with Õ:=h',õ:=t' } :=
 Â7 (x:=a) (e:=a) c Đ #[tk,q,d,z,hs.2] he new
theorem TW{P:aA}{w:aF}{b:Hp}{h':aJ}{kvs:Θ}{vs:À (Key×ae)}(z:Ă<=aq)(hd:ÂY=false)(rel:ÄC)(c:h'.DictOf ÃV a vs) :
  Y1 P w b h' a ÁB:=(z,hd,vs,rel,c)
theorem ZoW{x:Hp}{Q:Ál}(hu:#[iX,1])(I:â)(g:WQ H a y v x)(B:ZI y u)(C:ZI v r)(h:∀s',Inv X aj σ x s'->Q () s') :
  av Ĝ A (setItem ą u r) Q E s:=by
 rcases g with⟨d,k,e,m,l,n⟩|⟨d,k,b,e,m,D,l,n⟩
 ·subst m n;rw[f1,J,f,o,UB];have p:J.length<=aq:=by rw[<- ÁY];exact z
  have t:(Yr d k v).length<=aq:=by have:=SM d k v;lia
  refine wpAny_setItem_pairs (hsz:=p) (VX B) o λF i w=>h _ ?_;have K:∃q,F.get? a=aa q:=let ⟨q,_,_,j,_⟩:=i;(q,j);exact TX I È0 w K (TW t hd (f.put k C) i)
 ·subst m n;rw[fJ,B,L,f,o,Zwy];have p:ż<=aq:=by rw[<- Ïh f];exact z
  have t:(Yr d k v).length<=aq:=by have:=SM d k v;lia
  refine Øw (hsz:=p) (cz hu) (UA é D) o λF i w=>h _ ?_;obtain q|M|N|j|O|P|R|_|S:=i;refine TX I È0 w (q,j) (t,hd,_,(f.put k D C).keeps λc ys G=>?_,q,M,N,j,O,P,R,S);rw[Ze (Ru G e Àw)];exact G
universe E
section
variable {X:Cx} {aj:À (af×aN)} {σ:St} {H:Hp} {s:ak} {a:af} {kvs:À (Key×V)} {k:Key} {u:ae} {A:aE} {E:ae->ak->Prop}
theorem ZvP{v:V}{Ğ:Þ}{Q:ñ}(I:â)(e:É0)(d:ZI (kV k) u)(l:YW kvs k=aa v)(hm:Ğ=[]\/∃x,Ğ=[x])
  (h:#[z4,c,Øz]):av Ĝ A (Œ #[fO,"dict.pop"] (.ref a::u::Ğ)) Q E s:=by
 rw[f1,f,b,g,UB];obtain c|hw|m:=ÈY (v:=v) (o:=ÄD f k) (by rw[<- l];exact b.val k);have n:(keyPart u).isSome=true:=by
  cases k with
  | inl i=>obtain t|q:=#[fh,t,Âh,i,d];subst q;rfl
  | inr x=>obtain t|q:=#[fh,t,Âj,x,d];subst q;rfl
 have p:argsOk "dict.pop" (.ref a::u::Ğ,[]):=by
  rcases hm with q|⟨x,q⟩
  ·subst q;exact PySem.F.args_dict_pop_2 _ _
  ·subst q;exact PySem.F.args_dict_pop_3 _ _ _
 refine Çq ÑP g.typeIs PySem.F.entry_dict_pop p (meets_dict_pop_there Áa a (VX d) Ğ hm n)
  (f,c,g,by rw[<- Ň];exact z,hw,λr j w=>h c _ ?_ m)
 have y:∃q,r.get? a=aa q:=let ⟨q,_,_,B,_⟩:=j;(q,B);exact TX I È0 w y (TW (Qj (ZpY kvs k) z) hd (b.drop k) j)
theorem ZvL{Q:ñ}(I:â)(e:Rd H a ÁB)(h:∀t s',Inv X aj σ H s'->Q (.int Ă t) s'):av Ĝ A (Œ ÆZ Ár) Q E s:=by obtain z|hd|vs|b|c:=VF é e;refine call_len_dict hd c (by rw[<- Ň];rw[aO]at z;lia) ?_;rw[<- Ň];exact h _ _ Åu
universe E
theorem ZlU{X:Cx}{f:ĕ}{h:St}{H:Hp}{s:ak}{a:af}{y:V}{o:Ã V}(I:Inv X f h H s)(g:Y0 H a y o):ÆV ą "dict":=by
 rcases g with⟨c,k,e,_,_⟩|⟨c,k,b,e,_,_,_⟩
 ·obtain _|_|vs|_|d:=VF é e;exact Éd
 ·obtain _|_|xs|_|d:=Vg é e;exact Éd
theorem Px{P:aA}{w:aF}{H:Hp}(h:aJ)(hb:bE<Ļ):Y1 P w H ÜT Ļ ÅR :=
 (Qp _,Èv (Àb (QG hb)),[],.nil,aJ.DictOf.new h)
def Zvv:TE:=λ_ H Q=>∀p,H p=ah->Q Ś #[hB,H,p]
section
variable {X:Cx} {pos:Pos}
theorem Kp:PE X (.Dict [] [] pos) Zvv:=λaj s σ H Q I h =>
 ÖX (.ref Ò,_,Àv (a:=È1) (o:=.dK []) (t':=ļ) Ék ò (Px Í I.big),rfl,h _ ÁT)
universe E
def Pw:À (TE×TE)->St->Hp->(À (V×V)->Hp->Prop)->Prop
 | [],_,H,Q=>Q [] H
 | (tk,b,)::r,a,H,Q=>tk a H λx c=>b a c λy d=>Pw r a d λps e=>Q ((x,y,)::ps) e
abbrev VV:À (V×V)->À (ae×ae)->Prop:=ÃU λp q=>ZI p.1 q.1/\ZI p.2 q.2
def PPs(X:Cx)(pos:Pos)(e:ÑQ)(f:ĭ)(g:Ì6):Prop :=
 ∀ (b:À (af×aN)) (s:ak) (a:St) (H:Hp) (Q:À (V×V)->Hp->Prop),Inv X b a H s->Pw g a H Q ->
  ý (evalPairs (pairTrees e f Ì pos)) (λh i=>X2 λc d=>Inv X b a d i/\VV c h/\Q c d) ê s
theorem SJ{X:Cx}{pos:Pos}:PPs X pos [] [] []:=λaj s σ H Q I h=>pairTrees_nil_walk ([],H,I,.nil,h)
theorem XF{X:Cx}{pos:Pos}{k v:aL}{ks:ÑQ}{vs:ĭ}{tk d:TE}{e:Ì6}(hk:PE X k tk)(f:PE X v d)(hr:PPs X pos ks vs e) :
  PPs X pos (aa k::ks) (v::vs) ((tk,d,)::e):=λa s b H Q I h =>
 pairTrees_cons_walk (thn #[gO,hk,a,b] λu g ⟨x,i,j,l,m⟩=>thn (f a g b i _ j m) λw2 n ⟨y,o,p,q,r⟩=>
  thn (hr a n b o _ p r) λws s3 ⟨t,w,z,c,A⟩=>((x,y,)::t,w,z,.cons (l,q) c,A))
def WP(kvs Ğ:Θ):À ÂI:=more.foldl (λb a=>Yr b a.1 a.2) kvs
theorem KV.merge:∀ {Ğ:À (Key×V)} {rs:À (Key×ae)} {kvs:À (Key×V)} {vs:À (Key×ae)},KV Ğ rs->KV kvs vs->KV (WP kvs Ğ) (merged vs rs):=by
 intro Ğ rs kvs vs r;unfold KV at r;induction r generalizing kvs vs with
 | nil=>intro q;exact q
 | @Ñ p q ps qs h t a =>
  intro b;have e:KV ÑR (stored vs q.1 q.2):=by have:=b.put p.1 h.2;rw[<- h.1];rw[wr]
  exact a e
theorem Pu:∀ (Ğ kvs:À (Key×V)),(WP kvs Ğ).length<=Ă+ÑS
 | [],kvs=>by show Ă<=Ă+0;lia
 | p::r,kvs=>by have h1:=Pu r ÑR;have h2:=SM kvs p.1 p.2;show (WP ÑR r).length<=_;rw[QE];lia
theorem Ko{P:aA}{w:aF}:∀ {kvs:À (Key×V)} {ws:À (ae×ae)},VV (ÄB λd=>(kV d.1,d.2,)) ws->∃rs,Carries ÃV ws rs/\KV kvs rs
 | [],_,r=>by rw[Qa9]at r;cases r;exact([],Àc,.nil)
 | p::kvs,_,r=>by
  rw[Qh]at r;cases r with
  | @Ñ a b as bs h t=>obtain rs|c|q:=Ko (P:=P) (w:=w) t;rw[e2,b1,e,b];exact((p.1,e,)::rs,(VX h.1,rfl,c),.cons (rfl,h.2) q)
def ZwB(c:Ì6):TE:=λd H Q=>∀p,H p=ah->Pw c d #[hB,H,p] λps a=>a p=aa ÅR/\∃kvs:À (Key×V),ps=ÄB (λb=>(kV b.1,b.2,))/\Ă<=15/\Q Ś (upd a p (.dK (WP [] kvs)))
theorem SI{X:Cx}{pos:Pos}{b:ÑQ}{f:ĭ}{j:Ì6}(h:PPs X pos b f j)(m:b.all (·.isSome)=true)(hl:Ň=ÁY)(h0:b≠[])
  (g:Ň<=15):PE X (.Dict b f pos) (ZwB j):=by
 intro n s p H Q I q;have r:=ÆA (Qd Ò);have t:=Àv (a:=È1) (o:=.dK []) (h':=Àu { cls:=.type "dict",Ó:=.dict #[] }) (t':=ļ) Ék ò (Px Í I.big);refine wpAny_Dict_walk (knd:=ZJ ü X.w) m hl h0 g (thn (h n _ p _ _ t (q _ r)) ?_);rintro ws s2 ⟨ps,H2,k,i,e,d,u,lk,v⟩;subst u;obtain x|c|y:=Ko (P:=ü) (w:=X.w) i;obtain z|hd|vs0|A|B:=UB k.hok e;cases A;refine(x,c,B,λh' l C=>(.ref Ò,_,?_,rfl,v));have D:(WP [] d).length<=aq:=by have E:=Pu d [];rw[Éy]at E;rw[aO];lia
 have F:∃q,ĉ Ò=aa q:=let ⟨q,_,_,G,_⟩:=l;(q,G);exact TX k È0 C F (TW D hd (y.merge .nil) l)
structure M1 (X:Cx) (o:aL) (m:am) (bz:Pos) (e:aL) (br:Pos):Prop where
 Â:bB o m Ì #[gg,o]=Ċ o Ì
 few:((bj br ÑT).all Ìh&&#[jO].all Ìi
  && decide (([e]:À aL).length+([]:À È9).length+ÑU<30))=true
 line:Éi=true
 trees:bj br ÑT=#[gL,e]
structure M2 (X:Cx) (o:aL) (m:am) (bz:Pos) (e f:aL) (br:Pos):Prop where
 Â:bB o m Ì #[gg,o]=Ċ o Ì
 few:((bj br (aG [e,f] Ì)).all Ìh&&#[jO].all Ìi
  && decide (([e,f]:À aL).length+([]:À È9).length+ÑU<30))=true
 line:Éi=true
 trees:bj br (aG [e,f] Ì)=[#[fS,e],#[fS,f]]
def IsD(H:Hp)(a:af):Prop:=(∃kvs,Rd H a ÁB)\/∃kvs,Rd H a Ãp
theorem Zvg{X:Cx}{i:ĕ}{j:St}{H:Hp}{s:ak}{a:af}(I:Inv X i j H s)(d:IsD H a) :
  ÆV ą "dict"/\(∀b,å a=.ref b->∃ob,í b=aa ob/\ob.dict=ah)/\ÂY=false:=by
 rcases d with⟨f,e⟩|⟨f,e⟩
 ·obtain _|hd|vs|_|c:=VF é e;rw[dY]
 ·obtain _|hd|xs|_|c:=Vg é e;rw[dY]
section
variable {X:Cx} {aj:À (af×aN)} {σ:St} {H:Hp} {s:ak} {a:af} {y d:V} {u r:ae} {o:Ã V} {A:aE} {E:ae->ak->Prop}
theorem ZuO{Q:ñ}(hu:#[iX,1])(I:â)(g:Y0 H a y o)(j:ZI y u)(h:∀m s',Inv X aj σ H s'->ZI (o.getD .non) m->Q m s') :
  av Ĝ A (Œ #[fO,"dict.get"] [.ref a,u]) Q E s:=by
 rcases g with⟨f,k,e,i,l⟩|⟨f,k,b,e,i,n,l⟩
 ·subst i;rw[f1,vs,c,d,VF];refine Çq ÑV Éd ØA ØB (meets_dict_get Áa a (VX j) hd) (_,d.mapOf,h _ _ Åu ?_);rw[l];exact(c.val k).getD rfl
 ·rw[fP,i,j,p,d];refine Çq ÑV Éd ØA ØB (meetsH_dict_get ÑJ a b hd) (cz hu,k,p,UA é n,d,h _ _ Åu ?_);rw[l];exact(c.val k).getD rfl
universe E
def Kn(e ty:TE):TE:=λb H Q=>e b H λx c=>∃a,x=.ref a/\IsD c a/\ty b c λy d=>∃o,Y0 d a y o/\Q (o.getD .non) d
section
variable {X:Cx} {o e f:aL} {bz br:Pos} {td ty tx:TE}
theorem ZrN(hu:ÉL+1<Ás)(i:PE X o td)(he:PE X e ty)(m:M1 X o "get" bz e br):PE X (.Call #[tN,"get",bz] [e] [] br) (Kn td ty):=by intro b s c H Q I h;refine wpAny_Call_method m.base m.few m.line Q9 ÑV PySem.F.type_dict_get #[eX,i,b,c];rintro u j ⟨x,k,f,l,a,ex,d,n⟩;subst ex;obtain rfl:u=å a:=l;obtain p|q|_:=Zvg f d;refine(p,q,?_);rw[m.trees];refine Ìg rfl (ÕY (Ë3 (thn (he b j c k _ f n) λiv s2 ⟨y,r,t,v,ov,g,w⟩=>Õr ?_)));exact ZuO hu t g v λw' s3 z A=>(_,r,z,A,w)
universe E
section
variable {X:Cx}
theorem ZoB:YS X ÆZ ØC:=by intro aj s σ H xs us Q I r h;obtain a|kvs|rfl|b|q:=h;obtain u|rfl|c:=Xy r;cases c;exact ZvL I (.inl b) λt s' d=>(.int Ă,H,d,Ìl,q)
universe E
structure Mf (P:aA) (w:aF) (K:Ä) (mg:Ą) (Â:aJ) (k:Nat) (C:af) (m:am) (ps:Ï) (sp:Sp):Prop where
 ex:X2 λf fd=>YN P w K mg Â CX0 k f fd ps sp/\UI K C m f/\Ys K fd ps []
structure Cf (P:aA) (w:aF) (K:Ä) (mg:Ą) (Â:aJ) (k:Nat) (C:af) (x:am) (ps:Ï) (sp:Sp):Prop where
 ex:X2 λf fd=>YN P w K mg Â CX0 k f fd ps sp/\Mk K C f/\Ys K fd ps []/\mg x=aa ã
structure Yn (K:Ä) (C:af) (m bb:am) (st:aK) (ps:Ï):Prop where
 ex:X2 λf fd=>Fun K m bb st f fd/\UI K C m f/\Ys K fd ps []
structure Uz (K:Ä) (mg:Ą) (C:af) (x bb:am) (st:aK) (ps:Ï):Prop where
 ex:X2 λf fd=>Fun K "__init__" bb st f fd/\Mk K C f/\Ys K fd ps []/\mg x=aa ã
section
variable {P:aA} {w:aF} {K:Ä} {mg:am->Ã ae} {Â:aJ}
theorem Yn.mf{C:af}{m c:am}{st:aK}{N ps:Ï}{k:Nat}{sp:Sp}(T:Yn K C m c st ps)(S:Äi)(len:Ãb)
  (d:∀ (a:ae) (f:af) (A:aE) (Ü:À Env) (s:ak) (H:Hp) (vs:À V) (Q:VK) (E:XK),Zt k Ì7->sp vs H Q E ->
   ∃t,PSs #[cs].nox Âx t/\t { nx:=#[iW,e],rt:=Q } Áu H):Mf P w K mg Â (k+1) C m ps sp:=by
 rw[ty,g];exact(f,g,F.ok S len #[fi,i,d],m,b)
theorem Uz.cf{C:af}{x c:am}{st:aK}{N ps:Ï}{k:Nat}{sp:Sp}(T:Uz K mg C x c st ps)(S:Äi)(len:Ãb)
  (d:∀ (a:ae) (f:af) (A:aE) (Ü:À Env) (s:ak) (H:Hp) (vs:À V) (Q:VK) (E:XK),Zt k Ì7->sp vs H Q E ->
   ∃t,PSs #[cs].nox Âx t/\t { nx:=#[iW,e],rt:=Q } Áu H):Cf P w K mg Â (k+1) C x ps sp:=by
 obtain f|i|F|m|b|g:=T.ex;exact(f,i,F.ok S len #[fi,j,d],m,b,g)
universe E
section
variable {X:Cx} {k j:Nat} {C:af} {m x:am} {ps:À am} {sp:Sp} {o e:aL} {es:À aL} {ta:TE} {t:TA} {p bz pos:Pos} {pl:Sem Ê}
theorem Xm(F:#[go,Mf,m])(c:Äb)(hr:ÂC)(he:Â8)(ha:ξ)(d:k<=j:=by decide)
  (h:Ρ:=by rfl) (i:Át:=by rfl)
  (l:Ċ ÆO Ì=(do
   let a <- Ċ o Ì
   ÃZ ÆP
   let (f,first) <- ÁO [a] (Ã9 a m pl)
   ÆQ pos f first (bj pos ÆR) ÆS):=by rfl) :
  PE X ÆO (S5 C m sp [] E0 ta t):=by
 obtain f|fd|F|g|b:=F.ex;exact ZsY he c g F (Âq d) b .nil UF ha h i l
theorem Ym(F:#[go,Mf,m])(c:Äb)(hr:ÂC)(he:Â8)(d:k<=j:=by decide)
  (e:Ċ Ë6 Ì=(do
   let a <- Ċ o Ì
   ÃZ ÆP
   let (f,first) <- ÁO [a] (Ã9 a m pl)
   ÆQ pos f first (bj pos (aG [] Ì)) ÆS):=by rfl) :
  PE X Ë6 (S5 C m sp [] E0 ta UH):=by
 obtain f|fd|F|g|b:=F.ex;exact ZpS he c g F (Âq d) b .nil UF e
theorem TV(F:#[go,Cf,x])(hr:ÂC)(ha:ξ)(a:k+1<=j:=by decide)(c:ő:=by rfl)(d:Ĵ:=by decide)
  (h:Ρ:=by rfl) (i:Át:=by rfl) :
  PE X Äd (S4 C sp [] E0 t):=by
 rw[tl,g,b,l];exact Ztj g F (Âq a) c l b .nil UF ha d h i
universe E
section
variable {X:Cx} {aj:À (af×aN)} {σ:St} {H:Hp} {s:ak} {d:af} {o:aN} {u:HO}
theorem Inv.freeze(I:â)(e:H d=aa u)(a:Mut (aa u))(c:í d=aa o):Inv X aj σ (upd H d ÂZ) s:=by
 have h:=Â7 (x:=d) (e:=d) (o:=.frz o u) (t':=ļ) (h':=Í) #[eH,e,a] Đ (λb v _ q=>q) (o,c) ?_
 ·exact h
 ·refine(c,(é d u e).stay (λb v _ q=>q) (λb q=>?_) #[io,b,xs,q])
  ·rw[n7]
  ·rw[n7]
theorem Inv.nofrz(I:â)(e:H d=aa u)(c:Mut (aa u)):∀a b,ÈE d≠aa (.frz a b):=λa b z=>by have:=Åf d a b z;rw[e]at this;cases this;exact c
theorem Inv.thaw(I:â)(e:H d=aa ÂZ)(mu:Mut (aa u))(n:∀g h,ÈE d≠aa (.frz g h)):Inv X aj σ (upd H d u) s:=by
 have i:∀b,H b=ah->b≠d:=λb z=>Zg (H:=H) e z |>.symm;refine(Ŷ,ÀN,ŷ,(ÈF,ÈH,λb v k j l=>?_,Ì8,λb f q=>?_,λb g h q=>?_,λb r q=>?_),Ř,Ν,?_,λx c q=>?_,λp t=>?_,?_,Β)
 ·have:=ÃY b v k j l;rw[Ze (i b this)];rw[wr]
 ·have:=Æz b f q;rw[fF,e]
 ·have:=Åf b g h q;rw[Ze (λz=>by rw[z]at q;exact n g h q)];rw[wr]
 ·rw[tu,r,q];refine(Ğ,?_);rw[fF,e]
 ·rw[Ze (i _ š)];exact š
 ·rw[Ze (i _ (η x c q))];exact η x c q
 ·obtain k|j|l:=θ p t;exact(k,by rw[Ze (i _ j)];exact j,l)
 ·intro b v q;have own:∀c a,H c=aa Åb->(upd H d u) c=aa Åb:=λc a q=>by rw[Ze (λz=>by rw[z,e]at q;cases q)];exact q
  have tup:∀c f,H c=aa (.tup f)->(upd H d u) c=aa (.tup f):=λc f q=>by rw[Ze (λz=>by rw[z,e]at q;cases q)];exact q
  by_cases m:b=d
  ·rw[iA,m,Zb,q];obtain _|w:=(show Y1 ü X.w H Í b ÂZ from é b _ e);exact w.stay (λc v _ q=>q) (λc q=>own c b q) tup
  ·rw[Ze m]at q;exact(é b v q).stay (λc v _ q=>q) (λc q=>own c b q) tup
universe E
def ZwR(t:TE):TE:=λb H Q=>X2 λd u=>C3 (H d=aa u) (Mut (aa u)) (t b H λv a=>∃o,a d=aa ÂZ/\Q v (upd a d u))
theorem Pt{X:Cx}{e:aL}{t:TE}(h:PE X e t):PE X e (ZwR t):=by intro b s c H Q I q;obtain d|u|f|a|q:=q;have n:=I.nofrz f a;refine thn (h b s c H _ I q) ?_;rintro v s1 ⟨x,H1,g,i,o,j,k⟩;exact(x,_,g.thaw j a n,i,k)
theorem Km{P:aA}{w:aF}{k:Key}{v:ae}(h:(ÃV).is k v=true):ZI (kV k) v:=by
 rw[ZmP]at h;rcases Wn h with⟨i,t,rfl,rfl⟩|⟨x,t,rfl,rfl⟩
 ·exact Ìl
 ·exact Ìl
def Kl:À V->Hp->VK->Prop:=λxs H Q=>X2 λd kvs=>C3 (xs=[.ref d]) (H d=aa ÁB) (∀l,H l=ah->Q Ŋ (upd H l (.lst (ÄB λa=>kV a.1))))
theorem Zo7{P:aA}{w:aF}:∀ (kvs:À (Key×V)) (vs:À (Key×ae)) (us:À ae),KV kvs vs->ε=Ŧ->(∀ (j:Nat) (v:ae),us[j]? = aa v->∃k x,vs[j]? = aa (k,x,)/\(ÃV).is k v=true)->ZF (ÄB λf=>kV f.1) us:=by
 intro kvs vs us r;unfold KV at r;induction r generalizing us with
 | nil =>
  intro c _;cases us with
  | nil=>exact .nil
  | Ñ a b=>simp at c
 | @Ñ p q ps qs h t g =>
  intro c d;cases us with
  | nil=>simp at c
  | Ñ a b =>
   obtain k|x|e|i:=d 0 a rfl;have l:q=(k,x,):=by simpa using e
   rw[Qh];refine .cons ?_ (g b #[eE,c] λj v m=>?_)
   ·rw[h.1,l];exact Km i
   ·simpa using d (j+1) v #[eE,m]
theorem Zmf{X:Cx}(hc:Ÿ):YS X Éh Kl:=by intro aj s σ H xs us Q I r h;obtain d|b|rfl|hd|q:=h;obtain u|rfl|m:=Xy r;cases m;obtain z|lo|k|f|n:=(show Y1 ü X.w H Í d (.dK b) from é d _ hd);obtain ep|p:=n.dictAt;have hl:Ň=k.length:=ÁY;refine PySem.W.kdl_call (PySem.W.kdl_dict lo) Â3 p Á λh' tk g c t x l=>?_;have y:ZF (ÂJ λi=>kV i.1) g.toList:=Zo7 (P:=ü) (w:=X.w) b k g.toList f #[eH,Qae,l.1] λj v e=>l.2 j v #[fE,Qag,e];refine(.ref Ò,_,Àv (a:=È1) (o:=.lst (ÂJ λi=>kV i.1)) (t':=tk) t ò ?_,rfl,q _ ÁT);exact(by rw[Qa];exact z,g.toList,c,y,by simpa using x)
theorem Inv.dictF{X:Cx}{i:ĕ}{j:St}{H:Hp}{s:ak}{d:af}{o:aN}{kvs:Θ}{b:ÅS}{c:Nat}(I:Inv X i j H s)(e:H d=aa Ãq)(hd:ş=.dict b c) :
  ∃vs,KV kvs vs/\s.heap.DictAt Áa d vs c:=by
 obtain f|_|_|vs|a|o'|wR|wT|g|k|h|l:=(show Y1 ü X.w H Í d Ãq from é d _ e);rw[gv,f,g,g];rw[gv,hd,h,h];exact(vs,a,o,b,f,k,hd,l)
theorem Kk{kvs:Θ}{vs:À (Key×ae)}(r:ÄC):∀ (i:Nat) (k:Key) (x:V),kvs[i]? = aa (k,x,)->∃u,vs[i]? = aa (k,u,)/\ZI x u:=by
 unfold KV at r;induction r with
 | nil=>intro i k x h;simp at h
 | @Ñ p q ps qs h t b =>
  intro i k x a;cases i with
  | zero =>
   have e:p=(k,x,):=by simpa using a
   rw[ud,q.2,?_]
   ·have:q=(k,q.2,):=by rw[show k=q.1 by rw[<- h.1,e]]
    simpa using this
   ·have:=h.2;rw[e]at this;rw[wr]
  | succ i=>simpa using b i k x Åo
def Itv(d:af)(o:aN)(kvs:Θ):It :=
 (λi H=>H d=aa Ãq/\i<Ă,λi H v a=>a=H/\∃k,kvs[i]? = aa (k,v,),λi H=>H d=aa Ãq/\Ă<=i)
theorem ZoE{P:aA}{w:aF}{K:Ä}{O:aL}{d it:af}{o:aN}{kvs:Θ}{Q:ÅS}{J:Nat}(hd:ş=.dict Q J):V3 P w K O (Itv d o kvs) [it] it (λi h=>h.IsValIter it d i Ă J) where
 mem:=by simp
 obj:=λi h st b f=>by
  have e:b=it:=by simpa using f
  rw[52]
 Ė:=λi h g st k=>by obtain o|e|r:=st;exact Ñi
 item:=by intro X m hw n L i M s N H E I j st p;rw[aZ];obtain u|S|T:=Kk a i kvs[i].1 kvs[i].2 (Qb C);refine wpAny_pyNext_values_item #[fE,l,st] F S λg G U=>?_;rw[<- l]at G;have W:#[fQ,M,N,H,s,g]:=Áo (t':=ļ) #[tk,o,f,e,U.2] q t x y A;obtain o1|Y|Z|d1:=id G;exact(_,rfl,T6 (s:=#[hx,s,g]) Y Z d1 Å (kvs[i].2,H,W,T,(rfl,kvs[i].1,Qb C),G,λb f=>(j b f).1))
 done:=by intro X m hw n L i M s N H E I j st p;rw[aZ];exact wpAny_pyNext_values_end (ÁP L) #[fE,l,st] F (Qaf Á) λg eb=>(rfl,Áo (t':=ļ) #[gl,b,f,eb,f] q t x y A)
 self:=#[s1,wpAny_pyIter_valiter]
def Zv7(b:TE):TI:=λc H R=>b c H λx a=>X2 λd kvs=>x=.ref d/\a d=aa ÁB/\∀o,R (Itv d o kvs) (upd a d Ãq)
theorem Zs8{X:Cx}{E o:aL}{to:TE}{t u:Pos}(F:ÆD)(G:#[fM,o,"values"]:=by rfl)(J:ØD:=by rfl) :
  PI X E (.Call #[tN,"values",t] [] [] u) (Zv7 to):=by
 rw[fA,w,y,R];refine ed G J #[eX,F,w,y];rintro v c ⟨x,k,A,K,L⟩;obtain d|f|e|hd|q:=L;subst e;cases K;rw[dK];have M:ÁY=ÈU:=İ;have N:=ØE;rw[oM];refine("dict", "dict.values",Q9,ØF,PySem.F.type_dict_values,Ì9,λa e=>?_,?_)
 ·cases e;exact(g,j,m.2.1)
 rw[mC];refine Çq ØF Ì9 PySem.F.entry_dict_values (PySem.F.args_dict_values_1 _) (meets_dict_values Áa d lo) ((i,p),?_);have O:#[gc,"dict_values"].IsValuesView À4 d:=Åq;have P:#[gc,"dict_values"].DictAt Áa d i C:=(g,B,Qc _ j,m,n,D);refine wpAny_pyIter_values (s:={ c with Õ:=É1 { cls:=.type "dict_values",Ó:=.fields #[.ref d] } }) O P ?_;rw[<- M];have r:Inv X w y (upd k d Ía) { c with Õ:=É1 { cls:=.type "dict_values",Ó:=.fields #[.ref d] } }:=N.kept (t':=Åp) λb o e=>Qc _ e;refine(_,[_],_,Itv d g f,upd k d Ía,rfl,r.kept (t':=Åp) λb o e=>Qc _ e,ZoE n,Åq,λb Q=>?_,q g);have e:=ó Q;rw[q8]
def Iti(d:af)(o:aN)(kvs:Θ):It :=
 ⟨λi H=>H d=aa Ãq/\i<Ă,
  λi H v a=>X3 λp k x=>H p=ah/\v=.ref p/\kvs[i]? = aa (k,x,)/\a=upd H p (.tup [kV k,x]),
  λi H=>H d=aa Ãq/\Ă<=i⟩
theorem ZmK{P:aA}{w:aF}{K:Ä}{R:ĭ}{S:Nat}{T:Pos}{d it:af}{o:aN}{kvs:Θ}{U:ÅS}{D:Nat}(hd:ş=.dict U D) :
  V3 P w K (.Tuple R S T) Íb [it] it (λi h=>X2 λok j=>IsItemIter h it d i Ă D ok j) where
 mem:=by simp
 obj:=λi h st b g=>by
  have e:b=it:=by simpa using g
  subst e;rw[yj];rw[f2,a,v,z]
 Ė:=λi h p st k=>by obtain ok|j|a:=st;exact(ok,j,k it Ù _ a)
 item:=by
  intro X r hw t l i F s G H E I m st x;subst r hw t;rw[yj];rw[jG];obtain u|W|Y:=Kk f i kvs[i].1 kvs[i].2 (Qb A);refine wpAny_pyNext_items_item #[fE,n,a] C W λkey p Z J a2 a3 a4=>?_;rw[<- n]at J;have lt:Ñb:=λq=>Q4 (Ql q);have L:Ò≠it:=lt a;refine(_,rfl,wpAny_letOwnedTupleGo_items J λM N tO=>?_);have O:#[z7,it,p,M]:=tO;have I2:Inv X F G (upd H Ò (.tup [kV kvs[i].1,kvs[i].2])) { s with Õ:=M,õ:=œ }:=by
   refine I.zipped (fp:=[it]) (u:=key) (v:=u) m (Km Z) Y (Ça _ _ L a2) (λb g=>?_) λc o l q=>?_
   ·have e:=ó g;subst e;exact(_,N)
   ·have Q:c≠it:=λz=>l #[tF,z];exact Ça _ _ Q (a4 c o Q q)
  refine(.ref Ò,_,I2,rfl,(Ò,kvs[i].1,kvs[i].2,Æ0,rfl,Qb A,rfl),(_,_,N),λb g=>?_);have e:=ó g;subst e;rw[Ze L.symm];exact(m _ g).1
 done:=by intro X r hw t l i F s G H E I m st x;subst r hw t;rw[yj];rw[uZ];rw[jG];exact wpAny_pyNext_items_end (ÁP l) #[fE,n,a] C (Qaf Á) λp eb=>(rfl,Áo (t':=ļ) #[gl,b,g,eb,g] f0 f1 f3 f4 f5)
 self:=λ_ _ _ _ _ st h=>by obtain ok|j|a:=st;exact PySem.W.kcp_self a h
def ZuW(b:TE):TI:=λc H R=>b c H λx a=>X2 λd kvs=>x=.ref d/\a d=aa ÁB/\∀o,R Íb (upd a d Ãq)
theorem Kj{X:Cx}{E:ĭ}{F:Nat}{G:Pos}{o:aL}{to:TE}{t u:Pos}(J:ÆD)(K:#[fM,o,"items"]:=by rfl)(L:ØD:=by rfl) :
  PI X (.Tuple E F G) (.Call #[tN,"items",t] [] [] u) (ZuW to):=by
 rw[fA,w,y,R];refine ed K L #[eX,J,w,y];rintro v c ⟨x,k,A,M,N⟩;obtain d|f|e|hd|q:=N;subst e;cases M;rw[dK];have O:ÁY=ÈU:=İ;have P:=ØE;rw[oM];refine("dict", "dict.items",Q9,ØG,PySem.F.type_dict_items,Ì9,λa e=>?_,?_)
 ·cases e;exact(g,j,m.2.1)
 rw[mC];refine Çq ØG Ì9 PySem.F.entry_dict_items (PySem.F.args_dict_items_1 _) (meets_dict_items Áa d lo) ((i,p),?_);have Q:#[gc,"dict_items"].IsItemsView À4 d:=Åq;have S:#[gc,"dict_items"].DictAt Áa d i C:=(g,B,Qc _ j,m,n,D);refine wpAny_pyIter_items (s:={ c with Õ:=É1 { cls:=.type "dict_items",Ó:=.fields #[.ref d] } }) Q S ?_;rw[<- O];have r:Inv X w y (upd k d Ía) { c with Õ:=É1 { cls:=.type "dict_items",Ó:=.fields #[.ref d] } }:=P.kept (t':=Åp) λb o e=>Qc _ e;refine(_,[_],_,Iti d g f,upd k d Ía,rfl,r.kept (t':=Åp) λb o e=>Qc _ e,ZmK n,(_,_,Qs _ rfl),λb T=>?_,q g);have e:=ó T;rw[q8]
theorem ZsA{X:Cx}{b:ĕ}{s:ak}{c:St}{H:Hp}{d:af}{kvs:Θ}{k:Key}{v:V}{e u:ae}{Q:Hp->Prop}(I:Inv X b c H s)(f:H d=aa ÁB)(hz:Ă<aq)(i:ZI (kV k) e)(j:ZI v u)
  (q:Q (upd H d (.dK ÑO))):ý (dictSet d e u) (λ_ s'=>∃g,Inv X b c g s'/\Q g) ê s:=by
 obtain _|hd|vs|a|l:=UB é f;refine wpAny_dictSet_pairs (knd:=ZJ ü X.w) (k:=k) (VX i) l #[io,h',h,m] (by rw[<- ķ];lia);refine(_,?_,q);obtain o|n|_:=aJ.dictOf_iff.mp h;exact TX I #[sD,f] m (o,n) (TW (Qj (SM kvs k v) Á) hd (a.put k j) h)
def Ki(J:It)(D:af)(k:Nat)(q:St)(r:Hp)(g:TG)(s:TT)(tk t:TE)(Q:VK):Prop :=
 ∃W:Nat->Nat->À (Key×V)->St->Hp->Prop,(∃m,W 0 m [] #[sS,q,k] #[hB,r,D]) /\
  ∀i m a e c,W i m a e c->Öb \/
   (J.go i c/\∃N:À (Key×V)->St->Hp->Prop,Öc/\∀x n,J.yld i c x n->g x e n λd u=>s d u λb o =>
    if b=true then tk d o λv w=>t d w λy p=>∃k:Key,v=kV k/\p D=aa (.dK a)/\ķ<aq/\N (Yr a k y) d (upd p D (.dK (Yr a k y))) else N a d o)
def Kh(n:Nat)(c:TI)(g:TG)(d:TT)(tk e:TE):TE:=λa H Q=>c a H λJ b=>∀D,b D=ah->Ki J D n a b g d tk e Q
section
variable {X:Cx} {N N':À am} {o c:bn}
theorem Zok{kx vx tg Ķ:aL}{dO:ĭ}{pos cZ:Pos}{wi:TI}{g:TG}{tc:TT}{tk te:TE}{use:Ã (ae->Sem Unit)}{QQ:ñ}(S:Àg)(hN:X.N=N)(ho:Àh)(hc:Ÿ)
  (hi:PI X tg Ķ wi) (hg:#[fz,PG,tg,g]) (ht:#[fz,PTs,dO,tc]) (hk:#[fz,PE,kx,tk]) (he:#[fz,PE,vx,te])
  (hs:ÆE) {V:ĕ} {s:ak} {σ:St} {H:Hp} {Q:VK} (I:Inv X V σ H s) (h:Kh ÅJ wi g tc tk te σ H Q)
  (post:∀ (D C:af) (t:ak) (l:Hp) (m:am->Ã ae),Inv X V σ l t->l C=ah->t.heap.Ns C m->C≠ğ->Ŵ<=C->#[hf,a,C]->Öd ->
   Q Ū l->ÂA Ĝ X.A ê use QQ Ū C Æ3 t) :
  ý (Ìq ÑW c Ì cZ newDict false #[gg,Ķ] use) QQ ê s:=by
 have uO:Öe:=K8 λy hy hf=>by refine ËC y.1 ?_;rw[df]
 rw[bI];obtain it|fp|tn|J|B|e|I2|T|cA|f2|hR:=h2;subst e;have hD:B ÁZ=ah:=I2.fresh;have O:Inv X V σ É2 { f with Õ:=Äm { cls:=.type "dict",Ó:=.dict #[] } } :=
  I2.laid (t':=ÀU) Ék ò (Px _ (Ñk Å (show aM<ÁZ from(I2.mod.glob.keeps I2.bk).lt)))
 have xW:Öf:=λb k=>by obtain A|e|_:=T.obj 0 _ cA b k;exact Ql e
 refine bO (Ög S.nocell Öh #[io,G,r8,r9] ÆT);have P:∃j:ak,j={ f with Õ:=Äm { cls:=.type "dict",Ó:=.dict #[] } }:=ā;rw[e2,j,uP,P];have P:Æ5=Äm { cls:=.type "dict",Ó:=.dict #[] }:=by rw[uP]
 have tI:Öi:=by rw[P,Q5]
 rw[sp];have f3:#[sV,V,É2]:=λb k=>(by rw[Ze (QG (xW b k))];exact(f2 b k).1,(f2 b k).2);have cI:tn 0 Æ5:=ÈR 0 _ _ cA λb _ A e=>by rw[P];exact Qc _ e
 rw[<- uP]at O;show bJ Ĝ X.A (.compStart _ 0 Án ÀC (bL c Äl #[l4].objs.size Ì))
  (ÂA Ĝ X.A ê use QQ ÀC #[l4].objs.size)
  { f with Õ:=G,õ:=ÀU+([]:À (am×ae)).length }
 have bX:G.Ns ź Öj:=by rw[P];exact r8
 have iB:#[e8,b,A,j.heap.get?,A,G.get?]:=λb A e=>by rw[P]at e;exact Ök
 rw[<- P];have Du:({ f with Õ:=G,õ:=ÀU+([]:À (am×ae)).length }:ak)={ j with Õ:=G,õ:=ÀU }:=by rw[uP];rfl
 rw[mb];have I4:=K5 (tk:=ÀU) S hN ho O f3 xX bX iB;have xY:tn 0 G:=Öl;generalize w:YH X c N' ź j (upd B ÁZ (.dK [])) fp=Y at I4;have K:Y.prog=ü:=by rw[<- w];rfl
 have L:Y.w=X.w:=by rw[<- w];rfl
 have YK:Y.K=X.K:=by rw[<- w];rfl
 have Yc:Y.calm=true:=by rw[<- w];exact hc
 have YA:Y.A=X.A:=by rw[<- w];rfl
 have tJ:Öm:=by rw[<- w];rfl
 have Yl:Ön:=by rw[tJ];rfl
 have ph:Y.xe=λ_ _=>ĝ:=by rw[<- w];rfl
 rw[fr,pi,hg,É2,iW,ht];rw[fr,jq,hk,É2,iX,he];rw[w]at pi iW jq iX;have ja:∀ {R:Hp},#[iR,R]->∀b∈fp,Xa Y [] R b:=λ{R} hn b k=>by
  rw[74];have j4:p∈Ìa:=by
   have:Y.pn=[]:=by rw[<- w];rfl
   rw[this]at hp;exact hp
  cases j4
 have fin:∀ (t:ak) (M:St) (l:Hp),Inv Y [] M l t->Q ÀC l->ÂA Ĝ X.A ê use QQ ÀC ź Æ3 t:=λt M l F q=>by
  rw[uY];have se:l ź=ah:=by have:=F.free;rw[Yl]at this;rw[wr]
  have un:Un Ëu fp É2 l Æ5 t.heap:=by have:=F.base;rw[iH,w]
  have Dv:t.os=j.os:=by have:=F.os;rw[iH,w]
  have j5:Öo:=by have:=F.hok;rw[K,L]at this;rw[wr]
  refine post _ _ t l m (O.call' (s':=t) (ch:=fp) Dv un j5 F.bare λb k=>?_) se hn (Q4 O.lt) O.sz #[io,x,a,e] (λp hp=>?_) q
  ·rw[mE]
  ·obtain v|A|e'|_:=O.cell x a e;exact QG (Ql e')
  ·exact QG (Ql (O.pin p hp).1)
 have tK:bJ Ĝ X.A #[td,ÑW,Án]
   (ÂA Ĝ X.A ê use QQ ÀC ź) { j with Õ:=G,õ:=ÀU }:=by
  rw[<- tJ,<- YA];refine ZiR (E:=ËD) (λn s'=>X4 λi ys aX R=>Inv Y [] aX R s'/\tn i ÀO/\#[iR,R]/\W i n ys aX R) Év ?_ m0
   Öp
  ·rintro n t ⟨i,ys,M,l,F,rX,uK,w5⟩;rcases turn i n ys M l w5 with⟨stop,qn⟩|⟨go,Nn,xZ,step⟩
   ·refine thn (T.done Y K L YK Yc i [] t M l _ F (ja uK) rX stop) ?_;rintro r s6 ⟨hr,I6⟩;subst hr;have fq:=fin s6 M l I6 qn;rw[<- YA]at fq;exact fq
   ·refine thn (T.item Y K L YK Yc i [] t M l _ F (ja uK) rX go) ?_;rw[bb];have tL:Öq:=λ{uR U Z} I9=>by refine Ör;rw[hg,A,uQ,k,I9.pin]
    have P1:=pi _ s7 M H7 x u _ Dx r7 (step x H7 y7);rw[gz,K,L,P1];rw[mo];rw[gz,K,L,P2];rintro ok Z ⟨U,I9,q9⟩;cases ok with
    | false=>rw[È Qt]at q9;rw[b4]
    | true=>rw[Æ rfl]at q9;rw[q7];have P3:=jq _ Z lO U _ I9 q9;rw[gz,K,L,P3];rintro kv gv ⟨vk,gg,Dy,Dz,q10⟩;have P4:=iX _ gv lO gg _ Dy q10;rw[gz,K,L,P4];rintro y lP ⟨vy,jB,DB,r11,kk,eb,DA,hsz,q11⟩;subst eb;have P5:=ZsA (X:=Y) DB DA hsz Dz r11 q11;rw[gz,K,L,P5];rintro _ nQ ⟨nR,I12,q12⟩;rw[sX,b1,b2,b3,tL,I12];obtain m'|iu|w12:=xZ _ _ _ q12;exact(m',iu,i+1,Yr ys kk vy,lO,nR,b1,b2,b3,w12)
  ·exact w0
 have lp:=T.self X.A 0 { j with Õ:=G,õ:=ÀU } (λDC s'=>bJ Ĝ X.A #[td,ÑW,DC]
   (ÂA Ĝ X.A ê use QQ ÀC ź) s') Ãg xY tK
 exact codeAny_compStart_dict tK Ös
theorem Zp8{b d a Ķ:aL}{e:ĭ}{pos:Pos}{f:TI}{g:TG}{i:TT}{tk j:TE}(S:Àg)(k:X.N=N)(l:Àh)(hc:Ÿ)
  (n:PI X a Ķ f) (p:#[fz,PG,a,g]) (ht:#[fz,PTs,e,i]) (hk:#[fz,PE,b,tk]) (he:#[fz,PE,d,j])
  (hs:ÆE:=by intro _;rfl) :
  PE X ØH (Kh ÅJ f g i tk j):=by
 rw[vS];show av _ _ (Ìq ØH c Ì _ newDict false #[gg,Ķ]) _ _ _;refine Zok (use:=ah) S k l hc n p ht hk he hs I h λD C s5 r m t u v w y z A q=>(m,v,λh' B=>?_);exact(.ref D,r,t.let u w y z A B,rfl,q)
universe E
def Zxi:R2:=λy x H Q=>X2 λa o=>C3 ÅC (Y0 H a y o) (Q (.bl Ì3) H)
def Zsi:R2:=λy x H Q=>X2 λa o=>C3 ÅC (Y0 H a y o) (Q (.bl (!o.isSome)) H)
def Zxv:R2:=λx y H Q=>X2 λa v=>C3 ÅC (Y0 H a y (aa v)) (Q v H)
section
variable {X:Cx} {k:Nat}
theorem inG(hr:ν):OpR X Ås Zxi:=by intro aj s σ H x y v u Q I b c h;obtain a|o|rfl|g|q:=h;cases c;exact ZxD (T2 hr) I g b λs3 d=>(.bl Ì3,H,d,rfl,q)
theorem TU(hr:ν):OpR X (aV .NotIn) Zsi:=by intro aj s σ H x y v u Q I b c h;obtain a|o|rfl|g|q:=h;cases c;exact Zta (T2 hr) I g b λs3 d=>(.bl (!o.isSome),H,d,rfl,q)
def Zwt:T9:=λo i v H Q=>X2 λa b=>C3 (o=.ref a) (WQ H a i v b) (Q b)
theorem Vf(hr:ν):T8 X Zwt:=by intro aj s σ H o i v ov iv u Q I b c d h;obtain a|e|rfl|g|q:=h;cases b;exact ZoW (T2 hr) I g c d λs4 f=>(e,f,q)
theorem Kg{è:aA}{w:aF}{A:aE}{E:ñ}{s:ak}{ι b:aL}{o i:ae}{T id:ł}{Q:ñ}(c:ÆV o T)
  (hl:Ðl (.type T) "__getitem__" = pure (aa #[fO,id])) (hs:Ìd b false o i=operate [o,i] (ÆW o i)) (h:av Ð A (ÆW o i) Q E s) :
  av Ð A (Ìc ι b o i) Q E s:=by
 unfold Ìc;refine ai ?_;rw[getitemInPython_of_ne c.not_modules];refine ai (ØI c hl ?_);have a:av Ð A (Ìd b false o i) (λr d=>av Ð A (letTemporaryGo ι o r >>= λ_=>pure r) Q E d) E s:=by rw[hs];exact wpAny_operating (aS h (λr d e=>ai (wpAny_letTemporaryGo (aw e))) λ_ _ x=>x)
 first
  | exact aw (ai a)
  | exact ai (aw (ai a))
  | exact ai a
theorem ixG(hr:ν):IxR X Zxv:=by intro ι fY aj s σ H x y v u Q I b c h d;obtain a|z|rfl|g|q:=h;cases b;exact Kg (ZlU I g) ÑK d (Zo0 (T2 hr) I g c λw' s' e f=>(z,H,e,f,q))
theorem SH:YS X ÆZ ØC:=ZoB
theorem Kf(hc:Ÿ:=by rfl):YS X Éh Kl:=Zmf hc
universe E
mutual
inductive DH (H:Hp):V->aQ->Prop where
 | non:DH H .non .none
 | bl (b:Ê):DH H (.bl b) (.bool b)
 | int (i:Int):DH H (.int i) (.int i)
 | str (s:am):DH H (.str s) (.str s)
 | lst {a:af} {xs:À V} {ds:À aQ}:H a=aa (.lst xs)->DHs H xs ds->DH H (.ref a) (.list ds)
 | tup {a:af} {xs:À V} {ds:À aQ}:H a=aa (.tup xs)->DHs H xs ds->DH H (.ref a) (.tuple ds)
inductive DHs (H:Hp):À V->À aQ->Prop where
 | nil:DHs H [] []
 | Ñ {x:V} {d:aQ} {xs:À V} {ds:À aQ}:DH H x d->DHs H xs ds->DHs H (x::xs) (d::ds)
end
mutual
theorem DH.mono{H a:Hp}(s:Zu H a):∀ {x:V} {d:aQ},DH H x d->DH a x d
 | _,_,.non=>.non
 | _,_,.bl b=>.bl b
 | _,_,.int i=>.int i
 | _,_,.str z=>.str z
 | _,_,.lst h hs=>.lst (s _ _ h) ÑX
 | _,_,.tup h hs=>.tup (s _ _ h) ÑX
theorem DHs.mono{H a:Hp}(s:Zu H a):∀ {xs:À V} {ds:À aQ},DHs H xs ds->DHs a xs ds
 | _,_,.nil=>.nil
 | _,_,.cons h hs=>.cons (DH.mono s h) ÑX
end
mutual
theorem DH.dv{K:Ä}{H:Hp}:∀ {x:V} {d:aQ},DH H x d->DV K H x d
 | _,_,.non=>.non
 | _,_,.bl b=>.bl b
 | _,_,.int i=>.int i
 | _,_,.str z=>.str z
 | _,_,.lst h hs=>.lst (É h) (DHs.dv hs)
 | _,_,.tup h hs=>.tup (þ h) (DHs.dv hs)
theorem DHs.dv{K:Ä}{H:Hp}:∀ {xs:À V} {ds:À aQ},DHs H xs ds->DVs K H xs ds
 | _,_,.nil=>.nil
 | _,_,.cons h hs=>.cons (DH.dv h) (DHs.dv hs)
end
theorem TR{kvs:Θ}{k:Key}{v:V}(h:YW kvs k=aa v):(k,v,)∈kvs:=by
 unfold YW at h;obtain p|a|rfl:=Qbc.mp h;have b:=ÑY;have c:=QaA a;have:p.1=k:=by simpa using b
 rw[<- this];exact c
theorem Ps{kvs:Θ}(hn:(ÄB ċ).Nodup){k:Key}{v:V}(h:(k,v,)∈kvs):YW kvs k=aa v:=by
 induction kvs with
 | nil=>cases h
 | Ñ p r a =>
  obtain b|c:=Q7.mp (by simpa using hn:(p.1::Ãr ċ).Nodup);rcases î h with rfl|h
  ·exact TZ rfl
  ·rw[TY λe=>b (e ▸ Qk (f:=ċ) h)];exact a c h
universe E.L2
namespace L2
open PySem PySem.Spec PyProof.Rows
theorem Ztc{d:af}{o:aN}{kvs:Θ}{k:Nat}{D:af}{a:ÄE}{f:Hp}{g:TG}{h:TT}{j:TE}{Q:VK}(Pv:É3)(h0:#[gA,f])
  (hl:ÑZ)
  (hs:∀i k x ys a H,kvs[i]? = aa (k,x,)->Pv i ys a H->g x a H λc s=>h c s λb l=>if b=true then j c l λy n=>n D=aa ÁV/\į<aq/\Pv (i+1) Çd c #[gR,n,ys,y] else Pv (i+1) ys c l)
  (hd:Ñ0):V0 (Itv d o kvs) D k a f g h j Q:=by
 rw[11];by_cases r:i<Ă
 ·rw[fL,r,t,u];obtain rfl|k'|e:=y;exact hs i k' x ys a _ e p
 ·have e:i=Ă:=by lia
  rw[dM]
theorem Ztm{d:af}{o:aN}{kvs:Θ}{k:Nat}{D:af}{a:ÄE}{f:Hp}{g:TG}{h:TT}{j:TE}{Q:VK}(Pv:É3)(h0:#[gA,f])
  (hl:ÑZ)
  (hs:∀i k x ys a H p,kvs[i]? = aa (k,x,)->Pv i ys a H->H p=ah->g Ś a ØJ λc t=>h c t λb l=>if b=true then j c l λy n=>n D=aa ÁV/\į<aq/\Pv (i+1) Çd c #[gR,n,ys,y] else Pv (i+1) ys c l)
  (hd:Ñ0):V0 Íb D k a f g h j Q:=by
 rw[11];by_cases s:i<Ă
 ·rw[fL,s,u,v];obtain r|k'|w|z|rfl|e|rfl:=y;exact hs i k' w ys a H r e p z
 ·have e:i=Ă:=by lia
  rw[dM]
def off(p:af)(H:Hp):Hp:=λb=>if b=p then ah else H b
theorem VW{p b:af}{H:Hp}{o:HO}(h:H b=aa o)(n:b≠p):off p H b=aa o:=by unfold off;rw[È n];exact h
theorem Zvs{p:af}{H:Hp}:Zu (off p H) H:=λb o h=>by
 unfold off at h;split at h
 ·cases h
 ·exact h
theorem Zq9{p l:af}{H:Hp}(h:H l=ah):off p H l=ah:=by unfold off;split;rfl;exact h
theorem ØK:Slot "dict" "update" "dict.update":=Qa1
def ZvS:V->À V->Hp->VK->Prop:=λx vs H Q=>X4 λa kvs k v=>C5 ÅC (vs=[kV k]) (H a=aa ÁB) (YW kvs k=aa v) (Q v Øz)
theorem Ke{X:Cx}:MtM X "dict.pop" ZvS:=by intro aj s σ H x vs v us Q I b c h;obtain a|kvs|k|y|rfl|rfl|d|e|q:=h;cases b;obtain u|rfl|f:=c.one;exact ZvP I d f e Đ λw' s' g i=>(y,_,g,i,q)
theorem ZU{X:Cx}{s:aK}:PS X s Ìm:=λaj s' σ H D I h=>Àf
theorem ZuJ{X:Cx}{k:Nat}{o e:aL}{b ty:TE}{c a:Pos}(hr:ν)(f:PE X o b)(he:PE X e ty)(hb:#[fM,o,"get"]:=by rfl)
  (g:(c.endLine == a.line)=true:=by rfl) (d:bj a ÑT=#[gL,e]:=by rfl):PE X (.Call #[tN,"get",c] [e] [] a) (Kn b ty):=by
 refine ZrN (T2 hr) f he (hb,?_,g,d);rw[d];rfl
section
variable {X:Cx}
theorem VE{x:am}{n:Int}{pos:Pos}(hm:∃tk,ė x=aa (.int n tk))(a:ő:=by rfl)(hd:Ĵ:=by decide):PE X ÀQ (tC ÅT):=by obtain tk|h:=hm;exact Ma a h (tk,rfl) hd
universe E
def Zw8(t u:TS):TS:=λD c H=>∃M:St->Hp->Prop,t { D with nx:=M } c H/\∀a b,M a b->u D a b
theorem Kd{X:Cx}{st:aK}{Č:Ţ}{t u:TS}(h1:PS X st t)(h2:PSs X Č u):PSs X (st::Č) (Zw8 t u):=by
 rw[fA,a,d,D];rw[ja,M,h,e,h];refine ÏD (thn (h1 a s d H { D with nx:=M } I h) λf g q=>?_);cases f with
 | next=>obtain b|c|i|q:=q;exact h2 a g b c D i (e b c q)
 | ret v=>exact q
 | brk=>exact q
 | Γ=>exact q
theorem Zs1{d:af}{o:aN}{kvs:Θ}{k:Nat}{D:af}{a:ÄE}{f:Hp}{g:TG}{h:TT}{tk j:TE}{Q:VK}(Pv:Nat->À ÂI->ÄE->Hp->Prop)(h0:Pv 0 [] ØL #[hB,f,D])
  (hl:ÑZ)
  (hs:∀i k x ys a H p,kvs[i]? = aa (k,x,)->Pv i ys a H->H p=ah->g Ś a ØJ λc t=>h c t λb l=>if b=true then tk c l λu v=>j c v λy n=>∃k:Key,u=kV k/\n D=aa (.dK ys)/\į<aq/\Pv (i+1) (Yr ys k y) c (upd n D (.dK (Yr ys k y))) else Pv (i+1) ys c l)
  (hd:Ñ0):Ki Íb D k a f g h tk j Q:=by
 rw[11];by_cases s:i<Ă
 ·rw[fL,s,w,z];obtain r|k'|A|B|rfl|e|rfl:=y;exact hs i k' A ys a H r e p B
 ·have e:i=Ă:=by lia
  rw[dM]
def apart:À Int->Ê
 | []=>true
 | x::r=>r.all (λy=>x != y)&&apart r
structure CompScC (N N':Ï) (o c:bn):Prop where
 kind:c.kind=.function
 okind:o.kind=.function
 cel:∀y∈Ây,y.2=.cell->ũ y.1=aa .cell
 loc:∀y∈Ây,y.2=.local->ũ y.1=aa .local
 Ų:∀y∈Ây,y.2=.free->ũ y.1=aa .free/\Õ6
 len:ĩ<=Ìo
 same:∀i∈À7 ĩ,∀x∈N'[i]?,ũ x=aa .local\/ũ x=aa .free\/ũ x=aa .cell->ũ x=aa .free/\N[i]? = aa x
 nd:N'.Nodup
universe E.L2
namespace L2
open PySem PySem.Spec PyProof.Rows
def Has(κ:ÂF)(p:Áy):Prop:=∃a,Çi p.1=aa a
def kyd(κ:ÂF)(p:Áy):κ.α:=(Çi p.1).getD κ.dflt
section
variable {κ:Äu}
def kS(κ:ÂF)(l:É4):Prop:=l.Pairwise λp q=>Áz (kyd κ p) (kyd κ q)
def kLe(κ:ÂF)(l m:É4):Prop:=∀x∈l,∀y∈m,Áz (kyd κ x) (kyd κ y)
structure Mg (κ:ÂF) (all eD l m:É4):Prop where
 perm:(eD++(l++m)).Perm all
 so:kS κ eD
 sl:kS κ l
 sm:kS κ m
 ol:kLe κ eD l
 om:kLe κ eD m
structure Mh (κ:ÂF) (all l m eD:É4):Prop where
 perm:((l++m)++eD).Perm all
 so:kS κ eD
 sl:kS κ l
 sm:kS κ m
 lo:kLe κ l eD
 mo:kLe κ m eD
structure LoPre (κ:ÂF) (a b:Ãj):Prop where
 ha:∀p∈ÉN,Has κ p
 hb:∀p∈b.toList,Has κ p
 sa:kS κ ÉN
 sb:kS κ b.toList
 a0:0<Çr
 b0:0<b.size
 fst:∀i,i<Çr->Áz (KK κ b 0) (KK κ a i)
 lst:∀i,i<b.size->Áz (KK κ b i) (KK κ a (Çr-1))
def Lo(κ:ÂF)(a b c:Ãj)(d e:Nat):Prop:=Mg κ (ÉN++b.toList) c.toList (É5 d) (b.toList.drop e)
variable {a b eD:ē Áy} {ia ib:Nat}
variable {na nb:Nat}
universe E
def Kc:Nat->À (À Áy)->À (Nat×Nat)
 | _,[]=>[]
 | o,r::rs=>(o,μ,)::Kc (o+μ) rs
def ZxE(p:Nat×Nat×Nat):Nat×Nat:=(p.1,p.2.1,)
section
variable {è:aA} {w:aF} {A:aE} {E:ae->ak->Prop} {s:ak} {κ:Äu} {k0:ÂE} {st:Η} {aZ:ē Áy}
structure Rn (κ:ÂF) (k0:ÂE) (aZ:Ãj) (st:Η) (rs:À (À Áy)) (Č:É4):Prop where
 kind:ο st=k0
 failed:ÅO st=ah
 arr:(Ě).toList=rs.flatten++Č
 perm:(Ě).Perm aZ
 srt:∀r∈rs,kS κ r
 ne:∀r∈rs,r≠[]
 pend:(À8 st).toList.map ZxE=Kc 0 rs
universe E
section
variable {è:aA} {w:aF} {A:aE} {E:ae->ak->Prop} {s:ak} {κ:Äu} {k0:ÂE} {st tU:Η} {aZ:ē Áy} {α:Type} {lo:Nat}
structure Ph (k0:ÂE) (aZ:Ãj) (lo:Nat) (tU st:Η):Prop where
 kind:ο st=k0
 failed:ÅO st=ah
 pend:À8 st=À8 tU
 perm:(Ě).Perm aZ
 pre:∀k,k<lo->Ě[k]? = (ę tU)[k]?
universe E
universe E.L2
set_option maxHeartbeats 4000000
namespace L2
open PySem PySem.Spec PyProof.Rows
variable {X:Cx}
universe E.L2
set_option maxHeartbeats 4000000
namespace L2
open PySem PySem.Spec PyProof.Rows
@[reducible] def intKd:Äu where
 α:=Int
 blt a b:=decide (a<b)
 irrefl a:=by simp
 trans a b c h1 h2:=by simp only[Ãs]at *;lia
 negTrans a b c h:=by
  simp only[Ãs]at *
  lia
 total a b h1 h2:=by simp only[ØM]at *;lia
 keyOf v:=match v with|.int x _=>aa x|_=>ah
 dflt:=0
def rSrtIA(K:Ä):À V->Hp->VK->Prop:=λxs H Q=>X2 λ(p:af) (ns:À Int)=>C3 (xs=À6) (SqL K H p Τ) (∀ (l:af) (a:À Int),H l=ah->a.Perm ns->a.Pairwise (·<=·)->Q Ŋ (upd H l #[sz,Ão]))
universe E.L2
set_option maxHeartbeats 4000000
namespace L2
open PySem PySem.Spec PyProof.Rows
def txt:ae->am
 | .str x _=>x
 | _ => ""
section
variable {è:aA} {w:aF} {A:aE} {E:ae->ak->Prop} {s:ak}
def ZwK(w:aF)(a:Ñ1):Prop:=∀e∈ÉN,X2 λx u=>e.2=.str x u/\e.1=Mi w (.inr x)
def Ka(a:Ñ1):À am:=a.toList.map λe=>txt e.2
structure SetAt (w:aF) (L:Ê) (T:am->Prop) (o:aN) (es:Ñ1) (ep:Nat) (t:SetTable):Prop where
 ex:o.ExactSet
 da:ş=.set es ep t
 el:ZwK w es
 nd:(Ka es).Nodup
 me:∀x,T x↔x∈Ka es
 sz:es.size<scanBound
 ft:t.fits es.size=true
 ld:t.led=L
 pl:es.size≠0->t.plain=false
universe E
universe E.L2
set_option maxHeartbeats 4000000
namespace L2
open PySem PySem.Spec PyProof.Rows
universe E.L2
namespace L2
open PySem PyProof.Rows
section
variable {X:Cx} {xe:ae->ak->Prop}
theorem PSs.wish{st:Ţ}{t:TS}(h:PSs (X.wish xe) st t)(hx:∀e s,xe e s->ê e s):PSs X st t:=λa s b H D I hw=>aS (h a s b H D (I.wish _) hw) (λ_ _ q=>q.unwish) hx
universe E
def Pr(a:Š)(e:af)(h h':aJ):Prop:=(∀b o,à b=aa o->b≠e->b ∉ a->ĉ b=aa o)/\∀b o,à b=aa o->b≠e->∃sl,ĉ b=aa { o with ÁM:=sl }
def Xl(B:aJ)(a:Š)(h:aJ):Prop:=(∀b o,Ãt b=aa o->b ∉ a->à b=aa o)/\∀b o,Ãt b=aa o->∃sl,à b=aa { o with ÁM:=sl }
theorem Xl.keep{B:aJ}{d:Š}{e:af}{h h':aJ}(a:Xl B d h)(he:Ãt e=ah)(k:Pr d e h h'):Xl B d h' :=
 (λb o c n=>k.1 b o (a.1 b o c n) (λz=>by rw[z,he]at c;cases c) n,λb o c=>by obtain sl|f:=a.2 b o c;obtain g|i:=k.2 b _ f (λz=>by rw[z,he]at c;cases c);exact(g,i))
structure Yq (NB:ÄF) (h:aJ) (e:af) (cls:ae) (dd:ú) (fl:ae):Prop where
 ex:X5 λoe vs T oT ts=>à e=aa oe/\oe.cls=cls/\oe.dict=dd/\oe.data=.fields vs/\vs[1]? = aa (.ref T)/\T≠e/\à T=aa oT/\oT.data=.fields ts/\ts[3]? = aa fl/\NB T
structure TQ (h:aJ) (e:af) (cls:ae) (dd:ú):Prop where
 ex:X2 λoe vs=>à e=aa oe/\oe.cls=cls/\oe.dict=dd/\oe.data=.fields vs/\vs[1]? = aa .none
section
variable {M:Às} {A:aE} {E:ae->ak->Prop} {s:ak} {env:Env} {Ü:À Env} {Â:aJ} {L e:af} {cls:ae} {dd:Ã af} {Q:Unit->ak->Prop}
theorem ZhL(o:aN)(f:ē ae->ē ae):(ÅU f o).dict=o.dict:=by unfold ÅU;split<;>rfl
theorem J9{d:aN}{vs:Â4}{p:ae}{w:Ê}(x:Çs)(hl:Ñ2)(hf:ÅV)
  (he:í e=aa d) (hd:d.data=.fields vs) (hsz:1<vs.size) (y:Ñ3)
  (h:∀h',Pr ÄG e Í h'->(∀NB:af->Prop,(∀T,Ò<=T->NB T)->Yq NB h' e d.cls d.dict É6)->Q () { s with Õ:=h' }) :
  av M A (do let a <- frameOf env;let i <- entryPlaceOf L w;let b <- ØN p a .none (Ξ L) .none i;setField Ę 1 b) Q E s:=by
 refine ai (wpAny_frameOf_fun x hl hf λc j=>?_);refine ai (wpAny_entryPlaceOf λi q=>?_);unfold ØN newFields;refine ai (bO ?_ (q.sizeOk5 _ _ _ _ _));have r:É7 e=aa d:=(j.2.1 e y).trans he;have t:Ãi≠e:=Q4 (Ql r);generalize f:({ cls:=.type "traceback",ρ:=ah,Ó:=.fields ([p,.ref L,.none,Ξ L,.none]++(if i.isEmpty then Ġ 6 Àq else i)).toArray }:aN)=k;have u:(É8 k).get? e=aa d:=Qc _ r;have v:=ÉB hd Ñ4;have l:=Q0 (ÅU Ñ4) u (ÐZ v);have m:∀b,b≠e->((É8 k).update e (ÅU Ñ4)).get? b=(É8 k).get? b:=#[tP,g];refine ÉA u hd hsz (h _ (λb o g n z=>?_,λb o g n=>?_) (λB C=>(_,_,Ãi,k,_,l,ÖD _ _,ZhL _ _,v,by simp[hsz],t,(m _ t).trans (Qs c (by rw[<- f];rfl)),by rw[<- f],?_,?_)))
 ·rw[m b n];exact Qc _ ((j.2.1 b z).trans g)
 ·obtain D|F:=j.2.2 b o g;exact(D,by rw[m b n];exact Qc _ F)
 ·first|(simp;done)|(rcases q with rfl|⟨_,_,_,_,_,_,_,rfl⟩<;>simp)
 ·exact C _ (È2 j.1.symm)
theorem ZrG{NB:ÄF}(d:ØO)(f:Çs)(hl:Ñ2)(hf:ÅV)(hx:TQ Í e cls dd)
  (h:∀h',Pr ÄG e Í h'->Yq NB h' e cls dd É6->Q () { s with Õ:=h' }):av M A Íc Q E s:=by
 obtain oe|g|a|rfl|rfl|hd|b:=hx.ex;have i:Ñ3:=λj=>by obtain _|o|c|l:=hl.mem j;rw[gv,a,c,c];exact l g hd
 unfold Æ4;simp only[hf];refine ai (bg a hd b ?_);rw[ti,Å];exact J9 f hl hf a hd (Q1.mp b).1 i λh' k x=>h h' k (x NB d)
theorem Zsr{B:aJ}{NB:ÄF}(y:ØO)(hB:∀T,NB T->Ãt T=ah)(C:Çs)(hl:Ñ2)(hf:ÅV)(hn:Ãt e=ah)(n:Xl B ÄG Í)(hx:Yq NB Í e cls dd .none)
  (h:ØP):av M A Íc Q E s:=by
 obtain oe|g|T|oT|D|i|rfl|rfl|hd|p|q|d|j|r|F:=hx.ex;have G:=hB T F;have H:Ñ3:=λI=>by obtain _|o|t|c:=hl.mem I;rw[gv,i,t,t];exact c g hd
 unfold Æ4;simp only[hf];refine ai (bg i hd p ?_);rw[Æ Ñ5];refine ai (bg d j r ?_);rw[È (show ¬ ((Àq == Ξ L)=true) from by simp[Ξ])];refine ai (ÉA d j (Q1.mp r).1 ?_);have f:∀b,b≠T->(ÜU).get? b=í b:=#[tP,a];have u:ØQ:=λb o a z=>by rw[z,G]at a;cases a
 have J:Xl B ÄG ÜU:=(λb o a m=>(f b (u b o a)).trans (n.1 b o a m),λb o a=>by obtain v|l:=n.2 b o a;exact(v,(f b (u b o a)).trans l));have K:∀b o,í b=aa o->(∀g,ş≠.fields g)->b≠T:=λb o a c z=>by rw[z,d]at a;cases a;exact c D j
 have w:(ÜU).FunFrames Â (env::Ü):=hl.of_keeps λb o a c=>(o,(f b (K b o a c)).trans a,rfl);refine J9 (s:={ s with Õ:=Âu T (ÅU (·.setIfInBounds 3 Àq)) }) C w hf ((f e (Àb q)).trans i) hd (Q1.mp p).1 H λh' k x=>h h' (J.keep hn k) ?_ (x NB λT d=>y T (by rw[ÌV]at d;exact d));exact w.of_keeps λb o a c=>by obtain v|l:=k.2 b o a (λz=>by rw[z]at a;rw[(f e (Àb q)).trans i]at a;cases a;exact c g hd);exact(_,l,rfl)
theorem Zmu{NB:ÄF}(hf:ÅV)(hx:Yq NB Í e cls dd É6)(h:Q () s):av M A Íc Q E s:=by obtain oe|vs|T|oT|ts|a|rfl|rfl|hd|b|wY|c|d|f|AJ:=hx.ex;unfold Æ4;simp only[hf];refine ai (bg a hd b ?_);rw[Æ Ñ5];refine ai (bg c d f ?_);rw[Æ (show (Ξ L == Ξ L)=true from by simp)];exact aw h
theorem VD{B:aJ}{NB:ÄF}(hB:∀T,NB T->Ãt T=ah){n:Š}{x:ae}{F:ú}{l:ÁN}(hl:Æy Â l)(p:Xl B n Í)(hx:Yq NB Í e cls dd x)
  (h:∀h',Xl B n h'->Íd Â l->Yq NB h' e cls dd (F.elim .none λf=>Ξ f)->Q () { s with Õ:=h' }):av M A (Íe Ę F) Q E s:=by
 obtain y|i|T|oT|q|r|rfl|rfl|hd|t|u|j|d|C|v:=hx.ex;have D:=hB T v;have c:3<q.size:=(Q1.mp C).1;have g:∀b,b≠T->(Âu T (ÅU (·.setIfInBounds 3 (F.elim Àq λf=>Ξ f)))).get? b=í b:=#[tP,a];have w:ØQ:=λb o a z=>by rw[z,D]at a;cases a
 have G:∀b o,í b=aa o->(∀i,ş≠.fields i)->b≠T:=λb o a k z=>by rw[z,j]at a;cases a;exact k q d
 unfold Íe;refine ai (bg r hd t ?_);rw[Æ Ñ5];refine ÉA j d c (h _ (λb o a m=>(g b (w b o a)).trans (p.1 b o a m),λb o a=>?_) (hl.of_keeps λb o a k=>(o,(g b (G b o a k)).trans a,rfl)) (y,i,T,_,_,(g e (Àb u)).trans r,rfl,rfl,hd,t,u,Q0 _ j (ÐZ (ÉB d _)),ÉB d _,by simp[c],v));obtain H|I:=p.2 b o a;exact(H,(g b (w b o a)).trans I)
universe E
structure Ve (B Â:aJ) (NB:ÄF) (env:Env) (Ü:ÁN) (L e:af) (cls:ae) (dd:ú) (h:aJ):Prop where
 st:Xl B ÄG h
 fun_:h.FunFrames Â (env::Ü)
 new:Ãt e=ah
 nb:∀T,Ļ<=T->NB T
 hB:∀T,NB T->Ãt T=ah
 ex:TQ h e cls dd\/Yq NB h e cls dd .none\/Yq NB h e cls dd É6
section
variable {M:Às} {A:aE} {E:ae->ak->Prop} {s:ak} {env:Env} {Ü:À Env} {B Â:aJ} {NB:af->Prop} {L e:af} {cls:ae} {dd:Ã af} {Q:Unit->ak->Prop}
theorem Ve.noted(hx:Ñ6)(c:Çs)(hf:ÅV)
  (h:ØP):av M A Íc Q E s:=by
 rcases hx.ex with x|x|x
 ·refine ZrG hx.nb c hx.fun_ hf x λh' k d=>h h' (hx.st.keep hx.new k) ?_ d;obtain oe|f|g|_|_|hd|_:=x.ex;refine hx.fun_.of_keeps λb o a i=>?_;obtain sl|j:=k.2 b o a (λz=>by rw[z,g]at a;cases a;exact i f hd);exact(_,j,rfl)
 ·exact Zsr hx.nb hx.hB c hx.fun_ hf hx.new hx.st x h
 ·exact Zmu hf x (h Í hx.st hx.fun_ x)
theorem Ve.leaves(hx:Ñ6)(d:Çs)(hf:ÅV)
  (h:∀h',Xl B ÄG h'->Íd Â (env::Ü)->Yq NB h' e cls dd .none->Q () { s with Õ:=h' }):av M A (leaving env Ę) Q E s:=by
 unfold leaving;refine ai (hx.noted d hf λf a b c=>?_);exact VD hx.hB (s:=#[hx,s,f]) (F:=ah) b a c h
theorem Ve.passes(hx:Ñ6)(d:Çs)(hf:ÅV)
  (h:∀h',Xl B ÄG h'->Íd Â (env::Ü)->Yq NB h' e cls dd É6->E Ę { s with Õ:=h' }):notedBy M A env (cameBackBy M A env E) Ę s:=by
 unfold notedBy;refine hx.noted d hf λf a b c=>?_;unfold cameBackBy;obtain oe|vs|T|oT|ts|g|e1|e2|hd|i|_:=c.ex;refine ai (bg g hd i ?_);rw[È (show ¬ ((å T == Àq)=true) from by simp)];rw[hf];exact VD hx.hB (s:=#[hx,s,f]) (F:=aa L) b a c h
universe E
open PySem.W (hideAll hideAll_none hideAll_get hideAll_size of_hideAll)
def NB(lo:Nat)(H:Hp)(ps:Š)(T:af):Prop:=lo<=T/\H T=ah/\T ∉ ps
def CX1(P:aA)(w:aF):CXT:=λouter H s E c s'=>X4 λ(e:af) (cls:ae) (b:Ã af) (a:Hp)=>C9 (c=.ref e) (Ò<=e) (a e=ah) (Yq (NB Ò a []) ÀO e cls b .none) (s'.os=s.os) (Â0 s'.gens) (Un (frs Ü) [] H a Í ÀO) (HOk P w a ÀO) (E cls b a)
def XE(X:Cx)(E:St->XK):ae->ak->Prop:=λg s'=>X6 λ(e:af) (cls:ae) (b:Ã af) (d:À (af×aN)) (f:St) (a:Hp)=>C9 (g=.ref e) (Ŵ<=e) (e≠ğ) (#[hf,c,e]) (a e=ah) (Inv X d f a s') ((∀p∈X.pn++d,p.1≠e)) ((TQ ÀO e cls b\/Yq ØR ÀO e cls b .none\/Yq ØR ÀO e cls b Ñ7)) (E f cls b a)
section
variable {X:Cx} {aj:À (af×aN)} {σ:St} {H:Hp} {s s':ak} {E:St->XK}
theorem Inv.refused(I:â){u:ae}(h:CX1 ü X.w ŵ H s (E σ) u s'):XE X E u s':=by
 obtain e|cls|A|w|rfl|y|B|C|os|f|un|j|q:=h;have i:ØS:=I.sz;have D:Inv X aj σ w s':=by obtain F|g|d|t|G:=s';obtain rfl:G=s.os:=os;exact I.call (h':=F) (g':=g) (d':=d) (t':=t) (ch:=[]) un j f (λb z=>Î z Ù)
 have k:∀a o,í a=aa o->a≠e:=λa o J z=>by have:=Ql J;rw[ib,z,y]
 refine(e,cls,A,aj,σ,w,rfl,Qj i y,λz=>?_,λx c K z=>?_,B,D,λp l z=>?_,.inr (.inl ?_),q)
 ·rw[jk,n,Ř,k]
 ·obtain v|o|n|_:=Ν x c K;exact k _ _ n z
 ·exact k _ _ (θ p l).1 z
 ·obtain L|M|T|N|O|P|Q|R|S|U|V|W|Y|Z|r:=C.ex;refine(L,M,T,N,O,P,Q,R,S,U,V,W,Y,Z,Qj i r.1,r.2.1,λhm=>?_);rw[sX,p,l,ep,Ι,hm];have:=Ql (θ p l).1;rw[ib,ep,r.1]
theorem Inv.fly{e:af}{cls:ae}{g:ú}(I:â)(D:Çt)(he:ØT)(W:e≠ğ)(Y:ØU)(hn:H e=ah)(Z:#[s9,aj,e])
  (hx:TQ Í e cls g\/Yq ØV Í e cls g .none\/Yq ØV Í e cls g Ñ7) :
  X2 λ(B:aJ) (M:af->Prop)=>Ve B ň M Ì Âk ğ e cls g Í/\(∀T,M T->NB Ŵ H É9 T)/\∀h',Xl B ((Ì::Âk).filterMap (·.frame)) h'->Inv X aj σ H { s with Õ:=h' }:=by
 have E:ØS:=I.sz;obtain⟨ch,F,i⟩:∃ch:À af,(e∈ch/\∀T∈ch,T=e\/(NB Ŵ H ((X.pn++aj).map (·.1)) T/\X2 λo h=>í T=aa o/\ş=.fields h)) /\
   (TQ Í e cls g\/Yq ØW Í e cls g .none\/Yq ØW Í e cls g Ñ7):=by
  rcases hx with x|x|x
  ·exact([e],(List.mem_singleton.mpr rfl,λT d=>.inl (ó d)),.inl x)
  ·rw[pY];refine([e,T],ØX,.inr (.inl ØY));rw[64];rcases d with z|z
   ·exact .inl z
   ·rw[z];exact .inr (q,j,k,l,n)
  ·rw[pY];refine([e,T],ØX,.inr (.inr ØY));rw[64];rcases d with z|z
   ·exact .inl z
   ·rw[z];exact .inr (q,j,k,l,n)
 have gY:∀T∈ch,H T=ah:=λT d=>by
  rcases F.2 T d with z|z
  ·rw[z];exact hn
  ·exact z.1.2.1
 have big:∀T,Ò<=T->NB Ŵ H É9 T:=λT d=>by refine(Qj E d,ÆA d,λr=>?_);rw[sX,p,R,S,Ι,r];have:=Ql (θ p R).1;rw[ib,S,d]
 refine(hideAll Í ch,λT=>NB Ŵ H É9 T/\(hideAll Í ch).get? T=ah,((λb o f _=>of_hideAll _ f,λb o f=>(ÈK,of_hideAll _ f)),?_,hideAll_none _ F.1,λT d=>(big T d,ÔI #[eH,hideAll_size,d]),λT d=>d.2,i),λT d=>d.1,λh' C=>?_)
 ·rw[<- D.1];exact I.stack
 ·refine I.call' (s':=#[hx,s,h']) (ch:=ch) rfl (λb o f _ U hc=>C.1 b o Ñ8 ?_,λb o f _ _ hc=>C.2 b o Ñ8,λb o _ f _=>f,λb o f hc=>?_,λ_ _ z=>z,λ_ _ _ z=>z,λb ps z=>(#[],by rw[Array.append_empty];exact z)) ?_ ŷ λb f=>?_
  ·rw[D.1]at U;exact U
  ·obtain sl|h2:=C.2 b o Ñ8;exact(_,h2)
  ·intro a o t;refine(é a o t).stay (λc u hc hu=>C.1 c u (hideAll_get _ hu λr=>?_) λr=>?_) (λ_ z=>z) λ_ _ z=>z
   ·have:=gY c r;rcases hc with rfl|hc
    ·rw[Ab,t]
    ·rw[Ab,hc]
   ·have:H c=ah:=Ðe c #[eH,D.1,r];rcases hc with rfl|hc
    ·rw[Ab,t]
    ·rw[Ab,hc]
  ·rcases F.2 b f with rfl|⟨z,o,h,V,hd⟩
   ·exact(.inr he,W,Y,Z)
   ·refine(.inr z.1,λy=>?_,λx c hc y=>?_,λp R y=>z.2.2 (List.mem_map.mpr (p,R,y)))
    ·obtain m|⟨o',es,S,w,A,_⟩|_:=Ř;rw[<- y,V]at w;cases w;rw[gv,hd,A,A]
    ·obtain v|o'|w|A:=Ν x c hc;rw[fW,y,V,w];rw[gv,hd,A,A]
universe E
theorem Yq.mono{M N:ÄF}{h:aJ}{e:af}{cls:ae}{a:ú}{b:ae}(x:Yq M h e cls a b)(k:∀T,M T->N T):Yq N h e cls a b:=by obtain c|d|T|f|g|i|j|l|m|n|o|p|q|r|s:=x.ex;exact(c,d,T,f,g,i,j,l,m,n,o,p,q,r,k T s)
section
variable {X:Cx} {E:St->XK}
theorem Zw9(ok:Ël=aa ŵ)(d:Çt):bf Ĝ X.A Ì (XE X E):=λev s h=>by obtain e|cls|l|m|n|H|rfl|f|g|i|j|I|k|o|q:=h;obtain B|M|p|r|t:=I.fly d f g i j k o;refine p.passes (by rw[ok,d.1]) d.2 λu a b c=>?_;exact(e,cls,l,m,n,H,rfl,f,g,i,j,t u a,k,.inr (.inr (c.mono r)),q)
universe E
section
variable {X:Cx} {E:St->XK} {k:Nat} {f:af} {fd:bC} {ps:À am} {sp:Sp} {t:TA}
theorem run1{c:ĕ}{b:St}{H:Hp}{s:ak}{Q:VK}{us:Þ}{vs:ă}(F:ØZ)(hr:ν)(hb:Íf)(hx:#[f0,d])
  (I:Inv X c b H s) (r:ZF vs us) (h:sp vs H Q (E b)):ý (Œ Ĉ us) (EP X c b Q) ê s:=by
 have g:ε=ÀS:=by rw[<- μ];exact F.len _ _ _ _ h
 have i:ÆM s fd È7 ÆN:=by have:=hb s us ĵ #[eH,QV,g];rwa [QV]at this
 refine Âr (Åz (F.run X.A ŵ s H È7 us vs Q (E b) hr I.env0 i r h) λr s' a=>?_);cases r with
 | error e=>exact hx e s' (I.refused a)
 | ok j =>
  cases j with
  | ret u=>exact I.after a
  | next=>exact Â9
  | brk=>exact Â9
  | Γ=>exact Â9
def J8(sp:Sp)(E:St->XK)(t:TA):TE:=λa H Q=>t a H λvs b=>sp vs b Q (E a)
universe E
section
variable {P:aA} {w:aF} {K:Ä} {mg:am->Ã ae} {Â:aJ}
theorem XE.leaves{N:Ï}{d:am}{g:bn}{f:af}{i:ae}{A:aE}{Ü:ÁN}{s:ak}{H:Hp}{E:XK}{j:ae}{s':ak}
  (h:XE #[iq,d,g,i] (λ_=>E) j s'):#[iq,d,g,i].xe j s':=by
 obtain e|cls|o|aj|σ|p|rfl|k|r|t|l|I|u|v|q:=h;obtain B|M|x|m|y:=I.fly Ο k r t l u v;refine x.leaves Ë4 rfl λz a b c=>?_;have J:=y z a;exact(e,cls,o,p,rfl,k,l,c.mono λT n=>((m T n).1,(m T n).2.1,by simp),J.os,J.bare,J.base,J.hok,q)
theorem Fun.ok1{x b:am}{st:aK}{f:af}{c:bC}{N ps:Ï}{k:Nat}{sp:Sp}(F:Fun K x b st f c)(S:Äi)(len:Ãb)
  (d:∀ (a:ae) (A:aE) (Ü:À Env) (s:ak) (H:Hp) (vs:À V) (Q:VK) (E:XK),Zt k #[gb,b]->sp vs H Q E ->
   ∃t,PSs ((ÜV).wish (XE ÜV (λ_=>E))) Âx t/\t { nx:=#[iW,g],rt:=Q } Áu H):YN P w K mg Â (CX1 P w) (k+1) f c ps sp:=by
 rw[Ah,fX,pm,an,a,i];refine Lk lk i S len λA Ü s H vs Q E j l=>?_;obtain t|h|q:=d a A Ü s H vs Q E j l;exact(t,h.wish λe s h=>XE.leaves h,q)
universe E
section
variable {M:Às} {A:aE} {E:ae->ak->Prop} {h:aJ} {g:ē Åd} {d:Åe} {t:Nat} {os:Êa}
variable {nm q:am} {C N:af} {bs bm:À ae} {cy:Ê} {sn:À am} {sub:À ae} {ab:Ê} {bR:Ã Ê} {dd:Ã af} {k0 k1 k2 k3 k5:Ã ae} {bI:ł}
variable {eV q':am} {C' N':af} {D1 sv:À ae} {u4:Ê} {D6:À am} {yq:À ae} {D7:Ê} {yr:Ã Ê} {jF:Ã af} {D8 sw D9 D' Ea:Ã ae} {sx:ł}
theorem J7{e:af}{c:aN}{b:Ê}{Q:Çm}(i:à C=aa (υ nm q C N bs bm cy sn sub ab bR dd k0 k1 k2 k3 k5 bI))(hB:à C'=aa (υ eV q' C' N' D1 sv u4 D6 yq D7 yr jF D8 sw D9 D' Ea sx))
  (he:à e=aa c) (j:c.cls=.ref C) (a:sv.contains Àj=true) (k:#[ji,bm].contains (.ref C')=b) (hq:Q b χ):av M A (Çu Ę (.ref C')) Q E χ:=by
 have l:#[i5,C',sv]:=by rw[QK,a,Qau]
 have f:=tc_notTuple;unfold Çu;repeat (first|(with_reducible refine Χ he ?_;rw[j])|with_reducible refine Χ hB ?_|(with_reducible refine Áb hB ?_;rw[l])|(with_reducible refine Áb i ?_;rw[k])|wp_step)
 cases b<;>(wp_walk;exact hq)
universe E
section
variable {è:aA} {w:aF} {A:aE} {E:ae->ak->Prop} {s:ak} {env:Env}
theorem ZoG{e:af}{t:aL}{n:am}{a:aK}{d:Ţ}{pos:Pos}{Č:À ExceptHandler}{Q:#[hK,Flow]}
  (h:av Ð Ãu (Ċ t env) (λc g=>av Ð Ãu (Çu Ę c) (λb i=>b=true /\
   av Ð Ãu (Íe Ę ah) (λ_ j=>av Ð Ãu (Ëy env n Ę) (λ_ k=>av Ð Ãu (execs (a::d) env)
    (λf l=>av Ð A (do bindName env n .none;Ñ9 env n pos) (λ_ m=>Q f m) E l)
    (λ_ _=>ĝ) k) Ãg j) Ãg i) Ãg g) Ãg s) :
  av Ð A (handleBy Ę env (.ExceptHandler (aa t) (aa n) (a::d) pos::Č)) Q E s:=by
 refine Ø0 (Ø1 (aS h (λc g o=>aS o #[io,b,i,p] λ_ _ x=>Ãv) λ_ _ x=>Ãv)) (by intro q;cases q);obtain rfl|r:=p;refine codeAny_handlers_suite_as (aS r (λ_ j u=>aS u (λ_ k v=>aS v (λf l y=>y) λ_ _ x=>Ãv) λ_ _ x=>Ãv) λ_ _ x=>Ãv)
universe E
section
variable {X:Cx} {E:St->XK} {k:Nat} {f C:af} {fd:bC} {ps:À am} {sp:Sp} {x:am} {p pos:Pos} {e:aL} {es:À aL} {t:TA}
theorem XE.unwish{xe:ñ}{a:ae}{s:ak}(h:XE (X.wish xe) E a s):XE X E a s:=by obtain e|cls|b|c|d|f|g|i|j|k|l|I|m|n|o:=h;exact(e,cls,b,c,d,f,g,i,j,k,l,I.unwish,m,n,o)
theorem Zqh(F:ØZ)(hr:ν)(d:ő)(hm:ė x=aa Ĉ)(hk:#[tO,X.K])(hb:Íf)(hx:#[f0,b])
  (ha:ξ) (g:Ĵ:=by decide) (he:Ρ:=by rfl) (i:Át:=by rfl) :
  PE X Äd (J8 sp E t):=by
 rw[fA,j,l,Q];refine bw (WV I d hm ?_ g);refine Qah (h₀:=ň) Äe hk (thn #[gW,j,l] λus s1 a=>?_) he i;obtain vs|H1|c|r|q:=a;exact(c.kIn,run1 F hr hb hx c r q)
universe E
theorem J6{α:Type}{p:α->Ê}:∀ (l:À α) (i:Nat) (h:i<İ),p l[i]=false->(l.eraseIdx i).find? p=l.find? p
 | [],i,h,_=>Î h (Íg i)
 | a::l,0,h,b=>by have c:p a=false:=b;rw[List.eraseIdx_cons_zero,Q8,c]
 | a::l,i+1,h,b=>by
  rw[List.eraseIdx_cons_succ,Q8,Q8];cases hq:p a with
  | true=>rfl
  | false=>exact J6 l i #[eE,h] b
theorem ZlW{a:ÅS}{name x:am}{i:Nat}(b:a.findIdx? (λe=>Òa name)=aa i)(hx:x≠name):ÆF (a.eraseIdxIfInBounds i) x=ÆF a x:=by obtain⟨l⟩:=a;simp only[ÆF,findBy,ÑH,List.find?_toArray,List.findIdx?_toArray]at b ⊢;obtain c|d|_:=List.findIdx?_eq_some_iff_getElem.mp b;rw[J6 l i c (isStr_other hx _ d)]
section
variable {M:Às} {A:aE} {E:ae->ak->Prop} {s:ak} {env:Env}
theorem ZoO{a:af}{m:Ą}{name:am}{Q:Çm}(hn:Ëm a m)(g:(m name).isSome=true)
  (r:∀h' l,h'.Ns a l->(∀x,x≠name->l x=m x)->Åi a Í h'->Q true { s with Õ:=h' }):av M A (nsDel a name) Q E s:=by
 obtain o|b|u|j|hd|p|q:=id hn;have Ci:b.any (·.refKey)=false:=by rw[Array.any_eq_false'];intro e k;obtain n|t|h:=p e k;simp[Õc,h]
 obtain⟨i,c⟩:∃i,b.findIdx? (λe=>Òa name)=aa i:=by
  cases c:b.findIdx? (λe=>Òa name) with
  | some i=>exact(i,rfl)
  | none =>
   rw[<- q name]at g;have:ÆF b name=ah:=by unfold ÆF findBy;rw[Array.find?_eq_none.mpr λe k=>by have:=(Array.findIdx?_eq_none_iff.mp c) e k;simp[this]];rfl
   rw[Ab,g]
 have v:b.any (·.key.isStr name)=true:=by rw[Array.any_eq_true];obtain w|y|_:=Array.findIdx?_eq_some_iff_getElem.mp c;exact(i,w,y)
 have f:nsHas name o=pure true:=by rw[nsHas_eq];unfold nsHasByArray;rw[hd];show (if (b.any λx=>x.key.isStr name)=true then _ else _)=_;rw[v];rfl
 unfold nsDel;refine ai (ÏW j ?_);rw[f];refine ai ÀV;refine ai (wpAny_updatePart j ÀV);obtain cl|d|dt|sl:=o;subst hd;exact r _ _ (_,_,u+1,Q0 _ j Ø2,Ø2,p.erase i,λ_=>rfl) (λx z=>by rw[<- q x];exact ZlW c z) ÖC
universe E
section
variable {X:Cx} {aj:À (af×aN)} {σ:St} {H:Hp} {s:ak}
theorem Inv.lost{i:Nat}{x:am}{h':aJ}{t':Nat}{m t:Ą}(I:â)(B:Â1)(w:Âl)(f:Ëm ğ m/\∀ (i:Nat) (x:am) (v:V),X.N[i]? = aa x->σ[i]? = aa (aa v)->Vis Ën x->∃u,ZI v u/\Mc Ì Í m x u)
  (C:h'.Ns ğ t) (hm:∀y,y≠x->t y=m y) (hs:#[z7,ğ,Í,h']):Inv X aj (σ.set i ah) H { s with Õ:=h',õ:=t' }:=by
 rw[e2,hn,D,f];have cne:=I.cne;have E:i<Ëo:=by rw[Β];exact(Ń w).1
 refine(Ŷ,ÀN,ŷ,(λb o e n l g=>?_,λb o e n l g=>?_,ÃY,λb o e g=>?_,Æz,Åf,Ës),(_,C,λj y F a h G=>?_),λy c e=>?_,š,η,λp J=>?_,λb K e=>?_,by rw[ÕO];exact Β)
 ·exact(hs.2 b Ëz).trans #[tj,l,g]
 ·rw[s5,L,a,l,g];rw[un,L,hs.2,a]
 ·rw[iw,M,a,g];rw[un,M,hs.2,a]
 ·by_cases r:j=i
  ·subst r;rw[QaI E]at h;cases h
  ·rw[Ø3 (Àb r)]at h;obtain N|O|q:=D j y F a h G;rw[ud,N,O];have P:y≠x:=λe=>r (Rt B a (e ▸ w));rcases q with⟨k,e⟩|⟨k,c,e,z⟩
   ·exact .inl (k,by rw[hm y P];exact e)
   ·exact .inr (k,c,e,ËA hs ËB)
 ·obtain A|z:=Ν y c e;exact(A,ËA hs ËB)
 ·rw[s0,Q,J];exact#[Am,hs.2,ne,Q]
 ·refine(é b K e).stay (λc A hc q=>(hs.2 c ?_).trans q) (λ_ q=>q) λ_ _ q=>q;rintro rfl;rcases hc with rfl|hc
  ·rw[gv,š,e,e]
  ·rw[gv,š,hc,hc]
theorem Zoa{M:Às}{A:aE}{E:ñ}{i:Nat}{x:am}{pos:Pos}{Q:Ál}(I:â)(c:Â1)(a:Âl)(hk:Ák x=aa .local)(b:Âz x=aa .local)
  (h:∀s',Inv X aj (σ.set i ah) H s'->Q () s'):av M A (do bindName Ì x .none;Ñ9 Ì x pos) Q E s:=by
 have j:ÔL:=by rw[À2];rfl
 refine ai (wpAny_bindName (Ub I c a (.inl b) (v:=.non) rfl (λk d=>?_) (.inr b)));have l:i<Ëo:=by rw[Β];exact(Ń a).1
 rw[sX,m,f,g,id,d.loc];have n:(m x).isSome=true:=by
  obtain u|_|q:=g i x .non a (QaI l) (.inl b);rcases q with⟨_,e⟩|⟨z,_⟩
  ·rw[e];rfl
  ·rw[hk]at z;rcases z with z|z<;>cases z
 unfold Ñ9;refine Íh ?_;unfold unbindName;refine ai (wpAny_point (ai ?_));unfold deleteName;simp only[hk,j];rw[ti,Å];refine ai (ZoO f n λh2 m2 o p r=>?_);simp only[Âv,Bool.not_true,Äk,Âw];refine aw (wpAny_point (h _ ?_));have J:=Inv.lost (t':=k.toks) d c a (f,g) o p r;rw[List.set_set]at J;exact J
universe E
abbrev Cx.pnd(X:Cx)(a:ĕ):Cx:={ X with pn:=X.pn++a }
abbrev Cx.mkd(X:Cx)(e:af):Cx:={ X with A:=X.A.mark (aa (.ref e)),calm:=false,xe:=λ_ _=>ĝ }
section
variable {X:Cx} {aj i':À (af×aN)} {σ:St} {H:Hp} {s:ak}
theorem Cx.Ok.pnd(ok:X.Ok)(aj:ĕ):(Òb).Ok :=
 ËG
theorem Cx.Ok.unpnd{aj:ĕ}(ok:(Òb).Ok):X.Ok :=
 ËG
theorem Inv.pnd(I:â):Inv Òb [] σ H s:=(I.ok.pnd aj,ÀN,ŷ,Åg,Ř,Ν,š,η,λp a=>θ p Åo,é,Β)
theorem Inv.unpnd(I:Inv Òb i' σ H s):Inv X aj σ H s:=(I.ok.unpnd,ÀN,ŷ,Åg,Ř,Ν,š,η,λp a=>θ p (QR _ a),é,Β)
theorem SP.unpnd{D:XA}{f:Flow}{s':ak}(h:SP Òb i' D f s'):SP X aj D f s':=by
 cases f with
 | next=>obtain a|b|I|q:=h;exact Òc
 | brk=>obtain a|b|I|q:=h;exact Òc
 | Γ=>obtain a|b|I|q:=h;exact Òc
 | ret u=>obtain v|a|b|I|r|q:=h;exact(v,a,b,I.unpnd,r,q)
theorem Inv.mkd(I:â)(e:af):Inv (ÄH e) aj σ H s :=
 ((Ëp,À2,ÐT,I.ok.blt,ÈG,I.ok.inj,ËC,I.ok.cab,(λh=>by cases h),Ë4,I.ok.stk,I.ok.exf,I.ok.bs,ÈI,Æx,Ït,I.ok.funs,I.ok.frf),ÀN,ŷ,Åg,Ř,Ν,š,η,θ,é,Β)
theorem Inv.unmkd{e:af}(I:Inv (ÄH e) aj σ H s)(ok:X.Ok):Inv X aj σ H s:=(ok,ÀN,ŷ,Åg,Ř,Ν,š,η,θ,é,Β)
theorem Inv.track{e:af}{o:HO}(I:â)(he:ØT)(m:e≠ğ)(r:ØU)(hn:H e=ah)(t:#[s9,aj,e])(new:#[Ae,e,o,Í]):Inv X aj σ (upd H e o) s:=by
 have ne:∀ {b:af} {u:HO},H b=aa u->b≠e:=λh z=>by rw[z,hn]at h;cases h
 refine(Ŷ,ÀN,ŷ,(ÈF,ÈH,λb i d n v=>?_,Ì8,λb j h=>?_,λb i u h=>?_,λb w h=>?_),Ř,Ν,?_,λx c k=>?_,λp l=>?_,λa u g=>?_,Β)
 ·rw[Ze (λz=>by rw[z]at d;exact Î (Ql d) (Ì2 he))];exact ÃY b i d n v
 ·have:=Æz b j h;rw[Ze (ne this)];rw[wr]
 ·have:=Åf b i u h;rw[Ze (ne this)];rw[wr]
 ·rw[tu,w,h];exact(Ğ,by rw[Ze (ne this)];exact this)
 ·rw[Ze (Àb m)];exact š
 ·rw[Ze (r x c k)];exact η x c k
 ·obtain y|A|B:=θ p l;exact(y,by rw[Ze (t p l)];exact A,B)
 ·by_cases f:a=e
  ·rw[iA,f,Zb,g];exact new
  ·rw[Ze f]at g;exact(é a u g).stay (λ_ _ _ q=>q) (λb d=>by rw[Ze (ne d)];exact d) λb j d=>by rw[Ze (ne d)];exact d
universe E
def W9(K:Ä)(C:af)(a:Þ):Prop:=X16 λ(nm q:am) (N:af) (bs:À ae) (b:Ê) (c:À am) (sub:À ae) (d:Ê) (e:Ã Ê) (f:Ã af) (g h i j k:Ã ae) (l:ł) =>
 Ā C=aa (υ nm q C N bs a b c sub d e f g h i j k l)
abbrev exO(e C:af)(b:ú):HO:=.ext λh=>X2 λa vs=>à e=aa a/\a.cls=.ref C/\Çv=b/\a.data=.fields vs
def J5(K:Ä)(b:af)(i:Nat)(ts:TS)(D:XA):St->XK:=λc cls d H=>X2 λC a=>C4 (cls=.ref C) (W9 K C a) Ø4 (∀e,H e=ah->ts { nx:=λf g=>Ħ (f.set i ah) g,rt:=λ_ _=>ĝ } (c.set i (aa Ę)) (upd H e (exO e C d)))
def ZwT(K:Ä)(a:af)(i:Nat)(b:Çw)(ts:TS):TS:=λD c H=>b (J5 K a i ts D) D c H
section
variable {X:Cx}
theorem J4{x n:am}{np eM pos:Pos}{Y:Ţ}{Z:aK}{eZ:Ţ}{y:af}{sv:Þ}{i:Nat}{tb:Çw}{ts:TS}
  (hb:#[f5,Y,tb]) (u6:#[us,Z,eZ])
  (J:Çt) (hg:ő) (hm:ė x=aa (.ref y)) (Eb:W9 X.K y sv) (eA:sv.contains Àj=true)
  (hN:Â1) (hi:#[Au,X.N,n]) (hk:Ák n=aa .local) (K:Âz n=aa .local) (cJ:Ĵ:=by decide) :
  PS X (.Try Y [.ExceptHandler (aa (.Name x np)) (aa n) (Z::eZ) eM] [] [] pos) (ZwT X.K y i tb ts):=by
 rw[fA,d,σ,D];refine Òd (aS (hb d (J5 X.K y i ts D) [] s σ H D Òe h) #[io,f,g,A] λev g A=>?_)
 ·have j:SP X d D f g:=A.unwish.unpnd;cases f with
  | next=>exact Ål j
  | brk=>exact j
  | Γ=>exact j
  | ret u=>exact j
 rw[hn,L,O,P,A];rw[tA,Q,hI,J,P];have eB:Òf:=by rw[<- J.1];exact Éu
 refine Q.noted eB J.2 λj a b c=>?_;refine VD Q.hB (s:=#[hx,g,j]) (F:=ah) b a c λR a3 b3 c3=>?_;have S:#[fQ,d,L,O,g,R]:=(hI R a3).unpnd;have U:#[s9,d,e]:=λp j4=>hp p (QR _ j4);refine ZoG ?_;refine WV (X:=ÄH e) (S.mkd e) hg hm ?_ cJ;rw[rI];rw[a1];refine J7 (S.kIn _ _ lC) (S.kIn _ _ Ec) tW uX eA lE Ãl;refine VD Q.hB (s:=#[hx,g,R]) (F:=ah) b3 a3 c3 λV a4 b4 c4=>?_;have I4:#[fQ,d,L,O,g,V]:=(hI V a4).unpnd;obtain l|W|T4|oT4|ts4|m|r|t|w|_:=c4.ex;have I5:Inv X d L (upd O e (exO e C dd)) { g with Õ:=V }:=I4.track he jH jI P U ((l,W,m,r,t,w),(l,m),λA j z k=>by obtain o|vs|z1|z2:=z;exact(o,vs,k o z1,z2));refine Ub (X:=ÄH e) (I5.mkd e) hN hi (.inl K) (v:=.ref e) rfl (λs5 I6=>?_) (.inr K);refine aS (u6 e d s5 _ _ _ I6 (dH e P)) #[io,f,s6,G] λ_ _ z=>z;cases f with
 | next=>obtain iq|H7|I7|q7:=G;exact Zoa (I7.unmkd Ŷ) hN hi hk K λs8 I8=>(_,_,I8,q7)
 | brk=>obtain _|_|_|z:=G;exact ÂK
 | Γ=>obtain _|_|_|z:=G;exact ÂK
 | ret u=>obtain _|_|_|_|_|z:=G;exact ÂK
universe E
open Builtin Builtin.ObjectAttr
section
variable {è:aA} {w:aF} {A:aE} {E:ae->ak->Prop} {h:aJ} {g:ē Åd} {d:Åe} {t:Nat} {os:Êa} {K:Ä}
variable {nm q:am} {C N x:af} {bs bm:À ae} {sn:À am} {sub:À ae} {ab:Ê} {bR:Ã Ê} {dd:Ã af} {k0 k1 k2 k3 k5:Ã ae} {bI:ł}
 {mA:Ą} {name:am} {v:ae}
theorem ZmS{tk:Tok}{Q:#[hK,Fin]}{ns:Ï}(X:ų h)(hm:Ø5)
  (V:Ø6) (ha:#[ih,ah]) (hxC:x≠C) (I:h.Inst x C mA)
  (hq:∀h' W,h'.Inst x C ÏV ->
   (∀b o,b≠x->Ø7->à b=aa o->ĉ b=aa o) ->
   (∀a,à x=aa a->∃j,ĉ x=aa j/\j.cls=a.cls/\j.data=a.data/\j.slots=Ëj/\(∀dx,Çv=aa dx->j.dict=aa dx)/\(Çv=ah->j.dict=aa Ļ))->Q (.done (.ret .none)) #[hz,h',W]) (hw:Within mA ns) (hsz:ËV) :
  av Ð A (aR.«object.__setattr__» ([.ref x,.str name tk,v],[])) Q E χ:=by
 obtain o|i|p|r|hd:=I;have Y:=hm ÀL;have L:=#[Ao,ha];unfold aR.«object.__setattr__»;repeat (first|rw[refuse_eq]|(rw[refuseLoop_ref,Y])|(with_reducible refine Χ i ?_;rw[p])|with_reducible refine wpAny_mroOf_exc V ?_|(with_reducible refine ai (L.at ?_))|wp_step)
 rcases hd with⟨S,s⟩|⟨dx,m,u,Z⟩
 ·
  rw[S,È (by simp[typeHasDict])];split
  ·rename_i z;cases z
  split
  ·rename_i c z;exact Î z (r c)
  ·have T:(ÜT).get? x=aa o:=Qc _ i;have B:x≠Ļ:=QG (Ql i);refine ai (wpAny_alloc' ?_);refine ai (wpAny_update' T ?_);refine aw ?_;have D:#[dw].get? Ļ
     = aa { cls:=.type "dict",Ó:=.dict #[] } :=
    (QaZ _ _ _ _ B.symm).trans (Ø8 rfl rfl)
   have je:#[dw].Ns Ļ (λ_=>ah) :=
    (_,#[],_,D,rfl,λe he=>Î he Ù,λ_=>rfl)
   show av _ _ (Íi Ļ Íj name v) _ _ _;unfold Íi newKeyGuard;refine ai (aw (ai (ÏX (Õm je) λh' l k=>?_)));obtain oD|F|G|H|J|O:=l.count (Within.cons name v Within.nil);refine ai (ÏY H (by rw[J];exact ÏZ (Qj O (by rw[QE,Éy,aO];lia))) ?_)
   wp_walk
   have U:ĉ x=aa { cls:=Ã1,ρ:=aa Ļ,Ó:=ş,ÁM:=ÈK }:=?_;refine hq h' _ ({ cls:=Ã1,ρ:=aa Ļ,Ó:=ş,ÁM:=ÈK },U,p,r,.inr (Ļ,rfl,B.symm,?_)) (λb ob P _ n=>?_)
    (λa f=>by obtain rfl:o=a:=Qv (i.symm.trans f);exact(_,U,rfl,rfl,rfl,λdx e=>(by rw[S]at e;cases e),λ_=>rfl))
   ·obtain o'|es|ep|e1|e2|e3|eu|e4:=l;exact(o',es,ep,e1,e2,e3,eu,λy=>by rw[e4 y];by_cases hy:y=name<;>simp[hy,s])
   ·exact(k.2 b (QG (Ql n))).trans ((QaZ _ _ _ _ P).trans (Qc _ n))
   ·refine(k.2 x B).trans (Q0 _ T ?_);have eB:=(aJ.get?_some_iff.mp i).2;obtain oc|od|R|pf:=o;cases R<;>first|rfl|exact eB
 ·
  rw[m];refine aw ?_;show av _ _ (Íi dx Íj name v) _ _ _;unfold Íi newKeyGuard;refine ai (aw (ai (ÏX Z λh' l k=>?_)));obtain oD|F|G|H|J|O:=l.count (Within.cons name v hw);refine ai (ÏY H (by rw[J];exact ÏZ (Qj O #[fH,QE])) ?_)
  wp_walk
  refine hq h' _ (o,(k.2 x u.symm).trans i,p,r,.inr (dx,m,u,l)) (λb ob _ yv n=>?_)
   (λa f=>(a,(k.2 x u.symm).trans f,rfl,rfl,rfl,λ_ e=>e,λe=>by obtain rfl:o=a:=Qv (i.symm.trans f);rw[m]at e;cases e))
  exact(k.2 b (yv o dx i m)).trans n
theorem J3{Q:Ál}{ns:Ï}(X:ų h)(hm:Ø5)(n:Òg Ík=true)
  (l:Ø6) (hs:#[gM,ã]) (ha:#[ih,ah]) (i:x≠C) (I:h.Inst x C mA)
  (hq:∀h' j,h'.Inst x C ÏV ->
   (∀b o,b≠x->Ø7->à b=aa o->ĉ b=aa o) ->
   (∀a,à x=aa a->∃c,ĉ x=aa c/\c.cls=a.cls/\c.data=a.data/\c.slots=Ëj/\(∀dx,Çv=aa dx->c.dict=aa dx)/\(Çv=ah->c.dict=aa Ļ))->Q () #[hz,h',j]) (hw:Within mA ns) (hsz:ËV) :
  av Ð A (ÈX ÀL name v) Q E χ:=by
 have f:=PySem.F.store_object;obtain o|p|r|AK|hd:=id I;have m:PySem.W.Looks Ð h (typeOf ÀL) ã:=r ▸ (PySem.W.Looks.ld p).andThen .now;refine ai (Òh (ai (ai (ai (m _ _ _ _ Ëv (Qai X hs _ _ _ _ Ëv (aT ?_)))))));rw[PySem.F.store_object.slot.bind];have s:#[ji,bm].contains Ík=true:=by rw[QK,n,Qau]
 refine ai (aw (ai (Âr (Òi f.slot.plain f.entry (@Ø9 Ð _ _ (h,g,d,t+1,os) "object.__setattr__" "object" "__setattr__" ÀL [.str name t,v] [] _ f.kind f.split (m.andThen ?_) (f.args ÀL (.str name t) v) (ZmS X hm l ha i I (λh' j u z B=>aw (aw (hq h' j u z B))) hw hsz))))));intro A' Q' E' D k F;obtain h2|g2|d2|t2|os2:=D;refine Áb (k _ _ l) ?_;rw[s];exact F
universe E
abbrev YE:À ae:=[.type "ValueError",.type "Exception",.type "BaseException",.type "object"]
structure XC (K:Ä) (C B:af):Prop where
 obj:X15 λ(nm q:am) (N:af) (bs:À ae) (sn:À am) (sub:À ae) (ab:Ê) (bR:Ã Ê) (dd:Ã af) (k0 k1 k2 k3 k5:Ã ae) (bI:ł) =>
  Ā C=aa (υ nm q C N bs Êb true sn sub ab bR dd k0 k1 k2 k3 k5 bI)
 sa:Į K ã "__setattr__" = aa ÈZ
theorem XC.cls{K:Ä}{C B:af}(c:XC K C B):W9 K C Êb:=by obtain a|q|N|bs|b|sub|d|e|f|g|i|j|k|l|m|h:=c.obj;exact(a,q,N,bs,true,b,sub,d,e,f,g,i,j,k,l,m,h)
abbrev exN(e C:af)(a:ú):HO:=.ext λh=>∃T,à e=aa { cls:=.ref C,ρ:=a,Ó:=.fields Á3 }
abbrev xdO(dx:af)(fs:À ÁR):HO:=.ext λh=>∃mA,h.Ns1 dx mA/\#[Ar,mA]/\Èy mA Ëg
section
variable {X:Cx} {aj:À (af×aN)} {σ:St} {H:Hp} {s:ak} {A:aE} {E:ae->ak->Prop} {C B e dx:af} {f:am} {fs:À (am×V)}
theorem J2(B:af)(self:ae):refuseLoop self "__setattr__" Êb=pure ():=by rw[refuseLoop_ref];exact PySem.F.store_ValueError.passes self
theorem SG{P:aA}{w:aF}{H:Hp}{h:aJ}{a:ú}{T:af}(he:à e=aa { cls:=.ref C,ρ:=a,Ó:=.fields Á3 }):Y1 P w H h e (exN e C a) :=
 ((T,he),(_,he),λh1 h2 z k=>by obtain b|z:=z;exact(b,k _ z))
theorem J1{P:aA}{w:aF}{H:Hp}{h:aJ}{mA:Ą}(hn:h.Ns1 dx mA)(r:∀f,Yi Ïj (mA f))(a:Èy mA Ëg):Y1 P w H h dx Êc :=
 ((mA,hn,r,a),let ⟨o,_,_,b,_⟩:=hn;(o,b),λh1 h2 z k=>by obtain m|c|d:=z;exact(m,c.at λo q=>k o q,d))
theorem ZwG{y:V}{u:ae}{Q:Ál}(I:â)(c:XC X.K C B)(n:ÆK)(he:H e=aa Çx)(J:ZI y u)
  (h:∀dx s',H dx=ah->dx≠e->Inv X aj σ (upd #[i6,H,dx] dx (xdO dx [(f,y,)])) s'->Q () s'):av Ĝ A (ÈX Ę f u) Q E s:=by
 obtain nm|q|N|bs|sn|sub|ab|bR|dd|k0|k1|k2|k3|k5|bI|K:=c.obj;rw[v3];have v:=ĵ _ _ K;have L:e≠C:=λz=>by subst z;have:=v.symm.trans j;cases this
 rw[hN,i,t,s];refine J3 (mA:=λ_=>ah) (ns:=[]) ĵ (J2 B) rfl v c.sa n L (_,j,rfl,#[fk,_,z],.inl (rfl,λ_=>rfl)) (λh' p M O P=>?_) (λy R=>Î rfl R) (Qp _);obtain S|r|w|D|F|_|U:=P _ j;obtain cl|di|da|sl:=S;have G:=U rfl;dsimp only at w D F G r;subst w D F G;have W:H Ãw=ah:=ÐA;have Y:e<Ãw:=Ql j;have ne:Ãw≠e:=Q4 Y;obtain Z|e2|_|_|hd:=M;obtain rfl:_=Z:=Qv (r.symm.trans e2);obtain(⟨w8,_⟩|⟨dx,lT,_,bX⟩):=hd
 ·cases w8
 cases lT;refine h Ãw _ W ne ?_;have I1:Inv X aj σ #[i6,H,Ãw] (i.update e λo=>{ o with ρ:=aa Ãw },g,d,p,os):=by have m:Ùa:=Q0 _ j rfl;exact Â7 (x:=e) (e:=e) (t':=p) #[sD,he] Đ (λb u k q=>(QaZ _ _ _ _ k).trans q) (_,m) (SG m)
 have m:Ùa:=Q0 _ j rfl;refine I1.laid (a:=Ãw) (h':=h') (t':=p) #[io,b,u,q] (È2 (ÌV _ _ _)) (J1 bX (λl=>?_) λl hg=>?_)
 ·by_cases k:b=e
  ·rw[iA,k,m,q];exact r
  ·exact O b u k (λcL dx a b'=>by rw[j]at a;cases a;cases b') ((QaZ _ _ _ _ k).symm.trans q)
 ·show Yi (À5 l [(f,y,)]) (if l=f then aa u else ah);by_cases z:l=f
  ·subst z;rw[q7];simp only[À5,ÐR];exact J
  ·rw[ti,z];simp only[À5,Èv z];exact Àc
 ·by_cases z:l=f
  ·subst z;simp
  ·exact Î (È z) hg
theorem ZwU{y:V}{u:ae}{Q:Ál}(I:â)(c:XC X.K C B)(n:ÆK)(he:H e=aa (exN e C (aa dx)))(m:H dx=aa Êc)(L:dx≠e)(hl:ÃW<1000)(M:ZI y u)
  (h:∀s',Inv X aj σ (upd H dx (xdO dx Ï4)) s'->Q () s'):av Ĝ A (ÈX Ę f u) Q E s:=by
 obtain nm|q|N|bs|sn|sub|ab|bR|dd|k0|k1|k2|k3|k5|bI|O:=c.obj;rw[v3];obtain ⟨mA,P,r,p⟩|_|_:=é dx _ m;have v:=ĵ _ _ O;have R:e≠C:=λz=>by subst z;have:=v.symm.trans j;cases this
 rw[hN,S,t,s];refine J3 (mA:=mA) (ns:=fs.map ċ) ĵ (J2 B) rfl v c.sa n R (_,j,rfl,#[fk,_,z],.inr (dx,rfl,L,P)) (λh' U W Y Z=>?_) p #[t3,Qa,aO];obtain o1|l|w|D|F|dn|_:=Z _ j;obtain cl|di|da|sl:=o1;have G:=dn dx rfl;dsimp only at w D F G l;subst w D F G;obtain o2|e2|_|_|hd:=W;obtain rfl:_=o2:=Qv (l.symm.trans e2);obtain(⟨w8,_⟩|⟨xO,k,_,J⟩):=hd
 ·cases w8
 cases k;refine h _ (Â7 (x:=dx) (e:=dx) (h':=h') (t':=U) #[sD,m] Đ (λb u hb q=>?_) (let ⟨o,_,_,e',_⟩:=J;(o,e')) (J1 J (λi=>?_) λi hg=>?_))
 ·by_cases K:b=e
  ·subst K;rw[show S.get? b=_ from j]at q;cases q;exact l
  ·exact Y b u K (λcL xO a b'=>by rw[j]at a;cases a;cases b';exact hb) q
 ·show Yi ((Ï4).lookup i) (if i=f then aa u else mA i);rw[Zr];by_cases q:i=f
  ·rw[ju,q,q];exact M
  ·rw[jd,q,q];exact r i
 ·by_cases q:i=f
  ·rw[q];exact#[zB].1
  ·refine#[zB].2 i (p i λz=>hg ?_);show (if i=f then aa u else mA i)=ah;rw[ti,q];exact z
universe E
def sX0(K:Ä)(C B:af)(c d:TE)(f:am):TS:=λD a H=>d a H λy g=>c a g λx b=>∃e,x=.ref e/\b e=aa Çx/\∀dx,b dx=ah->dx≠e->Ħ a (upd #[i6,b,dx] dx (xdO dx [(f,y,)]))
def sX1(K:Ä)(C B:af)(c d:TE)(f:am):TS:=λD a H=>d a H λy g=>c a g λx b=>X3 λe dx fs=>x=.ref e/\b e=aa (exN e C (aa dx))/\b dx=aa Êc/\dx≠e/\ÃW<1000/\Ħ a (upd b dx (xdO dx Ï4))
section
variable {X:Cx} {C B:af} {f:am} {o ι:aL} {ta tv:TE} {pos cZ:Pos}
theorem J0(c:XC X.K C B)(n:ÆK)(ha:Â8)(d:ËZ)(hs:Ï7):PS X Ï8 (sX0 X.K C B ta tv f):=by intro a s b H D I h;refine Ï9 #[gw,d,a,l] hs;rintro m s2 ⟨x,H2,p,r,e,ex,t,q⟩;subst ex;obtain rfl:m=å e:=r;exact ZwG p c n t k λv s' hd ne w=>(_,_,w,q v hd ne)
theorem ZvO(c:XC X.K C B)(n:ÆK)(ha:Â8)(d:ËZ)(hs:Ï7):PS X Ï8 (sX1 X.K C B ta tv f):=by intro a s b H D I h;refine Ï9 #[gw,d,a,l] hs;rintro m s2 ⟨x,H2,p,r,e,dx,fs,ex,t,hd,ne,v,q⟩;subst ex;obtain rfl:m=å e:=r;exact ZwU p c n t hd ne v k λs' w=>(_,_,w,q)
universe E
abbrev FV:ExcBaseFacts "ValueError" "ValueError.__new__" "ValueError.__init__" YE:=PySem.F.excBase_ValueError
section
variable {è:aA} {w:aF} {A:aE} {E:ae->ak->Prop} {h:aJ} {g:ē Åd} {d:Åe} {t:Nat} {os:Êa} {K:Ä}
variable {nm q:am} {C N B:af} {bs:À ae} {cy:Ê} {sn:À am} {sub:À ae} {ab:Ê} {bR:Ã Ê} {dd:Ã af} {k0 k1 k2 k3 k5:Ã ae}
theorem mvV(C B:af):(å C::.ref B::YE).contains ÁC=true:=by rw[QK,QK,FV.hasB];simp
theorem JZ{M:Às}{Č:Þ}{Q:Ál}(a:ÅW)(hq:Q () χ):av M A (ÉU "ValueError.__new__" (.ref C::Č,[])) Q E χ:=by
 have b:=mvV C B;have hstar:=FV.noStar;simp only[ÉU,FV.newKind,FV.newSplit,FV.newRow];repeat (first|refine Χ a ?_|(refine Áb a ?_;rw[b])|refine wpAny_staticBase_exc a ?_|refine Òj a ?_|simp only[bne_self_eq_false,Äk,Âw]|wp_step)
 exact hq
theorem JY{b c k:ł}{a e:Þ}(F:ExcBaseFacts b c k e)(c1:Òk (.type b)=true)(l:Òk Ùb=false)(m:Òk (.type "NameError")=false){R:ÆG}{Č:Þ}(f:à C=aa (υ nm q C N bs a cy sn sub ab bR dd k0 k1 k2 k3 k5 c))
  (hq:R (.ok (.ret Çy)) ⟨(Çb { cls:=Äp,Ó:=.seq rest.toArray }).push
   { cls:=.ref C,Ó:=.fields Òl },g,d,t,os⟩) (kW:Òm) :
  bJ Ð A (.builtin c (.ref C::Č,[])) R χ:=by
 have hends:=F.ends;have n:#[ji,a].contains (.type b)=true:=by rw[QK,c1,Qau]
 have i:#[ji,a].contains Ùb=false:=by rw[QK,l];rfl
 have j:#[ji,a].contains (.type "NameError")=false:=by rw[QK,m];rfl
 refine codeAny_builtinAt F.entry ?_;unfold aR.«BaseException.__new__»;refine Ùc ?_;show PySem.wpAt _ _ _ (stack >>= _) _ _ _;refine Ùc (PySem.wpAt_stack λp below=>Ùd ?_)
 wp_walk
 refine Ùd ?_;rw[F.owner];repeat (first|with_reducible refine wpAny_madeHere_exc F.canon f ?_|with_reducible refine Χ f ?_|(with_reducible refine Áb f ?_;first|rw[n]|rw[i]|rw[j])|wp_step)
 show R _ _;rw[Q5];exact hq
theorem Zms{Č:Þ}{e:af}{Q:#[hK,Fin]}(X:ų h)(a:ÅW)(m:#[gq,ã,Ę])(n:Åt K Ę=true)
  (hq:∀h' T,Íl->ĉ Ãx=aa { cls:=.ref C,Ó:=.fields Á3 }->av Ð A (Œ Ę (.ref Ãx::Č)) (λr s'=>r=.none/\Q (.done (.ret Çy)) s') E #[hz,h',t]) (p:Òm) :
  av Ð A (aR.«type.__call__» (.ref C::Č,[])) Q E χ:=by
 repeat (first|with_reducible refine Χ a ?_|with_reducible refine Òj a ?_|wp_step)
 refine Ùe Ùf (JZ a ?_);refine JY FV Ùg Ùh Ùi a ?_ p;show av _ _ _ _ _ _;generalize j:Çb { cls:=.type "tuple",Ó:=.seq rest.toArray }=f;have s:ÄI=Ļ+1:=by rw[<- j];exact Q5 _ _
 have k1:#[Ai,ÄA]:=λb o i=>by rw[<- j];exact Qc _ i
 generalize k:f.push { cls:=.ref C,Ó:=.fields #[.ref Ļ,.none,.none,.none,.bool false,.none] }=c;have k2:#[Ai,É7]:=λb o i=>by rw[<- k];exact Qc _ (k1 b o i)
 have l:É7 Ãx=aa { cls:=.ref C,Ó:=.fields Òl }:=by rw[<- k,<- s];exact Ùj
 have u:=k2 _ _ a;have X2:ų c:=X.keeps k2;have v:Ùk:=by simp
 unfold Ð7;repeat (first|with_reducible refine Χ l ?_|(with_reducible refine Áb u ?_;rw[v])|wp_step)
 rw[ma];refine aT (ai ?_);refine(Õi X2 Çy (ËU n)).at ?_;refine ai (aS (hq c Ļ k2 l) #[io,r,s',y] λ_ _ x=>x);obtain rfl|z:=y
 wp_walk
 exact z
theorem ZwH{Č:Þ}{c:af}{Q:ñ}(X:ų h)(a:ÅW)(e:Į K ã "__init__" = aa #[g0,c])(f:Åt K ÄJ=true)
  (hq:∀h' T,Íl->ĉ Ãx=aa { cls:=.ref C,Ó:=.fields Á3 }->av Ð (ÆH (.builtin "type.__call__" (.ref C::Č,[]))) (Œ ÄJ (.ref Ãx::Č)) (λr s'=>r=.none/\Q Çy s') E #[hz,h',t]) (i:Òm) :
  av Ð A (Œ ã Č) Q E χ:=by
 rw[az];repeat (any_goals (first|assumption|with_reducible refine Χ a ?_|wp_step))
 refine(rfl,ÑF Ùl entry_typeCall (Ùm a (Zms X a e f (λh' T k j=>hq h' T k j) i)))
theorem Zlq{M:Às}{e:af}{c:aN}{Č:Þ}{Q:Ál}(f:ÅW)(he:à e=aa c)(i:c.cls=.ref C)(hq:Q () χ) :
  av M A (ÉU "ValueError.__init__" (.ref e::Č,[])) Q E χ:=by
 have j:=mvV C B;have hshort:=FV.noStar;simp only[ÉU,FV.initKind,FV.initSplit,FV.initRow];repeat (first|(with_reducible refine Χ he ?_;rw[i])|with_reducible refine Χ f ?_|(with_reducible refine Áb f ?_;rw[j])|wp_step)
 refine Íh ?_;rw[show ∀ (a b:ł) (n:Nat),Bind.check (.positional, "*", "ValueError",.self,[("args",.varPos,false)]) a b n (List.map (λx=>x.fst) ({ pos:=å e::Č }:Args).kw)=pure () from
  λa b n=>check_star_args _ _ _ _ _ _]
 exact aw hq
theorem JX{e T:af}{u:ae}{c:ú}{Q:ñ}(f:ÅW)(he:à e=aa { cls:=.ref C,ρ:=c,Ó:=.fields Á3 })
  (i:∀a,(∀b o,b≠e->à b=aa o->a.get? b=aa o)->(∃j,a.get? e=aa { cls:=.ref C,ρ:=c,Ó:=.fields #[.ref j,.none,.none,.none,.bool false,.none] })->Q .none #[hz,a,t]) :
  av Ð A (Œ ÄK [.ref e,u]) Q E χ:=by
 refine Âr (Òi FV.init.plain FV.initEntry (Zlq f he rfl ?_))
 wp_walk
 refine i _ (λb o k l=>?_) (Ļ,?_)
 ·rw[Qam _ _ (Àb k)];exact Qc _ l
 ·rw[Q0 _ (Qc _ he) rfl];rfl
universe E
abbrev TJ:=am->St->Hp->VK->Prop
def PJ(X:Cx)(d:ĭ)(t:TJ):Prop :=
 ∀ (b:À (af×aN)) (s:ak) (a:St) (H:Hp) (c:am) (Q:VK),Inv X b a H s->t c a H Q->ý (joinParts c (evalEach d Ì)) (EP X b a Q) ê s
def Zxt:TJ:=λa _ H Q=>ķ<=aq/\Q (.str a) H
def Zv6(c:TE)(t:TJ):TJ:=λa b H Q=>c b H λv d=>∃y,v=.str y/\(a++y).length<=aq/\t (a++y) b d Q
def ZwF(a:TE):TE:=λb H Q=>a b H λv c=>∃i:Int,v=.int i/\Òn<1920/\Q (.str (toString i)) c
section
variable {X:Cx} {e e1 e2:aL} {es:À aL} {te:TE} {t:TJ} {pos:Pos}
theorem Uy:PJ X [] Zxt:=λ_ _ _ H a _ I h=>joinParts_nil #[g6,a,h.2] h.1
theorem XT(he:Åm)(hr:PJ X es t):PJ X (e::es) (Zv6 te t):=by intro b s c H eD Q I h;refine joinParts_cons #[t5,he,b,c,u,d];obtain v|f|g|r|y|rfl|i|q:=a;obtain tk|rfl:=#[fh,tk,Âj,y,r];exact(i,hr b d c f _ Q g q)
theorem VC(h:PJ X (e1::e2::es) t):PE X (.JoinedStr (e1::e2::es) pos) (t ÁS):=λa s b H Q I q=>JoinedStr_many (h a s b H _ Q I q)
theorem TN(he:Åm):PE X Ùn (ZwF te):=by intro b s c H Q I h;refine Ùo #[t5,he,b,c,u,s1];obtain v|d|f|r|i|rfl|g|q:=a;obtain tk|rfl:=#[fh,tk,Âh,i,r];exact formatField_int_small g (.str (toString i),d,f.tok _,ā,q)
universe E
structure XB (K:Ä) (B:af):Prop where
 sp:ÆJ K Ãy "__getattribute__" = aa Ùp
 rd:Ùq K B Çz=true
 fi:Ùr K Ãy Çz "__init__" = aa (.val ÄK)
def tXI(C:af)(t:TA):TE:=λb H Q=>t b H λvs a=>X3 λe x c=>vs=[.ref e,.str x]/\a e=aa (exN e C c)/\Q .non a
structure XM (K:Ä) (C B f:af):Prop where
 obj:X14 λ(nm q:am) (N:af) (bs:À ae) (sn:À am) (sub:À ae) (ab:Ê) (bR:Ã Ê) (dd:Ã af) (k0 k1 k2 k3 k5:Ã ae) =>
  Ā C=aa Ùs
 init:Į K ã "__init__" = aa ŉ
 fn:Åt K Ĉ=true
 kp:Áq K ã=true
 sa:Į K ã "__setattr__" = aa ÈZ
theorem XM.xc{K:Ä}{C B f:af}(c:XM K C B f):XC K C B:=by obtain a|q|N|bs|b|sub|d|e|g|i|j|k|l|m|h:=c.obj;exact((a,q,N,bs,b,sub,d,e,g,i,j,k,l,m,_,h),c.sa)
section
variable {X:Cx} {C B f:af} {x:am} {p bz pos br:Pos} {e:aL} {es:À aL} {t:TA}
theorem JW{pl:Sem Ê}(c:XM X.K C B f)(b:XB X.K B)(D:ő)(hm:ė x=aa Ãy)(ha:ξ)(E:Ĵ:=by decide)
  (F:Ρ:=by rfl) (G:Át:=by rfl)
  (J:Ċ Ùt Ì=(do
   let v <- Ċ (.Name x p) Ì
   ÃZ ÆP
   let (f,first) <- ÁO [v] (Ã9 v "__init__" pl)
   ÆQ pos f first (bj pos ÆR) ÆS):=by rfl) :
  PE X Ùt (tXI C t):=by
 rw[fA,K,L,Q];refine QaN (pl:=pl) (WV I D hm ?_ E) J;refine PySem.W.method_cls ĵ b.sp (PySem.W.cls_value ĵ b.rd b.fi rfl ?_);refine ÕF (thn (ha pos K _ L H _ Åu h) λus M a=>?_) F G;obtain vs|l|m|r|i|y|w|rfl|n|q:=a;obtain nm|q'|N|bs|sn|sub|ab|bR|dq|k0|k1|k2|k3|k5|O:=c.obj;obtain ⟨T,P⟩|_|_:=m.hok i _ n;cases r with
 | Ñ R r =>
  cases r with
  | Ñ r2 r =>
   cases r;obtain rfl:=R;rw[hN,hh,tk,M];refine JX (m.kIn _ _ O) P λh' k j=>?_;rw[e2,T',j,j];have A:=m.write (x:=i) (e:=i) (o:=exN i C w) (h':=h') (t':=tk) #[sD,n] Đ (λb u S z=>k b u S z) (_,j) (SG j);have U:upd l i (exN i C w)=l:=by
    funext b;by_cases z:b=i
    ·rw[z,Zb,n]
    ·rw[Ze z]
   rw[U]at A;exact(.non,l,A,rfl,q)
universe E
section
variable {X:Cx} {aj:À (af×aN)} {σ:St} {H:Hp} {s:ak}
theorem Inv.untrack{e:af}{g:aJ->Prop}(I:â)(hx:H e=aa (.ext g)):Inv X aj σ (off e H) s:=by
 have f:∀ {b:af},H b=ah->off e H b=ah:=λh=>Zq9 h;have ne:∀ {b:af} {o:HO},H b=aa o->o≠.ext g->b≠e:=λh n z=>by rw[z,hx]at h;cases h;exact n rfl
 refine(Ŷ,ÀN,ŷ,(ÈF,ÈH,λb o d n x=>f (ÃY b o d n x),Ì8,λb i h=>?_,λb o u h=>?_,λb j h=>?_),Ř,Ν,f š,λx c k=>f (η x c k),λp l=>?_,λa u m=>?_,Β)
 ·have:=Æz b i h;exact VW this Òo
 ·have:=Åf b o u h;exact VW this Òo
 ·rw[tu,j,h];exact(Ğ,VW this Òo)
 ·obtain r|t|v:=θ p l;exact(r,f t,v)
 ·exact(é a u (Zvs a u m)).stay (λ_ _ _ q=>q) (λb d=>VW d (ne d Ác)) λb i d=>VW d (ne d Ác)
universe E
section
variable {M:Às} {A:aE} {E:ae->ak->Prop} {env:Env}
theorem JV{s:ak}{x:Sem ae}{Q:#[hK,Flow]}(w:Ãa)
  (h:av M A x (λv a=>∃ (e C T:af) (c:Ã af) (nm q:am) (N:af) (bs b:À ae) (f:Ê) (i:À am) (sub:À ae) (j:Ê) (k:Ã Ê) (l:Ã af) (m n o p r:Ã ae) (t:ł),
   v=.ref e/\a.heap.get? C=aa (υ nm q C N bs b f i sub j k l m n o p r t)/\b.contains Àj=true/\a.heap.get? e=aa { cls:=.ref C,ρ:=c,Ó:=.fields Á3 }/\E Ę a) E s) :
  av M A (raiseStmt env (aa x) ah) Q E s:=by
 unfold raiseStmt;refine ai (aS h #[io,v,a,y] λ_ _ x=>x);obtain e|C|T|c|nm|q|N|bs|b|f|i|sub|j|k|l|m|n|o|p|r|t|rfl|u|z|B|D:=y;rw[hN,hp,tk,a];have F:#[i5,C,b]:=by rw[QK,z,Qau]
 repeat (first|with_reducible refine Χ B ?_|with_reducible refine Χ u ?_|(with_reducible refine Áb u ?_;rw[F])|wp_step)
 exact wpAny_raiseNew_none w D
universe E
def JU(C:af)(sp:Sp)(E:St->XK)(t:TA):TS:=λ_ a H=>t a H λvs b=>∀e,b e=ah ->
 sp (.ref e::vs) (upd b e Çx) (λv c=>v=.non/\∃d,c e=aa (exN e C d)/\E a ã d (off e c)) λ_ _ _=>ĝ
section
variable {X:Cx} {E:St->XK} {k:Nat} {f C B:af} {fd:bC} {ps:À am} {sp:Sp} {x:am} {p pos br:Pos} {e:aL} {es:À aL} {t:TA}
theorem Zwn{m:ĕ}{n:St}{H:Hp}{s:ak}{us:Þ}{vs:ă}{Q:Hp->Ã af->af->Prop}(M:XM X.K C B f)(F:Ùu)(hr:È8)(hb:Íf)(pj:Òp)
  (I:Inv X m n H s) (r:ZF vs us) (h:∀e,H e=ah->sp (.ref e::vs) (upd H e Çx) (λv i=>v=.non/\∃c,i e=aa (exN e C c)/\Q i c e) λ_ _ _=>ĝ) :
  ý (Œ ã us) (λu s'=>X3 λe c i=>u=.ref e/\Ò<=e/\Inv X m n i s'/\i e=aa (exN e C c)/\Q i c e) ê s:=by
 have p:=h Ź Ðg;obtain nm|q'|N|bs|sn|sub|ab|bR|dq|k0|k1|k2|k3|k5|x:=M.obj;have q:ZF (ø Ź::vs) Õx:=.cons rfl r;have t:(Õx).length=ÀS:=by have e:=q.length;rw[F.len _ _ _ _ p]at e;exact Åh
 rw[hN,j,tk,s];refine ZwH ĵ (ĵ _ _ x) M.init M.fn (λh' T y A=>?_) (by rw[QE]at t;rw[aO];lia);have o:Inv X m n (upd H Êd (exN Êd C ah)) #[hz,h',tk]:=Àv (a:=j.objs.size+1) (h':=h') (t':=tk) (λb u z=>y b u z) (Qaa _) (SG A);have w:=hb _ (å Êd::us) o.kIn #[eH,QV,t];rw[QV]at w;refine Âr (Åz (F.run _ ŵ _ _ (å Êd::us,[]) (å Êd::us) _ _ Ìm (hr.make C us [])
  (o.env0.make C us []) w q p) λr s' l=>?_)
 cases r with
 | error e=>exact Ím
 | ok D =>
  cases D with
  | ret u=>obtain v|E|G|J|K|c|L|O:=o.after l;subst K;exact(J,_,c,E,rfl,Qaa _,G,L,O)
  | next=>exact Ím
  | brk=>exact Ím
  | Γ=>exact Ím
theorem Zn9(M:XM X.K C B f)(F:Ùu)(hr:È8)(hg:ő)(hm:Ë7)(hb:Íf)(pj:Òp)(hx:#[f0,Y])
  (ha:ξ) (cJ:Ĵ:=by decide) (he:Ρ:=by rfl) (cr:Éj:=by rfl) :
  PS X Òq (JU C sp E t):=by
 rw[fA,Z,l,D];rw[pW];refine ai (aS (Q:=λv i=>∃ (b n T:af) (di:Ã af) (w q:am) (N:af) (bs bm:À ae) (cy:Ê) (A:À am) (sub:À ae) (G:Ê) (J:Ã Ê) (d:Ã af) (K L O P R:Ã ae) (bI:ł),
   v=.ref b/\Òr n=aa (υ w q n N bs bm cy A sub G J d K L O P R bI)/\Òg Àj=true/\Òr b=aa { cls:=.ref n,ρ:=di,Ó:=.fields Á3 }/\ê ÁU i) (bw (WV I hg hm ?_ cJ)) Ùv λ_ _ x=>x)
 refine Qah (h₀:=ň) Äe M.kp (thn (ha br Z s l H _ I h) λus i a=>?_) he cr;obtain vs|H1|g|r|q:=a;refine(g.kIn,thn (Zwn (Q:=λS d e=>E l ã d (off e S)) M F hr hb pj g r q) λu s2 z=>?_);obtain b|d|S|rfl|j|U|AL|q2:=z;obtain w|q'|N|bs|A|sub|G|J|dq|K|L|O|P|R|lC:=M.obj;obtain ⟨T,ho⟩|_|_:=U.hok b _ AL;have V:∀a o,Òr a=aa o->a≠b:=λa o ha z=>by have:=Ql ha;rw[ib,z,j]
 refine(b,C,T,d,w,q',N,bs,.ref B::YE,true,A,sub,G,J,dq,K,L,O,P,R, "ValueError.__new__",rfl,U.kIn _ _ lC,by rw[QK,FV.hasBase,Qau],ho,hx _ _ ?_);refine(b,.ref C,d,Z,l,off b S,rfl,Qj g.sz j,λz=>?_,λy c hc z=>?_,by unfold off;rw[Æ rfl],U.untrack AL,λp hp z=>?_,.inl (_,_,ho,rfl,rfl,rfl,rfl),q2)
 ·rw[jk,W,g.loc,V]
 ·obtain v|o|W|_:=g.cell y c hc;exact V _ _ W z
 ·exact V _ _ (g.pin p hp).1 z
universe E
abbrev Pq(è:aA)(w:aF)(A:aE)(E:ñ)(Q:ñ):È5->ak->Prop:=λr s'=>match r with|.ok (.ret v)=>av Ð A (Òs v) Q E s'|_=>ĝ
structure XG (K:Ä) (C:af):Prop where
 ga:Į K ã "__getattribute__" = aa Ùw
 gh:Į K ã "__getattr__" = aa ah
 sb:Ín K ã Àj=aa true
 hd:Ï3 K C=true
 ca:Į K ã "__class__" = aa (aa Ãz)
 hm:PySem.W.mroIn K C Ík=aa true
section
variable {è:aA} {w:aF} {A:aE} {E:ae->ak->Prop} {s:ak} {K:Ä} {C e:af} {oe:aN} {od:Ã aN} {name:am}
theorem JT{tk:Tok}{fill a:Ê}{Q:ñ}(X:Ã8)(I:Òt)(c:XG K C)
  (h:av Ð A.in1 (aR.«object.__getattribute__» ([.ref e,.str name tk],[]))
   (λfin s'=>match fin with|.done f=>Pq è w A E Q (.ok f) s'|.again b=>b.quiet=true/\bJ Ð A b (Pq è w A E Q) s') (λi s'=>Pq è w A E Q (.error i) s') s) :
  av Ð A (getAttrBy Ę Íj fill a) Q E s:=by
 have g:=I.type (M:=ay è w);have j:=#[Ao,c.ga];have L2:=#[Ao,c.gh];unfold getAttrBy;refine aT (ai (g.here (ai (j.here ?_))));dsimp only;have k:(Òu "BaseException.__getattribute__" == Òu "object.__getattribute__")=false:=by ac_rfl
 rw[k,Bool.and_false,È Å];unfold getAttrByItsOwn hookBefore callGetattribute boundAndCalled;have d:(a&&onTheHeap (Òu "BaseException.__getattribute__"))=false:=by cases a<;>rfl
 rw[show onTheHeap (å C)=true from rfl,Æ rfl,d,È Å,PySem.F.excAttr_ValueError.ga.bind];refine ai (L2.here (ai (ÉC (aT (ai (aw (Âr ?_)))))));refine Òi PySem.F.excAttr_ValueError.ga.plain PySem.F.entry_bexc_ga ?_;refine @Ø9 Ð _ _ s "BaseException.__getattribute__" "BaseException" "__getattribute__" Ę [.str name tk] [] _ ä ä (g.andThen (PySem.W.looks_subIn X c.sb)) (PySem.F.args_bexc_ga Ę Íj) ?_;refine aS h #[io,fin,s',z] λ_ _ z=>ÂK;cases fin with
 | done f=>cases f<;>first|exact z|exact ÂK
 | again b=>exact(z.1,Åz z.2 λr s2 y=>by rcases r with _|(_|_|_|_)<;>first|exact y|exact y.elim)
theorem Zpk{a:Ê}{v:ae}{Q:ñ}(X:Ã8)(I:Òt)(c:XG K C)(hf:Òv K C od name=aa (.value v))(b:Õe)
  (h:Õf):av Ð A (ËT Ę name a) Q E s:=by
 refine ai (Òh Ùx);rw[hN,h0,tt,s];rw[89];refine aw ?_;show av _ _ (Òs v) _ _ _;rw[Ùy b];exact aw h
theorem ZuL{Q:Ìz}(X:Ã8)(I:Òt)(c:XG K C)(hf:Òv K C od "__class__" = aa (.bind Ío Ãz))
  (h:Q (aa ã) { s with õ:=œ+1 }):av Ð A (getAttr? Ę "__class__") Q E s:=by
 refine ai (Òh (ai (ÉC Ùx)));rw[hN,a,b,s];rw[89];show av _ _ (Ùz _ _ _ _) _ _ _;unfold Ùz;refine ai (aT (Âr (PySem.W.class_get (s:=(a,g,d,b+1,os)) (ox:=oe) (od:=od) X I c.hm ?_)));refine aw ?_;show av _ _ (Òs ã) _ _ _;rw[Ùy rfl];exact aw (aw h)
theorem JS(c:XG K C)(hn:Ða)(g:Ðb) :
  PySem.W.KitX K Ę ã (λh=>X2 λoe od=>ÈW h e oe C od) where
 ty:=λ_ _ _ I=>by obtain oe|od|I:=I;exact I.type
 it:=λ_ _ X _=>by
  obtain b|a|_:=Qbk c.hd;unfold Òw at a;split at a
  ·rename_i i j d l f;intro A' Q' E' s' k q;unfold isType loadHead;exact ai (ÏW (k _ _ (X _ _ f)) (aw q))
  ·cases a
 ne:=λh m dd its n sl X o=>by
  obtain b|a|_:=Qbk c.hd;refine Íp λq=>?_;have e:C=m:=ae.ref.inj (ËU q);subst e;unfold Òw at a;split at a
  ·rename_i i j d l f;have z:=(X _ _ f).symm.trans o;cases z
  ·cases a
 ca:=λX I k=>by obtain oe|od|I:=I;refine ZuL X I c ?_ k;obtain cd|p|_:=Qbk c.hd;unfold Òv;rw[p,c.ca];simp only[Íq,hn,g]
universe E
universe E.L2
namespace L2
open PySem PySem.Spec PyProof.Rows
def tXF(K:Ä)(b:TE)(f:am):TE:=λc H Q=>b c H λx a=>X5 λe C dx fs v=>x=.ref e/\a e=aa (exO e C (aa dx))/\a dx=aa Êc/\XG K C/\Yt K C f/\Äa f=aa v/\Q v a
def Zxh(K:Ä):À V->Hp->VK->Prop:=λvs H Q=>X5 λe C a c b=>C8 (vs=[.ref e,c]) (H e=aa (exO e C a)) (XG K C) ÙA ((∀u,ZI c u->Ď K ã u=aa b)) ÙB ÙC (Q (.bl b) H)
section
variable {X:Cx} {aj:À (af×aN)} {σ:St} {H:Hp} {s:ak} {e C:af} {dd:Ã af}
theorem JR(I:â)(he:H e=aa (exO e C dd))(hd:dd=ah\/X2 λdx fs=>dd=aa dx/\H dx=aa Êc):X2 λa od=>ÈW Í e a C od:=by
 obtain ⟨a,vs,b,c,d,g⟩|_|_:=é e _ he;have f:Ír a=true:=by unfold Ír;rw[g]
 rcases hd with rfl|⟨dx,fs,rfl,hd⟩
 ·exact(a,ah,b,c,f,by rw[d];exact Àc)
 ·obtain _|⟨od,h⟩|_:=é dx _ hd;exact(a,aa od,b,c,f,by rw[d];exact h)
theorem JQ{o:aL}{f:am}{pos:Pos}{i:TE}(ha:PE X o i)(hb:#[fM,o,f]):PE X #[tN,f,pos] (tXF X.K i f):=by
 rw[vS];refine Lx hb #[t5,ha,aj,σ,u,k];obtain x|m|d|p|e|C|t|fs|v|rfl|w|hd|c|n|l|q:=a;obtain rfl:u=å e:=p;obtain ⟨j,vs,y,z,A,B⟩|_|_:=d.hok e _ w;obtain ⟨D,E,r,_⟩|_|_:=d.hok t _ hd;rw[sX,od,F,G,LC,E];have K:Ír j=true:=by unfold Ír;rw[B]
 have J:ÈW k.heap e j C (aa od):=(y,z,K,by rw[A];exact F);have b:=r f;rw[l]at b;cases g:D f with
 | none=>rw[g]at b;exact b.elim
 | some u=>rw[g]at b;exact Zpk d.kIn J c (Õh c.hd n rfl (by rw[G,g])) (LA b) (v,m,d.tok _,b,q)
theorem isX(K:Ä)(a:X.K=K:=by rfl):YS X È3 (Zxh K):=by
 subst a;rw[zY];obtain e|C|dd|c|b|rfl|d|g|hd|f|i|j|q:=h;cases r with
 | Ñ k r =>
  cases r with
  | Ñ l r=>cases r;obtain rfl:=k;exact Q6 (JS g i j) ĵ (JR I d hd) (f _ l) Àw λtk=>(.bl b,H,ř _,rfl,q)
theorem Wi{x:am}{pos:Pos}{C:af}(hm:Ë7)(a:ő:=by rfl)(b:Ĵ:=by decide):PE X ÀQ (tC ã) :=
 λ_ _ _ H _ I h=>WV I a hm (.ref C,H,I,rfl,h) b
universe E
theorem Zxz{X:Cx}{E:St->XK}(a:Çt):bf Ĝ X.A Ì (XE X E):=λb s h=>by
 have ok:Ël=aa ŵ:=by obtain _|_|_|_|_|_|_|_|_|_|_|I|_:=h;exact Éu
 exact Zw9 ok a b s h
structure D1f (P:aA) (w:aF) (K:Ä) (mg:Ą) (Â:aJ) (k:Nat) (x:am) (ps:Ï) (sp:Sp):Prop where
 ex:X2 λf fd=>YN P w K mg Â (CX1 P w) k f fd ps sp/\mg x=aa Ĉ/\Áq K Ĉ=true/\Ys K fd ps []
structure C1f (P:aA) (w:aF) (K:Ä) (mg:Ą) (Â:aJ) (k:Nat) (C:af) (x:am) (ps:Ï) (sp:Sp):Prop where
 ex:X2 λf fd=>YN P w K mg Â (CX1 P w) k f fd ps sp/\Mk K C f/\Ys K fd ps []/\mg x=aa ã
structure Xf (P:aA) (w:aF) (K:Ä) (mg:Ą) (Â:aJ) (k:Nat) (C B:af) (x:am) (ps:Ï) (sp:Sp):Prop where
 ex:X2 λf fd=>YN P w K mg Â CX0 k f fd ps sp/\XM K C B f/\Ys K fd ps []/\mg x=aa ã
structure Ux (K:Ä) (mg:Ą) (C B:af) (x bb:am) (st:aK) (ps:Ï):Prop where
 ex:X2 λf fd=>Fun K "__init__" bb st f fd/\XM K C B f/\Ys K fd ps []/\mg x=aa ã
section
variable {P:aA} {w:aF} {K:Ä} {mg:am->Ã ae} {Â:aJ}
theorem Ux.xf{C B:af}{x c:am}{st:aK}{N ps:Ï}{k:Nat}{sp:Sp}(T:Ux K mg C B x c st ps)(S:Äi)(len:Ãb)
  (d:∀ (a:ae) (f:af) (A:aE) (Ü:À Env) (s:ak) (H:Hp) (vs:À V) (Q:VK) (E:XK),Zt k Ì7->XM K C B f->sp vs H Q E ->
   ∃t,PSs #[cs].nox Âx t/\t { nx:=#[iW,e],rt:=Q } Áu H):Xf P w K mg Â (k+1) C B x ps sp:=by
 obtain f|i|F|m|b|g:=T.ex;exact(f,i,F.ok S len (λa A Ü s H vs Q E j h=>d a f A Ü s H vs Q E j m h),m,b,g)
theorem Ux.cls{C B:af}{x a:am}{st:aK}{ps:Ï}(T:Ux K mg C B x a st ps):W9 K C Êb:=by obtain f|fd|F|m|b|g:=T.ex;exact m.xc.cls
abbrev cx1(P:aA)(w:aF)(K:Ä)(mg:Ą)(Â:aJ)(N:Ï)(a:am)(b:bn)(f:af)(c:ae)(A:aE)(Ü:ÁN)(s:ak)(H:Hp)(E:XK):Cx :=
 (Xp (CX1 P w) P w K mg Â N a b f c A Ü s H E).wish (XE #[iq,a,b,c] (λ_=>E))
theorem Top.df1{x:am}{st:aK}{N ps:Ï}{k:Nat}{sp:Sp}(T:Top K mg x st ps)(S:Äi)(len:Ãb)
  (c:∀ (a:ae) (f:af) (A:aE) (Ü:À Env) (s:ak) (H:Hp) (vs:À V) (Q:VK) (E:XK),Zt k #[gb,x]->sp vs H Q E ->
   ∃t,PSs (cx1 P w K mg Â N x (Zi st) f a A Ü s H E) Âx t/\t { nx:=#[iW,d],rt:=Q } Áu H):D1f P w K mg Â (k+1) x ps sp:=by
 rw[ty,e];exact(f,e,F.ok1 S len #[fi,g,c],m,F.kp,b)
universe E
section
variable {X:Cx} {E:St->XK} {k j:Nat} {C B:af} {x:am} {ps:À am} {sp:Sp} {e:aL} {es:À aL} {t:TA} {p pos br:Pos}
theorem Uw(F:D1f ü X.w X.K ė ň k x ps sp)(hx:#[f0,a])(hr:ÂC)(ha:ξ)(c:k<=j:=by decide)(d:ő:=by rfl)(g:Ĵ:=by decide)
  (h:Ρ:=by rfl) (i:Át:=by rfl) :
  PE X Äd (J8 sp E t):=by
 rw[tl,m,l,b];exact Zqh F (Âq c) d m l b hx ha g h i
theorem SE(F:Xf ü X.w X.K ė ň k C B x ps sp)(hx:#[f0,a])(hr:ÂC)(ha:ξ)(c:Òp:=by decide)(d:k+1<=j:=by decide)(h:ő:=by rfl)(i:Ĵ:=by decide)
  (l:Ρ:=by rfl) (m:Éj:=by rfl) :
  PS X Òq (JU C sp E t):=by
 rw[tl,g,b,n];exact Zn9 g F (Âq d) h n b c hx ha i l m
universe E
section
variable {K:Ä} {C D:af}
theorem SD:Ď K ã ã=aa true:=by unfold Ď;rw[Æ Ù]
theorem SA(h1:#[gZ,D])(h2:#[g4,Ū])(a:#[e9,ã,Ū]):Ď K ã Ū=aa true:=by
 unfold Ď;split
 ·rfl
 ·unfold Òx;have b:ÙD:=h1;dsimp only;rw[b,h2,Æ Ë];exact a
theorem WH(h1:#[gZ,D])(h2:#[g4,Ū])(a:#[fe,ã,Ū])(b:#[e9,ã,ã]):Ď K ã Ū=aa false:=by
 have ne:C≠D:=λz=>by subst z;rw[gv,a,b,b]
 unfold Ď;rw[È (by simp[ne])];unfold Òx;have c:ÙD:=h1;dsimp only;rw[c,h2,Æ Ë];exact a
theorem Sz(h:#[e9,ã,ÁC]):Ď K ã ÁC=aa true:=by unfold Ď;rw[È (λz=>by cases z)];unfold Òx;dsimp only;rw[Æ ä];exact h
universe E
theorem Zhj:cx "ValueError" = aa ÁC:=by first|rfl|ac_rfl
universe E.L2
namespace L2
open PySem PyProof.Rows
section
variable {è:aA} {w:aF} {A:aE} {E:ae->ak->Prop} {h:aJ} {g:ē Åd} {d:Åe} {t:Nat} {os:Êa} {K:Ä}
variable {nm q:am} {C N B:af} {bs:À ae} {cy:Ê} {sn:À am} {sub:À ae} {ab:Ê} {bR:Ã Ê} {dd:Ã af} {k0 k1 k2 k3 k5:Ã ae}
theorem Zmh{u:ae}{Q:#[hK,Fin]}(X:ų h)(c:ÅW)(m:#[gq,ã,ÄK])
  (hq:∀h' T,Íl->ĉ Ãx=aa { cls:=.ref C,Ó:=.fields Á3 }->Q (.done (.ret Çy)) #[hz,h',t]) :
  av Ð A (aR.«type.__call__» ([.ref C,u],[])) Q E χ:=by
 repeat (first|with_reducible refine Χ c ?_|with_reducible refine Òj c ?_|wp_step)
 refine Ùe Ùf (JZ c ?_);refine JY FV Ùg Ùh Ùi c ?_ #[hH,1];show av _ _ _ _ _ _;generalize i:Çb { cls:=.type "tuple",Ó:=.seq [u].toArray }=e;have n:e.objs.size=Ļ+1:=by rw[<- i];exact Q5 _ _
 have k1:#[Ai,e.get?]:=λb o a=>by rw[<- i];exact Qc _ a
 generalize j:e.push { cls:=.ref C,Ó:=.fields #[.ref Ļ,.none,.none,.none,.bool false,.none] }=f;have k2:#[Ai,ÄA]:=λb o a=>by rw[<- j];exact Qc _ (k1 b o a)
 have k:ÄA Ãx=aa { cls:=.ref C,Ó:=.fields Òl }:=by rw[<- j,<- n];exact Ùj
 have l:=k2 _ _ c;have X2:ų f:=X.keeps k2;have p:Ùk:=by simp
 unfold Ð7;repeat (first|with_reducible refine Χ k ?_|(with_reducible refine Áb l ?_;rw[p])|wp_step)
 rw[ma];refine aT (ai (wpAny_of_eq (FV.init.bind _) ?_));refine ai (JX l k ?_);rintro h' r ⟨s,v⟩
 wp_walk
 exact hq h' s (λb o a=>r b o (λz=>by have:=Ql a;rw[z]at this;exact ÙE) (k2 b o a)) v
theorem Zwd{u:ae}{Q:ñ}(X:ų h)(a:ÅW)(c:#[gq,ã,ÄK])
  (hq:∀h' T,Íl->ĉ Ãx=aa { cls:=.ref C,Ó:=.fields Á3 }->Q Çy #[hz,h',t]) :
  av Ð A (Œ ã [u]) Q E χ:=by
 rw[az];repeat (any_goals (first|assumption|with_reducible refine Χ a ?_|wp_step))
 refine(rfl,ÑF Ùl entry_typeCall (Ùm a (Zmh X a c λh' T k e=>hq h' T k e)))
universe E
structure XW (K:Ä) (mg:Ą) (C B:af) (x:am):Prop where
 obj:X14 λ(nm q:am) (N:af) (bs:À ae) (sn:À am) (sub:À ae) (ab:Ê) (bR:Ã Ê) (dd:Ã af) (k0 k1 k2 k3 k5:Ã ae) =>
  Ā C=aa Ùs
 init:Į K ã "__init__" = aa (aa ÄK)
 kp:Áq K ã=true
 m:mg x=aa ã
theorem XW.cls{K:Ä}{mg:Ą}{C B:af}{x:am}(c:XW K mg C B x):W9 K C Êb:=by obtain a|q|N|bs|b|sub|d|e|f|g|i|j|k|l|h:=c.obj;exact(a,q,N,bs,_,b,sub,d,e,f,g,i,j,k,l,_,h)
def Zsz(C:af)(E:St->XK)(t:TA):TS:=λ_ a H=>t a H λvs b=>∃x,vs=[.str x]/\E a ã ah b
section
variable {X:Cx} {E:St->XK} {k j:Nat} {C B:af} {x m:am} {ps:À am} {sp:Sp} {p bz pos br:Pos} {e o:aL} {es:À aL} {ta:TE} {t:TA}
theorem JP(M:XW X.K ė C B x)(hx:#[f0,Z])(hr:ÂC)(ha:ξ)(hg:ő:=by rfl)(cJ:Ĵ:=by decide)
  (he:Ρ:=by rfl) (cr:Éj:=by rfl) :
  PS X Òq (Zsz C E t):=by
 rw[fA,n,w,D];rw[pW];refine ai (aS (Q:=λv k=>∃ (A F T:af) (di:Ã af) (G q:am) (N:af) (bs bm:À ae) (cy:Ê) (J:À am) (sub:À ae) (K:Ê) (L:Ã Ê) (dd:Ã af) (O P R S U:Ã ae) (bI:ł),
   v=.ref A/\k.heap.get? F=aa (υ G q F N bs bm cy J sub K L dd O P R S U bI)/\Òg Àj=true/\k.heap.get? A=aa { cls:=.ref F,ρ:=di,Ó:=.fields Á3 }/\ê (.ref A) k) (bw (WV I hg M.m ?_ cJ)) Ùv λ_ _ x=>x)
 refine Qah (h₀:=ň) Äe M.kp (thn (ha br n s w H _ I h) λus k a=>?_) he cr;obtain vs|l|i|r|y|rfl|q:=a;rw[je,u,ru,r.one];obtain G|q'|N|bs|J|sub|K|L|dq|O|P|R|S|U|lC:=M.obj;rw[hN,f,tk,k];refine(i.kIn,Zwd i.kIn (i.kIn _ _ lC) M.init λh' T kp V=>?_);have hn:l Ís=ah:=i.hok.fresh (Qaa _);have I2:Inv X n w ÙF #[hz,h',tk]:=i.laid (a:=ÄI+1) (h':=h') (t':=tk) (λb u z=>kp b u z) (Qaa _) (SG V);have I3:=I2.untrack (e:=ÄI+1) Zb;have eH:off Ís ÙF=l:=by
  funext b;unfold off;by_cases z:b=ÄI+1
  ·rw[Æ z,z,hn]
  ·rw[È z,Ze z]
 rw[eH]at I3;have W:∀a o,ÄA a=aa o->a≠ÄI+1:=λa o ha z=>by have:=Ql ha;rw[z]at this;exact ÙE
 refine(ÄI+1,C,T,ah,G,q',N,bs,.ref B::YE,true,J,sub,K,L,dq,O,P,R,S,U, "ValueError.__new__",rfl,kp _ _ (i.kIn _ _ lC),by rw[QK,FV.hasBase,Qau],V,hx _ _ ?_);refine(ÄI+1,.ref C,ah,n,w,l,rfl,Qj i.sz (Qaa _),λz=>?_,λy c hc z=>?_,hn,I3,λp hp z=>?_,.inl (_,_,V,rfl,rfl,rfl,rfl),q)
 ·rw[jk,Y,i.loc,W]
 ·obtain v|o|Y|_:=i.cell y c hc;exact W _ _ Y z
 ·exact W _ _ (i.pin p hp).1 z
structure M1f (P:aA) (w:aF) (K:Ä) (mg:Ą) (Â:aJ) (k:Nat) (C:af) (m:am) (ps:Ï) (sp:Sp):Prop where
 ex:X2 λf fd=>YN P w K mg Â (CX1 P w) k f fd ps sp/\UI K C m f/\Ys K fd ps []
def Zu9(C:af)(m:am)(sp:Sp)(E:St->XK)(ta:TE)(t:TA):TE:=λa H Q=>ta a H λx b=>RMt C m x b (t a b λvs c=>sp (x::vs) c Q (E a))
theorem Uv{pl:Sem Ê}(F:#[go,M1f,m])(c:Äb)(hx:#[f0,d])(hr:ÂC)(he:Â8)(ha:ξ)(y:k<=j:=by decide)
  (z:Ρ:=by rfl) (A:Át:=by rfl)
  (B:Ċ ÆO Ì=(do
   let g <- Ċ o Ì
   ÃZ ÆP
   let (f,first) <- ÁO [g] (Ã9 g m pl)
   ÆQ pos f first (bj pos ÆR) ÆS):=by rfl) :
  PE X ÆO (Zu9 C m sp E ta t):=by
 obtain f|fd|F|i|b:=F.ex;rw[sJ,n,p,B];rw[hy,D,G,v,J,K];refine P9 v K c i l ?_;refine Qah (first:=Ár) (h₀:=ň) Äe i.kp (thn (ha pos n D p G _ v q) λus s2 ⟨vs,H2,w,r,L⟩=>(w.kIn,?_)) z A;exact run1 (us:=.ref a::us) (vs:=.ref a::vs) F (Âq y) b hx w (.cons rfl r) L
universe E
theorem Yn.mf1{P:aA}{w:aF}{K:Ä}{mg:Ą}{Â:aJ}{C:af}{m c:am}{st:aK}{N ps:Ï}{k:Nat}{sp:Sp}(T:Yn K C m c st ps)(S:Äi)(len:Ãb)
  (d:∀ (a:ae) (f:af) (A:aE) (Ü:À Env) (s:ak) (H:Hp) (vs:À V) (Q:VK) (E:XK),Zt k Ì7->sp vs H Q E ->
   ∃t,PSs (cx1 P w K mg Â N c (Zi st) f a A Ü s H E) Âx t/\t { nx:=#[iW,e],rt:=Q } Áu H):M1f P w K mg Â (k+1) C m ps sp:=by
 rw[ty,g];exact(f,g,F.ok1 S len #[fi,i,d],m,b)
universe E.L2
namespace L2
open PySem PySem.Builtin PySem.Builtin.Str PyProof.Rows
def Zvy:V->À V->Hp->VK->Prop:=λx vs H Q=>X2 λz y:am=>C6 (x=.str z) #[jf,y] ((ÀG == 0)=false) (Ć<=aq) ((Àk z y).length<=aq) (∀a,H a=ah->Q ą (upd H a (.lst Òy)))
section
variable {X:Cx}
theorem JO(k:Nat):∀ys:À am,ZF Ìs ((numbered k ys).map λp=>Âj p.1 p.2)
 | []=>.nil
 | y::r=>by show ZF (Ç y::Ãr Ç) (Âj y k::(numbered (k+1) r).map λp=>Âj p.1 p.2);exact .cons ā (JO (k+1) r)
theorem TM:MtR X "str.split" Zvy:=by
 intro n s p H x vs v us Q I r w h;obtain z|y|rfl|rfl|i|d|j|q:=h;rw[tR,r];rw[je,u,A,w.one];rw[fd,f,A];have one:∀ (k:Nat),[z]=Àk z y->X2 λl m=>Inv X n p m { s with õ:=k,Õ:=Àu { cls:=.type "list",Ó:=.seq #[.str z t] } }/\ZI l År/\Q l m:=λk e=>by refine(.ref Ò,_,Àv (t':=k) (o:=.lst Òy) #[hX,b,o,g] ò ?_,rfl,q _ ÁT);rw[<- e];exact(by show 1<=aq;decide,[.str z t],_,.cons ā .nil,Qs _ rfl)
 cases a:(decide (Ć<ÀG)||decide (strKind z<strKind y))
 ·cases c:(Ít z y 0 Ć (Ć+1)).isEmpty
  ·have e:Àk z y=Òz z (Ít z y 0 Ć (Ć+1)) ÀG:=#[rP].trans (È (ÙG c));refine Ãd ÒA ÒB ÒC ÒD (meets_str_split_sep z y t f a i c d #[fE,e,j]) ?_;refine(.ref Ò,_,Àv (t':=œ+(ÙH).length) (h':=Àu { cls:=ŗ,Ó:=.seq (strsFrom œ ÙH).toArray }) (o:=.lst Òy) #[hX,b,o,g] ò ?_,rfl,q _ ÁT);refine(by rw[Qa];exact j,strsFrom œ ÙH,_,?_,Qs _ rfl);rw[strsFrom_eq,e];exact JO _ _
  ·exact Ãd ÒA ÒB ÒC ÒD (meets_str_split_not_found z y t f a i c) (one _ (#[rP].trans (Æ c)).symm)
 ·exact Ãd ÒA ÒB ÒC ÒD (meets_str_split_cannot_occur z y t f a) (one _ (Æ a).symm)
universe E
def gl(c:Nat):À (À Nat)->À Nat
 | []=>[]
 | [a]=>a
 | a::b::r=>a++c::gl c (b::r)
theorem JN{c:Nat}:∀ {xs ys:À (À Nat)},xs≠[]->ys≠[]->(∀a∈xs,c ∉ a)->(∀a∈ys,c ∉ a)->gl c xs=gl c ys->xs=ys
 | [],_,h,_,_,_,_=>Î rfl h
 | _,[],_,h,_,_,_=>Î rfl h
 | [a],[b],_,_,_,_,e=>by rw[show a=b from e]
 | [a],b::b2::r,_,_,ha,_,e=>by have e':a=b++c::gl c (b2::r):=e;exact Î #[tF,e'] (ha a Ù)
 | a::g::q,[b],_,_,_,f,e=>by have e':a++c::gl c (g::q)=b:=e;exact Î (by rw[<- e'];simp) (f b Ù)
 | a::g::q,b::b2::r,_,_,ha,f,e=>by
  have e':a++c::gl c (g::q)=b++c::gl c (b2::r):=e;have cut:∀ (x y u v:À Nat),c ∉ x->c ∉ y->x++c::u=y++c::v->x=y/\u=v:=λx=>by
   induction x with
   | nil =>
    intro y u v _ i h;cases y with
    | nil=>exact(rfl,by injection h)
    | Ñ z y=>injection h with d _;exact Î #[tF,d] i
   | Ñ w x l =>
    intro y u v k i h;cases y with
    | nil=>injection h with d _;exact Î (by rw[<- d];simp) k
    | Ñ z y=>injection h with d n;obtain o|p:=l y u v (λm=>k (Qw _ m)) (λm=>i (Qw _ m)) n;exact(by rw[d,o],p)
  obtain s|t:=cut _ _ _ _ (ha a Ù) (f b Ù) e';rw[s,JN Ù Ù (λz j=>ha z (Qw _ j)) (λz j=>f z (Qw _ j)) t]
theorem JM(c:Nat):∀ws:À am,(ÒE).cps.toList=gl c (ÅX λw=>ÇA)
 | []=>rfl
 | [a]=>by simp[ÀX,gl]
 | a::b::r=>by
  have ih:=JM c (b::r);have e:(ÀX Ũ (a::b::r)).cps.toList=a.cps.toList++c::(ÀX Ũ (b::r)).cps.toList:=by show ((a++(Ũ:am))++ÀX Ũ (b::r)).cps.toList=_;show ((a.cps++#[c])++(ÀX Ũ (b::r)).cps).toList=_;simp
  rw[e,ih];rfl
theorem Zl1{c:Nat}{ws:Ï}(h0:ws≠[])(h:∀w∈ws,c ∉ ÇA):Àk (Ád Ũ ws) Ũ=ws:=by
 have e:Ád Ũ ws=ÀX Ũ ws:=by simpa using Íu Ũ ws
 rw[e];have d:=StrLaws.join_split ÒE Ũ;have f:=StrLaws.split_free ÒE c;have g:Àk ÒE Ũ≠[]:=λz=>by
  unfold Àk at z;split at z
  ·cases z
  ·split at z
   ·cases z
   ·unfold Òz at z;revert z;cases Ít (ÀX ⟨#[c]⟩ ws) ⟨#[c]⟩ 0 (ÀX ⟨#[c]⟩ ws).length ((ÀX ⟨#[c]⟩ ws).length+1)<;>simp
 generalize Àk (ÀX ⟨#[c]⟩ ws) ⟨#[c]⟩=zs at d f g;have i:=ħ (λx:am=>ÉS) d;simp only[JM]at i;have:=JN (c:=c) (xs:=zs.map λw=>ÇA) (ys:=ÅX λw=>ÇA) #[eE,g] #[eE,h0] (λa b=>by obtain w|hw|rfl:=Ι b;exact f w hw) (λa b=>by obtain w|hw|rfl:=Ι b;exact h w hw) i;have inj:∀ (xs ys:À am),Èx (λw=>ÇA)=ys.map (λw=>ÇA)->xs=ys:=λxs=>by
  induction xs with
  | nil=>intro ys h;cases ys with
   | nil=>rfl
   | Ñ=>cases h
  | Ñ x r j =>
   intro ys h;cases ys with
   | nil=>cases h
   | Ñ y q=>injection h with k l;rw[j q l,show x=y from by obtain⟨x⟩:=x;obtain⟨y⟩:=y;exact ħ am.mk (Øa k)]
 exact inj _ _ this
structure KD (K:Ä) (w:aF) (a:af):Prop where
 at':X2 λ(es:ē ÐK) (n:Nat)=>Ā a=aa #[ir,es,n]/\Ív Êe es.toList
 lo:ÂY=false
def ZvK(K:Ä)(w:aF):R2:=λx y H Q=>X4 λa s v u=>C6 ÅC (y=.str s) (KD K w a) (ô K a s=aa (aa u)) (ZI v u) (Q v H)
def Zwg(K:Ä)(w:aF)(b:Ê):R2:=λy x H Q=>X3 λa s r=>C5 ÅC (y=.str s) (KD K w a) (ô K a s=aa r) (Q (.bl (if b then !r.isSome else r.isSome)) H)
section
variable {X:Cx} {K:Ä} {w:aF}
theorem Pp(d:X.K=K:=by rfl)(hw:X.w=w:=by rfl):IxR X (ZvK K w):=by subst d;subst hw;intro ι fY aj s σ H x y v u Q I f g h i;obtain a|z|j|u'|rfl|rfl|D|e|r|q:=h;cases f;obtain t|rfl:=g;obtain es|n|b|k:=ŭ;have c:=ÙI (è:=ü) ĵ b k;exact Kg c.typeIs ÑK i (Øy ÙJ c (PySem.W.find_K b e) (j,H,ř _,r,q))
theorem ZsB(c:X.K=K:=by rfl)(hw:X.w=w:=by rfl):OpR X (aV .NotIn) (Zwg K w true):=by subst c;subst hw;intro aj s σ H x y v u Q I d f h;obtain a|z|r|rfl|rfl|D|e|q:=h;cases f;obtain t|rfl:=d;obtain es|n|b|g:=ŭ;exact wpAny_notIn_of ÙJ D.lo (ÙI (è:=ü) ĵ b g) (by rw[PySem.W.find_K b e];exact(.bl (!r.isSome),H,ř _,rfl,q))
universe E
structure Fv (P:aA) (w:aF) (K:Ä) (mg:Ą) (Â:aJ) (k:Nat) (f:af) (sp:Sp):Prop where
 ex:X2 λfd ps=>YN P w K mg Â CX0 k f fd ps sp/\Áq K Ĉ=true/\Ys K fd ps []
def Zuj(P:aA)(w:aF)(K:Ä)(mg:Ą)(Â:aJ)(k:Nat)(b:TE)(t:TA):TE:=λa H Q=>b a H λv c=>X2 λf sp=>v=.ref f/\Fv P w K mg Â k f sp/\t a c λvs d=>sp vs d Q λ_ _ _=>ĝ
theorem Zqn{X:Cx}{k j:Nat}{x:am}{p pos:Pos}{e:aL}{c:ĭ}{d:TE}{t:TA}(hf:PE X (.Name x p) d)(hr:ÂC)(ha:PA X (e::c) t)(n:k<=j:=by decide)
  (o:aG (e::c) Ì=#[fS,e]::aG c Ì:=by rfl) (u:(bj pos (aG c Ì)).any ċ=false:=by rfl) :
  PE X (.Call (.Name x p) (e::c) [] pos) (Zuj ü X.w X.K ė ň k d t):=by
 rw[fA,g,i,Q];refine bw #[t5,hf,g,i,v,w];obtain y|z|l|A|f|sp|rfl|F|q:=a;cases A;obtain fd|ps|F|B|b:=F.ex;refine Qah (h₀:=ň) l.ok.mod.kin B (thn (ha pos g w i z _ l q) λus s2 ⟨vs,H2,m,r,q⟩=>(m.kIn,?_)) o u;exact S0 (dvs:=[]) F (Âq n) b .nil UF m r #[eH,QV,q]
universe E.L2
namespace L2
open PySem PyProof.Rows
section
variable {è:aA} {w:aF} {A:aE} {E:ae->ak->Prop} {s:ak} {env:Env}
theorem JL{e:af}{t:aL}{a:aK}{d:Ţ}{pos:Pos}{Č:À ExceptHandler}{Q:#[hK,Flow]}
  (h:av Ð Ãu (Ċ t env) (λc g=>av Ð Ãu (Çu Ę c) (λb i=>b=true /\
   av Ð Ãu (Íe Ę ah) (λ_ j=>av Ð Ãu (execs (a::d) env) (λf k=>Q f k)
    (λ_ _=>ĝ) j) Ãg i) Ãg g) Ãg s) :
  av Ð A (handleBy Ę env (.ExceptHandler (aa t) ah (a::d) pos::Č)) Q E s:=by
 refine Ø0 (Ø1 (aS h (λc g l=>aS l #[io,b,i,m] λ_ _ x=>Ãv) λ_ _ x=>Ãv)) (by intro q;cases q);obtain rfl|n:=m;exact codeAny_handlers_suite (aS n (λ_ j o=>aS o (λf k p=>p) λ_ _ x=>Ãv) λ_ _ x=>Ãv)
universe E
def JK(K:Ä)(b:af)(ts:TS)(D:XA):St->XK:=λc cls dd H=>X2 λC a=>C4 (cls=.ref C) (W9 K C a) Ø4 (ts { nx:=Ħ,rt:=D.rt } c H)
def Zwz(K:Ä)(a:af)(b:Çw)(ts:TS):TS:=λD c H=>b (JK K a ts D) D c H
section
variable {X:Cx}
theorem Zr7{x:am}{V W pos:Pos}{A:Ţ}{G:aK}{J:Ţ}{j:af}{K:Þ}{L:Çw}{ts:TS}
  (hb:#[f5,A,L]) (Y:#[us,G,J])
  (l:Çt) (Z:ő) (hm:ė x=aa (.ref j)) (Eb:W9 X.K j K) (eA:K.contains Àj=true) (cJ:Ĵ:=by decide) :
  PS X (.Try A [.ExceptHandler (aa (.Name x V)) ah (G::J) W] [] [] pos) (Zwz X.K j L ts):=by
 rw[fA,d,σ,D];refine Òd (aS (hb d (JK X.K j ts D) [] s σ H D Òe h) #[io,f,g,m] λev g m=>?_)
 ·have i:SP X d D f g:=m.unwish.unpnd;cases f with
  | next=>exact Ål i
  | brk=>exact i
  | Γ=>exact i
  | ret u=>exact i
 rw[hn,O,P,hn,m];rw[tA,n,Q,l,hn];have eB:Òf:=by rw[<- l.1];exact Éu
 refine n.noted eB l.2 λi a b c=>?_;refine VD n.hB (s:=#[hx,g,i]) (F:=ah) b a c λo R b3 S=>?_;have p:#[fQ,d,O,P,g,o]:=(Q o R).unpnd;refine JL ?_;refine WV (X:=ÄH e) (p.mkd e) Z hm ?_ cJ;obtain oe|vs|T|oT|eU|tW|uX|tY|_:=S.ex;rw[a1];refine J7 (p.kIn _ _ lC) (p.kIn _ _ Ec) tW uX eA lE Ãl;refine VD n.hB (s:=#[hx,g,o]) (F:=ah) b3 R S λU a4 b4 c4=>?_;have I4:#[fQ,d,O,P,g,U]:=(Q U a4).unpnd;refine aS (Y e d _ _ _ _ (I4.mkd e) dH) #[io,f,s6,k] λ_ _ z=>z;cases f with
 | next=>obtain r|t|w|y:=k;exact(r,t,w.unmkd Ŷ,y)
 | brk=>obtain _|_|_|z:=k;exact ÂK
 | Γ=>obtain _|_|_|z:=k;exact ÂK
 | ret u=>obtain v|r|t|w|r7|y:=k;exact(v,r,t,w.unmkd Ŷ,r7,y)
universe E
theorem Yq.keep{NB:ÄF}{h h':aJ}{e:af}{cls a:ae}{d:ú}(c:Yq NB h e cls d a)(k:#[Ai,ĉ]):Yq NB h' e cls d a:=by obtain f|g|T|i|j|l|m|n|p|q|r|s|t:=c.ex;exact(f,g,T,i,j,k _ _ l,m,n,p,q,r,k _ _ s,t)
theorem Xl.more{B:aJ}{d:Š}{h h':aJ}(a:Xl B d h)(k:#[Ai,ĉ]):Xl B d h' :=
 (λb o c n=>k _ _ (a.1 b o c n),λb o c=>let ⟨e,z⟩:=a.2 b o c;(e,k _ _ z))
def Sy(h:aJ)(C:af)(a:Þ):Prop:=X16 λ(nm q:am) (N:af) (bs:À ae) (b:Ê) (c:À am) (sub:À ae) (d:Ê) (e:Ã Ê) (f:Ã af) (g i j k l:Ã ae) (m:ł) =>
 à C=aa (υ nm q C N bs a b c sub d e f g i j k l m)
theorem W9.at'{K:Ä}{C:af}{a:Þ}{h:aJ}(c:W9 K C a)(X:ų h):Sy h C a:=by obtain b|q|N|bs|d|e|sub|f|g|i|j|k|m|n|o|p|l:=c;exact(b,q,N,bs,d,e,sub,f,g,i,j,k,m,n,o,p,X _ _ l)
section
variable {M:Às} {A:aE} {E:ae->ak->Prop} {h:aJ} {g:ē Åd} {d:Åe} {t:Nat} {os:Êa}
theorem Zln{C a b l e:af}{f i j:Þ}{m:aN}{k b2:Ê}{Q:Çm}(c:Sy h C f)(h1:Sy h a i)(h2:Sy h b j)(ht:ÁL h l #[.ref a,.ref b])
  (he:à e=aa m) (s:m.cls=.ref C) (u:i.contains Àj=true) (v:j.contains Àj=true) (w:#[ji,f].contains ą=k) (p:#[ji,f].contains ÁU=b2) (hq:Q (k||b2) χ):av M A (Çu Ę Ŋ) Q E χ:=by
 obtain nm|q|N|bs|cy|sn|sub|ab|bR|dq|k0|k1|k2|k3|k5|bI|c:=c;obtain nm1|q1|N1|bs1|hdct1|sn1|sub1|ab1|col1|dq1|k01|AM|k21|k31|k51|newId1|h1:=h1;obtain nm2|q2|N2|bs2|hdct2|sn2|sub2|ab2|col2|dq2|yA|AN|k22|k32|k52|newId2|h2:=h2;have x:#[i5,a,i]:=by rw[QK,u,Qau]
 have y:#[i5,b,j]:=by rw[QK,v,Qau]
 obtain o|r|z|n|hd:=ht;unfold Çu;refine ai (ÖO (o,r,z) isSubtype_tuple_tuple ?_);dsimp only;rw[q7];refine ai (bv r hd ?_);dsimp only[Option.getD_some,Option.getD];repeat (first|(with_reducible refine Χ he ?_;rw[s])|with_reducible refine Χ h1 ?_|with_reducible refine Χ h2 ?_|(with_reducible refine Áb h1 ?_;rw[x])|(with_reducible refine Áb h2 ?_;rw[y])|(with_reducible refine Áb c ?_;first|rw[w]|rw[p])|wp_step)
 cases k with
 | true=>wp_walk;exact hq
 | false =>
  repeat (first|(with_reducible refine Áb c ?_;rw[p])|wp_step)
  cases b2<;>(wp_walk;exact hq)
universe E
def JJ(K:Ä)(b c:af)(ts:TS)(D:XA):St->XK:=λd cls dd H=>X2 λC a=>C4 (cls=.ref C) (W9 K C a) ((#[ji,a].contains ÁU||(å C::a).contains ÄJ)=true) (ts { nx:=Ħ,rt:=D.rt } d H)
def Zv3(K:Ä)(a b:af)(c:Çw)(ts:TS):TS:=λD d H=>c (JJ K a b ts D) D d H
section
variable {X:Cx}
theorem Zr1{l m:am}{r t np eM pos:Pos}{kt}{V:Ţ}{W:aK}{Y:Ţ}{g i:af}{Z xb:Þ}{tb:Çw}{ts:TS}
  (hb:#[f5,V,tb]) (u6:#[us,W,Y])
  (w:Gl X l) (gx:ė l=aa (.ref g)) (u8:Gl X m) (cX:ė m=aa (.ref i)) (kU:(l == ("__debug__" : am))=false) (j2:(m == ("__debug__" : am))=false) (x:aG [.Name l r,.Name m t] Ì=[(false,Ċ (.Name l r) Ì,),(false,Ċ (.Name m t) Ì,)])
  (y:Çt) (A:W9 X.K g Z) (G:W9 X.K i xb) (AO:Z.contains Àj=true) (AQ:xb.contains Àj=true) :
  PS X (.Try V [.ExceptHandler (aa (.Tuple [.Name l r,.Name m t] kt np)) ah (W::Y) eM] [] [] pos) (Zv3 X.K g i tb ts):=by
 rw[fA,d,σ,D];refine Òd (aS (hb d (JJ X.K g i ts D) [] s σ H D Òe h) #[io,f,k,J] λev k J=>?_)
 ·have n:SP X d D f k:=J.unwish.unpnd;cases f with
  | next=>exact Ål n
  | brk=>exact n
  | Γ=>exact n
  | ret u=>exact n
 rw[hn,K,L,hn,J];rw[tA,N,O,y,hn];have eB:Òf:=by rw[<- y.1];exact Éu
 refine N.noted eB y.2 λn a b c=>?_;refine VD N.hB (s:=#[hx,k,n]) (F:=ah) b a c λj a3 b3 c3=>?_;have I3:#[fQ,d,K,L,k,j]:=(O j a3).unpnd;refine JL ?_;refine Tuple_ ?_;rw[x];refine Ë3 (WV (X:=ÄH e) (I3.mkd e) w gx ?_ kU);refine Ë3 (WV (X:=ÄH e) (I3.mkd e) u8 cX ?_ j2);refine aw ?_;refine bO ?_ Ť;have p:∀b o,j.get? b=aa o->(j.push { cls:=Äp,Ó:=.seq [å g,.ref i].toArray }).get? b=aa o:=λb o hb=>Qc _ hb;have c5:=c3.keep p;have a5:=a3.more p;have b5:=b3.of_keeps (h':=j.push { cls:=Äp,Ó:=.seq [å g,.ref i].toArray }) λb o hb _=>(o,p b o hb,rfl);rw[rI];have I5:Inv X d K L { k with Õ:=j.push { cls:=.type "tuple",Ó:=.seq [å g,.ref i].toArray } }:=(O _ a5).unpnd;have P:=I5.kIn;refine Zln (hC.at' P) (A.at' P) (G.at' P) (Ðn j _) (p _ _ tW) uX AO AQ rfl rfl (lE,?_);refine VD N.hB (s:={ k with Õ:=j.push { cls:=.type "tuple",Ó:=.seq [å g,.ref i].toArray } }) (F:=ah) b5 a5 c5 λh4 a4 b4 c4=>?_;have I4:#[fQ,d,K,L,k,h4]:=(O h4 a4).unpnd;refine aS (u6 e d _ _ _ _ (I4.mkd e) dH) #[io,f,s6,q] λ_ _ z=>z;cases f with
 | next=>obtain Q|R|S|U:=q;exact(Q,R,S.unmkd Ŷ,U)
 | brk=>obtain _|_|_|z:=q;exact ÂK
 | Γ=>obtain _|_|_|z:=q;exact ÂK
 | ret u=>obtain v|Q|R|S|r7|U:=q;exact(v,Q,R,S.unmkd Ŷ,r7,U)
universe E
def ZwJ(a:TE):TE:=λb H Q=>a b H λv c=>∃x,v=.str x/\ľ<=aq/\Q (.str x) c
theorem Po{X:Cx}{e:aL}{b:TE}{pos:Pos}(he:PE X e b):PE X Ùn (ZwJ b):=by intro c s d H Q I h;refine Ùo #[t5,he,c,d,u,s1];obtain v|f|g|r|x|rfl|i|q:=a;obtain tk|rfl:=#[fh,tk,Âj,x,r];exact formatField_str (λt' tk=>(.str x,f,g.tok _,ā,q)) i
section
variable {è:aA} {w:aF} {A:aE} {E:ae->ak->Prop} {s:ak}
theorem Zow{l:af}{a:Â4}{Q:À ae->ak->Prop}(hl:ÑE l a)(q:Ãa)(hn:0<Çr)(hz:Çr<=16384)
  (h:∀ (c:aJ) (tk:Nat),#[tS,É7]->Q (Íw 1++[.ref Ãi]++[]) { s with Õ:=É8 { cls:=.type "list",Ó:=.seq (É5 1).toArray },õ:=tk }) :
  av Ð A (unpackItems Ŋ 2 (aa 1)) Q E s:=by
 have f:l≠Ò:=by obtain o|r|_:=hl;exact QG (Ql r)
 unfold unpackItems;refine ai ?_;unfold notIterableAtAll;refine ai (ØI hl.typeIs slot_list_iter.lookup ?_);refine aw ?_;simp only[Äk,Âw];refine ai (aT (cQ hl ?_));refine ai (aT (PySem.W.kun_draw f 1 0 _ _ Åq (hl.push _) Á λm g n=>?_));have p:m.IsList l a:=(hl.push _).extBut n.extBut f;rw[Nat.zero_add]at g;have t:=g;obtain oi|i|_:=t;have v:=p;obtain ol|x|_:=v;rw[ÒF];have y:(Íw 1).length=1:=by rw[Qx,Qae];lia
 rw[È (show ¬ ((Íw 1).length<1) by rw[y];lia)];refine ai (aT (PySem.W.kun_collect (s:=#[hx,s,m]) (T := "list_iterator") ÅY (Walks.list (A:=A.in1) q Ò l f a) (λj u st=>st.1.typeIs) (k:=1) Á (g,p) (Ql i) (Ql x) #[io,c,tk,z] #[fH,aO]));have B:#[bC].length=Çr-1:=by rw[QL,Qae]
 show av _ _ (if #[bC].length<2-1-1 then _ else _) _ _ _;rw[uR];show av _ _ (Ìr (#[bC].take Íx) >>= λd=>pure (Íw 1++[d]++#[bC].drop Íx)) _ _ _;have C:#[bC].take Íx=É5 1:=Qy ò;have D:#[bC].drop Íx=[]:=List.drop_of_length_le ò;rw[C,D];have F:#[iP,í,É7]:=λb o e=>z b o (QG (Ql e)) (n.extBut b o (QG (Ql e)) (Qc _ e));exact ai (bO (aw (h c tk F)) (by show (É5 1).length<=aq;rw[B,aO];lia))
universe E
def Zwo(K:Ä)(t:TGs):TG:=λv a H Q=>X3 λp x xs=>C4 (v=.ref p) (SqL K H p (x::xs)) (Ö<16384) (∀l,H l=ah->t [x,.ref l] a (upd H l Àt) Q)
section
variable {X:Cx}
theorem ZpF{e:aL}{p:Pos}{t:TG}(h1:PG X e t)(hs:(bW [.Starred e p] Ì).map Ĩ=[Âo e Ì]:=by rfl):PGs X [.Starred e p] (LW t LX):=by
 rw[iB,a,b,vs];obtain v|vr|c|h:=h;subst c;cases r with
 | Ñ r d=>rw[hs];refine ÔY (thn (h1 a s b H _ _ _ I r h) ?_);rintro _ s1 ⟨f,g,i,j⟩;rw[e2,k,l,j];subst k;cases d;exact ÔX (f,g,i,l)
theorem Ztf{d:ĭ}{k:Nat}{pos:Pos}{t:TGs}{K:Ä}(h:PGs X d t)(p:X.K=K:=by rfl)(hc:Ÿ:=by rfl)(hn:(bW d Ì).length=2:=by rfl)(q:(bW d Ì).findIdx? ċ=aa 1:=by rfl):PG X (.Tuple d k pos) (Zwo K t):=by
 subst p;intro f s g H v u Q I r hw;obtain a|x|i|w|y|hl|hw:=hw;subst w;cases r;rw[gn,j,z,hz,y];have l:=ÀR;rw[assign_Tuple];refine ai (bK ?_);unfold unpack;rw[hn,q];rw[QE]at l;have hsz:Ât=ÈU+1:=by simpa using l.symm
 refine ai (aT (Zow z.isList Â3 Á Á λc tk A=>?_));cases j with
 | Ñ B C=>rename_i u m;have n:Inv X f g H { s with Õ:=c,õ:=tk }:=Âp (t':=tk) λb o e=>A b o e;have D:H Ãi=ah:=n.hok.fresh ò;have E:Inv X f g (upd H Ãi (.lst i)) { s with Õ:=É8 { cls:=.type "list",Ó:=.seq ((u::m).toArray.toList.drop 1).toArray },õ:=tk }:=n.laid (t':=tk) #[hX,b,o,e] ò (by rw[aO];lia,m,_,C,Qs _ rfl);exact h f _ g _ [x,.ref Ãi] [u,.ref Ãi] Q E (.cons B Ðf) (hw _ D)
universe E
universe E.L2
namespace L2
open PySem PyProof.Rows
theorem Zvb{X:Cx}{k j:Nat}{C:af}{x:am}{ps:Ï}{sp:Sp}{p pos:Pos}(F:#[go,Cf,x])(hr:ÂC)(a:k+1<=j:=by decide)(c:ő:=by rfl)(d:Ĵ:=by decide) :
  PE X Õy (S4 C sp [] E0 UH):=by
 rw[tl,g,b,e];exact ZrF g F (Âq a) c e b .nil UF d
universe E.L2
namespace L2
open PySem PySem.Spec PyProof.Rows
section
variable {X:Cx}
theorem WG{x z:am}{pos:Pos}(hm:∃tk,ė x=aa (.str z tk))(a:ő:=by rfl)(hd:Ĵ:=by decide):PE X ÀQ (tC ÀT):=by obtain tk|h:=hm;exact Ma a h (tk,rfl) hd
universe E
theorem YD{K:Ä}{t:af}{od:ú}{its:Â4}{n:Nat}{sl:ġ}{xs:ă}(h:Ā t=aa (.type "tuple",od,.seq its n,sl))(hs:its.size<=100)(v:ZF xs ÈN):∀H,SqT K H t xs :=
 λ_=>.inr (_,its,n,h,rfl,rfl,Qj hs Ñj,v)
def Zxm(t u:TE):TE:=λa H Q=>t a H Q\/u a H Q
theorem JI{X:Cx}{e:aL}{t u:TE}(h1:PE X e t)(h2:PE X e u):PE X e (Zxm t u):=λa s b H Q I h=>Or.elim h (h1 a s b H Q I) (h2 a s b H Q I)
theorem Wv(K:Ä){X:Cx}{e:aL}{f:am}{pos:Pos}{a:TE}(he:PE X e a)(hb:#[fM,e,f])(b:X.K=K:=by rfl):PE X Ï6 (Lw K a f):=by subst b;exact ZH he hb
universe E.L2
namespace L2
open PySem PyProof.Rows
universe E.L2
namespace L2
open PySem PySem.Builtin PySem.Builtin.Str PyProof.Rows
universe E.L2
namespace L2
open PySem PyProof.Rows
def JH:À V->Hp->VK->Prop:=λvs H Q=>X2 λ(x:am) (n:Int)=>C4 #[jf,x] (ľ<=640) (PySem.intText? x=aa n) (Q ÅT H)
theorem JG{X:Cx}:YS X ÈV JH:=by intro aj s σ H xs us Q I r h;obtain x|n|rfl|a|b|q:=h;obtain u|rfl|t|rfl:=Xy r;exact PySem.W.KIN.call_text b a #[t1,n,q]
variable {X:Cx}
def Zw1:R2:=λx y H Q=>X2 λ(c:Nat) (j:am)=>C3 (x=.str Ũ) (y=.str j) (Q (.bl (decide (c∈ÏQ))) H)
theorem inS:OpR X Ås Zw1:=by intro a s b H x y v u Q I d e h;obtain c|j|rfl|rfl|q:=h;refine ZoJ a s b H _ _ v u Q I d e #[sH,_,?_];rw[PySem.StrLaws.found_one];exact q
variable {X:Cx}
def Zur:V->À V->Hp->VK->Prop:=λx vs H Q=>X4 λ(D a:af) (kvs Ğ:À (Key×V))=>C8 (x=.ref D) #[gh,a] (H D=aa ÁB) (H a=aa (.dK Ğ)) (D≠a) (ÑS<=1000) (Ă<=100000) (Q .non (upd H D (.dK (WP kvs Ğ))))
theorem JF:MtM X "dict.update" Zur:=by
 rw[gK,vs,us,p,r];obtain D|a|c|Ğ|rfl|rfl|j|t|g|hn|xg|q:=h;cases p;rw[je,u,w,r.one];cases w;obtain z|i|k|d|l:=UB é j;obtain z2|f|m|o|y:=UB é t;have A:k.length=ë:=d.length.symm;have B:Ì1=ÑS:=o.length.symm;refine Çq ØK l.typeIs PySem.F.entry_dict_update (PySem.F.args_dict_update_2 _ _) (PySem.meets_dict_update Áa D a g f) (k,m,l,y,(by rw[A,B];exact Qj Á ÙK),λC hd _ E=>?_);have F:(WP c Ğ).length<=aq:=by have:=Pu Ğ c;exact Qj Á ÙK
 have G:∃q,C.get? D=aa q:=let ⟨q,_,_,J,_⟩:=hd;(q,J);exact(.non,_,Â7 (x:=D) (e:=D) (t':=ļ) #[sD,j] Đ #[tk,u,n,K,E.2] G (TW F i (o.merge d) hd),rfl,q)
def JE(K:Ä):R2:=λx y H Q=>X4 λ(l:af) (xs:À V) (ds:À aQ) (d:aQ)=>C8 (y=.ref l) (SqT K H l xs) (DVs K H xs ds) (DV K H x d) (aQ.canLayAll0 ds=true) (SeqAt.shaped d=true) (ÌL<=60) (Q (.bl (ds.any λe=>aQ.eqv e d)) H)
theorem Zsc(hu:ÉV):OpR X Ås (JE X.K):=by intro aj s σ H x y v u Q I b c h;obtain l|xs|ds|d|rfl|e|a|hd|f|g|hdep|q:=h;obtain as|i:=I.reads (.tup e a) c;obtain bs|j:=I.reads hd b;exact SeqAt.in_tuple_reads i j f (SeqAt.canLay_of_shaped g) (by have:=Nat.min_le_right (aQ.depthAll ds) ÌL;lia) (.bl _,H,I,rfl,q)
theorem Zxr{X:Cx}(K:Ä){k:Nat}(hr:ν)(h:X.K=K:=by rfl):OpR X Ås (JE K):=by subst h;exact Zsc Æ1
def ZvU(K:Ä):À V->Hp->VK->Prop:=λvs H Q=>X6 λ(e C:af) (a:Ã af) (c:af) (d:À af) (b:Ê)=>C9 #[it,e,c] (H e=aa (exO e C a)) (XG K C) ÙA (H c=aa (.tup (ÀE ø))) (Êf K ã (ÀE å)=aa b) ÙB ÙC (Q (.bl b) H)
theorem Zp7{a:Š}:∀ {us:À ae},ZF (Ão ø) us->us=Ão å:=by
 induction a with
 | nil=>intro us r;rw[gv,Qa9,r,r];rfl
 | Ñ y ys b =>
  intro us r;rw[Qh]at r;cases r with
  | Ñ c d=>rw[show _=å y from c,b d];rfl
theorem Zxs(K:Ä)(a:X.K=K:=by rfl):YS X È3 (ZvU K):=by subst a;intro aj s σ H vs us Q I r h;obtain e|C|dd|c|d|b|rfl|f|g|hd|i|j|k|l|q:=h;obtain u|w'|rfl|m|o:=S7 r;cases o;obtain rfl:u=å e:=m;obtain _|its|p|⟨t,v,w,n,x⟩:=é c _ i;have y:=Zp7 p;subst y;obtain A|od|B|sl:=t;have D:A=Ëd "tuple":=w;have E:B=Data.seq (ÀE å).toArray n:=x;subst D;subst E;exact PySem.W.kia_tup (JS g k l) ĵ (JR I f hd) v j Àw λtk=>(.bl b,H,ř _,rfl,q)
theorem Zqq{K:Ä}{t a b c:ae}(h1:#[te,a])(h2:#[te,b])(d:#[te,c]):Êf K t [a,b,c]=aa false:=by unfold Êf;rw[h1];unfold Êf;rw[h2];unfold Êf;rw[d];rfl
universe E.L2
set_option maxHeartbeats 9000000
namespace My
open PySem L2 PyProof.Rows
abbrev YZ:=@List.tail aK
abbrev YV(x:Ţ):=YZ (YZ x)
abbrev YR(x:Ţ):=YV (YV x)
abbrev YY(x:Ţ):=YR (YR x)
abbrev ĸ(x:Ţ):=YY (YY x)
abbrev Κ(x:Ţ):=ĸ (ĸ x)
abbrev ŕ(x:Ţ):=Κ (Κ x)
local macro_rules|`(‹$i:num›)=>`(@pv _ $i _ _ (by rfl) (Or.inl rfl) (by decide) (by decide))
local macro_rules|`(tactic|trivial)=>`(tactic|first|exact .inl rfl|exact .inr rfl|decide|exact Nat.le_refl _|lia)
def hdS:À aK->aK
 | a::_=>a
 | []=>.Pass (0,0,0,0)
abbrev ZK:À aK:=PySem.Challenge.pw_mergetree_k51_rows_not_so_written.main.body
abbrev ZiD:aK:=#[sM,YR,YZ]
abbrev Zmm:aK:=#[sM,YR,YV]
abbrev Sx:aK:=#[gN,ĸ,YR,YV]
abbrev Xv:aK:=hdS (ĸ ÄL)
abbrev Ztx:aK:=#[sM,ŕ,YZ]
abbrev Pn:aK:=hdS (YY ZK)
abbrev Pm:aK:=#[sM,YY,YZ]
abbrev Pk:aK:=hdS ÇB
abbrev Pj:aK:=#[sM,YY,YR]
abbrev Pg:aK:=#[gN,YY,YR,YZ]
abbrev Pf:aK:=#[gN,YY,YR,YV]
abbrev Pe:aK:=hdS (YY ÄL)
abbrev Pd:aK:=hdS (ĸ ZK)
abbrev Pc:aK:=#[sM,ĸ,YV]
abbrev Pb:aK:=hdS (ĸ ÅZ)
abbrev Pa:aK:=#[sM,ĸ,YY]
abbrev O9:aK:=#[gN,ĸ,YY,YZ]
abbrev O8:aK:=hdS (ĸ ÇB)
abbrev O7:aK:=#[gN,ĸ,YY,YR]
abbrev O6:aK:=hdS #[s2,YZ]
abbrev O5:aK:=hdS #[s2,YV]
abbrev Sw:aK:=hdS (ĸ (YY ÄL))
abbrev O4:aK:=#[sM,Κ,YZ]
abbrev Uu:aK:=hdS (Κ ÅZ)
abbrev Sv:aK:=#[gN,Κ,YR,YZ]
abbrev O3:aK:=hdS (Κ ÇB)
abbrev Su:aK:=#[gN,Κ,YY,YR]
abbrev O2:aK:=hdS (Κ (ĸ ÅZ))
abbrev O1:aK:=#[gN,Κ,ĸ,YR]
abbrev O0:aK:=#[hL,Κ,YR,YZ]
abbrev OZ:aK:=#[hL,Κ,YR,YV]
abbrev OY:aK:=hdS (Κ (ĸ ÄL))
abbrev OX:aK:=#[gN,Κ,ĸ,YY]
abbrev OW:aK:=#[hL,Κ,YY,YZ]
abbrev OV:aK:=#[hL,Κ,YY,YV]
abbrev Ss:aK:=hdS (Κ (ĸ ÇB))
abbrev OU:aK:=#[sM,ŕ,YV]
abbrev OT:aK:=hdS (ŕ ÅZ)
abbrev TK:aK:=#[sM,ŕ,YR]
abbrev OR:aK:=#[uh,YR,YZ]
abbrev OQ:aK:=#[uh,YR,YV]
abbrev OP:aK:=hdS (ŕ ÄL)
abbrev OO:aK:=#[sM,ŕ,YY]
abbrev ON:aK:=#[uh,YY,YZ]
abbrev OM:aK:=#[uh,YY,YV]
abbrev OL:aK:=hdS (ŕ ÇB)
abbrev OK:aK:=#[uh,YY,YR]
abbrev OJ:aK:=hdS (ŕ #[tc,YZ])
abbrev Sr:aK:=hdS (ŕ #[tc,YV])
abbrev OI:aK:=hdS (ŕ (YY ÄL))
abbrev OH:aK:=#[sM,ŕ,ĸ]
abbrev OG:aK:=#[uh,ĸ,YZ]
abbrev Sq:aK:=#[uh,ĸ,YV]
abbrev TH:aK:=hdS (ŕ (ĸ ÅZ))
abbrev OF:aK:=#[hL,ŕ,YR,YV]
abbrev OE:aK:=hdS (ŕ (ĸ ÄL))
abbrev OD:aK:=#[uh,ĸ,YY]
abbrev So:aK:=#[hL,ŕ,YY,YZ]
abbrev OC:aK:=#[hL,ŕ,YY,YV]
abbrev OB:aK:=hdS (ŕ (ĸ ÇB))
abbrev Sn:aK:=#[hL,ŕ,YY,YR]
abbrev OA:aK:=hdS (ŕ #[s2,YZ])
abbrev Oz:aK:=hdS (ŕ #[s2,YV])
abbrev Oy:aK:=hdS (ŕ (ĸ (YY ÄL)))
abbrev Ox:aK:=#[sM,ŕ,Κ]
abbrev VB:aK:=#[uh,Κ,YZ]
abbrev Z7:aK:=Z9 ZiD 0
abbrev TF:aK:=Z9 Zmm 0
abbrev Ow:aK:=Z9 Sx 0
abbrev Ov:aK:=Z9 Sx 2
abbrev Ou:aK:=Z9 Sx 3
abbrev Ot:aK:=Z9 Sx 4
abbrev Oq:aK:=Z9 Xv 0
abbrev Op:aK:=Z9 Xv 1
abbrev Oo:aK:=Z9 Xv 2
abbrev Om:aK:=Z9 Xv 3
abbrev Sl:aK:=Z9 Xv 4
abbrev Sk:aK:=Z9 Xv 5
abbrev Ol:aK:=Z9 Xv 6
abbrev Oj:aK:=Z9 Xv 7
abbrev Oi:aK:=Z9 Xv 9
abbrev Oh:aK:=Z9 Xv 10
abbrev Og:aK:=Z9 Xv 11
abbrev Of:aK:=Z9 Xv 12
abbrev Oe:aK:=Z9 Xv 13
abbrev Oc:aK:=Z9 Xv 14
abbrev Ob:aK:=Z9 Xv 15
abbrev Oa:aK:=Z9 Xv 16
abbrev N9:aK:=Z9 Xv 17
abbrev N8:aK:=Z9 Ztx 0
theorem JD:Zm ["_law_cell", "_law_k", "_law_m"] Íy (Zi OF):=Û
theorem JC:Zm ["_law_script", "_law_k", "_law_cell"] Íz (Zi OE):=Û
theorem JB:Zm ["_law_left_here", "_law_many", "_law_digit"] ÍA (Zi OD):=Û
theorem N7:Zm ÙL ÄM (Zi Pe):=Û
theorem Zp6:Zm ÂL ÂL (Zi Pj):=Û
theorem Sj:Zm ["row", "told", "place", "key"] ["row"] (Zi Pb):=Û
theorem ZkG:Zm Êg Êg (Zi Pd):=Û
theorem Zry:Zm ÂL ÂL (Zi Pg):=Û
theorem JA:Zm ÙL ÄM (Zi Pf):=Û
theorem Jz:Zm ["keys", "place"] ["keys"] (Zi Pc):=Û
theorem Jy:Zm ["numbers", "middle"] ÄN (Zi Pn):=Û
theorem Zj8:Zm ö ö (Zi Ov):=Û
theorem ZkZ:Zm ö ö (Zi Ou):=Û
theorem Zlz:Zm ÂM ÂM (Zi Ow):=Û
theorem ZfZ:Zm ÇC ÇC (Zi Z7):=Û
theorem Zhk:Zm ÇD ÇD (Zi TF):=Û
theorem Vd:Zm ["numbers", "n", "others", "side", "first", "rest"] ÄO (Zi Pm):=Û
theorem Jx:Zm ["thing", "sign"] Å0 (Zi Pk):=Û
theorem Zhg:Zm ÂM ÂM (Zi Ot):=Û
theorem N6:Zm ["self", "rows", "number", "keys"] ÍB (Zi Oq):=Û
theorem Jw:Zm ÄP ö (Zi Op):=Û
theorem Jv:Zm #[gr,"thing"] ö (Zi Oo):=Û
theorem Ju:Zm ["self", "many", "things"] ÍC (Zi Om):=Û
theorem ZiG:Zm ö ö (Zi Sl):=Û
theorem Zif:Zm ö ö (Zi Sk):=Û
theorem ZfR:Zm ö ö (Zi Ol):=Û
theorem Ziw:Zm ö ö (Zi Oj):=Û
theorem Si:Zm ["self", "row", "number"] ÄP (Zi Oi):=Û
theorem Sh:Zm ["self", "n", "many"] ÁD (Zi Oh):=Û
theorem TC:Zm ["self", "n", "keys", "row", "sent_nothing"] ÇE (Zi Og):=Û
theorem Jt:Zm ÁD ÁD (Zi Of):=Û
theorem Zf7:Zm ö ö (Zi Oe):=Û
theorem VU:Zm ["self", "numbers", "first_side", "other_side", "one", "other", "winner", "loser", "far"] ÍD (Zi Oc):=Û
theorem TB:Zm ["self", "number", "row", "comer", "meeting"] ÍE (Zi Ob):=Û
theorem Tz:Zm ["self", "meeting", "comer", "stayer", "winner", "loser", "far"] ÍF (Zi Oa):=Û
theorem Sg:Zm ["self", "one", "other", "far", "order", "alike_far", "seen"] ÍG (Zi N9):=Û
theorem Sf:Zm ["number", "keys", "place"] Êh (Zi Pa):=Û
theorem Vc:Zm ["numbers", "n", "matches", "least", "greatest", "others"] ÄO (Zi O9):=Û
theorem N5:Zm ["kind", "word", "least", "most"] ÍH (Zi O2):=Û
theorem Zkr:Zm Á4 Á4 (Zi O1):=Û
theorem ZlG:Zm Á4 Á4 (Zi O0):=Û
theorem Js:Zm ["word", "least", "most", "number"] ÍI (Zi OZ):=Û
theorem Jr:Zm ["word", "sign"] Á4 (Zi OY):=Û
theorem ZhD:Zm ["key"] ["key"] (Zi OX):=Û
theorem Zg3:Zm Êi Êi (Zi OW):=Û
theorem Zis:Zm ["words"] ["words"] (Zi OV):=Û
theorem ZfM:Zm ÄN ÄN (Zi Ss):=Û
theorem Zj5:Zm ö ö (Zi N8):=Û
theorem Wh:Zm ["text", "orders", "desk", "answers", "word", "singles", "further", "deed"] Á5 (Zi OU):=Û
theorem Wg:Zm ["text", "orders", "line", "row", "order"] Á5 (Zi OT):=Û
theorem VA:Zm ÒG ["row"] (Zi TK):=Û
theorem Zf0:Zm Êj Êj (Zi OR):=Û
theorem Jq:Zm #[iU,"keys","name"] Àl (Zi OQ):=Û
theorem Jp:Zm #[iU,"keys","name"] Àl (Zi OP):=Û
theorem Jo:Zm #[iU,"further","name"] Ĺ (Zi OO):=Û
theorem ZkY:Zm Ĺ Ĺ (Zi OM):=Û
theorem Jn:Zm ÒH ÒI (Zi TH):=Û
theorem Jm:Zm #[iU,"further","thing"] Ĺ (Zi ON):=Û
theorem Zly:Zm Ĺ Ĺ (Zi OL):=Û
theorem ZkM:Zm Ĺ Ĺ (Zi OJ):=Û
theorem Zgq:Zm ÇF ÇF (Zi Sq):=Û
theorem ZiL:Zm Ĺ Ĺ (Zi OK):=Û
theorem ZmB:Zm ÇG ÇG (Zi So):=Û
theorem Zgu:Zm ÇH ÇH (Zi OC):=Û
theorem Se:Zm ["_law_sort", "_law_word", "_law_letters", "_law_least", "_law_most"] ÍJ (Zi OB):=Û
theorem Vb:Zm ÙM ÍK (Zi Sn):=Û
theorem Sd:Zm ÙN ÇI (Zi OA):=Û
theorem Wu:Zm ÙN ÇI (Zi Oz):=Û
theorem N4:Zm ["_law_rows", "_law_line", "_law_row"] ["_law_rows"] (Zi Ox):=Û
theorem Zkb:Zm Å0 Å0 (Zi O4):=Û
theorem ZjN:Zm ["things", "runs", "tree", "parts", "rows"] ÍL (Zi O3):=Û
theorem Vz:Zm ÙO ÍM (Zi Sv):=Û
theorem N3:Zm ÙP Êk (Zi Sw):=Û
theorem Jl:Zm ["groves", "alone", "begin", "end", "most", "cut"] ÍN (Zi O5):=Û
theorem N0:Zm ["groves", "sizes", "ways", "begin", "end", "price", "parts"] ÍO (Zi O6):=Û
theorem Va:Zm ["sizes", "ways", "groves", "many", "begin", "end", "alone", "most"] ÁE (Zi O7):=Û
theorem NZ:Zm ["sizes", "ways", "price", "trees"] ÁE (Zi O8):=Û
theorem Sc:Zm ÙQ ÍP (Zi Su):=Û
theorem Wf:Zm ÍQ ÁE (Zi Uu):=Û
theorem Jk:Zm #[iU,"keys","runs"] Àl (Zi Sr):=Û
theorem NY:Zm ["desk", "singles", "keys", "numbers", "cost"] Àl (Zi OI):=Û
theorem Zlo:Zm ÂN ÂN (Zi OH):=Û
theorem ZkK:Zm ÂN ÂN (Zi OG):=Û
theorem U9:Zm ["_law_text", "_law_caught_here", "error"] ["_law_text"] (Zi Oy):=Û
theorem Ut:Zm ÙR ÍR (Zi VB):=Û
abbrev zsc(l:#[hG,aY]):bn:={ kind:=.function,ÁX:=l,isGenerator:=false,isCoroutine:=false,Ğ:=[] }
def ZsT:bn:=zsc [Ψ,ÍS]
theorem NX:Z1 ö ÄP (Zi Sl) ZsT:=Ω
def Ztv:bn:=zsc [Ψ,Êl,ÍS]
theorem Tx:Z1 ö ["self", "number", "row"] (Zi Sk) Ztv:=Ω
def ZsW:bn:=zsc [Ψ,Êl,#[hZ,"str"]]
theorem NW:Z1 ÄN ["numbers", "number"] (Zi Ss) ZsW:=Ω
def ZsU:bn:=zsc [Ψ,#[ft,"kind"],#[ft,"word"],#[hZ,"read_word"]]
theorem Us:Z1 ÒG ["row", "first", "others", "single_kinds", "further_kind", "many", "singles", "further", "kind", "word"] (Zi TK) ZsU:=Ω
def Zto:bn:=zsc [Ψ,#[ft,"word"],#[hZ,"read_word"],("further_kind",.free,)]
theorem Tw:Z1 ÒG ["row", "first", "others", "single_kinds", "further_kind", "many", "singles", "further", "word"] (Zi TK) Zto:=Ω
def Ztn:bn:=zsc [Ψ,#[ft,"name"],Êl]
theorem Tv:Z1 ÒH ["desk", "heads", "names", "name", "number"] (Zi TH) Ztn:=Ω
def Zsg:bn:=zsc [Ψ,ÍS,#[ft,"key"],#[hZ,"written_thing"],("names",.free,)]
theorem U8:Z1 ÒH ["desk", "heads", "names", "row", "key"] (Zi TH) Zsg:=Ω
def Zr0:bn:=zsc [Ψ,ÍS,#[ft,"place"],#[ft,"key"]]
theorem Ur:Z1 ÇF ["desk", "things", "row", "place", "key"] (Zi Sq) Zr0:=Ω
def ZsP:bn:=zsc [Ψ,#[ft,"_law_sign"],("_law_signs",.free,)]
theorem Sb:Z1 ÇG ["_law_word", "_law_signs", "_law_most", "_law_sign"] (Zi So) ZsP:=Ω
def ZsZ:bn:=zsc [Ψ,#[ft,"_law_sort"],#[ft,"_law_word"],#[hZ,"_law_word_fits"]]
theorem Uq:Z1 ÙM ["_law_row", "_law_words", "_law_forms", "_law_sorts", "_law_told", "_law_least", "_law_sort", "_law_word"] (Zi Sn) ZsZ:=Ω
def ZqQ:bn:=zsc [Ψ,Êl,("things",.free,)]
theorem Tu:Z1 ÙO ["things", "room", "inside", "next_in", "runs", "goer", "run", "key", "?number", "number"] (Zi Sv) ZqQ:=Ω
def Zrv:bn:=zsc [Ψ,#[ft,"middle"],("begin",.free,),("end",.free,),("groves",.free,),("most",.free,)]
theorem We:Z1 ÙP ["groves", "begin", "end", "most", "price", "?middle", "middle"] (Zi Sw) Zrv:=Ω
def ZqM:bn:=zsc [Ψ,#[ft,"run"],#[hZ,"len"]]
theorem Sa:Z1 ÙQ ["things", "room", "ways", "runs", "cost", "tree", "run"] (Zi Su) ZqM:=Ω
def ZrU:bn:=zsc [Ψ,Êl,#[ft,"size"]]
theorem Tt:Z1 ÍQ ["sizes", "ways", "there", "trees", "cost", "many", "together", "?size", "number", "size"] (Zi Uu) ZrU:=Ω
def ZpZ:bn:=zsc [Ψ,#[ft,"each"]]
theorem NV:Z1 ÍQ ÙS (Zi Uu) ZpZ:=Ω
def ZrA:bn:=zsc [Ψ,#[ft,"each"],("trees",.free,)]
theorem R9:Z1 ÍQ ÙS (Zi Uu) ZrA:=Ω
def Zp5:bn:=zsc [Ψ,#[ft,"numbers"],#[hZ,"written_numbers"]]
theorem R8:Z1 #[iU,"keys","runs"] ["desk", "singles", "keys", "runs", "numbers"] (Zi Sr) Zp5:=Ω
def Zre:bn:=zsc [Ψ,#[ft,"_law_turn"],#[hZ,"_law_good"],("_law_left_here",.free,)]
theorem R7:Z1 ÙR ["_law_script", "_law_k", "_law_left_here", "_law_rows", "?_law_turn", "_law_due", "_law_turn"] (Zi VB) Zre:=Ω
structure Bt (mg:Ą):Prop where
 n_ValueError:mg "ValueError" = ah
 n_abs:mg "abs" = ah
 n_all:mg "all" = ah
 n_bool:mg "bool" = ah
 n_enumerate:mg "enumerate" = ah
 n_int:mg "int" = ah
 n_isinstance:mg "isinstance" = ah
 n_len:mg "len" = ah
 n_list:mg "list" = ah
 n_max:mg "max" = ah
 n_min:mg "min" = ah
 n_range:mg "range" = ah
 n_sorted:mg "sorted" = ah
 n_str:mg "str" = ah
 n_sum:mg "sum" = ah
 n_tuple:mg "tuple" = ah
 n_zip:mg "zip" = ah
structure ZM (K:Ä) (mg:Ą) (ax:af) (ao:af) (aB:af) (ar:af) (aH:af) (aD:af) (ap:af) (au:af):Prop where
 b:Bt mg
 t_halves:Top K mg "halves" Pn ÄN
 t_way_up:Top K mg "way_up" Pm ÄO
 t_is_key:Top K mg "is_key" Pk Å0
 t_alike:Top K mg "alike" Pj ÂL
 t_liken:Top K mg "liken" Pg ÂL
 t_liken_from:Top K mg "liken_from" Pf ÄM
 t_alike_from:Top K mg "alike_from" Pe ÄM
 t_order_at:Top K mg "order_at" Pd Êg
 t_first_break:Top K mg "first_break" Pc ["keys"]
 t_alikes:Top K mg "alikes" Pb ["row"]
 t_refuse_break:Top K mg "refuse_break" Pa Êh
 t_matches_up:Top K mg "matches_up" O9 ÄO
 t_near_plan:Top K mg "near_plan" O8 ÁE
 t_least_groves:Top K mg "least_groves" O7 ÁE
 t_least_tree:Top K mg "least_tree" O6 ÍO
 t_least_grove:Top K mg "least_grove" O5 ÍN
 t_least_cut:Top K mg "least_cut" Sw Êk
 t_is_number:Top K mg "is_number" O4 Å0
 t_free_plan:Top K mg "free_plan" Uu ÁE
 t_runs_of:Top K mg "runs_of" Sv ÍM
 t_merged_by:Top K mg "merged_by" O3 ÍL
 t_sort_by:Top K mg "sort_by" Su ÍP
 t_read_word:Top K mg "read_word" O2 ÍH
 t_read_name:Top K mg "read_name" O1 Á4
 t_read_key:Top K mg "read_key" O0 Á4
 t_read_number:Top K mg "read_number" OZ ÍI
 t_are_figures:Top K mg "are_figures" OY Á4
 t_written_key:Top K mg "written_key" OX ["key"]
 t_written_thing:Top K mg "written_thing" OW Êi
 t_with_blanks:Top K mg "with_blanks" OV ["words"]
 t_written_numbers:Top K mg "written_numbers" Ss ÄN
 t_run:Top K mg "run" OU Á5
 t_orders_in:Top K mg "orders_in" OT Á5
 t_order_in:Top K mg "order_in" TK ["row"]
 t_may_be_further:Top K mg "may_be_further" OR Êj
 t_do_row:Top K mg "do_row" OQ Àl
 t_do_grow:Top K mg "do_grow" OP Àl
 t_do_drop:Top K mg "do_drop" OO Ĺ
 t_ask_coming:Top K mg "ask_coming" ON Ĺ
 t_ask_take:Top K mg "ask_take" OM Ĺ
 t_ask_left:Top K mg "ask_left" OL Ĺ
 t_ask_counts:Top K mg "ask_counts" OK Ĺ
 t_ask_rows:Top K mg "ask_rows" OJ Ĺ
 t_ask_runs:Top K mg "ask_runs" Sr Àl
 t_ask_sort:Top K mg "ask_sort" OI Àl
 t_ask_free:Top K mg "ask_free" OH ÂN
 t_ask_near:Top K mg "ask_near" OG ÂN
 t_written_things:Top K mg "written_things" Sq ÇF
 t_written_heads:Top K mg "written_heads" TH ÒI
 t_l_mix:Top K mg "_law_mix" OF Íy
 t_l_left:Top K mg "_law_left" OE Íz
 t_l_pick:Top K mg "_law_pick" OD ÍA
 t_l_is_of:Top K mg "_law_is_of" So ÇG
 t_l_number_fits:Top K mg "_law_number_fits" OC ÇH
 t_l_word_fits:Top K mg "_law_word_fits" OB ÍJ
 t_l_fits:Top K mg "_law_fits" Sn ÍK
 t_l_good:Top K mg "_law_good" OA ÇI
 t_l_bad:Top K mg "_law_bad" Oz ÇI
 t_l_caught:Top K mg "_law_caught" Oy ["_law_text"]
 t_l_first_bad:Top K mg "_law_first_bad" Ox ["_law_rows"]
 t_OutOfOrder_init:Ux K mg ap ar "OutOfOrder" "OutOfOrder.__init__" Z7 ÇC
 t_BadLine_init:Ux K mg au ar "BadLine" "BadLine.__init__" TF ÇD
 t_Row_init:Uz K mg ax "Row" "Row.__init__" Ow ÂM
 t_Row_to_go:Yn K ax "to_go" "Row.to_go" Ov ö
 t_Row_head:Yn K ax "head" "Row.head" Ou ö
 t_Row_lengthen:Yn K ax "lengthen" "Row.lengthen" Ot ÂM
 t_Merge_init:Uz K mg ao "Merge" "Merge.__init__" Oq ÍB
 t_Merge_coming:Yn K ao "coming" "Merge.coming" Op ö
 t_Merge_take:Yn K ao "take" "Merge.take" Oo ö
 t_Merge_take_few:Yn K ao "take_few" "Merge.take_few" Om ÍC
 t_Merge_left:Yn K ao "left" "Merge.left" Sl ö
 t_Merge_heads:Yn K ao "heads" "Merge.heads" Sk ö
 t_Merge_likenings:Yn K ao "likenings" "Merge.likenings" Ol ö
 t_Merge_looks:Yn K ao "looks" "Merge.looks" Oj ö
 t_Merge_add_row:Yn K ao "add_row" "Merge.add_row" Oi ÄP
 t_Merge_drop_row:Yn K ao "drop_row" "Merge.drop_row" Oh ÁD
 t_Merge_grow:Yn K ao "grow" "Merge.grow" Og ÇE
 t_Merge_row_of:Yn K ao "row_of" "Merge.row_of" Of ÁD
 t_Merge_play_all:Yn K ao "play_all" "Merge.play_all" Oe ö
 t_Merge_play:Yn K ao "play" "Merge.play" Oc ÍD
 t_Merge_send_out:Yn K ao "send_out" "Merge.send_out" Ob ÍE
 t_Merge_play_again:Yn K ao "play_again" "Merge.play_again" Oa ÍF
 t_Merge_meet:Yn K ao "meet" "Merge.meet" N9 ÍG
 t_Desk_init:Uz K mg aB "Desk" "Desk.__init__" N8 ö
 cl_Row:Cls K ax
 na_Row_all_keys:Yt K ax "all_keys"
 na_Row_fars:Yt K ax "fars"
 na_Row_gone:Yt K ax "gone"
 cl_Merge:Cls K ao
 na_Merge_best:Yt K ao "best"
 na_Merge_likened:Yt K ao "likened"
 na_Merge_looked:Yt K ao "looked"
 na_Merge_next_number:Yt K ao "next_number"
 na_Merge_rows:Yt K ao "rows"
 na_Merge_stays:Yt K ao "stays"
 cl_Desk:Cls K aB
 na_Desk_merge:Yt K aB "merge"
 na_Desk_numbers:Yt K aB "numbers"
 g_DONE:∃tk,mg "DONE" = aa (.str "done" tk)
 g_MOST_FIGURES:∃tk,mg "MOST_FIGURES" = aa (.int 9 tk)
 g_MOST_KEY:∃tk,mg "MOST_KEY" = aa (.int 40 tk)
 g_MOST_NAME:∃tk,mg "MOST_NAME" = aa (.int 8 tk)
 g_MOST_ROWS:∃tk,mg "MOST_ROWS" = aa (.int 16 tk)
 g_MOST_SIZES:∃tk,mg "MOST_SIZES" = aa (.int 12 tk)
 g_NOTHING:∃tk,mg "NOTHING" = aa (.str "-" tk)
 g_REFUSED:∃tk,mg "REFUSED" = aa (.str "refused" tk)
 m_MergeError:mg "MergeError" = aa ÄQ
 m_Full:mg "Full" = aa Ŀ
 m_NoRow:mg "NoRow" = aa ŀ
 m_OutOfOrder:mg "OutOfOrder" = aa ı
 m_BadLine:mg "BadLine" = aa ī
 x_Full:W9 K aH ÇJ
 x_MergeError:W9 K ar YE
 x_OutOfOrder:W9 K ap ÇJ
 xb_MergeError:XB K ar
 na_OutOfOrder_row:Yt K ap "row"
 na_OutOfOrder_place:Yt K ap "place"
 na_BadLine_line:Yt K au "line"
 xw_Full:XW K mg aH ar "Full"
 xw_NoRow:XW K mg aD ar "NoRow"
 xg_Full:XG K aH
 ki_Full_MergeError:Ď K Ŀ ÄQ=aa true
 ki_Full_Full:Ď K Ŀ Ŀ=aa true
 ki_Full_NoRow:Ď K Ŀ ŀ=aa false
 ki_Full_OutOfOrder:Ď K Ŀ ı=aa false
 ki_Full_BadLine:Ď K Ŀ ī=aa false
 ki_Full_V:Ď K Ŀ ÁC=aa true
 xg_NoRow:XG K aD
 ki_NoRow_MergeError:Ď K ŀ ÄQ=aa true
 ki_NoRow_Full:Ď K ŀ Ŀ=aa false
 ki_NoRow_NoRow:Ď K ŀ ŀ=aa true
 ki_NoRow_OutOfOrder:Ď K ŀ ı=aa false
 ki_NoRow_BadLine:Ď K ŀ ī=aa false
 ki_NoRow_V:Ď K ŀ ÁC=aa true
 xg_OutOfOrder:XG K ap
 ki_OutOfOrder_MergeError:Ď K ı ÄQ=aa true
 ki_OutOfOrder_Full:Ď K ı Ŀ=aa false
 ki_OutOfOrder_NoRow:Ď K ı ŀ=aa false
 ki_OutOfOrder_OutOfOrder:Ď K ı ı=aa true
 ki_OutOfOrder_BadLine:Ď K ı ī=aa false
 ki_OutOfOrder_V:Ď K ı ÁC=aa true
 xg_BadLine:XG K au
 ki_BadLine_MergeError:Ď K ī ÄQ=aa true
 ki_BadLine_Full:Ď K ī Ŀ=aa false
 ki_BadLine_NoRow:Ď K ī ŀ=aa false
 ki_BadLine_OutOfOrder:Ď K ī ı=aa false
 ki_BadLine_BadLine:Ď K ī ī=aa true
 ki_BadLine_V:Ď K ī ÁC=aa true
 kg:ÆJ K Ãz "__get__" = aa (aa Ío)
 kt:ÒJ K Ãz=aa true
structure Wd (K:Ä) (w:aF) (mg:Ą) (bi:af) (aU:af) (ç:af):Prop where
 m_BOUNDS:mg "BOUNDS" = aa (.ref bi)
 kd_BOUNDS:KD K w bi
 d_BOUNDS_room:∃dR:af,ô K bi "room" = aa #[g0,dR]/\#[ui,dR,1,16]
 d_BOUNDS_ways:∃dS:af,ô K bi "ways" = aa #[g0,dS]/\#[ui,dS,2,6]
 d_BOUNDS_size:∃dU:af,ô K bi "size" = aa #[g0,dU]/\#[ui,dU,0,999999999]
 d_BOUNDS_many:∃dW:af,ô K bi "many" = aa #[g0,dW]/\#[ui,dW,0,1000000]
 m_DEEDS:mg "DEEDS" = aa (.ref aU)
 kd_DEEDS:KD K w aU
 d_DEEDS_row:∀f,mg "do_row" = aa Ĉ->ô K aU "row" = aa ŉ
 d_DEEDS_grow:∀f,mg "do_grow" = aa Ĉ->ô K aU "grow" = aa ŉ
 d_DEEDS_drop:∀f,mg "do_drop" = aa Ĉ->ô K aU "drop" = aa ŉ
 d_DEEDS_coming:∀f,mg "ask_coming" = aa Ĉ->ô K aU "coming" = aa ŉ
 d_DEEDS_take:∀f,mg "ask_take" = aa Ĉ->ô K aU "take" = aa ŉ
 d_DEEDS_left:∀f,mg "ask_left" = aa Ĉ->ô K aU "left" = aa ŉ
 d_DEEDS_counts:∀f,mg "ask_counts" = aa Ĉ->ô K aU "counts" = aa ŉ
 d_DEEDS_rows:∀f,mg "ask_rows" = aa Ĉ->ô K aU "rows" = aa ŉ
 d_DEEDS_runs:∀f,mg "ask_runs" = aa Ĉ->ô K aU "runs" = aa ŉ
 d_DEEDS_sort:∀f,mg "ask_sort" = aa Ĉ->ô K aU "sort" = aa ŉ
 d_DEEDS_free:∀f,mg "ask_free" = aa Ĉ->ô K aU "free" = aa ŉ
 d_DEEDS_near:∀f,mg "ask_near" = aa Ĉ->ô K aU "near" = aa ŉ
 m_FORMS:mg "FORMS" = aa (.ref ç)
 kd_FORMS:KD K w ç
 d_FORMS_row:X2 λdX fS:af=>ô K ç "row" = aa #[g0,fS]/\#[hC,dX,"name"]/\#[hk,fS,dX,"key"]
 d_FORMS_grow:X2 λc9 fb:af=>ô K ç "grow" = aa #[g0,fb]/\#[hC,c9,"name"]/\#[hk,fb,c9,"key"]
 d_FORMS_drop:X2 λdh fc:af=>ô K ç "drop" = aa #[g0,fc]/\#[hC,dh,"name"]/\#[g1,fc,dh]
 d_FORMS_coming:X2 λcE dj:af=>ô K ç "coming" = aa #[g0,dj]/\#[t6,cE]/\#[g1,dj,cE]
 d_FORMS_take:X2 λdk fe:af=>ô K ç "take" = aa #[g0,fe]/\#[hC,dk,"many"]/\#[g1,fe,dk]
 d_FORMS_left:X2 λdr ff:af=>ô K ç "left" = aa #[g0,ff]/\#[t6,dr]/\#[g1,ff,dr]
 d_FORMS_counts:X2 λcG du:af=>ô K ç "counts" = aa #[g0,du]/\#[t6,cG]/\#[g1,du,cG]
 d_FORMS_rows:X2 λdw fg:af=>ô K ç "rows" = aa #[g0,fg]/\#[t6,dw]/\#[g1,fg,dw]
 d_FORMS_runs:X2 λdA fh:af=>ô K ç "runs" = aa #[g0,fh]/\#[hC,dA,"room"]/\#[hk,fh,dA,"key"]
 d_FORMS_sort:X2 λdB fj:af=>ô K ç "sort" = aa #[g0,fj]/\(∀H,SqT K H dB [.str "room",.str "ways"])/\#[hk,fj,dB,"key"]
 d_FORMS_free:X2 λdC fm:af=>ô K ç "free" = aa #[g0,fm]/\#[hC,dC,"ways"]/\#[hk,fm,dC,"size"]
 d_FORMS_near:X2 λdD fo:af=>ô K ç "near" = aa #[g0,fo]/\#[hC,dD,"ways"]/\#[hk,fo,dD,"size"]
 n_FORMS_0:ô K ç "rowa" = aa ah
 n_FORMS_1:ô K ç "Row" = aa ah
 n_FORMS_2:ô K ç "" = aa ah
 n_FORMS_3:ô K ç "x" = aa ah
 n_FORMS_4:ô K ç "take\t1" = aa ah
 n_FORMS_5:ô K ç "left\t" = aa ah
def Yg(H:Hp)(p:af)(c:Int):Prop:=X2 λa b:Int=>H p=aa (.lst [.int a,.int b,.int c])/\0<=c
def But(p:af)(H a:Hp):Prop:=#[g7,H,p,a]
theorem ÒK{p:af}{H d e:Hp}(a:But p H d)(b:But p d e):But p H e:=λc o h n=>b c o (a c o h n) n
theorem But.same{p:af}{H b:Hp}(a:Zu H b):But p H b:=λc o h _=>a c o h
theorem Zf{H:Hp}{p:af}(h:H p=ah)(o:HO):Zu H (upd H p o):=λb u q=>by rw[Ze (Zg q h)];exact q
theorem ń{n:Nat}(h:n<=1000):n<=aq:=QaC (ZD h)
def NU:Sp:=λvs H Q _=>X2 λa k:Int=>C4 (vs=#[fY,a,k]) (-Ã6<k) (k<2 ^ 62) (∀r:Int,0<=r->r<2000000000->Q (.int r) H)
def Jj(K:Ä):Sp:=λvs H Q _=>X3 λ(a:af) (ns:À Int) (k:Int)=>C6 #[gf,a,k] Å1 #[sv,63] (0<=k) (k<100) (∀ (p:af) (b:Hp),H p=ah->Yg b p 0->Zu H b->Q Ś b)
def R6:Sp:=λvs H Q _=>X3 λ(p:af) (c m:Int)=>C6 #[gf,p,m] (Yg H p c) (c<2 ^ 60) (0<m) (m<1000000) (∀ (r:Int) (a:Hp),0<=r->r<m->Yg a p (c+1)->But p H a->Q (.int r) a)
theorem ZuT{ns:Ô}{k:Int}(h0:0<=k)(h:k<(ď:Int)):∃v:Int,atI Τ k=aa (.int v):=by
 have a:ÀA<ď:=by lia
 have b:k=ÍT:=by lia
 have q:atI Τ ÍT=aa (.int ns[ÀA]):=Ya #[jg,a];rw[<- b]at q;exact(_,q)
theorem Ji(b:Ê):-(2 ^ 64)<ÙT/\ÙT<2 ^ 64:=by cases b<;>decide
theorem R5{z:am}{k:Int}(h0:0<=k)(h:k<ÂO):∃c:Nat,Áw[ÀA]? = aa c/\atI Áw k=aa c:=by
 have hl:ÕN:=by simp[Ée]
 have a:ÀA<ÒL:=by lia
 have b:k=ÍT:=by lia
 have q:atI Áw ÍT=aa Áw[ÀA]:=Ya (Qb a);rw[<- b]at q;exact(_,Qb a,q)
theorem Zp2(sep:am)(ys:Ï):(Öu).length<=#[zd].sum+į*Ìt:=by
 have e:Ád sep ys=ÀX sep ys:=by simpa using Íu sep ys
 rw[e];exact StrLaws.join_length_le sep ys
def lcp:À Nat->À Nat->Nat
 | a::r,b::s=>if a=b then lcp r s+1 else 0
 | _,_=>0
theorem Vy:∀ (x y:À Nat),lcp x y<=ľ/\lcp x y<=ÀG
 | [],_=>(Qp _,Qp _)
 | _::_,[]=>(Qp _,Qp _)
 | a::r,b::s=>by
  have h:=Vy r s;unfold lcp;split
  ·exact(QaW h.1,QaW h.2)
  ·exact(Qp _,Qp _)
theorem U7:∀ (x y:À Nat),lcp x y=lcp y x
 | [],[]=>rfl
 | [],_::_=>rfl
 | _::_,[]=>rfl
 | a::r,b::s=>by
  unfold lcp;by_cases h:a=b
  ·rw[Æ h,Æ h.symm,U7 r s]
  ·rw[È h,È λe=>h Åh]
theorem Jh:∀x:À Nat,lcp x x=ľ
 | []=>rfl
 | a::r=>by unfold lcp;rw[Æ rfl,Jh r];rfl
theorem Up(x:ś):lcp x []=0:=by cases x<;>rfl
theorem Êm(x:ś):lcp [] x=0:=by cases x<;>rfl
theorem Jg:∀ (x y:À Nat) (k:Nat),k<=lcp x y->∀a,x[k]? = aa a->y[k]? = aa a->k+1<=lcp x y
 | [],_,k,_,a,h,_=>by simp at h
 | _::_,[],k,_,a,_,h=>by simp at h
 | a::r,b::s,0,_,c,h1,h2=>by simp at h1 h2;unfold lcp;rw[Æ (by rw[h1,h2])];lia
 | a::r,b::s,k+1,h,c,h1,h2=>by
  unfold lcp at h ⊢;by_cases e:a=b
  ·rw[Æ e]at h ⊢;have:=Jg r s k Á c #[eE,h1] #[eE,h2];lia
  ·rw[W];lia
theorem Jf:∀ (x y:À Nat) (k:Nat),k<lcp x y->x[k]? = y[k]?
 | [],_,k,h=>by unfold lcp at h;lia
 | _::_,[],k,h=>by unfold lcp at h;lia
 | a::r,b::s,0,h=>by
  unfold lcp at h;by_cases e:a=b
  ·simp[e]
  ·rw[W];lia
 | a::r,b::s,k+1,h=>by
  unfold lcp at h;by_cases e:a=b
  ·rw[tM,e,h];simpa using Jf r s k Á
  ·rw[W];lia
theorem NT(x y:ś)(k:Nat)(h:k<=lcp x y)(n:ľ<=k\/ÀG<=k\/X2 λa b=>x[k]? = aa a/\y[k]? = aa b/\a≠b):lcp x y=k:=by
 have l:=Vy x y;rcases n with n|n|⟨a,b,c,d,ne⟩
 ·lia
 ·lia
 ·by_cases q:k<lcp x y
  ·have:=Jf x y k q;rw[c,d]at this;exact Î (Qv this) ne
  ·lia
theorem NS:∀ (x y z:À Nat),#[Ap,y,x,z,y]\/#[Ap,y,y,z,x]\/#[Ap,z,x,y,y]
 | [],y,z=>.inr (.inl #[tT,Êm,Êm])
 | x,[],z=>.inl #[tT,Up,Êm]
 | x,y,[]=>.inr (.inr #[tT,Up,Up])
 | a::r,b::s,c::t=>by
  have ih:=NS r s t;unfold lcp;by_cases f:a=b
  ·by_cases d:b=c
   ·rw[Æ f,Æ d,Æ (f.trans d)];lia
   ·rw[Æ f,È d,È λe=>d Ñx];lia
  ·rw[ti,f];by_cases d:b=c
   ·rw[Æ d,È λe=>f Ñy];lia
   ·rw[ti,d];lia
abbrev cds(z:am):À Nat:=Áw
def AZ(z:am):Prop:=∀c∈cds z,97<=c/\c<=122
def R4:Sp:=λvs H Q _=>X2 λx y:am=>C4 #[Aw,x,y] Ên Êo #[jb,lcp]
def R3:Sp:=λvs H Q _=>X3 λ(x y:am) (a:Nat)=>C5 #[tG,a] Ên Êo (a<=lcp ć ě) #[jb,lcp]
def IsD(H:Hp):Nat->V->V->Prop
 | 0,_,_=>ĝ
 | n+1,x,y=>(x=y/\(x=.non\/(∃b,x=.bl b)\/(∃i,x=.int i)\/∃s,x=.str s)) \/
   (X4 λ(p q:af) (xs ys:À V)=>x=.ref p/\y=.ref q/\((H p=aa Àt/\H q=aa ÁV)\/(H p=aa ű/\H q=aa (.tup ys)))/\Ö=į/\Ö<=1000/\∀ (i:Nat) (x y:V),xs[i]? = aa x->ys[i]? = aa y->IsD H n x y)
section
variable (K:Ä)
open PySem.W
theorem Je:ÇK K ÈV (.type "bool")=aa false:=by unfold ÇK kitCls;rfl
theorem ZoZ:ÇK K ÈV ÈV=aa true:=by unfold ÇK kitCls;rfl
theorem Zpd:ÇK K ÉM ÉM=aa true:=by unfold ÇK kitCls;rfl
universe E
section
variable {P:aA} {w:aF} {K:Ä} {mg:am->Ã ae} {Â:aJ} {ax ao aB ar aH aD ap au bi aU ç:af}
theorem ZuS(T:Ø):Df P w K mg Â 1 "_law_mix" Íy NU:=by
 rw[ey,T.t_l_mix.df,JD,b,hr];rw[g2,a,k,k1,k2];refine(_,#[Zc,#[Zq,2,JD.nd,á,#[ZB,UL,#[ZB,UM,#[ZB,XZ,#[ZB,XZ,#[Aj,UL,0],#[ZB,UM,#[sZ,UM,1,1],Ú]],Ú],Ú],Ú]],#[Zh,#[Zl,#[ZB,UL,#[sZ,UM,2,2],Ú]]]],_,rfl,_,_,rfl,rfl,ÒM,_,rfl,_,rfl,_,_,rfl,rfl,.inl ÂG,_,_,rfl,rfl,.inr ÍU,_,_,rfl,rfl,_,_,rfl,rfl,_,_,rfl,rfl,.inr ÍU,_,_,rfl,rfl,ÒM,?_);have m0:=Qa4 ÙU (show (2147483647:Int)≠0 by decide);have m1:=Qa7 ÙU (show (0:Int)<2147483647 by decide);refine(_,rfl,_,rfl,_,_,rfl,rfl,.inl ÂG,_,_,rfl,rfl,ÒM,?_);exact q _ (Qa4 _ Å) (Int.lt_trans (Qa7 _ Å) Å)
theorem Zth(T:Ø):Df P w K mg Â 1 "_law_left" Íz (Jj K):=by
 rw[ey,T.t_l_left.df,JC,i,hr];obtain a|ns|k|rfl|d|h63|j|k1|q:=h;refine(_,#[Zc,#[Zq,2,JC.nd,á,#[Yb,#[eL,WB,1,ÂP],#[t7,0,1],Ú]],#[Zh,#[Zl,#[Z2,#[Zd,#[ZB,UM,ÙV,#[Xx,LD,ÍV,ÍW,#[Zd,#[WA,Rk,ÙV,#[tf,LN,Ú],č]]]],#[ZB,XZ,‹2›,#[ZB,UM,Ú,‹1›]],Ú]]]]],?_);have l:(Τ).length=ď:=Qa _;have e:LO 10 18:=(by decide,by decide,by decide);refine(_,rfl,_,rfl,a,_,rfl,.inl d,_,_,rfl,rfl,_,rfl,?_);rw[gS,c]
 ·have g:k<ÙW:=#[eQ,c];rw[l]at g;obtain v|m:=ZuT (ns:=ns) j g;refine(_,rfl,_,rfl,a,_,_,_,rfl,rfl,d,m,_,rfl,_,rfl,_,rfl,_,rfl,_,_,rfl,rfl,e,_,_,rfl,rfl,.inr ÙX);exact ÙY
 ·refine(_,rfl,_,rfl,_,rfl,_,rfl,_,_,rfl,rfl,e,_,_,rfl,rfl,.inr ÙX);exact ÙY
theorem ZsL(T:Ø)(j:ÙZ):Df P w K mg Â 2 "_law_pick" ÍA R6:=by
 rw[ey,T.t_l_pick.df,JB,t,k];obtain p|c|m|rfl|⟨a,b,l,c0⟩|c1|i|m1|q:=h;refine(_,#[Zc,#[Yy,#[tf,XZ,Å2],#[WK,‹0›,Ú,Lg]],#[Zc,#[ZN,#[f8,Å2],#[Zc,#[Zq,2,JB.nd,á,#[ZB,UL,Å2,‹1›]],#[Zc,#[Yy,#[ZB,Rl,Å2,‹1›],#[WK,‹0›,Ú,Lg]],ÃA]],ï],#[Zh,#[Zl,#[ZB,UL,#[ZB,Rl,#[ZG,j,k,#[Zd,#[ZG,j,k,#[Zd,Å2,Å2],Ë],#[tf,XZ,Å2]],Ë],Ú],‹1›]]]]],?_);rw[sr,g,H,p,ÜW];refine(_,rfl,p,_,_,_,rfl,rfl,É l,rfl,_,_,rfl,rfl,_,rfl,p,_,_,2,rfl,rfl,l,rfl,_,rfl,p,_,_,_,rfl,rfl,É g,rfl,_,_,rfl,rfl,_,rfl,?_);rw[mZ]
 ·refine(_,rfl,p,_,_,_,rfl,rfl,É g,rfl,_,rfl,_,_,rfl,rfl,i,_,rfl,p,_,_,_,rfl,rfl,É g,rfl,_,rfl,_,_,rfl,rfl,(i,by lia),_,rfl,p,_,_,0,rfl,rfl,g,rfl,_,rfl,?_);refine q _ _ (Qa4 _ Á) (Qa7 _ i) (a / m,b,Zb,by lia) λe o h n=>?_;rw[Ze n,Ze n];exact h
 ·refine(_,rfl,p,_,_,_,rfl,rfl,É g,rfl,_,rfl,p,_,_,_,rfl,rfl,É g,rfl,_,_,rfl,by lia,by lia,λr r0 r1=>?_);refine(_,rfl,p,_,_,_,rfl,rfl,É g,rfl,_,_,rfl,rfl,_,_,rfl,by lia,by lia,λr' r0' tR=>?_);refine(_,_,rfl,rfl,ÍU,_,rfl,_,_,rfl,rfl,i,?_);refine q _ _ (Qa4 _ Á) (Qa7 _ i) (a,b,Zb,by lia) λe o h n=>?_;rw[Ze n];exact h
theorem ZiF(T:Ø):Df P w K mg Â 1 "alike_from" ÄM R3:=by
 rw[ey,T.t_alike_from.df,N7,F,hr];obtain x|y|c|rfl|r|t|G|q:=h;refine(_,#[Zc,#[ij,3,N7.nd,2],#[Zc,(@T7 _ _ _ _ _ _ Ž (@Ő _ _ _ #[W5,#[eL,WB,3,ÄR],#[W5,#[hI,WB,3],#[WU,#[Zn,Yu,#[tH,0,3],#[tH,1,3],č]]]]) #[Zh,(@LU _ _ 3 _ _ _ _ _ _ N7.nd rfl á Ú LS ÍX)]),#[hJ,3]]],_,rfl,?_);have lx:(ć).length=ľ:=by simp[Ée]
 have ly:(ě).length=ÀG:=by simp[Ée]
 have ll:=Vy ć ě;refine(λm u g=>∃k:Nat,u=[aa (.str x),aa (.str y),aa (.int c),aa (.int k)]/\g=H/\k<=lcp ć ě/\m=lcp ć ě-k,(_,c,rfl,rfl,G,rfl),?_);rintro m u g ⟨k,rfl,rfl,d,rfl⟩;refine(_,rfl,_,rfl,x,rfl,ń r,_,_,rfl,rfl,_,rfl,?_);rw[gS,i]
 ·have v:(k:Int)<(ľ:Int):=#[eQ,i];refine(_,rfl,_,rfl,y,rfl,ń t,_,_,rfl,rfl,_,rfl,?_);rw[gS,j]
  ·have B:(k:Int)<(ÀG:Int):=#[eQ,j];obtain a|l|I:=R5 (z:=x) (k:=k) Á v;obtain b|n|J:=R5 (z:=y) (k:=k) Á B;rw[QaD]at l n;refine(_,rfl,_,rfl,x,_,a,rfl,rfl,ń r,I,_,rfl,_,rfl,y,_,b,rfl,rfl,ń t,J,rfl,_,rfl,?_);rw[gS,o]
   ·have p:a=b:=by have:=#[eQ,o];injection this with e;injection e with e;simpa using e
    subst p;have:=Jg _ _ k d a l n;refine(λC D=>C=[aa (.str x),aa (.str y),aa (.int c),aa ÍY]/\D=g,λC D ⟨L,M⟩=>(_,?_,k+1,L,M,this,rfl),?_)
    ·lia
    ·exact(_,rfl,_,_,rfl,rfl,rfl,rfl)
   ·refine Êp;have e:=NT _ _ k d (.inr (.inr (a,b,l,n,λe=>o (by subst e;exact û rfl))));rw[e]at q;exact q
  ·refine Y7 Êp;have B:¬ (k:Int)<(ÀG:Int):=Äy (Íp j);have e:=NT _ _ k d (.inr Å3);rw[e]at q;exact q
 ·refine Y7 Êp;have v:¬ (k:Int)<(ľ:Int):=Äy (Íp i);have e:=NT _ _ k d Å3;rw[e]at q;exact q
theorem Zrq(T:Ø)(a:ÒN):Df P w K mg Â 2 "alike" ÂL R4:=by
 rw[ey,T.t_alike.df,Zp6,b,c];rw[g2,x,y,d,e];refine(_,#[Zh,#[Zl,#[ZG,a,c,#[Zd,‹0›,‹1›,Ú],Ë]]],?_);exact(_,rfl,_,rfl,x,y,0,rfl,d,e,Qp _,q)
theorem Xu{c A B:Prop}[Æ2 c](hc:c)(h:A):if decide c=true then A else B:=by rw[Æ (û hc)];exact h
theorem XS{c A B:Prop}[Æ2 c](hc:¬ c)(h:B):if decide c=true then A else B:=by rw[È (by rw[Ē hc];exact Qt)];exact h
theorem Yg.new{H:Hp}{p l:af}{c:Int}{o:HO}(h:Yg H p c)(n:H l=ah):Yg (upd H l o) p c:=by obtain a|b|d|e:=h;exact(a,b,by rw[Ze (Zg d n)];exact d,e)
theorem Yg.ge{H:Hp}{p:af}{c:Int}(h:Yg H p c):0<=c:=by obtain a|b|hp|c0:=h;exact c0
theorem Yg.here{H:Hp}{p:af}{c:Int}(h:Yg H p c):∃o,H p=aa o:=by obtain a|b|d|c0:=h;exact(_,d)
theorem Yg.at{H:Hp}{p l:af}{c:Int}{o:HO}(h:Yg H p c)(n:p≠l):Yg (upd H l o) p c:=by obtain a|b|d|e:=h;exact(a,b,by rw[Ze n];exact d,e)
theorem Jd{K:Ä}{H:Hp}:∀ss:À am,DVs K H ÂQ (ss.map aQ.str)
 | []=>.nil
 | s::r=>.cons (.str s) (Jd r)
def WO(ss:Ï)(i:Nat):Int:=if i=0 then 0 else (lcp (cds (ÍZ (i-1) "")) (cds (ÍZ i "")):Nat)
def R0(K:Ä):Sp:=λvs H Q _=>X2 λ(a:af) (ss:À am)=>C5 #[gh,a] ÇL #[uf,200] Êq (∀ (r:af) (b:Hp),H r=ah->b r=aa Ù0->Zu H b->Q Λ b)
theorem Zoq(T:Ø)(R:ÒO):Df P w K mg Â 3 "alikes" ["row"] (R0 K):=by
 rw[ey,T.t_alikes.df,Sj,S,U];obtain a|c|rfl|v|hn|I|q:=h;refine(_,#[Zc,#[uj,1,Sj.nd],#[Zc,#[XN,Ž,ÒP,#[eC,2,Sj.nd,3],#[Zh,#[ZO,#[YF,K,QH,QN,QO,WR,‹1›,#[Zd,#[Yb,#[eL,Yu,2,Ú],Ú,#[ZG,R,U,#[Zd,#[ZA,(ixL K),‹0›,#[Aj,W4,2]],‹3›],Ë]]]]]]],Å4]],Áe,λr B=>?_);have J:Zu H ÒQ:=Zf B _;refine(_,rfl,a,Ŝ Ç,rfl,J.seq v,?_);refine T0 (K:=K) (a:=a) (xs:=Ŝ Ç) (λi C d=>(X2 λg k:Ã V=>C=Ù1)/\d r=aa (.lst ÒR)/\Zu H d/\i<=ë) ((ah,ah,rfl),Zb,J,Qp _) (λ_ _ _ W=>by obtain _|_|l|_:=W;exact l.seq v) ?_ ?_
 ·rintro i x C d p m ⟨⟨g,k,rfl⟩,n,l,X⟩ L;rw[Qr]at m;cases t:c[i]? with
  | none=>rw[t]at m;cases m
  | some y =>
   rw[e5,t,m,Y,ë];have D:r≠p:=Zg n L;have M:Zu H Í0:=l.trans (Zf L _);have F:Í0 r=aa (.lst ÒR):=by rw[Ze D];exact n
   have N:((À7 i).map λj=>ß (WO c j)).length<aq:=by rw[Qa,List.length_range];exact ZD Á
   have u:∀z:Int,z=WO c i->(X2 λg k:Ã V=>[aa (ø a),aa (ø r),aa (ß i),aa (Ç y)]=Ù1) /\
     (upd Í0 r Ù2) r=aa (.lst ((À7 (i+1)).map λj=>.int (WO c j))) /\
     Zu H (upd Í0 r Ù2)/\i+1<=ë:=λz e=>by
    refine((_,_,rfl),?_,λb o h=>?_,Y)
    ·rw[Zb,Ù3,Qi,e];rfl
    ·rw[ik,h,B,M,o]
   refine(p,_,rfl,þ Zb,rfl,_,_,rfl,_,_,rfl,rfl,_,rfl,.inl #[fm,F],_,rfl,rfl,_,rfl,?_);by_cases O:i=0
   ·subst O;exact Xu rfl (r,_,_,rfl,rfl,F,N,u 0 rfl)
   ·have G:i-1<ë:=by lia
    have Z:#[tI,i]:=by lia
    have cn:atI (Ŝ Ç) ((i:Int)-1)=aa (.str c[i-1]):=by rw[Z];exact Ya #[jg,G]
    refine XS (λz=>by injection z with z;lia) (_,rfl,_,rfl,_,_,rfl,rfl,a,_,_,_,rfl,rfl,M.seq v,cn,_,rfl,c[i-1],y,rfl,I _ (Qab G),I _ (Qm t),r,_,_,rfl,rfl,F,N,u _ ?_);unfold WO;rw[È O,QJ,QJ,Qb G,t];rfl
 ·rintro C d ⟨⟨g,k,rfl⟩,n,l,X⟩;rw[Qa]at n;exact(_,rfl,q r d B n l)
def ZW:À Nat->À Nat->Int
 | [],[]=>0
 | [],_::_ =>-1
 | _::_,[]=>1
 | a::r,b::s=>if a=b then ZW r s else if a<b then -1 else 1
theorem Jc:∀ (x y:À Nat),ÄS y x=false->ZW x y<=0
 | [],[],_=>by unfold ZW;lia
 | [],_::_,_=>by unfold ZW;lia
 | _::_,[],h=>by unfold ÄS at h;cases h
 | a::r,b::s,h=>by
  have ih:=Jc r s;unfold ÄS at h;unfold ZW;rw[Bool.or_eq_false_iff,Ù4]at h;rw[e2,c,d,h];have wZ:¬ b<a:=Äy c;by_cases e:a=b
  ·rw[Æ e];rcases d with z|z
   ·rw[e]at z;simp at z
   ·exact ih z
  ·rw[ul,e];lia
theorem RZ:∀ (x y z:À Nat),ZW x y<=0->ZW y z<=0->ZW x z<=0
 | [],_,[],_,_=>by unfold ZW;lia
 | [],_,_::_,_,_=>by unfold ZW;lia
 | _::_,[],_,h,_=>by unfold ZW at h;lia
 | _::_,_::_,[],_,h=>by unfold ZW at h;lia
 | a::r,b::s,c::t,h1,h2=>by
  unfold ZW at h1 h2 ⊢;have ih:=RZ r s t;by_cases f:a=b
  ·rw[tM,f,h1];by_cases d:b=c
   ·rw[nx]
   ·rw[sR,d,h2];rw[È (λe=>d Ñx)];split at h2
    ·rw[Æ Á];lia
    ·lia
  ·rw[sR,f,h1];split at h1
   ·by_cases d:b=c
    ·rw[È (λe=>f Ñy),Æ Á];lia
    ·rw[sR,d,h2];split at h2
     ·rw[ul,Á];lia
     ·lia
   ·lia
theorem Jb:∀ (ss:À am) (p:am),ÇM p ss=true->∀ (k:Nat) (x y:am),(p::ss)[k]? = aa x->ss[k]? = aa y->ZW ć ě<=0
 | [],p,_,k,x,y,_,h=>by simp at h
 | z::r,p,h,0,x,y,h1,h2=>by unfold ÇM at h;rw[QT]at h;simp at h1 h2;subst h1 h2;exact Jc _ _ #[eE,h.1]
 | z::r,p,h,k+1,x,y,h1,h2=>by unfold ÇM at h;rw[QT]at h;exact Jb r z h.2 k x y #[eE,h1] #[eE,h2]
theorem Ja{ss:Ï}(h:ŝ ss=true)(k:Nat)(x y:am)(h1:ss[k]? = aa x)(h2:ss[k+1]? = aa y):ZW ć ě<=0:=by
 cases ss with
 | nil=>simp at h1
 | Ñ p r=>exact Jb r p h k x y h1 #[eE,h2]
theorem I0{ss:Ï}{k:Nat}(h:k<Àm):atI ÂQ (k:Int)=aa (.str ss[k]):=Ya #[jg,h]
theorem Zpp(xs:ă)(i j:Nat)(h:i<=Ö)(h2:j<=Ö):Yh xs (aa i) (aa j)=(Èw i).take (j-i):=by
 have e:∀ (k d:Nat),k<=Ö->ŧ Ö d (aa (k:Int))=k:=λk d hk=>by unfold ŧ;simp only[];rw[uR];lia
 unfold Yh;rw[e i _ h,e j _ h2]
theorem Yg.same{H a:Hp}{p:af}{c:Int}(h:Yg H p c)(s:Zu H a):Yg a p c:=by obtain b|b2|hb|c0:=h;exact(b,b2,s _ _ hb,c0)
def mid(ns:Ô):Nat:=(ď+1) / 2
def Xk(ns:Ô):À Int:=ÉO (mid ns)
def Wc(ns:Ô):À Int:=ns.drop (mid ns)
theorem Zsv(ns:Ô):(ÙW+1) / 2=((mid ns:Nat):Int):=by rw[Qa];unfold mid;lia
theorem Zup(ns:Ô)(m:Nat)(h:m<=ď):Yh Τ ah Å5=(ÉO m).map ß:=by
 unfold Yh;have e:ŧ (Τ).length (Τ).length Å5=m:=by unfold ŧ;rw[kv];lia
 have a:ŧ (Τ).length 0 ah=0:=rfl;rw[v1]
theorem Zrl(ns:Ô)(m:Nat)(h:m<=ď):Yh Τ Å5 ah=(ns.drop m).map ß:=by
 unfold Yh;have e:ŧ (Τ).length 0 Å5=m:=by unfold ŧ;rw[kv];lia
 have a:ŧ (Τ).length (Τ).length ah=(Τ).length:=rfl;rw[e,a,Qbm,Qy #[t3,QL,Qa]]
theorem NR(z:am):(cds z).length=Ć:=by simp[Ée]
theorem IZ:∀ (x y:À Nat),(lcp x y=ľ->lcp x y=ÀG->ZW x y=0)/\(lcp x y=ľ->lcp x y≠ÀG->ZW x y = -1)/\(lcp x y≠ľ->lcp x y=ÀG->ZW x y=1) /\
  ∀a b,x[lcp x y]? = aa a->y[lcp x y]? = aa b->ZW x y=if a<b then -1 else 1
 | [],[]=>(λ_ _=>rfl,λ_ h=>Î rfl h,λh _=>Î rfl h,λa b h _=>by simp at h)
 | [],_::_=>(λ_ h=>by unfold lcp at h;simp at h,λ_ _=>rfl,λh _=>Î rfl h,λa b h _=>by simp at h)
 | _::_,[]=>(λh _=>by unfold lcp at h;simp at h,λh _=>by unfold lcp at h;simp at h,λ_ _=>rfl,λa b _ h=>by simp at h)
 | a::r,b::s=>by
  obtain h1|h2|f|g:=IZ r s;unfold lcp ZW;by_cases e:a=b
  ·rw[ju,e,e];simp only[Ëb,List.getElem?_cons_succ];exact(λp q=>h1 Á Á,λp q=>h2 Á Á,λp q=>f Á Á,g)
  ·rw[jd,e,e];simp only[Ëb,List.getElem?_cons_zero];refine(λp=>by lia,λp=>by lia,λ_ p=>by lia,λc d p q=>?_);cases p;cases q;rfl
theorem U6:∀ (x y:À Nat),ZW y x =-ZW x y
 | [],[]=>rfl
 | [],_::_=>rfl
 | _::_,[]=>rfl
 | a::r,b::s=>by
  have ih:=U6 r s;unfold ZW;by_cases e:a=b
  ·rw[Æ e,Æ Åh,ih]
  ·rw[È e,È λz=>e Çf];by_cases l:a<b
   ·rw[Æ l,È Á];rfl
   ·rw[ul,l]
theorem Ts(a b:Nat):decide ((⟨#[a]⟩:am).cps.toList<(⟨#[b]⟩:am).cps.toList)=decide (a<b):=by
 have e:([a]:À Nat)<[b]↔a<b:=by
  constructor
  ·intro h;cases h with
   | rel h=>exact h
   | Ñ h=>cases h
  ·exact λh=>List.Lex.rel h
 exact Äz e
theorem IY:∀ (x y:À Nat),ZW x y=0->x=y
 | [],[],_=>rfl
 | [],_::_,h=>by unfold ZW at h;lia
 | _::_,[],h=>by unfold ZW at h;lia
 | a::r,b::s,h=>by
  unfold ZW at h;by_cases e:a=b
  ·rw[tM,e,h];rw[e,IY r s h]
  ·rw[W];split at h<;>lia
def NQ:Sp:=λvs H Q _=>X2 λx y:am=>C4 #[Aw,x,y] Ên Êo #[jb,ZW]
def RY:Sp:=λvs H Q _=>X2 λx y:am=>C4 #[tG,ÀH] Ên Êo #[jb,ZW]
theorem Zql(T:Ø):Df P w K mg Â 1 "order_at" Êg RY:=by
 rw[ey,T.t_order_at.df,ZkG,r,hr];rw[g2,x,y,g,i];refine(_,#[Zc,#[ZN,(@Ő _ _ _ #[W5,#[eL,Yu,2,ÄR],#[WU,#[hI,Yu,2]]]),#[z9,Ú],ï],#[Zc,#[ZN,#[eL,Yu,2,ÄR],#[z9,ÇN],ï],#[Zc,#[ZN,#[hI,Yu,2],#[z9,Ú],ï],#[Zh,#[Zl,#[Yb,#[Zn,Rj,#[tH,0,2],#[tH,1,2],č],ÇN,Ú]]]]]],?_);obtain t|u|v|B:=IZ ć ě;have ll:=Vy ć ě;have lx:=NR x;have ly:=NR y;have inj:∀ {m n:Nat},ß (m:Int)=ß (n:Int)->m=n:=λ{m n} e=>by injection e with e;lia
 refine(_,rfl,_,rfl,x,rfl,ń g,rfl,_,rfl,Z5 β β)
 ·have j:=inj Í1;refine Ù5
  ·have l:=Ù6;rw[t Á Á]at q;exact q
  ·have l:Ù7:=λe=>c ÒS;refine(_,rfl,_,rfl,x,rfl,ń g,rfl,_,rfl,Xu (by rw[j]) ?_);rw[u Á Á]at q;exact Ço
 ·have j:¬ lcp ć ě=ľ:=λe=>d ÒS;refine Y7 (_,rfl,_,rfl,x,rfl,ń g,rfl,_,rfl,XS (λe=>j (inj e)) ?_);refine Ù5
  ·have l:=Ù6;rw[v Á Á]at q;exact q
  ·have l:Ù7:=λe=>c ÒS;obtain a|o|C:=R5 (z:=x) (k:=ÀH) Á Á;obtain b|p|D:=R5 (z:=y) (k:=ÀH) Á Á;rw[QaD]at o p;refine(_,rfl,_,rfl,x,_,a,rfl,rfl,ń g,C,_,rfl,_,rfl,y,_,b,rfl,rfl,ń i,D,_,_,rfl,rfl,_,rfl,?_);rw[Ts];rw[B a b o p]at q;rw[gS,e]
   ·rw[Æ (ŋ e)]at q;exact Ço
   ·rw[È (λz=>e ÃB)]at q;exact q
theorem Zrj(T:Ø)(d:ÒO)(e:ÒT):Df P w K mg Â 3 "liken" ÂL NQ:=by
 rw[ey,T.t_liken.df,Zry,g,a];rw[g2,x,y,b,c];refine(_,#[Zh,#[Zl,#[ZG,e,a,#[Zd,‹0›,‹1›,#[sF,d,a,0]],Ë]]],?_);exact(_,rfl,_,rfl,_,rfl,_,rfl,x,y,rfl,b,c,x,y,rfl,b,c,q)
theorem IX{c A B:Prop}[Æ2 c](hc:¬ c)(h:A):if (!decide c)=true then A else B:=by rw[Æ (by rw[Ē hc];rfl)];exact h
def NP:Sp:=λvs H Q _=>X3 λ(x y:am) (a:Nat)=>C5 #[tG,a] Ên Êo (a<=lcp ć ě) (∀t,H t=ah->Q Âs (upd H t (.tup [.int (ZW ć ě),.int ÀH,.int (ÀH-(a:Int)+1)])))
theorem ZiQ(T:Ø)(e:ÒN)(g:ÒT):Df P w K mg Â 2 "liken_from" ÄM NP:=by
 rw[ey,T.t_liken_from.df,JA,i,a];obtain x|y|b|rfl|c|d|j|q:=h;refine(_,#[Zc,#[Zq,3,JA.nd,á,#[ZG,e,a,#[fK,0,1,2],Ë]],#[Zh,#[Zl,#[ZS,#[Zd,#[ZG,g,a,#[fK,0,1,3],Ë],‹3›,#[ZB,XZ,#[sZ,W4,3,2],Ú]]]]]],_,rfl,_,rfl,_,rfl,x,y,b,rfl,c,d,j,_,rfl,_,rfl,_,rfl,x,y,rfl,c,d,_,rfl,_,rfl,_,rfl,_,_,rfl,rfl,_,_,rfl,rfl,Á6,λt k=>?_);exact q t k
def WF(ss:Ï)(v:V):Prop :=
 (v=.non/\∀i x y,ss[i+1]? = aa x->ss[i]? = aa y->0<=ZW ć ě) \/
 ∃k:Nat,v=.int #[gk,k,1]/\k+1<Àm/\(∀x y,ss[k+1]? = aa x->ss[k]? = aa y->ZW ć ě<0)/\∀i,i<k->∀x y,ss[i+1]? = aa x->ss[i]? = aa y->0<=ZW ć ě
theorem NO{ss:Ï}{v g:V}(h:WF ss v)(h':WF ss g):v=g:=by
 rcases h with⟨rfl,a⟩|⟨k,rfl,l,b,c⟩
 ·rcases h' with⟨rfl,_⟩|⟨k',rfl,d,f,_⟩
  ·rfl
  ·have:=a k' _ _ (Qb d) ÃC;have:=f _ _ (Qb d) ÃC;lia
 ·rcases h' with⟨rfl,a⟩|⟨k',rfl,d,f,i⟩
  ·have:=a k _ _ (Qb l) ÃC;have:=b _ _ (Qb l) ÃC;lia
  ·have e:k=k':=by
    rcases Ù8 k k' with h|h|h
    ·have:=i k h _ _ (Qb l) ÃC;have:=b _ _ (Qb l) ÃC;lia
    ·exact h
    ·have:=c k' h _ _ (Qb d) ÃC;have:=f _ _ (Qb d) ÃC;lia
   rw[e]
def RX(K:Ä):Sp:=λvs H Q _=>X2 λ(a:af) (ss:À am)=>C5 #[gh,a] ÇL #[uf,400] Êq (∀ (v:V) (b:Hp),WF ss v->Zu H b->Q v b)
theorem Zp1(T:Ø)(t:Ù9):Df P w K mg Â 4 "first_break" ["keys"] (RX K):=by
 rw[ey,T.t_first_break.df,Jz,u,B];obtain a|b|rfl|n|hn|p|q:=h;refine(_,#[Zc,#[XN,Ž,#[UQ,ÃD,#[Zd,Ú,ÂP]],#[sU,1,Jz.nd],#[Zh,#[ZN,#[Zn,WB,#[ZG,t,B,#[Zd,#[t7,0,1],#[ZA,(ixL K),‹0›,#[Aj,W4,1]]],Ë],Ú,č],Å4,ï]]],ÄT],?_);have hl:#[e7,ÂJ,Ç]=(Ň:Int):=by rw[Qa]
 refine(_,rfl,a,_,rfl,.inl n,_,_,rfl,Í2,?_);refine UN (λi o k=>(∃v:Ã V,o=[aa ą,v])/\Zu H k/\∀j,j<i->∀x y,b[j+1]? = aa x->b[j]? = aa y->0<=ZW ć ě) ((ah,rfl),Ãe H,λj h=>by lia) ?_ ?_
 ·rintro i o k hi ⟨⟨v,rfl⟩,g,m⟩;have l:i+1<Ň:=by lia
  have r:(1+(i:Int))=#[gk,i,1]:=by lia
  have C:(1+(i:Int)-1)=#[fC,i]:=by lia
  refine(_,rfl,_,rfl,a,_,_,_,rfl,rfl,g.seq n,#[fs,r,I0,l],_,rfl,_,rfl,_,_,rfl,rfl,a,_,_,_,rfl,rfl,g.seq n,#[fs,C,I0,Á],b[i+1],b[i],rfl,p _ (Qab l),p _ (Qab Á),_,_,rfl,rfl,_,rfl,?_);rw[mZ]
  ·have D:ZW (cds b[i+1]) (cds b[i])<0:=ÀY;refine(_,rfl,q _ k (.inr (i,by rw[r],l,λx y c e=>?_,m)) g);rw[q9];lia
  ·have D:¬ ZW (cds b[i+1]) (cds b[i])<0:=Å6;refine((_,rfl),g,λj hj x y c e=>?_);by_cases F:j=i
   ·subst F;rw[q9];lia
   ·exact m j Á x y c e
 ·rintro o k ⟨⟨v,rfl⟩,g,m⟩;refine q _ k (.inl (rfl,λj x y c e=>?_)) g;have:=(Ń c).1;exact m j Á x y c e
def RW(K:Ä)(tup:Ê):Sp:=λvs H Q _=>X2 λ(a:af) (ns:À Int)=>C4 #[gh,a] Å1 #[sv,200] (∀ (t f r:af) (b:Hp),H t=ah->H f=ah->H r=ah->f≠r->b t=aa (if tup=true then .tup #[h4,f,r] else .lst #[h4,f,r])->b f=aa (.lst ((Xk ns).map ß))->b r=aa (.lst ((Wc ns).map ß))->Zu H b->t≠f->t≠r->Q Âs b)
theorem ZqU{H:Hp}{f r t:af}{A B T:HO}(hf:H f=ah)(hr:(upd H f A) r=ah)(ht:ÒU t=ah) :
  H r=ah/\H t=ah/\f≠r/\t≠f/\t≠r/\ÒV f=aa A/\ÒV r=aa B/\Zu H ÒV:=by
 have a:f≠r:=Zg (H:=upd H f A) (o:=A) Zb hr;have b:ÒU f=aa A:=by rw[Ze a];exact Zb
 have c:f≠t:=Zg b ht;have d:r≠t:=Zg (H:=upd (upd H f A) r B) (o:=B) Zb ht;have e:Zu H (upd H f A):=Zf hf _;have g:=e.trans (Zf hr B);have h:=Èz (Zf ht T);exact(e.free hr,g.free ht,a,c.symm,d.symm,by rw[Ze c];exact b,by rw[Ze d];exact Zb,h)
theorem Zoi(T:Ø):Df P w K mg Â 1 "halves" ÄN (RW K true):=by
 rw[ey,T.t_halves.df,Jy,j,hr];rw[g2,a,b,c,hn];refine(_,#[Zc,#[Zq,1,Jy.nd,á,#[ZB,Rl,#[tf,XZ,ÂP],Ú]],#[Zh,#[Zl,#[ZS,#[Zd,#[Wz,(slL K),‹0›,(@VJ _),#[iu,1]],#[ic,0,1]]]]]],_,rfl,a,_,rfl,.inl c,_,_,rfl,rfl,_,_,rfl,rfl,ÍU,?_);have k:mid b<=Ň\/b=[]:=by
  cases b with
  | nil=>exact À3
  | Ñ x r=>left;unfold mid;rw[QE];lia
 have g:mid b<=Ň:=by
  rcases k with h|h
  ·exact h
  ·subst h;decide
 have m:=Zsv b;simp only[m];refine(_,rfl,_,rfl,_,rfl,a,_,rfl,c,λl d=>?_);refine(_,rfl,_,rfl,_,rfl,a,_,rfl,(Zf d _).seq c,λr i=>(Ť,λt e=>?_));rw[Zup b _ g]at i e ⊢;rw[Zrl b _ g]at e ⊢;obtain n|o|p|u|v|y|z|B:=ZqU (T:=.tup #[h4,l,r]) d i e;exact q t l r _ o d n p Zb y z B u v
theorem Vx(f:am)(v:V):∀fs:À (am×V),#[vB].length<=ÃW+1
 | []=>Qd _
 | p::r=>by
  unfold Zx;split
  ·exact Qaa _
  ·exact QaW (Vx f v r)
def YQ(k f:af)(g:Int):À ÁR:=Zx "gone" (.int g) (Zx "fars" Ĉ Úa)
theorem nGF:¬ #[iD,"fars","gone"]:=by ac_rfl
theorem nGK:¬ #[iD,"all_keys","gone"]:=by ac_rfl
theorem nFK:¬ #[iD,"all_keys","fars"]:=by ac_rfl
theorem U5(k f:af)(g:Int):(Í3).lookup ("all_keys" : am)=aa (.ref k):=by unfold YQ;rw[Zr,È nGK,Zr,È nFK,Zr,Æ rfl]
theorem Tr(k f:af)(g:Int):(Í3).lookup ("gone" : am)=aa (.int g):=by unfold YQ;rw[Zr,Æ rfl]
theorem Tq(k f:af)(g:Int){m:am}(h1:¬ m = "gone")(h2:¬ m = "fars")(a:¬ m = "all_keys"):(Í3).lookup m=ah:=by unfold YQ;rw[Zr,È h1,Zr,È h2,Zr,È a];rfl
structure U4 (C:af) (H:Hp) (p k f:af) (ss:Ï) (g:Nat):Prop where
 ob:∃dx,H p=aa (.ins C dx Í3)
 ks:H k=aa (.lst ÂQ)
 fs:H f=aa Ù0
def Tp(C:af):Sp:=λvs H Q _=>X5 λ(p k f:af) (ss:À am) (g:Nat)=>C3 #[gh,p] ÒW (Q (.int ((Àm:Int)-(g:Int))) H)
theorem Zs6(T:Ø):Mf P w K mg Â 1 ax "to_go" ö (Tp ax):=by
 rw[ey,T.t_Row_to_go.mf,Zj8,c,hr];obtain p|k|f|d|g|rfl|R|q:=h;refine(_,#[Zh,#[Zl,#[ZB,W4,#[Zo,(Y2 K),Ë,ÁF,Qn,#[Zd,Ģ]],Ģ]]],?_);obtain ⟨a,b⟩|e|hf:=R;refine(_,rfl,p,ax,a,_,_,rfl,b,Ņ,ÄU,U5 _ _ _,k,_,rfl,.inl (É e),_,rfl,p,ax,a,_,_,rfl,b,Ņ,ÇO,Tr _ _ _,_,_,rfl,rfl,?_);rw[Qa];exact q
def WE(ss:Ï)(g:Nat):V:=match ss[g]? with
 | some z=>.str z
 | none=>.non
def U3(C:af):Sp:=λvs H Q _=>X5 λ(p k f:af) (ss:À am) (g:Nat)=>C3 #[gh,p] ÒW (Q (WE ss g) H)
theorem Zsp(T:Ø)(i:Í4):Mf P w K mg Â 2 ax "head" ö (U3 ax):=by
 rw[ey,T.t_Row_head.mf,ZkZ,j,l];obtain p|k|f|a|g|rfl|R|q:=h;refine(_,#[Zh,#[Zl,#[Yb,#[Zn,WT,#[t8,i,l,0],Ú,č],#[ZA,(ixL K),Ģ,Ģ],Ł]]],?_);obtain ⟨b,c⟩|m|hf:=id R;refine(_,rfl,p,b,_,rfl,c,Tq _ _ _ ä ä ä,p,k,f,a,g,rfl,R,_,_,rfl,rfl,_,rfl,?_);rw[mZ]
 ·have n:ÁQ<ÅK-(g:Int):=ÀY;have e:g<ķ:=by lia
  refine(_,rfl,p,ax,b,_,_,rfl,c,Ņ,ÄU,U5 _ _ _,_,rfl,p,ax,b,_,_,rfl,c,Ņ,ÇO,Tr _ _ _,k,_,_,_,rfl,rfl,É m,Ya #[jg,e],?_);unfold WE at q;rw[Qb e]at q;exact q
 ·have n:¬ ÁQ<ÅK-(g:Int):=Å6;unfold WE at q;rw[Qaf Á]at q;exact q
def NN(C:af):Sp:=λvs H Q _=>X4 λ(p dx a:af) (ss:À am)=>C6 #[it,p,a] (H p=aa (.ins C dx [])) #[sG,a,ÂQ] #[uf,200] Êq (∀ (k f:af) (c:Hp),H k=ah->H f=ah->k≠f->U4 C c p k f ss 0->#[f6,o,H,p,c]->Q .non c)
theorem ZmF(T:Ø)(C:ÒX):Cf P w K mg Â 4 ax "Row" ÂM (NN ax):=by
 rw[ey,T.t_Row_init.cf,Zlz,D,F];obtain p|c|a|d|rfl|m|i|G|I|q:=h;refine(_,#[Zc,#[XJ,‹0›,#[Xx,(KW K),Í5,Í6,ÁG]],#[Zc,#[XJ,‹0›,#[Ac,C,F]],#[Zh,ÒY]]],_,rfl,a,_,rfl,.inl (É i),λk j=>?_);have l:p≠k:=Zg m j;have r:a≠p:=λe=>by rw[e,m]at i;cases i
 have t:a≠k:=Zg i j;refine(_,rfl,p,ax,c,[],rfl,#[sE,l,m],Ņ,ÄU,#[hh,0,1000],?_);have J:Í7 a=aa #[iI,ÀE]:=by rw[Ze r,Ze t];exact i
 have v:Í7 p=aa (.ins ax c Úa):=Zb;have y:Í7 k=aa #[iI,ÀE]:=by rw[Ze l.symm];exact Zb
 have z:#[g7,H,p,Í7]:=λb o h n=>by rw[Ze n,Ze (Zg h j)];exact h
 refine(_,rfl,a,d,rfl,É J,G,I,λf H3 g L x=>?_);have M:H f=ah:=by
  cases N:H f with
  | none=>rfl
  | some u =>
   by_cases e:f=p
   ·rw[fW,e,v,g]
   ·rw[z f u N e]at g;cases g
 have O:k≠f:=Zg y g;have B:p≠f:=Zg v g;refine(_,rfl,p,ax,c,_,rfl,x _ _ v,Ņ,ÒZ,#[hh,1,1000],_,rfl,p,ax,c,_,rfl,Zb,Ņ,ÇO,?_,?_)
 ·have h1:=Vx "all_keys" (ø k) [];have h2:=Vx "fars" (ø f) (Zx "all_keys" (ø k) []);have h3:Úb:=rfl;lia
 ·refine q k f _ j M O ((c,Zb),?_,?_) λb o h n=>?_
  ·rw[Ze l.symm,Ze l.symm];exact x _ _ y
  ·rw[Ze B.symm,Ze B.symm];exact L
  ·rw[Ze n,Ze n];exact x _ _ (z b o h n)
theorem Vw{K:Ä}{a:af}{xs:ă}{k:Nat}{D:af}{b:ÄE}{d:Hp}{g:TG}{f:TE}{Q:VK}(Pv:É3)(h0:Pv 0 [] #[sS,b,k] (upd d D ÀB))
  (hl:∀i ys b H,Pv i ys b H->SqL K H a xs)
  (hs:∀i x ys b H,xs[i]? = aa x->Pv i ys b H->g x b H λh n=>f h n λy j=>j D=aa ÁV/\į<aq/\Pv (i+1) Çd h #[gR,j,ys,y])
  (hd:#[iG,ys,b,Ö]):V0 ÏF D k b d g Ww f Q:=by
 rw[eT,ys,b,Ö];have c:=hl i ys b H p;by_cases l:i<Ö
 ·refine .inr ((xs,xs[i],c,Qb l),Pv (i+1),λj3 aX o q=>(Ö-(i+1),by lia,rfl,l,q),λx o y=>?_);obtain rfl|e:=y;rw[j9];exact hs i x ys b _ (e xs c) p
 ·have e:ËM:=by lia
  exact .inl ((xs,c,by lia),hd ys b H Çe)
theorem IW:∀x y:À Nat,x<y↔ZW x y<0
 | [],[]=>by unfold ZW;exact(λh=>Î h Ù,λh=>Î h Á)
 | [],_::_=>by unfold ZW;exact(λ_=>by lia,λ_=>List.nil_lt_cons _ _)
 | _::_,[]=>by unfold ZW;exact(λh=>Î h (List.not_lt_nil _),λh=>Î h Á)
 | a::r,b::s=>by
  have ih:=IW r s;unfold ZW;rw[Úc];by_cases e:a=b
  ·rw[Æ e,<- ih];exact(λh=>Àf (λz=>by lia) (λz=>z.2),λh=>.inr (e,h))
  ·rw[ti,e];by_cases l:a<b
   ·rw[Æ l];exact(λ_=>by lia,λ_=>.inl l)
   ·rw[ti,l];exact(λh=>Àf (λz=>Î z l) (λz=>Î z.1 e),λh=>Î h Á)
theorem Zvq{K:Ä}{H:Hp}{a:af}{xs:ă}(h:H a=aa Àt):L2.tyV K "list" ą H:=.inl #[fm,h]
theorem Í8{H a:Hp}{ts:YG}(h:AtT H ts)(s:Zu H a):AtT a ts:=λx hx=>s _ _ (h x hx)
theorem U2{H:Hp}{D:af}{ys:ă}(h:H D=aa ÁV)(o:HO):∀a xs,H a=aa ű->(upd H D o) a=aa ű:=λa xs e=>by
 have b:a≠D:=by intro z;rw[Av,h,e]
 rw[Ze b];exact e
abbrev Hd:=Int->Ã (À Nat)
def Btr(x:ś)(a:Int)(y:ś)(b:Int):Prop:=ZW x y<0\/Ò0
def Win(hd:Hd)(N:Ô):Ã Int->Prop
 | none=>∀n∈N,hd n=ah
 | some a=>a∈N/\∃x,hd a=aa x/\∀b∈N,∀y,hd b=aa y->b=a\/Btr x a y b
theorem Btr.asym{x y:ś}{a b:Int}(h:Btr x a y b)(g:Btr y b x a):ĝ:=by have e:=U6 x y;rcases h with h|⟨h,h2⟩<;>rcases g with g|⟨g,g2⟩<;>lia
theorem ÇP{x y:ś}{a b:Int}(h:a≠b):Btr x a y b\/Btr y b x a:=by have e:=U6 x y;unfold Btr;lia
theorem Btr.trans{x y z:ś}{a b c:Int}(h:Btr x a y b)(g:Btr y b z c):Btr x a z c:=by
 have t1:=RZ x y z;have t2:=RZ z x y;have t3:=RZ y z x;have e1:=U6 x y;have e2:=U6 y z;have e3:=U6 x z;unfold Btr at *
 lia
theorem Win.one{hd:Hd}{N:Ô}{v w:Δ}(h:Win hd N v)(g:Win hd N w):v=w:=by
 cases v with
 | none =>
  cases w with
  | none=>rfl
  | some b=>obtain d|y|c|_:=g;rw[h b d]at c;cases c
 | some a =>
  obtain i|x|f|j:=h;cases w with
  | none=>rw[g a i]at f;cases f
  | some b =>
   obtain d|y|c|k:=g;rcases j b d y c with e|e
   ·rw[e]
   ·rcases k a i x f with e'|e'
    ·rw[e']
    ·exact(e.asym e').elim
theorem Win.nil(hd:Hd):Win hd [] ah:=λn h=>by cases h
theorem Í9{hd:Hd}{n:Int}:Win hd [n] Úd:=by
 cases h:hd n with
 | none=>intro m a;rw[ó a];exact h
 | some x=>exact(by simp,x,h,λb c y hy=>.inl (ó c))
theorem ÇQ{hd:Hd}{A B:Ô}{a b:Int}{x y:ś}(ha:Win hd A (aa a))(hb:Win hd B (aa b))(hx:hd a=aa x)(hy:hd b=aa y)(h:Btr x a y b):Win hd (A++B) (aa a):=by
 obtain i|x'|f|j:=ha;obtain b1|y'|g|k:=hb;rw[gv,hx,f,f];rw[gv,hy,g,g];refine(QR _ i,x,hx,λc hc z d=>?_);rcases ÿ hc with hc|hc
 ·exact j c hc z d
 ·rcases k c hc z d with e|e
  ·rw[iA,e,hy,d];exact .inr h
  ·exact .inr (h.trans e)
theorem Êr{hd:Hd}{A B:Ô}{a b:Int}{x y:ś}(ha:Win hd A (aa a))(hb:Win hd B (aa b))(hx:hd a=aa x)(hy:hd b=aa y)(h:Btr y b x a):Win hd (A++B) (aa b):=by have:=ÇQ hb ha hy hx h;obtain d|z|e|f:=this;exact(by rcases ÿ d with h|h<;>simp[h],z,e,λc g=>f c (by rcases ÿ g with h|h<;>simp[h]))
theorem Îa{hd:Hd}{A B:Ô}{w:Δ}(ha:Win hd A w)(hb:Win hd B ah):Win hd (A++B) w:=by
 cases w with
 | none=>intro n d;rcases ÿ d with h|h;exact ha n h;exact hb n h
 | some a =>
  obtain e|x|f|g:=ha;refine(QR _ e,x,f,λc hc z b=>?_);rcases ÿ hc with hc|hc
  ·exact g c hc z b
  ·rw[hb c hc]at b;cases b
theorem Îb{hd:Hd}{A B:Ô}{w:Δ}(ha:Win hd A ah)(hb:Win hd B w):Win hd (A++B) w:=by
 cases w with
 | none=>intro n d;rcases ÿ d with h|h;exact ha n h;exact hb n h
 | some a =>
  obtain e|x|f|g:=hb;refine(QD _ e,x,f,λc hc z b=>?_);rcases ÿ hc with hc|hc
  ·rw[ha c hc]at b;cases b
  ·exact g c hc z b
theorem Win.ex(hd:Hd):∀N:À Int,Ëw->∃w,Win hd N w
 | [],_=>(ah,Win.nil hd)
 | n::N,hn=>by
  obtain d|f:=Q7.mp hn;obtain w|hw:=Win.ex hd N f;have a:Win hd [n] Úd:=Í9;cases h:hd n with
  | none=>rw[h]at a;exact(w,Îb (A:=[n]) a hw)
  | some x =>
   rw[h]at a;cases w with
   | none=>exact(aa n,Îa (A:=[n]) a hw)
   | some b =>
    obtain g|y|c|b2:=id hw;have i:n≠b:=λe=>d (e ▸ g);rcases ÇP (x:=x) (y:=y) i with e|e
    ·exact(aa n,ÇQ (A:=[n]) a hw h c e)
    ·exact(aa b,Êr (A:=[n]) a hw h c e)
theorem Ês{hd c:Hd}{N:Ô}(h:∀n∈N,c n=hd n){w:Δ}(hw:Win hd N w):Win c N w:=by
 cases w with
 | none=>intro n d;rw[h n d];exact hw n d
 | some a=>obtain e|x|g|i:=hw;exact(e,x,by rw[h a e];exact g,λb f y j=>i b f y #[uk,h,b,f,j])
def lo(N:Ô):À Int:=N.take (mid N)
def up(N:Ô):À Int:=N.drop (mid N)
theorem W8(N:Ô):lo N++up N=N:=QaP _ _
theorem Vv{N:Ô}(h:Å7):(lo N).length<ĩ/\1<=(lo N).length:=by unfold lo mid;rw[Qx];lia
theorem U1{N:Ô}(h:Å7):(up N).length<ĩ/\1<=(up N).length:=by unfold up mid;rw[QL];lia
def ZY(N:Ô):Int×Int:=(ÇR 0,ÇS 0,)
abbrev StL:=À ((Int×Int)×Ã Ò1)
def stV:Ã Ò1->V
 | none=>.non
 | some t=>.ref t.1
def kvS(s:StL):À (À Key×V):=s.map λe=>([.inl e.1.1,.inl e.1.2],stV e.2,)
def AtS(H:Hp)(s:StL):Prop:=∀e∈s,∀t,e.2=aa t->H t.1=aa #[fT,t.2.1,t.2.2]
def Z4(s:StL)(k:Ŏ):Ã (Ã Ò1):=#[iZ,s.find?,e,e.1,k].map Ĩ
def XY(s:StL)(k:Ŏ)(v:ÃE):StL:=if s.any Îc then s.map Úe else s++[(k,v,)]
theorem AtS.mono{H b:Hp}{s:StL}(h:AtS H s)(k:#[e8,a,xs,H,ű,b]):AtS b s:=λe he t ht=>k _ _ (h e he t ht)
theorem NM{a b:Ŏ}(h:([.inl a.1,.inl a.2]:À Key)=[.inl b.1,.inl b.2]):a=b:=by obtain a1|a2:=a;obtain b1|b2:=b;injection h with f c;injection c with c _;have d:=Æs f;have e:=Æs c;simp only at d e;rw[d,e]
theorem IV(k:Ŏ):∀s:StL,YW (kvS s) Ò2=(Z4 s k).map stV
 | []=>rfl
 | e::s=>by
  have ih:=IV k s;by_cases h:e.1=k
  ·unfold kvS Z4;rw[Qh,TZ (by rw[h])];simp[Âf,h]
  ·unfold kvS at ih ⊢;rw[Qh,TY Ò3,ih];unfold Z4;simp[Âf,h]
theorem ZsC(k:Ŏ)(s:StL):((kvS s).any λa=>decide (a.1=(Ò2:À Key)))=s.any λe=>decide (e.1=k):=by
 unfold kvS;rw[Ò4];congr 1;funext e;rw[k7];by_cases h:e.1=k
 ·rw[û h,û (by rw[h])]
 ·rw[Ē h,Ē Ò3]
theorem RV(s:StL)(k:Ŏ)(v:ÃE):Yr (kvS s) Ò2 (stV v)=kvS Êt:=by
 unfold Yr XY;rw[ZsC];split
 ·unfold kvS;rw[Qz,Qz];congr 1;funext e;rw[k7];by_cases h:e.1=k
  ·rw[Æ h,Æ (by rw[h])]
  ·rw[È h,È Ò3]
 ·unfold kvS;rw[Qi];rfl
theorem Zqp(s:StL)(k:Ŏ)(v:ÃE):(Êt).length<=Ŗ+1:=by
 unfold XY;split
 ·rw[Qa];lia
 ·rw[Qg];exact Qd _
theorem Wb(s:StL)(k j:Ŏ)(v:ÃE):Z4 Êt j=if j=k then aa v else Z4 s j:=by
 unfold XY;split
 ·rename_i h;induction s with
  | nil=>simp at h
  | Ñ e s f =>
   unfold Z4 at f ⊢;by_cases b:e.1=k
   ·by_cases a:j=k
    ·subst a;simp[Âf,b]
    ·have c:¬ k=j:=λz=>a Çf;rw[Qh,Æ b,QaK (by simp[b,c]),QaK (by simp[b,c]),È a];by_cases d:s.any Îc=true
     ·have:=f d;rw[È a]at this;rw[wr]
     ·have:s.map Úe=s:=by
       rw[List.map_eq_iff];intro i;cases l:s[i]? with
       | none=>rfl
       | some x=>have g:¬ x.1=k:=λz=>d (Ò5 (x,Qm l,by simpa using z));simp[g]
      rw[this]
   ·have d:s.any Îc=true:=by simpa [b] using h
    rw[Qh,È b];by_cases a:e.1=j
    ·have:¬ j=k:=λz=>b (a.trans z);rw[Úf Åo,Úf Åo,È this]
    ·rw[QaK Åo,QaK Åo];exact f d
 ·rename_i h;unfold Z4;rw[Øs];by_cases a:j=k
  ·subst a;have:s.find? (λe=>decide (e.1=j))=ah:=by rw[List.find?_eq_none];intro x g z;exact h (Ò5 (x,g,z))
   rw[this];simp
  ·have c:¬ k=j:=λz=>a Çf;rw[ti,a];simp[c]
theorem AtS.put{H:Hp}{s:StL}{k:Ŏ}{v:ÃE}(h:AtS H s)(b:Úg):AtS H Êt:=by
 unfold XY;split
 ·intro e he t a;rw[eV,x,c,he];split at a
  ·exact b t a
  ·exact h x c t a
 ·intro e he t a;rcases ÿ he with he|he
  ·exact h e he t a
  ·rw[ó he]at a;exact b t a
theorem IU{s:StL}{k:Ŏ}{v:ÃE}(h:Z4 s k=aa v):(k,v,)∈s:=by
 unfold Z4 at h;obtain e|a|rfl:=Qbc.mp h;have b:=ÑY;have:e.1=k:=by simpa using b
 rw[<- this];exact QaA a
def Zxb(hd:Hd)(s:StL)(N:Ô):Prop :=
 (∀a b x y,Win hd (lo N) (aa a)->Win hd (up N) (aa b)->hd a=aa x->hd b=aa y->∃t,Z4 s (ZY N)=aa (aa (t,if ZW x y<0\/Ò0 then b else a,#[hD,x,y],))) /\
 ((Win hd (lo N) ah\/Win hd (up N) ah)->Z4 s (ZY N)=ah\/Z4 s (ZY N)=aa ah)
def XD(hd:Hd)(s:StL):Nat->À Int->Prop
 | 0,_=>Μ
 | n+1,N=>2<=ĩ->XD hd s n (lo N)/\XD hd s n (up N)/\Zxb hd s N
def WZ:Nat->À Int->Int×Int->Prop
 | 0,_,_=>ĝ
 | n+1,N,k=>2<=ĩ/\(WZ n (lo N) k\/WZ n (up N) k\/k=ZY N)
abbrev Yk(N:Ô):Prop:=N.Pairwise (·<·)
theorem RU{N:Ô}(h:Yk N):Yk (lo N):=h.sublist ÕC
theorem RT{N:Ô}(h:Yk N):Yk (up N):=h.sublist (List.drop_sublist _ _)
theorem RS{N:Ô}(h:Yk N):Ëw:=h.imp λ{a b} hJ e=>by lia
theorem ZT{N:Ô}(h:Yk N){a b:Int}(ha:a∈lo N)(hb:b∈up N):a<b:=by
 have:Yk (lo N++up N):=by rw[W8];exact h
 exact(List.pairwise_append.mp this).2.2 a ha b hb
theorem Uo{N:Ô}(h:N≠[]):ÇR 0∈N:=by
 cases N with
 | nil=>exact #[t2,h]
 | Ñ a r=>simp
theorem Um{N:Ô}(h:N≠[]):ÇS 0∈N:=by rw[QaB,Qa3 h];exact List.getLast_mem h
theorem W7{N:Ô}(h:1<=ĩ):N≠[]:=λz=>by rw[z]at h;simp at h
theorem NL{N:Ô}(h:Å7):(ZY N).2=(up N).getLastD 0:=by
 have a:=W7 (U1 h).2;show ÇS 0=_;rw[QaB,QaB]
 conv=>lhs;rw[<- W8 N]
 rw[List.getLast?_append,Qa3 a];rfl
theorem NK{N:Ô}(h:Å7):(ZY N).1=(lo N).headD 0:=by
 have b:=W7 (Vv h).2;show ÇR 0=_
 conv=>lhs;rw[<- W8 N]
 cases c:lo N with
 | nil=>exact Î c b
 | Ñ a r=>rfl
theorem Ul:∀ (n:Nat) (N:À Int) (k:Int×Int),WZ n N k->k.1∈N/\k.2∈N
 | 0,_,_,h=>Àf
 | n+1,N,k,⟨h2,h⟩=>by
  rcases h with h|h|rfl
  ·have:=Ul n _ k h;rw[<- W8 N];exact(QR _ this.1,QR _ this.2)
  ·have:=Ul n _ k h;rw[<- W8 N];exact(QD _ this.1,QD _ this.2)
  ·have a:N≠[]:=W7 Á;exact(Uo a,Um a)
theorem NJ{N:Ô}(hr:Yk N)(h2:Å7){n:Nat}{k:Ŏ}(h:WZ n (lo N) k):k≠ZY N/\∀m,¬ WZ m (up N) k:=by
 rw[qd]
 ·rw[Aq,b,NL];have:=ZT hr this.2 (Um (W7 (U1 h2).2));lia
 ·have:=ZT hr this.1 (Ul m _ k a).1;lia
theorem NI{N:Ô}(hr:Yk N)(h2:Å7){n:Nat}{k:Ŏ}(h:WZ n (up N) k):k≠ZY N/\∀m,¬ WZ m (lo N) k:=by
 rw[qd]
 ·rw[Aq,b,NK];have:=ZT hr (Uo (W7 (Vv h2).2)) this.1;lia
 ·have:=ZT hr (Ul m _ k a).1 this.1;lia
theorem XD.congr{hd d:Hd}{s s':StL}:∀ (n:Nat) (N:À Int),(∀m∈N,d m=hd m)->(∀k,WZ n N k->Z4 s' k=Z4 s k)->XD hd s n N->XD d s' n N
 | 0,_,_,_,_=>Àc
 | n+1,N,l,hk,h=>λh2=>by
  obtain a|b|c1|q:=h h2;have g:∀m∈lo N,d m=hd m:=λm c=>l m (by rw[<- W8 N];exact QR _ c);have i:∀m∈up N,d m=hd m:=λm c=>l m (by rw[<- W8 N];exact QD _ c);have e:∀m∈lo N,hd m=d m:=λm c=>(g m c).symm;have f:∀m∈up N,hd m=d m:=λm c=>(i m c).symm;refine(XD.congr n _ g (λk j=>hk k (h2,.inl j)) a,XD.congr n _ i (λk j=>hk k (h2,.inr (.inl j))) b,λa b x y o p r t=>?_,λhw=>?_)
  ·rw[hk _ (h2,.inr ÁW)];exact c1 a b x y (Ês e o) (Ês f p) #[uk,g,a,o.1,r] #[uk,i,b,p.1,t]
  ·rw[hk _ (h2,.inr ÁW)];refine q ?_;rcases hw with hw|hw
   ·exact .inl (Ês e hw)
   ·exact .inr (Ês f hw)
inductive YM (hd:Hd):Nat->À Int->Int->Int->Prop
 | few {n:Nat} {N:À Int}:ĩ<2->YM hd n N 0 0
 | none {n:Nat} {N:À Int} {k l k' l':Int}:2<=ĩ->YM hd n (lo N) k l->YM hd n (up N) k' l'->(Win hd (lo N) ah\/Win hd (up N) ah)->YM hd (n+1) N (k+k') (l+l')
 | both {n:Nat} {N:À Int} {k l k' l':Int} {a b:Int} {x y:À Nat}:2<=ĩ->YM hd n (lo N) k l->YM hd n (up N) k' l'->Win hd (lo N) (aa a)->Win hd (up N) (aa b)->hd a=aa x->hd b=aa y->YM hd (n+1) N (k+k'+1) (l+l'+(lcp x y:Nat)+1)
theorem Êu{hd:Hd}:∀ {n m:Nat} {N:À Int} {k l k' j:Int},YM hd n N k l->YM hd m N k' j->k=k'/\l=j
 | _,_,_,_,_,_,_,.few h,p=>by
  cases p with
  | few _=>exact Ο
  | none h2 _ _ _=>lia
  | both h2 _ _ _ _ _ _=>lia
 | _,_,_,_,_,_,_,.none h2 a b hw,p=>by
  cases p with
  | few h=>lia
  | none _ c d _=>obtain t|u:=Êu a c;obtain v|w:=Êu b d;exact ÂG
  | both _ c d e f o q =>
   rcases hw with hw|hw
   ·exact nomatch hw.one e
   ·exact nomatch hw.one f
 | _,_,_,_,_,_,_,.both h2 a b e f o q,p=>by
  cases p with
  | few h=>lia
  | none _ c d hw =>
   rcases hw with hw|hw
   ·exact nomatch hw.one e
   ·exact nomatch hw.one f
  | both _ c d g i r s=>obtain t|u:=Êu a c;obtain v|w:=Êu b d;have x:=Qv (e.one g);have y:=Qv (f.one i);subst x y;rw[gv,o,r,r];rw[gv,q,s,s];exact ÂG
def kk(e:am×Int):À Key:=[.inr e.1,.inl e.2]
def oV:Ã am->V
 | none=>.non
 | some s=>.str s
def Yx:Ã Int->V
 | none=>.non
 | some a=>.int a
def kvH(E:Êv):À ÂI:=E.map λe=>(.inl e.1,oV e.2,)
def lk(E:Êv)(n:Int):Ã am:=#[iZ,E.find?,e,e.1,n].bind Ĩ
structure Hds (H:Hp) (D:af) (E:Êv):Prop where
 at':H D=aa (.dK (kvH E))
 nd:(E.map ċ).Nodup
 ok:∀e∈E,∀s,e.2=aa s->Ŗ<=1000/\AZ s
theorem ZuH(N:Ô):Xk N=lo N:=rfl
theorem ZuI(N:Ô):Wc N=up N:=rfl
abbrev XX:=Int×af×À am×Nat
def kvR(L:À XX):À ÂI:=ŏ λe=>(.inl e.1,.ref e.2.1,)
def kvG(L:À XX):À ÂI:=ŏ λe=>(.inl e.1,.int (e.2.2.2:Int),)
def Zw2(ra ga:af)(nb li lo:Int):À ÂI:=[#[tU,"rows",ra],#[tU,"gone",ga],(.inr "number",.int nb,),(.inr "likenings",.int li,),(.inr "looks",.int lo,)]
structure Own (H:Hp) (o ra ga:af) (L:À XX) (nb li lo:Int):Prop where
 at':H o=aa (.dK (Zw2 ra ga nb li lo))
 ð:H ra=aa (.dK (kvR L))
 gone:H ga=aa (.dK (kvG L))
 nd:(Ò7).Nodup
 few:ż<=60
 lst:∀e∈L,H e.2.1=aa #[iI,e.2.2.1.map]/\e.2.2.1.length<=200/\e.2.2.2<=e.2.2.1.length/\∀s∈e.2.2.1,Ŗ<=1000/\AZ s
theorem IT{ns:Ô}(h:ns.Nodup):(ÅF (Âg:Int->Key)).Nodup:=Ò6 _ (λa b c z=>c Îd) h
theorem Àn{H:Hp}{a:af}{kvs:Θ}{k:Key}{r:Ã V}(e:É0)(h:YW kvs k=r):Y0 H a (kV k) r:=by rw[<- h];exact Y0.k e
structure HdOf (L:À XX) (E:Êv):Prop where
 per:(E.map ċ).Perm Ò7
 up:(E.map ċ).Pairwise (·<·)
 hd:∀e∈L,(e.1,e.2.2.1[e.2.2.2]?,)∈E
def hdL(L:À XX):Hd:=λn=>(#[iZ,L.find?,e,e.1,n].bind λe=>e.2.2.1[e.2.2.2]?).map cds
theorem NH:∀ {L:À XX},(Ò7).Nodup->∀ {e:XX},e∈L->hdL L e.1=(e.2.2.1[e.2.2.2]?).map cds
 | [],_,_,h=>by cases h
 | x::r,nd,e,h=>by
  rw[yQ];unfold hdL;rw[Q8];rcases î h with rfl|h
  ·rw[yr];rfl
  ·rw[Ē (λz:x.1=e.1=>nd.1 (by rw[z];exact Qk (f:=λx:XX=>x.1) h))];exact NH nd.2 h
theorem Win.perm{hd:Hd}{N M:Ô}{v:Δ}(h:Win hd N v)(p:N.Perm M):Win hd M v:=by
 cases v with
 | none=>exact λn d=>h n (p.mem_iff.mpr d)
 | some a=>obtain e|x|f|g:=h;exact(p.mem_iff.mp e,x,f,λb c=>g b (p.mem_iff.mpr c))
def ZwO(L:À XX)(H:Hp)(x:V):Prop:=(x=.non/\Win (hdL L) Ò7 ah)\/X3 λ(t:af) (e:XX) (z:am)=>x=.ref t/\e∈L/\e.2.2.1[e.2.2.2]? = aa z/\H t=aa #[gi,e.1,e.2.2.2,z]/\Win (hdL L) Ò7 (aa e.1)
def Wa(L:À XX):À Int:=ŏ λe=>(e.2.2.1.length:Int)-(e.2.2.2:Int)
structure ZuM (H:Hp) (r:af) (rs:À (af×À am)):Prop where
 at':H r=aa #[iQ,rs.map,x,x.1]
 few:Çn<=60
 lst:∀x∈rs,H x.1=aa #[iI,x.2.map]/\x.2.length<=200/\∀s∈x.2,Ŗ<=1000/\AZ s
theorem ZrY(n:Nat):(X1 0 n).Pairwise (·<·):=by unfold X1;exact Ò6 _ (λa b h=>by lia) (List.pairwise_lt_range)
def To(K:Ä):Sp:=λvs H Q _=>X3 λ(n:Int) (a:af) (ss:À am)=>C6 (vs=[.int n,.ref a]) ÇL #[uf,400] Êq (WF ss .non) (∀b,Zu H b->Q .non b)
theorem Zo6(T:Ø)(c:Ò8):Df P w K mg Â 5 "refuse_break" Êh (To K):=by
 rw[ey,T.t_refuse_break.df,Sf,d,g];obtain n|a|b|rfl|i|j|k|l|q:=h;refine(_,#[Zc,#[Zq,2,Sf.nd,á,#[Ac,c,g]],#[Zh,#[ZN,#[eL,UK,2,Ł],ÄV,ï]]],_,rfl,a,b,rfl,i,j,k,λv m o p=>?_);have e:=NO o l;subst e;exact(_,rfl,rfl,_,rfl,Y7 (q m p))
structure Zz where
 n:Int
 p:af
 k:af
 f:af
 ss:À am
 g:Nat
def toL(e:Zz):XX:=(e.n,e.p,ì,e.g,)
def hdM(L:ù):Hd:=hdL ÄW
def ZC(L:ù):À Int:=ŏ (·.n)
theorem Uk(L:ù):(ÄW).map ċ=ZC L:=by rw[Qz];rfl
def kvM(L:ù):À ÂI:=ŏ λe=>(.inl e.n,.ref e.p,)
theorem U0{L:ù}(nd:Êw){e:Zz}(he:e∈L):hdM L e.n=(ì[e.g]?).map cds :=
 NH (L:=ŏ toL) #[eH,Uk,nd] (Qk (f:=toL) he)
theorem ZqF(L:ù):(Êx).map ċ=(Ů).map (Âg:Int->Key):=by unfold kvM ZC;rw[Qz,Qz];rfl
theorem V9{L:ù}(nd:Êw){e:Zz}(he:e∈L):YW Êx (.inl e.n)=aa (.ref e.p):=Ps #[fs,ZqF,IT,nd] (Qk (f:=λe:Zz=>((.inl e.n:Key),ø e.p,)) he)
theorem Tn{L:ù}{n:Int}(h:n∈ZC L):∃e∈L,e.n=n:=Ι h
def mgF(rd:af)(nb li lo:Int)(sd:af)(a:V):À ÁR:=[("rows",.ref rd,),("next_number",.int nb,),("likened",.int li,),("looked",.int lo,),("stays",.ref sd,),("best",a,)]
theorem NG:¬ #[iD,"rows","next_number"]:=by ac_rfl
theorem NF:¬ #[iD,"rows","likened"]:=by ac_rfl
theorem NE:¬ #[iD,"rows","looked"]:=by ac_rfl
theorem ND:¬ #[iD,"rows","stays"]:=by ac_rfl
theorem NC:¬ #[iD,"rows","best"]:=by ac_rfl
theorem NA:¬ #[iD,"next_number","likened"]:=by ac_rfl
theorem Nz:¬ #[iD,"next_number","looked"]:=by ac_rfl
theorem Ny:¬ #[iD,"next_number","stays"]:=by ac_rfl
theorem Nx:¬ #[iD,"next_number","best"]:=by ac_rfl
theorem Nw:¬ #[iD,"likened","looked"]:=by ac_rfl
theorem Nv:¬ #[iD,"likened","stays"]:=by ac_rfl
theorem Nu:¬ #[iD,"likened","best"]:=by ac_rfl
theorem Nt:¬ #[iD,"looked","stays"]:=by ac_rfl
theorem Nr:¬ #[iD,"looked","best"]:=by ac_rfl
theorem Nq:¬ #[iD,"stays","best"]:=by ac_rfl
theorem Vu(f:am)(v x:V)(r:À ÁR):Zx f v ((f,x,)::r)=(f,v,)::r:=by unfold Zx;rw[Æ rfl]
theorem Zy{f g:am}(h:¬ g=f)(v x:V)(r:À ÁR):Zx f v ((g,x,)::r)=(g,x,)::Zx f v r:=by show (if g=f then (g,v,)::r else (g,x,)::Zx f v r)=_;rw[È h]
theorem WY(f:am)(v:V):Zx f v []=[(f,v,)]:=rfl
theorem Vt(rd:af)(nb li lo:Int)(sd:af)(a:V):mgF rd nb li lo sd a=Zx "best" a (Zx "stays" (.ref sd) (Zx "looked" (.int lo) (Zx "likened" (.int li) (Zx "next_number" (.int nb) (Zx "rows" (.ref rd) []))))):=by rw[WY,Zy NG,WY,Zy NF,Zy NA,WY,Zy NE,Zy Nz,Zy Nw,WY,Zy ND,Zy Ny,Zy Nv,Zy Nt,WY,Zy NC,Zy Nx,Zy Nu,Zy Nr,Zy Nq,WY];rfl
section
variable (rd:af) (nb li lo:Int) (sd:af) (aI:V)
theorem Z8:(ÇT).lookup ("rows" : am)=aa (.ref rd):=by rw[Vt,Zr,È NC,Zr,È ND,Zr,È NE,Zr,È NF,Zr,È NG,Zr,Æ rfl]
theorem Np:(ÇT).lookup ("next_number" : am)=aa (.int nb):=by rw[Vt,Zr,È Nx,Zr,È Ny,Zr,È Nz,Zr,È NA,Zr,Æ rfl]
theorem No:(ÇT).lookup ("likened" : am)=aa (.int li):=by rw[Vt,Zr,È Nu,Zr,È Nv,Zr,È Nw,Zr,Æ rfl]
theorem IS:(ÇT).lookup ("looked" : am)=aa (.int lo):=by rw[Vt,Zr,È Nr,Zr,È Nt,Zr,Æ rfl]
theorem Tl:(ÇT).lookup ("stays" : am)=aa (.ref sd):=by rw[Vt,Zr,È Nq,Zr,Æ rfl]
theorem Tj:(ÇT).lookup ("best" : am)=aa aI:=by rw[Vt,Zr,Æ rfl]
theorem Xt{m:am}(h1:¬ m = "rows")(h2:¬ m = "next_number")(a:¬ m = "likened")(b:¬ m = "looked")(c:¬ m = "stays")(d:¬ m = "best"):(ÇT).lookup m=ah:=by rw[Vt,Zr,È d,Zr,È c,Zr,È b,Zr,È a,Zr,È h2,Zr,È h1];rfl
theorem ZhK(v:Int):Zx "next_number" (.int v) ÇT=mgF rd v li lo sd aI:=by unfold mgF;rw[Zy NG,Vu]
theorem IR(v:Int):Zx "likened" (.int v) ÇT=mgF rd nb v lo sd aI:=by unfold mgF;rw[Zy NF,Zy NA,Vu]
theorem ZhI(v:Int):Zx "looked" (.int v) ÇT=mgF rd nb li v sd aI:=by unfold mgF;rw[Zy NE,Zy Nz,Zy Nw,Vu]
theorem ZiU(x:af):Zx "stays" ÀL ÇT=mgF rd nb li lo x aI:=by unfold mgF;rw[Zy ND,Zy Ny,Zy Nv,Zy Nt,Vu]
theorem RR(x:V):Zx "best" x ÇT=mgF rd nb li lo sd x:=by unfold mgF;rw[Zy NC,Zy Nx,Zy Nu,Zy Nr,Zy Nq,Vu]
theorem VT:(ÇT).length<1000:=by show 6<1000;decide
universe E
structure WD (C:af) (H:Hp) (e:Zz):Prop where
 at':U4 C H e.p e.k e.f ì e.g
 le:e.g<=ψ
 len:ψ<=200
 srt:ŝ ì=true
 str:∀s∈ì,Ŗ<=1000/\AZ s
structure ZQ (cR cM:af) (H:Hp) (m rd sd:af) (L:ù) (s:StL) (nb li lo:Int) (aI:V):Prop where
 ob:∃dx,H m=aa (.ins cM dx ÇT)
 ð:H rd=aa Å8
 stays:H sd=aa (.dT (kvS s))
 ats:AtS H s
 each:∀e∈L,WD cR H e
 up:Yk Ů
 pd:#[zG].Nodup
 few:ż<=60
 sfew:Ŗ<=200
def Fp(m rd sd:af)(L:ù)(b:af):Prop:=b=m\/b=rd\/b=sd\/∃e∈L,b=e.p\/b=e.k\/b=e.f
theorem WD.keep{C:af}{H a:Hp}{e:Zz}(h:WD C H e)(b:a e.p=H e.p)(hk:a e.k=H e.k)(hf:a e.f=H e.f):WD C a e :=
 ((by rw[b];exact h.at'.ob,by rw[hk];exact h.at'.ks,by rw[hf];exact h.at'.fs),h.le,ÄX,h.srt,h.str)
section
variable {cR cM:af} {H H':Hp} {m rd sd:af} {L:À Zz} {s:StL} {nb li lo:Int} {aI:V}
theorem ZQ.nd(h:ÄY):(Ů).Nodup:=RS h.up
theorem ZQ.keep(h:ÄY)(k:∀b o,H b=aa o->Fp m rd sd L b\/Ò9->H' b=aa o):ZQ cR cM H' m rd sd L s nb li lo aI:=by
 refine(?_,k _ _ ÇU (.inl Îe),k _ _ ÇV (.inl ÅY),λe a t d=>k _ _ (h.ats e a t d) (.inr ā),λe a=>?_,h.up,h.pd,ÄZ,h.sfew)
 ·rw[uq,c];exact(c,k _ _ hd (.inl Đ))
 ·rw[z8,a,c,hd];exact(((c,k _ _ hd (.inl (.inr (.inr (.inr (e,a,.inl rfl)))))),k _ _ Îf (.inl (.inr (.inr (.inr (e,a,.inr Đ))))),k _ _ Îg (.inl (.inr (.inr (.inr (e,a,.inr ÁW)))))),r.le,r.len,r.srt,r.str)
theorem ZQ.same(h:ÄY)(k:Zu H H'):ZQ cR cM H' m rd sd L s nb li lo aI:=h.keep λb o hb _=>k b o hb
theorem ZQ.ne_p(h:ÄY){e:Zz}(he:e∈L):m≠e.p/\m≠e.k/\m≠e.f:=by
 rw[uq,dx];rw[z8,he,dy,b];refine Úh
 ·rw[z,b]at hd;injection hd with hd;injection hd with _ _ hd;have a:=U5 e.k e.f (e.g:Int);rw[hd,Xt _ _ _ _ _ _ ä ä ä ä ä ä]at a;cases a
 ·rw[Av,Îf,hd]
 ·rw[Av,Îg,hd]
theorem ZQ.ne_m(h:ÄY):m≠rd/\m≠sd/\rd≠sd:=by
 rw[uq,dx];refine Úh
 ·rw[Av,ÇU,hd]
 ·rw[Av,ÇV,hd]
 ·have:=ÇU;rw[iz,ÇV]
theorem ZQ.ne_sd(h:ÄY){e:Zz}(he:e∈L):sd≠e.p/\sd≠e.k/\sd≠e.f/\rd≠e.p/\rd≠e.k/\rd≠e.f:=by
 rw[z8,he,dy,c];have a:=ÇV;have b:=ÇU;refine(λz=>?_,λz=>?_,λz=>?_,λz=>?_,λz=>?_,λz=>?_)
 ·rw[Av,c,a]
 ·rw[Av,Îf,a]
 ·rw[Av,Îg,a]
 ·rw[Av,c,b]
 ·rw[Av,Îf,b]
 ·rw[Av,Îg,b]
theorem ZQ.obj(h:ÄY){nb' li' lo':Int}{Å9:V}{dx:af}:ZQ cR cM (upd H m (.ins cM dx (mgF rd nb' li' lo' sd Å9))) m rd sd L s nb' li' lo' Å9:=by
 rw[ja,f,g,n3,h.ne_m];rw[uq,dy];refine((dx,Zb),by rw[Ze f.symm];exact ÇU,by rw[Ze g.symm];exact ÇV,λe d t i=>?_,λe d=>?_,h.up,h.pd,ÄZ,h.sfew)
 ·have:=h.ats e d t i;rw[fF,hd]
 ·rw[sX,a,b,c,h.ne_p,d];rw[gP,h.each,d]
theorem ZQ.put(h:ÄY){k:Ŏ}{v:ÃE}(i:Úg)(hs:(Êt).length<=200):ZQ cR cM Úi m rd sd L Êt nb li lo aI:=by
 rw[ja,n1,j,l,h.ne_m];rw[uq,n];have tup:#[z5,d,H,Úi]:=λa d f=>by rw[Ze (λz=>by rw[z,ÇV]at f;cases f)];exact f
 refine((n,by rw[Ze j];exact hd),by rw[Ze l];exact ÇU,Zb,(h.ats.put i).mono tup,λe g=>?_,h.up,h.pd,ÄZ,hs);obtain a|b|c|_:=h.ne_sd g;rw[gP,h.each,g]
universe E
def Nm(g h:af):Sp:=λvs H Q _=>X14 λ(m rd sd:af) (L:À Zz) (s:StL) (nb li lo:Int) (i:V) (a b:Zz) (x y:am) (d:Nat)=>C8 (vs=[.ref m,.int a.n,.int b.n,.int (d:Int)]) #[eZ,g,h,i] (a∈L) (b∈L) (a.ss[a.g]? = aa x) (b.ss[b.g]? = aa y) (d<=lcp ć ě) (∀ (t:af) (e f:Int) (c:Hp),(Btr ć a.n ě b.n/\e=a.n/\f=b.n\/¬ Btr ć a.n ě b.n/\e=b.n/\f=a.n)->H t=ah->c t=aa (.tup [.int e,.int f,.int (ÀH:Int)]) ->
  ZQ g h c m rd sd L s nb (li+1) (lo+(ÀH-(d:Int)+1)) i->#[f6,o,H,m,c]->Q Âs c)
theorem Ti{ss:Ï}{g:Nat}{x:am}(h:ss[g]? = aa x):WE ss g=.str x:=by unfold WE;rw[h]
theorem UZ(k f:af)(g:Int):(Í3).lookup ("head" : am)=ah:=Îh
theorem Zti(T:Ø)(bh:ÇW)(hW:Új):Mf P w K mg Â 3 ao "meet" ÍG (Nm ax ao):=by
 rw[ey,T.t_Merge_meet.mf,Sg,vs,D];obtain m|j|C|L|s|l|p|lo|r|a|b|x|y|u|rfl|M|ha|B|hx|hy|hf|q:=h;refine(_,#[Zc,#[Yy,#[ZG,hW,D,#[Zd,#[Ym,bh,Ņ,D,#[i1,D,1]],#[Ym,bh,Ņ,D,#[i1,D,2]],‹3›],Ë],#[gt,4,Sg.nd,5,6]],#[Zc,Óa,#[Zc,#[Vl,‹0›,‹6›,T3],#[Zc,#[ZN,(@Ő _ _ _ #[Xb,#[eL,WB,4,Ú],#[Xc,(@Ő _ _ _ #[W5,#[eL,Yu,4,Ú],#[WU,#[Zn,WB,‹1›,‹2›,č]]])]]),#[Zh,#[Zl,#[ZS,#[fK,1,2,5]]]],ï],#[Zh,#[Zl,#[ZS,#[fK,2,1,5]]]]]]]],?_);rw[hr,dx,N];have O:=ÀZ a ha;have R:=ÀZ b B;rw[e2,da,S,O.at'.ob];rw[e2,db,U,Êy];have lx:=(O.str x (Qm hx)).1;have ly:=(R.str y (Qm hy)).1;refine(_,rfl,m,ao,dx,_,_,rfl,N,æ,ť,Z8 ..,_,rfl,j,_,rfl,Àn (k:=.inl a.n) ņ (V9 ů ha),a.p,da,_,rfl,S,UZ ..,a.p,a.k,a.f,a.ss,a.g,rfl,O.at',_,rfl,m,ao,dx,_,_,rfl,N,æ,ť,Z8 ..,_,rfl,j,_,rfl,Àn (k:=.inl b.n) ņ (V9 ů B),b.p,db,_,rfl,U,UZ ..,b.p,b.k,b.f,b.ss,b.g,rfl,R.at',?_);rw[Ti hx,Ti hy];refine(_,rfl,x,y,u,rfl,lx,ly,hf,λt ht=>?_);have I:=Zf ht Úk;rw[e3,sE,H,t,Úk];generalize upd H t (.tup [.int (ZW (cds x) (cds y)),.int (lcp (cds x) (cds y):Nat),.int ((lcp (cds x) (cds y):Nat)-(u:Int)+1)])=V at I sE ⊢;have M1:=ÃF I;rw[hs,t,sE];have gx:=I _ _ N;rw[gX,gx,Îi,No,IR];have M2:=M1.obj (nb':=l) (li':=p+1) (lo':=lo) (Å9:=r) (dx:=dx);have k2:#[ss,o,H,m,V,Úl]:=λb o B n=>by rw[Ze n];exact I b o B
 rw[sr,W,V,m,Úl];generalize upd V m (.ins ao dx (mgF j l (p+1) lo C r))=H2 at M2 k2 W ⊢;refine(_,rfl,m,ao,dx,_,_,rfl,W,æ,Ób,IS ..,_,rfl,_,_,rfl,rfl,dx,_,W,VT ..,?_);rw[ZhI];have X:=M2.obj (nb':=l) (li':=p+1) (lo':=lo+(ÀH-(u:Int)+1)) (Å9:=r) (dx:=dx);have Y:∀b o,H b=aa o->b≠m->(upd H2 m (.ins ao dx (mgF j l (p+1) (lo+(ÀH-(u:Int)+1)) C r))) b=aa o:=λb o B n=>by rw[Ze n];exact k2 b o B n
 generalize upd H2 m (.ins ao dx (mgF j l (p+1) (lo+((lcp (cds x) (cds y):Nat)-(u:Int)+1)) C r))=H3 at X Y ⊢;have v:∀F G:Int,(Btr ć a.n ě b.n/\F=a.n/\G=b.n\/¬ Btr ć a.n ě b.n/\F=b.n/\G=a.n)->∀c,H3 c=ah->Q ÄJ (upd H3 c (.tup [.int F,.int G,.int (ÀH:Int)])):=λF G hw c i=>by
  have gY:H c=ah:=by
   cases e:H c with
   | none=>rfl
   | some o =>
    by_cases z:c=m
    ·rw[e2,dz,hz,X.ob];rw[Av,hz,i]
    ·rw[Y c o e z]at i;cases i
  exact q c F G _ hw gY Zb (X.same (Zf i _)) (λb o B n=>Zf i _ _ _ (Y b o B n))
 have J:3<=aq:=by decide
 refine Úm
 ·have d':ZW ć ě<0:=ÀY;exact Y3 (_,rfl,_,rfl,_,rfl,J,λc i=>v _ _ (.inl (.inl d',rfl,rfl)) c i)
 have d1:¬ ZW ć ě<0:=Å6;refine(_,rfl,rfl,_,rfl,Z5 (λe=>?_) (λe=>?_))
 ·have Z:ZW ć ě=0:=by have:=#[eQ,e];rw[yS]
  refine Ún
  ·have g':a.n<b.n:=#[eQ,g];exact(_,rfl,_,rfl,_,rfl,J,λc i=>v _ _ (.inl (.inr (Z,g'),rfl,rfl)) c i)
  ·have g':¬ a.n<b.n:=λz=>g ÃB;exact(_,rfl,_,rfl,_,rfl,J,λc i=>v _ _ (.inr (λz=>by rcases z with z|z;exact d1 z;exact g' z.2,rfl,rfl)) c i)
 ·have Z:ZW ć ě≠0:=λz=>e (û (by rw[z]));exact Y7 (_,rfl,_,rfl,_,rfl,J,λc i=>v _ _ (.inr (λz=>by rcases z with z|z;exact d1 z;exact Z z.1,rfl,rfl)) c i)
theorem ZQ.cast{a b:af}{H:Hp}{m rd sd:af}{L:ù}{s:StL}{nb li lo li' lo':Int}{c:V}(h:#[ga,a,b,c])(d:li=li')(e:lo=lo'):ZQ a b H m rd sd L s nb li' lo' c:=by subst d;subst e;exact h
theorem IQ{N:Ô}(h:N≠[]):atI (N.map ß) (-1)=aa (.int (ÇS 0)):=by
 have e:N=N.dropLast++[N.getLast h]:=(List.dropLast_concat_getLast h).symm;have:=ZrD (N.dropLast.map ß) (ß (N.getLast h));rw[QaB,Qa3 h]
 conv=>lhs;rw[e,Qi]
 rw[wr]
theorem IP{N:Ô}(h:N≠[]):atI (N.map ß) 0=aa (.int (ÇR 0)):=by
 cases N with
 | nil=>exact #[t2,h]
 | Ñ a r=>exact Ya (j:=0) rfl
theorem Nl(rd:af)(nb li lo:Int)(sd:af)(a:V):#[18].lookup ("play" : am)=ah:=Ào
theorem IN(rd:af)(nb li lo:Int)(sd:af)(a:V):#[18].lookup ("meet" : am)=ah:=Ào
def IM(K:Ä)(c d:af)(n:Nat):Sp:=λvs H Q _=>X11 λ(m rd sd:af) (L:À Zz) (s:StL) (nb li lo:Int) (e:V) (l:af) (N:À Int)=>C12 #[it,m,l] #[eZ,c,d,e] (H l=aa #[sz,N.map]) (1<=ĩ) (ĩ<=60) (0<n) (ĩ<=2 ^ (n-1)) ((∀x∈N,x∈ZC L)) (Yk N) ((∀k,WZ n N k->Z4 s k=ah)) (Ŗ+ĩ<=200) (∀ (w:Ã Int) (s':StL) (k q:Int) (a:Hp),Win ģ N w->XD ģ s' n N->YM ģ n N k q->(∀j,¬ WZ n N j->Z4 s' j=Z4 s j)->s'.length+1<=Ŗ+ĩ->ZQ c d a m rd sd L s' nb (li+k) (lo+q) e->#[fv,H,sd,a]->Q (Yx w) a)
theorem IL(T:Ø)(bh:ÇW)(fH:Óc)(cu:Úo) :
  ∀n:Nat,Mf P w K mg Â (n+4) ao "play" ÍD (IM K ax ao n)
 | 0=>by
  rw[oK]
  ·rw[pX];rfl
  obtain m|rd|sd|L|s|nb|li|lo|S|l|N|rfl|_|_|_|_|z|_:=h;exact Î z Á
 | n+1=>by
  have cV:=IL T bh fH cu n;rw[oK]
  ·rw[pX];rfl
  obtain m|rd|sd|L|s|nb|li|lo'|S|l|N|rfl|M|B|h1|lV|_|iG|nW|C|gY|hsz|q:=h;rw[Qay]at iG;refine(_,#[Zc,#[ZN,#[Zn,Yu,Úp,Ú,č],#[Zh,#[Zl,#[Yb,#[Zn,Xz,#[Ym,bh,Ņ,hr,#[ZA,(ixG hr),Ģ,ÁH]],Ł,č],Ł,ÁH]]],ï],#[Zc,#[Yy,#[Ac,fH,hr],#[eC,2,VU.nd,3]],#[Zc,#[Zq,4,VU.nd,á,#[tB,cV,hr,ÃG]],#[Zc,#[Zq,5,VU.nd,á,#[tB,cV,hr,Áf]],#[Zc,#[ZN,#[gF,4],#[hJ,5],ï],#[Zc,#[ZN,#[gF,5],#[hJ,4],ï],#[Zc,#[Yy,#[Xm,cu,æ,hr,‹0›,#[Zd,‹4›,‹5›,Ú]],#[gt,6,VU.nd,7,8]],#[Zc,#[Yy,#[ZS,#[fB,7,8]],#[WK,Ģ,#[ZS,#[Zd,ÁH,#[h0,1]]],(Vf hr)]],#[hJ,6]]]]]]]]],?_);rw[zZ];have hN:N≠[]:=W7 h1;have Y:l≠m:=λz=>by rw[z,hm]at B;cases B
  have nsl:l≠sd:=λz=>by rw[z,ÇX]at B;cases B
  have sF:#[sA,N.map]=(ĩ:Int):=by rw[Qa]
  refine(_,rfl,l,_,rfl,.inl (É B),rfl,_,rfl,Z5 β β)
  ·have yt:ĩ=1:=by have:=ÀY;injection this with this;rw[sF]at this;lia
   obtain⟨n0,rfl⟩:∃n0,N=[n0]:=QaL.mp yt;obtain e|he|rfl:=Tn (nW n0 Ù);rw[tQ,R,he,dp,hp,Êy];have cn:atI (([e.n]:À Int).map ß) 0=aa (.int e.n):=Ya (j:=0) rfl;refine(_,rfl,m,ao,dx,_,_,rfl,hm,æ,ť,Z8 ..,_,rfl,l,_,_,_,rfl,rfl,É B,cn,rd,_,rfl,Àn (k:=Æa) ņ (V9 ů he),e.p,dp,_,rfl,hp,UZ ..,e.p,e.k,e.f,ì,e.g,rfl,R.at',rfl,_,rfl,?_);have ce:XD ģ s (n+1) [e.n]:=λh2=>by simp at h2
   have cr:YM ģ (n+1) [e.n] 0 0:=.few #[hh,1,2];have U:=Í9 (hd:=hdM L) (n:=e.n);have hd:=U0 ů he;have M':=M.cast (li':=li+0) (lo':=lo'+0) Á Á;cases g:ì[e.g]? with
   | none=>rw[show WE ì e.g=.non by unfold WE;rw[g]];rw[hd,g]at U;exact Xu rfl (q ah s 0 0 H U ce cr Ä0 ò M' Ód)
   | some x=>rw[Ti g];rw[hd,g]at U;exact XS Àw (_,rfl,l,_,_,_,rfl,rfl,É B,cn,q (aa e.n) s 0 0 H U ce cr Ä0 ò M' Ód)
  have c:Å7:=by have:¬ ((ĩ:Int)=1):=λz=>d (û (by rw[sF,z]));lia
  have hV:1<=n:=by
   cases n with
   | zero=>simp at iG;lia
   | succ m=>lia
  have hpow:2 ^ n=2*2 ^ (n-1):=by obtain⟨m,rfl⟩:∃m,n=m+1:=(n-1,by lia);rw[Qbe,Qay];lia
  have kQ:(lo N).length<=2 ^ (n-1)/\(lo N).length<=60:=by unfold lo mid;rw[Qx];lia
  have Cn:(up N).length<=2 ^ (n-1)/\(up N).length<=60:=by unfold up mid;rw[QL];lia
  have Co:(lo N).length+(up N).length=ĩ:=by rw[<- Qg,W8]
  have Cp:∀x∈lo N,x∈ZC L:=λx g=>nW x (Qaj g);have Cq:∀x∈up N,x∈ZC L:=λx g=>nW x (Q3 g);refine(_,rfl,l,N,rfl,É B,by lia,λt f r H2 ht hf Z Ep fG hf2 bT s2 ntf ntr=>?_);rw[Æ rfl]at fG;rw[ZuH]at hf2;rw[ZuI]at bT;rw[gu,t,fG];have M2:=ÃF s2;have cX:=s2 _ _ hm;have Er:r≠m:=(Zg hm Z).symm;have nfs:r≠sd:=(Zg ÇX Z).symm;refine(_,rfl,m,dx,_,rfl,cX,Nl ..,_,rfl,m,rd,sd,L,s,nb,li,lo',S,f,lo N,rfl,M2,hf2,(Vv c).2,kQ.2,hV,kQ.1,Cp,RU C,λk u=>gY k (c,.inl u),by lia,λw1 s1 k1 q1 H3 i S1 P1 o1 l1 M3 b3=>?_);have i4:=b3 _ _ bT Er nfs;rw[e2,dx3,hm3,M3.ob];refine(_,rfl,m,dx3,_,rfl,hm3,Nl ..,_,rfl,m,rd,sd,L,s1,nb,_,_,S,r,up N,rfl,M3,i4,(U1 c).2,Cn.2,hV,Cn.1,Cq,RT C,λk u=>?_,by lia,λw2 G k2 q2 H4 p S2 P2 o2 l2 M4 b4=>?_)
  ·rw[o1 k ((NI C c u).2 n)];exact gY k (c,.inr (.inl u))
  have yH:¬ WZ n (lo N) (ZY N)/\¬ WZ n (up N) (ZY N):=(λz=>(NJ C c z).1 rfl,λz=>(NI C c z).1 rfl);have S1':XD ģ G n (lo N):=S1.congr n _ Ä0 (λk u=>o2 k ((NJ C c u).2 n));have jD:Z4 G (ZY N)=ah:=by rw[o2 _ yH.2,o1 _ yH.1];exact gY _ (c,.inr ÁW)
  have oth:∀j,¬ WZ (n+1) N j->Z4 G j=Z4 s j:=λj hj=>by rw[o2 j (λz=>hj (c,.inr (.inl z))),o1 j (λz=>hj (c,.inl z))]
  have Es:#[tg,m,sd,H4]:=λb o hb n1 n2=>b4 b o (b3 b o (s2 b o hb) n1 n2) n1 n2;have yI:∀wn,Win ģ N wn->(Win ģ (lo N) ah\/Win ģ (up N) ah)->Q (Yx wn) H4:=λwn hw gR=>by
   refine q wn G (k1+k2) (q1+q2) H4 hw (λ_=>(S1',S2,λa b x y wa wb _ _=>?_,λ_=>.inl jD)) (.none c P1 P2 gR) oth Á (M4.cast Á Á) Es;rcases gR with z|z
   ·rw[hO,wa]
   ·rw[hO,wb]
  cases w1 with
  | none=>exact(_,rfl,rfl,_,rfl,Xu rfl (_,rfl,yI w2 (by have:=Îb i p;rwa [W8]at this) (.inl i)))
  | some a =>
  rw[bm];cases w2 with
  | none=>exact(_,rfl,rfl,_,rfl,Xu rfl (_,rfl,yI (aa a) (by have:=Îa i p;rwa [W8]at this) (.inr p)))
  | some b =>
  rw[bm];obtain I|AV|Di:=Tn (Cp a i.1);obtain J|AW|eb':=Tn (Cq b p.1);subst Di;subst eb';have W:=U0 ů AV;have X:=U0 ů AW;cases g:I.ss[I.g]? with
  | none=>obtain _|z|hz|_:=i;rw[fW,W,g,hz]
  | some x =>
  cases hy:J.ss[J.g]? with
  | none=>obtain _|z|hz|_:=p;rw[fW,X,hy,hz]
  | some y =>
  rw[g]at W;rw[hy]at X;rw[e2,Et,yJ,M4.ob];refine(_,rfl,m,Et,_,rfl,yJ,IN ..,_,rfl,_,rfl,m,rd,sd,L,G,nb,_,_,S,I,J,x,y,0,rfl,M4,AV,AW,g,hy,Qp _,λt5 wi D H5 hw Eu yK M5 b5=>?_);rw[hs,t5,yK];have yL:2<=aq:=by decide
  refine(_,rfl,_,rfl,yL,λF Ev=>?_);have s6:=Zf Ev Úq;rw[sr,ud,H5,F,Úq];have M6:=M5.same s6;generalize upd H5 F (.tup [.int D,.int ((lcp (cds x) (cds y):Nat):Int)])=H6 at s6 ud M6 ⊢;rw[e2,Ew,Ex,M6.ob];have ue:H6 l=aa #[sz,N.map]:=s6 _ _ (b5 _ _ (Es _ _ B Y nsl) Y);refine(_,rfl,m,ao,Ew,_,_,rfl,Ex,æ,Æb,Tl ..,_,rfl,l,_,_,_,rfl,rfl,É ue,IP hN,_,rfl,_,rfl,l,_,_,_,rfl,rfl,É ue,IQ hN,yL,λt7 ht7=>?_);have s7:=Zf ht7 Úr;have Cr:(upd H6 t7 Úr) t7=aa (.tup ((ÜX).map kV)):=Zb;have M7:=M6.same s7;generalize upd H6 t7 (.tup [.int (ÇR 0),.int (ÇS 0)])=H7 at s7 Cr M7 ⊢;have cT:(kvS G).length<aq:=by unfold kvS;rw[r5]
  refine(sd,_,rfl,WQ.t (k:=ÜX) M7.stays Cr cT,?_);rw[show ø F=stV (aa Îj) from rfl,RV];have cr:=Zqp G (ZY N) (aa Îj);have l1':=(Vv c).2;have M8:=M7.put (k:=ZY N) (v:=aa Îj) (λt ht=>by injection ht with ht;rw[<- ht];exact s7 _ _ ud) Á;have cK:I.n≠J.n:=λz=>by have:=ZT C i.1 p.1;lia
  have b08:∀b o,H b=aa o->b≠m->b≠sd->(upd H7 sd (.dT (kvS (XY G (ZY N) (aa Îj))))) b=aa o:=λb o hb n1 n2=>by rw[Ze n2];exact s7 _ _ (s6 _ _ (b5 _ _ (Es _ _ hb n1 n2) n1))
  have U:Win ģ N (aa wi):=by
   rcases hw with⟨O,rfl,_⟩|⟨O,rfl,_⟩
   ·have:=ÇQ i p W X O;rwa [W8]at this
   ·have:=Êr i p W X ((ÇP cK).resolve_left O);rwa [W8]at this
  have hlz:D=if ZW ć ě<0\/Óe then J.n else I.n:=by
   rcases hw with⟨O,_,rfl⟩|⟨O,_,rfl⟩
   ·exact(Æ (show ZW ć ě<0\/Óe from O)).symm
   ·exact(È (show ¬ (ZW ć ě<0\/Óe) from O)).symm
  refine(_,rfl,q (aa wi) _ (k1+k2+1) (q1+q2+ÀH+1) _ U (λ_=>(?_,?_,?_,λgR=>?_)) (.both c P1 P2 i p W X) (λj hj=>?_) Á (M8.cast Á Á) b08)
  ·exact S1'.congr n _ Ä0 (λk u=>by rw[Wb,È (NJ C c u).1])
  ·exact S2.congr n _ Ä0 (λk u=>by rw[Wb,È (NI C c u).1])
  ·intro a' b' x' y' wa wb vd ve;have e1:=Qv (wa.one i);have e2:=Qv (wb.one p);subst e1;subst e2;have e3:=Qv (vd.symm.trans W);have e4:=Qv (ve.symm.trans X);subst e3;subst e4;exact(F,by rw[Wb,Æ rfl,hlz])
  ·rcases gR with z|z
   ·rw[hO,i]
   ·rw[hO,p]
  ·rw[Wb,È (λz=>hj (c,.inr (.inr z)))];exact oth j hj
theorem WD.mono{C:af}{H a:Hp}{e:Zz}(h:WD C H e)(k:∀b o,H b=aa o->b=e.p\/b=e.k\/b=e.f->a b=aa o):WD C a e:=by obtain c|hd:=h.at'.ob;exact(((c,k _ _ hd Đ),k _ _ h.at'.ks Îe,k _ _ h.at'.fs (.inr ÁW)),h.le,ÄX,h.srt,h.str)
theorem IK(L:ù):(Êx).map (λa=>kV a.1)=(Ů).map ß:=by unfold kvM ZC;rw[Qz,Qz];rfl
theorem ZqY{n:Nat}{N:Ô}{k:Ŏ}(_:WZ n N k):Z4 [] k=ah:=rfl
def Th(c d:af):Sp:=λvs H Q _=>X9 λ(m rd sd:af) (L:À Zz) (s:StL) (nb li lo:Int) (f:V)=>C3 #[gh,m] #[eZ,c,d,f] (∀ (e:af) (s':StL) (w:Ã Int) (k q:Int) (a:Hp),H e=ah->Win ģ Ů w->XD ģ s' 8 Ů->YM ģ 8 Ů k q->ZQ c d a m rd e L s' nb (li+k) (lo+q) (Yx w)->#[f6,o,H,m,a]->Q .non a)
theorem Zlm(T:Ø)(cV:Mf P w K mg Â 12 ao "play" ÍD (IM K ax ao 8)):Mf P w K mg Â 13 ao "play_all" ö (Th ax ao):=by
 rw[h6,T.t_Merge_play_all.mf,Zf7];obtain m|j|sd|L|s|p|t|i|u|rfl|M|q:=h;refine(_,#[Zc,#[th,PM],#[Zh,#[XJ,‹0›,#[Yb,#[f8,Óf],#[Xm,cV,æ,hr,‹0›,#[Zd,Ús]],Ł]]]],?_);refine λg v=>?_;rw[hr,z,O];have C:=Zf v (.dT []);have R:(upd H g (.dT [])) g=aa (.dT (kvS [])):=Zb;have M1:=ÃF C;have U:=C _ _ O;have xi:m≠g:=Zg O v;have nrs:j≠g:=Zg ņ v;generalize upd H g (.dT [])=I at C R M1 U ⊢;refine(_,rfl,m,ao,z,_,rfl,U,æ,Æb,VT ..,?_);rw[ZiU];rw[ja,n1,n2,n3,M.ne_m];have M2:ZQ ax ao Út m j g L [] p t i u:=by refine((z,Zb),by rw[Ze n1.symm];exact Êz,by rw[Ze Îk];exact R,#[fk,e,D],λe D=>?_,M.up,M.pd,Á7,by decide);rw[sX,a,b,c,M1.ne_p,D];rw[gP,Îl,D]
 have J:∀b o,H b=aa o->b≠m->Út b=aa o:=λb o y n=>by rw[Ze n];exact C b o y
 generalize upd I m (.ins ao z (mgF j p t i g u))=X at M2 J ⊢;rw[e2,F,G,M2.ob];have bx:Óg:=by unfold kvM;rw[Qa]
 have hnl:(Ů).length=ż:=by unfold ZC;rw[Qa]
 have iR:=Á7;refine(_,rfl,m,ao,F,_,_,rfl,G,æ,ť,Z8 ..,j,_,rfl,M2.rows,_,_,rfl,rfl,_,rfl,Z5 β β)
 ·have eM:0<ż:=by have:ÁQ<ÊA:=ÀY;lia
  refine(_,rfl,m,F,_,rfl,G,Nl ..,_,rfl,m,ao,F,_,_,rfl,G,æ,ť,Z8 ..,j,_,rfl,M2.rows,λl hl=>?_);rw[IK];have N:=Zf hl ÊB;rw[e3,Y,X,l,ÊB];have Z:=M2.same N;generalize upd X l (.lst ((ZC L).map ß))=H3 at N Y Z ⊢;refine(m,j,g,L,[],p,t,i,u,l,ZC L,rfl,Z,Y,by lia,by lia,by decide,Qj (by lia:(Ů).length<=60) Å,λx hx=>hx,M.up,λk hk=>ZqY hk,by show 0+_<=_;lia,λw1 s' k q' H4 W S Pl _ _ M4 b4=>?_);rw[e2,Et,yJ,M4.ob];rw[gB,Et,yJ];exact q g s' w1 k q' _ v W S Pl M4.obj (λb o y n=>by rw[Ze n];exact b4 b o (N b o (J b o y n)) n (Zg y v))
 ·have B:L=[]:=by
   cases L with
   | nil=>rfl
   | Ñ e r=>exact Î (û (show (0:Int)<(((kvM (e::r)).length:Nat):Int) by rw[bx];simp only[Ëb];lia)) d
  subst B;rw[gB,F,G];exact q g [] ah 0 0 _ v (Win.nil _) (λh2=>Î h2 Å) (.few Å) (M2.obj.cast Á Á) (λb o y n=>by rw[Ze n];exact J b o y n)
def IJ(L:ù)(rs:À (af×À am)):Prop:=ZC L=X1 0 Çn/\ŏ (λe=>(ì,e.g,))=rs.map λx=>(x.2,0,)
def II(d c:af):Sp:=λvs H Q _=>X4 λ(m dx r:af) (rs:À (af×À am))=>C5 #[it,m,r] (H m=aa (.ins c dx [])) (ZuM H r rs) ((∀x∈rs,ŝ x.2=true)) (∀ (rd sd:af) (L:À Zz) (s:StL) (w:Ã Int) (k q:Int) (a:Hp),ZQ d c a m rd sd L s (Çn:Int) k q (Yx w)->IJ L rs->Win ģ Ů w->XD ģ s 8 Ů->YM ģ 8 Ů k q->(∀b,Fp m rd sd L b->b=m\/H b=ah)->#[f6,o,H,m,a]->Q .non a)
theorem RQ(rd:af)(nb li lo:Int)(sd:af)(a:V):#[18].lookup ("play_all" : am)=ah:=Ào
theorem RP{ss:Ï}(h:ŝ ss=true):WF ss .non:=by refine .inl (rfl,λi x y a b=>?_);have:=Ja h i y x b a;have:=U6 ě ć;lia
theorem ZiN(T:Ø)(bG:Îm)(eQ:Úu)(bc:În):Cf P w K mg Â 14 ao "Merge" ÍB (II ax ao):=by
 rw[h6,T.t_Merge_init.cf,N6];obtain m|g|r|l|rfl|hm|U|nX|q:=h;refine(_,#[Zc,#[th,Kp],#[Zc,#[XN,Ž,#[iE,K,Óh,ÁG],#[eC,2,N6.nd,3],#[Zc,#[ZO,#[ZG,bG,hr,#[fB,2,3],Ë]],#[Zh,#[Yy,#[TV,eQ,hr,Áf],#[jt,2,hr]]]]],#[Zc,#[XJ,‹0›,Úp],#[Zc,ÒY,#[Zc,ÒY,#[Zc,#[th,PM],#[Zc,#[XJ,‹0›,Ł],#[Zh,#[iJ,bc,hr]]]]]]]]],?_);refine λc r6=>?_;have Ey:m≠c:=Zg hm r6;have s1:=Zf r6 ÅR;have gz:#[hB,H,c] c=aa (.dK (kvM [])):=Zb;have gx:=s1 _ _ hm;generalize upd H c (.dK [])=H1 at s1 gz gx ⊢;refine(_,rfl,m,ao,g,_,rfl,gx,æ,ť,#[hh,0,1000],?_);have yM:r≠m:=λz=>by have:=U.at';rw[iz,hm]
 have k2:#[ss,o,H,m,H1,Îo]:=λb o d n=>by rw[Ze n];exact s1 b o d
 rw[sr,cX,H1,m,Îo];have bT:(upd H1 m Îo) c=aa (.dK (kvM [])):=by rw[Ze Ey.symm];exact gz
 generalize upd H1 m (.ins ao g (Zx "rows" (.ref c) []))=H2 at k2 cX bT ⊢;have iR:=U.few;have lkr:(Îq).lookup ("rows" : am)=aa (ø c):=by rw[Zr,Æ rfl]
 refine(_,rfl,r,_,rfl,É (k2 _ _ U.at' yM),?_);refine T0 (K:=K) (a:=r) (xs:=Á1 λx=>ø x.1) (λi σ t=>X3 λ(L:À Zz) (v2 v3:Ã V)=>σ=[aa (.ref m),aa Λ,v2,v3]/\t m=aa Îo/\t c=aa Å8/\(∀e∈L,WD ax t e)/\IJ L (l.take i)/\#[zG].Nodup/\(∀e∈L,H e.p=ah/\H e.k=ah/\H e.f=ah)/\#[f6,o,H,m,t]) ([],_,_,rfl,cX,bT,#[fk,e,h],Ο,List.nodup_nil,#[fk,e,h],k2) (λi σ t hq=>by obtain _|_|_|_|_|_|_|_|_|_|I:=hq;exact É (I _ _ U.at' yM)) ?_ ?_
 ·rintro i y σ t p hy ⟨L,v2,v3,rfl,J,F,C,⟨n1,n2⟩,pd,eB,I⟩ hp;rw[Qr]at hy;cases hz:l[i]? with
  | none=>rw[hz]at hy;cases hy
  | some x =>
  rw[e5,hz,hy,dP,İ];have Ez:=Qm hz;obtain lx|uf|vf:=U.lst x Ez;have nxm:x.1≠m:=λz=>by rw[z,hm]at lx;cases lx
  have hLl:ż=i:=by have:=#[fD,n1];rw[tv,ZC];rw[Qa,SS,Qx]at this;lia
  have bq:∀e∈L,e.n≠(i:Int):=λe he z=>by
   have h1:e.n∈X1 0 (l.take i).length:=by rw[<- n1];exact Qk (f:=λe:Zz=>e.n) he
   unfold X1 at h1;rw[sX,j,hj,ej,Ι,h1];have:=QaE.mp hj;rw[Qx]at this;lia
  have sp:=Zf hp Úv;rw[sr,hp6,t,p,Úv];generalize upd t p (.tup [.int (i:Int),.ref x.1])=H6 at sp hp6 ⊢;rw[gu,p,hp6];have lx6:H6 x.1=aa #[iI,x.2.map]:=sp _ _ (I _ _ lx nxm);refine(_,rfl,_,rfl,(i:Int),x.1,x.2,rfl,É lx6,by lia,λs hs=>(vf s hs).1,RP (nX x Ez),λH7 s7=>?_);have sG:=sp.trans s7;refine(_,rfl,λu G hu ug ndu=>?_);have X:t u=ah:=sG.free hu;have lx8:Ói x.1=aa #[iI,x.2.map]:=by have:=s7 _ _ lx6;rw[jK]
  have s8:#[iP,t,Ói]:=λb o d=>by have:=sG _ _ d;rw[jK]
  have yN:Ói u=aa (.ins ax G []):=Zb;generalize upd (upd H7 G (.own u)) u (.ins ax G [])=Y at lx8 s8 yN ⊢;refine(u,G,x.1,x.2,rfl,yN,lx8,uf,λs hs=>(vf s hs).1,λk f H9 hk D En R M=>(rfl,?_));have s9:#[iP,t,H9]:=λb o d=>M b o (s8 b o d) (Zg d X);have Z:∀b,Y b=ah->t b=ah:=λb d=>by
   cases e:t b with
   | none=>rfl
   | some o=>rw[s8 b o e]at d;cases d
  have nY:∀b,b≠m->t b=ah->H b=ah:=λb nb d=>by
   cases e:H b with
   | none=>rfl
   | some o=>rw[I b o e nb]at d;cases d
  have num:u≠m:=λz=>by rw[z,J]at X;cases X
  have nkm:k≠m:=λz=>by have:=Z k hk;rw[iz,J]
  have Er:f≠m:=λz=>by have:=Z f D;rw[iz,J]
  have vg:c≠u/\c≠k/\c≠f:=(Zg F X,Zg F (Z k hk),Zg F (Z f D));have hsz:(Êx).length<aq:=by unfold kvM;rw[r5]
  have hV:YW Êx (.inl (i:Int))=ah:=by
   cases hv:YW (kvM L) (.inl (i:Int)) with
   | none=>rfl
   | some v=>obtain e|he|z:=Ι (TR hv);injection z with z _;exact Î Îd (bq e he)
  refine(_,rfl,m,ao,g,_,_,rfl,s9 _ _ J,æ,ť,lkr,_,rfl,c,_,rfl,WQ.k (k:=.inl (i:Int)) (s9 _ _ F) hsz,?_);rw[SK _ hV,show kvM L++[((.inl (i:Int):Key),ø u,)]=kvM (L++[((i:Int),u,k,f,x.2,0)]) by unfold kvM;rw[Qi];rfl];refine(L++[((i:Int),u,k,f,x.2,0)],_,_,rfl,by rw[Ze Ey];exact s9 _ _ J,Zb,λe he=>?_,(?_,?_),?_,λe he=>?_,λb o d n=>?_)
  ·rcases ÿ he with he|he
   ·rw[v5];refine N.mono λb o d eY=>?_;have nb:b≠c:=λz=>by
     rw[z,F]at d;injection d with d;subst d;rcases eY with z2|z2|z2
     ·rw[<- z2,z,F]at gW;cases gW
     ·rw[jl,N.at'.ks,F]
     ·rw[jl,N.at'.fs,F]
    rw[Ze nb];exact s9 b o d
   ·rw[ó he];refine WD.keep (H:=H9) (R,Qp _,uf,nX x Ez,vf) (Ze vg.1.symm) (Ze vg.2.1.symm) (Ze vg.2.2.symm)
  ·unfold ZC at n1 ⊢;rw[Qi,n1,Qx,Qx,Îp Á,Îp Á];unfold X1;rw[Ù3,Qi];simp
  ·rw[Qi,n2,QI,hz,Qi];rfl
  ·rw[g8,pd,ha,d,e,he];have:b=u:=by simpa using d
   rw[this];obtain de|gW:=(C e he).at'.ob;exact Zg gW X
  ·rcases ÿ he with he|he
   ·exact eB e he
   ·rw[ó he];exact(nY u num X,nY k nkm (Z k hk),nY f Er (Z f D))
  ·rw[Ze (Zg d r6)];exact s9 b o (I b o d n)
 ·rintro σ t ⟨L,v2,v3,rfl,J,F,C,lB,pd,eB,I⟩;rw[Aa,Qa,lB];have p1:=Vx "rows" (ø c) [];have p2:=Vx "next_number" (ß ÃH) Îq;have p3:=Vx "likened" (ß 0) (Zx "next_number" (.int ÃH) Îq);have p4:=Vx "looked" (ß 0) ÇY;have p0:Úb:=rfl;refine(_,rfl,r,_,rfl,.inl (É (I _ _ U.at' yM)),_,rfl,m,ao,g,_,rfl,J,æ,Îr,by lia,?_);rw[Qa];refine(_,rfl,m,ao,g,_,rfl,Zb,æ,Îi,by lia,_,rfl,m,ao,g,_,rfl,Zb,æ,Ób,by lia,?_);have k8:∀b,b≠m->Úw b=t b:=λb n=>by rw[Ze n,Ze n,Ze n]
  have EB:Úw m=aa (.ins ao g Úx):=Zb;generalize (upd (upd (upd t m (.ins ao g (Zx "next_number" (.int (İ:Int)) (Zx "rows" (.ref c) [])))) m (.ins ao g (Zx "likened" (.int 0) (Zx "next_number" (.int (İ:Int)) (Zx "rows" (.ref c) []))))) m (.ins ao g (Zx "looked" (.int 0) (Zx "likened" (.int 0) (Zx "next_number" (.int (İ:Int)) (Zx "rows" (.ref c) []))))))=Y at k8 EB ⊢;refine λB fR=>?_;have xi:m≠B:=Zg EB fR;have p5:=Vx "stays" (ø B) Úx;refine(_,rfl,m,ao,g,_,rfl,by rw[Ze xi];exact EB,æ,Æb,by lia,_,rfl,m,ao,g,_,rfl,Zb,æ,ÃI,by lia,?_);have hsd5:t B=ah:=by rw[<- k8 B Îk];exact fR
  have vh:Ój m=aa (.ins ao g (mgF c ÃH 0 0 B .non)):=by rw[Vt];exact Zb
  have hs9:Ój B=aa (.dT (kvS [])):=by rw[Ze Îk,Ze Îk];exact Zb
  have M:#[g7,t,m,Ój]:=λb o d n=>by rw[Ze n,Ze n,Ze (Zg d hsd5),k8 b n];exact d
  generalize (upd (upd (upd Y B (.dT [])) m (.ins ao g (Zx "stays" (.ref B) (Zx "looked" (.int 0) (Zx "likened" (.int 0) (Zx "next_number" (.int (İ:Int)) (Zx "rows" (.ref c) []))))))) m (.ins ao g (Zx "best" .non (Zx "stays" (.ref B) (Zx "looked" (.int 0) (Zx "likened" (.int 0) (Zx "next_number" (.int (İ:Int)) (Zx "rows" (.ref c) []))))))))=H9 at vh hs9 M ⊢;have hLl:ż=İ:=by have:=#[fD,lB.1];rw[tv,ZC];rw[Qa,SS]at this;rw[wr]
  have M9:ZQ ax ao H9 m c B L [] ÃH 0 0 .non:=by
   refine((g,vh),M _ _ F Ey.symm,hs9,#[fk,e,he],λe he=>?_,by rw[lB.1];exact ZrY _,pd,by lia,by decide);rw[v5];refine N.mono λb o d eY=>M b o d λz=>?_;have D:=eB e he;have O:=hm;rw[<- z]at O;rcases eY with z2|z2|z2
   ·rw[fW,z2,D.1,O]
   ·rw[fW,z2,D.2.1,O]
   ·rw[fW,z2,D.2.2,O]
  refine(_,rfl,m,g,_,rfl,vh,RQ ..,m,c,B,L,[],_,0,0,.non,rfl,M9,λbD s' w1 k q' gg iS W S Pl uh b10=>?_);have nY:∀b,b≠m->H9 b=ah->H b=ah:=λb nb d=>by
   cases e:H b with
   | none=>rfl
   | some o=>rw[M b o (I b o e nb) nb]at d;cases d
  refine q c bD L s' w1 k q' gg (uh.cast Á Á) lB W S Pl (λb d=>?_) (λb o d n=>b10 b o (M b o (I b o d n) n) n);rcases d with rfl|rfl|rfl|⟨e,he,d⟩
  ·exact ÀP
  ·exact .inr r6
  ·exact .inr (nY _ (λz=>by rw[z,vh]at iS;cases iS) iS)
  ·have D:=eB e he;rcases d with rfl|rfl|rfl
   ·exact .inr D.1
   ·exact .inr D.2.1
   ·exact .inr D.2.2
def IH(a b:af):Sp:=λvs H Q _=>X9 λ(m rd sd:af) (L:À Zz) (s:StL) (nb li lo:Int) (c:V)=>C3 #[gh,m] #[eZ,a,b,c] (Q (.int li) H)
def IG(a b:af):Sp:=λvs H Q _=>X9 λ(m rd sd:af) (L:À Zz) (s:StL) (nb li lo:Int) (c:V)=>C3 #[gh,m] #[eZ,a,b,c] (Q (.int lo) H)
theorem Zke(T:Ø):Mf P w K mg Â 1 ao "likenings" ö (IH ax ao):=by
 rw[ey,T.t_Merge_likenings.mf,ZfR,a,hr];rw[dk];exact#[Ax,i,j,Îi,No,q]
theorem Zqc(T:Ø):Mf P w K mg Â 1 ao "looks" ö (IG ax ao):=by
 rw[ey,T.t_Merge_looks.mf,Ziw,a,hr];rw[dk];exact#[Ax,i,j,Ób,IS,q]
def Nk(b c:af):Sp:=λvs H Q _=>X9 λ(m rd sd:af) (L:À Zz) (s:StL) (nb li lo:Int) (w:Ã Int)=>C4 #[gh,m] #[hP,b,c] Îs (∀ (x:V) (a:Hp),ZwO ÄW a x->Zu H a->Q x a)
theorem ZoL(T:Ø)(r:ÇW):Mf P w K mg Â 3 ao "coming" ö (Nk ax ao):=by
 rw[ey,T.t_Merge_coming.mf,Jw,u,i];obtain m|j|v|L|s|y|B|lo|w|rfl|M|W|q:=h;refine(_,#[Zc,#[ZN,#[Zn,Xz,Ģ,Ł,č],ÄT,ï],#[Zc,#[Zq,1,Jw.nd,á,#[ZA,(ixG i),Ģ,Ģ]],#[Zh,#[Zl,#[ZS,#[Zd,Ģ,#[ZH,‹1›],#[t8,r,i,1]]]]]]],?_);rw[hr,b,c];refine(_,rfl,m,ao,b,_,_,rfl,c,æ,ÃI,Tj ..,rfl,_,rfl,?_);have l:Win (hdL ÄW) ((ÄW).map ċ) w:=by rw[Uk];exact W
 cases w with
 | none=>exact Xu rfl (q _ H (.inl (rfl,l)) Æc)
 | some a =>
  obtain e|d|rfl:=Tn W.1;rw[tQ,R,d,n,o,Êy];have hd:=U0 ů d;cases g:ì[e.g]? with
  | none=>obtain _|z|p|_:=W;rw[fW,hd,g,p]
  | some x =>
  refine XS Àw ?_;refine(_,rfl,m,ao,b,_,_,rfl,c,æ,ť,Z8 ..,_,rfl,m,ao,b,_,_,rfl,c,æ,ÃI,Tj ..,j,_,rfl,Àn (k:=Æa) ņ (V9 ů d),_,rfl,m,ao,b,_,_,rfl,c,æ,ÃI,Tj ..,_,rfl,e.p,ax,n,_,_,rfl,o,Ņ,ÇO,Tr ..,_,rfl,e.p,n,_,rfl,o,UZ ..,e.p,e.k,e.f,ì,e.g,rfl,R.at',Á6,λt C=>?_);rw[Ti g];exact q _ _ (.inr (t,toL e,x,rfl,Qk d,g,Zb,l)) (Zf C _)
def IF(b c:af):Sp:=λvs H Q _=>X9 λ(m rd sd:af) (L:À Zz) (s:StL) (nb li lo:Int) (d:V)=>C3 #[gh,m] #[eZ,b,c,d] (∀a:Hp,Zu H a->Q (.int (Wa ÄW).sum) a)
theorem Zkk(k f:af)(g:Int):(Í3).lookup ("to_go" : am)=ah:=Îh
theorem Zqt(T:Ø)(N:Í4):Mf P w K mg Â 2 ao "left" ö (IF ax ao):=by
 rw[ey,T.t_Merge_left.mf,ZiG,O,S];obtain m|a|U|L|s|W|X|lo|Y|rfl|M|q:=h;refine(_,#[Zh,#[Zl,#[Zo,(PD K),Ë,Ók,boot_sum,#[Zd,(@Pt _ _ _ #[W0,NX,(@Zs8 _ _ _ _ _ _ Ģ Ë Ë),#[gj,1,NX],γ,(λ_ _ _ _=>#[Ym,N,Ņ,S,#[cw,1,NX]])])]]]],?_);rw[hr,Z,hm];have iR:=Á7;refine(a,_,ņ,Àc,_,rfl,m,ao,Z,_,_,rfl,hm,æ,ť,Z8 ..,a,_,rfl,ņ,λj B t=>?_);have u:Úy a=aa (.frz j Å8):=Zb;have D:∀b x,H b=aa x->b≠a->Úy b=aa x:=λb x h n=>by rw[Ze n];exact h
 generalize upd H a (.frz j (.dK (kvM L)))=H1 at u D t ⊢;refine Ztc (d:=a) (o:=j) (kvs:=kvM L) (λi zs F c=>(∃v:Ã V,F=[aa (.ref m),v])/\zs=(Wa ((L.take i).map toL)).map ß/\i<=ż/\c B=aa Ε/\Zu H1 c) ?_ (λ_ _ _ _ h=>h.2.2.2.2 _ _ u) ?_ ?_
 ·exact#[fn,t]
 ·rintro i k x zs F c l ⟨⟨v,rfl⟩,rfl,hi,y,p⟩;rw[Ak,kvM,l];cases r:L[i]? with
  | none=>rw[r]at l;cases l
  | some e =>
  rw[e5,r,l,dP,ż];have C:=Qm r;have R:=ÀZ e C;obtain _|_|_|n1|n2|n3:=ÇZ C;have R2:WD ax c e:=R.mono λb o g eY=>p _ _ (D b o g Úz);rw[e2,dp,hp,R2.at'.ob];refine(_,rfl,e.p,dp,_,rfl,hp,Zkk ..,e.p,e.k,e.f,ì,e.g,rfl,R2.at',y,(by unfold Wa;rw[Qa,Qa,Qa,Qx];exact ZD Á),ā,?_,dP,Zb,λb x g=>?_)
  ·rw[QI,r,Qi];unfold Wa;rw[Qi,Qi];rfl
  ·rw[ik,g,t,p,x]
 rw[hM,F,c,v,y,p];have yO:(Êx).length=ż:=by unfold kvM;rw[Qa]
 rw[Aa,yO,y];refine(j,p _ _ u,?_);have G:(upd c a Å8) B=aa (.lst ((Wa ÄW).map ß)):=by rw[Ze (Zg u t).symm];exact y
 have I:Zu H (upd c a Å8):=λb x g=>by
  by_cases e:b=a
  ·rw[e,ņ]at g;rw[e,Zb];exact g
  ·rw[Ze e];exact p _ _ (D b x g e)
 generalize upd c a (.dK (kvM L))=H3 at G I ⊢;refine(B,Wa ÄW,rfl,É G,(by unfold Wa;rw[Qa,Qa];lia),λn J=>?_,q H3 I);unfold Wa at J;rw[eV,e',iX,J];rw[eV,e,C,iX];have R:=ÀZ e C;have a1:=R.le;have a2:=R.len;show 0<=Ól/\Ól<=_;lia
def Uj(L:À XX):À (Int×Ã am):=ŏ λe=>(e.1,e.2.2.1[e.2.2.2]?,)
def ZvI(H:Hp)(l:af)(E:Êv):Prop:=∃ts:À (af×Int×Ã am),À9 Ĩ=E/\H l=aa #[iQ,À9,t,t.1]/\∀t∈ts,H t.1=aa ÚA
theorem IE(ss:Ï)(g:Nat):WE ss g=oV ss[g]?:=by unfold WE oV;cases ss[g]?<;>rfl
def ID(b c:af):Sp:=λvs H Q _=>X9 λ(m rd sd:af) (L:À Zz) (s:StL) (nb li lo:Int) (d:V)=>C3 #[gh,m] #[eZ,b,c,d] (∀ (l:af) (a:Hp),H l=ah->ZvI a l (Uj ÄW)->Zu H a->Q Ŋ a)
theorem Zpj(T:Ø)(bh:ÇW):Mf P w K mg Â 3 ao "heads" ö (ID ax ao):=by
 rw[h6,T.t_Merge_heads.mf,Zif];obtain m|a|sd|L|s|nb|li|lo|aI|rfl|M|q:=h;refine(_,#[Zh,#[Zl,(@Pt _ _ _ #[W0,Tx,ÚB,#[fb,1,Tx,2],γ,(λ_ _ _ _=>#[ZS,#[Zd,#[cw,1,Tx],#[Ym,bh,Ņ,hr,#[cw,2,Tx]]]])])]],?_);rw[zZ];have iR:=Á7;refine(a,_,ņ,Àc,_,rfl,m,ao,dx,_,_,rfl,hm,æ,ť,Z8 ..,a,_,rfl,ņ,λg B c=>?_);rw[sr,F,H,a,Ît];have J:#[ss,x,H,a,H,Ît]:=λb x h n=>by rw[Ze n];exact h
 have N:H B=ah:=by
  cases e:H B with
  | none=>rfl
  | some o =>
   by_cases z:B=a
   ·rw[z]at c;rw[show (upd H a Ît) a=aa Ît from Zb]at c;cases c
   ·rw[J B o e z]at c;cases c
 generalize upd H a (.frz g (.dK (kvM L)))=H1 at F J c ⊢;refine Ztm (d:=a) (o:=g) (kvs:=kvM L) (λi zs O r=>(X2 λS U:Ã V=>O=[aa (.ref m),S,U])/\(∃j:À (af×Int×Ã am),Ãn Ĩ=Uj ((L.take i).map toL)/\zs=(Ãn λt=>ø t.1)/\∀t∈j,r t.1=aa ÚA/\t.1≠B/\t.1≠a)/\i<=ż/\r B=aa Ε/\Zu H1 r) ?_ (λ_ _ _ _ h=>h.2.2.2.2 _ _ F) ?_ ?_
 ·exact((ah,ah,rfl),([],rfl,rfl,#[fk,t,h]),Qp _,Zb,Zf c _)
 ·rintro i k x zs O r p v ⟨⟨S,U,rfl⟩,⟨j,G,rfl,W⟩,hi,X,y⟩ AX;rw[Ak,kvM,v];cases I:L[i]? with
  | none=>rw[(I)]at v;cases v
  | some e =>
  rw[e5,I,v,dP,ż];have he:=Qm I;have R:=ÀZ e he;obtain _|_|_|n1|n2|n3:=ÇZ he;have C:=Zf AX ÚC;have kj:(upd r p ÚC) p=aa #[tm,e.n,e.p]:=Zb;generalize upd r p (.tup [kV (.inl e.n),.ref e.p])=H3 at C kj ⊢;have R2:WD ax H3 e:=R.mono λb o l eY=>C _ _ (y _ _ (J b o l Úz));rw[e2,dp,hp,R2.at'.ob];have yP:=C _ _ X;have yD:=C _ _ (y _ _ F);have bx:ÀR=i:=by have:=#[fD,G];rw[tv,Uj];rw[Qa,Qa,Qa,Qx]at this;lia
  refine(p,_,rfl,þ kj,rfl,_,_,rfl,_,_,rfl,rfl,_,rfl,_,rfl,e.p,dp,_,rfl,hp,UZ ..,e.p,e.k,e.f,ì,e.g,rfl,R2.at',Ť,λt D=>?_);rw[IE];have Y:B≠t:=Zg yP D;have xk:a≠t:=Zg yD D;refine(by rw[Ze Y];exact yP,Ç0,ÊC,(j++[(t,e.n,ì[e.g]?,)],?_,by rw[Qi];rfl,λu hu'=>?_),dP,Zb,λb x l=>?_)
  ·rw[Qi,G,QI,I,Qi];unfold Uj;rw[Qi];rfl
  ·rcases ÿ hu' with hu'|hu'
   ·obtain Z|g2|g3:=W u hu';have:=C _ _ Z;exact(by rw[Ze g2,Ze (Zg this D)];exact this,g2,g3)
   ·rw[ó hu'];exact(by rw[Ze Y.symm];exact Zb,Y.symm,xk.symm)
  ·have:=C b x (y b x l);rw[Ze (Zg l c),Ze (Zg this D)];rw[wr]
 rintro zs O r ⟨⟨S,U,rfl⟩,⟨j,G,rfl,W⟩,_,X,y⟩;have yO:(Êx).length=ż:=by unfold kvM;rw[Qa]
 rw[Aa,yO,G];refine(g,y _ _ F,?_);have nBr:B≠a:=(Zg F c).symm;refine q B _ N (j,G,by rw[Ze nBr];exact X,λt D=>?_) #[io,b,x,l]
 ·obtain Z|g2|g3:=W t D;rw[Ze g3];exact Z
 ·by_cases e:b=a
  ·rw[e,ņ]at l;rw[e,Zb];exact l
  ·rw[Ze e];exact y _ _ (J b x l e)
def Agr(Lo:À XX)(L:ù):Prop:=Lo.map Óm=ŏ (λe=>(e.n,(ì,e.g,),))
theorem IC:∀ (A B:À XX),A.map Óm=B.map Óm->hdL A=hdL B
 | [],[],_=>rfl
 | [],_::_,h=>by cases h
 | _::_,[],h=>by cases h
 | a::A,b::B,h=>by
  rw[Qh,Qh]at h;injection h with h1 h2;injection h1 with d f;have ih:=IC A B h2;funext n;rw[nV];split
  ·simp only[Íq];rw[f]
  ·exact c
theorem RO{α a:Type}:∀ {P:À (α×a)},(ÀF ċ).Nodup->∀ {p q:α×a},p∈P->q∈P->p.1=q.1->p=q
 | [],_,_,_,h,_,_=>by cases h
 | x::r,nd,p,q,b,hq,e=>by
  rw[yQ];rcases î b with h1|h1
  ·rcases î hq with h2|h2
   ·rw[h1,h2]
   ·exact Î (show x.1∈Ãr ċ by rw[<- h1,e];exact #[Ad,x.1,h2]) nd.1
  ·rcases î hq with h2|h2
   ·exact Î (show x.1∈Ãr ċ by rw[<- h2,<- e];exact #[Ad,x.1,h1]) nd.1
   ·exact RO nd.2 h1 h2 e
structure F2 (R:V->V->Prop) (xs ys:ă):Prop where
 len:Ö=į
 at':∀ (i:Nat) (x y:V),xs[i]? = aa x->ys[i]? = aa y->R x y
theorem Zhh(rd:af)(nb li lo:Int)(sd:af)(a:V):#[18].lookup ("likenings" : am)=ah:=Ào
theorem ZkN(rd:af)(nb li lo:Int)(sd:af)(a:V):#[18].lookup ("looks" : am)=ah:=Ào
theorem IB(rd:af)(nb li lo:Int)(sd:af)(a:V):#[18].lookup ("coming" : am)=ah:=Ào
theorem Zmi(rd:af)(nb li lo:Int)(sd:af)(a:V):#[18].lookup ("left" : am)=ah:=Ào
theorem Zk6(rd:af)(nb li lo:Int)(sd:af)(a:V):#[18].lookup ("heads" : am)=ah:=Ào
def Y9(M:Ô)(n:Int):À Int:=if n∈lo M then lo M else up M
def Y6(M:Ô)(n:Int):À Int:=if n∈lo M then up M else lo M
def Z6:Nat->À Int->Int->À Ç1
 | 0,_,_=>[]
 | k+1,M,n=>if 2<=Àe then Z6 k Ű n++[M] else []
inductive Sub (N:Ô):À Int->Prop
 | top:Sub N N
 | lo {M:À Int}:Sub N M->2<=Àe->Sub N (lo M)
 | up {M:À Int}:Sub N M->2<=Àe->Sub N (up M)
theorem Sub.trans{A B C:Ô}(h:Sub A B)(k:Sub B C):Sub A C:=by
 induction k with
 | top=>exact h
 | lo _ a b=>exact b.lo a
 | up _ a b=>exact b.up a
theorem Sub.rise{N M:Ô}(h:Sub N M)(r:Yk N):Yk M:=by
 induction h with
 | top=>exact r
 | lo _ _ a=>exact RU a
 | up _ _ a=>exact RT a
theorem Sub.mem{N M:Ô}(h:Sub N M){x:Int}(hx:x∈M):x∈N:=by
 induction h with
 | top=>exact hx
 | lo _ _ a=>exact a (Qaj hx)
 | up _ _ a=>exact a (Q3 hx)
theorem IA{M:Ô}(h:ÃJ)(n:Int):Sub M Ű:=by
 unfold Y9;split
 ·exact Sub.top.lo h
 ·exact Sub.top.up h
theorem Tg{M:Ô}{n:Int}(h:n∈M):n∈Y9 M n:=by
 unfold Y9;split
 ·assumption
 ·rename_i a;rw[<- W8 M]at h;exact(ÿ h).resolve_left a
theorem Nj{M:Ô}(r:Yk M){n:Int}(hn:n∈Y9 M n):n ∉ Y6 M n:=by
 intro h;unfold Y6 Y9 at *
 split at h
 ·rename_i a;have:=ZT r a h;lia
 ·rename_i a;exact a h
theorem Ni(M:Ô)(n:Int):(Y9 M n++Y6 M n).Perm M:=by
 unfold Y9 Y6;split
 ·rw[W8]
 ·exact List.perm_append_comm.trans (by rw[W8])
def Kys(M:Ô)(k:Ŏ):Prop:=∃a,Sub M a/\2<=ķ/\k=ZY a
theorem RN{M:Ô}{k:Ŏ}(h:Kys M k):k.1∈M/\k.2∈M:=by obtain b|s|h2|rfl:=h;have a:b≠[]:=W7 Á;exact(s.mem (Uo a),s.mem (Um a))
theorem Iz{M:Ô}(r:Yk M)(h2:ÃJ){k:Ŏ}(h:Kys (lo M) k):k≠ZY M/\¬ Kys (up M) k:=by
 rw[wq]
 ·rw[Aq,a,NL];have:=ZT r this.2 (Um (W7 (U1 h2).2));lia
 ·have:=ZT r this.1 (RN m).1;lia
theorem Iy{M:Ô}(r:Yk M)(h2:ÃJ){k:Ŏ}(h:Kys (up M) k):k≠ZY M/\¬ Kys (lo M) k:=by
 rw[wq]
 ·rw[Aq,a,NK];have:=ZT r (Uo (W7 (Vv h2).2)) this.1;lia
 ·have:=ZT r (RN m).1 this.1;lia
theorem Ix{M:Ô}(r:Yk M)(h2:ÃJ){n:Int}{k:Ŏ}(h:Kys Ű k):k≠ZY M/\¬ Kys Ág k:=by
 unfold Y9 at h;unfold Y6;split
 ·rename_i a;rw[tM,a,h];exact Iz r h2 h
 ·rename_i a;rw[sR,a,h];exact Iy r h2 h
theorem Iw{M:Ô}(r:Yk M)(h2:ÃJ){n:Int}{k:Ŏ}(h:Kys Ág k):k≠ZY M/\¬ Kys Ű k:=by
 unfold Y6 at h;unfold Y9;split
 ·rename_i a;rw[tM,a,h];exact Iy r h2 h
 ·rename_i a;rw[sR,a,h];exact Iz r h2 h
theorem Nh{M c:Ô}(h:Sub M c):c=M\/(2<=Àe/\(Sub (lo M) c\/Sub (up M) c)):=by
 induction h with
 | top=>exact ÀP
 | lo h a b =>
  rcases b with rfl|⟨g,b⟩
  ·exact .inr (a,.inl .top)
  ·exact .inr (g,b.imp (λz=>z.lo a) (λz=>z.lo a))
 | up h a b =>
  rcases b with rfl|⟨g,b⟩
  ·exact .inr (a,.inr .top)
  ·exact .inr (g,b.imp (λz=>z.up a) (λz=>z.up a))
theorem Zrm{M a:Ô}(n:Int)(h:Sub M a):a=M\/(2<=Àe/\(Sub Ű a\/Sub Ág a)):=by
 rcases Nh h with h|⟨g,h⟩
 ·exact .inl h
 ·refine .inr (g,?_);unfold Y9 Y6;split
  ·exact h
  ·exact h.symm
def V8(hd:Hd)(s:StL)(A B:Ô)(k:Ŏ):Prop :=
 (∀a b x y,Win hd A (aa a)->Win hd B (aa b)->hd a=aa x->hd b=aa y->X2 λt c=>Z4 s k=aa (aa (t,c,#[hD,x,y],))/\((Btr x a y b/\c=b)\/(Btr y b x a/\c=a))) /\
 ((Win hd A ah\/Win hd B ah)->Z4 s k=ah\/Z4 s k=aa ah)
theorem V8.swap{hd:Hd}{s:StL}{A B:Ô}{k:Ŏ}(h:V8 hd s A B k):V8 hd s B A k:=by refine(λa b x y c d f g=>?_,λhw=>h.2 hw.symm);obtain t|i|e|o:=h.1 b a y x d c g f;exact(t,i,by rw[U7 x y];exact e,o.symm)
def Z3(hd:Hd)(s:StL)(N:Ô):Prop:=∀M,Sub N M->2<=Àe->V8 hd s (lo M) (up M) (ZY M)
theorem Z3.sub{hd:Hd}{s:StL}{N M:Ô}(h:Z3 hd s N)(k:Sub N M):Z3 hd s M:=λa h' h2=>h a (k.trans h') h2
theorem Z3.at_side{hd:Hd}{s:StL}{M:Ô}(h:Z3 hd s M)(h2:ÃJ)(n:Int):V8 hd s Ű Ág (ZY M):=by
 have:=h M .top h2;unfold Y9 Y6;split
 ·rw[wr]
 ·exact this.swap
theorem Ui:∀ (n:Nat) (hd:Hd) (s:StL) (N:À Int),Yk N->ĩ<=2 ^ (n-1)->0<n->XD hd s n N->Z3 hd s N
 | 0,_,_,_,_,_,h,_=>Î h Á
 | n+1,hd,s,N,r,hl,_,h=>λM hM h2=>by
  rw[Qay]at hl;rcases Nh hM with rfl|⟨g,hM⟩
  ·obtain _|_|c1|j:=h h2;refine(λa b x y d f k l=>?_,j);obtain t|e:=c1 a b x y d f k l;have hJ:=ZT r d.1 f.1;by_cases c:ZW x y<0\/Ò0
   ·rw[tM,c,e];exact(t,b,e,.inl (c,rfl))
   ·rw[sR,c,e];exact(t,a,e,.inr ((ÇP (show a≠b by lia)).resolve_left c,rfl))
  ·obtain o|p|_:=h g;have i:1<=n:=by
    cases n with
    | zero=>simp at hl;lia
    | succ m=>lia
   have hp:2 ^ n=2*2 ^ (n-1):=by obtain⟨m,rfl⟩:∃m,n=m+1:=(n-1,by lia);rw[Qbe,Qay];lia
   rcases hM with hM|hM
   ·exact Ui n hd s (lo N) (RU r) (by unfold lo mid;rw[Qx];lia) i o M hM h2
   ·exact Ui n hd s (up N) (RT r) (by unfold up mid;rw[QL];lia) i p M hM h2
theorem V8.congr{hd d:Hd}{s s':StL}{A B:Ô}{k:Ŏ}(h:V8 hd s A B k)(ha:∀m∈A,d m=hd m)(hb:∀m∈B,d m=hd m)(hk:Z4 s' k=Z4 s k):V8 d s' A B k:=by
 refine(λa b x y e f g i=>?_,λhw=>?_)
 ·rw[hk];exact h.1 a b x y (e.congr λm c=>(ha m c).symm) (f.congr λm c=>(hb m c).symm) #[uk,ha,a,e.1,g] #[uk,hb,b,f.1,i]
 ·rw[hk];exact h.2 (hw.imp (λw=>w.congr λm c=>(ha m c).symm) (λw=>w.congr λm c=>(hb m c).symm))
theorem Z3.congr{hd b:Hd}{s s':StL}{M:Ô}(h:Z3 hd s M)(c:∀m∈M,b m=hd m)(hk:∀k,Kys M k->Z4 s' k=Z4 s k):Z3 b s' M:=λd hM h2 =>
 (h d hM h2).congr (λm a=>c m (ÊD (Qaj a))) (λm a=>c m (ÊD (Q3 a))) (hk _ (d,hM,h2,rfl))
theorem ZoS{hd:Hd}{s:StL}{M:Ô}{n:Int}(h1:Z3 hd s Ű)(b:Z3 hd s Ág)(h:V8 hd s Ű Ág (ZY M)):Z3 hd s M:=λa hM h2=>by
 rcases Zrm n hM with rfl|⟨g,hM|hM⟩
 ·unfold Y9 Y6 at h;split at h
  ·exact h
  ·exact h.swap
 ·exact h1 a hM h2
 ·exact b a hM h2
def low(n:Int)(C:À Ç1):Nat->À Int
 | 0=>[n]
 | i+1=>C.getD i []
theorem Ng:∀ (k:Nat) (M:À Int) (n:Int),n∈M->Àe<=2 ^ k->(∀i X,Ón[i]? = aa X->Sub M X/\2<=X.length/\n∈X/\Y9 X n=low n Ón i)/\low n Ón (Ón).length=M/\(Ón).length<=k
 | 0,M,n,hn,hl=>by
  refine(λi X h=>by unfold Z6 at h;simp at h,?_,Qd _);have h1:Àe=1:=by have:=Qbf hn;simp at hl;lia
  obtain x|rfl:=QaL.mp h1;have:n=x:=by simpa using hn
  rw[this];rfl
 | k+1,M,n,hn,hl=>by
  unfold Z6;by_cases d:2<=Àe
  ·rw[Æ d];have f:(Ű).length<=2 ^ k:=by
    rw[Qbe]at hl;unfold Y9;split
    ·unfold lo mid;rw[Qx];lia
    ·unfold up mid;rw[QL];lia
   obtain a|b|c:=Ng k Ű n (Tg hn) f;refine(λi X h=>?_,?_,by rw[Qg,QC];lia)
   ·have e:∀j,j<=(ÜY).length->low n (Z6 k Ű n++[M]) j=low n ÜY j:=λj hj=>by
     cases j with
     | zero=>rfl
     | succ j=>show (Z6 k Ű n++[M]).getD j []=(ÜY).getD j [];rw[QJ,QJ,QX Á]
    by_cases g:i<(ÜY).length
    ·rw[QX g]at h;obtain l|m|o|p:=a i X h;exact((IA d n).trans l,m,o,by rw[e i Á];exact p)
    ·have q:i=(ÜY).length:=by have:=(Ń h).1;rw[Qg,QC]at this;lia
     subst q;rw[QW ò,Qbg]at h;cases h;exact(.top,d,hn,by rw[e _ ò,b])
   ·rw[Qg,QC];show (Z6 k Ű n++[M]).getD _ []=M;rw[QJ,QW ò,Qbg];rfl
  ·rw[ti,d];refine(λi X h=>by simp at h,?_,Qp _);have h1:Àe=1:=by have:=Qbf hn;lia
   obtain x|rfl:=QaL.mp h1;have:n=x:=by simpa using hn
   rw[this];rfl
structure Tk (hd cS:Hd) (N:Ô) (n:Int) (z:ś):Prop where
 win:Win hd N (aa n)
 key:hd n=aa z
 oth:∀b,b≠n->cS b=hd b
 nxt:∀x,cS n=aa x->ZW z x<=0
 up:Yk N
theorem Tk.ge{hd a:Hd}{N:Ô}{n:Int}{z:ś}(h:Tk hd a N n z){b:Int}(hb:b∈N){y:ś}(hy:a b=aa y):ZW z y<=0:=by
 by_cases e:b=n
 ·exact h.nxt y #[fE,e,hy]
 ·obtain _|x|c|hw:=h.win;rw[gv,Áh,c,c];rw[h.oth b e]at hy;rcases hw b hb y hy with z|z
  ·exact Î z e
  ·rcases z with z|z<;>lia
inductive Ag (hd:Hd) (z:ś):À Óo->Int->Int->Prop
 | nil:Ag hd z [] 0 0
 | no {C:À (À Int×À Int)} {A B:À Int} {k q:Int}:Ag hd z C k q->(Win hd A ah\/Win hd B ah)->Ag hd z (C++[(A,B,)]) k q
 | eq {C:À (À Int×À Int)} {A B:À Int} {k q:Int} {a b:Int} {x y:À Nat}:Ag hd z C k q->Win hd A (aa a)->Win hd B (aa b)->hd a=aa x->hd b=aa y->lcp x z=lcp y z->Ag hd z (C++[(A,B,)]) (k+1) (q+((lcp x y:Nat)-(lcp x z:Nat)+1))
 | ne {C:À (À Int×À Int)} {A B:À Int} {k q:Int} {a b:Int} {x y:À Nat}:Ag hd z C k q->Win hd A (aa a)->Win hd B (aa b)->hd a=aa x->hd b=aa y->lcp x z≠lcp y z->Ag hd z (C++[(A,B,)]) (k+1) q
theorem Iv:∀ (x z y:À Nat),lcp z y<lcp x z->ZW x y=ZW z y
 | [],z,y,h=>by rw[Êm]at h;lia
 | _::_,[],y,h=>by rw[Up]at h;lia
 | a::x,b::z,[],h=>by unfold ZW;rfl
 | a::x,b::z,c::y,h=>by
  unfold lcp at h;by_cases e:a=b
  ·subst e;rw[Æ rfl]at h;by_cases d:a=c
   ·subst d;rw[Æ rfl]at h;unfold ZW;rw[Æ rfl,Æ rfl];exact Iv x z y Á
   ·unfold ZW;rw[jd,d,d]
  ·rw[W];lia
theorem ZsJ{x z y:ś}(h:lcp z y<lcp x z):lcp x y=lcp z y:=by have:=NS x y z;rw[U7 y z]at this;lia
theorem ZuZ{x z y:ś}(h:lcp x z=lcp y z):lcp x z<=lcp x y:=by have:=NS x y z;lia
theorem Iu{x z y:ś}{a b:Int}(h:lcp y z<lcp x z)(hz:ZW z y<=0):Btr x a y b/\lcp x y=lcp y z:=by
 rw[U7 y z]at h ⊢;refine(.inl ?_,ZsJ h);rw[Iv x z y h];rcases Int.lt_or_eq_of_le hz with g|g
 ·exact g
 ·have e:=IY _ _ g;subst e;rw[Jh]at h;have:=(Vy x z).2;lia
abbrev Com:=Ã (Int×Int)
def Tf(hd:Hd)(z:ś)(M:Ô)(c:Com):Prop:=Win hd M (Ŝ ċ)/\∀p,c=aa p->∃x,hd p.1=aa x/\p.2=#[hD,x,z]
theorem ZqB{hd c:Hd}{N M:Ô}{n:Int}{z:ś}{s:StL}(T:Tk hd c N n z)(hM:Sub N M)(h2:ÃJ)(hn:n∈M)(ok:Z3 hd s N) :
  (Win c Ág ah/\ÚD)\/X3 λt b y=>Win c Ág (aa b)/\c b=aa y/\b∈N/\Z4 s (ZY M)=aa (aa (t,b,#[hD,y,z],)):=by
 have r:=hM.rise T.up;have nd:=RS r;have p:=Nj r (Tg hn);have q:=(ok.sub hM).at_side h2 n;have g:#[ut,Y6]:=λb d=>(Ni M n).mem_iff.mp (QD _ d);have h:#[ut,Y9]:=λb d=>(Ni M n).mem_iff.mp (QR _ d);have v:Win hd Ű (aa n):=by obtain _|x|f|hw:=T.win;exact(Tg hn,x,f,λb d y a=>hw b (ÊD (h b d)) y a)
 have i:∀m∈Y6 M n,c m=hd m:=λm A=>T.oth m λe=>p (e ▸ A);have j:(Ág).Nodup:=by unfold Y6;split;exact RS (RT r);exact RS (RU r)
 obtain w|hw:=Win.ex hd Ág j;cases w with
 | none=>exact .inl (hw.congr i,q.2 (.inr hw))
 | some b =>
  obtain⟨y,a⟩:∃y,hd b=aa y:=by obtain _|y|a|_:=hw;exact(y,a)
  obtain t|k|e|o:=q.1 n b z y v hw T.key a;have u:=g b hw.1;have B:b≠n:=λz=>p (z ▸ hw.1);have C:Btr z n y b:=by obtain _|x|f|l:=T.win;rw[gv,T.key,f,f];exact(l b (ÊD u) y a).resolve_left B
  have D:k=b:=by
   rcases o with⟨_,e⟩|⟨e,_⟩
   ·exact e
   ·exact(C.asym e).elim
  subst D;exact .inr (t,k,y,hw.congr i,by rw[i k hw.1];exact a,ÊD u,by rw[U7 y z];exact e)
theorem Ir(ns:Ô):(Xk ns).length=(ď+1) / 2:=by unfold Xk mid;rw[Qx];lia
theorem Iq(ns:Ô):(Wc ns).length=ď / 2:=by unfold Wc mid;rw[QL];lia
def V7:Nat->À Int->Int->À Ç1
 | 0,_,_=>[]
 | f+1,ns,n=>if ď<=1 then [] else if n∈Xk ns then Wc ns::V7 f (Xk ns) n else Xk ns::V7 f (Wc ns) n
def Xj(ns:Ô)(n:Int):À Int:=if n∈Xk ns then Xk ns else Wc ns
def VS(ns:Ô)(n:Int):À Int:=if n∈Xk ns then Wc ns else Xk ns
theorem RM{ns:Ô}{n:Int}(h:Îu):(Xj ns n).length<ď:=by
 unfold Xj;split
 ·rw[Ir];lia
 ·rw[Iq];lia
theorem Zqz{ns:Ô}{n:Int}(h:Îu):0<(Xj ns n).length:=by
 unfold Xj;split
 ·rw[Ir];lia
 ·rw[Iq];lia
theorem Nf{f:Nat}{ns:Ô}{n:Int}(h:Îu):V7 (f+1) ns n=VS ns n::V7 f (Xj ns n) n:=by
 conv=>lhs;unfold V7
 rw[uR];unfold VS Xj;split<;>rfl
theorem UY{f:Nat}{ns:Ô}{n:Int}(h:ď<=1):V7 f ns n=[]:=by
 cases f with
 | zero=>rfl
 | succ f=>unfold V7;rw[Æ h]
theorem Ip:∀ (f g:Nat) (ns:À Int) (n:Int),ď<=f+1->ď<=g+1->V7 f ns n=V7 g ns n
 | 0,g,ns,n,h,_=>by rw[UY Á,UY Á]
 | f+1,0,ns,n,_,h=>by rw[UY Á,UY Á]
 | f+1,g+1,ns,n,h1,h2=>by
  by_cases h:1<ď
  ·have:=RM (n:=n) h;rw[Nf h,Nf h,Ip f g _ n Á Á]
  ·rw[UY Á,UY Á]
def way(ns:Ô)(n:Int):À Ç1:=V7 ď ns n
theorem Io{ns:Ô}{n:Int}(h:Îu):way ns n=VS ns n::way (Xj ns n) n:=by
 unfold way;cases e:ď with
 | zero=>lia
 | succ f=>have:=RM (n:=n) h;rw[Nf h,Ip f (Xj ns n).length _ n Á Á]
theorem Nd{ns:Ô}{n:Int}(h:ď<=1):way ns n=[]:=UY h
theorem Im(n:Int):∀ns:À Int,inV ÅT Τ=decide (n∈ns)
 | []=>rfl
 | m::r=>by
  have ih:=Im n r;unfold inV at ih ⊢;rw[Qh,Qa0,ih];by_cases h:m=n
  ·subst h;simp[eqV]
  ·have:(m == n)=false:=by simpa using h
   simp[eqV,this,Âe,Àb h]
theorem Il:∀ns:À Int,(Τ).all Xo=true
 | []=>rfl
 | _::r=>by rw[Qh,Ðt,Il r];rfl
def Rd(H:Hp):À af->À Ç1->Prop
 | [],[]=>Μ
 | l::a,d::ds=>H l=aa #[sz,ÀE]/\Rd H a ds
 | _,_=>ĝ
theorem Rd.len{H:Hp}:∀ {a:À af} {ds:À (À Int)},Rd H a ds->ķ=ds.length
 | [],[],_=>rfl
 | [],_::_,h=>Àf
 | _::_,[],h=>Àf
 | _::a,_::ds,h=>by rw[QE,QE,Rd.len h.2]
theorem Îv{H b:Hp}:∀ {a:À af} {ds:À (À Int)},(∀l∈a,∀o,H l=aa o->b l=aa o)->Rd H a ds->Rd b a ds
 | [],[],_,_=>trivial
 | [],_::_,_,h=>Àf
 | _::_,[],_,h=>Àf
 | l::a,_::ds,k,h=>(k l Ù _ h.1,Îv (λx hx=>k x (Qw _ hx)) h.2)
theorem Rd.app{H:Hp}:∀ {a:À af} {ds:À (À Int)} {b:À af} {c:À (À Int)},Rd H a ds->Rd H b c->Rd H (a++b) (ds++c)
 | [],[],_,_,_,h=>h
 | [],_::_,_,_,h,_=>Àf
 | _::_,[],_,_,h,_=>Àf
 | _::a,_::ds,_,_,h,g=>(h.1,Rd.app h.2 g)
theorem Rd.rev{H:Hp}:∀ {a:À af} {ds:À (À Int)},Rd H a ds->Rd H a.reverse ds.reverse
 | [],[],h=>h
 | [],_::_,h=>Àf
 | _::_,[],h=>Àf
 | l::a,d::ds,h=>by rw[QaT,QaT];exact Rd.app (Rd.rev h.2) (h.1,trivial)
def Nc:Sp:=λvs H Q _=>X3 λ(a:af) (ns:À Int) (n:Int)=>C5 #[gf,a,n] #[sG,a,Τ] Îw #[sv,200] (∀ (r:af) (b:À af) (c:Hp),H r=ah->c r=aa #[fR,ÂJ,ø]->r ∉ b->(∀l∈b,H l=ah)->Rd c b (way ns n).reverse->Zu H c->Q Λ c)
def Dn(H:Hp)(a o:af)(ns:Ô)(n:Int)(b:af)(c:Ô)(d:Š)(e:Hp):Prop :=
 ∃done:À (À Int),e b=aa #[sz,Ŝ]/\b≠o/\1<=ë/\ë<=200/\way ns n=done++way c n/\Rd e d done/\e o=aa #[fR,ÀE,ø]/\Zu H e/\(∀l∈d,H l=ah)/\o ∉ d/\Àz+ë<=200
theorem Dn.step{H:Hp}{a o:af}{ns:Ô}{n:Int}{b:af}{d:Ô}{h:Š}{i f:Hp}(D:Dn H a o ns n b d h i)(v:H o=ah)(h1:1<Àz)(s:Zu i f){x y:af}(hx:f x=aa #[Ay,Xj,d])(hy:f y=aa #[Ay,VS,d])(nx:i x=ah)(j:i y=ah) :
  Dn H a o ns n x (Xj d n) (h++[y]) ÚE:=by
 obtain done|d1|d2|d3|d4|w|z|m|p|A|q|d11:=D;have r:x≠o:=(Zg m nx).symm;have t:y≠o:=(Zg m j).symm;have sl:=RM (n:=n) h1;have k:∀l,l≠o->∀u,f l=aa u->ÚE l=aa u:=λl hl u g=>by rw[Ze hl];exact g
 refine(done++[VS d n],k x r _ hx,r,Zqz h1,by lia,by rw[w,Io h1,ÕZ];rfl,?_,?_,λc u g=>?_,?_,?_,?_)
 ·refine Rd.app (Îv (λl hl u g=>k l (λe=>q (e ▸ hl)) u (s _ _ g)) z) (k y t _ hy,trivial)
 ·rw[Zb,Qi];rfl
 ·rw[Ze (Zg g v)];exact s _ _ (p _ _ g)
 ·intro l hl;rcases ÿ hl with hl|hl
  ·exact A l hl
  ·rw[ó hl];exact p.free j
 ·intro B;rcases ÿ B with hl|hl
  ·exact q hl
  ·exact t (ó hl).symm
 ·rw[Qg,QC];lia
theorem Zu1(T:Ø)(fH:Óc):Df P w K mg Â 2 "way_up" ÄO Nc:=by
 rw[h6,T.t_way_up.df,Vd];obtain a|r|n|rfl|R|h1|S|q:=h;refine(_,#[Zc,#[uj,2,Vd.nd],#[Zc,#[ij,3,Vd.nd,0],#[Zc,(@T7 _ _ _ _ _ _ Ž #[f8,Ä1] #[Zc,#[Yy,#[hT,fH,hr,Áf],#[eC,4,Vd.nd,5]],#[Zh,#[ZN,#[Zn,(inQ K),‹1›,‹4›,Àd],#[Zc,#[gD,2,5],#[Zh,#[ij,3,Vd.nd,4]]],#[Zc,#[gD,2,4],#[Zh,#[ij,3,Vd.nd,5]]]]]]),#[Zc,#[ZO,(@ZuC _ _ _ _ _ _ _ _ _ QH PySem.F.slot_list_reverse PySem.F.type_list_reverse Zm2 ‹2› Ë Ë)],ÃA]]]],Áe,λo g=>?_);have j:a≠o:=Zg R g;refine(_,rfl,λm U W=>X5 λ(b:af) (d:À Int) (i:À af) (X Y:Ã V)=>U=[aa ą,aa ÅT,aa (.ref o),aa ÁU,X,Y]/\Dn H a o r n b d i W/\m=Àz,(_,a,r,[],ah,ah,rfl,([],?_,j,h1,S,rfl,trivial,Zb,Zf g _,#[fk,l,k],(λC=>by cases C),by simpa using S),rfl),?_)
 ·rw[Ze j];exact R
 rintro m U W ⟨b,d,i,X,Y,rfl,D,rfl⟩;obtain done|Z|d2|d3|d4|d5|d6|F|d8|d9|tN|d11:=id D;have hlc:#[sA,ÀE]=(Àz:Int):=by rw[Qa]
 refine(_,rfl,b,_,rfl,.inl (É Z),_,_,rfl,rfl,_,rfl,?_);rw[gS,G]
 ·have I:(1:Int)<#[sA,ÀE]:=#[eQ,G];have J:1<Àz:=by lia
  refine Îx;refine(_,rfl,b,d,rfl,É Z,d4,λt x y H3 ht hx hy nxy et ex ey L ntx nty=>?_);rw[gu,t,et];have v:=L _ _ F;have bq:(i.map ø).length<aq:=by rw[Qa];exact ZD Á
  have sl:=RM (n:=n) J;refine(_,rfl,_,rfl,x,_,rfl,.inl (É ex),rfl,Il _,_,rfl,?_);show if inV (ß n) ((Xk d).map ß)=true then _ else _
  rw[Im];rw[gS,M]
  ·have p:n∈Xk d:=#[eQ,M];have N:Xj d n=Xk d:=by unfold Xj;rw[Æ p]
   have O:VS d n=Wc d:=by unfold VS;rw[Æ p]
   refine(_,rfl,.inl #[fm,v],_,rfl,o,_,_,rfl,rfl,v,bq,_,rfl,_,?_,x,Xj d n,i++[y],_,_,rfl,D.step g J L #[eH,N,ex] #[eH,O,ey] hx hy,rfl);exact sl
  ·have p:¬ n∈Xk d:=λz=>M ÃB;have N:Xj d n=Wc d:=by unfold Xj;rw[ti,p]
   have O:VS d n=Xk d:=by unfold VS;rw[ti,p]
   refine(_,rfl,.inl #[fm,v],_,rfl,o,_,_,rfl,rfl,v,bq,_,rfl,_,?_,y,Xj d n,i++[x],_,_,rfl,D.step g J L #[eH,N,ey] #[eH,O,ex] hy hx,rfl);exact sl
 ·have I:¬ (1:Int)<#[sA,ÀE]:=λz=>G ÃB;have e:way r n=done:=by rw[d5,Nd Á,QV]
  refine(_,rfl,.inl #[fm,F],o,_,rfl,rfl,F,_,rfl,q o i.reverse _ g (by rw[Zb,List.map_reverse]) (λC=>tN (ÚF C)) (λl k=>d9 l ÚG) ?_ λc u B=>?_)
  ·rw[e];refine Îv (λl k u B=>?_) d6.rev;rw[Ze (λz=>by subst z;exact tN ÚG)];exact B
  ·rw[Ze (Zg B g)];exact d8 _ _ B
theorem Ik:∀ (k:Nat) (M:À Int) (n:Int),Àe<=2 ^ k->(way M n).reverse=(Ón).map (λX=>Y6 X n)
 | 0,M,n,h=>by rw[Nd #[eE,h]];rfl
 | k+1,M,n,h=>by
  unfold Z6;by_cases h2:2<=Àe
  ·rw[Æ h2,Io Á,QaT,Qi];have hs:(Ű).length<=2 ^ k:=by
    rw[Qbe]at h;unfold Y9;split
    ·unfold lo mid;rw[Qx];lia
    ·unfold up mid;rw[QL];lia
   have e:=Ik k Ű n hs;rw[<- e];rfl
  ·rw[È h2,Nd Á];rfl
theorem Zrp{M:Ô}(h:ÃJ)(n:Int):Y6 M n≠[]:=by
 unfold Y6;split
 ·exact W7 (U1 h).2
 ·exact W7 (Vv h).2
theorem ZmO{M:Ô}(r:Yk M)(h:ÃJ)(n:Int):ZY M=(if (Ág).headD 0<(Ű).headD 0 then (Y6 M n).headD 0 else (Y9 M n).headD 0,if (Ág).getLastD 0>(Ű).getLastD 0 then (Y6 M n).getLastD 0 else (Y9 M n).getLastD 0,):=by have a:=NK h;have b:=NL h;have e:=Uo (W7 (Vv h).2);have f:=Um (W7 (Vv h).2);have g:=Uo (W7 (U1 h).2);have i:=Um (W7 (U1 h).2);have c:=ZT r e g;have d:=ZT r f i;unfold Y9 Y6;split<;>(refine Prod.ext ?_ ?_<;>dsimp only<;>first|lia|(split<;>lia))
theorem Rd.get{H:Hp}:∀ {c:À af} {ds:À (À Int)},Rd H c ds->∀ {i:Nat} {l:af} {d:À Int},c[i]? = aa l->ds[i]? = aa d->H l=aa #[sz,ÀE]
 | [],[],_,i,l,d,h,_=>by simp at h
 | l::c,d::ds,(h1,h2),0,a,b,e,f=>by simp at e f;rw[<- e,<- f];exact h1
 | l::c,d::ds,(h1,h2),i+1,a,b,e,f=>Rd.get h2 #[eE,e] #[eE,f]
def Ij:Sp:=λvs H Q _=>X3 λ(a:af) (N:À Int) (n:Int)=>C6 #[gf,a,n] (H a=aa #[sz,N.map]) (n∈N) (ĩ<=60) (Yk N) (∀ (r:af) (ts:À af) (b:Hp),H r=ah->b r=aa #[fR,À9,ø]->Φ=(ÊE).length->(∀ (i:Nat) (t:af) (X:À Int),ts[i]? = aa t->ÊE[i]? = aa X->b t=aa #[ht,X])->Zu H b->Q Λ b)
theorem ZmV(T:Ø)(kZ:ÚH):Df P w K mg Â 3 "matches_up" ÄO Ij:=by
 rw[h6,T.t_matches_up.df,Vc];obtain a|N|n|rfl|ha|hn|lV|gU|q:=h;refine(_,#[Zc,#[uj,2,Vc.nd],#[Zc,#[ij,3,Vc.nd,1],#[Zc,#[ij,4,Vc.nd,1],#[Zc,#[XN,Ž,#[iL,K,#[sF,kZ,hr,0]],#[sU,5,Vc.nd],#[Zc,#[Zq,3,Vc.nd,á,#[Zo,(Rc rfl),Ë,ÊF,ÊG,#[Zd,‹3›,#[ZA,(ixL K),‹5›,Ú]]]],#[Zc,#[Zq,4,Vc.nd,á,#[Zo,(Zos rfl),Ë,T.b.n_max,boot_max,#[Zd,‹4›,#[h0,5]]]],#[Zh,#[ZO,#[YF,K,QH,QN,QO,WR,‹2›,#[Zd,#[ZS,#[fB,3,4]]]]]]]]],ÃA]]]],?_);have eM:=Qbf hn;have A0:ĩ<=2 ^ 8:=Qj lV Å;obtain ED|Ct|clen:=Ng 8 N n hn A0;rw[s6,Áe,r,J];rw[gy,L,J,k,r];refine(_,rfl,_,rfl,_,rfl,_,rfl,a,N,n,rfl,L _ _ ha,eM,by lia,λwy B H2 m Cu hnot eB M O=>?_);rw[Ik 8 N n A0]at M;have sF:=M.len;rw[Qa]at sF;have R:=L.trans O;refine(wy,rfl,#[sK,Cu],?_);refine Rp (K:=K) (a:=wy) (xs:=B.map ø) (λi C d=>X2 λ(S:Ã V) (c:À af)=>C=[aa ą,aa ÅT,aa Λ,aa (.int (#[mg].headD 0)),aa (.int (#[mg].getLastD 0)),S]/\i<=ÉK/\ë=i/\d r=aa #[fR,Ŝ,ø]/\(∀ (j:Nat) (t:af) (X:À Int),c[j]? = aa t->ÊE[j]? = aa X->d t=aa #[ht,X])/\(∀t∈c,t≠r/\∃xs,d t=aa ű)/\#[f6,o,H2,r,d]) (_,[],rfl,Qp _,rfl,O _ _ k,(λj t X h=>by simp at h),#[fk,t,h],λb o h _=>h) (λi C d _ hq=>by obtain _|_|_|_|_|_|_|_|e:=hq;exact É (e _ _ Cu (λz=>by rw[z,k]at m;cases m))) ?_ ?_
 ·rintro i y C d p ⟨S,c,rfl,hi,U,g,W,Z,e⟩;rw[Qr]at p;cases v:B[i]? with
  | none=>rw[v]at p;cases p
  | some l =>
  rw[e5,v,p,dP,ÉK];cases x:(Z6 8 N n)[i]? with
  | none=>rw[QaY]at x;lia
  | some X =>
  obtain x1|x2|x3|x4:=ED i X x;have fB:H2 l=aa #[Ay,Y6,X]:=M.get v (by rw[Qr,x];rfl);have nlr:l≠r:=λz=>by rw[z]at fB;rw[O _ _ k]at fB;have:=eB l (Qm v);rw[iz,k]
  have i3:=e _ _ fB nlr;have cK:=Zrp x2 n;have D:=ZmO (x1.rise gU) x2 n;rw[x4]at D;have e3:low n ÊE (i+1)=X:=by show (Z6 8 N n).getD i []=X;rw[QJ,x];rfl
  refine(_,rfl,_,rfl,l,_,_,_,rfl,rfl,É i3,IP cK,_,_,rfl,_,rfl,_,rfl,_,rfl,l,_,_,_,rfl,rfl,É i3,IQ cK,_,_,rfl,_,rfl,.inl #[fm,g],_,rfl,_,rfl,Ť,λt F=>?_);have G:r≠t:=Zg g F;refine(r,_,_,rfl,rfl,by rw[Ze G];exact g,Ç0,aa Ŋ,c++[t],?_,dP,by rw[Qg,QC];lia,by rw[Zb,Qi];rfl,λj u Y hu hY=>?_,λu hu=>?_,λb o I nb=>?_)
  ·rw[e3];have h1:=ħ Prod.fst D;have h2:=ħ Prod.snd D;simp only at h1 h2;rw[show X.headD 0=(ZY X).1 from rfl,show X.getLastD 0=(ZY X).2 from rfl,h1,h2];rfl
  ·have A3:∀ (u:af) (xs:À V),d u=aa ű->(upd (upd d t (.tup [.int (if (Y6 X n).headD 0<#[mg].headD 0 then (Y6 X n).headD 0 else (low n ÊE i).headD 0),.int (if (Y6 X n).getLastD 0>#[mg].getLastD 0 then (Y6 X n).getLastD 0 else (low n ÊE i).getLastD 0)])) r (.lst (Ŝ ø++[.ref t]))) u=aa ű:=λu xs hu=>by rw[Ze (λz=>by rw[z,g]at hu;cases hu),Ze (Zg hu F)];exact hu
   by_cases hj:j<ë
   ·rw[QX hj]at hu;exact A3 u _ (W j u Y hu hY)
   ·have ej:j=ë:=by have:=(Ń hu).1;rw[Qg,QC]at this;lia
    subst ej;rw[QW ò,Qbg]at hu;cases hu;rw[fW,U,x,hY];rw[Ze G.symm,Zb,D]
  ·rcases ÿ hu with hu|hu
   ·obtain g1|xs|g2:=Z u hu;exact(g1,xs,by rw[Ze g1,Ze (Zg g2 F)];exact g2)
   ·rw[ó hu];exact(G.symm,_,by rw[Ze G.symm];exact Zb)
  ·have:=e b o I nb;rw[Ze nb,Ze (Zg this F)];rw[wr]
 ·rintro C d ⟨S,c,rfl,_,U,g,W,_,e⟩;rw[Qa]at U;exact(_,rfl,q r c d J g Á W (λb o I=>e b o (R b o I) (Zg I J)))
def CV(H:Hp)(v:V)(c:Com):Prop:=(c=ah/\v=.non)\/X2 λ(t:af) (p:Int×Int)=>c=aa p/\v=.ref t/\H t=aa #[fT,p.1,p.2]
theorem CV.keep{H a:Hp}{v:V}{c:Com}(h:CV H v c)(k:#[e8,t,xs,H,ű,a]):CV a v c:=by
 rcases h with h|⟨t,p,b,d,e⟩
 ·exact .inl h
 ·exact .inr (t,p,b,d,k _ _ e)
theorem ZpE{s:StL}{k:Ŏ}{a:ÃE}(h:Z4 s k=aa a):s.any Îc=true:=Ò5 (_,IU h,û rfl)
theorem Nb{s:StL}{k:Ŏ}{a v:ÃE}(h:Z4 s k=aa a):(Êt).length=Ŗ:=by unfold XY;rw[Æ (ZpE h),Qa]
def AgS(hd:Hd)(z:ś)(A B:Ô)(k q:Int):Prop:=∀C a b,Ag hd z C a b->Ag hd z (C++[(A,B,)]) (a+k) (b+q)
def Ii(d e:af):Sp:=λvs H Q _=>X15 λ(m rd sd:af) (L:À Zz) (s:StL) (nb li lo:Int) (f:V) (g:af) (v:V) (c:Com) (z:À Nat) (M:À Int) (n:Int)=>C12 (vs=[.ref m,.ref g,v]) #[eZ,d,e,f] (H g=aa #[ht,M]) (CV H v c) (Tf ģ z Ű c) (((Win ģ Ág ah/\ÚD)\/X3 λt b y=>Win ģ Ág (aa b)/\hdM L b=aa y/\Z4 s (ZY M)=aa (aa (t,b,#[hD,y,z],)))) ((∀b∈M,∀y,hdM L b=aa y->ZW z y<=0)) (Yk M) ((∀b∈M,b∈ZC L)) (2<=Àe) (n∈M) (∀ (h:V) (i:Com) (s':StL) (k q:Int) (a:Hp),CV a h i->Tf ģ z M i->V8 ģ s' Ű Ág (ZY M)->(∀j,j≠ZY M->Z4 s' j=Z4 s j)->AgS ģ z Ű Ág k q ->
  ZQ d e a m rd sd L s' nb (li+k) (lo+q) f->#[fv,H,sd,a]->Q h a)
theorem Ih{L:ù}(nd:Êw){b:Int}(hb:b∈ZC L){y:ś}(hy:hdM L b=aa y):∃e∈L,e.n=b/\∃x,ì[e.g]? = aa x/\y=cds x:=by
 obtain e|c|rfl:=Tn hb;rw[U0 nd c]at hy;cases a:ì[e.g]? with
 | none=>rw[a]at hy;cases hy
 | some x=>rw[a]at hy;cases hy;exact(e,c,rfl,x,a,rfl)
theorem ZrI(T:Ø)(cu:Úo):Mf P w K mg Â 4 ao "play_again" ÍF (Ii ax ao):=by
 rw[h6,T.t_Merge_play_again.mf,Tz];obtain m|rd|I|L|s|nb|li|lo'|aI|tm|v|c|z|M|n|rfl|Mg|pp|A4|⟨wS,hcf⟩|ce|gy|gU|kb|h2|hn|q:=h;refine(_,#[Zc,#[Zq,3,Tz.nd,á,(@ZuJ _ _ _ _ _ _ _ _ hr Ģ ‹1› Ë Ë Ë)],#[Zc,#[ZN,#[gF,3],ÃA,ï],#[Zc,#[ZN,#[gF,2],#[Zc,#[Yy,Ł,#[jt,1,hr]],#[hJ,3]],ï],#[Zc,#[ZN,#[Zn,Yu,ÊH,ÊI,č],#[Zc,#[Yy,#[Xm,cu,æ,hr,‹0›,#[Zd,ÊH,ÊI,ÊH]],#[gt,4,Tz.nd,5,6]],#[Zc,#[Yy,#[ZS,#[fB,5,6]],#[jt,1,hr]],#[Zh,#[Zl,#[ZS,#[Zd,‹4›,ÊH]]]]]],ï],#[Zc,Óa,#[Zc,#[ZN,#[Zn,WT,ÊH,ÊI,č],ÃA,ï],#[Zc,#[Yy,‹2›,#[jt,1,hr]],#[hJ,3]]]]]]]],?_);rw[e2,dx,N,Mg.ob];have wD:#[iS,H]:=pp;have Y:=Ni M n;have dg:=Y0.t (k:=ÊJ) ÊK wD;rw[IV]at dg;have sA:#[ut,Y9]:=λb r=>Y.mem_iff.mp (QR _ r);have sB:#[ut,Y6]:=λb r=>Y.mem_iff.mp (QD _ r);have gR:=Nj gU (Tg hn);have dis:∀a b,a∈Y9 M n->b∈Y6 M n->a≠b:=λa b ha r e=>by
  subst e;unfold Y9 Y6 at *
  split at ha
  ·rename_i hl;rw[tM,hl,r];have:=ZT gU ha r;lia
  ·rename_i hl;rw[sR,hl,r];have:=ZT gU r ha;lia
 refine(_,rfl,m,ao,dx,_,_,rfl,N,æ,Æb,Tl ..,I,rfl,.inr (_,.inl ÊK),_,rfl,_,dg,?_);rcases ce with⟨u,U⟩|⟨t,b,y,u,D,U⟩
 ·have ev:#[zW].getD .non=.non:=by rcases U with e|e<;>rw[e]<;>rfl
  rw[ev];refine(_,rfl,rfl,_,rfl,Xu rfl (_,rfl,q v c s 0 0 H A4 ((Îa wS u).perm Y,hcf) ((λa b x y _ wb _ _=>nomatch u.one wb),λ_=>U) Ä0 (λC k0 q0 g=>by rw[QaM,QaM];exact .no g (.inr u)) (Mg.cast Á Á) Ód))
 have Z:=Mg.ats _ (IU U) _ rfl;have e1:#[zW].getD .non=.ref t:=by rw[U];rfl
 rw[e1];have EE:=Mg.sfew;have cT:(kvS s).length<aq:=by unfold kvS;rw[r5]
 rw[bm];have yR:=sB b u.1;rcases A4 with⟨rfl,rfl⟩|⟨F,p,rfl,rfl,J⟩
 ·refine ÚI;refine(_,rfl,m,ao,dx,_,_,rfl,N,æ,Æb,Tl ..,_,rfl,I,_,rfl,WQ.t (k:=ÊJ) ÊK wD cT,?_);rw[show V.non=stV ah from rfl,RV];have cP:(XY s (ZY M) ah).length<=200:=by rw[Nb U];exact EE
  have M2:=Mg.put (k:=ZY M) (v:=ah) #[fk,t,W] cP;have B:Win ģ Ű ah:=wS;refine(_,rfl,q Âs (aa (b,#[hD,y,z],)) _ 0 0 _ #[ta,t,?_] ((Îb B u).perm Y,λp hp=>?_) ((λa b x y wa _ _ _=>nomatch B.one wa),λ_=>.inr ?_) (λj hj=>?_) (λC k0 q0 g=>?_) (M2.cast Á Á) (λb o r _ n2=>by rw[Ze n2];exact r))
  ·rw[sT,Ze,z,ÊK,Z]
  ·cases hp;exact(y,D,rfl)
  ·rw[Wb,Æ rfl]
  ·rw[Wb,È hj]
  ·rw[QaM,QaM];exact .no g (.inl B)
 rw[e2,a,fa,p];obtain x|G|efa:=hcf _ rfl;simp only at G efa;subst efa;have B:Win ģ Ű (aa a):=wS;have haM:=sA a B.1;have hJ:=dis a b B.1 u.1;obtain O|AV|rfl|i|hzx|rfl:=Ih Mg.nd (kb a haM) G;obtain eb|AW|rfl|l|hzy|rfl:=Ih Mg.nd (kb b yR) D;rw[id,c0,O.n,ÂR,0,O.n];rw[id,c1,O.n,ÂR,1,ÂR];rw[id,d0,eb.n,Ç2,0,eb.n];rw[id,d1,eb.n,Ç2,1,Ç2];rw[bm];refine(_,rfl,F,_,_,_,rfl,rfl,þ J,c1,_,rfl,t,_,_,_,rfl,rfl,þ Z,d1,rfl,_,rfl,Z5 β β)
 ·have ef:lcp (cds i) z=lcp (cds l) z:=by have:=ÀY;injection this with this;lia
  have uY:=ZuZ ef;refine(_,rfl,m,dx,_,rfl,N,IN ..,_,rfl,F,_,_,_,rfl,rfl,þ J,c0,_,rfl,t,_,_,_,rfl,rfl,þ Z,d0,_,rfl,F,_,_,_,rfl,rfl,þ J,c1,m,rd,I,L,s,nb,li,lo',aI,O,eb,i,l,lcp (cds i) z,rfl,Mg,AV,AW,hzx,hzy,uY,λt5 wi R H5 hw Eu yK M5 b5=>?_);rw[hs,t5,yK];have yL:2<=aq:=by decide
  refine(_,rfl,_,rfl,yL,λS Ev=>?_);have s6:=Zf Ev #[fT,R,Ç3];have ud:(upd H5 S #[fT,R,Ç3]) S=aa #[fT,R,Ç3]:=Zb;have M6:=M5.same s6;generalize upd H5 S (.tup [.int R,.int ((lcp (cds i) (cds l):Nat):Int)])=H6 at s6 ud M6 ⊢;rw[e2,Ew,Ex,M6.ob];have EF:tm≠m:=λz=>by rw[z,N]at pp;cases pp
  have EG:F≠m:=λz=>by rw[z,N]at J;cases J
  have htm6:#[iS,H6]:=s6 _ _ (b5 _ _ wD EF);refine(_,rfl,m,ao,Ew,_,_,rfl,Ex,æ,Æb,Tl ..,_,rfl,I,_,rfl,WQ.t (k:=ÊJ) M6.stays htm6 cT,?_);rw[show ø S=stV (aa (S,R,Ç3,)) from rfl,RV];have cP:(ÜZ).length<=200:=by rw[Nb U];exact EE
  have M7:=M6.put (k:=ZY M) (v:=aa (S,R,Ç3,)) (λt W=>by injection W with W;rw[<- W];exact ud) cP;have b7:∀b o,H b=aa o->b≠m->b≠I->(upd H6 I (.dT (kvS ÜZ))) b=aa o:=λb o r n1 n2=>by rw[Ze n2];exact s6 _ _ (b5 b o r n1)
  have ntcs:F≠I:=λz=>by rw[z,ÊK]at J;cases J
  generalize upd H6 I (.dT (kvS (XY s (ZY M) (aa (S,R,((lcp (cds i) (cds l):Nat):Int),)))))=H7 at M7 b7 ⊢;refine(_,rfl,_,rfl,F,_,_,_,rfl,rfl,þ (b7 _ _ J EG ntcs),c1,yL,λt8 ht8=>?_);have wn:Win ģ M (aa wi):=by
   rcases hw with⟨X,rfl,_⟩|⟨X,rfl,_⟩
   ·exact(ÇQ B u G D X).perm Y
   ·exact(Êr B u G D ((ÇP hJ).resolve_left X)).perm Y
  refine q (.ref t8) (aa (wi,ÂR,)) _ 1 ((lcp (cds i) (cds l):Nat)-(lcp (cds i) z:Nat)+1) _ #[ta,t8,Zb] (wn,λp hp=>?_) (λa b x' y' wa wb vd ve=>?_,λgR=>?_) ÚJ (λC k0 q0 g=>.eq g B u G D ef) ((M7.same (Zf ht8 _)).cast rfl rfl) (λb o r n1 n2=>Zf ht8 _ _ _ (b7 b o r n1 n2))
  ·cases hp;rcases hw with⟨X,rfl,_⟩|⟨X,rfl,_⟩
   ·exact(_,G,rfl)
   ·exact(_,D,by simp only;rw[ef])
  ·rw[20];refine(S,R,by rw[Wb,Æ rfl],?_);rcases hw with⟨X,_,rfl⟩|⟨X,_,rfl⟩
   ·exact .inl (X,rfl)
   ·exact .inr ((ÇP hJ).resolve_left X,rfl)
  ·rcases gR with z|z
   ·rw[hO,B]
   ·rw[hO,u]
 have nef:lcp (cds i) z≠lcp (cds l) z:=λe=>d (û (by rw[e]));rw[gX,N,Îi,No,IR];have M2:=Mg.obj (nb':=nb) (li':=li+1) (lo':=lo') (Å9:=aI) (dx:=dx);have k2:∀b o,H b=aa o->b≠m->(upd H m (.ins ao dx (mgF rd nb (li+1) lo' I aI))) b=aa o:=λb o r n=>by rw[Ze n];exact r
 have EG:F≠m:=λz=>by rw[z,N]at J;cases J
 have A5:t≠m:=λz=>by rw[z,N]at Z;cases Z
 have EF:tm≠m:=λz=>by rw[z,N]at pp;cases pp
 generalize upd H m (.ins ao dx (mgF rd nb (li+1) lo' I aI))=H2 at M2 k2 ⊢;have yT:=k2 _ _ J EG;have wE:=k2 _ _ Z A5;refine(_,rfl,F,_,_,_,rfl,rfl,þ yT,c1,_,rfl,t,_,_,_,rfl,rfl,þ wE,d1,_,_,rfl,rfl,_,rfl,Z5 (λg=>?_) (λg=>?_))
 ·have hgt:lcp (cds l) z<lcp (cds i) z:=by have:Ç2<ÂR:=#[eQ,g];lia
  obtain bt|el:=Iu (a:=O.n) (b:=eb.n) hgt (gy _ yR _ D);refine(_,rfl,q (.ref F) (aa (O.n,ÂR,)) s 1 0 H2 #[ta,F,yT] ((ÇQ B u G D bt).perm Y,λp hp=>by cases hp;exact(_,G,rfl)) (λa b x' y' wa wb vd ve=>?_,λgR=>?_) Ä0 (λC k0 q0 g=>by rw[QaM];exact .ne g B u G D nef) (M2.cast rfl Á) (λb o r n1 _=>k2 b o r n1))
  ·rw[20];exact(t,_,by rw[el];exact U,.inl (bt,rfl))
  ·rcases gR with z|z
   ·rw[hO,B]
   ·rw[hO,u]
 ·have bq:lcp (cds i) z<lcp (cds l) z:=by have:¬ Ç2<ÂR:=λe=>g (û e);lia
  obtain bt|el:=Iu (a:=eb.n) (b:=O.n) bq (gy _ haM _ G);rw[oC];have htm2:#[iS,H2]:=k2 _ _ wD EF;refine(_,rfl,_,rfl,m,ao,kX,_,_,rfl,cX,æ,Æb,Tl ..,_,rfl,I,_,rfl,WQ.t (k:=ÊJ) M2.stays htm2 cT,?_);rw[show ø F=stV (aa (F,O.n,ÂR,)) from rfl,RV];have cP:(XY s (ZY M) (aa (F,O.n,ÂR,))).length<=200:=by rw[Nb U];exact EE
  have M3:=M2.put (k:=ZY M) (v:=aa (F,O.n,ÂR,)) (λt W=>by injection W with W;rw[<- W];exact yT) cP;refine(_,rfl,q Âs (aa (eb.n,Ç2,)) _ 1 0 _ #[ta,t,?_] ((Êr B u G D bt).perm Y,λp hp=>by cases hp;exact(_,D,rfl)) (λa b x' y' wa wb vd ve=>?_,λgR=>?_) ÚJ (λC k0 q0 g=>by rw[QaM];exact .ne g B u G D nef) (M3.cast rfl Á) (λb o r n1 n2=>by rw[Ze n2];exact k2 b o r n1))
  ·rw[sT,Ze,z,M2.stays,wE]
  ·rw[20];exact(F,_,by rw[Wb,Æ rfl,U7 (cds i) (cds l),el],.inr (bt,rfl))
  ·rcases gR with z|z
   ·rw[hO,B]
   ·rw[hO,u]
def WN(n:Int)(e:Zz):Zz:=if e.n=n then (e.n,e.p,e.k,e.f,ì,e.g+1) else e
def ÀI(L:ù)(n:Int):À Zz:=ŏ (WN n)
theorem UX(n:Int)(e:Zz):(WN n e).n=e.n/\(WN n e).p=e.p/\(WN n e).k=e.k/\(WN n e).f=e.f/\(WN n e).ss=ì:=by unfold WN;split<;>exact ÚK
theorem RL{n:Int}{e:Zz}(h:e.n=n):WN n e=(e.n,e.p,e.k,e.f,ì,e.g+1):=Æ h
theorem Na{n:Int}{e:Zz}(h:¬ e.n=n):WN n e=e:=È h
theorem Uh(L:ù)(n:Int):ZC Ç4=ZC L:=by unfold ZC ÀI;rw[Qz];exact QU λe _=>(UX n e).1
theorem Zs9(L:ù)(n:Int):(Ç4).map (·.p)=ŏ (·.p):=by unfold ÀI;rw[Qz];exact QU λe _=>(UX n e).2.1
theorem Zpr(L:ù)(n:Int):kvM Ç4=kvM L:=by unfold kvM ÀI;rw[Qz];refine QU λe _=>?_;simp only[Îy];rw[(UX n e).1,(UX n e).2.1]
theorem Zsf{m rd sd:af}{L:ù}{n:Int}{b:af}(h:Fp m rd sd Ç4 b):Fp m rd sd L b:=by
 rcases h with h|h|h|⟨e',a,h⟩
 ·exact .inl h
 ·exact .inr Åk
 ·exact .inr (.inr Åk)
 ·rw[eV,e,c,a];obtain _|d|f|g|_:=UX n e;rw[d,f,g]at h;exact .inr (.inr (.inr (e,c,h)))
theorem Fp_bump'{m rd sd:af}{L:ù}{n:Int}{b:af}(h:Fp m rd sd L b):Fp m rd sd Ç4 b:=by
 rcases h with h|h|h|⟨e,a,h⟩
 ·exact .inl h
 ·exact .inr Åk
 ·exact .inr (.inr Åk)
 ·obtain _|c|d|f|_:=UX n e;refine .inr (.inr (.inr (WN n e,Qk a,?_)));rw[c,d,f];exact h
theorem Ig{n b:Int}(h:b≠n):∀L:À Zz,hdM Ç4 b=hdM L b
 | []=>rfl
 | e::L=>by
  have ih:=Ig h L;unfold hdM hdL ÀI at ih ⊢;rw[Qh,Qh,Qh,Q8,Q8];have c:(toL (WN n e)).1=e.n:=(UX n e).1;rw[c];by_cases a:e.n=b
  ·rw[û a,û (show (toL e).1=b from a),Na (λz=>h (a.symm.trans z))]
  ·rw[Ē a,Ē (show ¬ (toL e).1=b from a)];exact ih
theorem Ie{L:ù}(nd:Êw){e:Zz}(he:e∈L):hdM Ç5 e.n=(ì[e.g+1]?).map cds:=by have a:WN e.n e∈ÀI L e.n:=Qk he;rw[RL rfl]at a;exact U0 (L:=ÀI L e.n) #[eH,Uh,nd] a
theorem M0(k f:af)(g:Int):YQ k f g=ÚL:=by unfold YQ;rw[WY,Zy nFK,WY,Zy nGK,Zy nGF,WY]
theorem ZiP(k f:af)(g v:Int):Zx "gone" (.int v) Í3=YQ k f v:=by rw[M0,M0,Zy nGK,Zy nGF,Vu]
theorem MZ(k f:af)(g:Int):(Í3).length<1000:=by rw[M0];show 3<1000;decide
theorem Zpg(k f:af)(g:Int):(Í3).lookup ("fars" : am)=aa Ĉ:=by unfold YQ;rw[Zr,È nGF,Zr,Æ rfl]
theorem Ic{L:ù}(pd:#[zG].Nodup){e e':Zz}(he:e∈L)(a:e'∈L)(h:e.p=e'.p):e=e':=by
 have b:((ŏ λx=>(x.p,x,)).map ċ).Nodup:=by rw[Qz];exact pd
 have:=RO b #[tJ,x.p,he] #[tJ,x.p,a] h;rw[yS]
theorem ZQ.bump{b i:af}{H:Hp}{m rd sd:af}{L:ù}{s:StL}{nb li lo:Int}{j:V}(M:#[ga,b,i,j]){e:Zz}(he:e∈L)(o:e.g<ψ){dp:af} :
  ZQ b i (upd H e.p (.ins b dp (YQ e.k e.f #[gk,e.g,1]))) m rd sd (My.bump L e.n) s nb li lo j:=by
 rw[hr,p,q];obtain dq|c:=Óp;obtain r|_|_:=M.ne_p he;obtain d|_|_|u|_|_:=ÇZ he;refine((p,by rw[Ze r];exact q),by rw[Ze u,Zpr];exact ņ,by rw[Ze d];exact ÇX,λx a t v=>?_,λe' w=>?_,by rw[Uh];exact M.up,by rw[Zs9];exact M.pd,by unfold My.bump;rw[Qa];exact Á7,M.sfew)
 ·have:=M.ats x a t v;rw[fF,c]
 ·rw[eV,x,a,w];have R:=ÀZ x a;have g:∀ {y:Zz},y∈L->y.k≠e.p/\y.f≠e.p:=λ{y} A=>by have k:=ÀZ y A;exact((λz=>by have:=k.at'.ks;rw[z,c]at this;cases this),(λz=>by have:=k.at'.fs;rw[z,c]at this;cases this))
  obtain l|n:=g a;by_cases h:x.n=e.n
  ·have ex:x=e:=by
    have d:((ŏ λx=>(x.n,x,)).map ċ).Nodup:=by rw[Qz];exact ů
    have:=RO d #[tJ,x.n,a] #[tJ,x.n,he] h;rw[yS]
   subst ex;rw[RL rfl];exact(((dp,Zb),by show (upd H x.p _) x.k=_;rw[Ze l];exact R.at'.ks,by show (upd H x.p _) x.f=_;rw[Ze n];exact R.at'.fs),o,R.len,R.srt,R.str)
  ·rw[Na h];exact R.keep (Ze (λz=>h (by rw[Ic M.pd a he z]))) (Ze l) (Ze n)
theorem Zwp{L:ù}{e:Zz}{x:am}(nd:Êw)(up:Yk Ů)(he:e∈L)(hx:ì[e.g]? = aa x)(srt:ŝ ì=true)(W:ÚM):Tk ģ ÃK Ů e.n ć:=by
 refine(W,by rw[U0 nd he,hx];rfl,λb d=>Ig d L,λy a=>?_,up);rw[Ie nd he]at a;cases c:ì[e.g+1]? with
 | none=>rw[c]at a;cases a
 | some f=>rw[c]at a;cases a;exact Ja srt e.g x f hx c
theorem Ib{c:Ê}{b d:VK->Prop}{Q:VK}(P:V->Hp->Prop)(h1:c=true->∀a:VK,(∀v H,P v H->a v H)->b a)(h2:c=false->∀a:VK,(∀v H,P v H->a v H)->d a)(q:∀v H,P v H->Q v H):if c=true then b Q else d Q:=by
 cases c with
 | true=>rw[Æ rfl];exact h1 rfl Q q
 | false=>rw[È Å];exact h2 rfl Q q
def Ug(n:Int)(C:À Ç1):À Óo:=C.map λX=>(Y9 X n,Y6 X n,)
theorem Zlc(rd:af)(nb li lo:Int)(sd:af)(a:V):#[18].lookup ("play_again" : am)=ah:=Ào
def Ia(c d:af):Sp:=λvs H Q _=>X11 λ(m rd sd:af) (L:À Zz) (s:StL) (nb li lo:Int) (g:V) (e:Zz) (x:am)=>C7 #[gf,m,e.n] #[eZ,c,d,g] (e∈L) (ì[e.g]? = aa x) (Win ģ Ů (aa e.n)) Îz (∀ (s':StL) (f:Ã Int) (k q:Int) (a:Hp),ZQ c d a m rd sd Ç5 s' nb (li+k) (lo+q) (Yx f)->Win ÃK Ů f->Z3 ÃK s' Ů->Ag ÃK ć (Ug e.n ÎA) k q->#[hu,rd,sd,a]->Q .non a)
theorem Zsx(T:Ø)(bh:ÇW)(hZ:#[e4,3,"matches_up",ÄO,Ij])(dQ:Mf P w K mg Â 4 ao "play_again" ÍF (Ii ax ao)):Mf P w K mg Â 5 ao "send_out" ÍE (Ia ax ao):=by
 rw[h6,T.t_Merge_send_out.mf,TB];obtain m|O|G|L|s|nb|li|lo'|aI|e|x|rfl|M|S|hx|W|ok|q:=h;refine(_,#[Zc,#[Zq,2,TB.nd,á,#[i1,hr,1]],#[Zc,#[Vl,‹2›,Ú,T3],#[Zc,#[Zq,3,TB.nd,á,#[Yb,#[Zn,Xz,#[t8,bh,hr,2],Ł,č],Ł,#[ZS,#[Zd,‹1›,#[ZA,(ixL K),#[ZH,‹2›],#[ZH,‹2›]]]]]],#[Zc,#[XN,Ž,#[iL,K,#[ZG,hZ,hr,#[Zd,Ús,‹1›],Ë]],#[sU,4,TB.nd],#[Zh,#[Zq,3,TB.nd,á,#[Xm,dQ,æ,hr,‹0›,#[fB,4,3]]]]],#[Zh,#[XJ,‹0›,#[Yb,#[gF,3],Ł,ÊI]]]]]]],?_);rw[zZ];rw[tQ,R,S,dp,hp,Êy];have hg:e.g<ψ:=(Ń hx).1;have tk:=Zwp ů M.up S hx R.srt W;refine(_,rfl,m,ao,dx,_,_,rfl,hm,æ,ť,Z8 ..,_,rfl,O,_,rfl,Àn (k:=Æa) ņ (V9 ů S),_,rfl,e.p,ax,dp,_,_,rfl,hp,Ņ,ÇO,Tr ..,_,_,rfl,rfl,dp,_,hp,MZ ..,?_);rw[ZiP,show ((e.g:Int)+1)=#[gk,e.g,1] by lia];have M1:=M.bump S hg (dp:=dp);rw[e3,A6,H,e.p,ÚN];have k1:#[ss,o,H,e.p,H,ÚN]:=λb o B n=>by rw[Ze n];exact B
 generalize upd H e.p (.ins ax dp (YQ e.k e.f ((e.g+1:Nat):Int)))=H1 at M1 A6 k1 ⊢;have iu:((e.n,e.p,e.k,e.f,ì,e.g+1):Zz)∈ÀI L e.n:=by have:WN e.n e∈ÀI L e.n:=Qk S;rwa [RL rfl]at this
 have R1:=Îl _ iu;have jE:∀ {C:Hp},#[fv,H1,G,C]->∀b o,H b=aa o->¬ Fp m O G L b->C b=aa o:=λ{C} k b o B nf =>
  k b o (k1 b o B λz=>nf #[gH,e,S]) #[hl,nf] (λz=>nf (.inr Á8))
 have eM:e.n∈ZC L:=W.1;have lV:(Ů).length<=60:=by unfold ZC;rw[Qa];exact Á7
 have A0:(Ů).length<=2 ^ 8:=Qj lV Å;obtain ED|Ct|clen:=Ng 8 Ů e.n eM A0;have EH:hdM Ç5 e.n=(ì[e.g+1]?).map cds:=Ie ů S;have tY:∀ (c:Com),(c=ah/\ì[e.g+1]? = ah)\/(∃y,ì[e.g+1]? = aa y/\c=aa (e.n,ÎB,))->Tf ÃK ć [e.n] c:=λc hc=>by
  have hw:=Í9 (hd:=hdM Ç5) (n:=e.n);rcases hc with⟨rfl,hn⟩|⟨y,u,rfl⟩
  ·rw[EH,hn]at hw;exact(hw,λp hp=>by cases hp)
  ·rw[EH,u]at hw;exact(hw,λp hp=>by cases hp;exact(cds y,by rw[EH,u];rfl,rfl))
 refine(_,rfl,e.p,dp,_,rfl,A6,UZ ..,e.p,e.k,e.f,ì,e.g+1,rfl,R1.at',rfl,_,rfl,?_);rw[IE];refine Ib (λv C=>Zu H1 C/\∃c,CV C v c/\Tf ÃK ć [e.n] c) #[io,d,Q',U] #[io,d,Q',U] (λv C ⟨s2,c,A4,hok⟩=>?_)
 ·have hn:ì[e.g+1]? = ah:=by
   have:=ÀY;cases u:ì[e.g+1]? with
   | none=>rfl
   | some y=>rw[u]at this;cases this
  exact U _ _ (Ãe _,ah,.inl Ο,tY ah (.inl (rfl,hn)))
 ·obtain⟨y,u⟩:∃y,ì[e.g+1]? = aa y:=by
   cases u:ì[e.g+1]? with
   | none=>rw[u]at d;exact Î rfl (Äy d)
   | some y=>exact(y,rfl)
  have hyl:e.g+1<ψ:=(Ń u).1;have yg:WO ì (e.g+1)=ÎB:=by unfold WO;rw[È Á,Qay,QJ,QJ,hx,u,U7];rfl
  have cn:atI ((À7 ψ).map λj=>ß (WO ì j)) #[gk,e.g,1]=aa (.int ÎB):=Ya (by rw[Qr,List.getElem?_range hyl,<- yg];rfl);refine(_,rfl,_,rfl,e.p,ax,dp,_,_,rfl,A6,Ņ,ÒZ,Zpg ..,_,rfl,e.p,ax,dp,_,_,rfl,A6,Ņ,ÇO,Tr ..,e.f,_,_,_,rfl,rfl,É R1.at'.fs,cn,Ť,λtc k7=>?_);exact U _ _ (Zf k7 _,aa (e.n,ÎB,),.inr #[sH,tc,Zb],tY _ (.inr (y,u,rfl)))
 have M2:=M1.same s2;rw[oC];refine(_,rfl,m,ao,kX,_,_,rfl,cX,æ,ť,Z8 ..,O,_,rfl,M2.rows,λl hl=>?_);rw[IK,Uh];have s3:=ÎC (Zf hl ÊB);rw[e3,i3,C,l,ÊB];have Cv:CV (upd C l ÊB) v c:=A4.keep λt xs ht=>Zf hl _ _ _ ht;generalize upd C l (.lst ((ZC L).map ß))=H3 at s3 i3 Cv ⊢;refine(_,rfl,l,ZC L,e.n,rfl,i3,eM,lV,M.up,λr ts H4 cY hr4 gA dH s4=>?_);have nZ:=s3.trans s4;have M4:=M1.same nZ;have hcv4:CV H4 v c:=Cv.keep λt xs ht=>s4 _ _ ht;refine(r,rfl,#[sK,hr4],?_);rw[e2,dm4,yJ,M4.ob];rw[e2,dm1,gx,M1.ob];have yM:r≠m:=(Zg (s3 _ _ gx) cY).symm;have nrs:r≠G:=(Zg (s3 _ _ M1.stays) cY).symm;refine Rp (K:=K) (a:=r) (xs:=À9 ø) (λi σ I=>X6 λ(v':V) (c':Com) (J:StL) (k Z:Int) (v4:Ã V)=>σ=[aa (.ref m),aa (.int e.n),aa (.ref e.p),aa v',v4]/\i<=Φ/\CV I v' c'/\Tf ÃK ć Óq c'/\ZQ ax ao I m O G Ç5 J nb (li+k) (lo'+Z) aI/\Z3 ÃK J Óq/\(∀j,¬ Kys Óq j->Z4 J j=Z4 s j)/\Ag ÃK ć (Ug e.n ((ÎA).take i)) k Z/\#[fv,H4,G,I]) ?_ (λi σ I _ U=>by obtain _|_|_|_|_|_|_|_|_|_|_|_|_|_|k5:=U;exact É (k5 _ _ hr4 yM nrs)) ?_ ?_
 ·refine(v,c,s,0,0,_,rfl,Qp _,hcv4,hok,M4.cast Á Á,λX F h2=>?_,λ_ _=>rfl,.nil,λb o h _ _=>h);have:=Nh F;rcases this with rfl|⟨g,_⟩
  ·exact Î h2 ÚO
  ·exact Î g ÚO
 ·rintro i y σ I u ⟨v',c',J,k,Z,v4,rfl,hi,yU,j5,M5,yV,ji,ag,k5⟩;rw[Qr]at u;cases hz:ts[i]? with
  | none=>rw[hz]at u;cases u
  | some t =>
  rw[e5,hz,u,dP,Φ];cases F:(Z6 8 (ZC L) e.n)[i]? with
  | none=>rw[QaY]at F;lia
  | some X =>
  obtain x1|D|x3|x4:=ED i X F;have gU:=x1.rise M.up;have e3:low e.n ÎA (i+1)=X:=by show (Z6 8 Ů e.n).getD i []=X;rw[QJ,F];rfl
  have Eu:I t=aa #[ht,X]:=k5 _ _ (dH i t X hz F) (λz=>by have:=dH i t X hz F;rw[z,yJ]at this;cases this) (λz=>by have:=dH i t X hz F;rw[z,M4.stays]at this;cases this);rw[e2,yW,lW,M5.ob];rw[<- x4]at j5 yV ji;have was:=ZqB tk x1 D x3 ok;have nJ:Z4 J (ZY X)=Z4 s (ZY X):=ji _ λz=>(Ix gU D z).1 rfl;refine(_,rfl,m,yW,_,rfl,lW,Zlc ..,_,rfl,_,rfl,m,O,G,ÀI L e.n,J,nb,_,_,aI,t,v',c',cds x,X,e.n,rfl,M5,Eu,yU,j5,?_,λb B y u=>tk.ge (x1.mem B) u,gU,λb B=>by rw[Uh];exact x1.mem B,D,x3,λv6 c6 s6 k6 q6 H6 hcv6 hok6 hnd6 vi hag6 M6 k6'=>?_)
  ·rw[nJ];rcases was with w|⟨t',b,y,w1,w2,_,w4⟩
   ·exact .inl w
   ·exact .inr (t',b,y,w1,w2,w4)
  ·refine(v6,c6,s6,k+k6,Z+q6,_,rfl,dP,hcv6,by rw[e3];exact hok6,M6.cast Á Á,?_,λj N=>?_,?_,λb o B n1 n2=>k6' b o (k5 b o B n1 n2) n1 n2)
   ·rw[e3];refine ZoS (n:=e.n) (yV.congr Ä0 λj N=>vi j (Ix gU D N).1) ?_ hnd6;have gR:=Nj gU (Tg x3);have so:Sub X (Y6 X e.n):=by unfold Y6;split;exact Sub.top.up D;exact Sub.top.lo D
    refine(ok.sub (x1.trans so)).congr (λb B=>tk.oth b λz=>gR (z ▸ B)) λj N=>?_;rw[vi j (Iw gU D N).1,ji j (Iw gU D N).2]
   ·rw[e3]at N;rw[vi j (λz=>N (X,.top,D,z)),ji j (λU=>by obtain Y|y1|y2|y3:=U;exact N (Y,(IA D e.n).trans y1,y2,y3))]
   ·have:=hag6 _ _ _ ag;unfold Ug at this ⊢;rw[QI,F,Qi];rw[wr]
 ·rintro σ I ⟨v',c',J,k,Z,v4,rfl,_,yU,j5,M5,yV,ji,ag,k5⟩;rw[Qa,gA,Ct]at j5 yV;rw[Qa,gA,Qy ò]at ag;rw[e2,yW,lW,M5.ob];have fin:∀w':Ã Int,w'=c'.map ċ->Q .non (upd I m (.ins ao yW (mgF O nb (li+k) (lo'+Z) G (Yx w')))):=λw' ew=>by subst ew;refine q J _ k Z _ M5.obj j5.1 yV ag λb o B nf=>?_;rw[Ze #[hl,nf]];exact jE (λb o B n1 n2=>k5 b o (nZ b o B) n1 n2) b o B nf
  rcases yU with⟨rfl,rfl⟩|⟨t,p,rfl,rfl,ht⟩
  ·refine ÚI;rw[gB,yW,lW];exact fin ah rfl
  ·rw[bm];refine(_,rfl,t,_,_,_,rfl,rfl,þ ht,(show atI [ß p.1,ß p.2] 0=aa (.int p.1) from Ya (j:=0) rfl),_,rfl,m,ao,yW,_,rfl,lW,æ,ÃI,VT ..,?_);rw[RR];exact fin (aa p.1) rfl
def RK(L:ù)(w:Δ)(x:V)(a:ù)(k q:Int)(b:Hp):Prop :=
 (w=ah/\x=.non/\a=L/\k=0/\q=0)\/X3 λ(e:Zz) (t:af) (z:am)=>e∈L/\w=aa e.n/\x=.ref t/\ì[e.g]? = aa z/\b t=aa #[gi,e.n,e.g,z]/\a=ÀI L e.n/\Ag (hdM a) (cds z) (Ug e.n ÎA) k q
theorem Zmj(rd:af)(nb li lo:Int)(sd:af)(a:V):#[18].lookup ("send_out" : am)=ah:=Ào
theorem ZmR(rd:af)(nb li lo:Int)(sd:af)(a:V):#[18].lookup ("take" : am)=ah:=Ào
def HZ(d e:af):Sp:=λvs H Q _=>X9 λ(m rd sd:af) (L:À Zz) (s:StL) (nb li lo:Int) (w:Ã Int)=>C5 #[gh,m] #[hP,d,e] Îs Îz (∀ (x:V) (a:À Zz) (s':StL) (f:Ã Int) (k q:Int) (c:Hp),RK L w x a k q c->ZQ d e c m rd sd a s' nb (li+k) (lo+q) (Yx f)->Win (hdM a) (ZC a) f->Z3 (hdM a) s' (ZC a)->#[hu,rd,sd,c]->Q x c)
theorem Zsk(T:Ø)(J:ÚP)(N:Mf P w K mg Â 5 ao "send_out" ÍE (Ia ax ao)):Mf P w K mg Â 6 ao "take" ö (HZ ax ao):=by
 rw[ey,T.t_Merge_take.mf,Jv,O,B];obtain m|g|i|L|s|j|l|c|w|rfl|M|W|ok|q:=h;refine(_,#[Zc,#[Zq,1,Jv.nd,á,#[ho,J,B]],#[Zc,#[ZN,#[eL,UK,1,Ł],#[Zh,#[ZO,#[Xm,N,æ,B,‹0›,#[Zd,Ģ]]]],ï],Å4]],?_);rw[hr,S,U];refine(_,rfl,m,S,_,rfl,U,IB ..,m,g,i,L,s,j,l,c,w,rfl,M,W,λx V X n=>?_);have M1:=ÃF n;rcases X with⟨rfl,hw⟩|⟨t,e',z,rfl,Y,C,D,hw⟩
 ·have p:Win ģ Ů ah:=by rw[Uk]at hw;exact hw
  have r:=W.one p;subst r;exact(_,rfl,rfl,_,rfl,K9 rfl (_,rfl,q .non L s ah 0 0 V (.inl ÚK) (M1.cast Á Á) W ok (λb o u _=>n b o u)))
 ·rw[eV,e,F,Y];have p:ÚM:=by rw[Uk]at hw;exact hw
  have r:=W.one p;subst r;rw[e2,d,v,M1.ob];refine(_,rfl,rfl,_,rfl,IX Àw ?_);refine(_,rfl,m,d,_,rfl,v,Zmj ..,_,rfl,m,ao,d,_,_,rfl,v,æ,ÃI,Tj ..,m,g,i,L,s,j,l,c,_,e,z,rfl,M1,F,C,W,ok,λZ w' k q' G M2 W2 A7 ag I=>?_);have fG:G t=aa #[gi,e.n,e.g,z]:=I _ _ D λhf=>by
   have a:=D;rcases hf with h|h|h|⟨y,hy,h⟩
   ·rw[fW,h,v,a]
   ·rw[fW,h,Êz,a]
   ·rw[fW,h,M1.stays,a]
   ·have R:=(Îl y hy).at';rw[e2,dy,ug,R.ob];rcases h with h|h|h
    ·rw[fW,h,ug,a]
    ·rw[fW,h,R.ks,a]
    ·rw[fW,h,R.fs,a]
  exact(_,rfl,q Âs Ç5 Z w' k q' G (.inr (e,t,z,F,rfl,rfl,C,fG,rfl,ag)) M2 #[eH,Uh,W2] #[eH,Uh,A7] (λb o u nf=>I b o (n b o u) nf))
abbrev ZP:=Int×À am×Nat
def ZR(L:ù):À ZP:=ŏ λe=>(e.n,(ì,e.g,),)
def hdP(P:Ī):Hd:=hdL (ÀF λx=>(x.1,0,x.2,))
def Y8(P:Ī):À Int:=ÀF ċ
def VR(n:Int)(x:ZP):ZP:=if x.1=n then (x.1,x.2.1,x.2.2+1,) else x
def WM(P:Ī)(n:Int):À ZP:=ÀF (VR n)
theorem VQ(L:ù):hdM L=hdP (ZR L):=IC _ _ (by unfold ZR;rw[Qz,Qz,Qz];rfl)
theorem Xs(L:ù):ZC L=Y8 (ZR L):=by unfold Y8 ZR ZC;rw[Qz];rfl
theorem HY(L:ù)(n:Int):ZR Ç4=WM (ZR L) n:=by
 unfold ZR ÀI WM;rw[Qz,Qz];refine QU λe _=>?_;rw[k7];unfold VR;by_cases h:e.n=n
 ·rw[RL h,Æ h]
 ·rw[Na h,È h]
theorem HX(P:Ī)(n:Int):Y8 (WM P n)=Y8 P:=by unfold Y8 WM;rw[Qz];refine QU λx _=>?_;simp only[Îy];unfold VR;split<;>rfl
theorem Zvp{P:Ī}(nd:ÊL){x:ZP}(h:x∈P):hdP P x.1=(x.2.1[x.2.2]?).map cds :=
 NH (L:=ÀF λx:ZP=>((x.1,0,x.2,):XX)) (e:=(x.1,0,x.2,)) #[eH,Qz,nd] (Qk (f:=λx:ZP=>((x.1,0,x.2,):XX)) h)
def MY(P:Ī)(x:ZP)(z:am)(k q:Int):Prop:=x∈P/\x.2.1[x.2.2]? = aa z/\Win (hdP P) (Y8 P) (aa x.1)/\Ag (hdP (WM P x.1)) (cds z) (Ug x.1 (Z6 8 (Y8 P) x.1)) k q
abbrev Yf:=Int×Nat×am
inductive Ye (P:Ī):À Yf->À ZP->Int->Int->Prop
 | nil:Ye P [] P 0 0
 | snoc {ts:À Yf} {P1:À ZP} {x:ZP} {z:am} {k q k1 q1:Int}:Ye P ts P1 k q->MY P1 x z k1 q1->Ye P (ts++[(x.1,x.2.2,z,)]) (WM P1 x.1) (k+k1) (q+q1)
inductive XA:À ZP->Int->Int->Prop
 | stop {P:À ZP}:Win (hdP P) (Y8 P) ah->XA P 0 0
 | go {P:À ZP} {x:ZP} {z:am} {k q k1 q1:Int}:MY P x z k1 q1->XA (WM P x.1) k q->XA P (k1+k) (q1+q)
theorem Ye.num{P a:Ī}{ts:Á9}{k q:Int}(h:Ç6):Y8 a=Y8 P:=by
 induction h with
 | nil=>rfl
 | snoc _ _ b=>rw[HX,b]
def ZZ(P:Ī):Nat:=(ÀF λx=>x.2.1.length-x.2.2).sum
theorem RJ:∀ (P:À ZP),(Y8 P).Nodup->∀ {x:ZP},x∈P->x.2.2<x.2.1.length->ZZ (WM P x.1)+1=ZZ P
 | [],_,_,h,_=>by cases h
 | y::P,nd,x,h,a=>by
  unfold Y8 at nd;rw[yQ];unfold ZZ WM;rw[Qh,Qh,Qh,QP,QP];rcases î h with rfl|h
  ·have e:ÀF (VR x.1)=P:=by
    conv=>rhs;rw[<- List.map_id P]
    refine QU λu b=>?_;unfold VR;rw[È (λz:u.1=x.1=>nd.1 (z ▸ Qk (f:=Æd) b))];rfl
   rw[e];unfold VR;rw[q7];show x.2.1.length-(x.2.2+1)+_+1=_;lia
  ·have c:=RJ P nd.2 h a;unfold ZZ WM at c;have e:VR x.1 y=y:=È (λz:y.1=x.1=>nd.1 (z ▸ Qk (f:=Æd) h));rw[e];lia
theorem Ye.left{P a:Ī}{ts:Á9}{k q:Int}(h:Ç6)(nd:ÊL):ZZ a+Φ=ZZ P:=by
 induction h with
 | nil=>rfl
 | snoc h s ih=>have:=ÚQ;rw[Qg,QC];lia
theorem Zoc{L a:ù}{w:Δ}{x:V}{k q:Int}{H:Hp}(W:Win ģ Ů w)(h:RK L w x a k q H):(Win (hdP (ZR L)) (Y8 (ZR L)) ah/\x=.non/\a=L/\k=0/\q=0)\/X3 λ(y:ZP) (z:am) (t:af)=>MY (ZR L) y z k q/\ZR a=WM (ZR L) y.1/\x=.ref t/\H t=aa #[gi,y.1,y.2.2,z]:=by
 rw[VQ,Xs]at W;rcases h with⟨rfl,c,d,g,i⟩|⟨e,t,z,j,rfl,rfl,l,m,rfl,b⟩
 ·exact .inl (W,c,d,g,i)
 ·refine .inr (ÊM,z,t,(Qk (f:=Ç7) j,l,W,?_),HY L e.n,rfl,m);rw[VQ,HY,Xs]at b;exact b
def HW(K:Ä)(e f:af):Sp:=λvs H Q _=>X10 λ(m rd sd:af) (L:À Zz) (s:StL) (nb li lo:Int) (w:Ã Int) (ÀJ:Int)=>C6 #[gf,m,ÀJ] #[hP,e,f] Îs Îz (ZZ (ZR L)<=100000) (∀ (r:af) (us:À (af×Yf)) (a:À Zz) (s':StL) (d:Ã Int) (k q:Int) (c:Hp),H r=ah->c r=aa #[iQ,us.map,u,u.1]->(∀u∈us,c u.1=aa ÚR)->Ye (ZR L) (us.map Ĩ) (ZR a) k q->((ε:Int)<ÀJ->d=ah)->(us≠[]->(ε:Int)<=ÀJ)->ZQ e f c m rd sd a s' nb (li+k) (lo+q) (Yx d)->Win (hdM a) (ZC a) d->Z3 (hdM a) s' (ZC a)->(∀b,Fp m rd sd a b↔Fp m rd sd L b)->#[hu,rd,sd,c]->Q Λ c)
theorem RK.fp{L a:ù}{w:Δ}{x:V}{k q:Int}{H:Hp}(h:RK L w x a k q H){m rd sd b:af}:Fp m rd sd a b↔Fp m rd sd L b:=by
 rcases h with⟨_,_,rfl,_⟩|⟨e,t,z,_,_,_,_,_,rfl,_⟩
 ·exact Iff.rfl
 ·exact(Zsf,Fp_bump')
theorem ZQ.fp_live{a c:af}{H:Hp}{m rd sd:af}{L:ù}{s:StL}{nb li lo:Int}{d:V}(M:#[ga,a,c,d]){b:af}(h:Fp m rd sd L b):∃o,H b=aa o/\∀xs,o≠.tup xs:=by
 rcases h with rfl|rfl|rfl|⟨e,f,h⟩
 ·rw[hr,g,hd];rw[f2,hd,xs,z]
 ·rw[f2,ņ,xs,z]
 ·rw[f2,ÇX,xs,z]
 ·have R:=(ÀZ e f).at';rw[e2,g,hd,R.ob];rcases h with rfl|rfl|rfl
  ·rw[f2,hd,xs,z]
  ·rw[f2,R.ks,xs,z]
  ·rw[f2,R.fs,xs,z]
theorem ZQ.fp_fresh{c d:af}{H:Hp}{m rd sd:af}{L:ù}{s:StL}{nb li lo:Int}{e:V}(M:#[ga,c,d,e]){b:af}(h:H b=ah):¬ Fp m rd sd L b:=λz=>by obtain o|a|_:=M.fp_live z;rw[h]at a;cases a
theorem ZQ.fp_tup{c d:af}{H:Hp}{m rd sd:af}{L:ù}{s:StL}{nb li lo:Int}{e:V}(M:#[ga,c,d,e]){b:af}{xs:ă}(h:H b=aa ű):¬ Fp m rd sd L b:=λz=>by obtain o|a|f:=M.fp_live z;rw[h]at a;cases a;exact f xs rfl
theorem ZuD(T:Ø)(ic:#[fa,6,"take",ö,HZ]):Mf P w K mg Â 7 ao "take_few" ÍC (HW K ax ao):=by
 rw[h6,T.t_Merge_take_few.mf,Ju];obtain m|j|l|L|s|G|Z|I|w|ÀJ|rfl|M|W|ok|hleft|q:=h;refine(_,#[Zc,#[uj,2,Ju.nd],#[Zc,(@T7 _ _ _ _ _ _ Ž (@Ő _ _ _ #[W5,#[Zn,WB,Æe,‹1›,č],#[WU,#[Zn,UK,Ģ,Ł,č]]]) #[Zh,#[ZO,#[YF,K,QH,QN,QO,WR,‹2›,#[Zd,#[ho,ic,hr]]]]]),ÃA]],?_);have nd:(Y8 (ZR L)).Nodup:=by rw[<- Xs];exact ů
 rw[s6,Áe,r,n];have Ep:=M.fp_fresh n;refine(λmm σ i=>X6 λ(c:À (af×Yf)) (d:À Zz) (s':StL) (w':Ã Int) (k p:Int)=>σ=[aa (.ref m),aa (.int ÀJ),aa Λ]/\i r=aa #[iQ,Ŝ,u,u.1]/\(∀u∈c,u.1≠r/\i u.1=aa ÚR)/\Ye (ZR L) (Ŝ Ĩ) (ZR d) k p/\(c≠[]->ÀK<=ÀJ)/\ZQ ax ao i m j l d s' G (Z+k) (I+p) (Yx w')/\Win (hdM d) (ZC d) w'/\Z3 (hdM d) s' (ZC d)/\(∀b,Fp m j l d b↔Fp m j l L b)/\#[hu,j,l,i]/\mm=ZZ (ZR d),(_,[],L,s,w,0,0,rfl,Zb,#[fk,u,h],.nil,(λh=>Î rfl h),(ÃF (Zf n _)).cast Á Á,W,ok,λ_=>Iff.rfl,λb o g _=>Zf n _ _ _ g,rfl),?_);rintro mm σ i ⟨c,L1,s1,J,k,p,rfl,D,wU,F,vj,M2,v,A7,B,k2,rfl⟩;have A8:ÚS=ÀK:=by rw[Qa]
 have N:=F.left nd;rw[Qa]at N;rw[oC];have done:(ÀK<ÀJ->J=ah)->Q Λ i:=λhd=>q r c L1 s1 J k p i n D (λu hu=>(wU u hu).2) F hd vj M2 v A7 B k2;refine(_,rfl,r,_,rfl,.inl (É D),_,rfl,_,_,rfl,rfl,_,rfl,Z5 (λO=>?_) (λO=>?_))
 ·have u9:ÀK<ÀJ:=by have:=#[eQ,O];lia
  refine(_,rfl,m,ao,kX,_,_,rfl,cX,æ,ÃI,Tj ..,rfl,_,rfl,?_);cases J with
  | none=>exact K9 rfl (_,rfl,done λ_=>rfl)
  | some a =>
  refine IX Àw ?_;refine Îx;refine(_,rfl,.inl #[fm,D],_,rfl,m,kX,_,rfl,cX,ZmR ..,m,j,l,L1,s1,G,_,_,aa a,rfl,M2,v,A7,λx L3 s3 w3 k3 q3 H3 R M3 W3 yY S=>?_);have U:H3 r=aa #[iQ,Ŝ,u,u.1]:=S _ _ D (λz=>Ep ((B r).mp z));rcases Zoc v R with⟨w0,_⟩|⟨y,z,t,X,eL,rfl,Y⟩
  ·rw[VQ,Xs]at v;exact nomatch w0.one v
  have uZ:=RJ _ #[eH,F.num,nd] X.1 (Ń X.2.1).1;have C:t≠r:=λe=>by rw[e,U]at Y;cases Y
  refine(r,_,_,rfl,rfl,U,#[t3,Qa,aO],ZZ (ZR L3),by rw[eL];lia,c++[(t,(y.1,y.2.2,z,),)],L3,s3,w3,k+k3,p+q3,rfl,by rw[Zb,Qi];rfl,λu hu=>?_,?_,λ_=>by rw[Qg,QC];lia,?_,W3,yY,λb=>(R.fp).trans (B b),λb o g nf=>?_,rfl)
  ·rcases ÿ hu with hu|hu
   ·obtain g2|g3:=wU u hu;exact(g2,by rw[Ze g2];exact S _ _ g3 (M2.fp_tup g3))
   ·rw[ó hu];exact(C,by rw[Ze C];exact Y)
  ·rw[Qi,eL];exact .snoc F X
  ·refine ZQ.cast (M3.keep λb o g eY=>?_) Á Á;rw[Ze (λe=>?_)]
   ·exact g
   ·subst e;rcases eY with hf|⟨xs,rfl⟩
    ·exact Ep ((B b).mp (R.fp.mp hf))
    ·rw[gv,U,g,g]
  ·rw[Ze (Zg g n)];exact S b o (k2 b o g nf) (λz=>nf ((B b).mp z))
 ·refine Y7 (_,rfl,done λh=>?_);have:¬ (ÚS<ÀJ):=λz=>O ÃB;lia
structure MS where
 m:af
 rd:af
 sd:af
 L:À Zz
 s:StL
 nb:Int
 li:Int
 lo:Int
 w:Ã Int
structure OS where
 o:af
 ra:af
 ga:af
 Lo:À XX
 nb:Int
def Zxg(Y:OS)(b:af):Prop:=b=Y.o\/b=Y.ra\/b=Y.ga\/∃e∈Y.Lo,b=e.2.1
def MFp(X:MS)(b:af):Prop:=Fp X.m Ĳ ž X.L b
structure MOk (cR cM:af) (H:Hp) (X:MS):Prop where
 M:ZQ cR cM H X.m Ĳ ž X.L X.s đ Ĥ ĥ (Yx X.w)
 W:Win (hdM X.L) Æf X.w
 ok:Z3 (hdM X.L) X.s Æf
structure Pair (cR cM:af) (H:Hp) (X:MS) (Y:OS):Prop where
 mg:MOk cR cM H X
 ow:Own H Y.o Y.ra Y.ga Y.Lo Y.nb Ĥ ĥ
 ag:Agr Y.Lo X.L
 sep:∀b,MFp X b->¬ Zxg Y b
theorem MOk.same{a b:af}{H c:Hp}{X:MS}(h:MOk a b H X)(s:Zu H c):MOk a b c X:=(h.M.same s,h.W,h.ok)
theorem MOk.keep{a c:af}{H d:Hp}{X:MS}(h:MOk a c H X)(k:∀b o,H b=aa o->MFp X b\/Ò9->d b=aa o):MOk a c d X:=(h.M.keep k,h.W,h.ok)
theorem ZoN{P:Ī}(nd:ÊL)(h:Win (hdP P) (Y8 P) ah)(ok:∀x∈P,x.2.2<=x.2.1.length):ZZ P=0:=by
 unfold ZZ;have:∀l:À Nat,(∀a∈l,a=0)->l.sum=0:=λl e=>by
  induction l with
  | nil=>rfl
  | Ñ b r j=>rw[QP,e b Ù,j λa c=>e a (Qw _ c)]
 refine this _ λa c=>?_;rw[eV,x,g,c];have d:=h x.1 (Qk (f:=Æd) g);rw[Zvp nd g]at d;cases i:x.2.1[x.2.2]? with
 | none=>rw[QaY]at i;show x.2.1.length-x.2.2=0;lia
 | some y=>rw[i]at d;cases d
theorem Zsb{a b:af}{H:Hp}{X:MS}(h:MOk a b H X):(Y8 Àp).Nodup:=by rw[<- Xs];exact h.M.nd
def HV(K:Ä)(c d:af):Sp:=λvs H Q _=>X11 λ(m rd sd:af) (L:À Zz) (s:StL) (nb li lo:Int) (g:V) (r:af) (ss:À am)=>C9 #[it,m,r] #[eZ,c,d,g] ((∀e∈L,e.n<nb)) (ż<16) #[sG,r,ÂQ] #[uf,200] ((∀x∈ss,ľ<=1000/\AZ x)) (ŝ ss=true) (∀ (e:Zz) (f:af) (s':StL) (w:Ã Int) (k q:Int) (a:Hp),e.n=nb->ì=ss->e.g=0->H e.p=ah->H e.k=ah->H e.f=ah->H f=ah->Win Ór (ZC (L++[e])) w->XD Ór s' 8 (ZC (L++[e]))->YM Ór 8 (ZC (L++[e])) k q->ZQ c d a m rd f (L++[e]) s' (nb+1) (li+k) (lo+q) (Yx w)->#[fv,H,rd,a]->Q (.int nb) a)
theorem Zmk(T:Ø)(bG:Îm)(eQ:Úu)(bc:În):Mf P w K mg Â 14 ao "add_row" ÄP (HV K ax ao):=by
 rw[ey,T.t_Merge_add_row.mf,Si,vs,O];obtain m|g|B|L|s|i|C|lo'|D|r|l|rfl|M|bq|oa|cY|uf|vf|nX|q:=h;refine(_,#[Zc,#[h7,2,Si.nd,Ģ],#[Zc,#[ZO,#[sF,bG,O,2]],#[Zc,#[ZN,ÚT,ÄV,ï],#[Zc,#[Yy,#[TV,eQ,O,ÁG],#[jt,2,O]],#[Zc,Óa,#[Zc,#[iJ,bc,O],ÃA]]]]]],?_);rw[hr,dx,S];refine(_,rfl,m,ao,dx,_,_,rfl,S,æ,Îr,Np ..,_,rfl,_,rfl,i,r,l,rfl,É cY,by lia,λx F=>(vf x F).1,RP nX,λH1 U=>?_);have M1:=ÃF U;have gx:=U _ _ S;have yO:Óg:=by unfold kvM;rw[Qa]
 refine(_,rfl,m,ao,dx,_,_,rfl,gx,æ,ť,Z8 ..,g,_,rfl,Êz,_,_,rfl,rfl,_,rfl,Z5 β β)
 ·have:(16:Int)<=ÊA:=ÀY;exact Î this Á
 refine(_,rfl,λu p hu ug ndu=>?_);have W:H u=ah:=U.free hu;have X:∀b o,H b=aa o->#[fl,H1,p,u,ax] b=aa o:=λb o c=>by have:=U _ _ c;rw[jK]
 have yN:#[fl,H1,p,u,ax] u=aa (.ins ax p []):=Zb;generalize upd (upd H1 p (.own u)) u (.ins ax p [])=H8 at X yN ⊢;refine(u,p,r,l,rfl,yN,X _ _ cY,uf,λx F=>(vf x F).1,λk f G hk hf En R k9=>(rfl,?_));have s9:Zu H G:=λb o c=>k9 b o (X b o c) (Zg c W);have Ų:∀b,H8 b=ah->H b=ah:=λb c=>by
  cases e:H b with
  | none=>rfl
  | some o=>rw[X b o e]at c;cases c
 have I:=Ų k hk;have J:=Ų f hf;have j:=ÃF s9;have vh:=s9 _ _ S;have vg:g≠u/\g≠k/\g≠f:=(Zg ņ W,Zg ņ I,Zg ņ J);have hsz:(Êx).length<aq:=by unfold kvM;rw[r5]
 have hV:YW Êx (.inl i)=ah:=by
  cases hv:YW (kvM L) (.inl i) with
  | none=>rfl
  | some v=>obtain e|he|z:=Ι (TR hv);injection z with z _;have:=bq e he;have:=Æs z;lia
 refine(_,rfl,m,ao,dx,_,_,rfl,vh,æ,ť,Z8 ..,_,rfl,g,_,rfl,WQ.k (k:=.inl i) Æg hsz,?_);rw[SK _ hV,show kvM L++[((.inl i:Key),ø u,)]=kvM ÎD by unfold kvM;rw[Qi];rfl];rw[ja,n1,n2,n3,j.ne_m];have uh:ZQ ax ao #[tn,G,g,kvM,ÎD] m g B ÎD s i C lo' D:=by
  refine((dx,by rw[Ze n1];exact vh),Zb,?_,?_,λe he=>?_,?_,?_,by rw[Qg,QC];lia,M.sfew)
  ·rw[Ze (λz=>by have:=j.stays;rw[z,Æg]at this;cases this)];exact j.stays
  ·intro e he t ht;have c:=j.ats e he t ht;rw[sT,Ze,z,Æg,c]
  ·rcases ÿ he with he|he
   ·have Y:=j.each e he;rw[e2,de,Z,Y.at'.ob];refine Y.mono λb o c eY=>?_;have nb':b≠g:=λz=>by
     rw[z,Æg]at c;injection c with c;subst c;rcases eY with z2|z2|z2
     ·rw[<- z2,z,Æg]at Z;cases Z
     ·rw[jl,Y.at'.ks,Æg]
     ·rw[jl,Y.at'.fs,Æg]
    rw[Ze nb'];exact c
   ·rw[ó he];refine WD.keep (H:=G) (R,Qp _,uf,nX,vf) (Ze vg.1.symm) (Ze vg.2.1.symm) (Ze vg.2.2.symm)
  ·unfold ZC;rw[Qi];refine List.pairwise_append.mpr (M.up,Qa8 ..,λx F y hy=>?_);rw[eV,e,he,F];have:y=i:=by simpa using hy
   rw[this];exact bq e he
  ·rw[g8,M.pd,ha,c,e,he];have:b=u:=by simpa using c
   rw[this];obtain de|Z:=Óp;exact Zg Z W
 have xm:∀b o,H b=aa o->b≠g->#[tn,G,g,kvM,ÎD] b=aa o:=λb o c n=>by rw[Ze n];exact s9 b o c
 generalize upd G g (.dK (kvM (L++[⟨i,u,k,f,l,0⟩])))=gg at uh xm ⊢;have wF:=xm _ _ S n1;rw[gX,wF,Îr,Np,ZhK];have Ba:=uh.obj (nb':=i+1) (li':=C) (lo':=lo') (Å9:=D) (dx:=dx);have AM:∀b o,H b=aa o->b≠m->b≠g->(upd gg m (.ins ao dx (mgF g (i+1) C lo' B D))) b=aa o:=λb o c n n'=>by rw[Ze n];exact xm b o c n'
 generalize upd gg m (.ins ao dx (mgF g (i+1) C lo' B D))=jB at Ba AM ⊢;rw[e2,N,Cw,Ba.ob];have Bb:∀b,jB b=ah->H b=ah:=λb c=>by
  cases e:H b with
  | none=>rfl
  | some o =>
   by_cases z:b=m
   ·rw[Av,Cw,c]
   ·by_cases z':b=g
    ·rw[fW,z',Ba.rows,c]
    ·rw[AM b o e z z']at c;cases c
 refine(_,rfl,m,N,_,rfl,Cw,RQ ..,m,g,B,_,s,_,_,_,_,rfl,Ba,λbD s' w0 k0 q0 nR iS EL EM EN EO AN=>(_,rfl,?_));exact q (i,u,k,f,l,0) bD s' w0 k0 q0 nR rfl rfl rfl W I J (Bb bD iS) EL EM EN EO (λb o c n n'=>AN b o (AM b o c n n') n)
theorem ZqW{a:ù}{P:Ī}{ts:Á9}{k q:Int}{b:Δ}{ÀJ:Nat}(nd:ÊL)(h:Ye P ts (ZR a) k q)(h1:Ç8<(ÀJ:Int)->b=ah)(h2:ts≠[]->Ç8<=(ÀJ:Int))(W:Win (hdM a) (ZC a) b)(ok:∀x∈ZR a,x.2.2<=x.2.1.length):Φ=min ÀJ (ZZ P):=by
 have hl:=h.left nd;by_cases c:Ç8<(ÀJ:Int)
 ·have e:=h1 c;subst e;rw[VQ,Xs]at W;have hz:=ZoN #[eH,ÃL,nd] W ok;lia
 ·by_cases d:ts=[]
  ·subst d;simp only[Éy]at c ⊢;lia
  ·have:=h2 d;lia
theorem HU(rd:af)(nb li lo:Int)(sd:af)(a:V):#[18].lookup ("add_row" : am)=ah:=Ào
theorem Zof(rd:af)(nb li lo:Int)(sd:af)(a:V):#[18].lookup ("take_few" : am)=ah:=Ào
theorem Te(rd:af)(nb li lo:Int)(sd:af)(a:V):#[18].lookup ("row_of" : am)=ah:=Ào
theorem ZlA(k f:af)(g:Int):(Í3).lookup ("to_go" : am)=ah:=Îh
theorem Zhf(k f:af)(g:Int):(Í3).lookup ("lengthen" : am)=ah:=Îh
def RI(a b:af):Sp:=λvs H Q _=>X10 λ(m rd sd:af) (L:À Zz) (s:StL) (nb li lo:Int) (c:V) (e:Zz)=>C4 #[gf,m,e.n] #[eZ,a,b,c] (e∈L) (Q (.ref e.p) H)
theorem Zop(T:Ø):Mf P w K mg Â 1 ao "row_of" ÁD (RI ax ao):=by
 rw[ey,T.t_Merge_row_of.mf,Jt,i,b];obtain m|a|j|L|s|l|n|lo|o|e|rfl|M|c|q:=h;refine(_,#[Zc,#[s3,TU,b,1,Ģ,ÄV],#[Zh,#[Zl,#[i1,b,1]]]],?_);rw[hr,d,g];refine(_,rfl,_,rfl,m,ao,d,_,_,rfl,g,æ,ť,Z8 ..,a,_,rfl,Àn (k:=Æa) ņ (V9 ů c),_,rfl,Y7 ?_);exact(_,rfl,m,ao,d,_,_,rfl,g,æ,ť,Z8 ..,_,rfl,a,_,rfl,Àn (k:=Æa) ņ (V9 ů c),q)
def YO(L:ù)(n:Int):À Zz:=L.filter λe=>decide (e.n≠n)
theorem ZrC(L:ù)(n:Int):VY Êx (.inl n)=kvM (YO L n):=by unfold VY kvM YO;rw[Qa5];congr 1;refine Ós λe _=>?_;exact Äz (λh z=>h (by show (Âg e.n:Key)=_;rw[z]),λh z=>h Îd)
theorem ZQ.drop{f g:af}{H:Hp}{m rd sd:af}{L:ù}{s:StL}{nb li lo:Int}{h:V}(M:#[ga,f,g,h])(n:Int):ZQ f g (upd H rd (.dK (kvM (YO L n)))) m rd sd (YO L n) s nb li lo h:=by
 rw[ja,j,n2,k,M.ne_m];rw[hr,l,o];refine((l,by rw[Ze j];exact o),Zb,by rw[Ze k.symm];exact ÇX,λe d t p=>?_,λe d=>?_,?_,?_,Qj (ÑN ..) Á7,M.sfew)
 ·have:=M.ats e d t p;rw[fF,ņ]
 ·have i:=(ÈB d).1;obtain _|_|_|a|b|c:=ÇZ i;rw[gP,ÀZ,i]
 ·exact M.up.sublist Ót
 ·exact M.pd.sublist Ót
def HS(c d:af):Sp:=λvs H Q _=>X10 λ(m rd sd:af) (L:À Zz) (s:StL) (nb li lo:Int) (g:V) (e:Zz)=>C4 #[gf,m,e.n] #[eZ,c,d,g] (e∈L) (∀ (f:af) (s':StL) (w:Ã Int) (k q:Int) (a:Hp),H f=ah->Win (hdM ÃM) (ZC ÃM) w->XD (hdM ÃM) s' 8 (ZC ÃM)->YM (hdM ÃM) 8 (ZC ÃM) k q->ZQ c d a m rd f ÃM s' nb (li+k) (lo+q) (Yx w)->#[fv,H,rd,a]->Q (.int Ól) a)
theorem ZkQ(T:Ø)(B:Í4)(C:ÚU)(D:În):Mf P w K mg Â 14 ao "drop_row" ÁD (HS ax ao):=by
 rw[ey,T.t_Merge_drop_row.mf,Sh,F,g];obtain m|a|i|L|s|p|r|j|t|e|rfl|M|k|q:=h;refine(_,#[Zc,#[Zq,2,Sh.nd,á,#[Ym,B,Ņ,g,#[tB,C,g,ÁG]]],#[Zc,#[ZO,#[YF,K,Q9,ÑP,ÚV,Ke,Ģ,ÁG]],#[Zc,#[iJ,D,g],ÃA]]],?_);rw[hr,u,v];rw[tQ,Re,k,G,I,Óu];refine(_,rfl,m,u,_,rfl,v,Te ..,_,rfl,m,a,i,L,s,p,r,j,t,e,rfl,M,k,e.p,G,_,rfl,I,ZlA ..,e.p,e.k,e.f,ì,e.g,rfl,Re.at',_,rfl,m,ao,u,_,_,rfl,v,æ,ť,Z8 ..,.inr #[hp,ņ],_,rfl,a,_,.inl e.n,_,rfl,rfl,ņ,V9 ů k,?_);rw[ZrC];have l:=M.drop e.n;have x:∀b o,H b=aa o->b≠a->#[tn,H,a,kvM,ÃM] b=aa o:=λb o c n=>by rw[Ze n];exact c
 have Ų:∀b,#[tn,H,a,kvM,ÃM] b=ah->H b=ah:=λb c=>by
  by_cases z:b=a
  ·rw[Av,Zb,c]
  ·rw[Ze z]at c;exact c
 generalize upd H a (.dK (kvM (YO L e.n)))=gg at l x Ų ⊢;rw[e2,d,J,l.ob];refine(_,rfl,m,d,_,rfl,J,RQ ..,m,a,i,_,s,_,_,_,_,rfl,l,λy N O R S U V W X Y Z AN=>(_,rfl,?_));exact q y N O R S U (Ų y V) W X Y Z (λb o c n n'=>AN b o (x b o c n') n)
theorem RH(k f:af)(g:Int):YQ k f g=ÚL:=by unfold YQ;rw[WY,Zy nFK,WY,Zy nGK,Zy nGF,WY]
theorem ZiE(k f:af)(g:Int)(k':af):Zx "all_keys" (.ref k') Í3=YQ k' f g:=by rw[RH,RH,Vu]
theorem ZiT(k f:af)(g:Int)(a:af):Zx "fars" ą Í3=YQ k a g:=by rw[RH,RH,Zy nFK,Vu]
def HR(C:af):Sp:=λvs H Q _=>X7 λ(p k f a:af) (ss ks:À am) (g:Nat)=>C6 #[it,p,a] ÒW (H a=aa Ä2) ((ss++ks).length<=200) ((∀x∈ss++ks,ľ<=1000)) (∀ (k' d:af) (c:Hp),H k'=ah->H d=ah->U4 C c p k' d (ss++ks) g->#[f6,o,H,p,c]->Q .non c)
theorem ZlE(T:Ø)(D:ÒX):Mf P w K mg Â 4 ax "lengthen" ÂM (HR ax):=by
 refine T.t_Row_lengthen.mf Zhg Ç9 (λaP fa A Ü s H F Q E G h=>?_);obtain p|k|f|a|i|j|g|rfl|R|I|C|J|q:=h;refine(_,#[Zc,#[XJ,‹0›,#[ZB,Xn,Ģ,‹1›]],#[Zh,#[XJ,‹0›,#[ZG,D,G,#[Zd,Ģ],Ë]]]],?_);obtain ⟨d,t⟩|L|hf:=R;refine(_,rfl,p,ax,d,_,_,rfl,t,Ņ,ÄU,U5 _ _ _,_,rfl,k,a,_,_,rfl,rfl,L,I,(by rw[Qa,Qa];rw[Qg]at C;exact ń Á),λc v=>?_);rw[<- Qi];have x:p≠c:=Zg t v;refine(_,rfl,p,ax,d,_,rfl,#[sE,x,t],Ņ,ÄU,MZ ..,?_);rw[ZiE];have m:Óv p=aa (.ins ax d (YQ c f g)):=Zb;have y:Óv c=aa (.lst ((i++j).map Ç)):=by rw[Ze x.symm];exact Zb
 have z:#[g7,H,p,Óv]:=λb o h n=>by rw[Ze n,Ze (Zg h v)];exact h
 generalize upd (upd H c (.lst ((i++j).map Ç))) p (.ins ax d (YQ c f g))=H2 at m y z ⊢;refine(_,rfl,p,ax,d,_,_,rfl,m,Ņ,ÄU,U5 _ _ _,c,i++j,rfl,É y,C,J,λl H3 r M B=>?_);have N:H l=ah:=by
  cases O:H l with
  | none=>rfl
  | some u =>
   by_cases e:l=p
   ·rw[fW,e,m,r]
   ·rw[z l u O e]at r;cases r
 have S:p≠l:=Zg m r;refine(_,rfl,p,ax,d,_,rfl,B _ _ m,Ņ,ÒZ,MZ ..,?_);rw[ZiT];refine q c l _ v N ((d,Zb),?_,?_) λb o h n=>?_
 ·rw[Ze x.symm];exact B _ _ y
 ·rw[Ze S.symm];exact M
 ·rw[Ze n];exact B _ _ (z b o h n)
def Xi(n:Int)(ks:Ï)(k f:af)(x:Zz):Zz:=if x.n=n then (x.n,x.p,k,f,x.ss++ks,x.g) else x
def YC(L:ù)(n:Int)(ks:Ï)(k f:af):À Zz:=ŏ (Xi n ks k f)
theorem MX(n:Int)(ks:Ï)(k f:af)(x:Zz):#[lx].n=x.n/\#[lx].p=x.p/\#[lx].g=x.g:=by unfold Xi;split<;>exact Ñl
theorem Td(L:ù)(n:Int)(ks:Ï)(k f:af):ZC Ów=ZC L:=by unfold ZC YC;rw[Qz];exact QU λe _=>(MX n ks k f e).1
theorem ZpK(L:ù)(n:Int)(ks:Ï)(k f:af):kvM Ów=kvM L:=by unfold kvM YC;rw[Qz];refine QU λe _=>?_;obtain a|b|_:=MX n ks k f e;simp only[Îy,a,b]
theorem HQ:∀ (A B:À XX),A.map ÚW=B.map ÚW->hdL A=hdL B
 | [],[],_=>rfl
 | [],_::_,h=>by cases h
 | _::_,[],h=>by cases h
 | a::A,b::B,h=>by
  rw[Qh,Qh]at h;injection h with h1 h2;injection h1 with d f;have ih:=HQ A B h2;funext n;rw[nV];split
  ·simp only[Íq];rw[f]
  ·exact c
theorem Zq4{L:ù}{n:Int}{ks:Ï}(h:∀x∈L,x.n=n->x.g<x.ss.length\/ks=[])(k f:af):hdM Ów=hdM L:=by
 refine HQ _ _ ?_;unfold YC;rw[Qz,Qz,Qz];refine QU λx a=>?_;show (#[lx].n,#[lx].ss[#[lx].g]?,)=(x.n,x.ss[x.g]?,);unfold Xi;split
 ·rename_i e;rcases h x a e with z|z
  ·exact ħ (Prod.mk x.n) (QX z)
  ·rw[z,QV]
 ·rfl
theorem MW:∀ {P:À Zz},(ÀF (·.n)).Nodup->∀ {p q:Zz},p∈P->q∈P->p.n=q.n->p=q
 | [],_,_,_,h,_,_=>by cases h
 | x::r,nd,p,q,a,hq,e=>by
  rw[yQ];rcases î a with h1|h1
  ·rcases î hq with h2|h2
   ·rw[h1,h2]
   ·exact Î (show x.n∈Ãr (·.n) by rw[<- h1,e];exact Qk (f:=λx:Zz=>x.n) h2) nd.1
  ·rcases î hq with h2|h2
   ·exact Î (show x.n∈Ãr (·.n) by rw[<- h2,<- e];exact Qk (f:=λx:Zz=>x.n) h1) nd.1
   ·exact MW nd.2 h1 h2 e
theorem ZQ.grow{f n:af}{H g:Hp}{m rd sd:af}{L:ù}{s:StL}{nb li lo:Int}{p:V}(M:#[ga,f,n,p]){e:Zz}(he:e∈L){ks:Ï}{k' c:af}(R:U4 f g e.p k' c ÊN e.g)(hl:(ÊN).length<=200)(hs:ŝ ÊN=true)(hz:∀x∈ì++ks,ľ<=1000/\AZ x)
  (k:#[g7,H,e.p,g]):ZQ f n g m rd sd (YC L e.n ks k' c) s nb li lo p:=by
 rw[hr,q,r];obtain de|i:=Óp;refine((q,k _ _ r (M.ne_p he).1),by rw[ZpK];exact k _ _ ņ (ÇZ he).2.2.2.1,k _ _ ÇX (ÇZ he).1,λx j t u=>?_,λx j=>?_,by rw[Td];exact M.up,?_,by unfold YC;rw[Qa];exact Á7,M.sfew)
 ·have h:=M.ats x j t u;exact k _ _ h (λz=>by rw[z,i]at h;cases h)
 ·rw[eV,y,d,j];by_cases l:y.n=e.n
  ·have v:y=e:=by have nd:=ů;unfold ZC at nd;exact MW nd d he l
   subst v;rw[show Xi y.n ks k' c y=(y.n,y.p,k',c,y.ss++ks,y.g) by unfold Xi;rw[Æ rfl]];exact(R,by show y.g<=(y.ss++ks).length;rw[Qg];have:=(ÀZ y d).le;lia,hl,hs,hz)
  ·rw[show Xi e.n ks k' c y=y by unfold Xi;rw[È l]];have a:=ÀZ y d;have w:y.p≠e.p:=λz=>l (by have:=Ic M.pd d he z;rw[this]);rw[e2,A,B,a.at'.ob];have C:y.k≠e.p:=λz=>by have:=a.at'.ks;rw[iz,i]
   have D:y.f≠e.p:=λz=>by have:=a.at'.fs;rw[iz,i]
   exact(((A,k _ _ B w),k _ _ a.at'.ks C,k _ _ a.at'.fs D),a.le,a.len,a.srt,a.str)
 ·have:(YC L e.n ks k' c).map (·.p)=ŏ (·.p):=by unfold YC;rw[Qz];exact QU λx _=>(MX _ _ _ _ x).2.1
  rw[this];exact M.pd
def HP(f g:af):Sp:=λvs H Q _=>X12 λ(m rd sd:af) (L:À Zz) (s:StL) (nb li lo:Int) (w:Ã Int) (e:Zz) (r:af) (ks:À am)=>C11 (vs=[.ref m,.int e.n,.ref r]) #[hP,f,g] Îs Îz (e∈L) (H r=aa Ä2) (r≠e.p) ((ÊN).length<=200) (ŝ ÊN=true) ((∀x∈ì++ks,ľ<=1000/\AZ x)) (∀ (k' a c:af) (s':StL) (h:Ã Int) (k q:Int) (d:Hp),H k'=ah->H a=ah->((ÚX/\c=sd/\k=0/\q=0)\/(e.g=ψ/\ks≠[]/\H c=ah/\YM (hdM ÎE) 8 Ů k q))->Win (hdM ÎE) Ů h->Z3 (hdM ÎE) s' Ů->ZQ f g d m rd c ÎE s' nb (li+k) (lo+q) (Yx h)->#[fv,H,e.p,d]->Q .non d)
theorem Zs2(T:Ø)(cm:ÚU)(bG:Îm)(bh:ÇW)(gc:Mf P w K mg Â 4 ax "lengthen" ÂM (HR ax))(bc:În):Mf P w K mg Â 14 ao "grow" ÇE (HP ax ao):=by
 refine T.t_Merge_grow.mf TC Ç9 (λaP fa A Ü s H vs Q E g h=>?_);obtain m|I|B|L|s|nb|li|J|w0|e|r|a|rfl|M|W|ok|i|N|O|C|hs|R|q:=h;refine(_,#[Zc,#[Zq,3,TC.nd,á,#[tB,cm,g,ÁG]],#[Zc,#[ZO,#[ZG,bG,g,ÚY,Ë]],#[Zc,#[Zq,4,TC.nd,á,#[WA,Xz,#[t8,bh,g,3],Ł,č]],#[Zc,#[ZO,#[Xm,gc,Ņ,g,‹3›,ÃG]],#[Zh,#[ZN,(@Ő _ _ _ #[W5,#[Xd,‹4›],#[WU,#[f8,Æe]]]),#[Zh,#[iJ,bc,g]],ï]]]]]],?_);rw[zZ];rw[tQ,Re,i,de,gW,Óu];have sF:ψ+ķ<=200:=by rw[Qg]at C;exact C
 refine(_,rfl,m,dx,_,rfl,hm,Te ..,_,rfl,m,I,B,L,s,nb,li,J,_,e,rfl,M,i,_,rfl,_,rfl,e.p,ax,de,_,_,rfl,gW,Ņ,ÄU,U5 _ _ _,_,rfl,e.k,r,_,_,rfl,rfl,Re.at'.ks,N,(by rw[Qa,Qa];exact ń Á),λc hc=>?_);rw[<- Qi];refine(e.n,c,ì++a,rfl,É Zb,by lia,λx j=>(R x j).1,RP hs,λH1 S=>?_);have f:Zu H H1:=(Zf hc _).trans S;have M1:=ÃF f;have U:=Îl e i;rw[e2,k,Cy,U.at'.ob];refine(_,rfl,e.p,k,_,rfl,Cy,UZ ..,e.p,e.k,e.f,ì,e.g,rfl,U.at',rfl,_,rfl,e.p,k,_,rfl,Cy,Zhf ..,_,rfl,e.p,e.k,e.f,r,ì,a,e.g,rfl,U.at',f _ _ N,C,λx j=>(R x j).1,λk' l X jq p R2 k2=>?_);have M2:=M1.grow i R2 C hs R k2;have D:#[g7,H,e.p,X]:=λb o t n=>k2 b o (f b o t) n;have bT:=D _ _ N O;have yZ:(e.g<ψ\/a=[])->Q .non X:=λeY=>by have eh:hdM (YC L e.n a k' l)=hdM L:=Zq4 (λx j hn=>by rw[MW ů j i hn];exact eY) k' l;refine q k' l B s w0 0 0 X (f.free jq) (f.free p) (.inl (eY,rfl,rfl,rfl)) #[eH,eh,W] #[eH,eh,ok] (by rw[QaM,QaM];exact M2) (λb o t n Y=>D b o t Y)
 refine(_,rfl,_,rfl,?_);by_cases hg:e.g<ψ
 ·have Z:WE ì e.g=.str ì[e.g]:=Ti (Qb hg);rw[Z];exact XS Ác (yZ (.inl hg))
 ·have Z:WE ì e.g=.non:=by unfold WE;rw[Qaf Á]
  rw[Z];refine Xu rfl ?_;rw[gE,r,bT]
  ·have v:ÁQ<ÚZ:=ÀY;rw[Qa]at v;have fT:a≠[]:=λz=>by rw[z]at v;exact Î v Å
   rw[oC];refine(_,rfl,m,kX,_,rfl,cX,RQ ..,m,I,B,_,s,_,_,_,_,rfl,M2,λF s' w1 k1 q1 H3 G W3 S3 P3 M3 k3=>?_);rw[Td]at W3 S3 P3;have yY:=Ui 8 (hdM (YC L e.n a k' l)) s' Ů M.up (Qj (show (ZC L).length<=60 by unfold ZC;rw[Qa];exact Á7) Å) Å S3;have le:=Re.le;have y:H F=ah:=by
    cases w':H F with
    | none=>rfl
    | some u =>
     by_cases z:F=e.p
     ·rw[e2,d2,j2,R2.ob];rw[Av,j2,G]
     ·rw[D _ _ w' z]at G;cases G
   exact q k' l F s' w1 k1 q1 H3 (f.free jq) (f.free p) (.inr (by lia,fT,y,P3)) W3 yY M3 (λb o t n Y=>k3 b o (D b o t Y) n)
  ·have v:¬ ÁQ<ÚZ:=Å6;rw[Qa]at v;exact yZ (.inr (ÊO Á))
theorem HN{xs:ă}{x:V}(h:xs[Ö-1]? = aa x)(h0:0<Ö):atI xs (-1)=aa x:=by
 have e:ixN Ö (-1)=aa (Ö-1):=by unfold ixN;rw[ul,Å];congr 1;lia
 unfold atI;rw[e];exact h
theorem HM(ss:Ï)(m:Nat)(h:m<=Àm):Yh ÂQ ah Å5=(ss.take m).map Ç/\Yh ÂQ Å5 ah=(ss.drop m).map Ç:=by
 have e:∀d:Nat,ŧ (ÂQ).length d Å5=m:=λd=>by unfold ŧ;rw[kv];lia
 have a:∀d:Nat,ŧ (ÂQ).length d ah=d:=λd=>rfl;constructor
 ·unfold Yh;rw[v1]
 ·unfold Yh;rw[e,a,<- Qbm,<- Qa2,Qy #[t3,QL,Qa]]
theorem MV{a:Int}(h0:0<=a)(h:a<1000000):Óx<1920:=by
 by_cases z:ÎF=0
 ·rw[z];decide
 ·have b:ÎF<2 ^ 20:=by lia
  exact QB (#[qG].mpr b) Å
theorem Tc{a:Int}(h:Óx<1920):(Èa (toString a)).length<=1921:=by have e:=int_text_length_le (k:=1920) Å h;rw[QaQ];lia
def xfs(r p:Int):À ÁR:=[("row",.int r,),("place",.int p,)]
def HL(C:af):Sp:=λvs H Q _=>X3 λ(e:af) (r p:Int)=>C7 (vs=[.ref e,.int r,.int p]) (H e=aa Çx) (0<=r) (r<1000000) (0<=p) (p<1000000) (∀dx,H dx=ah->dx≠e->Q .non (upd #[i6,H,dx] dx (xdO dx (xfs r p))))
theorem ZqH(T:Ø):Xf P w K mg Â 1 ap ar "OutOfOrder" ÇC (HL ap):=by
 refine T.t_OutOfOrder_init.xf ZfZ Ç9 (λaP f A Ü s H B Q E hr d h=>?_);obtain e|r|p|rfl|g|C|D|F|G|q:=h;refine(_,#[Zc,#[ZO,(@JW _ _ _ _ _ _ _ _ _ _ _ _ d Ú0 rfl ÎG #[Zd,‹0›,#[VC,#[XT,Ý,#[XT,#[hQ,TN,1],#[XT,Ý,#[iK,TN,2]]]]]] Å Ë Ë Ë)],#[Zc,#[sO,J0,T.na_OutOfOrder_row,1],#[Zh,#[sO,ZvO,T.na_OutOfOrder_place,2]]]],?_);have i:=MV C D;have j:=MV F G;have I:=Tc i;have J:=Tc j;have z:ÎH:=λa b c=>by rw[ÎI];lia
 have y:ÎJ:=λh=>by rw[aO];lia
 rw[hR,k,"row ",4,l,I];rw[i7,o,l,": the key at place ",19];have t:=z o J Å;rw[i7,u,t," is less than the one ahead",27];refine(_,rfl,_,rfl,y (Qj k Å),_,rfl,_,rfl,i,_,rfl,y (Qj l Å),_,rfl,y (Qj o Å),_,rfl,_,rfl,j,_,rfl,y (Qj t Å),_,rfl,y (Qj u Å),y (Qj u Å),e,_,ah,rfl,g,_,rfl,_,rfl,e,rfl,g,λv hd ne=>?_);refine(_,rfl,_,rfl,e,v,_,rfl,by rw[Ze ne.symm];exact Zb,Zb,ne,by show 1<1000;decide,?_);rw[Zr5];exact q v hd ne
def HK(b:af)(H:Hp)(n j:Int)(E:XK):Prop:=∀ (dx:af) (a:Hp),Zu H a->H dx=ah->a dx=aa (xdO dx (xfs n j))->E ÁU (aa dx) a
def MU(K:Ä)(c:af):Sp:=λvs H Q E=>X3 λ(n:Int) (a:af) (ss:À am)=>C5 (vs=[.int n,.ref a]) ÇL #[uf,400] Êq (((WF ss .non/\∀b,Zu H b->Q .non b)\/∃j:Int,WF ss (.int j)/\0<=n/\n<1000000/\HK c H n j E))
theorem Zm0(T:Ø)(y:Ò8)(B:Xf P w K mg Â 1 ap ar "OutOfOrder" ÇC (HL ap)) :
  D1f P w K mg Â 5 "refuse_break" Êh (MU K ap):=by
 rw[ey,T.t_refuse_break.df1,Sf,C,m];obtain n|a|p|rfl|D|F|G|I:=h;refine(_,#[Zc,#[Zq,2,Sf.nd,á,#[Ac,y,m]],#[Zh,#[ZN,#[eL,UK,2,Ł],#[Zh,#[SE,B,ÁI,m,#[fB,0,2]]],ï]]],?_);refine(_,rfl,a,p,rfl,D,F,G,λv r c d=>?_);rcases I with⟨J,q⟩|⟨j,t,L,M,q⟩
 ·have e:=NO c J;subst e;exact(_,rfl,rfl,_,rfl,Y7 (q r d))
 have e:=NO c t;subst e;have u:0<=j/\j<1000000:=by
  rcases t with⟨z,_⟩|⟨k,z,hk,_⟩
  ·cases z
  ·cases z;lia
 refine Óy;refine(_,rfl,_,rfl,λe N=>(e,n,j,rfl,Zb,L,M,u.1,u.2,λg hd ne=>(rfl,aa g,by rw[Ze ne.symm];exact Zb,?_)));have x:r g=ah:=by rw[Ze ne]at hd;exact hd
 refine q g _ #[io,b,o,c] (d.free x) (VW Zb ne);have i:=d b o c;have l:b≠e:=Zg i N;exact VW (by rw[Ze (Zg i x),Ze l,Ze l];exact i) l
theorem HJ{A B:Prop}(h:B):if (!true)=true then A else B:=Y7 h
theorem HI{a:Int}(h:ÎF<2 ^ 21):Óx<1920:=by
 by_cases z:ÎF=0
 ·rw[z];decide
 ·exact QB (#[qG].mpr h) Å
theorem Zqm{L:ù}{n:Int}(hn:n ∉ ZC L):YW Êx (.inl n)=ah:=by
 cases a:YW (kvM L) (.inl n) with
 | none=>rfl
 | some v=>obtain e|b|z:=Ι (TR a);injection z with z _;injection z with z;exact Î (show n∈ZC L by rw[<- z];exact Qk (f:=λe:Zz=>e.n) b) hn
def RG(ks:Ï):Prop:=ō<=200/\∀x∈ks,ľ<=1000/\AZ x
def HH(n:Int):À ÁR:=[("line",.int n,)]
def HG(C:af):Sp:=λvs H Q _=>X2 λ(e:af) (r:Int)=>C5 #[gf,e,r] (H e=aa Çx) (0<=r) (r<1000000) (∀dx,H dx=ah->dx≠e->Q .non (upd #[i6,H,dx] dx (xdO dx (HH r))))
theorem Zrz(T:Ø):Xf P w K mg Â 1 au ar "BadLine" ÇD (HG au):=by
 refine T.t_BadLine_init.xf Zhk Ç9 (λaP f A Ü s H o Q E hr d h=>?_);obtain e|r|rfl|g|p|t|q:=h;refine(_,#[Zc,#[ZO,(@JW _ _ _ _ _ _ _ _ _ _ _ _ d Ú0 rfl ÎG #[Zd,‹0›,#[VC,#[XT,Ý,#[iK,TN,1]]]] Å Ë Ë Ë)],#[Zh,#[sO,J0,Óz,1]]],?_);have i:=MV p t;have u:=Tc i;have z:ÎH:=λa b c=>by rw[ÎI];lia
 have y:ÎJ:=λh=>by rw[aO];lia
 rw[hR,j,"line ",5,k,u];rw[i7,l,k," of the sheet is not so written",31];refine(_,rfl,_,rfl,y (Qj j Å),_,rfl,_,rfl,i,_,rfl,y (Qj k Å),_,rfl,y (Qj l Å),y (Qj l Å),e,_,ah,rfl,g,?_);exact(_,rfl,_,rfl,e,rfl,g,λv hd ne=>q v hd ne)
def HF(a b c:af):Sp:=λvs H _ E=>X10 λ(m rd sd:af) (L:À Zz) (s:StL) (nb li lo:Int) (d:V) (n:Int)=>C5 #[gf,m,n] #[eZ,a,b,d] (n ∉ ZC L) (ÎK<2 ^ 21) (E ÄJ ah H)
def MT(a b c:af):Sp:=λvs H Q E=>HF a b c vs H Q E\/RI a b vs H Q E
theorem ZmE(T:Ø):M1f P w K mg Â 1 ao "row_of" ÁD (MT ax ao aD):=by
 refine T.t_Merge_row_of.mf1 Jt (λC H Q E h=>?_) #[ez,C,j]
 ·rcases h with⟨m,d,l,L,s,o,p,lo,r,n,rfl,_⟩|⟨m,d,l,L,s,o,p,lo,r,n,rfl,_⟩<;>rfl
 refine(_,#[Zc,#[ZN,#[Zn,(TU j),‹1›,Ģ,Àd],#[Zh,(@JP _ _ _ _ _ _ _ _ _ _ _ _ T.xw_NoRow ÁI j #[Zd,#[VC,#[XT,Ý,#[XT,#[hQ,TN,1],(@Uy _)]]]] Ë Å Ë Ë)],ï],#[Zh,#[Zl,#[i1,j,1]]]],?_);rcases h with h|⟨m,d,l,L,s,o,p,lo,r,e,rfl,M,t,q⟩
 rotate_left
 ·rw[hr,g,i];refine(_,rfl,_,rfl,m,ao,g,_,_,rfl,i,æ,ť,Z8 ..,d,_,rfl,Àn (k:=Æa) ņ (V9 ů t),_,rfl,Y7 ?_);exact(_,rfl,m,ao,g,_,_,rfl,i,æ,ť,Z8 ..,_,rfl,d,_,rfl,Àn (k:=Æa) ņ (V9 ů t),q)
 obtain m|d|l|L|s|o|p|lo|r|n|rfl|M|D|F|q:=h;rw[hr,g,i];refine(_,rfl,_,rfl,m,ao,g,_,_,rfl,i,æ,ť,Z8 ..,d,_,rfl,Àn (k:=.inl n) ņ (Zqm D),_,rfl,Y3 ?_);have u:=HI F;have G:=Tc u;have z:ÎH:=λa b c=>by rw[ÎI];lia
 have y:ÎJ:=λh=>by rw[aO];lia
 rw[hR,v,"there is no row ",16,B,G];exact(_,rfl,y (Qj v Å),_,rfl,_,rfl,u,_,rfl,y (Qj B Å),y (Qj B Å),_,rfl,q)
theorem Zks(T:Ø)(i:Í4)(j:Ú1):M1f P w K mg Â 14 ao "drop_row" ÁD (HF ax ao aD):=by
 rw[ey,T.t_Merge_drop_row.mf1,Sh,k,a];obtain m|b|c|L|s|d|e|lo|g|n|rfl|M|l|o|q:=h;refine(_,#[Zc,#[Zq,2,Sh.nd,á,#[Ym,i,Ņ,a,#[Uv,j,æ,ÁI,a,‹0›,ÁG]]],Èb],?_);rw[hr,p,r];exact(_,rfl,m,p,_,rfl,r,Te ..,_,rfl,.inl (m,b,c,L,s,d,e,lo,g,n,rfl,M,l,o,q))
def Rf(L:Ī)(nb:Int)(H:Hp)(ask:am)(g m:V):Ã (Ã (Int×Int))->Prop
 | none=>((ask = "drop"/\m=.non)\/(ask = "grow"/\∃k,m=.ref k))/\∃n,g=.int n/\n ∉ Y8 L/\ÎK<2 ^ 21
 | some ah=>ask = "add"/\m=.non/\X2 λk ks=>g=.ref k/\H k=aa Ä2/\RG ks/\ŝ ks=true/\16<=ż
 | some (aa a)=>(ask = "add"/\m=.non/\a.1=nb/\X2 λk ks=>g=.ref k/\H k=aa Ä2/\RG ks/\WF ks (.int a.2)) \/
  (ask = "grow"/\∃e∈L,a.1=e.1/\g=.int e.1/\X2 λk ks=>m=.ref k/\H k=aa Ä2/\RG ks/\WF (e.2.1++ks) (.int a.2))
def RfE(c d e:af)(H:Hp)(E:XK):Ã (Ã (Int×Int))->Prop
 | none=>∀a,Zu H a->E ÄJ ah a
 | some ah=>∀a,Zu H a->E Âa ah a
 | some (aa b)=>HK e H b.1 b.2 E
def HE(a b c d e:af):Sp:=λvs H _ E=>X11 λ(m rd sd:af) (L:À Zz) (s:StL) (nb li lo:Int) (f g:V) (o:Ã (Ã (Int×Int)))=>C6 (vs=[.ref m,g]) #[eZ,a,b,f] (0<=nb) (nb<1000000) (Rf (ZR L) nb H "add" g .non o) (RfE c d e H E o)
theorem MR(o:am)(h:o = "drop"\/o = "grow"):("add" : am)≠o:=by rcases h with rfl|rfl<;>ac_rfl
theorem Zso(T:Ø)(R:Ú2):M1f P w K mg Â 14 ao "add_row" ÄP (HE ax ao aD aH ap):=by
 rw[ey,T.t_Merge_add_row.mf1,Si,S,D];obtain m|i|U|L|s|F|V|lo|W|g|o|rfl|M|l|nb1|p|q:=h;refine(_,#[Zc,#[h7,2,Si.nd,Ģ],#[Zc,#[ZO,#[Uw,R,ÁI,D,#[fB,2,1]]],#[Zc,#[ZN,ÚT,#[Zh,(@JP _ _ _ _ _ _ _ _ _ _ _ _ T.xw_Full ÁI D #[Zd,#[VC,#[XT,(@TN _ _ _ _ Óf),#[XT,Ý,(@Uy _)]]]] Ë Å Ë Ë)],ï],#[Zc,Æh,Èb]]]],?_);rw[hr,r,G];refine#[Ax,r,G,Îr,Np,?_];cases o with
 | none =>
  rcases p.1 with⟨h,_⟩|⟨h,_⟩
  ·exact Î h (MR _ Đ)
  ·exact Î h (MR _ ÁW)
 | some o =>
 cases o with
 | some X =>
  rw[e2,n,j,X];rcases p with⟨_,_,rfl,k,t,rfl,u,e,Y⟩|⟨h,_⟩
  ·exact(_,rfl,_,rfl,n,k,t,rfl,É u,by have:=e.1;lia,λx v=>(e.2 x v).1,.inr (j,Y,l,nb1,q))
  ·exact Î h (MR _ ÁW)
 | none =>
  obtain _|_|k|t|rfl|u|e|Z|B:=p;refine(_,rfl,_,rfl,F,k,t,rfl,É u,by have:=e.1;lia,λx v=>(e.2 x v).1,.inl (RP Z,λH1 C=>?_));have I:=C _ _ G;have M1:=ÃF C;have yO:Óg:=by unfold kvM;rw[Qa]
  have iR:=Á7;have h16':16<=ż:=by unfold ZR at B;rw[Qa]at B;exact B
  refine(_,rfl,m,ao,r,_,_,rfl,I,æ,ť,Z8 ..,i,_,rfl,Êz,_,_,rfl,rfl,_,rfl,Z5 Èc (λd=>Î (û (show (16:Int)<=ÊA by lia)) d));have J:(ÊA).natAbs.log2<1920:=HI Á;have tr:=Tc J;have z:ÎH:=λa b c=>by rw[ÎI];lia
  have y:ÎJ:=λh=>by rw[aO];lia
  have N:(ÁS++Èa (toString ÊA)).length<=0+1921:=z Å tr Å;rw[i7,O,N," rows are there",15];exact(_,rfl,m,ao,r,_,_,rfl,I,æ,ť,Z8 ..,i,_,rfl,Êz,_,rfl,J,_,rfl,y (Qj N Å),_,rfl,y (Qj O Å),y (Qj O Å),_,rfl,q H1 C)
def HD(a b c d f:af):Sp:=λvs H _ E=>X12 λ(m rd sd:af) (L:À Zz) (s:StL) (nb li lo:Int) (h g k:V) (o:Ã (Ã (Int×Int)))=>C5 (vs=[.ref m,g,k]) #[eZ,a,b,h] ((∀e∈L,0<=e.n/\e.n<1000000)) (Rf (ZR L) nb H "grow" g k o) (RfE c d f H E o)
theorem Zpu(T:Ø)(J:Ú2)(N:Ú1):M1f P w K mg Â 14 ao "grow" ÇE (HD ax ao aD aH ap):=by
 rw[ey,T.t_Merge_grow.mf1,TC,O,B];obtain m|l|p|L|s|r|t|lo|u|g|k|o|rfl|M|C|v|q:=h;refine(_,#[Zc,#[Zq,3,TC.nd,á,#[Uv,N,æ,ÁI,B,‹0›,ÁG]],#[Zc,#[ZO,#[Uw,J,ÁI,B,ÚY]],Èb]],?_);rw[hr,D,F];have a:("grow" : am) ≠ "add":=by ac_rfl
 cases o with
 | none=>obtain _|n|rfl|G|R:=v;rw[<- Xs]at G;exact(_,rfl,m,D,_,rfl,F,Te ..,_,rfl,.inl (m,l,p,L,s,r,t,lo,u,n,rfl,M,G,R,q H Æc))
 | some o =>
 cases o with
 | none=>exact Î v.1 a
 | some S =>
  rw[e2,n,j,S];rcases v with⟨h,_⟩|⟨_,x,hx,rfl,rfl,U,V,rfl,W,y,z⟩
  ·exact Î h a
  rw[eV,e,i,hx];rw[tQ,Re,i,X,Y,Óu];refine(_,rfl,m,D,_,rfl,F,Te ..,_,rfl,.inr (m,l,p,L,s,r,t,lo,u,e,rfl,M,i,?_));refine(_,rfl,_,rfl,e.p,ax,X,_,_,rfl,Y,Ņ,ÄU,U5 _ _ _,_,rfl,e.k,U,_,_,rfl,rfl,Re.at'.ks,W,(by rw[Qa,Qa];have:=y.1;have:=Re.len;exact ń Á),λc I=>?_);rw[<- Qi];refine(e.n,c,ì++V,rfl,É Zb,(by rw[Qg];have:=y.1;have:=Re.len;lia),(λx hx=>?_),.inr (j,z,(C e i).1,(C e i).2,λd Z s' hd h'=>q d Z (λb o z=>s' b o (Zf I _ b o z)) ((Zf I _).free hd) h'));rcases ÿ hx with hx|hx
  ·exact(Re.str x hx).1
  ·exact(y.2 x hx).1
theorem MQ:∀a b:À Nat,ÄS a b=true↔a<b
 | [],[]=>by simp[ÄS]
 | [],y::s=>by simp[ÄS]
 | x::r,[]=>by simp[ÄS]
 | x::r,y::s=>by have ih:=MQ r s;rw[Úc];simp[ÄS,ih]
def LeS(a b:am):Prop:=¬ b.cps.toList<a.cps.toList
theorem LeS.trans{a b c:am}(h:LeS a b)(k:LeS b c):LeS a c:=List.not_lt.mpr (List.le_trans (List.not_lt.mp h) (List.not_lt.mp k))
theorem HC:∀ (r:À am) (x:am),ÇM x r=true↔(x::r).Pairwise LeS
 | [],x=>by simp[ÇM]
 | y::r,x=>by
  have ih:=HC r y;rw[List.pairwise_cons];unfold ÇM;rw[QT,Ú3];constructor
  ·rintro⟨c,d⟩;have p:=ih.mp d;have a:LeS x y:=λz=>by rw[(MQ _ _).mpr z]at c;cases c
   refine(λb hb=>?_,p);rcases î hb with rfl|hb
   ·exact a
   ·exact a.trans ((Ú4 p).1 b hb)
  ·rintro⟨c,d⟩;exact(Íp λz=>c y Ù ((MQ _ _).mp z),ih.mpr d)
theorem Zpt(ss:Ï):ŝ ss=true↔ss.Pairwise LeS:=by
 cases ss with
 | nil=>simp[ŝ]
 | Ñ x r=>exact HC r x
theorem ZuP{L:ù}(h:∀e∈L,e.g<=ψ):(Wa ÄW).sum=((ZZ (ZR L):Nat):Int):=by
 induction L with
 | nil=>rfl
 | Ñ e r a=>have i:=#[tK,a,x,b];have g:=h e Ù;unfold Wa ZZ ZR at i ⊢;rw[Qh,Qh,Qh,Qh,QP,QP,i,Int.natCast_add];congr 1;show (ψ:Int)-(e.g:Int)=((ψ-e.g:Nat):Int);lia
def Zwx(P:Ī)(x:ZP)(z:am):Prop:=x∈P/\x.2.1[x.2.2]? = aa z/\Win (hdP P) (Y8 P) (aa x.1)
inductive TkW (P:Ī):À Yf->À ZP->Prop
 | nil:TkW P [] P
 | snoc {ts:À Yf} {P1:À ZP} {x:ZP} {z:am}:TkW P ts P1->Zwx P1 x z->TkW P (ts++[(x.1,x.2.2,z,)]) (WM P1 x.1)
theorem Ye.tk{P a:Ī}{ts:Á9}{k q:Int}(h:Ç6):TkW P ts a:=by
 induction h with
 | nil=>exact .nil
 | snoc h s b=>exact .snoc b (s.1,s.2.1,s.2.2.1)
theorem TkW.num{P a:Ī}{ts:Á9}(h:TkW P ts a):Y8 a=Y8 P:=by
 induction h with
 | nil=>rfl
 | snoc _ _ b=>rw[HX,b]
theorem TkW.left{P a:Ī}{ts:Á9}(h:TkW P ts a)(nd:ÊL):ZZ a+Φ=ZZ P:=by
 induction h with
 | nil=>rfl
 | snoc h s ih=>have:=ÚQ;rw[Qg,QC];lia
def kT0(k:am):am:=if k = "" then "-" else k
def FN(n:Nat):Prop:=n<10\/n=1000000
def NmS(s:am):Prop:=AZ s/\1<=Ŗ/\Ŗ<=8
theorem HB(sep:am)(ws:Ï)(m n:Nat)(h:∀s∈ws,Ŗ<=m)(hn:Äh<=n)(h1:Ìt=1):(Ád sep ws).length<=n*(m+1):=by
 have j:=Zp2 sep ws;have:∀l:À am,(∀s∈l,Ŗ<=m)->(Á1 ÃN).sum<=İ*m:=λl=>by
  induction l with
  | nil=>intro _;simp
  | Ñ a l b=>intro h;have h1:=h a Ù;have c:=#[tK,b,s,d];rw[Qh,QP,QE,ÐC];lia
 have c:=this ws h;have h3:Äh*m+Äh*1<=n*(m+1):=by rw[<- Nat.mul_add];exact Nat.mul_le_mul_right _ hn
 rw[h1]at j;lia
theorem ZsQ{k:am}(h:¬ k = ""):¬ Ç k=Ç "":=λz=>by injection z with z;exact h z
def HA:Sp:=λvs H Q _=>∃k:am,vs=[.str k]/\Q (.str (kT0 k)) H
theorem Ztp(T:Ø):Df P w K mg Â 1 "written_key" ["key"] HA:=by
 rw[ey,T.t_written_key.df,ZhD,b,hr];rw[je,k,q,h];refine(_,#[Zh,#[Zl,#[Yb,#[eL,V2,0,Ý],‹0›,ÎL]]],_,rfl,rfl,_,rfl,?_);unfold kT0 at q;by_cases a:k = ""
 ·subst a;rw[Æ rfl]at q;rw[yr];exact Y7 q
 ·rw[sR,a,q];rw[Ē (ZsQ a)];exact Y3 Ço
theorem RF(k:am):(kT0 k).length<=k.length+1:=by
 unfold kT0;split
 ·exact Qj (by decide:("-" : am).length<=1) Á
 ·lia
theorem Hz(x:am):ÁS++x=x:=by obtain⟨l⟩:=x;show (⟨#[]++l⟩:am)=⟨l⟩;simp
def thT(nm k:am):am:=nm ++ ":"++kT0 k
def thO(nm:am):Ã am->am
 | none=>nm ++ ":."
 | some k=>thT nm k
def Hy:Sp:=λvs H Q _=>X2 λ(nm:am) (k:Ã am)=>C4 (vs=[.str nm,oV k]) (ÊP<=90) ((∀x,k=aa x->ľ<=1000)) (Q (.str (thO nm k)) H)
theorem Zom(T:Ø)(i:#[jm,1,"written_key","key",HA]):Df P w K mg Â 2 "written_thing" Êi Hy:=by
 rw[ey,T.t_written_thing.df,Zg3,j,l];rw[g2,b,k,hn,m];refine(_,#[Zh,#[Zl,#[Yb,#[gF,1],#[VC,#[iK,Po,0]],#[VC,#[XT,#[hQ,Po,0],#[XT,Ý,#[XT,(@Po _ _ _ _ #[Ac,i,l]),(@Uy _)]]]]]]],?_);have a0:am.empty.length=0:=rfl;have l0:(ÁS++b).length<=90:=by rw[QS];lia
 have a:∀ {n:Nat},n<=1102->n<=aq:=λh=>Qj h Ñj;cases k with
 | none =>
  have e2:(":." : am).length=2:=by ac_rfl
  have e:(ÁS++b ++ ":.").length<=101:=by rw[QS];lia
  refine(_,rfl,rfl,_,rfl,Z5 Èc Ú5);refine(_,rfl,_,rfl,ń Á,_,rfl,a Á,_,rfl,a Á,?_);have c:Q (.str (b ++ ":.")) H:=q;rw[Hz]at e ⊢;exact(a Á,c)
 | some k =>
  have jq:=m k rfl;refine ÓA;have iB:=RF k;have e1:ÎM:=by ac_rfl
  have e:(ÁS++b ++ ":").length<=101:=by rw[QS];lia
  have g:(ÁS++b ++ ":"++kT0 k).length<=1102:=by rw[QS];lia
  refine(_,rfl,_,rfl,ń Á,_,rfl,a Á,_,rfl,a Á,_,rfl,k,rfl,_,rfl,a Á,_,rfl,a Á,?_);have c:Q (.str (b ++ ":"++kT0 k)) H:=q;rw[Hz]at g ⊢;exact(a g,c)
def Tb(K:Ä):Sp:=λvs H Q _=>X2 λ(l:af) (ws:À am)=>C4 #[gh,l] (SqL K H l (ÅX Ç)) ((ÅX ÃN).sum+Äh<=1000000) (Q (.str (if ws=[] then "-" else Ád " " ws)) H)
theorem Zor(T:Ø):Df P w K mg Â 1 "with_blanks" ["words"] (Tb K):=by
 rw[ey,T.t_with_blanks.df,Zis,c,hr];rw[g2,l,ws,b,hs];refine(_,#[Zh,#[Zl,#[Yb,#[f8,ÂP],#[il,ÂS],ÎL]]],_,rfl,l,_,rfl,.inl b,_,_,rfl,rfl,_,rfl,?_);rw[Qa];by_cases a:ws=[]
 ·subst a;rw[Æ rfl]at q;exact Y7 q
 ·rw[sR,a,q];have hp:0<Äh:=List.length_pos_iff.mpr a;refine Xu Á (rfl,_,rfl,_,l,ws,rfl,rfl,b,?_,q);have d:(ÎU).length=1:=by ac_rfl
  rw[d];lia
structure DS where
 P:À ZP
 nb:Int
 li:Int
 lo:Int
 nm:À (am×Int)
inductive Od where
 | row (s:am) (ks:À am)
 | grow (s:am) (ks:À am)
 | drop (s:am)
 | take (n:Nat)
 | Èd
 | coming
 | left
 | ð
def YB(nm:ſ)(n:Int):am:=(#[iZ,nm.find?,e,e.2,n].map ċ).getD ""
def blT(ws:Ï):am:=if ws=[] then "-" else Ád " " ws
def VP(P:Ī)(nm:ſ):À am:=ÀF λx=>thO (YB nm x.1) x.2.1[x.2.2]?
def Xh(i:Int):am:=Èa (toString i)
def Wt(P:Ī)(n:Int)(ks:Ï):À ZP:=ÀF λx=>if x.1=n then (x.1,x.2.1++ks,x.2.2,) else x
def UW(P:Ī)(n:Int):À ZP:=P.filter λx=>decide (x.1≠n)
structure SOk (S:DS):Prop where
 num:ÎN Ĩ=Y8 S.P
 nd:(ÎN ċ).Nodup
 ndP:(Y8 S.P).Nodup
inductive Yo:DS->Od->am->DS->Prop
 | row {P:À ZP} {nb li lo:Int} {nm:À (am×Int)} {s:am} {ks:À am} {k q:Int}:(∀e∈nm,e.1≠s)->ŝ ks=true->Éa<16->YM (hdP (P++[(nb,ks,0,)])) 8 (Y8 (P++[(nb,ks,0,)])) k q->Yo (P,nb,li,lo,nm) (.row s ks) "done" (P++[(nb,ks,0,)],nb+1,li+k,lo+q,nm++[(s,nb,)])
 | noRow {S:DS} {s:am} {ks:À am}:((∃e∈S.nm,e.1=s)\/ŝ ks=false\/16<=ÓB)->Yo S (.row s ks) "refused" S
 | grow {P:À ZP} {nb li lo:Int} {nm:À (am×Int)} {s:am} {ks:À am} {x:ZP} {k q:Int}:(s,x.1,)∈nm->x∈P->ŝ (x.2.1++ks)=true->((x.2.2<x.2.1.length\/ks=[])/\k=0/\q=0\/x.2.2=x.2.1.length/\ks≠[]/\YM (hdP (Wt P x.1 ks)) 8 (Y8 P) k q)->Yo (P,nb,li,lo,nm) (.grow s ks) "done" (Wt P x.1 ks,nb,li+k,lo+q,nm)
 | noGrow {S:DS} {s:am} {ks:À am}:((∀e∈S.nm,e.1≠s)\/∃x∈S.P,(s,x.1,)∈S.nm/\ŝ (x.2.1++ks)=false)->Yo S (.grow s ks) "refused" S
 | drop {P:À ZP} {nb li lo:Int} {nm:À (am×Int)} {s:am} {n k q:Int}:(s,n,)∈nm->YM (hdP (UW P n)) 8 (Y8 (UW P n)) k q->Yo (P,nb,li,lo,nm) (.drop s) "done" (UW P n,nb,li+k,lo+q,ÊQ λe=>decide (e.1≠s))
 | noDrop {S:DS} {s:am}:(∀e∈S.nm,e.1≠s)->Yo S (.drop s) "refused" S
 | take {P P':À ZP} {nb li lo:Int} {nm:À (am×Int)} {n:Nat} {ts:À Yf} {k q:Int}:Ye P ts P' k q->Φ=min n (ZZ P)->Yo (P,nb,li,lo,nm) (.take n) (blT (À9 λt=>thT (YB nm t.1) t.2.2)) (P',nb,li+k,lo+q,nm)
 | Èd {S:DS}:Yo S .counts (Xh δ ++ " "++Xh S.lo) S
 | comNo {S:DS}:Win (hdP S.P) (Y8 S.P) ah->Yo S .coming "-" S
 | com {S:DS} {x:ZP} {z:am}:x∈S.P->x.2.1[x.2.2]? = aa z->Win (hdP S.P) (Y8 S.P) (aa x.1)->Yo S .coming (thT (YB S.nm x.1) z) S
 | left {S:DS}:Yo S .left (Xh (ZZ S.P:Nat)) S
 | ð {S:DS}:Yo S .rows (blT (VP S.P S.nm)) S
theorem MP{α a:Type}:∀ {P:À (α×a)},(ÀF Ĩ).Nodup->∀ {p q:α×a},p∈P->q∈P->p.2=q.2->p=q
 | [],_,_,_,h,_,_=>by cases h
 | x::r,nd,p,q,b,hq,e=>by
  rw[yQ];rcases î b with h1|h1
  ·rcases î hq with h2|h2
   ·rw[h1,h2]
   ·exact Î (show x.2∈Ãr Ĩ by rw[<- h1,e];exact #[Ad,x.2,h2]) nd.1
  ·rcases î hq with h2|h2
   ·exact Î (show x.2∈Ãr Ĩ by rw[<- h2,<- e];exact #[Ad,x.2,h1]) nd.1
   ·exact MP nd.2 h1 h2 e
theorem SOk.ndN{S:DS}(h:SOk S):(ÎN Ĩ).Nodup:=by rw[ÃL];exact h.ndP
theorem SOk.has{S:DS}(h:SOk S){x:ZP}(hx:x∈S.P):∃s,(s,x.1,)∈S.nm:=by
 have:x.1∈ÎN Ĩ:=by rw[ÃL];exact Qk (f:=Æd) hx
 obtain e|a|z:=ÊR;exact(e.1,by rw[<- z];exact a)
theorem SOk.at'{S:DS}(h:SOk S){s:am}{n:Int}(hx:(s,n,)∈S.nm):∃x∈S.P,x.1=n:=by
 have:n∈Y8 S.P:=by rw[<- ÃL];exact Qk (f:=λe:am×Int=>e.2) hx
 exact ÊR
structure SBd (S:DS):Prop where
 few:ÓB<=16
 nb0:0<=S.nb
 nb1:S.nb<=200
 lt:∀x∈S.P,0<=x.1/\x.1<S.nb
 len:∀x∈S.P,x.2.1.length<=180
 li:S.li.natAbs<=100000000
 lo:S.lo.natAbs<=100000000
 nmz:∀e∈S.nm,AZ e.1/\e.1.length<=8
 tot:ZZ S.P<=180
inductive MO (S:DS):À Od->À am->DS->Prop
 | nil:MO S [] [] S
 | snoc {os:À Od} {as:À am} {S1 S2:DS} {o:Od} {a:am}:MO S os as S1->SOk S1->SBd S1->Yo S1 o a S2->MO S (os++[o]) (as++[a]) S2
def MN(hd:Hd)(m:Nat):Prop:=∀a x,hd a=aa x->ľ<=m
theorem YM.bd{hd:Hd}{m:Nat}(hm:MN hd m){n:Nat}{N:Ô}{k l:Int}(h:YM hd n N k l):0<=k/\k+1<=((2 ^ n:Nat):Int)/\0<=l/\l<=k*ÊS:=by
 induction h with
 | few _=>refine(Qap _,?_,Qap _,by lia);rename_i n _ _;have:=Nat.two_pow_pos n;lia
 | none _ _ _ _ c d=>rename_i n N k l k' e _ _ _ _;rw[rG];rw[Qbo];lia
 | both _ _ _ _ _ f hy c d=>rename_i n N k l k' e a b x y _ _ _ _ _;have:=(Vy x y).1;have:=hm _ _ f;rw[rG];rw[Qbo,Qbo];lia
theorem Ag.bd{hd:Hd}{m:Nat}(hm:MN hd m){z:ś}{C:À Óo}{k q:Int}(h:Ag hd z C k q):0<=k/\k<=(C.length:Int) /\ -(k*ÊS)<=q/\q<=k*ÊS:=by
 induction h with
 | nil=>exact(Qap _,Qap _,by lia,by lia)
 | no _ _ c=>rw[Qg,QC];lia
 | eq _ _ _ d e f c=>rename_i C A B k q a b x y _ _ _;have:=(Vy x y).1;have:=(Vy x z).1;have:=hm _ _ d;rw[Qg,QC,Qbo];lia
 | ne _ _ _ d e f c=>rename_i C A B k q a b x y _ _ _;rw[Qg,QC,Qbo];lia
def WX(P:Ī)(m:Nat):Prop:=∀x∈P,∀s∈x.2.1,Ŗ<=m
theorem WX.hd{P:Ī}{m:Nat}(h:WX P m):MN (hdP P) m:=λa x hx=>by
 unfold hdP hdL at hx;cases b:(ÀF λx:ZP=>((x.1,0,x.2,):XX)).find? λe=>decide (e.1=a) with
 | none=>rw[b]at hx;cases hx
 | some y =>
  rw[b]at hx;have d:=QaA b;rw[eV,z,f,d];simp only[Íq]at hx;cases c:z.2.1[z.2.2]? with
  | none=>rw[c]at hx;cases hx
  | some s=>rw[c]at hx;injection hx with hx;rw[<- hx,NR];exact h z f s (Qm c)
theorem WX.bump{P:Ī}{m:Nat}(h:WX P m)(n:Int):WX (WM P n) m:=λx hx s hs=>by obtain y|a|rfl:=Ι hx;refine h y a s ?_;unfold VR at hs;split at hs<;>exact hs
theorem Ye.keyLe{P a:Ī}{ts:Á9}{k q:Int}(h:Ç6){m:Nat}(hk:WX P m):WX a m:=by
 induction h with
 | nil=>exact hk
 | snoc _ _ b=>exact b.bump _
theorem Hx:∀ (k:Nat) (M:À Int) (n:Int),(Ón).length<=k
 | 0,_,_=>Qd _
 | k+1,M,n=>by
  unfold Z6;split
  ·rw[Qg,QC];have:=Hx k Ű n;lia
  ·exact Qp _
theorem Ye.bd{P a:Ī}{ts:Á9}{k q:Int}(h:Ç6){m:Nat}(hk:WX P m):0<=k/\k<=8*Ç8 /\ -(k*ÊS)<=q/\q<=k*ÊS:=by
 induction h with
 | nil=>exact(Qap _,by simp,by lia,by lia)
 | snoc h s ih=>have b:=s.2.2.2.bd ((h.keyLe hk).bump _).hd;have c:=Hx 8 (Y8 ‹À ZP›) (‹ZP›).1;unfold Ug at b;rw[Qa]at b;rw[Qg,QC,Qbo];lia
def Hw:Od->Prop
 | .row _ ks=>∀s∈ks,Ŗ<=40
 | .grow _ ks=>∀s∈ks,Ŗ<=40
 | _=>Μ
theorem Hv{P:Ī}{m:Nat}(h:WX P m)(n:Int){ks:Ï}(hk:∀s∈ks,Ŗ<=m):WX (Wt P n ks) m:=λx hx s hs=>by
 rw[eV,y,a,hx];split at hs
 ·rcases ÿ hs with hs|hs
  ·exact h y a s hs
  ·exact hk s hs
 ·exact h y a s hs
theorem Yo.bd{S i:DS}{o:Od}{a:am}(g:Yo S o a i)(hk:WX S.P 40)(p:Hw o)(r:ZZ S.P<=180):(i.li-δ).natAbs<=1500/\(i.lo-S.lo).natAbs<=61500:=by
 cases g with
 | row f h t d =>
  rename_i P j c lo l s u k q;have b:=d.bd (m:=40) (WX.hd λx hx s e=>by
   rcases ÿ hx with hx|hx
   ·exact hk x hx s e
   ·rw[ó hx]at e;exact p s e)
  rw[co];lia
 | noRow _=>show (δ-δ).natAbs<=_/\#[mQ].natAbs<=_;lia
 | grow f h t d =>
  rename_i P j c lo l s u x k q;rw[co];rcases d with⟨_,rfl,rfl⟩|⟨_,_,d⟩
  ·lia
  ·have b:=d.bd (Hv hk x.1 p).hd;lia
 | noGrow _=>show (δ-δ).natAbs<=_/\#[mQ].natAbs<=_;lia
 | drop f h=>rename_i P j c lo l s n k q;have b:=h.bd (m:=40) (WX.hd λx hx s e=>hk x #[zC].1 s e);rw[co];lia
 | noDrop _=>show (δ-δ).natAbs<=_/\#[mQ].natAbs<=_;lia
 | take f h=>rename_i P P' j c lo l n ts k q;have b:=f.bd hk;have hn:ZZ P<=180:=r;rw[co];lia
 | Èd=>show (δ-δ).natAbs<=_/\#[mQ].natAbs<=_;lia
 | left=>show (δ-δ).natAbs<=_/\#[mQ].natAbs<=_;lia
 | ð=>show (δ-δ).natAbs<=_/\#[mQ].natAbs<=_;lia
 | comNo _=>show (δ-δ).natAbs<=_/\#[mQ].natAbs<=_;lia
 | com _ _ _=>show (δ-δ).natAbs<=_/\#[mQ].natAbs<=_;lia
theorem Zq7(P:Ī)(x:ZP):ZZ (P++[x])=ZZ P+(x.2.1.length-x.2.2):=by unfold ZZ;rw[Qi,ÌN];simp
theorem Ht(p:ZP->Ê):∀P:À ZP,ZZ (P.filter p)<=ZZ P
 | []=>Qd _
 | y::r=>by
  have ih:=Ht p r;unfold ZZ at ih ⊢;rw[ÑM];split
  ·rw[Qh,Qh,QP,QP];lia
  ·rw[Qh,QP];lia
theorem Hs(n:Int)(ks:Ï):∀P:À ZP,(Y8 P).Nodup->ZZ (Wt P n ks)<=ZZ P+ō
 | [],_=>Qp _
 | y::r,nd=>by
  unfold Y8 at nd;rw[yQ];have ih:=Hs n ks r nd.2;unfold ZZ Wt at ih ⊢;rw[Qh,Qh,QP,Qh,QP];by_cases h:y.1=n
  ·have e:Ãr (λx:ZP=>if x.1=n then (x.1,x.2.1++ks,x.2.2,) else x)=r:=by refine(QU λu a=>?_).trans (List.map_id r);rw[È (λz:u.1=n=>nd.1 (by rw[h,<- z];exact Qk (f:=Æd) a))];rfl
   rw[e,Æ h];show (y.2.1++ks).length-y.2.2+_<=_;rw[Qg];lia
  ·rw[ti,h];lia
theorem Hr:∀ss:À am,(∀i x y,ss[i+1]? = aa x->ss[i]? = aa y->0<=ZW ć ě)->ss.Pairwise LeS
 | [],_=>.nil
 | [x],_=>Qa8 ..
 | x::y::r,h=>by
  have ih:=Hr (y::r) λi a b h1 h2=>h (i+1) a b h1 h2;have c:LeS x y:=λz=>by have:=(IW _ _).mp z;have:=h 0 y x rfl rfl;rw[tv,cds];lia
  refine List.pairwise_cons.mpr (λb hb=>?_,ih);rcases î hb with rfl|hb
  ·exact c
  ·exact c.trans ((Ú4 ih).1 b hb)
theorem Zuy(ss:Ï):ŝ ss=true\/∃k:Nat,WF ss ÍY:=by
 have h:∀n:Nat,(∀i,i<n->∀x y,ss[i+1]? = aa x->ss[i]? = aa y->0<=ZW ć ě)\/∃k:Nat,WF ss ÍY:=λn=>by
  induction n with
  | zero=>exact .inl λi g=>Î g (Íg i)
  | succ n ih =>
   rcases ih with ih|ih
   ·cases f:ss[n+1]? with
    | none =>
     refine .inl λi g x y c d=>?_;by_cases e:i=n
     ·rw[fW,e,f,c]
     ·exact ih i Á x y c d
    | some x =>
     have l:=(Ń f).1;have j:ss[n]? = aa (ss[n]' Á):=Qb Á;by_cases m:ZW ć (cds (ss[n]' Á))<0
     ·refine .inr (n,.inr (n,rfl,l,λa b c d=>?_,ih));rw[f]at c;rw[gv,j,d,c];cases d;exact m
     ·refine .inl λi g a b c d=>?_;by_cases e:i=n
      ·subst e;rw[f]at c;rw[gv,j,d,c];cases d;lia
      ·exact ih i Á a b c d
   ·exact .inr ih
 rcases h Àm with h|h
 ·refine .inl ((Zpt ss).mpr (Hr ss λi x y c d=>h i ?_ x y c d));exact(Ń d).1
 ·exact .inr h
def kvN(nm:ſ):À ÂI:=Ä3 λe=>(.inr e.1,.int e.2,)
def kvI(nm:ſ):À ÂI:=Ä3 λe=>(.inl e.2,.str e.1,)
theorem Zrg(nm:ſ):(kvN nm).map ċ=(Ä3 ċ).map (Âi:am->Key):=by unfold kvN;rw[Qz,Qz];rfl
theorem MM{nm:ſ}(nd:(Ä3 ċ).Nodup){s:am}{n:Int}(h:(s,n,)∈nm):YW (kvN nm) (.inr s)=aa ÅT :=
 Ps (by rw[Zrg];exact Ò6 _ (λa b c z=>c ÓC) nd) (Qk (f:=λe:am×Int=>((.inr e.1:Key),ß e.2,)) h)
theorem ML{nm:ſ}{s:am}(h:∀e∈nm,e.1≠s):YW (kvN nm) (.inr s)=ah:=by
 cases a:YW (kvN nm) (.inr s) with
 | none=>rfl
 | some v=>obtain e|b|z:=Ι (TR a);injection z with z _;exact Î ÓC (h e b)
theorem ZpX(nm:ſ)(s:am):VY (kvN nm) (.inr s)=kvN Èe:=by unfold VY kvN;rw[Qa5];congr 1;exact Ós λe _=>Äz (λh z=>h (by show (Âi e.1:Key)=_;rw[z]),λh z=>h ÓC)
theorem MK(nm:ſ)(s:am):(∀e∈nm,e.1≠s)\/∃n,(s,n,)∈nm:=by
 by_cases h:∃e∈nm,e.1=s
 ·obtain e|a|rfl:=h;exact .inr (e.2,a)
 ·exact .inl λe a z=>h (e,a,z)
def dsO(X:MS)(nm:ſ):DS:=(ZR X.L,đ,Ĥ,ĥ,nm)
structure DOk (cR cM:af) (H:Hp) (X:MS) (nd:af) (nm:ſ):Prop where
 mg:MOk cR cM H X
 at':H nd=aa #[sN,nm]
 sep:¬ MFp X nd
 ok:SOk ω
section
variable {cR cM:af} {H H':Hp} {X:MS} {nd:af} {nm:À (am×Int)}
theorem DOk.same(D:Ái)(s:Zu H H'):DOk cR cM H' X nd nm:=(D.mg.same s,s _ _ ŭ,Àa,D.ok)
theorem DOk.keep(D:Ái)(k:∀b o,H b=aa o->MFp X b\/b=nd\/Ò9->H' b=aa o):DOk cR cM H' X nd nm :=
 (D.mg.keep λb o a h=>k b o a (Àf .inl λz=>.inr (.inr z)),k _ _ ŭ Îe,Àa,D.ok)
theorem DOk.rows{s:am}{n:Int}(D:Ái)(h:(s,n,)∈nm):∃e∈X.L,e.n=n:=by obtain x|a|rfl:=D.ok.at' h;obtain e|b|rfl:=Ι a;exact(e,b,rfl)
structure DTo (cR cM:af) (H H':Hp) (X X':MS) (nd:af) (nm eV:ſ) (o:Od) (a:am):Prop where
 st:Yo ω o a (dsO X' eV)
 D:DOk cR cM H' X' nd eV
 m:X'.m=X.m
 fp:∀b,MFp X' b->MFp X b\/H b=ah
 k:∀b u,H b=aa u->¬ MFp X b->b≠nd->H' b=aa u
theorem DOk.stay{o:Od}{a:am}(D:Ái)(st:Yo ω o a ω)(s:Zu H H'):DTo cR cM H H' X X nd nm nm o a:=(st,D.same s,rfl,λ_ h=>.inl h,λb u hb _ _=>s b u hb)
theorem DTo.same{c:Hp}{e:MS}{f:ſ}{o:Od}{a:am}(d:DTo cR cM H H' X e nd nm f o a)(s:Zu H' c):DTo cR cM H c X e nd nm f o a:=(d.st,d.D.same s,d.m,d.fp,λb u hb g h=>s _ _ (d.k b u hb g h))
theorem MJ{m rd sd:af}{L:ù}{s:StL}{nb li lo:Int}{a:V}(M:#[ga,cR,cM,a]):(Ů).length<=2 ^ (8-1):=Qj (show (ZC L).length<=60 by unfold ZC;rw[Qa];exact Á7) Å
theorem DOk.add{s:am}{ks:Ï}{e:Zz}{f:af}{s':StL}{w:Δ}{k q:Int}(D:Ái)(B:SBd ω)(hs:∀e∈nm,e.1≠s)(srt:ŝ ks=true)(p:ÓD<16)
  (r:e.n=đ) (t:ì=ks) (v:e.g=0) (A:H e.p=ah) (hk:H e.k=ah) (hf:H e.f=ah) (j:H f=ah) (W:Win (hdM ÂT) (ZC ÂT) w) (St:XD (hdM ÂT) s' 8 (ZC ÂT)) (l:YM (hdM ÂT) 8 (ZC ÂT) k q)
  (M:ZQ cR cM H' X.m Ĳ f ÂT s' (đ+1) (Ĥ+k) (ĥ+q) (Yx w)) (kp:#[tg,X.m,Ĳ,H']) :
  ∃C,DTo cR cM H (upd H' nd (.dK (kvN Ú6))) X C nd nm Ú6 (.row s ks) "done":=by
 have i:ZR ÂT=ZR X.L++[(đ,ks,0,)]:=by unfold ZR;rw[Qi,List.map_singleton,r,t,v]
 have m:¬ MFp Ú7 nd:=λz=>by
  have d:=ŭ;rcases z with z|z|z|⟨x,hx,z⟩
  ·exact ÓE
  ·exact Àa Á8
  ·rw[jn,f,j,d]
  ·rcases ÿ hx with hx|hx
   ·exact Àa #[i2,x,hx]
   ·rw[ó hx]at z;rcases z with z|z|z
    ·rw[Av,A,d]
    ·rw[Av,hk,d]
    ·rw[Av,hf,d]
 have g:=kp _ _ ŭ ÎO ÓF;have Mk:MOk cR cM H' Ú7:=(M,W,Ui 8 _ s' _ M.up (MJ M) Å St);rw[VQ,Xs,i]at l;refine(_,(?_,(Mk.keep λb o c E=>?_,Zb,m,?_),rfl,λb c=>?_,λb u c n F=>?_))
 ·have:=Yo.row (nb:=đ) (li:=Ĥ) (lo:=ĥ) hs srt (show (ZR X.L).length<16 by unfold ZR;rw[Qa];exact p) l;rw[iH,i]
 ·rw[Ze (λz=>by
   rcases E with y|⟨xs,rfl⟩
   ·exact m #[fE,z,y]
   ·rw[z,g]at c;cases c)]
  exact c
 ·have h:=D.ok;rw[ud,?_,?_]
  ·show (nm++[(s,đ,)]).map Ĩ=Y8 (ZR ÂT);rw[i,Qi];unfold Y8;rw[Qi];exact ħ (·++[đ]) ÃL
  ·show ((Ú6).map ċ).Nodup;rw[g8,h.nd,G,c,y,I];have:b=s:=by simpa using c
   rw[this];exact hs y I
  ·rw[sP,ÂT]
 ·rcases c with z|z|z|⟨x,hx,z⟩
  ·exact .inl (.inl z)
  ·exact .inl Á8
  ·rw[gG,f,j]
  ·rcases ÿ hx with hx|hx
   ·exact .inl #[i2,x,hx]
   ·rw[ó hx]at z;exact .inr (by rcases z with z|z|z<;>rw[z]<;>assumption)
 ·rw[Ze F];exact kp b u c #[hl,n] (λz=>n Á8)
theorem DOk.drop{s:am}{e:Zz}{c:af}{s':StL}{w:Δ}{k q:Int}(D:Ái)(hs:ÎP)(he:e∈X.L)(j:H c=ah)(W:Win Èf Èg w)(St:XD Èf s' 8 Èg)(l:YM Èf 8 Èg k q)
  (M:#[ie,H',c,Æi]) (t:H' nd=aa #[sN,Èe]) (kp:∀b o,H b=aa o->b≠X.m->b≠Ĳ->b≠nd->H' b=aa o) :
  ∃v,DTo cR cM H H' X v nd nm Èe (.drop s) "done":=by
 have d:ZR Æi=UW Àp e.n:=by unfold ZR YO UW;rw[Qa5];rfl
 have h:=D.ok;rw[VQ,Xs,d]at l;have A:¬ MFp (X.m,Ĳ,c,YO X.L e.n,s',đ,Ĥ+k,ĥ+q,w) nd:=λz=>by
  have m:=ŭ;rcases z with z|z|z|⟨x,f,z⟩
  ·exact ÓE
  ·exact Àa Á8
  ·rw[jn,c,j,m]
  ·exact Àa Ú8
 refine((X.m,Ĳ,c,YO X.L e.n,s',đ,Ĥ+k,ĥ+q,w),(?_,((M,W,Ui 8 _ s' _ M.up (MJ M) Å St),t,A,?_),rfl,λb g=>?_,λb u g p B=>kp b u g #[hl,p] (λz=>p Á8) B))
 ·have:=Yo.drop (nb:=đ) (li:=Ĥ) (lo:=ĥ) hs l;rw[iH,d]
 ·rw[ud,?_,?_]
  ·show (ÊQ λe=>decide (e.1≠s)).map Ĩ=Y8 (ZR Æi);rw[d];have C:(ÊQ λy=>decide (y.1≠s))=ÊQ λy=>decide (y.2≠e.n):=by
    refine Ós λy r=>Äz (λa z=>a ?_,λa z=>a ?_)
    ·have:=MP h.ndN r hs z;rw[this]
    ·have:=RO h.nd r hs z;rw[this]
   rw[C];have i:=ħ (List.filter λn:Int=>decide (n≠e.n)) ÃL;unfold Y8 at i;rw[Qa5,Qa5]at i;exact i
  ·exact h.nd.sublist Ót
  ·rw[sP,Æi]
 ·rcases g with z|z|z|⟨x,f,z⟩
  ·exact .inl (.inl z)
  ·exact .inl Á8
  ·rw[gG,c,j]
  ·exact .inl Ú8
theorem DOk.grow{s:am}{ks:Ï}{e:Zz}{k' a c:af}{s':StL}{w:Δ}{k q:Int}(D:Ái)(hs:ÎP)(he:e∈X.L)(srt:ŝ ÊN=true)(hk:H k'=ah)(hf:H a=ah)
  (n:(ÚX/\c=ž/\k=0/\q=0)\/(e.g=ψ/\ks≠[]/\H c=ah/\YM (hdM ÃO) 8 Æf k q)) (W:Win (hdM ÃO) Æf w) (ok:Z3 (hdM ÃO) s' Æf)
  (M:#[ie,H',c,ÃO]) (kp:#[tg,X.m,e.p,H']) :
  ∃A,DTo cR cM H H' X A nd nm nm ÎQ "done":=by
 have t:ZR ÃO=Wt Àp e.n ks:=by unfold ZR YC Wt;rw[Qz,Qz];refine QU λy _=>?_;rw[k7];unfold Xi;split<;>rfl
 have h:=D.ok;have B:¬ MFp (X.m,Ĳ,c,YC X.L e.n ks k' a,s',đ,Ĥ+k,ĥ+q,w) nd:=λz=>by
  have d:=ŭ;rcases z with z|z|z|⟨x,g,z⟩
  ·exact ÓE
  ·exact Àa Á8
  ·rcases n with⟨_,i,_⟩|⟨_,_,j,_⟩
   ·exact Àa Ú9
   ·rw[jn,c,j,d]
  ·rw[eV,y,l,g];unfold Xi at z;split at z
   ·rcases z with z|z|z
    ·exact Àa #[gH,y,l]
    ·rw[jn,k',hk,d]
    ·rw[jn,a,hf,d]
   ·exact Àa #[i2,y,l]
 have g:ÊM∈ZR X.L:=Qk (f:=Ç7) he;refine((X.m,Ĳ,c,YC X.L e.n ks k' a,s',đ,Ĥ+k,ĥ+q,w),(?_,((M,by rw[Td];exact W,by rw[Td];exact ok),kp _ _ ŭ ÎO (λz=>Àa #[gH,e,he]),B,?_),rfl,λb p=>?_,λb u p v n2=>kp b u p #[hl,v] (λz=>v #[gH,e,he])))
 ·have:=Yo.grow (nb:=đ) (li:=Ĥ) (lo:=ĥ) (k:=k) (q:=q) (ks:=ks) hs g srt (by
   rcases n with⟨r,_,j,m⟩|⟨r,i,_,m⟩
   ·exact .inl (r,j,m)
   ·rw[VQ,Xs,t]at m;exact .inr (r,i,m))
  have C:Wt Àp e.n ks=ZR ÃO:=t.symm;show Yo ω ÎQ "done" (ZR ÃO,đ,Ĥ+k,ĥ+q,nm);rw[<- C];rw[wr]
 ·rw[ud,?_,h.nd]
  ·show Ä3 Ĩ=Y8 (ZR ÃO);rw[<- Xs,Td,Xs];exact ÃL
  ·rw[sP,ÃO]
 ·rcases p with z|z|z|⟨x,g,z⟩
  ·exact .inl (.inl z)
  ·exact .inl Á8
  ·rcases n with⟨_,i,_⟩|⟨_,_,j,_⟩
   ·exact .inl Ú9
   ·rw[gG,c,j]
  ·rw[eV,y,l,g];unfold Xi at z;split at z
   ·rcases z with z|z|z
    ·exact .inl #[gH,y,l]
    ·rw[gG,k',hk]
    ·rw[gG,a,hf]
   ·exact .inl #[i2,y,l]
universe E
def KsS(ks:Ï):Prop:=ō<=5/\∀x∈ks,ľ<=40/\AZ x
section
variable {cR cM cN cF cO:af} {H:Hp} {X:MS} {nd ka:af} {nm:À (am×Int)} {s:am} {ks:À am}
theorem KsS.ok(h:KsS ks):RG ks:=(Qj h.1 Å,λx hx=>(Qj (h.2 x hx).1 Å,(h.2 x hx).2))
theorem Hq{ss:Ï}(h:ŝ ss=false):∃k:Nat,WF ss ÍY:=(Zuy ss).elim (λz=>by rw[h]at z;cases z) id
theorem ZqN(nm:ſ)(s:am)(n:Int):kvN nm++[((.inr s:Key),ß n,)]=kvN (nm++[(s,n,)]):=by unfold kvN;rw[Qi];rfl
theorem DOk.nmlen(D:Ái):ÊP=(Àp).length:=by have:=#[fD,D.ok.num];unfold Y8 at this;rw[Qa,Qa]at this;exact this
theorem DOk.small(D:Ái)(B:SBd ω):(kvN nm).length<aq:=by have h:(Àp).length<=16:=B.few;unfold kvN;rw[Qa,ÎR];exact ZD Á
theorem DOk.num(D:Ái)(B:SBd ω){e:Zz}(he:e∈X.L):0<=e.n/\e.n<đ:=B.lt _ (Qk (f:=Ç7) he)
theorem DOk.nb1(B:SBd ω):đ<1000000:=by have:=B.nb1;unfold dsO at this;dsimp only at this;lia
theorem ZqA(X:MS)(nm:ſ)(s:am)(b:H ka=aa Ä2)(c:KsS ks):(∃o,Rf Àp đ H "add" (.ref ka) .non (aa o)/\Yo ω (.row s ks) "refused" ω)\/(ŝ ks=true/\ÓD<16):=by
 cases a:ŝ ks with
 | false=>obtain k|e:=Hq a;exact .inl (aa (đ,#[gk,k,1],),.inl (rfl,rfl,rfl,ka,ks,rfl,b,c.ok,e),.noRow (.inr (.inl a)))
 | true =>
  by_cases f:ÓD<16
  ·exact .inr (rfl,f)
  ·have d:16<=(Àp).length:=by unfold ZR;rw[Qa];lia
   exact .inl (ah,(rfl,rfl,ka,ks,rfl,b,c.ok,a,d),.noRow (.inr (.inr d)))
theorem Zo5(nb:Int){e:Zz}(he:e∈X.L)(hs:ÎP)(c:H ka=aa Ä2)(d:KsS ks):(∃g,Rf Àp nb H "grow" (.int e.n) (.ref ka) (aa (aa g))/\Yo ω ÎQ "refused" ω)\/ŝ ÊN=true:=by
 have b:(ÊM:ZP)∈ZR X.L:=Qk (f:=Ç7) he;cases a:ŝ (ì++ks) with
 | false=>obtain k|h:=Hq a;exact .inl ((e.n,#[gk,k,1],),.inr (rfl,_,b,rfl,rfl,ka,ks,rfl,c,d.ok,h),.noGrow (.inr (_,b,hs,a)))
 | true=>exact À3
theorem ZrB(D:Ái)(B:SBd ω){e:Zz}(he:e∈X.L)(a:H ka=aa Ä2)(b:KsS ks):ka≠e.p/\(ÊN).length<=200/\∀x∈ì++ks,ľ<=1000/\AZ x:=by
 have R:=ÎS e he;refine(λz=>(by obtain de|c:=Êy;rw[z,c]at a;cases a),?_,λx hx=>?_)
 ·have h1:ψ<=180:=B.len _ (Qk (f:=Ç7) he);have h2:=b.1;rw[Qg];lia
 ·rcases ÿ hx with hx|hx
  ·exact R.str x hx
  ·exact b.ok.2 x hx
theorem DOk.cut(D:Ái)(a:ſ):ZQ cR cM #[tn,H,nd,kvN,a] X.m Ĳ ž X.L X.s đ Ĥ ĥ (Yx X.w):=D.mg.M.keep λb o hb c=>by
 rw[Ze (λz=>by
  rcases c with y|⟨xs,rfl⟩
  ·exact Àa #[fE,z,y]
  ·rw[z,ŭ]at hb;cases hb)]
 exact hb
theorem ZpV{c:Hp}(D:Ái){e:Zz}(he:e∈X.L)(hs:ÎP){d:af}{s':StL}{w:Δ}{k q:Int}(a:#[tn,H,nd,kvN,Èe] d=ah)(W:Win Èf Èg w)(St:XD Èf s' 8 Èg)(f:YM Èf 8 Èg k q)
  (M:#[ie,c,d,Æi]) (kp:∀b o,#[tn,H,nd,kvN,Èe] b=aa o->b≠X.m->b≠Ĳ->c b=aa o):∃g,DTo cR cM H c X g nd nm Èe (.drop s) "done":=by
 refine D.drop hs he ?_ W St f M (kp _ _ Zb ÎO ÓF) λb o h i j l=>kp b o #[sE,l,h] i j;by_cases z:d=nd
 ·rw[Av,Zb,a]
 ·rw[Ze z]at a;exact a
universe E
theorem Zmb(rd:af)(nb li lo:Int)(sd:af)(a:V):#[18].lookup ("drop_row" : am)=ah:=Ào
theorem Ho(rd:af)(nb li lo:Int)(sd:af)(a:V):#[18].lookup ("grow" : am)=ah:=Ào
def Od.first:Od->am
 | .row _ _ => "row"
 | .grow _ _ => "grow"
 | .drop _ => "drop"
 | .take _ => "take"
 | .counts => "counts"
 | .coming => "coming"
 | .left => "left"
 | .rows => "rows"
def Od.sing:Od->À V
 | .row s _=>[.str s]
 | .grow s _=>[.str s]
 | .drop s=>[.str s]
 | .take n=>[.int (n:Int)]
 | .counts=>[]
 | .coming=>[]
 | .left=>[]
 | .rows=>[]
def Od.furt:Od->À V
 | .row _ ks=>Áx Ç
 | .grow _ ks=>Áx Ç
 | _=>[]
def OdW:Od->Prop
 | .row s ks=>NmS s/\KsS ks
 | .grow s ks=>NmS s/\KsS ks
 | .drop s=>NmS s
 | .take n=>FN n
 | .counts=>Μ
 | .coming=>Μ
 | .left=>Μ
 | .rows=>Μ
def dkF(m nd:af):À ÁR:=[("merge",.ref m,),("numbers",.ref nd,)]
theorem Ws(m nd:af):(dkF m nd).lookup ("merge" : am)=aa (.ref m):=by unfold dkF;exact Ûa
theorem Wr(m nd:af):(dkF m nd).lookup ("numbers" : am)=aa (.ref nd):=by unfold dkF;rw[QaF,show (("numbers" : am) == "merge")=false from by ac_rfl];exact Ûa
def Yv(g b c:af)(p:Od->Prop):Sp:=λvs H Q _=>X8 λ(d sl e h:af) (X:MS) (nd:af) (nm:À (am×Int)) (o:Od)=>C10 #[tw,e] #[tb,g,h,X.m] (¬ MFp X d) (DOk b c H X nd nm) (SBd ω) #[sG,sl,o.sing] #[sG,e,o.furt] (OdW o) (p o) (∀ (i:MS) (j:À (am×Int)) (a:am) (f:Hp),DTo b c H f X i nd nm j o a->Q (.str a) f)
theorem Zpz(T:Ø)(U:Mf P w K mg Â 14 ao "add_row" ÄP (HV K ax ao))(Y:M1f P w K mg Â 14 ao "add_row" ÄP (HE ax ao aD aH ap)) :
  Df P w K mg Â 15 "do_row" Àl Ûb:=by
 rw[ey,T.t_do_row.df,Jq,Z,p];obtain d|t|u|c|X|nd|j|o|rfl|hd|G|D|B|cT|I|hw|⟨i,ks,rfl⟩|q:=h;refine(_,#[Zc,#[h7,3,Jq.nd,ÁH],#[Zc,#[s3,inG,p,3,Ä4,ÊT],#[Zc,(@Zr1 _ _ _ _ _ _ _ _ _ _ _ _ _ _ _ _ _ _ (λaj E=>#[Zh,#[Yy,(@JI _ _ _ _ #[Uv,Y,æ,ÁI,p,Ä4,ÃG] #[Xm,U,æ,p,Ä4,ÃG]),#[WK,Ä4,‹3›,(Vf p)]]]) (λe=>ÊT) rfl ÓG rfl T.m_Full Å Å rfl Ο T.x_OutOfOrder T.x_Full rfl rfl),ÓH]]],?_);rw[iT,J,L];have x:(kvN j).length<aq:=D.small B;have y:KsS ks:=hw.2;have b:∀ {v:V} {N:Hp} {O:MS} {eV:À (am×Int)} {a:am},v=.str a->DTo ax ao H N X O nd j eV (.row i ks) a->Q v N:=λe d=>by subst e;exact q _ _ _ _ d
 rw[jo,t,cT];rcases MK j i with l|⟨n,l⟩
 ·have r:=ML l;rw[eD,c,i,r,Y7];rcases ZqA X j i I y with⟨o,hR,st⟩|⟨m,R⟩
  ·refine .inl (_,rfl,d,aB,c,_,_,rfl,hd,Α,ÁJ,Ws ..,X.m,J,_,rfl,L,HU ..,_,rfl,X.m,Ĳ,ž,X.L,X.s,đ,Ĥ,ĥ,Yx X.w,.ref u,aa o,rfl,ÂU,B.nb0,DOk.nb1 B,hR,?_);cases o with
   | none=>exact λS C=>(aH,_,rfl,T.xw_Full.cls,by simp,b rfl (Âb st C))
   | some nj=>exact λ_ S C _ _=>(ap,_,rfl,Ûc,by simp,b rfl (Âb st C))
  ·refine .inr (_,rfl,d,aB,c,_,_,rfl,hd,Α,ÁJ,Ws ..,X.m,J,_,rfl,L,HU ..,_,rfl,X.m,Ĳ,ž,X.L,X.s,đ,Ĥ,ĥ,Yx X.w,u,ks,rfl,ÂU,λe he=>(D.num B he).2,R,I,y.ok.1,y.ok.2,m,λe bD t w k q' S en ER eg hp hk hf fR W St Pl M F=>?_);obtain O|g:=D.add B l m R en ER eg hp hk hf fR W St Pl M F;have kU:=F _ _ hd #[hl,G] (λz=>G Á8);refine(_,rfl,d,aB,c,_,_,rfl,kU,Α,Ä5,Wr ..,_,rfl,nd,_,rfl,WQ.k (k:=.inr i) (F _ _ ŭ ÎO ÓF) x,?_);rw[SK _ r,ZqN];exact b rfl g
 ·have r:=MM ÎT l;rw[eD,c,i,r,Y3];exact b rfl (Âb (.noRow (.inl (_,l,rfl))) Æc)
theorem ZoR(T:Ø)(I:#[fa,14,"grow",ÇE,HP])(J:M1f P w K mg Â 14 ao "grow" ÇE (HD ax ao aD aH ap)) :
  Df P w K mg Â 15 "do_grow" Àl Ûd:=by
 rw[ey,T.t_do_grow.df,Jp,L,m];obtain d|r|t|b|X|nd|u|o|rfl|hd|js|D|B|N|x|hw|⟨j,ks,rfl⟩|q:=h;refine(_,#[Zc,#[h7,3,Jp.nd,ÁH],#[Zc,#[s3,TU,m,3,Ä4,ÊT],#[Zc,(@Zr7 _ _ _ _ _ _ _ _ _ _ _ _ (λaj E=>#[Zh,#[ZO,(@JI _ _ _ _ #[Uv,J,æ,ÁI,m,Ä4,Ûe] #[Xm,I,æ,m,Ä4,Ûe])]]) (λe=>ÊT) Ο rfl ÓG T.x_OutOfOrder rfl Å),ÓH]]],?_);rw[iT,y,z];have C:KsS ks:=hw.2;have c:∀ {v:V} {F:Hp} {G:MS} {O:À (am×Int)} {a:am},v=.str a->DTo ax ao H F X G nd u O (.grow j ks) a->Q v F:=λe d=>by subst e;exact q _ _ _ _ d
 rw[jo,r,N];rcases MK u j with i|⟨n,i⟩
 ·have p:=ML i;rw[eD,b,j,p,Y3];exact c rfl (Âb (.noGrow (.inl i)) Æc)
 ·have p:=MM ÎT i;obtain e|l|rfl:=D.rows i;rw[eD,b,j,p,Y7];rcases Zo5 đ l i x C with⟨R,S,st⟩|hsr
  ·refine .inl (_,rfl,d,aB,b,_,_,rfl,hd,Α,ÁJ,Ws ..,X.m,y,_,rfl,z,Ho ..,_,rfl,d,aB,b,_,_,rfl,hd,Α,Ä5,Wr ..,_,rfl,nd,_,rfl,Àn (k:=.inr j) ŭ p,_,rfl,X.m,Ĳ,ž,X.L,X.s,đ,Ĥ,ĥ,Yx X.w,.int e.n,.ref t,aa (aa R),rfl,ÂU,(λe l=>by have:=D.num B l;have:=DOk.nb1 B;lia),S,?_);exact λ_ U Y _ _=>(ap,_,rfl,Ûc,by simp,c rfl (Âb st Y))
  ·obtain Z|g2|g3:=ZrB D B l x C;refine .inr (_,rfl,d,aB,b,_,_,rfl,hd,Α,ÁJ,Ws ..,X.m,y,_,rfl,z,Ho ..,_,rfl,d,aB,b,_,_,rfl,hd,Α,Ä5,Wr ..,_,rfl,nd,_,rfl,Àn (k:=.inr j) ŭ p,_,rfl,X.m,Ĳ,ž,X.L,X.s,đ,Ĥ,ĥ,X.w,e,t,ks,rfl,ÂU,D.mg.W,D.mg.ok,l,x,Z,g2,hsr,g3,λk' f' bD r w k q' U hk hf y4 W ok M kp=>?_);obtain G|g:=D.grow i l hsr hk hf y4 W ok M kp;exact c rfl g
theorem Zox(T:Ø)(y:#[fa,14,"drop_row",ÁD,HS]) :
  Df P w K mg Â 15 "do_drop" Ĺ (Yv aB ax ao λo=>∃s,o=.drop s):=by
 rw[ey,T.t_do_drop.df,Jo,z,r];obtain d|m|C|c|X|nd|p|o|rfl|hd|js|D|B|F|gS|hw|⟨i,rfl⟩|q:=h;refine(_,#[Zc,#[h7,3,Jo.nd,ÁH],#[Zc,#[s3,TU,r,3,Ģ,ÊT],#[Zc,#[ZO,#[Xm,y,æ,r,Ģ,#[Zd,#[YF,K,Q9,ÑP,ÚV,Ke,Ģ,Áf]]]],ÓH]]],?_);rw[iT,G,I];have j:∀ {v:V} {t:Hp} {u:MS} {J:À (am×Int)} {a:am},v=.str a->DTo ax ao H t X u nd p J (.drop i) a->Q v t:=λe d=>by subst e;exact q _ _ _ _ d
 rw[jo,m,F];rcases MK p i with b|⟨n,b⟩
 ·have l:=ML b;rw[eD,c,i,l,Y3];exact j rfl (Âb (.noDrop b) Æc)
 ·have l:=MM ÎT b;obtain e|x|rfl:=D.rows b;rw[eD,c,i,l,Y7];refine(_,rfl,d,aB,c,_,_,rfl,hd,Α,ÁJ,Ws ..,X.m,G,_,rfl,I,Zmb ..,_,rfl,d,aB,c,_,_,rfl,hd,Α,Ä5,Wr ..,.inr #[hp,ŭ],_,rfl,nd,_,.inr i,_,rfl,rfl,ŭ,l,?_);rw[ZpX];refine(X.m,Ĳ,ž,X.L,X.s,đ,Ĥ,ĥ,Yx X.w,e,rfl,D.cut _,x,λbD m w k q' H1 L W St N M O=>?_);obtain u|g:=ZpV D x b L W St N M O;exact j rfl g
theorem MI{i:Int}(h:ÈT<=100000000):Çg Åj=true/\(aQ.int i).intsShort 13=true/\(aQ.int i).showable=true/\(Xh i).length<=13:=by
 have hl:Òn<30:=by
  by_cases z:ÈT=0
  ·rw[z];decide
  ·exact QB (#[qG].mpr (Qax h (show 100000000<2 ^ 27 by decide))) Å
 have a:Ûf:=by rw[QaQ];exact #[h5,10]
 refine(?_,by simp only[aQ.intsShort,Ãs];exact a,?_,a)
 ·rw[a9];split<;>lia
 ·rw[uW];lia
theorem Zps(x y:am):Ád " " [x,y]=x ++ " "++y:=by
 have e:Ád ÎU [x,y]=ÀX " " [x,y]:=by simpa using Íu ÎU [x,y]
 rw[e];rfl
def RE(K:Ä):Sp:=λvs H Q _=>X2 λ(l:af) (ns:À Int)=>C5 #[gh,l] (SqL K H l Τ) #[sv,1000] ((∀n∈ns,ÎK<=100000000)) (∀a,Zu H a->Q (.str (blT ÎV)) a)
theorem ZpT(T:Ø)(C:ÎW):Df P w K mg Â 2 "written_numbers" ÄN (RE K):=by
 rw[ey,T.t_written_numbers.df,ZfM,F,m];obtain l|b|rfl|p|t|u|q:=h;refine(_,#[Zh,#[Zl,#[ZG,C,m,#[Zd,#[W0,NW,#[iL,K,‹0›],#[gj,1,NW],γ,(λ_ _ _ _=>#[Xx,(SU K m),ÊU,ÊV,#[Zd,#[cw,1,NW]]])]],Ë]]],?_);refine(_,rfl,l,rfl,(_,p),λD z=>?_);refine Vw (K:=K) (a:=l) (xs:=ÂJ ß) (λi zs j c=>(∃v:Ã V,j=[aa Ŋ,v])/\zs=((b.take i).map Xh).map Ç/\i<=Ň/\c D=aa Ε/\Zu H c) ?_ (λ_ _ _ _ h=>h.2.2.2.2.seq p) ?_ ?_
 ·exact#[fn,z]
 ·rintro i y zs j c d ⟨⟨v,rfl⟩,rfl,hi,g,k⟩;rw[Qr]at d;cases e:b[i]? with
  | none=>rw[e]at d;cases d
  | some x =>
  rw[e5,e,d,G,Ň];obtain I|J|L|g4:=MI (u x (Qm e));refine(_,rfl,_,.int x,rfl,.int x,I,J,L,g,(by rw[Qa,Qa,Qx,aO];lia),ā,?_,G,Zb,λM o B=>?_)
  ·rw[QI,e,Qi,Qi];rfl
  ·rw[Ze (Zg B z)];exact k M o B
 rw[hM,j,c,v,g,k];rw[Aa,Qa,g];refine(D,ÂJ Xh,rfl,É g,?_,q c k);have:∀l:À Int,(∀n∈l,ÎK<=100000000)->((Á1 Xh).map ÃN).sum<=13*İ:=λl=>by
  induction l with
  | nil=>intro _;exact Qd _
  | Ñ a r N=>intro h;have h1:=(MI (h a Ù)).2.2.2;have h2:=#[tK,N,n,t];rw[Qh,Qh,QP,QE];lia
 have:=this b u;rw[Qa];lia
theorem ZjP(T:Ø)(i:#[fa,1,"likenings",ö,IH])(j:#[fa,1,"looks",ö,IG])(k:ÓI) :
  Df P w K mg Â 15 "ask_counts" Ĺ (Yv aB ax ao λo=>o=.counts):=by
 rw[ey,T.t_ask_counts.df,ZiL,m,a];rw[gI,p,r,b,c];refine(_,#[Zh,#[Zl,#[ZG,k,a,#[Zd,#[Z2,#[Zd,#[jp,i,a],#[jp,j,a]]]],Ë]]],?_);rw[iT,e,g];refine(_,rfl,d,aB,b,_,_,rfl,hd,Α,ÁJ,Ws ..,X.m,e,_,rfl,g,Zhh ..,X.m,Ĳ,ž,X.L,X.s,đ,Ĥ,ĥ,_,rfl,ÂU,_,rfl,d,aB,b,_,_,rfl,hd,Α,ÁJ,Ws ..,X.m,e,_,rfl,g,ZkN ..,X.m,Ĳ,ž,X.L,X.s,đ,Ĥ,ĥ,_,rfl,ÂU,Ť,λl t=>?_);have u:=Zf t (.lst #[fY,Ĥ,ĥ]);refine⟨l,[Ĥ,ĥ],rfl,É Zb,#[eJ,2,1000],(λn hn=>by
  rcases î hn with rfl|hn
  ·exact B.li
  ·rw[ó hn];exact B.lo),λv x=>?_⟩
 rw[show blT ([Ĥ,ĥ].map Xh)=Xh Ĥ ++ " "++Xh ĥ from Zps _ _];exact q X c _ v (Âb .counts (u.trans x))
theorem RD{nm:ſ}(nd:#[sq].Nodup){s:am}{n:Int}(h:(s,n,)∈nm):YB nm n=s:=by
 unfold YB;cases a:nm.find? λx=>decide (x.2=n) with
 | none=>exact Î (û rfl) (List.find?_eq_none.mp a _ h)
 | some y =>
  have b:=QaA a;have c:y.2=n:=by have:=ÑY;simpa using this
  rw[MP nd b h c];rfl
theorem inl_nd'{nm:ſ}(nd:#[sq].Nodup):(Ä3 (ċ ∘ λe:am×Int=>((.inl e.2:Key),Ç e.1,))).Nodup:=by have:=IT nd;rw[Qz]at this;exact this
def MH(K:Ä)(b:af):Sp:=λvs H Q _=>X7 λ(d c m nd hl:af) (nm:À (am×Int)) (hs:À (af×Int×Ã am))=>C11 #[it,d,hl] #[tb,b,c,m] (H nd=aa #[sN,nm]) (ÊP<=20) (#[sq].Nodup) Ûg (H hl=aa #[iQ,hs.map,h,h.1]) ((∀h∈hs,H h.1=aa (.tup [.int h.2.1,oV h.2.2]))) (hs.length<=1000) ((∀h∈hs,(∃s,(s,h.2.1,)∈nm)/\∀x,h.2.2=aa x->ľ<=1000)) (∀l a,H l=ah->a l=aa (.lst (hs.map λh=>Ç Ûh))->Zu H a->Q Ŋ a)
theorem ZoF(T:Ø)(fK:Df P w K mg Â 2 "written_thing" Êi Hy):Df P w K mg Â 3 "written_heads" ÒI (MH K aB):=by
 rw[h6,T.t_written_heads.df,Jn];obtain d|dd|m|nd|M|c|I|rfl|hd|Y|CA|Z|ES|N|hht|cT|lR|q:=h;refine(_,#[Zc,#[Zq,2,Jn.nd,És,(@Pt _ _ _ (@Zp8 _ _ _ _ _ _ _ _ _ _ _ _ _ _ _ _ Tv rfl rfl rfl ÚB #[fb,3,Tv,4] γ (λ_ _ _ _=>#[cw,4,Tv]) (λ_ _ _ _=>#[cw,3,Tv]) (by intro _;rfl)))],#[Zh,#[Zl,#[W0,U8,ÓJ,#[fb,3,U8,4],γ,(λ_ _ _ _=>#[ZG,fK,hr,#[Zd,#[ZA,(ixG hr),#[cv,2,U8],#[cw,3,U8]],#[cw,4,U8]],#[tD,U8]])]]]],?_);refine(nd,.dK (kvN c),Y,Àc,_,rfl,d,aB,dd,_,_,rfl,hd,Α,Ä5,Wr ..,nd,_,rfl,Y,λo D S=>?_);have U:D≠nd:=λz=>by rw[z,Zb]at S;cases S
 have Bc:H D=ah:=by rw[Ze U]at S;exact S
 refine Zs1 (λi W t r=>(X2 λB C:Ã V=>t=[aa Âa,aa (.ref M),ah,B,C])/\W=kvI (c.take i)/\i<=ë/\r D=aa (.dK W)/\r nd=aa (.frz o #[sN,c])/\∀b u,H b=aa u->b≠nd->r b=aa u) ((ah,ah,rfl),rfl,Qp _,Zb,#[sE,U.symm,Zb],λb u g n=>(by rw[Ze (Zg g Bc),Ze n];exact g)) (λ_ _ _ _ h=>h.2.2.2.2.1) ?_ ?_
 ·rintro i k x W t r p J ⟨⟨B,C,rfl⟩,rfl,hi,F,gO,k2⟩ hp;rw[Ak,kvN,J];cases l:c[i]? with
  | none=>rw[l]at J;cases J
  | some e =>
  rw[e5,l,J,dP,ë];have kp:∀b u,r b=aa u->(upd r p (.tup [.str e.1,.int e.2])) b=aa u:=λb u g=>by rw[Ze (Zg g hp)];exact g
  have hv:YW (kvI (c.take i)) (.inl e.2)=ah:=by
   cases hv:YW (kvI (c.take i)) (.inl e.2) with
   | none=>rfl
   | some v =>
    obtain y|G|z:=Ι (TR hv);injection z with z _;rw[sX,j,hj,ej,Öt,G];rw[Qx]at hj;rw[List.getElem_take]at ej;have h1:(Ŝ Ĩ)[j]? = aa e.2:=by rw[Qr,Qb Á,ej];exact ħ aa Îd
    have h2:(Ŝ Ĩ)[i]? = aa e.2:=by rw[Qr,l];rfl
    have:=(List.getElem?_inj #[fH,Qa] Z).mp (h1.trans h2.symm);lia
  refine(p,_,rfl,þ Zb,rfl,_,_,rfl,_,_,rfl,rfl,_,rfl,_,rfl,.inl e.2,rfl,kp _ _ F,(by unfold kvI;rw[Qa,Qx];exact ZD Á),ÊC,?_,dP,Zb,?_,λb u g n=>?_)
  ·rw[SK _ hv,QI,l];unfold kvI;rw[Qi];rfl
  ·rw[Ze U.symm];exact kp _ _ gO
  ·rw[Ze (Zg g Bc)];exact kp _ _ (k2 b u g n)
 ·rintro W t r ⟨⟨B,C,rfl⟩,rfl,hi,F,gO,k2⟩;rw[ud,o,gO];have L:Zu H #[tn,r,nd,kvN,c]:=λb u g=>by
   by_cases z:b=nd
   ·rw[z]at g ⊢;rw[gv,Y,g,g];exact Zb
   ·rw[Ze z];exact k2 b u g z
  have ig:#[tn,r,nd,kvN,c] D=aa (.dK (kvI c)):=by rw[Ze U,F];unfold kvN;rw[Qa,Qy ò]
  generalize upd r nd (.dK (kvN c))=H3 at L ig ⊢;refine(_,rfl,M,rfl,(_,É (L _ _ N)),λD2 F=>?_);refine Vw (K:=K) (a:=M) (xs:=I.map λh=>ø h.1) (λi zs t O=>(X2 λB C:Ã V=>t=[aa Âa,aa (.ref M),aa Ū,B,C])/\zs=(I.take i).map (λh=>Ç (thO (YB c h.2.1) h.2.2))/\i<=I.length/\O D2=aa Ε/\Zu H3 O) ((ah,ah,rfl),rfl,Qp _,Zb,Zf F _) (λ_ _ _ _ h=>É (h.2.2.2.2 _ _ (L _ _ N))) ?_ ?_
  ·rintro i y zs t O G ⟨⟨B,C,rfl⟩,rfl,hi,X,R⟩;rw[Qr]at G;cases l:I[i]? with
   | none=>rw[l]at G;cases G
   | some x =>
   rw[e5,l,G,dP,I.length];have hx:=Qm l;obtain ⟨s,y8⟩|iB:=lR x hx;have hnm:YB c x.2.1=s:=RD Z y8;have hvI:YW (kvI c) (.inl x.2.1)=aa (.str s):=Ps (by unfold kvI;rw[Qz];exact inl_nd' Z) (Qk (f:=λe:am×Int=>((.inl e.2:Key),Ç e.1,)) y8);refine(x.1,_,rfl,þ (R _ _ (L _ _ (hht x hx))),rfl,_,_,rfl,_,_,rfl,rfl,_,rfl,_,rfl,D,_,rfl,Àn (k:=.inl x.2.1) (R _ _ ig) hvI,_,rfl,s,x.2.2,rfl,(by have h8:ÎX:=ES _ y8;lia),iB,X,(by rw[Qa,Qx,aO];lia),ÊC,?_,dP,Zb,λb u g=>?_)
   ·rw[QI,l,Qi];show _=_++[Ç (thO (YB c x.2.1) x.2.2)];rw[hnm]
   ·rw[ik,g,F,R,u]
  ·rintro zs t O ⟨⟨B,C,rfl⟩,rfl,_,X,R⟩;rw[Aa,Qa,X];exact q D2 O (L.free F) X (L.trans R)
def MG(K:Ä)(c:af):Sp:=λvs H Q _=>X7 λ(d f m nd b:af) (nm:À (am×Int)) (ts:À (af×Yf))=>C11 #[it,d,b] #[tb,c,f,m] (H nd=aa #[sN,nm]) (ÊP<=20) (#[sq].Nodup) Ûg (H b=aa #[iQ,À9,t,t.1]) ((∀t∈ts,H t.1=aa #[gi,t.2.1,t.2.2.1,t.2.2.2])) (Φ<=1000) ((∀t∈ts,(∃s,(s,t.2.1,)∈nm)/\t.2.2.2.length<=1000)) (∀l a,H l=ah->a l=aa (.lst (À9 λt=>Ç (thT (YB nm t.2.1) t.2.2.2)))->Zu H a->Q Ŋ a)
theorem Zmg(T:Ø)(Y:Ûi):Df P w K mg Â 4 "written_things" ÇF (MG K aB):=by
 rw[ey,T.t_written_things.df,Zgq,Z,hr];obtain d|N|m|nd|B|F|j|rfl|hd|je|CA|y6|ES|O|jt|htz|R|q:=h;refine(_,#[Zh,#[Zl,#[ZG,Y,hr,#[Zd,‹0›,#[W0,Ur,ÓJ,(λ_ _ _ _=>#[gT,K,3,#[Zp,#[cg,2,Ur],#[Zp,#[cg,3,Ur],#[Zp,#[cg,4,Ur],Èh]]]]),γ,(λ_ _ _ _=>#[ZS,#[ub,2,Ur,4]])]],Ë]]],?_);refine(_,rfl,_,rfl,B,rfl,#[sK,O],λD S=>?_);refine Vw (K:=K) (a:=B) (xs:=Ãn λt=>ø t.1) (λi zs G o=>(X3 λI J L:Ã V=>G=[aa Âa,aa Ãy,I,J,L])/\(∃c:À (af×Int×Ã am),zs=Ŝ (λu=>ø u.1)/\Ŝ Ĩ=(j.take i).map Ûj/\∀u∈c,u.1≠D/\o u.1=aa (.tup [.int u.2.1,oV u.2.2]))/\i<=ÀR/\o D=aa Ε/\Zu H o) ((ah,ah,ah,rfl),([],rfl,rfl,λu hu=>by cases hu),Qp _,Zb,Zf S _) #[gd,O] ?_ ?_
 ·rintro i y zs G o p ⟨⟨I,J,L,rfl⟩,⟨c,rfl,k,M⟩,hi,C,n⟩;rw[Qr]at p;cases r:j[i]? with
  | none=>rw[r]at p;cases p
  | some x =>
  rw[e5,r,p,dP,ÀR];have U:ë=i:=by have:=#[fD,k];rw[Qa,Qa,Qx]at this;lia
  refine(x.1,_,rfl,þ (n _ _ (jt x (Qm r))),rfl,_,_,rfl,_,_,rfl,_,_,rfl,rfl,_,rfl,_,rfl,Ť,λt g=>?_);have v:t≠D:=λz=>by rw[z,C]at g;cases g
  refine(Zf g _ _ _ C,(by rw[Qa,U];exact ZD Á),ÎY,(c++[(t,x.2.1,aa x.2.2.2,)],by rw[Qi];rfl,?_,λu hu=>?_),dP,Zb,λb u W=>?_)
  ·rw[QI,r,Qi,Qi,k];rfl
  ·rcases ÿ hu with hu|hu
   ·obtain X|g2:=M u hu;exact(X,by rw[Ze X];exact Zf g _ _ _ g2)
   ·rw[ó hu];exact(v,by rw[Ze v];exact Zb)
  ·rw[Ze (Zg W S)];exact Zf g _ _ _ (n b u W)
 ·rintro zs G o ⟨⟨I,J,L,rfl⟩,⟨c,rfl,k,M⟩,_,C,n⟩;rw[Aa,Qa,k];have nW:∀u∈c,∃t∈j,t.2.1=u.2.1/\aa t.2.2.2=u.2.2:=λu hu=>by
   have:u.2∈Ãn Ûj:=by rw[<- k];exact Qk (f:=Ûk) hu
   obtain t|g|e:=ÊR;exact(t,g,by rw[<- e],by rw[<- e])
  have U:ë=ÀR:=by have:=#[fD,k];rw[qV]
  refine(d,N,m,nd,D,F,c,rfl,n _ _ hd,n _ _ je,CA,y6,ES,C,λu hu=>(M u hu).2,by lia,λu hu=>?_,λl H5 hl h5 s5=>?_)
  ·obtain t|g|e1|e2:=nW u hu;rw[<- e1,<- e2];exact((R t g).1,λx hx=>by cases hx;exact(R t g).2)
  ·refine q l H5 (n.free hl) ?_ (n.trans s5);rw[h5];have:=ħ (List.map λy:Int×Ã am=>Ç (thO (YB F y.1) y.2)) k;rw[Qz,Qz]at this;exact ħ (λz=>aa (HO.lst z)) this
theorem Hn{P:Ī}(h1:Éa<=16)(h2:∀x∈P,x.2.1.length<=180):ZZ P<=2880:=by
 unfold ZZ;have:∀l:À ZP,(∀x∈l,x.2.1.length<=180)->(Á1 λx=>x.2.1.length-x.2.2).sum<=180*İ:=λl=>by
  induction l with
  | nil=>intro _;exact Qd _
  | Ñ a r b=>intro h;have h1:=h a Ù;have h2:=#[tK,b,x,c];rw[Qh,QP,QE];lia
 have:=this P h2;lia
theorem Ye.rowOf{P b:Ī}{ts:Á9}{k q:Int}(h:Ye P ts b k q):∀x∈b,∃y∈P,y.2.1=x.2.1:=by
 induction h with
 | nil=>intro x a;exact(x,a,rfl)
 | snoc _ _ c=>intro x a;rw[eV,w,hw,a];obtain y|d|e:=c w hw;rw[ud,y,d];unfold VR;split<;>exact e
theorem Ye.key{P a:Ī}{ts:Á9}{k q:Int}(h:Ç6):∀t∈ts,t.1∈Y8 P/\∃x∈P,t.2.2∈x.2.1:=by
 induction h with
 | nil=>intro t ht;cases ht
 | snoc h s b =>
  rename_i ts P1 x z k q k1 q1;intro t ht;rcases ÿ ht with ht|ht
  ·exact b t ht
  ·rw[ó ht];obtain y|c|e:=h.rowOf x s.1;exact(by rw[<- ÃL];exact Qk (f:=Æd) s.1,y,c,by rw[e];exact Qm s.2.1)
theorem DOk.took{f g:af}{H h:Hp}{X:MS}{nd:af}{nm:ſ}(D:DOk f g H X nd nm){n:Nat}{ts:Á9}{a:ù}{s':StL}{c:Δ}{k q:Int}(d:Ye Àp ts (ZR a) k q)(h1:Ç8<(n:Int)->c=ah)(h2:ts≠[]->Ç8<=(n:Int))
  (M:ZQ f g h X.m Ĳ ž a s' đ (Ĥ+k) (ĥ+q) (Yx c)) (W:Win (hdM a) (ZC a) c) (ok:Z3 (hdM a) s' (ZC a)) (fp:∀b,Fp X.m Ĳ ž a b↔Fp X.m Ĳ ž X.L b) (kp:∀b o,H b=aa o->¬ Fp X.m Ĳ ž X.L b->h b=aa o) :
  ∃j,DTo f g H h X j nd nm nm (.take n) (blT (À9 λt=>thT (YB nm t.1) t.2.2)):=by
 have l:=ZqW (Zsb D.mg) d h1 h2 W (λx m=>by obtain e|p|rfl:=Ι m;exact(ÀZ e p).le);refine((X.m,Ĳ,ž,a,s',đ,Ĥ+k,ĥ+q,c),.take d l,((M,W,ok),kp _ _ ŭ Àa,λz=>Àa ((fp nd).mp z),(?_,ÎT,?_)),rfl,λb i=>.inl ((fp b).mp i),λb u i r _=>kp b u i r)
 ·show Ä3 Ĩ=Y8 (ZR a);rw[d.num];exact D.ok.num
 ·show (Y8 (ZR a)).Nodup;rw[d.num];exact D.ok.ndP
theorem ZlX(T:Ø)(U:Mf P w K mg Â 7 ao "take_few" ÍC (HW K ax ao))(Y:Ûl)(Z:ÎW) :
  Df P w K mg Â 15 "ask_take" Ĺ (Yv aB ax ao λo=>∃n,o=.take n):=by
 rw[ey,T.t_ask_take.df,ZkY,vs,p];obtain d|G|fl|v|X|nd|nm|o|rfl|hd|js|D|B|cT|gS|hw|⟨n,rfl⟩|q:=h;refine(_,#[Zh,#[Zl,#[ZG,Z,p,#[Zd,#[ZG,Y,p,#[Zd,‹0›,#[Xm,U,æ,p,Ģ,#[Zd,ÁH]]],Ë]],Ë]]],?_);rw[iT,dx,hm];have rJ:=Hn B.few B.len;refine(_,rfl,_,rfl,d,aB,v,_,_,rfl,hd,Α,ÁJ,Ws ..,X.m,dx,_,rfl,hm,Zof ..,_,rfl,G,_,_,_,rfl,rfl,É cT,rfl,X.m,Ĳ,ž,X.L,X.s,đ,Ĥ,ĥ,X.w,(n:Int),rfl,ÂU,D.mg.W,D.mg.ok,Qj rJ Å,λrr b L' s' w' k q' H1 hrr c wU C i vj M W ok fp I=>?_);obtain X'|g:=D.took C #[eH,Qa,i] (by rw[Qa];exact λz=>vj λy=>z #[tr,y]) M W ok fp I;have kU:=I _ _ hd js;have A8:Ň<=180:=by have h1:=C.tk.left D.ok.ndP;have J:ZZ Àp<=180:=B.tot;rw[Qa]at h1;have h3:(ω).P=ZR X.L:=rfl;lia
 have L:ÓK:=λe he=>(B.nmz e he).2;have N:∀u∈b,ÓL/\u.2.2.2.length<=1000:=λu F=>by obtain g1|x|hx|g2:=C.key u.2 (Qk (f:=λu:af×Yf=>u.2) F);rw[sX,y,hy,e,Ι,g1];obtain s|m:=D.ok.has (show y∈(ω).P from hy);rw[eV,z,hz,hx];exact((s,by rw[<- e];exact m),((ÎS z hz).str _ g2).1)
 refine(d,v,X.m,nd,rr,nm,b,rfl,kU,g.D.at',(by rw[ÎR];exact Qj B.few Å),Æj,L,c,wU,Á,N,λl O hl J s2=>?_);have R:(ÂJ Ĩ).map (λt:Yf=>thT (YB nm t.1) t.2.2)=ÂJ λu=>thT (YB nm u.2.1) u.2.2.2:=by rw[Qz];rfl
 rw[R]at g;have j:=q X' nm _ O (g.same s2);clear q;generalize S:(ÂJ λu=>thT (YB nm u.2.1) u.2.2.2)=ws at j g R;have DD:O l=aa #[iI,ÅX]:=by rw[<- S,Qz];exact J
 refine(l,ws,rfl,É DD,?_,j);rw[<- S];have e1:ÎM:=by ac_rfl
 have:∀l:À (af×Yf),(∀u∈l,ÓL/\u.2.2.2.length<=1000)->((Á1 λu=>thT (YB nm u.2.1) u.2.2.2).map ÃN).sum<=1010*İ:=λl=>by
  induction l with
  | nil=>intro _;exact Qd _
  | Ñ a r ih =>
   intro h;obtain ⟨s,m⟩|h3:=h a Ù;have ih':=#[tK,ih,u,F];have h8:ÎX:=L _ m;have h4:=RF a.2.2.2;have h5:(thT (YB nm a.2.1) a.2.2.2).length<=1010:=by rw[RD (nm:=nm) Æj m];unfold thT;rw[QS,QS];lia
   rw[Qh,Qh,QP,QE];lia
 have:=this b N;rw[Qa];lia
theorem Zmn(T:Ø)(g:#[fa,2,"left",ö,IF]):Df P w K mg Â 15 "ask_left" Ĺ (Yv aB ax ao λo=>o=.left):=by
 rw[ey,T.t_ask_left.df,Zly,j,a];rw[gI,k,l,b,c];refine(_,#[Zh,#[Zl,#[Xx,(SU K a),ÊU,ÊV,#[Zd,#[jp,g,a]]]]],?_);rw[iT,m,n];have rJ:ZZ Àp<=2880:=Hn B.few B.len;obtain p|r|t|g4:=MI (i:=((ZZ Àp:Nat):Int)) Á;refine(_,rfl,d,aB,b,_,_,rfl,hd,Α,ÁJ,Ws ..,X.m,m,_,rfl,n,Zmi ..,X.m,Ĳ,ž,X.L,X.s,đ,Ĥ,ĥ,_,rfl,ÂU,λu v=>?_);rw[ZuP λe x=>(ÎS e x).le];exact(_,.int _,rfl,.int _,p,r,t,q X c _ u (Âb .left v))
theorem Zl2(T:Ø)(L:#[fa,3,"heads",ö,ID])(M:Ûi)(N:ÎW):Df P w K mg Â 15 "ask_rows" Ĺ (Yv aB ax ao λo=>o=.rows):=by
 rw[ey,T.t_ask_rows.df,ZkM,O,k];rw[gI,R,S,m,nm];refine(_,#[Zh,#[Zl,#[ZG,N,k,#[Zd,#[ZG,M,k,#[Zd,‹0›,#[jp,L,k]],Ë]],Ë]]],?_);rw[iT,U,W];refine(_,rfl,_,rfl,d,aB,m,_,_,rfl,hd,Α,ÁJ,Ws ..,X.m,U,_,rfl,W,Zk6 ..,X.m,Ĳ,ž,X.L,X.s,đ,Ĥ,ĥ,_,rfl,ÂU,λl H1 hl Y n=>?_);obtain c|i|Z|p:=Y;have e0:Uj (X.L.map toL)=(Àp).map λx:ZP=>(x.1,x.2.1[x.2.2]?,):=by unfold Uj ZR;rw[Qz,Qz];rfl
 rw[e0]at i;have C:ÓK:=λe he=>(B.nmz e he).2;have uY:ë=(Àp).length:=by have:=#[fD,i];rw[qV]
 have iR:(Àp).length<=16:=B.few;have nW:∀u∈c,∃x∈ZR X.L,x.1=u.2.1/\x.2.1[x.2.2]? = u.2.2:=λu g=>by
  have:u.2∈(Àp).map λx:ZP=>(x.1,x.2.1[x.2.2]?,):=by rw[<- i];exact Qk (f:=Ûk) g
  obtain x|b|e:=ÊR;exact(x,b,by rw[<- e],by rw[<- e])
 have hk:∀u∈c,ÓL/\∀x,u.2.2=aa x->ľ<=1000:=λu g=>by obtain x|b|F|G:=nW u g;rw[oL];refine((s,by rw[<- F];exact j),λy I=>?_);rw[(I)]at G;rw[eV,z,t,b];exact#[uu,z,t,G].1
 have e3:Ŝ (λh=>Ç Ûh)=(VP Àp nm).map Ç:=by have:=ħ (List.map λy:Int×Ã am=>Ç (thO (YB nm y.1) y.2)) i;rw[Qz,Qz]at this;unfold VP;rw[Qz];rw[wr]
 refine(d,m,X.m,nd,l,nm,c,rfl,n _ _ hd,n _ _ ŭ,#[fH,ÎR],Æj,C,Z,p,Á,hk,λl2 H2 fB J s2=>?_);rw[e3]at J;have F:ÎM:=by ac_rfl
 have AD:(":." : am).length=2:=by ac_rfl
 have v:=q X nm _ H2 (Âb .rows (n.trans s2));have Co:((VP Àp nm).map ÃN).sum<=1010*(Àp).length:=by
  have:∀P:À ZP,(∀x∈P,(thO (YB nm x.1) x.2.1[x.2.2]?).length<=1010)->((VP P nm).map ÃN).sum<=1010*Éa:=λP=>by
   induction P with
   | nil=>intro _;exact Qd _
   | Ñ a r ih=>intro h;have h5:=h a Ù;have h6:=#[tK,ih,u,g];unfold VP at h6 ⊢;rw[Qh,Qh,QP,QE];lia
  refine this _ λx b=>?_;rw[oL];have h8:ÎX:=C _ j;rw[RD (nm:=nm) Æj j];cases hg:x.2.1[x.2.2]? with
  | none=>show (s ++ ":.").length<=1010;rw[QS];lia
  | some y=>obtain z|t|rfl:=Ι b;have I:=#[uu,z,t,hg].1;have h4:=RF y;show (thT s y).length<=1010;unfold thT;rw[QS,QS];lia
 have El:(VP Àp nm).length=(Àp).length:=by unfold VP;rw[Qa]
 exact(l2,VP Àp nm,rfl,É J,by rw[El];lia,v)
theorem Zkg(T:Ø)(N:ÚP)(O:Ûl)(R:ÎW):Df P w K mg Â 15 "ask_coming" Ĺ (Yv aB ax ao λo=>o=.coming):=by
 rw[ey,T.t_ask_coming.df,Jm,S,b];rw[gI,U,V,j,nm];refine(_,#[Zc,#[Zq,3,Jm.nd,á,#[jp,N,b]],#[Zh,#[Zl,#[ZG,R,b,#[Zd,#[ZG,O,b,#[Zd,‹0›,#[Yb,#[gF,3],Èi,#[Z2,Áf]]],Ë]],Ë]]]],?_);rw[iT,W,Y];have n:ÓK:=λe k=>(B.nmz e k).2;have J:ÊP<=20:=by rw[ÎR];exact Qj B.few Å
 refine(_,rfl,d,aB,j,_,_,rfl,hd,Α,ÁJ,Ws ..,X.m,W,_,rfl,Y,IB ..,X.m,Ĳ,ž,X.L,X.s,đ,Ĥ,ĥ,X.w,rfl,ÂU,D.mg.W,λx H1 Z g=>?_);rcases Z with⟨rfl,l⟩|⟨t,e0,z,rfl,p,hz,ht,m⟩
 ·refine(_,rfl,_,rfl,rfl,_,rfl,Xu rfl #[sC,r,b]);have a:=Zf b ÀB;refine(d,j,X.m,nd,r,nm,[],rfl,a _ _ (g _ _ hd),a _ _ (g _ _ ŭ),J,Æj,n,Zb,#[fk,u,c],Å,#[fk,u,c],λv y fB C F=>?_);have l:Win (hdM X.L) Æf ah:=by rw[<- Uk];exact l
  rw[VQ,Xs]at l;exact(v,[],rfl,É C,by decide,q X nm _ y (Âb (.comNo l) ((Èz a).trans F)))
 ·rw[eV,e,k,p];have L:(ÊM:ZP)∈ZR X.L:=Qk (f:=Ç7) k;obtain s|G:=D.ok.has (show (ÊM:ZP)∈(ω).P from L);have M:ì[e.g]? = aa z:=hz;have EU:=#[uu,e,k,M].1;have m:Win (hdM X.L) Æf (aa e.n):=by rw[<- Uk];exact m
  rw[VQ,Xs]at m;have i:Win (hdP Àp) (Y8 Àp) (aa e.n):=m;refine(_,rfl,_,rfl,rfl,_,rfl,XS Ác (_,rfl,Æk,λr b=>?_));have a:=Zf b #[tL,t];refine(d,j,X.m,nd,r,nm,[(t,(e.n,e.g,z,),)],rfl,a _ _ (g _ _ hd),a _ _ (g _ _ ŭ),J,Æj,n,Zb,(λu c=>by rw[ó c];exact a _ _ ht),#[eJ,1,1000],(λu c=>by rw[ó c];exact((s,G),EU)),λv y fB C F=>?_);have I:=q X nm _ y (Âb (.com L M i) ((Èz a).trans F));have h8:ÎX:=n _ G;have h4:=RF z;have e1:ÎM:=by ac_rfl
  have hl:(thT (YB nm e.n) z).length<=1010:=by rw[RD (nm:=nm) Æj G];unfold thT;rw[QS,QS];lia
  refine(v,ÊW,rfl,É C,?_,?_)
  ·show (thT (YB nm e.n) z).length+0+1<=1000000;lia
  ·have ej:Ád " " ÊW=thT (YB nm e.n) z:=by
    have e:Ád ÎU ÊW=ÀX " " ÊW:=by simpa using Íu ÎU ÊW
    rw[e];rfl
   rw[È Ù,ej];exact I
def Hm(c f g:af):Sp:=λvs H Q _=>X2 λd e:af=>C3 #[gh,d] (H d=aa (.ins c e [])) (∀ (X:MS) (nd:af) (a:Hp),a d=aa (.ins c e (dkF X.m nd))->¬ MFp X d->DOk f g a X nd []->dsO X []=([],0,0,0,[])->(∀b,MFp X b->H b=ah)->H nd=ah->#[f6,u,H,d,a]->Q .non a)
theorem ZrQ(T:Ø)(ij:Cf P w K mg Â 14 ao "Merge" ÍB (II ax ao)):Cf P w K mg Â 16 aB "Desk" ö (Hm aB ax ao):=by
 rw[ey,T.t_Desk_init.cf,Zj5,vs,D];obtain d|c|rfl|hd|q:=h;refine(_,#[Zc,#[XJ,‹0›,#[TV,ij,D,#[Zd,Èi]]],#[Zh,#[th,Kp]]],Áe,λr D=>λm i t W nmd=>?_);have j:=Zf D ÀB;have X:ÒQ r=aa (.lst (([]:À (af×À am)).map λx=>ø x.1)):=Zb;have F:∀b,ÒQ b=ah->H b=ah:=λb=>j.free;generalize upd H r (.lst [])=v at j X F t W ⊢;have B:Zu v #[fl,v,i,m,ao]:=λb o a=>by rw[Ze (Zg a t),Ze (Zg a W)];exact a
 have Y:#[fl,v,i,m,ao] m=aa (.ins ao i []):=Zb;generalize upd (upd v i (.own m)) m (.ins ao i [])=H2 at B Y ⊢;refine(m,i,r,[],rfl,Y,(B _ _ X,Qp _,λx h=>by cases h),#[fk,x,h],λG I L st w0 k2 q2 g C lB W3 S3 P3 J k3=>(rfl,?_));have hL:L=[]:=by have:=#[fD,lB.1];unfold ZC X1 at this;rw[Qa]at this;exact ÊO this
 subst hL;obtain ek|eq:=P3.one (m:=8) (.few #[hh,0,2]);subst ek;subst eq;have M:Zu H g:=λb o a=>k3 b o (B b o (j b o a)) (Zg (j b o a) t);have Z:=M _ _ hd;have k:∀b,Fp m G I ([]:À Zz) b->H b=ah:=λb a=>by
  rcases J b a with z|z
  ·rw[z];exact j.free t
  ·exact j.free (B.free z)
 have l:¬ Fp m G I ([]:À Zz) d:=λz=>by have:=k d z;rw[hd]at this;cases this
 have yY:=Ui 8 _ st _ C.up (MJ C) Å S3;refine(_,rfl,d,aB,c,_,rfl,Z,Α,ÁJ,#[hh,0,1000],?_);rw[WY];rw[e3,y9,g,d,ÓM];have k4:#[ss,o,g,d,g,ÓM]:=λb o a n=>by rw[Ze n];exact a
 have N:∀b,(upd g d ÓM) b=ah->g b=ah:=λb a=>by
  by_cases z:b=d
  ·rw[Av,Zb,a]
  ·rw[Ze z]at a;exact a
 generalize upd g d (.ins aB c [("merge",.ref m,)])=H4 at y9 k4 N ⊢;intro e O;have R:=Zf O ÅR;have p:#[hB,H4,e] e=aa ÅR:=Zb;have S:H e=ah:=M.free (N e O);have la:=R _ _ y9;generalize upd H4 e (.dK [])=H5 at R p la ⊢;refine(_,rfl,d,aB,c,_,rfl,la,Α,Ä5,#[hh,1,1000],?_);have eF:Zx "numbers" Ę [("merge",ø m,)]=dkF m e:=by rw[Zy ä,WY];rfl
 rw[eF];have U:e≠d:=λz=>by rw[z,hd]at S;cases S
 have k5:∀b o,g b=aa o->b≠d->(upd H5 d (.ins aB c (dkF m e))) b=aa o:=λb o a n=>by rw[Ze n];exact R _ _ (k4 b o a n)
 refine q (m,G,I,[],st,0,0,0,w0) e _ Zb l (?_,#[sE,U,p],(λz=>by have h3:=C.fp_fresh (N e O);exact h3 z),(rfl,.nil,.nil)) rfl k S (λb u a n=>k5 b u (M b u a) n);refine MOk.keep (H:=g) (C,W3,yY) λb o a eY=>k5 b o a λz=>?_;rcases eY with y|⟨xs,rfl⟩
 ·exact l #[fE,z,y]
 ·rw[Av,Z,a]
theorem ZsS(a:ÂV)(b:Ûm)(c:Ûn)(e:Ûo)(g:Ûp)(h:Ûq)(i:Ûr)(j:Ûs)(k:Ût)(o:Od) :
  ∃f,ô K aU o.first=aa ŉ/\Fv P w K mg Â 17 f (Yv aB ax ao λx=>x=o):=by
 have go:∀ {x y:am} {l:À am} {p:Od->Prop},Df P w K mg Â 15 x l (Yv aB ax ao p)->Ûu->p o->∃f,ô K aU y=aa ŉ/\Fv P w K mg Â 17 f (Yv aB ax ao λx=>x=o):=λF hd m=>by obtain f|q|F|r|t|u:=F.ex;exact(f,hd f r,q,_,(F.imp λvs H Q E ⟨d,v,z,A,X,nd,B,C,D,G,I,J,L,M,N,O,R,S⟩=>(d,v,z,A,X,nd,B,C,D,G,I,J,L,M,N,O,#[eH,R,m],S)).mono Å,t,u)
 cases o with
 | row s ks=>exact go b a.d_DEEDS_row (s,ks,rfl)
 | grow s ks=>exact go c a.d_DEEDS_grow (s,ks,rfl)
 | drop s=>exact go e a.d_DEEDS_drop (s,rfl)
 | take n=>exact go g a.d_DEEDS_take (n,rfl)
 | Èd=>exact go h a.d_DEEDS_counts rfl
 | coming=>exact go i a.d_DEEDS_coming rfl
 | left=>exact go j a.d_DEEDS_left rfl
 | ð=>exact go k a.d_DEEDS_rows rfl
structure Bd (S:DS) (d i:Nat):Prop where
 few:ÓB<=16
 nb0:0<=S.nb
 nb1:S.nb<=(d:Int)
 lt:∀x∈S.P,0<=x.1/\x.1<S.nb
 len:∀x∈S.P,x.2.1.length<=5*d
 key:WX S.P 40
 li:S.li.natAbs<=1500*i
 lo:S.lo.natAbs<=61500*i
 nmz:∀e∈S.nm,AZ e.1/\e.1.length<=8
 tot:ZZ S.P<=5*d
def Od.deed:Od->Nat
 | .row _ _=>1
 | .grow _ _=>1
 | .drop _=>1
 | _=>0
theorem Bd.sbd{S:DS}{d i:Nat}(h:Bd S d i)(hd:d<=36)(hi:i<=90):SBd S:=(ÄZ,h.nb0,by have:=h.nb1;lia,h.lt,λx hx=>by have:=ÄX x hx;lia,by have:=h.li;lia,by have:=h.lo;lia,h.nmz,ÓN)
theorem Bd.up{S:DS}{d i:Nat}(h:Bd S d i)(d':Nat):Bd S (d+d') (i+1):=(ÄZ,h.nb0,by have:=h.nb1;lia,h.lt,λx hx=>by have:=ÄX x hx;lia,Áh,by have:=h.li;lia,by have:=h.lo;lia,h.nmz,ÓN)
theorem Bd.step{S r:DS}{o:Od}{a:am}{d i:Nat}(h:Bd S d i)(hd36:d<=36)(ok:SOk S)(hw:OdW o)(g:Yo S o a r):Bd r (d+o.deed) (i+1):=by
 have t:∀ {c:À am},KsS c->∀s∈c,Ŗ<=40:=λE s F=>(E.2 s F).1;have D:Hw o:=by
  cases o with
  | row s c=>exact t hw.2
  | grow s c=>exact t hw.2
  | drop s=>trivial
  | take n=>trivial
  | Èd=>trivial
  | coming=>trivial
  | left=>trivial
  | ð=>trivial
 obtain G|H:=g.bd Áh D ÓN;have u:=h.li;have I:=h.lo;have j:r.li.natAbs<=1500*(i+1)/\r.lo.natAbs<=61500*(i+1):=by lia
 clear G H u I D;cases g with
 | noRow _=>exact h.up _
 | noGrow _=>exact h.up _
 | noDrop _=>exact h.up _
 | Èd=>exact h.up _
 | left=>exact h.up _
 | ð=>exact h.up _
 | comNo _=>exact h.up _
 | com _ _ _=>exact h.up _
 | row l v J K =>
  rename_i P b w lo z s c k q;have nb0:0<=b:=h.nb0;have nb1:b<=(d:Int):=h.nb1;refine(by show (P++[(b,c,0,)]).length<=16;rw[Qg,QC];lia,by show 0<=b+1;lia,by show b+1<=#[gk,d,1];lia,λx hx=>?_,λx hx=>?_,λx hx=>?_,j.1,j.2,λe he=>?_,?_)
  ·show 0<=x.1/\x.1<b+1;rcases ÿ hx with hx|hx
   ·have:0<=x.1/\x.1<b:=h.lt x hx;lia
   ·rw[ó hx];show 0<=b/\b<b+1;lia
  ·rcases ÿ hx with hx|hx
   ·have:=ÄX x hx;lia
   ·rw[ó hx];have:=hw.2.1;show ë<=5*(d+1);lia
  ·rcases ÿ hx with hx|hx
   ·exact Áh x hx
   ·rw[ó hx];exact t hw.2
  ·rcases ÿ he with he|he
   ·exact h.nmz e he
   ·rw[ó he];exact(hw.1.1,hw.1.2.2)
  ·show ZZ (P++[(b,c,0,)])<=5*(d+1);have A:ZZ P<=5*d:=h.tot;have L:=hw.2.1;rw[Zq7];show _+(ë-0)<=_;lia
 | grow l v J K =>
  rename_i P b w lo z s c B k q;refine(by show (Wt P B.1 c).length<=16;unfold Wt;rw[Qa];exact ÄZ,h.nb0,by have:b<=(d:Int):=h.nb1;show b<=#[gk,d,_];lia,λx hx=>?_,λx hx=>?_,Hv Áh _ (t hw.2),j.1,j.2,h.nmz,(by show ZZ (Wt P B.1 c)<=5*(d+1);have C:=Hs B.1 c P ok.ndP;have L:=hw.2.1;have A:ZZ P<=5*d:=h.tot;lia))
  ·rw[eV,y,m,hx];have:=h.lt y m;split<;>exact this
  ·rw[eV,y,m,hx];have:=ÄX y m;have:=hw.2.1;split
   ·show (y.2.1++c).length<=5*(d+1);rw[Qg];lia
   ·lia
 | drop l v=>rename_i P b w lo z s n k q;refine(Qj (ÑN _ _) ÄZ,h.nb0,by have:b<=(d:Int):=h.nb1;show b<=#[gk,d,_];lia,λx hx=>h.lt x #[zC].1,λx hx=>by have:=ÄX x #[zC].1;lia,λx hx=>Áh x #[zC].1,j.1,j.2,λe he=>h.nmz e (ÈB he).1,(by show ZZ (UW P n)<=5*(d+1);have C:=Ht (λx:ZP=>decide (x.1≠n)) P;have A:ZZ P<=5*d:=h.tot;unfold UW;lia))
 | take l v =>
  rename_i P p b w lo z n M k q;have N:∀x∈p,0<=x.1/\x.1<b:=λx hx=>by
   have:x.1∈Y8 P:=by rw[<- l.num];exact Qk (f:=Æd) hx
   obtain y|m|e:=ÊR;rw[<- e];exact h.lt y m
  have O:p.length=Éa:=by have:=#[fD,l.num];rw[tv,Y8];rw[qV]
  refine(by show p.length<=16;rw[O];exact ÄZ,h.nb0,by have:b<=(d:Int):=h.nb1;show b<=#[gk,d,_];lia,N,λx hx=>?_,l.keyLe Áh,j.1,j.2,h.nmz,(by show ZZ p<=5*(d+0);have C:=l.tk.left ok.ndP;have A:ZZ P<=5*d:=h.tot;have t4:ZZ p+Àe=ZZ P:=C;lia));obtain y|m|e:=l.rowOf x hx;have:=ÄX y m;rw[<- e];lia
theorem ZoM{z:am}{k:Nat}{D:af}{a:ÄE}{b:Hp}{g:TG}{d:TE}{Q:VK}(Pv:É3)(h0:#[gA,b])
  (hs:∀i c ys a H,Ŕ[i]? = aa c->Pv i ys a H->g Ìe a H λe h=>d e h λy f=>f D=aa ÁV/\į<aq/\Pv (i+1) Çd e #[gR,f,ys,y])
  (hd:#[iG,ys,a,ς]):V0 (Its z) D k a b g Ww d Q:=by
 refine Zo3 Pv h0 (λi c ys a H j p=>?_) hd;rw[j9];exact hs i c ys a H j p
def btw(lo a:Nat)(z:am):Ê:=ÓO λc=>decide (lo<=c/\c<=a)
theorem Hl{lo a:Nat}{z:am}(h:∀ (j c:Nat),Ŕ[j]? = aa c->lo<=c/\c<=a):btw lo a z=true:=by unfold btw;rw[QY];intro c d;obtain j|b:=List.getElem?_of_mem d;exact û (h j c (by rw[Qag]at b;exact b))
theorem RC{lo a:Nat}{z:am}{j c:Nat}(h:Ŕ[j]? = aa c)(n:¬ (lo<=c/\c<=a)):btw lo a z=false:=by
 cases e:btw lo a z with
 | false=>rfl
 | true=>unfold btw at e;rw[QY]at e;exact Î (ŋ (e c (Qm (i:=j) #[eH,Qag,h]))) n
theorem ZsK{lo a:Nat}{z:am}(h:btw lo a z=true):∀c∈Áw,lo<=c/\c<=a:=Ûv
theorem MF{z:am}(h:Ć=0):z = "":=by obtain⟨⟨l⟩⟩:=z;have:İ=0:=h;rw[ÊO this];rfl
def ME:Sp:=λvs H Q _=>∃z:am,vs=[.str z]/\Q (.bl (btw 97 122 z)) H
theorem Zsm(T:Ø):Df P w K mg Â 1 "is_key" Å0 ME:=by
 rw[ey,T.t_is_key.df,Jx,m,hr];rw[je,z,q,h];refine(_,#[Zc,#[ZN,(@Vo _ _ _ _ #[Xd,#[fN,SW,0,ÊU,ÊV]]),Ä6,ï],#[Zc,#[XN,Ž,#[hQ,PP,0],#[sU,1,Jx.nd],Ûw],Ä6]],_,rfl,_, "str",_,_,rfl,.str z,Zpd K,_,rfl,Y7 ?_);refine(_,rfl,z,rfl,?_);refine KU (λi e g=>(∃v:Ã V,e=[aa ÀT,v])/\g=H/\∀j,j<i->∀c,Ŕ[j]? = aa c->97<=c/\c<=122) Ûx ?_ ?_
 ·rw[uX];have n:#[tp,"a",97]:=by ac_rfl
  have o:#[tp,"z",122]:=by ac_rfl
  rw[nU]
  ·have b:=#[eQ,b];rw[mY]
  ·have u9:¬ c<97:=λz=>b ÃB;refine ÓP;rw[o,Ts];rw[mZ]
   ·have d:=ÀY;rw[mY]
   ·have ua:¬ 122<c:=Å6;refine Ûy;by_cases r:j=i
    ·rw[iA,r,a,l];lia
    ·exact k j Á p l
 ·rw[ke];exact q
def UV(z:am):V:=if btw 97 122 z=true/\1<=Ć/\Ć<=8 then .str z else .non
def UU(z:am):V:=if z = "-" then .str "" else if btw 97 122 z=true/\1<=Ć/\Ć<=40 then .str z else .non
def Hk:Sp:=λvs H Q _=>∃z:am,C3 #[jf,z] Ä7 (Q (UV z) H)
theorem Zrk(T:Ø)(d:Ûz):Df P w K mg Â 2 "read_name" Á4 Hk:=by
 rw[ey,T.t_read_name.df,Zkr,e,g];obtain z|rfl|hz|q:=h;refine(_,#[Zh,#[Zl,#[Yb,(@Ő _ _ _ #[W5,#[Xd,#[hT,d,g,ÂS]],#[WU,(@Rg _ _ _ _ _ _ _ _ _ _ _ _ WI WI Ú ÄR #[VE,T.g_MOST_NAME] Àd)]]),‹0›,Ł]]],?_);unfold UV at q;refine ÓQ;cases c:btw 97 122 z with
 | false=>rw[c,È ÓR]at q;exact Y7 q
 | true =>
  rw[c]at q;refine Y3 ÓS
  ·rw[la]
   ·rw[kz]
   ·rw[tC,b];exact q
  ·rw[tC,a];exact Ço
def Hj:Sp:=λvs H Q _=>∃z:am,C3 #[jf,z] Ä7 (Q (UU z) H)
theorem Ztd(T:Ø)(d:Ûz):Df P w K mg Â 2 "read_key" Á4 Hj:=by
 rw[ey,T.t_read_key.df,ZlG,e,g];obtain z|rfl|hz|q:=h;refine(_,#[Zc,#[ZN,#[Zn,Yu,‹0›,ÎL,č],#[z9,Ý],ï],#[Zh,#[Zl,#[Yb,(@Ő _ _ _ #[W5,#[Xd,#[hT,d,g,ÂS]],#[WU,(@Rg _ _ _ _ _ _ _ _ _ _ _ _ WI WI Ú ÄR #[VE,T.g_MOST_KEY] Àd)]]),‹0›,Ł]]]],?_);unfold UU at q;rw[dJ];by_cases hd:z = "-"
 ·rw[tM,hd,q];rw[û (ħ Ç hd)];exact Y3 q
 rw[sR,hd,q];rw[ge,hd];refine Y7 ÓQ;cases c:btw 97 122 z with
 | false=>rw[c,È ÓR]at q;exact Y7 q
 | true =>
  rw[c]at q;refine Y3 ÓS
  ·rw[la]
   ·rw[kz]
   ·rw[tC,b];exact q
  ·rw[tC,a];exact Ço
def Uf(z:am):Ê:=btw 48 57 z&&!decide (Ç z=Ç "")
def Hh:Sp:=λvs H Q _=>∃z:am,vs=[.str z]/\Q (.bl (Uf z)) H
theorem ZqG(T:Ø):Df P w K mg Â 1 "are_figures" Á4 Hh:=by
 rw[ey,T.t_are_figures.df,Jr,m,hr];rw[je,z,q,h];refine(_,#[Zc,#[XN,Ž,#[hQ,PP,0],#[sU,1,Jr.nd],Ûw],#[z9,ÛA]],?_);unfold Uf at q;refine(_,rfl,z,rfl,?_);refine KU (λi e g=>(∃v:Ã V,e=[aa ÀT,v])/\g=H/\∀j,j<i->∀c,Ŕ[j]? = aa c->48<=c/\c<=57) Ûx ?_ ?_
 ·rw[uX];have n:ÎZ:=by ac_rfl
  have o:#[tp,"9",57]:=by ac_rfl
  rw[nU]
  ·have b:=#[eQ,b];rw[mY]
  ·have u9:¬ c<48:=λz=>b ÃB;refine ÓP;rw[o,Ts];rw[mZ]
   ·have d:=ÀY;rw[mY]
   ·have ua:¬ 57<c:=Å6;refine Ûy;by_cases r:j=i
    ·rw[iA,r,a,l];lia
    ·exact k j Á p l
 ·rw[ke];exact(_,rfl,rfl,q)
def XR(z:am):Int:=(PySem.NumText.digitsVal Áw:Nat)
def V6(z:am)(a b:Int):V:=if Uf z=true/\Ć<=9/\¬ ÛB/\a<=XR z/\XR z<=b then .int (XR z) else .non
def Hg:Sp:=λvs H Q _=>X3 λ(z:am) (a b:Int)=>C3 ÛC Ä7 (Q (V6 z a b) H)
theorem ZsH(T:Ø)(y:#[jm,1,"are_figures","word",Hh]):Df P w K mg Â 2 "read_number" ÍI Hg:=by
 rw[ey,T.t_read_number.df,Js,B,C];obtain z|a|b|rfl|hz|q:=h;refine(_,#[Zc,#[ZN,(@Ő _ _ _ #[Xb,(@Vo _ _ _ _ #[Xd,#[hT,y,C,ÂS]]),#[Xc,#[Zn,WT,ÄR,#[VE,T.g_MOST_FIGURES],č]]]),ÄT,ï],#[Zc,#[ZN,(@Ő _ _ _ #[W5,ÛD,#[WU,#[eL,V2,0,Ý]]]),ÄT,ï],#[Zc,#[Zq,3,Js.nd,á,ÛE],#[Zh,#[Zl,#[Yb,(@Rg _ _ _ _ _ _ _ _ _ _ _ _ WI WI ‹1› ‹3› ‹2› Àd),‹3›,Ł]]]]]],?_);unfold V6 at q;refine ÓQ;cases e:Uf z with
 | false=>rw[e,È ÓR]at q;exact Y3 q
 | true =>
 rw[e]at q;refine Y7 (_,rfl,z,rfl,ń Á,_,_,rfl,rfl,_,rfl,Z5 (λl=>?_) (λl=>?_))
 ·have l:=#[eQ,l];rw[È (λh=>Î h.2.1 Á)]at q;exact q
 have D:Ć<=9:=by have:¬ (9:Int)<Ć:=λh=>l (û h);lia
 have o:btw 48 57 z=true/\z ≠ "":=by unfold Uf at e;rw[QT]at e;refine(e.1,λh=>?_);rw[û (ħ Ç h)]at e;exact Î e.2 Å
 have u:0<Ć:=Nat.pos_of_ne_zero λh=>o.2 (MF h);have F:∃c,Ŕ[0]? = aa c:=(Ŕ[0]'u,Qad u);rw[e2,c,p,F];have G:ÛF:=Ya (j:=0) #[eH,Qag,p];have I:ÎZ:=by ac_rfl
 have num:ÛG:=ÛH (ZsK o.1) (λh=>o.2 (MF (by show ς=0;rw[<- Qae,h];rfl))) Á;refine(_,rfl,_,_,_,rfl,rfl,ń Á,G,rfl,_,rfl,?_);have v:(¬ ÛB)->(a<=XR z/\XR z<=b->Q (.int (XR z)) H)/\(¬ Î0->Q .non H):=λJ=>⟨λr=>by
  rw[Æ (rfl,D,J,r)]at q;exact q,λr=>by
  rw[È λh=>r h.2.2.2]at q;exact q⟩
 have x:c=48↔Ç Ũ=Ç "0":=by rw[(I)];refine(λh=>by rw[h],λh=>?_);injection h with h;have:=ÛI;have:aa c=aa 48:=this;rw[yS]
 by_cases m:c=48
 ·refine Z5 Èc (λd=>Î (û (x.mp m)) d);rw[dJ];by_cases n:z = "0"
  ·rw[û (ħ Ç n)];obtain t|k:=v (λh=>h.2 n);refine Y7 (_,rfl,z,_,rfl,by lia,num,?_);refine Ún
   ·refine ÛJ;exact ÛK
   ·exact ÛL
  ·rw[ge,n];rw[È (λh=>h.2.2.1 (by rw[p,m],n))]at q;exact Y3 q
 ·refine Z5 (λd=>Î (x.mpr Í1) m) (λ_=>Y7 ?_);obtain t|k:=v (λh=>m (by rw[p]at h;exact Qv h.1));refine(_,rfl,z,_,rfl,by lia,num,_,rfl,_,rfl,_,_,rfl,rfl,_,rfl,Z5 (λg=>?_) (λg=>?_))
  ·refine ÛJ;exact ÛK
  ·exact ÛL
def X0(k:V)(m:Int):Ê:=if k=.non then decide (m=0) else if k=.str "size" then decide (1<=m/\m<=12) else true
def He:Sp:=λvs H Q _=>X2 λ(k:V) (m:Int)=>C3 (vs=[k,.int m]) ((k=.non\/k=.str "key"\/k=.str "size")) (Q (.bl (X0 k m)) H)
theorem Zs3(T:Ø):Df P w K mg Â 1 "may_be_further" Êj He:=by
 rw[ey,T.t_may_be_further.df,Zf0,b,hr];refine(_,#[Zc,#[ZN,#[gF,0],#[Zh,#[Zl,#[WA,Yu,‹1›,Ú,č]]],ï],#[Zh,#[Zl,(@LZ _ _ _ _ _ _ _ ÛA (@Ua _ _ _ _ _ (@Rh _ _ _ _ _ _ _ _ _ _ _ _ WI WI Ú ‹1› #[VE,T.g_MOST_SIZES] Àd)))]]],?_);obtain k|m|rfl|c|q:=h;rcases c with rfl|rfl|rfl
 ·have e:X0 .non m=decide (m=0):=Æ rfl;rw[e]at q;exact(_,rfl,rfl,_,rfl,Z5 (λ_=>(_,rfl,rfl,by rw[show decide (ß m=ß 0)=decide (m=0) by by_cases h:m=0<;>simp[h]];exact q)) Ú5)
 ·have e:X0 (.str "key") m=true:=by unfold X0;rw[È (λh=>nomatch h),È ä]
  rw[e]at q;refine ÓA;rw[dJ];rw[show (!decide (Ç "key" = Ç "size"))=true by ac_rfl];exact Y3 q
 ·have e:X0 (.str "size") m=decide (1<=m/\m<=12):=by unfold X0;rw[È (λh=>nomatch h),Æ rfl]
  rw[e]at q;refine ÓA;rw[dJ];rw[show (!decide (Ç "size" = Ç "size"))=false by ac_rfl];refine Y7 (_,rfl,_,_,rfl,rfl,_,rfl,Z5 (λa=>?_) (λa=>?_))
  ·refine#[sH,_,?_];show Q (.bl (decide (m<=12))) H;rw[show decide (1<=m/\m<=12)=decide (m<=12) by rw[ÓT];exact(λh=>h.2,λh=>(ŋ a,h))]at q;exact q
  ·rw[Ē #[gp,a,h.1]]at q;exact q
def Wq(k z:am):V:=if k = "name" then UV z else if k = "key" then UU z else if k = "many" then V6 z 0 1000000 else if k = "room" then V6 z 1 16 else if k = "ways" then V6 z 2 6 else V6 z 0 999999999
def VO(k:am):Prop:=k = "name"\/k = "key"\/k = "many"\/k = "room"\/k = "ways"\/k = "size"
def Hc:Sp:=λvs H Q _=>X2 λk z:am=>C4 #[Aw,k,z] (VO k) Ä7 (Q (Wq k z) H)
theorem Zrc(T:Ø)(a:ÂV)(i:#[jm,2,"read_name","word",Hk])(j:#[jm,2,"read_key","word",Hj])(l:Df P w K mg Â 2 "read_number" ÍI Hg):Df P w K mg Â 3 "read_word" ÍH Hc:=by
 rw[ey,T.t_read_word.df,N5,m,g];refine(_,#[Zc,#[ZN,Î1,#[Zh,#[Zl,#[Ac,i,g]]],ï],#[Zc,#[ZN,Î1,#[Zh,#[Zl,#[Ac,j,g]]],ï],#[Zc,#[Yy,#[ZA,Pp,#[Wi,a.m_BOUNDS],‹0›],#[eC,2,N5.nd,3]],#[Zh,#[Zl,#[ZG,l,g,#[fK,1,2,3],Ë]]]]]],?_);rw[g2,k,z,n,e];rcases n with rfl|rfl|rfl|rfl|rfl|rfl
 ·exact ÛM
 ·refine Î2;exact ÛM
 all_goals
  refine Î2;refine Î2
 ·rw[eK,a.d_BOUNDS_many,"many",0,1000000]
 ·rw[eK,a.d_BOUNDS_room,"room",1,16]
 ·rw[eK,a.d_BOUNDS_ways,"ways",2,6]
 ·rw[eK,a.d_BOUNDS_size,"size",0,999999999]
def Xr(s:am):Ã (À am×V) :=
 if s = "row" then aa (["name"],.str "key",) else if s = "grow" then aa (["name"],.str "key",) else if s = "drop" then aa (["name"],.non,) else
 if s = "coming" then aa ([],.non,) else if s = "take" then aa (["many"],.non,) else if s = "left" then aa ([],.non,) else
 if s = "counts" then aa ([],.non,) else if s = "rows" then aa ([],.non,) else if s = "runs" then aa (["room"],.str "key",) else
 if s = "sort" then aa (["room", "ways"],.str "key",) else if s = "free" then aa (["ways"],.str "size",) else if s = "near" then aa (["ways"],.str "size",) else ah
theorem Ztb(g:ÂV){s:am}{ks:Ï}{i:V}(h:Xr s=aa (ks,i,)):X2 λt t0:af=>ô K ç s=aa #[g0,t]/\(∀H,SqT K H t0 (Áx Ç))/\∀H,SqT K H t [.ref t0,i]:=by
 unfold Xr at h;by_cases e:s = "row"
 ·rw[eG,g.d_FORMS_row]
 rw[W];by_cases e:s = "grow"
 ·rw[eG,g.d_FORMS_grow]
 rw[W];by_cases e:s = "drop"
 ·rw[eG,g.d_FORMS_drop]
 rw[W];by_cases e:s = "coming"
 ·rw[eG,g.d_FORMS_coming]
 rw[W];by_cases e:s = "take"
 ·rw[eG,g.d_FORMS_take]
 rw[W];by_cases e:s = "left"
 ·rw[eG,g.d_FORMS_left]
 rw[W];by_cases e:s = "counts"
 ·rw[eG,g.d_FORMS_counts]
 rw[W];by_cases e:s = "rows"
 ·rw[eG,g.d_FORMS_rows]
 rw[W];by_cases e:s = "runs"
 ·rw[eG,g.d_FORMS_runs]
 rw[W];by_cases e:s = "sort"
 ·rw[eG,g.d_FORMS_sort]
 rw[W];by_cases e:s = "free"
 ·rw[eG,g.d_FORMS_free]
 rw[W];by_cases e:s = "near"
 ·rw[eG,g.d_FORMS_near]
 rw[W];cases h
theorem MD{s:am}{ks:Ï}{a:V}(h:Xr s=aa (ks,a,)):ō<=2/\(∀k∈ks,VO k)/\(a=.non\/a=.str "key"\/a=.str "size"):=by
 unfold Xr at h;by_cases e:s = "row"
 ·rw[cn];exact λk hk=>by rw[ó hk];exact ÀP
 rw[W];by_cases e:s = "grow"
 ·rw[cn];exact λk hk=>by rw[ó hk];exact ÀP
 rw[W];by_cases e:s = "drop"
 ·rw[82];exact λk hk=>by rw[ó hk];exact ÀP
 rw[W];by_cases e:s = "coming"
 ·rw[qU]
 rw[W];by_cases e:s = "take"
 ·rw[82];exact λk hk=>by rw[ó hk];rw[ug,Đ]
 rw[W];by_cases e:s = "left"
 ·rw[qU]
 rw[W];by_cases e:s = "counts"
 ·rw[qU]
 rw[W];by_cases e:s = "rows"
 ·rw[qU]
 rw[W];by_cases e:s = "runs"
 ·rw[cn];exact λk hk=>by rw[ó hk];exact .inr ÅY
 rw[W];by_cases e:s = "sort"
 ·rw[cn];exact λk hk=>by
   rcases î hk with e|hk
   ·rw[e];exact .inr ÅY
   ·rw[ó hk];rw[ug,ÅY]
 rw[W];by_cases e:s = "free"
 ·rw[q6];exact λk hk=>by rw[ó hk];rw[ug,ÅY]
 rw[W];by_cases e:s = "near"
 ·rw[q6];exact λk hk=>by rw[ó hk];rw[ug,ÅY]
 rw[W];cases h
def Ue(a:V)(z:am):V:=match a with|.str k=>Wq k z|_=>.non
def XV(ks os:Ï):À V:=(ÅA os).map λp=>Wq p.1 p.2
def XQ(ks os:Ï)(a:V):À V:=(Ôc).map (Ue a)
def XU(f:am)(os:Ï):Ã (À V×À V) :=
 match Xr f with
 | none=>ah
 | some (a,b)=>if Ĭ<ķ\/X0 b (ÁK-ÅK)=false then ah else
  if inV .non (XV a os)=true\/inV .non (XQ a os b)=true then ah else aa (XV a os,XQ a os b,)
theorem RB(z:am)(a b:Int):Xo (V6 z a b)=true:=by unfold V6;split<;>rfl
theorem Zld(z:am):Xo (UV z)=true:=by unfold UV;split<;>rfl
theorem ZmZ(z:am):Xo (UU z)=true:=by unfold UU;split;rfl;split<;>rfl
theorem Hb(k z:am):Xo (Wq k z)=true:=by unfold Wq;split;exact Zld z;split;exact ZmZ z;split;exact RB _ _ _;split;exact RB _ _ _;split;exact RB _ _ _;exact RB _ _ _
theorem Zl0(a:V)(z:am):Xo (Ue a z)=true:=by unfold Ue;split;exact Hb _ _;rfl
def MC(K:Ä)(b:af):Sp:=λvs H Q _=>X3 λ(z f:am) (os:À am)=>C8 #[jf,z] Ä7 (Àk z " " = f::os) (Ĭ<=200) (ÛN) ((Xr f=ah->ô K b f=aa ah)) ((XU f os=ah->∀a,Zu H a->Q .non a)) (∀S F,XU f os=aa (S,F,)->∀ (x:af×af×af) a,Zu H a->H x.1=ah->H x.2.1=ah->H x.2.2=ah->a x.1=aa (.tup [.str f,.ref x.2.1,.ref x.2.2])->a x.2.1=aa (.lst S)->a x.2.2=aa (.lst F)->Q (.ref x.1) a)
theorem Zpi(T:Ø)(I:ÂV)(gn:Df P w K mg Â 3 "read_word" ÍH Hc)(fA:Df P w K mg Â 1 "may_be_further" Êj He):Df P w K mg Â 4 "order_in" ["row"] (MC K ç):=by
 rw[h6,T.t_order_in.df,VA];obtain z|g|os|rfl|hz|eT|hos|j6|gR|m|q:=h;refine(_,#[Zc,#[Yy,ÓU,(@Ztf _ _ _ _ _ K #[Zp,#[sU,1,Æl],(@ZpF _ _ _ _ #[sU,2,Æl] Ë)] Ë Ë Ë Ë)],#[Zc,#[ZN,#[Zn,ZsB,‹1›,#[Wi,I.m_FORMS],Àd],ÄT,ï],#[Zc,#[Yy,#[ZA,Pp,#[Wi,I.m_FORMS],‹1›],#[gT,K,2,#[Zp,#[sU,3,Æl],#[Zp,#[Zw,4,Æl,És],Èh]]]],#[Zc,#[h7,5,Æl,Ä1],#[Zc,#[ZN,(@Ő _ _ _ #[Xb,#[Zn,WB,Æe,‹5›,č],#[Xc,(@Vo _ _ _ _ #[Xd,#[ZG,fA,hr,#[Zd,#[hj,4],#[ZB,W4,Æe,‹5›]],Ë]])]]),ÄT,ï],#[Zc,#[Vj,6,Æl,Us,(@iZ _ K _ _ _ _ _ _ _ _ T.b.n_zip #[fB,3,2] Ë Ë Ë Ë),#[fb,8,Us,9],γ,(λ_ _ _ _=>#[ZG,gn,hr,#[ub,8,Us,9],#[tD,Us]])],#[Zc,#[Vj,7,Æl,Tw,#[iL,K,#[ic,2,5]],#[gj,8,Tw],γ,(λ_ _ _ _=>#[ZG,gn,hr,#[Zd,#[cv,4,Tw],#[cw,8,Tw]],#[tD,Tw]])],#[Zh,#[Zl,#[Yb,(@Ő _ _ _ #[Xb,#[Zn,(inQ K),Ł,‹6›,Àd],#[Xc,#[Zn,(inQ K),Ł,‹7›,Àd]]]),Ł,#[ZS,#[fK,1,6,7]]]]]]]]]]]],?_);refine(_,rfl,rfl,z, " ",rfl,rfl,ä,ń Á,ÛO,λa ha=>?_);rw[eT];refine(a,.str g,Ä8 Ç,rfl,É Zb,#[fH,Qa],λl hl=>?_);have B:=(Zf ha #[ia,g]).trans (Zf hl Èj);have J:(upd (upd H a #[ia,g]) l Èj) l=aa Èj:=Zb;generalize upd (upd H a (.lst ((g::os).map Ç))) l (.lst (Ä8 Ç))=C at B J ⊢;refine(_,_,rfl,_,_,rfl,rfl,?_);cases M:Xr g with
 | none=>refine(_,rfl,ç,g,_,rfl,rfl,ÓV,gR M,_,rfl,Y3 ?_);exact m (by unfold XU;rw[M]) C B
 | some kf =>
 rw[e2,c,d,kf];obtain t|t0|bX|EW|ht:=Ztb I M;rw[sX,k2,kk,kf,MD,M];have eO:XU g os=if Ĭ<ë\/X0 d ÃP=false then ah else if inV .non ÓW=true\/inV .non ÛP=true then ah else aa (XV c os,XQ c os d,):=by unfold XU;rw[M]
 rw[eO]at m q;refine(_,rfl,ç,g,_,rfl,rfl,ÓV,bX,_,rfl,Y7 ?_);refine(_,rfl,ç,g,.ref t,_,rfl,rfl,ÓV,bX,rfl,t,_,rfl,ht C,rfl,_,_,rfl,_,_,rfl,rfl,_,rfl,t0,_,rfl,.inr (EW C),?_);have ek:((Ŝ Ç).length:Int)=ÀK:=by rw[Qa]
 have el:((ÛS).length:Int)=ÁK:=by rw[Qa]
 rw[ek];refine(_,rfl,l,_,rfl,.inl (É J),_,rfl,_,_,rfl,rfl,_,rfl,?_);rw[el];by_cases bq:Ĭ<ë
 ·rw[Æ (.inl bq)]at m;exact Xu Á (m rfl C B)
 refine XS Á ?_;refine(_,rfl,_,rfl,l,_,rfl,.inl (É J),_,rfl,_,_,rfl,rfl,?_);rw[el];refine(d,_,rfl,kf,_,rfl,?_);cases N:X0 d ((Ĭ:Int)-(ë:Int)) with
 | false=>rw[Æ (.inr N)]at m;exact Y3 (m rfl C B)
 | true =>
 rw[È (λh=>Àf bq (λh=>by rw[N]at h;cases h))]at m q;refine Y7 ?_;refine(_,rfl,_,rfl,.t t0,.l l,Ŝ Ç,Ä8 Ç,rfl,EW C,É J,λD hD=>?_);have lS:(ÓW).length=ë:=by unfold XV;rw[Qa,ÛQ];lia
 refine KZ (λi zs F r=>(X2 λG v2:Ã V=>F=[aa ÀT,aa (.str g),aa Ŋ,aa (.ref t0),aa d,aa (.int ÀK),ah,ah,G,v2])/\zs=(ÓW).take i/\i<=ë/\r D=aa Ε/\Zu C r) ((ah,ah,rfl),rfl,Qp _,Zb,Zf hD _) (λ_ _ _ _ h=>(EW _,É (h.2.2.2.2 _ _ J))) ?_ ?_
 ·rintro i zs F r x y p O n ⟨⟨G,v2,rfl⟩,rfl,hi,cj,R⟩ hp;rw[Qr]at O n;cases S:c[i]? with
  | none=>rw[S]at O;cases O
  | some k =>
  rw[e5,S,O,U,ë];cases o:os[i]? with
  | none=>rw[o]at n;cases n
  | some j =>
  rw[gv,o,n,n];have hv:ÓW[i]? = aa (Wq k j):=by unfold XV;rw[Qr,(ÛR (z:=(k,j,))).mpr (S,o)];rfl
  have kp:Zu r (upd r p (.tup [Ç k,.str j])):=Zf hp _;refine(p,_,rfl,þ Zb,rfl,_,_,rfl,_,_,rfl,rfl,_,rfl,_,rfl,k,j,rfl,kk k (Qm S),j6 j (Qm o),kp _ _ cj,ÓX,ÊC,?_,U,Zb,λb u v=>?_)
  ·rw[QI,hv];rfl
  ·rw[h1,v,hD,kp,R,u]
 rintro zs F r ⟨⟨G,v2,rfl⟩,rfl,_,cj,R⟩;have W:min (Ŝ Ç).length (ÛS).length=(ÓW).length:=by rw[Qa,Qa,lS];lia
 rw[Aa,W,cj];have za:Yh ÛS (aa ÀK) ah=#[bS].map Ç:=(HM os ë Á).2;refine(_,rfl,_,rfl,_,rfl,l,_,rfl,É (R _ _ J),λp hp=>?_);rw[za];have s3:=Zf hp ÛT;rw[sr,kj,r,p,ÛT];have ig:=s3 _ _ cj;generalize upd r p (.lst ((ÃQ ë).map Ç))=H3 at s3 kj ig ⊢;refine(p,rfl,#[sK,kj],λD2 X=>?_);have nDD:D≠D2:=Zg ig X;have lF:(ÛP).length=#[bS].length:=Qa ..;refine Vw (K:=K) (a:=p) (xs:=#[bS].map Ç) (λi zs F H4=>(∃G:Ã V,F=[aa ÀT,aa (.str g),aa Ŋ,aa (.ref t0),aa d,aa (.int ÀK),aa Ū,ah,G])/\zs=(ÛP).take i/\i<=#[bS].length/\H4 D2=aa Ε/\Zu H3 H4) #[fn,X] #[gd,kj] ?_ ?_
 ·rintro i y zs F H4 n ⟨⟨G,rfl⟩,rfl,hi,L,Y⟩;rw[Qr]at n;cases o:(ÃQ ë)[i]? with
  | none=>rw[o]at n;cases n
  | some j =>
  rw[gv,o,n,n];have U:i<#[bS].length:=(Ń o).1;have Z:j∈os:=Q3 (Qm o);have kQ:#[bS].length<=200:=by rw[QL];lia
  have hv:ÛP[i]? = aa (Ue d j):=by unfold XQ;rw[Qr,o];rfl
  have go:∀k,d=.str k->VO k->Ue d j=Wq k j:=λk e _=>by rw[e];rfl
  rcases kf with e|e|e
  ·rw[e]at N;have:X0 .non ÃP=decide (ÁK-ÀK=0):=Æ rfl;rw[this]at N;have:=#[eQ,N];rw[QL]at U;lia
  ·refine(_,rfl,_,rfl, "key",j,#[tr,e],.inr Đ,j6 j Z,L,ÓX,ā,?_,U,Zb,λb u v=>?_)
   ·rw[QI,hv,e];rfl
   ·rw[ik,v,X,Y,u]
  ·refine(_,rfl,_,rfl, "size",j,#[tr,e],.inr ÓY,j6 j Z,L,ÓX,ā,?_,U,Zb,λb u v=>?_)
   ·rw[QI,hv,e];rfl
   ·rw[ik,v,X,Y,u]
 rw[hM,F,H4,G,L,Y];rw[Qa,<- lF,Qy ò]at L;have fl1:(ÓW).all Xo=true:=by unfold XV;rw[ÊX,QY];exact λp _=>Hb _ _
 have fl2:(ÛP).all Xo=true:=by unfold XQ;rw[ÊX,QY];exact λp _=>Zl0 _ _
 have hDD:=Y _ _ ig;have jJ:=((B.trans R).trans s3).trans Y;refine(_,rfl,D,_,rfl,.inl (É hDD),rfl,fl1,_,rfl,?_);cases i1:inV .non (XV c os) with
 | true=>rw[Æ (.inl i1)]at m;exact Y3 (m rfl _ jJ)
 | false =>
 refine Y7 (_,rfl,D2,_,rfl,.inl (É L),rfl,fl2,_,rfl,?_);cases i2:inV .non (XQ c os d) with
 | true=>rw[Æ (.inr i2)]at m;exact Y3 (m rfl _ jJ)
 | false =>
 rw[È (λh=>Àf (λh=>by rw[i1]at h;cases h) (λh=>by rw[i2]at h;cases h))]at q;refine Y7 (_,rfl,_,rfl,_,rfl,Á6,λtt jt=>?_);exact q _ _ rfl (tt,D,D2,) _ (jJ.trans (Zf jt _)) (jJ.free jt) (B.free hD) (((B.trans R).trans s3).free X) Zb (Zf jt _ _ _ hDD) (Zf jt _ _ _ L)
def Vs(K:Ä)(a:af)(r:am):Prop:=μ<=1000/\X2 λf os=>Àk r " " = f::os/\Ĭ<=200/\ÛN/\(Xr f=ah->ô K a f=aa ah)
def W6(r:am):Ã ÊY:=match Àk r " " with|[]=>ah|f::os=>(XU f os).map λp=>(f,p.1,p.2,)
def Yd(r:am):Ê:=decide (r = "")||(W6 r).isSome
def Ha(b:af)(H:Hp)(n:Int)(E:XK):Prop:=∀ (dx:af) (a:Hp),Zu H a->H dx=ah->a dx=aa (xdO dx (HH n))->E ÁU (aa dx) a
def GZ(K:Ä)(a b:af):Sp:=λvs H Q E=>X4 λ(z:am) (ð:À am) (i:Nat) (r:am)=>C9 #[jf,z] ÊZ Ê0 ÓZ (#[ig,a]) (ð[i]? = aa r) (Yd r=false) ÛU (Ha b H (i:Int) E)
theorem ZmJ(T:Ø)(eS:ÛV)(gf:Xf P w K mg Â 1 au ar "BadLine" ÇD (HG au)):D1f P w K mg Â 5 "orders_in" Á5 (GZ K ç au):=by
 rw[ey,T.t_orders_in.df1,Wg,vs,W];obtain z|ð|b|r|rfl|hz|X|zb|B|c|j|gN|q:=h;refine(_,#[Zc,#[uj,1,Wg.nd],#[Zc,#[XN,(Zxz Ο),ÛW,#[eC,2,Wg.nd,3],#[Zh,#[ZN,#[eL,V2,3,Ý],#[Zc,#[Zq,4,Wg.nd,á,#[hT,eS,W,Áf]],#[Zc,#[ZN,#[gF,4],#[Zh,#[SE,gf,ÁI,W,ÃG]],ï],#[Zh,#[gD,1,4]]]],ï]]],Å4]],?_);have uZ:b<Èk:=(Ń c).1;rw[s6,Áe,l,Y];rw[gy,Z,Y,C,l];refine(_,rfl,rfl,z, "\n",rfl,rfl,ä,Qj hz Å,(by rw[X];exact Qj zb Å),λa ha=>?_);rw[X];have D:=Zf ha Æm;rw[e3,G,H1,a,Æm];have fB:=D _ _ C;generalize upd H1 a (.lst (rows.map Ç))=H2 at D G fB ⊢;have EX:a≠l:=(Zg C ha).symm;refine(a,_,rfl,É G,?_);refine T0 (λi I k=>(X3 λv1 v2 v3:Ã V=>I=[aa ÀT,aa Ŋ,v1,v2,v3])/\i<=b/\k a=aa Æm/\#[fw,u,H,k]/\∃m:À V,k l=aa (.lst m)/\Ì1<=i) ((_,_,_,rfl),Qp _,G,Z.trans D,[],fB,Qd _) (λ_ _ _ h=>É h.2.2.1) ?_ ?_
 ·rintro i y I k p n ⟨⟨v1,v2,v3,rfl⟩,hi,kl,J,m,i3,EY⟩ hp;rw[Qr]at n;cases d:ð[i]? with
  | none=>rw[d]at n;cases n
  | some o =>
  rw[gv,d,n,n];have t:=Zf hp Ó0;refine Ó1;by_cases g:o = ""
  ·rw[û (ħ Ç g)];have v:i<b:=by
    rcases Ó2 i b with h|h
    ·exact h
    ·have:i=b:=by lia
     subst this;rw[c]at d;injection d with d;rw[d,g]at j;exact Î j ä
   exact Y7 ((_,_,_,rfl),v,t _ _ kl,λb u c=>t _ _ (J b u c),m,t _ _ i3,by lia)
  rw[ge,g];obtain ho|f|os|e1|e2|e3|e4:=B o (Qm d) g;have eR:ÛX:=by unfold W6;rw[e1]
  refine Y3 (_,rfl,o,f,os,rfl,ho,e1,e2,e3,e4,λhn L M=>?_,λS F hS x L M f1 f2 f3 h1 h2 h3=>?_)
  ·have v:i=b:=by
    rcases Ó2 i b with h|h
    ·have:=gN i o h d;rw[tv,Yd];rw[eR,hn,Ē g]at this;cases this
    ·lia
   subst v;refine Óy;have kk:Zu H L:=λb u c=>M _ _ (t _ _ (J b u c));refine(_,rfl,λe g=>(e,(i:Int),rfl,Zb,by lia,by lia,λN hd ne=>(rfl,aa N,by rw[Ze ne.symm];exact Zb,?_)));have kU:L N=ah:=by rw[Ze ne]at hd;exact hd
   refine q N _ #[io,b,o,c] (kk.free kU) (VW Zb ne);have O:=kk b o c;have R:b≠e:=Zg O g;exact VW (by rw[Ze (Zg O kU),Ze R,Ze R];exact O) R
  ·have v:i<b:=by
    rcases Ó2 i b with h|h
    ·exact h
    ·have:i=b:=by lia
     subst this;rw[c]at d;injection d with d;unfold Yd at j;rw[d,eR,hS,Ē g]at j;cases j
   refine Ó3;have U:=t.trans M;have og:=U _ _ i3;refine(_,rfl,.inl #[fm,og],_,rfl,l,_,_,rfl,rfl,og,(ZD Á),ÎY,v,?_,λb u c=>?_,m++[.ref x.1],Zb,?_)
   ·rw[Ze EX];exact U _ _ kl
   ·rw[h1,c,Y,U,J,u]
   ·rw[Qg];exact QaW EY
 ·rintro I k ⟨_,hi,_⟩;rw[Qa]at hi;lia
structure Ud (H:Hp) (x:af×af×af) (g:Èl):Prop where
 t:H x.1=aa (.tup [.str g.1,.ref x.2.1,.ref x.2.2])
 s:H x.2.1=aa (.lst g.2.1)
 f:H x.2.2=aa (.lst g.2.2)
theorem Ud.same{H a:Hp}{x:af×af×af}{g:Èl}(h:Ud H x g)(s:Zu H a):Ud a x g:=(s _ _ h.t,s _ _ h.s,s _ _ h.f)
structure GY (H:Hp) (l:af) (xs:À (af×af×af)) (gs:À ÊY):Prop where
 l:H l=aa #[iQ,Èx,x,x.1]
 n:Ö=gs.length
 at':∀ (i:Nat) x g,xs[i]? = aa x->gs[i]? = aa g->Ud H x g
def UT(r:am):Ã ÊY:=if r = "" then ah else W6 r
def WC(ð:Ï):À ÊY:=rows.filterMap UT
theorem Zn3{ð:Ï}{i:Nat}{o:am}(h:#[Au,ð,o])(n:UT o=ah):WC (Ó4 (i+1))=WC Î3:=by unfold WC;rw[QI,h,ÛY];show _++List.filterMap UT [o]=_;rw[List.filterMap_cons_none n];exact QV _
theorem Zn6{ð:Ï}{i:Nat}{o:am}{g:Èl}(h:#[Au,ð,o])(n:UT o=aa g):WC (Ó4 (i+1))=WC Î3++[g]:=by unfold WC;rw[QI,h,ÛY];show _++List.filterMap UT [o]=_;rw[List.filterMap_cons_some n];rfl
theorem Zqg(ð:Ï)(i:Nat):(WC Î3).length<=i:=Qj ÛZ (by rw[Qx];exact Nat.min_le_left _ _)
def GX(K:Ä)(b:af):Sp:=λvs H Q _=>X2 λ(z:am) (ð:À am)=>C7 #[jf,z] ÊZ Ê0 ÓZ (#[ig,b]) (Û0) (∀ (l:af) (xs:À (af×af×af)) (a:Hp),Zu H a->H l=ah->GY a l xs (WC ð)->Q Ŋ a)
theorem Zl9(T:Ø)(eS:ÛV):Df P w K mg Â 5 "orders_in" Á5 (GX K ç):=by
 rw[h6,T.t_orders_in.df,Wg];obtain z|ð|rfl|hz|eT|zb|L|xR|q:=h;refine(_,#[Zc,#[uj,1,Wg.nd],#[Zc,#[XN,Ž,ÛW,#[eC,2,Wg.nd,3],#[Zh,#[ZN,#[eL,V2,3,Ý],#[Zc,#[Zq,4,Wg.nd,á,#[hT,eS,hr,Áf]],#[Zc,#[ZN,#[gF,4],ÄV,ï],#[Zh,#[gD,1,4]]]],ï]]],Å4]],Áe,λl M=>?_);rw[gy,s1,M,N,l];refine(_,rfl,rfl,z, "\n",rfl,rfl,ä,Qj hz Å,(by rw[eT];exact Qj zb Å),λa ha=>?_);rw[eT];have O:=Zf ha Æm;rw[e3,R,H1,a,Æm];have fB:=O _ _ N;generalize upd H1 a (.lst (rows.map Ç))=H2 at O R fB ⊢;have EX:a≠l:=(Zg N ha).symm;refine(a,_,rfl,É R,?_);refine T0 (λi U t=>(X3 λW X Y:Ã V=>U=[aa ÀT,aa Ŋ,W,X,Y])/\t a=aa Æm/\#[fw,u,H,t]/\∃e,GY t l e (WC Î3)/\∀x∈e,x.1≠l/\x.2.1≠l/\x.2.2≠l) ((_,_,_,rfl),R,s1.trans O,[],(fB,rfl,λi x o h=>by simp at h),λx h=>by cases h) (λ_ _ _ h=>É h.2.1) ?_ ?_
 ·rintro i y U t p C ⟨⟨W,X,Y,rfl⟩,Z,D,e,d,G⟩ hp;rw[Qr]at C;cases r:ð[i]? with
  | none=>rw[r]at C;cases C
  | some o =>
  rw[e5,r,C,hir,Èk];have n:=Zf hp Ó0;refine Ó1;by_cases v:o = ""
  ·rw[û (ħ Ç v)];refine Y7 ((_,_,_,rfl),n _ _ Z,λb u I=>n _ _ (D b u I),e,?_,G);rw[Zn3 r (Æ v)];exact(n _ _ d.l,d.n,λj x g h1 h2=>(d.at' j x g h1 h2).same n)
  rw[ge,v];obtain ho|f|os|k|B|e3|e4:=L o (Qm r) v;have eR:ÛX:=by unfold W6;rw[k]
  refine Y3 (_,rfl,o,f,os,rfl,ho,k,B,e3,e4,λhn H4 s4=>?_,λS F hS x H4 s4 f1 f2 f3 h1 h2 h3=>?_)
  ·have:=xR o (Qm r);rw[tv,Yd];rw[eR,hn,Ē v]at this;cases this
  ·refine Ó3;have J:=n.trans s4;have og:=J _ _ d.l;have g1:x.1≠l:=λz=>by rw[z,n _ _ d.l]at f1;cases f1
   have g2:x.2.1≠l:=λz=>by rw[z,n _ _ d.l]at f2;cases f2
   have g3:x.2.2≠l:=λz=>by rw[z,n _ _ d.l]at f3;cases f3
   have hxi:Ê1<=i:=by rw[d.n];exact Zqg ð i
   refine(_,rfl,.inl #[fm,og],_,rfl,l,_,_,rfl,rfl,og,Ç0,ÎY,?_,λb u I=>?_,e++[x],?_,λm fC=>?_)
   ·rw[Ze EX];exact J _ _ Z
   ·rw[h1,I,M,J,D,u]
   ·rw[Zn6 (g:=(f,S,F,)) r (by unfold UT;rw[È v,eR,hS];rfl)];refine(by rw[Zb,Qi];rfl,by rw[Qg,Qg,d.n];rfl,λj m g' k B=>?_);have Ė:Ud H4 m g'->m.1≠l->m.2.1≠l->m.2.2≠l->Ud (upd H4 l (.lst (e.map (λx=>ø x.1)++[.ref x.1]))) m g':=λh a b c=>(by rw[Ze a];exact h.t,by rw[Ze b];exact h.s,by rw[Ze c];exact h.f);by_cases hj:j<Ê1
    ·rw[QX hj]at k;rw[QX #[fE,d.n,hj]]at B;obtain a1|a2|a3:=G m (Qm k);exact Ė ((d.at' j m g' k B).same J) a1 a2 a3
    ·have hj2:j<Ê1+1:=by have:=(Ń k).1;rwa [Qg]at this
     have hji:j=Ê1:=by lia
     subst hji;rw[QW ò,Qbg]at k;rw[QW #[fs,d.n,Qd,_],d.n,Qbg]at B;cases k;cases B;exact Ė (h1,h2,h3) g1 g2 g3
   ·rcases ÿ fC with h|h
    ·exact G m h
    ·rw[ó h];exact(g1,g2,g3)
 ·rintro U t ⟨⟨W,X,Y,rfl⟩,Z,D,e,d,G⟩;rw[Aa,Qa,d];exact(_,rfl,q l e t D M d)
def Xq(z s:am)(m:Int):Ê:=decide Ó5&&ÓO λc=>decide (c∈s.cps.toList)
def MB:Sp:=λvs H Q _=>X3 λ(z s:am) (m:Int)=>C3 (vs=[.str z,.str s,.int m]) Ä7 (∀a,Zu H a->Q (.bl (Xq z s m)) a)
theorem Zsl(T:Ø):Df P w K mg Â 1 "_law_is_of" ÇG MB:=by
 rw[ey,T.t_l_is_of.df,ZmB,p,hr];obtain z|s|m|rfl|hz|q:=h;refine(_,#[Zh,#[Zl,(@Rr _ _ _ _ _ _ _ (@Rh _ _ _ _ _ _ _ _ _ _ _ _ WI WI Ú ÄR ‹2› Àd) (@Ua _ _ _ _ _ #[Zo,(K0 K),Ë,T.b.n_all,boot_all,#[Zd,#[W0,Sb,#[hQ,PP,0],#[gj,3,Sb],γ,(λ_ _ _ _=>#[WA,inS,#[cw,3,Sb],#[cv,1,Sb],Àd])]]]))]],?_);refine ÓS
 ·have a:=#[eQ,a];refine Úm
  ·have d:=ÀY;refine(_,rfl,z,rfl,λD l=>?_);refine ZoM (z:=z) (λj zs i e=>(∃v:Ã V,i=[aa ÀT,aa (.str s),aa (.int m),v])/\zs=((z.cps.toList.take j).map λc=>decide (c∈s.cps.toList)).map V.bl/\j<=Ć/\e D=aa Ε/\Zu H e) #[fn,l] ?_ ?_
   ·rintro j c zs i e n ⟨⟨v,rfl⟩,rfl,hj,g,k⟩;have r:Áw[j]? = aa c:=by rw[Qag];exact n
    have t:j<Ć:=(Q1.mp n).1;refine(_,rfl,_,rfl,c,s,rfl,rfl,g,Ó6,ā,?_,t,Zb,λb u o=>?_)
    ·rw[QI,r,Qi,Qi];rfl
    ·rw[ik,o,l,k,u]
   ·rw[hM,i,e,v,g,k];rw[Qy (È2 Qae)]at g;refine(D,_,rfl,É g,?_);have:=q e k;rw[tv,Xq];rw[û (a,d),Ó7]at this;rw[ÊX];rw[wr]
  ·rw[yU];rw[Ē #[gp,d,h.2],ËJ]at this;rw[wr]
 ·rw[yU];rw[Ē #[gp,a,h.1],ËJ]at this;exact(_,rfl,this)
def V5(z:am)(a b:Int):Ê:=Xq z "0123456789" 9&&!(decide (Ŕ[0]? = aa 48)&&decide (1<ÂO))&&decide Î0
theorem ZpR{z:am}{m:Int}(h:Xq z "0123456789" m=true):(∀c∈Áw,48<=c/\c<=57)/\1<=Ć/\ÂO<=m:=by unfold Xq at h;rw[QT]at h;have:=#[eQ,h.1];refine(λc b=>?_,by lia,this.2);have a:=ŋ (QY.mp h.2 c b);rw[show ("0123456789" : am).cps.toList=[48,49,50,51,52,53,54,55,56,57] by ac_rfl]at a;simp at a;omega
def GW:Sp:=λvs H Q _=>X3 λ(z:am) (a b:Int)=>C3 ÛC Ä7 (∀c,Zu H c->Q (.bl (V5 z a b)) c)
theorem Zo2(T:Ø)(t:Û1):Df P w K mg Â 2 "_law_number_fits" ÇH GW:=by
 rw[ey,T.t_l_number_fits.df,Zgu,u,v];obtain z|a|b|rfl|y|q:=h;refine(_,#[Zc,#[ZN,(@Ő _ _ _ #[Xb,(@Vo _ _ _ _ #[Xd,#[ZG,t,v,#[Zd,‹0›,Ý,Ú],Ë]]),#[Xc,(@Ő _ _ _ #[W5,ÛD,#[WU,#[f8,ÄR]]])]]),Ä6,ï],#[Zh,#[Zl,(@Rh _ _ _ _ _ _ _ _ _ _ _ _ WI WI ‹1› ÛE ‹2› Àd)]]],_,rfl,z, "0123456789",9,rfl,y,λe n=>?_);refine Êp;cases l:Xq z "0123456789" 9 with
 | false=>have:=q e n;rw[tv,V5];rw[l]at this;exact Y3 (Y3 this)
 | true =>
 rw[sX,hd,B,h9,ZpR,l];have o:0<Ć:=B;have C:∃c,Ŕ[0]? = aa c:=(Ŕ[0]'o,Qad o);rw[e2,c,p,C];have D:ÛF:=Ya (j:=0) #[eH,Qag,p];have F:ÎZ:=by ac_rfl
 have num:ÛG:=ÛH hd (λh=>by have:ÒL=Ć:=Qae;rw[h]at this;have:0=Ć:=this;lia) Á;have G:decide (Ŕ[0]? = aa 48)=decide Û2:=by rw[p,F,ÓT];refine(λh=>by cases h;rfl,λh=>?_);injection h with h;exact ÛI
 have d:=q e n;unfold V5 at d;rw[l,G,Ó7]at d;have g:(decide Û2&&decide (1<ÂO))=false->Q (.bl (decide Î0)) e:=λh=>by rw[h]at d;exact d
 have Č:∀h:Q (.bl (decide (a<=XR z/\XR z<=b))) e,LY (Ri Û3 Û3 (Vq 1) (tCB JH (Lu (Vq 0) UH)) (Vq 2)) { nx:=λx I=>Q V.non I,rt:=Q } (L2.start ÇH [Ç z,ß a,ß b]) e:=λh=>by
  refine(_,rfl,_,rfl,z,_,rfl,by lia,num,_,_,rfl,rfl,_,rfl,Z5 (λk=>?_) (λk=>?_))
  ·have k:=#[eQ,k];refine Û4;rw[show decide Î0=decide (XR z<=b) by rw[ÓT];exact(λh=>h.2,λh=>(k,h))]at h;exact h
  ·rw[Ē #[gp,k,h.1]]at h;exact h
 refine Y7 (_,rfl,_,_,_,rfl,rfl,ń Á,D,rfl,_,rfl,?_);cases m:decide (Ç ⟨#[c]⟩=Ç "0") with
 | false=>exact Y7 (Y7 (Č (g #[tr,m])))
 | true =>
  refine Y3 (_,rfl,z,rfl,ń Á,_,_,rfl,rfl,_,rfl,?_);cases r:decide ((1:Int)<(Ć:Int)) with
  | true=>rw[m,r]at d;exact Y3 d
  | false=>exact Y7 (Č (g (by rw[m,r];rfl)))
def WW(k z:am):Ê:=if k = "name" then Xq z "abcdefghijklmnopqrstuvwxyz" 8 else if k = "key" then decide (Ç z=Ç "-")||Xq z "abcdefghijklmnopqrstuvwxyz" 40 else if k = "many" then V5 z 0 1000000 else if k = "room" then V5 z 1 16 else if k = "ways" then V5 z 2 6 else V5 z 0 999999999
def GV:Sp:=λvs H Q _=>X2 λk z:am=>C4 #[Aw,k,z] (VO k) Ä7 (∀a,Zu H a->Q (.bl (WW k z)) a)
theorem ZmY(T:Ø)(L:Û1)(fM:#[e4,2,"_law_number_fits",ÇH,GW]):Df P w K mg Â 3 "_law_word_fits" ÍJ GV:=by
 rw[ey,T.t_l_word_fits.df,Se,vs,o];rw[g2,k,z,hk,y];refine(_,#[Zc,#[h7,2,Se.nd,Ý],#[Zc,#[ZN,Î1,#[z9,Û5],ï],#[Zc,#[ZN,Î1,#[Zh,#[Zl,(@LZ _ _ _ _ _ _ _ #[WA,Yu,‹1›,Ý,č] (@Ua _ _ _ _ _ Û5))]],ï],#[Zc,#[Yy,#[ZA,(ixG o),(@SI _ _ _ _ _ #[XF,Ý,#[ZS,#[Zd,Ú,#[tf,LN,Ú]]],#[XF,Ý,Ó8,#[XF,Ý,Ó8,#[XF,Ý,Ó8,(@SJ _ _)]]]] rfl rfl Ác #[eJ,4,15]),‹0›],#[eC,3,Se.nd,4]],#[Zh,#[Zl,#[ZG,fM,o,#[fK,1,3,4],Ë]]]]]]],?_);by_cases B:k = "name"
 ·subst B;exact(_,rfl,rfl,_,rfl,Y3 (_,rfl,_,rfl,z,_,8,rfl,y,q))
 by_cases C:k = "key"
 ·subst C;refine Î2;refine Óy;have ew:Û6:=by unfold WW;rw[rF]
  rw[ew]at q;rw[dJ];cases M:decide (Ç z=Ç "-") with
  | true=>rw[M]at q;exact Y3 (q H (Ãe _))
  | false=>rw[M]at q;exact Y7 (_,rfl,_,rfl,z,_,40,rfl,y,λH1 l=>q H1 l)
 refine(_,rfl,rfl,_,rfl,Z5 (λd=>Î Í1 #[gJ,B]) Èc);refine(_,rfl,rfl,_,rfl,Z5 (λd=>Î Í1 #[gJ,C]) Èc);refine λp N=>?_;refine(_,_,rfl,rfl,(by decide,by decide,by decide),Ť,λc O=>?_);refine(Ť,λe F=>(Ť,λg r=>(Ť,λi m=>?_)));have R:=Zf N ÅR;have S:#[hB,H,p] p=aa ÅR:=Zb;generalize upd H p (.dK [])=U at R S O F r m ⊢;have l:=Zf O Û7;have W:(upd U c Û7) c=aa #[fZ,0,1000000]:=Zb;generalize upd U c (.tup [ß 0,ß (10 ^ (6:Int).toNat)])=X at l W F r m ⊢;have v:=Zf F #[fZ,1,16];rw[uv,Y,X,e,1,16];generalize upd X e (.tup [ß 1,ß 16])=Z at v Y r m ⊢;have n:=Zf r #[fZ,2,6];rw[uv,g3,Z,g,2,6];generalize upd Z g (.tup [ß 2,ß 6])=G3 at n g3 m ⊢;have j:=Zf m #[fZ,0,999999999];rw[uv,g4,G3,i,0,999999999];generalize upd G3 i (.tup [ß 0,ß 999999999])=G at j g4 ⊢;have zd:=j _ _ (n _ _ (v _ _ (l _ _ S)));have sH:#[e8,b,u,H,u,G]:=λb u x=>j _ _ (n _ _ (v _ _ (l _ _ (R _ _ x))));refine(zd,[#[tU,"many",c],#[tU,"room",e],#[tU,"ways",g],#[tU,"size",i]],rfl,by show 4<=15;decide,?_);have em:WP [] Ó9=[(.inr "many",ø c,),#[tU,"room",e],#[tU,"ways",g],#[tU,"size",i]]:=by rfl
 rw[em];suffices I:X3 λ(t:af) (a b:Int)=>YW Ó9 (.inr k)=aa Âs/\G t=aa #[fZ,a,b]/\WW k z=V5 z a b by
  obtain t|a|b|e1|J|e3:=I;have nt:t≠p:=λh=>by rw[h,zd]at J;cases J
  have D:=Y0.k (k:=.inr k) (show (upd G p (.dK Ó9)) p=aa _ from Zb);rw[e1]at D;refine(_,rfl,p,.ref t,rfl,D,t,_,rfl,þ #[sE,nt,J],rfl,_,_,rfl,_,_,rfl,rfl,_,rfl,_,rfl,_,rfl,z,a,b,rfl,y,λH9 s9=>?_);rw[e3]at q;exact q H9 λb u x=>s9 _ _ (by rw[Ze (Zg x N)];exact sH b u x)
 rcases hk with rfl|rfl|rfl|rfl|rfl|rfl
 ·exact #[t2,B]
 ·exact #[t2,C]
 ·exact(c,0,1000000,by rfl,j _ _ (n _ _ (v _ _ W)),by rfl)
 ·exact(e,1,16,by rfl,j _ _ (n _ _ Y),by rfl)
 ·exact(g,2,6,by rfl,j _ _ g3,by rfl)
 ·exact(i,0,999999999,by rfl,g4,by rfl)
def kt(ss:Ï)(r:Int)(n:Int):À Key:=[.inl r,.inr (ÍZ ÀD ""),.inl n]
theorem Zum{ss:Ï}{n:Int}(h0:0<=n)(h:n<Àm):atI ÂQ n=aa (.str (ÍZ ÀD "")):=by
 have a:ÀD<Àm:=by lia
 have b:n=#[fC,ÀD]:=by lia
 have q:atI ÂQ #[fC,ÀD]=aa (.str ss[ÀD]):=Ya #[jg,a];rw[<- b]at q;rw[q,QJ,Qb a];rfl
def Wp(g:Ô)(l:af):À V:=if g=[] then [] else [.ref l]
structure AtW (ss:Ï) (H0 H:Hp) (ia ru nl:af) (ts:YG) (g:Ô):Prop where
 ins:H ia=aa #[fR,ZV,ts]
 att:AtT H ts
 key:∀t∈ts,∃n:Int,t.2=kt ss 0 n/\0<=n/\n<Àm
 cnt:Φ+Ã3=Àm
 run:H ru=aa (.lst (Wp g nl))
 hnl:g≠[]->H nl=aa #[sz,g.map]/\H0 nl=ah/\nl≠ru/\nl≠ia
 gb:∀n∈g,0<=n/\n<60
 ne:ia≠ru
 i0:H0 ia=ah
 r0:H0 ru=ah
 sm:Zu H0 H
def MA(K:Ä):Sp:=λvs H Q _=>X3 λ(a:af) (ss:À am) (room:Nat)=>C5 (vs=[.ref a,.int room]) ÇL (Àm<=room) (room<=60) (∀ (r l:af) (ns:À Int) (b:Hp),b r=aa (.lst (Wp ns l))->(ns≠[]->b l=aa (.lst Τ))->ď=Àm->(∀n∈ns,0<=n/\n<60)->Zu H b->Q Λ b)
theorem ZqZ(T:Ø):Df P w K mg Â 5 "runs_of" ÍM (MA K):=by
 rw[h6,T.t_runs_of.df,Vz];obtain a|j|room|rfl|hS|hsr|lV|q:=h;refine(_,#[Zc,#[Vj,2,Vz.nd,Tu,#[Vn,ÃD,#[Zd,#[Zo,(Rc rfl),Ë,ÊF,ÊG,#[Zd,‹1›,#[hv,0]]]]],#[gj,9,Tu],γ,(λ_ _ _ _=>#[ZS,#[Zd,Ú,#[ZA,(ixL K),#[cv,0,Tu],#[cw,9,Tu]],#[cw,9,Tu]]])],#[Zc,#[h7,3,Vz.nd,Æe],#[Zc,#[uj,4,Vz.nd],#[Zc,(@T7 _ _ _ _ _ _ Ž #[f8,Æe] #[Zc,#[Zq,5,Vz.nd,á,#[Zo,(Kx K hr),Ë,ÊF,ÊG,ÃG]],#[Zc,#[ZO,(@Lc _ _ _ _ _ _ _ _ _ _ _ _ QH PySem.F.slot_list_remove PySem.F.type_list_remove (Zxp hr) ‹2› #[Zd,‹5›] Ë Ë Ë Ë Ë)],#[Zc,#[Yy,‹5›,#[gt,6,Vz.nd,7,8]],(@Kd _ _ _ _ _ #[ZN,#[eL,Yu,6,Ê2],#[Zh,#[ZO,#[YF,K,QH,QN,QO,WR,‹4›,#[Zd,Èi]]]],ï] #[Zc,#[ZO,#[YF,K,QH,QN,QO,WR,#[t7,4,6],#[Zd,‹8›]]],#[Zh,#[ZN,#[Zn,WB,‹3›,#[hv,0],č],#[Zc,Æh,ÄV],ï]]])]]]),#[hJ,4]]]]],?_);have hl:#[e7,Ãn,Ç]=Ê3:=by rw[Qa]
 have nN:(if #[e7,Ãn,Ç]<(room:Int) then (((Ãn Ç).length:Nat):Int) else (room:Int))=Ê3:=by split<;>lia
 refine(_,rfl,_,rfl,a,_,rfl,.inl hS,_,_,rfl,?_);simp only[nN];refine(_,rfl,by lia,by lia,λD hD=>?_);rw[QaD];refine PR (λi zs r B=>(∃v:Ã V,r=[aa ą,aa Î4,ah,ah,ah,ah,ah,ah,ah,v])/\(∃c:YG,zs=ZV c/\AtT B c/\ë=i/\∀t∈c,∃n:Int,t.2=kt j 0 n/\0<=n/\n<ÀR)/\i<=ÀR/\B D=aa Ε/\Zu H B) ?_ ?_ ?_
 ·exact Û8
 ·rintro i zs r B hi ⟨⟨v,rfl⟩,⟨c,rfl,cn,gA,hk⟩,uS,G,I⟩;have nJ:atI (Ãn Ç) Ê4=aa (.str Û9):=Zum Á Á;refine(_,rfl,_,rfl,a,_,_,_,rfl,rfl,I.seq hS,nJ,_,rfl,Á6,λn sI=>?_);have sn:=Zf sI (.tup [.int 0,.str Û9,.int Ê4]);have ig:=sn _ _ G;have px:D≠n:=Zg G sI;refine(ig,(by unfold ZV;rw[Qa,gA];exact ZD Á),ā,(c++[(n,kt j 0 Ê4,)],by unfold ZV;rw[Qi];rfl,λt ht=>?_,by rw[Qg,gA];rfl,λt ht=>?_),by lia,Zb,λb o l=>?_)
  ·rcases ÿ ht with ht|ht
   ·exact U2 ig _ _ _ (sn _ _ (cn t ht))
   ·rw[ó ht,Ze px.symm];exact Zb
  ·rcases ÿ ht with ht|ht
   ·exact hk t ht
   ·rw[ó ht];exact(_,rfl,by lia,by lia)
  ·rw[h1,l,hD,sn,I,o]
 rintro zs r B ⟨⟨v,rfl⟩,⟨ze,rfl,uo,rL,xg⟩,_,G,I⟩;have J:#[e7,ZV,ze]=Ê3:=by unfold ZV;rw[Qa,rL]
 refine(_,rfl,D,_,rfl,.inl (É G),?_);simp only[J];rw[s6,Áe,k,L];have nDr:D≠k:=Zg G L;have s3:=I.trans (Zf L ÀB);have sJ:AtW j H (upd B k ÀB) D k k ze []:=(Zf L _ _ _ G,Í8 uo (Zf L _),xg,by rw[rL];rfl,Zb,λh=>Î rfl h,#[fk,n,h],nDr,hD,š L,s3);generalize upd B k (.lst [])=H3 at sJ ⊢;refine(λm r p=>X7 λ(c:YG) (x:af) (g:À Int) (v5 v6 v7 v8:Ã V)=>r=[aa ą,aa Î4,aa Ū,aa (.int Ê3),aa (.ref k),v5,v6,v7,v8]/\AtW j H p D k x c g/\m=ë,(_,ze,k,[],ah,ah,ah,ah,rfl,sJ,rfl),?_);rintro m r p ⟨c,x,g,v5,v6,v7,v8,rfl,h,rfl⟩;have hcnt:=h.cnt;rw[gE,D,h.ins]
 ·have M:ÁQ<#[e7,ZV,c]:=ÀY;have eM:0<ë:=by unfold ZV at M;rw[Qa]at M;lia
  refine Îx;have N:c≠[]:=λz=>by rw[z]at eM;simp at eM
  refine(_,rfl,D,c,[true,false,true],rfl,É h.ins,h.att,N,(λt ht=>by obtain n|e|_:=Áh t ht;rw[e];rfl),λt ht _=>?_);obtain n|et|n0|n1:=Áh t ht;refine(_,rfl,.inl #[fm,h.ins],_,rfl,D,c,t,rfl,rfl,h.ins,h.att,ht,by lia,λi hi tQ=>?_);have CC:=h.att t ht;rw[et]at CC;have zg:Èm t.1=aa (.tup [.int 0,.str (j.getD ÀD ""),.int n]):=U2 h.ins _ _ _ CC;have tl1:(Üa).length+1=ë:=by rw[List.length_eraseIdx_of_lt hi];lia
  have O:Èm D=aa (.lst (ZV Üa)):=Zb;have lJ:AtT Èm Üa:=λu R=>U2 h.ins _ _ _ (h.att u (Üb R));have run1:Èm k=aa (.lst (Wp g x)):=by rw[Ze h.ne.symm];exact h.run
  have S:g≠[]->Èm x=aa #[sz,g.map]:=λz=>by rw[Ze (h.hnl z).2.2.2];exact(h.hnl z).1
  have Bi:Zu H Èm:=λb o l=>by rw[Ze (Zg l h.i0)];exact h.sm b o l
  have rM:∀t∈Ê5 i,∃n:Int,t.2=kt j 0 n/\0<=n/\n<ÀR:=λt ht=>Áh t (Üb ht);generalize upd p D (.lst (ZV (Ê5 i)))=H5 at zg O lJ run1 S Bi ⊢;generalize Ê5 i=wX at O lJ rM tl1 ⊢;refine(_,rfl,t.1,_,rfl,þ zg,rfl,_,_,rfl,_,_,rfl,_,_,rfl,rfl,?_);have j6:((Wp g x).length:Int)=if g=[] then 0 else 1:=by unfold Wp;split<;>rfl
  refine(λr y=>∃U:af,r=[aa ą,aa Î4,aa Ū,aa (.int Ê3),aa (.ref k),aa (.ref t.1),aa (.int 0),aa (.str (j.getD ÀD "")),aa ÅT]/\y D=aa #[fR,ZV,wX]/\AtT y wX/\y k=aa #[tL,U]/\y U=aa #[sz,g.map]/\Zu H y/\U≠k/\U≠D/\H U=ah,?_,?_)
  ·refine(_,rfl,_,rfl,k,_,rfl,.inl (É run1),rfl,_,rfl,?_);by_cases C:g=[]
   ·subst C;refine Xu rfl ?_;refine(_,rfl,.inl #[fm,run1],Áe,λnw W=>(k,_,_,rfl,rfl,Zf W _ _ _ run1,#[hh,0,aq],?_));have Bj:=Zf W ÀB;have X:k≠nw:=Zg run1 W;have px:D≠nw:=Zg O W;refine(nw,rfl,by rw[Ze h.ne];exact Bj _ _ O,λu R=>U2 (Bj _ _ run1) _ _ _ (Bj _ _ (lJ u R)),by rw[Zb];rfl,by rw[Ze X.symm];exact Zb,λb o l=>by rw[Ze (Zg l h.r0)];exact Bj _ _ (Bi b o l),X.symm,px.symm,Bi.free W)
   ·refine XS (λz=>by rw[j6,È C]at z;cases z) ?_;have o1:Wp g x=[.ref x]:=È C;rw[o1]at run1;exact(x,rfl,O,lJ,run1,S C,Bi,(h.hnl C).2.2.1,(h.hnl C).2.2.2,(h.hnl C).2.1)
  rintro r y ⟨F,rfl,Y,wG,CD,fB,sm2,Z,nD2,h02⟩;have lK:atI [ø F] ÁQ=aa (.ref F):=rfl;refine(_,rfl,_,rfl,k,_,_,_,rfl,rfl,É CD,lK,Zvq fB,_,rfl,F,_,_,rfl,rfl,fB,Ç0,?_);have sm3:Zu H Üc:=λb o l=>by rw[Ze (Zg l h02)];exact sm2 b o l
  have at3:AtW j H Üc D k F wX (g++[n]):=by
   refine(by rw[Ze nD2.symm];exact Y,λu R=>U2 fB _ _ _ (wG u R),rM,by rw[Qg,QC];lia,?_,λ_=>(by rw[Zb,Qi];rfl,h02,Z,nD2),λm hm=>?_,h.ne,h.i0,h.r0,sm3)
   ·rw[Ze Z.symm,CD];unfold Wp;rw[ti,Ù]
   ·rcases ÿ hm with hm|hm
    ·exact h.gb m hm
    ·rw[ó hm];lia
  refine(_,rfl,_,rfl,a,_,rfl,.inl (sm3.seq hS),_,_,rfl,rfl,_,rfl,Z5 (λd2=>?_) (λd2=>?_))
  ·have:=#[eQ,d2];lia
  ·exact(_,by lia,wX,F,g++[n],_,_,_,_,rfl,at3,rfl)
 ·have M:¬ ÁQ<#[e7,ZV,c]:=Å6;have h0:ë=0:=by unfold ZV at M;rw[Qa]at M;lia
  exact(_,rfl,q k x g p h.run (λz=>(h.hnl z).1) Á h.gb h.sm)
def Xg:V->À am
 | .str k=>[k]
 | _=>[]
theorem RA{c lo n:Nat}:c∈(À7 n).map (·+lo)↔lo<=c/\c<lo+n:=by rw[List.mem_map];exact(λ⟨i,a,e⟩=>by have:=QaE.mp a;lia,λ⟨h1,h2⟩=>(c-lo,Ëk Á,by lia))
theorem GU(z:am)(m:Int):Xq z "abcdefghijklmnopqrstuvwxyz" m=(decide Ó5&&btw 97 122 z):=by unfold Xq btw;rw[show ("abcdefghijklmnopqrstuvwxyz" : am).cps.toList=(À7 26).map (·+97) by ac_rfl];congr 2;funext c;exact Äz ⟨λh=>by have:=RA.mp h;lia,λh=>RA.mpr Á⟩
theorem Zs7(z:am)(m:Int):Xq z "0123456789" m=(decide Ó5&&btw 48 57 z):=by unfold Xq btw;rw[show ("0123456789" : am).cps.toList=(À7 10).map (·+48) by ac_rfl];congr 2;funext c;exact Äz ⟨λh=>by have:=RA.mp h;lia,λh=>RA.mpr Á⟩
theorem Mz{c:Prop}[Æ2 c]{v:V}(a:eqV v .non=false):(!eqV (if c then v else .non) .non)=decide c:=by
 by_cases h:c
 ·rw[Æ h,a,û h];rfl
 ·rw[È h,Ē h];rfl
theorem GS{z:am}:Ć=0↔Ç z=Ç "":=(λh=>ħ Ç (MF h),λh=>by injection h with h;rw[h];decide)
theorem GR{z:am}(h:Ŕ[0]? = aa 48):z ≠ "0"↔1<Ć:=by
 have c:ÎZ:=by ac_rfl
 refine(λn=>?_,λn e=>by rw[e]at n;exact Î n Å);obtain⟨⟨l⟩⟩:=z;cases l with
 | nil=>cases h
 | Ñ a r =>
  cases r with
  | nil=>have:aa a=aa 48:=h;cases this;exact Î c.symm n
  | Ñ b r=>show 1<(a::b::r).length;simp
theorem Rz(z:am)(a b:Int):V5 z a b = !eqV (V6 z a b) .non:=by
 unfold V6;rw[Mz rfl];unfold V5 Uf;rw[Zs7];by_cases e:Ć=0
 ·rw[Ē (show ¬ (1<=ÂO/\ÂO<=9) by lia),û (GS.mp e)];symm;simp
 ·rw[Ē (λh=>e (GS.mpr h))];cases hb:btw 48 57 z with
  | false=>simp
  | true =>
   rw[Qar];simp only[Bool.and_true,Èu,Ãs,Ú3,Ù4,ØM,Bool.not_false];constructor
   ·rintro⟨⟨g,h2⟩,d⟩;refine(trivial,by lia,λ⟨c,f⟩=>?_,d);have:=(GR c).mp f;rcases h2 with h2|h2
    ·exact h2 c
    ·lia
   ·rintro⟨_,g,h2,d⟩;refine(((by lia,by lia),?_),d);by_cases c:Ŕ[0]? = aa 48
    ·refine .inr λf=>h2 (c,(GR c).mpr Á)
    ·exact .inl c
theorem GQ{k z:am}(hk:VO k):WW k z = !eqV (Wq k z) .non:=by
 have a:∀m:Nat,(decide (1<=ÂO/\ÂO<=(m:Int))&&btw 97 122 z)=decide (btw 97 122 z=true/\1<=Ć/\Ć<=m):=λm=>by
  rw[Qar];simp only[Èu,Ãs];constructor
  ·rintro⟨b,c⟩;exact(c,by lia,by lia)
  ·rintro⟨b,c,h3⟩;exact((by lia,by lia),b)
 rcases hk with rfl|rfl|rfl|rfl|rfl|rfl
 ·show Xq z _ 8 = !eqV (UV z) .non;unfold UV;rw[Mz rfl,GU,<- a 8];rfl
 ·have e:Û6:=by unfold WW;rw[rF]
  have d:Wq "key" z=UU z:=by unfold Wq;rw[rF]
  rw[e,d];unfold UU;by_cases h:z = "-"
  ·rw[Æ h,û (ħ Ç h)];rfl
  ·rw[È h,Ē (λg=>h (by injection g)),Mz rfl,GU,Bool.false_or,<- a 40];rfl
 ·exact Rz z 0 1000000
 ·exact Rz z 1 16
 ·exact Rz z 2 6
 ·exact Rz z 0 999999999
theorem ZvE{ks os:Ï}(hk:∀k∈ks,VO k):((ÅA os).all λp=>WW p.1 p.2) = !inV .non (XV ks os):=by unfold inV XV;rw[Ò4,Üd,Qar,QY,QY];have:∀p∈ÅA os,WW p.1 p.2 = !eqV (Wq p.1 p.2) .non:=λp a=>GQ (hk _ #[ru].1);exact(λh p a=>by have:=this p a;have g:=h p a;rw[this]at g;exact g,λh p a=>by rw[this p a];exact h p a)
theorem GP(k:am):∀ (os:À am),(Ġ Ĭ k).zip os=Ä8 λz=>(k,z,)
 | []=>rfl
 | z::r=>ħ (List.cons (k,z,)) (GP k r)
theorem Zs5{k:am}{os:Ï}(n:Nat)(hk:VO k):((ÃQ n).all λz=>WW k z) = !inV .non ((ÃQ n).map (Ue Ä9)):=by unfold inV;rw[Ò4,Üd];congr 1;funext z;exact GQ hk
theorem ZpA{f:am}{os ks:Ï}{a:V}(h:Î5)(hl:ō<=Ĭ)(hm:X0 a Ôa=true) :
  (((ks++(Xg a).flatMap Ôb).zip os).all λp=>WW p.1 p.2)=(XU f os).isSome:=by
 rw[sX,k2,kk,b,MD,h];unfold XU;rw[h];show _=Option.isSome (if Ĭ<ō\/X0 a Ôa=false then ah else if inV .non (XV ks os)=true\/inV .non (XQ ks os a)=true then ah else aa (XV ks os,XQ ks os a,));rw[È (by rw[hm];rintro(h|h);lia;cases h)];generalize c:(Xg a).flatMap (Ġ (Ĭ-ō))=F;have lt:(Üe).length=ō:=by rw[Qx];lia
 have d:(ks++F).zip os=ÅA Üe++F.zip Ôc:=by have h:=Üf (l₁:=ks) (r₁:=F) (l₂:=os.take ō) (r₂:=ÃQ ō) lt.symm;rwa [QaP]at h
 have e:ÅA Üe=ÅA os:=by have h:=Üf (l₁:=ks) (r₁:=[]) (l₂:=os.take ō) (r₂:=ÃQ ō) lt.symm;rw[QaP,QV,Øk,QV]at h;exact h.symm
 have g:(F.zip Ôc).all (λp=>WW p.1 p.2) = !inV .non (XQ ks os a):=by
  rw[<- c];have dl:(Ôc).length=Ĭ-ō:=QL ..;have go:∀k,VO k->(((Xg Ä9).flatMap Ôb).zip Ôc).all (λp=>WW p.1 p.2) = !inV .non (XQ ks os Ä9):=λk i=>by
   have:(Xg Ä9).flatMap Ôb=Ġ (Ôc).length k:=by show Ġ _ k++[]=_;rw[QV,dl]
   rw[this,GP,ÊX];exact Zs5 ō i
  rcases b with rfl|rfl|rfl
  ·have j:Ĭ-ō=0:=by have:X0 .non Ôa=decide (ÁK-(ō:Int)=0):=Æ rfl;rw[this]at hm;have:=#[eQ,hm];lia
   have l:ÃQ ō=[]:=ÊO #[eH,dl,j];unfold XQ;rw[l];rfl
  ·exact go _ Îe
  ·exact go _ (.inr ÓY)
 rw[d,List.all_append,g,e,ZvE kk];cases inV .non (XV ks os)<;>cases inV .non (XQ ks os a)<;>rfl
theorem Mx{f:am}{ks:Ï}{a:V}(h:Î5):(ks=#[s4,"name"]/\a=.str "key")\/(ks=#[s4,"name"]/\a=.non)\/(ks=[]/\a=.non)\/(ks=#[s4,"many"]/\a=.non)\/(ks=#[s4,"room"]/\a=.str "key")\/(ks=([("room" : am), "ways"]:À am)/\a=.str "key")\/(ks=#[s4,"ways"]/\a=.str "size"):=by
 unfold Xr at h;by_cases e:f = "row"
 ·rw[I];exact .inl Ο
 rw[W];by_cases e:f = "grow"
 ·rw[I];exact .inl Ο
 rw[W];by_cases e:f = "drop"
 ·rw[I];exact .inr (.inl Ο)
 rw[W];by_cases e:f = "coming"
 ·rw[mX]
 rw[W];by_cases e:f = "take"
 ·rw[I];rw[ug,Î6]
 rw[W];by_cases e:f = "left"
 ·rw[mX]
 rw[W];by_cases e:f = "counts"
 ·rw[mX]
 rw[W];by_cases e:f = "rows"
 ·rw[mX]
 rw[W];by_cases e:f = "runs"
 ·rw[I];exact .inr (.inr (.inr Î6))
 rw[W];by_cases e:f = "sort"
 ·rw[I];exact .inr (.inr (.inr (.inr Î6)))
 rw[W];by_cases e:f = "free"
 ·rw[lZ]
 rw[W];by_cases e:f = "near"
 ·rw[lZ]
 rw[W];cases h
theorem Zoz{f:am}{ks:Ï}{a:V}(h:Î5):∃L:À am,ż<=1/\Yh ((ks++Xg a).map Ç) (aa (-1)) ah=ŏ Ç/\([aQ.list [.str "key"],.list [.str "size"]].any λe=>aQ.eqv e (.list Î7))=(!(Xg a).isEmpty)/\SeqAt.shaped (.list Î7)=true/\(aQ.list Î7).depth<=60:=by
 rcases Mx h with⟨rfl,rfl⟩|⟨rfl,rfl⟩|⟨rfl,rfl⟩|⟨rfl,rfl⟩|⟨rfl,rfl⟩|⟨rfl,rfl⟩|⟨rfl,rfl⟩
 ·exact Ôd
 ·rw[hq,"name"]
 ·exact([],by decide,by rfl,by ac_rfl,by ac_rfl,by ac_rfl)
 ·rw[hq,"many"]
 ·exact Ôd
 ·exact Ôd
 ·rw[hq,"size"]
theorem Zrh{f:am}{ks:Ï}{a:V}(h:Î5):Yh ((ks++Xg a).map Ç) ah (aa (-1))=Áx Ç\/a=.non:=by
 rcases Mx h with⟨rfl,rfl⟩|⟨rfl,rfl⟩|⟨rfl,rfl⟩|⟨rfl,rfl⟩|⟨rfl,rfl⟩|⟨rfl,rfl⟩|⟨rfl,rfl⟩
 ·exact .inl Ë
 ·exact À3
 ·exact À3
 ·exact À3
 ·exact .inl Ë
 ·exact .inl Ë
 ·exact .inl Ë
def Ta(l:#[hG,am])(f:am):Ã am:=#[iZ,l.find?,e,e.1,f].map Ĩ
def fvL:À (am×am):=[("row", "name key",),("grow", "name key",),("drop", "name",),("coming", "",),("take", "many",),("left", "",),("counts", "",),("rows", "",),("runs", "room key",),("sort", "room ways key",),("free", "ways size",),("near", "ways size",)]
def YU(l:#[hG,am]):À ÂI:=Á1 λe=>(.inr e.1,.str e.2,)
theorem ZsM(l:#[hG,am])(f:am):YW (YU l) (.inr f)=(Ta l f).map Ç:=by
 unfold YW YU Ta;rw[List.find?_map,Option.map_map,Option.map_map];have e:((λa:Key×V=>decide (a.1=.inr f)) ∘ λe:am×am=>((.inr e.1:Key),Ç e.2,))=λe:am×am=>decide (e.1=f):=by funext e;exact Äz ⟨λh=>Ëc h,λh=>ħ Âi h⟩
 rw[e];rfl
theorem ZvD(f:am):(Xr f=ah/\Ta fvL f=ah)\/X3 λks d t=>Xr f=aa (ks,d,)/\Ta fvL f=aa t/\(if t = "" then [] else Àk t " ")=ks++Xg d/\t.length<=20:=by
 unfold Xr;by_cases e:f = "row"
 ·rw[eI,e,"name key"]
 rw[ti,e];by_cases g:f = "grow"
 ·rw[eI,g,"name key"]
 rw[ti,g];by_cases i:f = "drop"
 ·rw[eI,i,"name"]
 rw[ti,i];by_cases j:f = "coming"
 ·subst j;rw[80]
 rw[ti,j];by_cases k:f = "take"
 ·rw[eI,k,"many"]
 rw[ti,k];by_cases l:f = "left"
 ·subst l;rw[80]
 rw[ti,l];by_cases m:f = "counts"
 ·subst m;rw[80]
 rw[ti,m];by_cases n:f = "rows"
 ·subst n;rw[80]
 rw[ti,n];by_cases o:f = "runs"
 ·rw[eI,o,"room key"]
 rw[ti,o];by_cases a:f = "sort"
 ·rw[eI,a,"room ways key"]
 rw[ti,a];by_cases b:f = "free"
 ·rw[eI,b,"ways size"]
 rw[ti,b];by_cases c:f = "near"
 ·rw[eI,c,"ways size"]
 rw[ti,c];refine .inl Ãl;unfold Ta;rw[List.find?_eq_none.mpr λx p=>?_]
 ·rfl
 ·simp only[fvL,Âe,Är,Äs]at p;rcases p with rfl|rfl|rfl|rfl|rfl|rfl|rfl|rfl|rfl|rfl|rfl|rfl<;>exact λh=>Î (ŋ h).symm ‹_›
theorem ZuG{c:Ê}{e:(Ê->Hp->Prop)->Prop}{T:Ê->Hp->Prop}{H:Hp}(b:Ê)(h1:c=true->∀a:Ê->Hp->Prop,a b H->e a)(h2:c=false->b=false)(q:T b H):if c=true then e T else T false H:=by
 cases c with
 | true=>rw[Æ rfl];exact h1 rfl T q
 | false=>rw[È Å,<- h2 rfl];exact q
theorem Zru(n:Nat)(k:am):(Ġ n [Ç k]).flatten=(Ġ n k).map Ç:=by
 induction n with
 | zero=>rfl
 | succ n a=>rw[Qan,QaU,a];rfl
def GO(K:Ä)(b:af):Sp:=λvs H Q _=>∃r:am,C3 #[jf,r] (Vs K b r) (∀a,Zu H a->Q (.bl (W6 r).isSome) a)
theorem Ztg(T:Ø)(gM:Df P w K mg Â 3 "_law_word_fits" ÍJ GV):Df P w K mg Â 4 "_law_fits" ÍK (GO K ç):=by
 rw[h6,T.t_l_fits.df,Vb];obtain r|rfl|⟨gz,f,os,eT,hos,j6,_⟩|q:=h;refine(_,#[Zc,#[h7,1,Vb.nd,ÓU],#[Zc,#[Zq,2,Vb.nd,á,(@SI _ _ _ _ _ #[XF,Ý,Ý,#[XF,Ý,Ý,Üg]] rfl rfl Ác #[eJ,6,15])],#[Zc,#[ZO,#[YF,K,Q9,Qa1,Üh,JF,‹2›,#[Zd,(@SI _ _ _ _ _ Üg rfl rfl Ác #[eJ,4,15])]]],#[Zc,#[ZO,#[YF,K,Q9,Qa1,Üh,JF,‹2›,#[Zd,(@SI _ _ _ _ _ Üi rfl rfl Ác #[eJ,2,15])]]],#[Zc,#[ZN,#[Zn,(TU hr),ÁH,‹2›,Àd],Ä6,ï],#[Zc,#[Zq,3,Vb.nd,á,#[Yb,#[Zn,V2,Üj,Ý,č],#[YF,K,QZ,Qav,Qaw,TM,Üj,#[Zd,Ý]],Èi]],#[Zc,#[Zq,4,Vb.nd,á,#[Wz,(slL K),‹1›,(@Wl _ _ _ Ú),(@VJ _)]],(@Kd _ _ _ _ _ #[ZN,#[Zn,(Zxr K hr),#[Wz,(slL K),‹3›,(@Wl _ _ _ ÇN),(@VJ _)],#[ZS,#[Zd,#[Z2,#[Zd,Ý]],#[Z2,#[Zd,Ý]]]],Àd],#[Zc,#[Zq,5,Vb.nd,á,#[ZB,XZ,#[tf,W4,Ä1],#[Xx,LD,ÍV,ÍW,#[Zd,#[WA,Yu,#[h0,3],Ý,č]]]]],#[Zc,#[ZN,(@Ő _ _ _ #[Xb,#[Zn,WB,Ê2,‹5›,č],#[Xc,(@Ő _ _ _ #[W5,#[Zn,Yu,#[h0,3],Ý,č],#[WU,#[f8,Ê2]]])]]),Ä6,ï],#[Zh,#[Zq,3,Vb.nd,á,#[ZB,Xn,#[Wz,(slL K),‹3›,(@VJ _),(@Wl _ _ _ ÇN)],#[ZB,Zvn,#[Z2,#[Zd,#[h0,3]]],#[ZB,XZ,#[ZB,W4,Ê2,Ä1],Ú]]]]]]],ï] #[Zh,#[Zl,(@Rr _ _ _ _ _ _ _ #[WA,Yu,Ä1,Ê2,č] (@Ua _ _ _ _ _ #[Zo,(K0 K),Ë,T.b.n_all,boot_all,#[Zd,#[W0,Uq,(@iZ _ K _ _ _ _ _ _ _ _ T.b.n_zip #[fB,3,4] Ë Ë Ë Ë),#[fb,6,Uq,7],γ,(λ_ _ _ _=>#[ZG,gM,hr,#[ub,6,Uq,7],#[tD,Uq]])]]]))]])]]]]]]],?_);refine(_,rfl,rfl,r, " ",rfl,rfl,ä,ń Á,ÛO,λa ha=>?_);rw[eT];have s1:=Zf ha #[ia,f];have u0:(upd H a #[ia,f]) a=aa #[ia,f]:=Zb;generalize upd H a (.lst ((f::os).map Ç))=W at s1 u0 ⊢;refine λp hp=>(Zb,YU Î8,rfl,by show 6<=15;decide,?_);rw[z6,Î8];have s2:Zu W #[iM,W,p,ÃR,6]:=λb u l=>by rw[Ze (Zg l hp),Ze (Zg l hp)];exact l
 have iG:#[iM,W,p,ÃR,6] p=aa (.dK (YU Î8)):=Zb;generalize upd (upd W p (.dK [])) p (.dK (YU (ÃR 6)))=H2 at s2 iG ⊢;refine(_,rfl,.inr #[hp,iG],λM gO=>(Zb,YU Ôe,rfl,by show 4<=15;decide,?_));rw[z6,Ôe];have E1:p≠M:=Zg iG gO;refine(p,M,_,_,rfl,rfl,(by rw[Ze E1,Ze E1];exact iG),Zb,E1,Å,Å,?_);rw[show WP (YU Î8) (YU Ôe)=YU (ÃR 10) by rfl];have s3:#[e8,b,u,W,u,Ük]:=λb u l=>by rw[Ze (Zg l hp),Ze (Zg (s2 b u l) gO),Ze (Zg (s2 b u l) gO)];exact s2 b u l
 have kj:Ük p=aa (.dK (YU (ÃR 10))):=Zb;generalize upd (upd (upd H2 M (.dK [])) M (.dK (YU ((Èn 6).take 4)))) p (.dK (YU (ÃR 10)))=H3 at s3 kj ⊢;refine(_,rfl,.inr #[hp,kj],λN zj=>(Zb,YU Ôf,rfl,by show 2<=15;decide,?_));rw[z6,Ôf];have E3:p≠N:=Zg kj zj;refine(p,N,_,_,rfl,rfl,(by rw[Ze E3,Ze E3];exact kj),Zb,E3,Å,Å,?_);rw[show WP (YU (ÃR 10)) (YU Ôf)=YU fvL by rfl];have s4:∀b u,W b=aa u->Ül b=aa u:=λb u l=>by rw[Ze (Zg l hp),Ze (Zg (s3 b u l) zj),Ze (Zg (s3 b u l) zj)];exact s3 b u l
 have zd:Ül p=aa (.dK (YU fvL)):=Zb;generalize upd (upd (upd H3 N (.dK [])) N (.dK (YU (Èn 10)))) p (.dK (YU fvL))=H4 at s4 zd ⊢;have ur:=s4 _ _ u0;have jJ:Zu H H4:=λb u l=>s4 b u (s1 b u l);have sJ:atI #[iv,f] 0=aa (.str f):=Ya (j:=0) rfl;have D:=Y0.k (k:=.inr f) zd;rw[ZsM]at D;refine(_,rfl,a,_,_,_,rfl,rfl,É ur,sJ,_,rfl,p,_,rfl,D,_,rfl,?_);rcases ZvD f with⟨F,h2⟩|⟨c,n,t,F,h2,h3,h20⟩
 ·rw[h2];refine Y3 ?_;have:=q H4 jJ;rw[show W6 r=ah by unfold W6;rw[eT];show (XU f os).map _=ah;unfold XU;rw[F];rfl]at this;rw[wr]
 rw[h2]at D ⊢;refine Y7 ?_;have eO:XU f os=if Ĭ<ë\/X0 n ÃP=false then ah else if inV .non ÓW=true\/inV .non (XQ c os n)=true then ah else aa (XV c os,XQ c os n,):=by unfold XU;rw[F]
 rw[sX,G,kk,kf,MD,F];refine(_,rfl,_,rfl,a,_,_,_,rfl,rfl,É ur,sJ,p,_,rfl,D,rfl,_,rfl,?_);refine Ib (λv H5=>∃m:af,v=.ref m/\H5 m=aa (.lst ((c++Xg n).map Ç))/\Zu H4 H5) #[io,d,Q',hq] #[io,d,Q',hq] #[io,v,H5,hv]
 ·have ht:¬ t = "":=λz=>by rw[z]at d;exact Î d Å
  rw[sR,ht,h3];refine(_,rfl,_,rfl,a,_,_,_,rfl,rfl,É ur,sJ,p,_,rfl,D,rfl,t, " ",rfl,rfl,ä,ń Á,(by rw[h3,Qg];have:(Xg n).length<=1:=(by cases n<;>first|exact Qp _|exact Qd _);exact ń Á),λm cT=>?_);rw[h3];exact hq _ _ (m,rfl,Zb,Zf cT _)
 ·have ht:t = "":=by
   have:decide (Ç t=Ç "")=true:=by
    cases l:decide (Ç t=Ç "") with
    | true=>rfl
    | false=>rw[l]at d;cases d
   have:=ŋ this;rw[yS]
  rw[tM,ht,h3];rw[s6,Áe,m,cT];exact hq _ _ (m,rfl,by rw[<- h3];exact Zb,Zf cT _)
 obtain m|rfl|cT|s5:=hv;have zk:=s5 _ _ ur;refine(_,rfl,_,rfl,a,_,rfl,É zk,λB gA=>?_);rw[show Yh #[iv,f] (aa 1) ah=Ä8 Ç from(HM (f::os) 1 Ù).2];have s6:=Zf gA Èj;rw[sr,zl,H5,B,Èj];have wH:=s6 _ _ cT;have xq:=(jJ.trans s5).trans s6;generalize upd H5 B (.lst (Ä8 Ç))=H6 at s6 zl wH xq ⊢;obtain L|hL1|za|Ci|fQ|hdp:=Zoz F;refine(λX I=>X3 λ(Y:af) (o:À am) (v:Ã V)=>X=[aa (.str r),aa ą,aa Ś,aa (.ref Y),aa Ãy,v]/\o=c++(Xg n).flatMap #[jc,ë]/\I Y=aa #[iI,o.map]/\I B=aa Èj/\Zu H I/\(n≠.non->ë<=Ĭ/\X0 n ÃP=true),?_,?_)
 ·rw[hd,m,wH,ll,sF];rw[za];have Z:=Zf sF #[iI,ŏ];rw[fU,CF,H6,ll,ŏ,Ç];have CG:=Z _ _ wH;have rN:=Z _ _ zl;have Bk:=xq.trans Z;clear Z wH zl s6 xq sF;generalize upd H6 ll (.lst (ŏ Ç))=I at CF CG rN Bk ⊢;refine(Æk,λO iB=>(Æk,λG jD=>(Ť,λtt jt=>?_)));have s8:=Zf iB #[jh,"key"];rw[jq,h8,I,O,"key"];generalize upd I O (.lst [.str "key"])=S at s8 h8 jD jt ⊢;have s9:=Zf jD #[jh,"size"];rw[jq,h9,S,G,"size"];have h89:=s9 _ _ h8;generalize upd S G (.lst [.str "size"])=H9 at s9 h9 h89 jt ⊢;have gv:=Zf jt Ôg;have rS:(upd H9 tt Ôg) tt=aa Ôg:=Zb;have h9':=gv _ _ h9;have CH:=gv _ _ h89;have ut:=(s8.trans s9).trans gv;generalize upd H9 tt (.tup [.ref O,.ref G])=gg at rS h9' CH ut ⊢;have R:=ut _ _ CG;have uu:=ut _ _ rN;have zm:=Bk.trans ut;refine(tt,#[h4,O,G],[.list [.str "key"],.list [.str "size"]],.list Î7,rfl,þ rS,.cons (.lst (É CH) (.cons (.str _) .nil)) (.cons (.lst (É h9') (.cons (.str _) .nil)) .nil),.lst #[An,ut,CF] (Jd L),ä,fQ,hdp,_,rfl,?_);rw[Ci];rcases kf with rfl|kf
  ·exact Y7 (m,c,_,rfl,by simp[Xg],by rw[show c++Xg V.non=c from QV c]at R;exact R,uu,zm,λh=>Î rfl h)
  obtain⟨k,ek,hk⟩:∃k:am,n=.str k/\(k = "key"\/k = "size"):=kf.elim (λh=>(_,h,.inl rfl)) λh=>(_,h,.inr rfl);subst ek;refine Y3 ?_;have U:(Ü0).length=ë+1:=by rw[Qa,Qg];rfl
  have rO:(ÛS).length=Ĭ:=Qa ..;have vt:atI Ü0 (-1)=aa Ä9:=HN (by rw[U,Qi,Qay,QW #[fs,Qa,Qd,_],Qa,Qbg];rfl) #[fH,U];have zn:X0 Ä9 ÃP=if decide (Ç k=Ç "size")=true then decide (1<=ÁK-ÀK/\ÁK-ÀK<=12) else true:=by
   rcases hk with rfl|rfl
   ·rfl
   ·rfl
  have sw:decide (Ç k=Ç "size")=true->ë=1:=λh=>by
   have e:=#[eQ,h];rcases Mx F with⟨rfl,g⟩|⟨rfl,g⟩|⟨rfl,g⟩|⟨rfl,g⟩|⟨rfl,g⟩|⟨rfl,g⟩|⟨rfl,g⟩
   ·rfl
   ·rfl
   ·cases g
   ·rfl
   ·rfl
   ·rw[g]at e;injection e with e;exact Î e ä
   ·rfl
  generalize hbk:decide (Ç k=Ç "size")=bk at zn sw;refine(_,rfl,m,_,rfl,.inl (É R),_,_,rfl,rfl,_,rfl,_,rfl,m,_,_,_,rfl,rfl,É R,vt,rfl,.inr Û4);rw[hbk];refine(_,rfl,B,_,rfl,.inl (É uu),_,rfl,_,_,rfl,rfl,_,rfl,?_);have no:XU f os=ah->Q ËF gg:=λz=>by have:=q gg zm;rw[show W6 r=ah by unfold W6;rw[eT];show (XU f os).map _=ah;rw[z];rfl]at this;rw[wr]
  have E4:(Ĭ<ë\/X0 Ä9 ÃP=false)->Q ËF gg:=λz=>no (by rw[(eO),Æ z]);rw[U,rO];refine Z5 (λC=>Y3 (E4 ?_)) (λC=>?_)
  ·have C:=#[eQ,C];rw[zn];cases bk with
   | false=>left;simp only[Äk,Âw]at C;lia
   | true=>right;have:=sw rfl;simp only[Âv]at C;rw[Æ rfl,Ē Á]
  have C:¬ (ÁK<#[gk,ë,1]-1+(if bk=true then 1 else 0)):=λz=>C ÃB;refine(_,rfl,_,rfl,m,_,_,_,rfl,rfl,É R,vt,rfl,_,rfl,?_);rw[hbk];refine ZuG (bk&&decide ((13:Int)<ÁK)) #[io,e,T',hT] (λe=>by rw[e];rfl) ?_
  ·refine(_,rfl,B,_,rfl,.inl (É uu),_,_,rfl,rfl,_,rfl,?_);rw[rO];rw[e,Ó7]at hT;exact hT
  refine Z5 (λd2=>E4 ?_) (λd2=>?_)
  ·rw[QT]at d2;have e:=d2.1;have d3:=#[eQ,d2.2];have:=sw e;right;rw[zn,Æ e,Ē Á]
  have gl:ë<=Ĭ:=by
   cases bk with
   | false=>simp only[Äk,Âw]at C;lia
   | true=>simp only[Âv]at C;lia
  have gm:X0 Ä9 ÃP=true:=by
   rw[zn];cases bk with
   | false=>rfl
   | true=>have:=sw rfl;simp only[Âv]at C;rw[q7];refine û (by lia,?_);have:¬ (13:Int)<ÁK:=λz=>d2 (by rw[û z];rfl);lia
  clear E4 no C d2 zn sw;rw[hd,m,R,c1,u7];rw[(Zrh F).resolve_right Ác];have lP:=Zf u7 #[iI,Ŝ];rw[fU,rP,gg,c1,Ŝ,Ç];generalize upd gg c1 (.lst (Ŝ Ç))=jB at lP rP ⊢;refine(_,rfl,_,rfl,m,_,_,_,rfl,rfl,É (lP _ _ R),vt,Æk,λl1 cP=>?_);have nQ:=Zf cP #[jh,k];rw[jq,CI,jB,l1,k];have CJ:=nQ _ _ rP;have sK:=lP.trans nQ;generalize upd jB l1 (.lst [.str k])=nR at nQ CI CJ sK ⊢;refine(_,rfl,B,_,rfl,.inl #[An,sK,uu],_,rfl,m,_,rfl,.inl #[An,sK,R],_,_,rfl,rfl,_,_,rfl,rfl,l1,_,_,rfl,rfl,CI,?_,?_,?_,λr1 gz=>?_)
  ·rw[U,rO];lia
  ·rw[U,rO];lia
  ·rw[U,rO];show 1*_<=_;rw[Nat.one_mul];exact QaC (ZD Á)
  have en:((((ÛS).length:Nat):Int)-((Ü0).length:Nat)+1).toNat=Ĭ-ë:=by rw[U,rO];lia
  rw[en,Zru];have i5:=Zf gz Üm;rw[e3,CK,nR,r1,Üm];have CL:=i5 _ _ CJ;have zo:=sK.trans i5;generalize upd nR r1 (.lst ((Ġ (Ĭ-ë) k).map Ç))=xr at i5 CK CL zo ⊢;refine(c1,r1,_,_,rfl,rfl,CL,CK,(by rw[Qa,Qa,QaO];exact QaC (ZD Á)),λe he=>?_);rw[<- Qi];have nZ:=zo.trans (Zf he (.lst ((c++Ġ (Ĭ-ë) k).map Ç)));exact(e,_,_,rfl,by show _=c++Ü1;rw[QV],Zb,nZ _ _ uu,zm.trans nZ,λ_=>(gl,gm))
 rintro X I ⟨Y,o,v,rfl,Bl,yn,rN,Z,E5⟩;refine(_,rfl,Y,_,rfl,.inl (É yn),_,rfl,B,_,rfl,.inl (É rN),rfl,_,rfl,?_);have fL:o.length=Ĭ↔(ë<=Ĭ/\X0 n ÃP=true):=by
  rcases kf with rfl|kf
  ·have e1:o=c:=by rw[Bl];exact QV c
   have e2:X0 .non ÃP=decide (ÁK-ÀK=0):=Æ rfl;rw[e1,e2];exact(λh=>(by lia,û Á),λ⟨_,h⟩=>by have:=#[eQ,h];lia)
  ·obtain⟨k,ek⟩:∃k:am,n=.str k:=kf.elim (λh=>(_,h)) λh=>(_,h);have hc:=E5 (by rw[ek];intro z;cases z);refine(λ_=>hc,λ_=>?_);have F:=hc.1;rw[Bl,ek,Qg];show ë+(Ü1).length=_;rw[QV,QaO];lia
 have fin:∀ {b:Ê} {H':Hp},Zu I H'->b=(XU f os).isSome->Q (.bl b) H':=λs e=>by have:=q _ (Z.trans s);rw[show (W6 r).isSome=(XU f os).isSome by unfold W6;rw[eT];show ((XU f os).map _).isSome=_;exact Qbb]at this;rw[e];rw[wr]
 by_cases bx:o.length=Ĭ
 ·refine Xu (by rw[Qa,Qa,bx]) ?_;obtain gl|gm:=fL.mp bx;have hkF:∀k∈o,VO k:=λk hk=>by
   rw[Bl]at hk;rcases ÿ hk with hk|hk
   ·exact kk k hk
   ·rw[sX,x,J,hk,List.mem_flatMap.mp,hk];rw[List.eq_of_mem_replicate hk];rcases kf with rfl|rfl|rfl
    ·cases J
    ·rw[ó J];exact .inr Đ
    ·rw[ó J];exact .inr ÓY
  have hz:=ZpA F gl gm;rw[<- Bl]at hz;refine(_,rfl,_,rfl,.l Y,.l B,o.map Ç,Ä8 Ç,rfl,É yn,É rN,λD hD=>?_);refine KZ (λi zs X S=>(X3 λv1 v2 v3:Ã V=>X=[aa (.str r),aa ą,aa Ś,aa (.ref Y),aa Ãy,v1,v2,v3])/\zs=(((o.zip os).take i).map λp=>WW p.1 p.2).map V.bl/\i<=Ĭ/\S D=aa Ε/\Zu I S) ((_,ah,ah,rfl),rfl,Qp _,Zb,Zf hD _) (λ_ _ _ _ h=>(É (h.2.2.2.2 _ _ yn),É (h.2.2.2.2 _ _ rN))) ?_ ?_
  ·rintro i zs X S x y t J hy ⟨⟨v1,v2,v3,rfl⟩,rfl,hi,Bm,s8⟩ ht;rw[Qr]at J hy;cases fF:o[i]? with
   | none=>rw[fF]at J;cases J
   | some kd =>
   cases zp:os[i]? with
   | none=>rw[zp]at hy;cases hy
   | some wd =>
   rw[fF]at J;rw[gv,zp,hy,J];cases hy;have hzi:(o.zip os)[i]? = aa (kd,wd,):=by rw[ÛR];exact(fF,zp)
   have dP:=(Ń zp).1;have st:=Zf ht (.tup [Ç kd,.str wd]);refine(t,_,rfl,þ Zb,rfl,_,_,rfl,_,_,rfl,rfl,_,rfl,_,rfl,kd,wd,rfl,hkF kd (Qm fF),j6 wd (Qm zp),λH9 s9=>?_);have s89:=st.trans s9;refine(s89 _ _ Bm,Ó6,ÎY,?_,dP,Zb,λb' u dG=>?_)
   ·rw[QI,hzi,Qi,Qi];rfl
   ·rw[Ze (Zg dG hD)];exact s89 _ _ (s8 b' u dG)
  rintro zs X S ⟨⟨v1,v2,v3,rfl⟩,rfl,_,Bm,s8⟩;have EU:min (o.map Ç).length (ÛS).length=(o.zip os).length:=by rw[Qa,Qa,ÛQ]
  rw[Aa,EU,Bm];refine(D,_,rfl,É Bm,fin s8 ?_);rw[<- hz,ÊX];rfl
 ·refine XS (λz=>bx (by have:=V.int.inj z;rw[Qa,Qa]at this;lia)) (fin (Ãe _) ?_);have gR:XU f os=ah:=by
   rw[(eO),Æ];by_cases g:Ĭ<ë
   ·exact .inl g
   ·right;cases hm:X0 n ((Ĭ:Int)-(ë:Int)) with
    | false=>rfl
    | true=>exact Î (fL.mpr (by lia,hm)) bx
  rw[gR];rfl
def Yz:À am:=([["row a b bb", "row zz", "grow a -", "grow a", "drop a", "drop abcdefgh", "coming", "take 0"],["take 1000000", "left", "counts", "rows", "runs 1", "runs 16 a - b", "sort 3 2 b a", "sort 16 6"],["free 2 0", "near 6 999999999 1", "free 3 7 7 7 7 7 7 7 7 7 7 7 7", "near 2 5", ""],["row aaaaaaaa kkkkkkkkkkkkkkkkkkkkkkkkkkkkkkkkkkkkkkkk"]]:À (À am)).flatten
def YT:À am:=([["rowa b", "row", "Row a", "row A", "row a B", "row a  b", "row a b ", " row a", "row abcdefghi"],["drop", "drop a b", "drop a1", "coming 1", "take", "take 01", "take 1000001", "take -1"],["take 1 2", "left 0", "counts a", "rows 1", "runs", "runs 0", "runs 17 a", "runs 03 a"],["runs 2 a1", "sort 3", "sort 3 1 a", "sort 3 7 a", "sort 0 2", "free 2", "free 1 3", "near 7 3"],["near 2 1000000000", "free 2 -1", "near", "free 2 1 1 1 1 1 1 1 1 1 1 1 1 1", "row a kkkkkkkkkkkkkkkkkkkkkkkkkkkkkkkkkkkkkkkkk", "row a --"],["grow", "grow a _", "take 1.0", "x", " ", "   ", "take +1", "take 1_0", "take -0", "runs +2 a"],["free 2 +7", "sort 01 2 a", "sort 3 02", "near 02 3", "free 2 03 4", "near 2 4 05", "free 03 1"],["grow abcdefghi", "drop abcdefghi", "grow a kkkkkkkkkkkkkkkkkkkkkkkkkkkkkkkkkkkkkkkkk", "runs 2 b kkkkkkkkkkkkkkkkkkkkkkkkkkkkkkkkkkkkkkkkk"],["sort 3 2 kkkkkkkkkkkkkkkkkkkkkkkkkkkkkkkkkkkkkkkkk", "runs 2 B", "sort 3 2 a B", "grow a b ", "runs 2 ", "take 1 ", "left "],["take\t1", "grow a\tb", "left\t", "runs 2\ta"]]:À (À am)).flatten
def GN:À am:=["rowa", "Row", "", "x", "take\t1", "left\t"]
def GL(r:am):Ê:=decide (μ<=99)&&match Àk r " " with|[]=>false|f::os=>decide (Ĭ<=20)&&os.all (λs=>decide (Ŗ<=99))&&((Xr f).isSome||decide (f∈GN))
theorem Zvc:∀r∈Yz++YT,GL r=true:=by ac_rfl
theorem GK:∀r∈Yz,Yd r=true:=by ac_rfl
theorem Zwe:∀r∈YT,Yd r=false/\r ≠ "":=by ac_rfl
theorem Mw:∀r∈Yz++YT,μ<=99:=by ac_rfl
theorem ZoY:∀r∈Yz++YT,10 ∉ r.cps.toList:=by ac_rfl
theorem ZvN(a:ÂV):∀f∈GN,ô K ç f=aa ah:=λf hf=>by
 rcases î hf with rfl|hf
 ·exact a.n_FORMS_0
 rcases î hf with rfl|hf
 ·exact a.n_FORMS_1
 rcases î hf with rfl|hf
 ·exact a.n_FORMS_2
 rcases î hf with rfl|hf
 ·exact a.n_FORMS_3
 rcases î hf with rfl|hf
 ·exact a.n_FORMS_4
 rw[ó hf];exact a.n_FORMS_5
theorem Mv(c:ÂV){r:am}(h:r∈Yz++YT):Vs K ç r:=by
 have a:=Zvc r h;unfold GL at a;rw[QT]at a;refine(Qj (ŋ a.1) Å,?_);cases e:Àk r " " with
 | nil=>rw[e]at a;exact Î a.2 Å
 | Ñ f os =>
  rw[e]at a;have b:=a.2;simp only[Èu,Bool.or_eq_true,Ãs,Ôx]at b;refine(f,os,rfl,by lia,λs d=>Qj (b.1.2 s d) Å,λg=>?_);rcases b.2 with z|z
  ·rw[gv,g,z,z]
  ·exact ZvN c f z
def GJ(L:Ï):Sp:=λvs H Q _=>X2 λ(p:af) (c:Int)=>C4 #[gh,p] (Yg H p c) (c<2 ^ 39) (∀ (z:am) (a:Int) (b:Hp),z∈L->Yg b p a->c<=a->a<=c+1->But p H b->Q ÀT b)
theorem ZsO(T:Ø)(dI:Ôh):Df P w K mg Â 3 "_law_good" ÇI (GJ Yz):=by
 rw[h6,T.t_l_good.df,Sd];rw[g2,p,c,g,c1];refine(_,#[Zc,#[Zq,1,Sd.nd,á,#[Z2,Ê6]],#[Zc,#[Zq,1,Sd.nd,á,#[ZB,Xn,‹1›,#[Z2,Ê6]]],#[Zc,#[Zq,1,Sd.nd,á,#[ZB,Xn,‹1›,#[Z2,#[Zd,Ý,Ý,Èo,Ý,Ý]]]],#[Zc,#[ZO,#[YF,K,QH,QN,QO,WR,‹1›,#[Zd,#[ZB,V1,#[ZB,V1,Èo,Ý],#[tf,VI,Ý]]]]],Ün]]]],Ê7,λi G=>?_);generalize j:upd H i (.lst [.str "row a b bb",.str "row zz",.str "grow a -",.str "grow a",.str "drop a",.str "drop abcdefgh",.str "coming",.str "take 0"])=k;have l:Zu H k:=j ▸ Zf G _;have n1:=G;rw[tq,I,k,i,8,j];clear j;refine(_,rfl,Ê7,λJ n=>(i,J,_,_,rfl,rfl,Zf n _ _ _ I,Zb,#[eJ,16,aq],λd L=>?_));generalize o:upd (upd k J (.lst [.str "take 1000000",.str "left",.str "counts",.str "rows",.str "runs 1",.str "runs 16 a - b",.str "sort 3 2 b a",.str "sort 16 6"])) d (.lst ((Èp 8).map Ç++[.str "take 1000000",.str "left",.str "counts",.str "rows",.str "runs 1",.str "runs 16 a - b",.str "sort 3 2 b a",.str "sort 16 6"]))=t;rw[f7,n2,d,l.free,n,L];have v:Zu H t:=#[fo,l.trans,o,n,L];rw[tq,M,t,d,16,o];clear o l I;refine(_,rfl,_,_,rfl,rfl,Å,Å,ä,_,_,rfl,rfl,ä,#[eJ,5,aq],λN x=>(d,N,_,_,rfl,rfl,Zf x _ _ _ M,Zb,#[eJ,21,aq],λa O=>?_));rw[g5,"free 3"," 7",12,"free 3 7 7 7 7 7 7 7 7 7 7 7 7"];generalize y:upd (upd t N (.lst [.str "free 2 0",.str "near 6 999999999 1",.str "free 3 7 7 7 7 7 7 7 7 7 7 7 7",.str "near 2 5",.str ""])) a (.lst ((Èp 16).map Ç++[.str "free 2 0",.str "near 6 999999999 1",.str "free 3 7 7 7 7 7 7 7 7 7 7 7 7",.str "near 2 5",.str ""]))=B;rw[f7,C,a,v.free,x,O];have s3:Zu H B:=#[fo,v.trans,y,x,O];rw[tq,R,B,a,21,y];clear y v M;refine(_,rfl,.inl #[fm,R],_,_,rfl,rfl,Å,Å,ä,_,_,rfl,rfl,ä,_,_,rfl,rfl,ä,_,_,rfl,rfl,Å,Å,ä,_,_,rfl,rfl,ä,a,_,_,rfl,rfl,R,Å,?_);rw[show (("row " : am)++Éx "a" 8 ++ " "++Éx "k" 40:am) = "row aaaaaaaa kkkkkkkkkkkkkkkkkkkkkkkkkkkkkkkkkkkkkkkk" by ac_rfl];generalize D:upd B a (.lst ((Èp 21).map Ç++[.str "row aaaaaaaa kkkkkkkkkkkkkkkkkkkkkkkkkkkkkkkkkkkkkkkk"]))=F;have S:Zu H F:=λb u U=>by rw[<- D,Ze (Zg U C)];exact s3 b u U
 have W:F a=aa #[iI,Yz.map]:=D ▸ Zb;clear D;have cn:∀r:Int,0<=r->r<22->∃z,z∈Yz/\atI (Yz.map Ç) r=aa ÀT:=λr X Y=>by
  rw[mD];have hl:Yz.length=22:=by rfl
  have Z:m<Yz.length:=by rw[hl];lia
  exact(Yz[m],Qab Z,Ya (by rw[Qr,Qb Z];rfl))
 have c0:=g.ge;have LG:Yg F p c:=by obtain u1|u2|e|h:=g;exact(u1,u2,S _ _ e,h)
 refine(_,rfl,_,rfl,_,rfl,a,_,rfl,.inl (É W),p,c,_,rfl,LG,by lia,Å,Å,λr H9 X Y L9 B9=>?_);obtain z|hz|ha:=cn r X Y;have E6:a≠p:=λz=>by obtain u|hu:=g.here;rw[z]at C;rw[gv,C,hu,hu]
 exact(a,_,_,_,rfl,rfl,É (B9 _ _ W E6),ha,q z _ _ hz L9 Á Á (ÒK (But.same S) B9))
theorem Zuv(T:Ø)(dI:Ôh):Df P w K mg Â 3 "_law_bad" ÇI (GJ YT):=by
 rw[h6,T.t_l_bad.df,Wu];rw[g2,p,c,y,c1];refine(_,#[Zc,#[Zq,1,Åa,á,#[Z2,#[Za,Ý,Ê6]]],#[Zc,Ôi,#[Zc,Ôi,#[Zc,Ôi,#[Zc,#[Zq,1,Åa,á,#[ZB,Xn,‹1›,#[Z2,#[iN,Èo]]]],#[Zc,#[Zq,1,Åa,á,#[ZB,Xn,‹1›,#[Z2,#[Za,Ý,#[Za,Ý,Ê6]]]]],#[Zc,#[Zq,1,Åa,á,#[ZB,Xn,‹1›,#[Z2,#[Za,Ý,#[iN,Ý]]]]],#[Zc,#[Zq,1,Åa,á,#[ZB,Xn,‹1›,#[Z2,#[Zd,Ý,Ý,Èo,Èo]]]],#[Zc,#[Zq,1,Åa,á,#[ZB,Xn,‹1›,#[Z2,#[Za,Èo,#[iN,Ý]]]]],#[Zc,#[Zq,1,Åa,á,#[ZB,Xn,‹1›,#[Z2,#[Zd,Ý,Ý,Ý,Ý]]]],Ün]]]]]]]]]],#[eJ,9,aq],λB cP=>?_);generalize C:upd H B (.lst [.str "rowa b",.str "row",.str "Row a",.str "row A",.str "row a B",.str "row a  b",.str "row a b ",.str " row a",.str "row abcdefghi"])=D;have F:Zu H D:=C ▸ Zf cP _;have n1:=cP;rw[e0,h1,D,B,9,C];clear C;refine(_,rfl,Ê7,λa2 G=>(B,a2,_,_,rfl,rfl,Zf G _ _ _ h1,Zb,#[eJ,17,aq],λj fB=>?_));generalize I:upd (upd D a2 (.lst [.str "drop",.str "drop a b",.str "drop a1",.str "coming 1",.str "take",.str "take 01",.str "take 1000001",.str "take -1"])) j (.lst ((ÂW 9).map Ç++[.str "drop",.str "drop a b",.str "drop a1",.str "coming 1",.str "take",.str "take 01",.str "take 1000001",.str "take -1"]))=J;rw[f7,n2,j,F.free,G,fB];have L:Zu H J:=#[fo,F.trans,I,G,fB];rw[e0,h2,J,j,17,I];clear I F h1;refine(_,rfl,Ê7,λa3 M=>(j,a3,_,_,rfl,rfl,Zf M _ _ _ h2,Zb,#[eJ,25,aq],λk i3=>?_));generalize N:upd (upd J a3 (.lst [.str "take 1 2",.str "left 0",.str "counts a",.str "rows 1",.str "runs",.str "runs 0",.str "runs 17 a",.str "runs 03 a"])) k (.lst ((ÂW 17).map Ç++[.str "take 1 2",.str "left 0",.str "counts a",.str "rows 1",.str "runs",.str "runs 0",.str "runs 17 a",.str "runs 03 a"]))=O;rw[f7,n3,k,L.free,M,i3];have R:Zu H O:=#[fo,L.trans,N,M,i3];rw[e0,h3,O,k,25,N];clear N L h2;refine(_,rfl,Ê7,λa4 S=>(k,a4,_,_,rfl,rfl,Zf S _ _ _ h3,Zb,#[eJ,33,aq],λl og=>?_));generalize U:upd (upd O a4 (.lst [.str "runs 2 a1",.str "sort 3",.str "sort 3 1 a",.str "sort 3 7 a",.str "sort 0 2",.str "free 2",.str "free 1 3",.str "near 7 3"])) l (.lst ((ÂW 25).map Ç++[.str "runs 2 a1",.str "sort 3",.str "sort 3 1 a",.str "sort 3 7 a",.str "sort 0 2",.str "free 2",.str "free 1 3",.str "near 7 3"]))=W;rw[f7,n4,l,R.free,S,og];have X:Zu H W:=#[fo,R.trans,U,S,og];rw[e0,h4,W,l,33,U];clear U R h3;refine(_,rfl,_,_,rfl,rfl,Å,Å,ä,_,_,rfl,rfl,ä,_,_,rfl,rfl,Å,Å,ä,_,_,rfl,rfl,ä,#[eJ,6,aq],λa5 Y=>(l,a5,_,_,rfl,rfl,Zf Y _ _ _ h4,Zb,#[eJ,39,aq],λn vC=>?_));rw[g5,"free 2"," 1",13,"free 2 1 1 1 1 1 1 1 1 1 1 1 1 1"];rw[g5,"row a ","k",41,"row a kkkkkkkkkkkkkkkkkkkkkkkkkkkkkkkkkkkkkkkkk"];generalize Z:upd (upd W a5 (.lst [.str "near 2 1000000000",.str "free 2 -1",.str "near",.str "free 2 1 1 1 1 1 1 1 1 1 1 1 1 1",.str "row a kkkkkkkkkkkkkkkkkkkkkkkkkkkkkkkkkkkkkkkkk",.str "row a --"])) n (.lst ((ÂW 33).map Ç++[.str "near 2 1000000000",.str "free 2 -1",.str "near",.str "free 2 1 1 1 1 1 1 1 1 1 1 1 1 1",.str "row a kkkkkkkkkkkkkkkkkkkkkkkkkkkkkkkkkkkkkkkkk",.str "row a --"]))=G5;rw[f7,n5,n,X.free,Y,vC];have s5:Zu H G5:=#[fo,X.trans,Z,Y,vC];rw[e0,h5,G5,n,39,Z];clear Z X h4;refine(_,rfl,#[eJ,10,aq],λa6 E8=>(n,a6,_,_,rfl,rfl,Zf E8 _ _ _ h5,Zb,#[eJ,49,aq],λo ue=>?_));generalize E9:upd (upd G5 a6 (.lst [.str "grow",.str "grow a _",.str "take 1.0",.str "x",.str " ",.str "   ",.str "take +1",.str "take 1_0",.str "take -0",.str "runs +2 a"])) o (.lst ((ÂW 39).map Ç++[.str "grow",.str "grow a _",.str "take 1.0",.str "x",.str " ",.str "   ",.str "take +1",.str "take 1_0",.str "take -0",.str "runs +2 a"]))=G6;rw[f7,n6,o,s5.free,E8,ue];have s6:Zu H G6:=#[fo,s5.trans,E9,E8,ue];rw[e0,h6,G6,o,49,E9];clear E9 s5 h5;refine(_,rfl,#[eJ,7,aq],λa7 Fa=>(o,a7,_,_,rfl,rfl,Zf Fa _ _ _ h6,Zb,#[eJ,56,aq],λt b=>?_));generalize Fb:upd (upd G6 a7 (.lst [.str "free 2 +7",.str "sort 01 2 a",.str "sort 3 02",.str "near 02 3",.str "free 2 03 4",.str "near 2 4 05",.str "free 03 1"])) t (.lst ((ÂW 49).map Ç++[.str "free 2 +7",.str "sort 01 2 a",.str "sort 3 02",.str "near 02 3",.str "free 2 03 4",.str "near 2 4 05",.str "free 03 1"]))=G7;rw[f7,n7,t,s6.free,Fa,b];have s7:Zu H G7:=#[fo,s6.trans,Fb,Fa,b];rw[e0,h7,G7,t,56,Fb];clear Fb s6 h6;refine(_,rfl,_,_,rfl,rfl,Å,Å,ä,_,_,rfl,rfl,ä,_,_,rfl,rfl,Å,Å,ä,_,_,rfl,rfl,ä,#[eJ,4,aq],λa8 Fc=>(t,a8,_,_,rfl,rfl,Zf Fc _ _ _ h7,Zb,#[eJ,60,aq],λv d=>?_));rw[g5,"grow a ","k",41,"grow a kkkkkkkkkkkkkkkkkkkkkkkkkkkkkkkkkkkkkkkkk"];rw[g5,"runs 2 b ","k",41,"runs 2 b kkkkkkkkkkkkkkkkkkkkkkkkkkkkkkkkkkkkkkkkk"];generalize Fd:upd (upd G7 a8 (.lst [.str "grow abcdefghi",.str "drop abcdefghi",.str "grow a kkkkkkkkkkkkkkkkkkkkkkkkkkkkkkkkkkkkkkkkk",.str "runs 2 b kkkkkkkkkkkkkkkkkkkkkkkkkkkkkkkkkkkkkkkkk"])) v (.lst ((ÂW 56).map Ç++[.str "grow abcdefghi",.str "drop abcdefghi",.str "grow a kkkkkkkkkkkkkkkkkkkkkkkkkkkkkkkkkkkkkkkkk",.str "runs 2 b kkkkkkkkkkkkkkkkkkkkkkkkkkkkkkkkkkkkkkkkk"]))=G8;rw[f7,n8,v,s7.free,Fc,d];have s8:Zu H G8:=#[fo,s7.trans,Fd,Fc,d];rw[e0,h8,G8,v,60,Fd];clear Fd s7 h7;refine(_,rfl,_,_,rfl,rfl,Å,Å,ä,_,_,rfl,rfl,ä,#[eJ,7,aq],λa9 Fe=>(v,a9,_,_,rfl,rfl,Zf Fe _ _ _ h8,Zb,#[eJ,67,aq],λx g=>?_));rw[g5,"sort 3 2 ","k",41,"sort 3 2 kkkkkkkkkkkkkkkkkkkkkkkkkkkkkkkkkkkkkkkkk"];generalize Ff:upd (upd G8 a9 (.lst [.str "sort 3 2 kkkkkkkkkkkkkkkkkkkkkkkkkkkkkkkkkkkkkkkkk",.str "runs 2 B",.str "sort 3 2 a B",.str "grow a b ",.str "runs 2 ",.str "take 1 ",.str "left "])) x (.lst ((ÂW 60).map Ç++[.str "sort 3 2 kkkkkkkkkkkkkkkkkkkkkkkkkkkkkkkkkkkkkkkkk",.str "runs 2 B",.str "sort 3 2 a B",.str "grow a b ",.str "runs 2 ",.str "take 1 ",.str "left "]))=G9;rw[f7,n9,x,s8.free,Fe,g];have s9:Zu H G9:=#[fo,s8.trans,Ff,Fe,g];rw[e0,h9,G9,x,67,Ff];clear Ff s8 h8;refine(_,rfl,#[eJ,4,aq],λdF zq=>(x,dF,_,_,rfl,rfl,Zf zq _ _ _ h9,Zb,#[eJ,71,aq],λa uv=>?_));generalize zr:upd (upd G9 dF (.lst [.str "take\t1",.str "grow a\tb",.str "left\t",.str "runs 2\ta"])) a (.lst ((ÂW 67).map Ç++[.str "take\t1",.str "grow a\tb",.str "left\t",.str "runs 2\ta"]))=Fg;rw[f7,i,a,s9.free,zq,uv];have gv:Zu H Fg:=#[fo,s9.trans,zr,zq,uv];rw[e0,rS,Fg,a,71,zr];clear zr s9 h9;have cn:∀r:Int,0<=r->r<71->∃z,z∈YT/\atI (YT.map Ç) r=aa ÀT:=λr r0 r1=>by
  rw[mD];have hl:YT.length=71:=by rfl
  have hm:m<YT.length:=by rw[hl];lia
  exact(YT[m],Qab hm,Ya (by rw[Qr,Qb hm];rfl))
 have c0:=y.ge;have LG:Yg Fg p c:=by obtain u1|u2|e|h:=y;exact(u1,u2,gv _ _ e,h)
 refine(_,rfl,_,rfl,_,rfl,a,_,rfl,.inl (É rS),p,c,_,rfl,LG,by lia,Å,Å,λr H9 r0 r1 L9 B9=>?_);obtain z|hz|ha:=cn r r0 r1;have E6:a≠p:=λz=>by obtain u|hu:=y.here;rw[z]at i;rw[gv,i,hu,hu]
 exact(a,_,_,_,rfl,rfl,É (B9 _ _ rS E6),ha,q z _ _ hz L9 Á Á (ÒK (But.same gv) B9))
def Uc(ð:Ï)(i:Nat):Prop:=∃r,ð[i]? = aa r/\Yd r=false/\∀j y,j<i->ð[j]? = aa y->Yd y=true
def ZsE(K:Ä)(b:af):Sp:=λvs H Q _=>X2 λ(l:af) (ð:À am)=>C5 #[gh,l] (H l=aa Æm) ((∀r∈ð,Vs K b r)) ((∀a,Zu H a->Û0->Q .non a)) (∀ (i:Nat) a,Zu H a->Uc ð i->Q (.int (i:Int)) a)
theorem GI{r:am}(h:r ≠ ""):Yd r=(W6 r).isSome:=by unfold Yd;rw[Ē h];rfl
theorem Zq0(T:Ø)(D:Df P w K mg Â 4 "_law_fits" ÍK (GO K ç)):Df P w K mg Â 5 "_law_first_bad" ["_law_rows"] (ZsE K ç):=by
 rw[ey,T.t_l_first_bad.df,N4,F,n];obtain l|ð|rfl|z|q|G|I:=h;refine(_,#[Zc,#[XN,Ž,ÒP,#[eC,1,N4.nd,2],#[Zh,#[ZN,(@Ő _ _ _ #[W5,#[eL,V2,2,Ý],#[WU,(@Vo _ _ _ _ #[Xd,#[hT,D,n,ÃG]])]]),Å4,ï]]],ÄT],_,rfl,l,_,rfl,É z,?_);refine T0 (λi t g=>(X2 λu v:Ã V=>t=[aa Ŋ,u,v])/\Zu H g/\∀j y,j<i->ð[j]? = aa y->Yd y=true) ((_,_,rfl),Ãe H,λj y h=>Î h (Íg j)) (λ_ _ _ h=>É (h.2.1 _ _ z)) ?_ ?_
 ·rintro i y t g p a ⟨⟨u,v,rfl⟩,k,b⟩ J;rw[Qr]at a;cases c:ð[i]? with
  | none=>rw[c]at a;cases a
  | some o =>
  rw[gv,c,a,a];have B:=Zf J Ó0;have next:Yd o=true->∀j y,j<i+1->ð[j]? = aa y->Yd y=true:=λm j y x a=>by
   by_cases e:j=i
   ·rw[e,c]at a;injection a with a;rw[<- a];exact m
   ·exact b j y Á a
  refine Ó1;by_cases d:o = ""
  ·rw[û (ħ Ç d)];exact Y7 (Y7 ((_,_,rfl),k.trans B,next (by rw[d];ac_rfl)))
  rw[ge,d];refine Y3 (_,rfl,o,rfl,q o (Qm c),λL M=>(_,rfl,?_));have C:=(k.trans B).trans M;cases m:(W6 o).isSome with
  | true=>exact Y7 ((_,_,rfl),C,next (by rw[GI d];exact m))
  | false=>exact Y3 (_,rfl,I i L C (o,c,by rw[GI d];exact m,b))
 ·rintro t g ⟨⟨u,v,rfl⟩,k,b⟩;rw[Qa]at b;exact G g k λr n=>by obtain j|x:=List.mem_iff_getElem?.mp n;exact b j r (Ń x).1 x
def GH(K:Ä)(a b:af):Sp:=λvs H Q E=>X4 λ(z:am) (ð:À am) (i:Nat) (r:am)=>C9 #[jf,z] ÊZ Ê0 ÓZ (#[ig,a]) (ð[i]? = aa r) (Yd r=false) ÛU (Ha b H (i:Int) E)
theorem Zr9(T:Ø)(a:D1f P w K mg Â 5 "orders_in" Á5 (GZ K ç au)):D1f P w K mg Â 18 "run" Á5 (GH K ç au):=by
 rw[ey,T.t_run.df1,Wh,b,c];obtain z|ð|i|r|rfl|d|e|g|j|k|l|m|n:=h;refine(_,#[Zc,#[Zq,1,Wh.nd,á,#[Uw,a,ÁI,c,ÂS]],#[Zc,Æh,Èb]],?_);exact(_,rfl,z,ð,i,r,rfl,d,e,g,j,k,l,m,n)
def GG:Sp:=λvs H Q _=>X2 λ(z:am) (ð:À am)=>C6 #[jf,z] ÊZ Ê0 (Èk<=12) ((∀r∈ð,r∈Yz)) (∀ (v:V) (a:Hp),Zu H a->Q v a)
def ZpP(K:Ä)(b:af):Sp:=λvs H Q _=>X2 λ(z:am) (ð:À am)=>C4 #[jf,z] ÊZ Ê0 (((Èk<=12/\(∀r∈ð,r∈Yz)/\∀a,Zu H a->Q .non a) \/
 (Èk<=90/\#[ig,b]/\∃i:Nat,Uc ð i/\∀a,Zu H a->Q (.int (i:Int)) a)))
theorem Zoy(T:Ø)(M:#[jm,18,"run","text",GG])(N:D1f P w K mg Â 18 "run" Á5 (GH K ç au)):Df P w K mg Â 19 "_law_caught" ["_law_text"] (ZpP K ç):=by
 rw[ey,T.t_l_caught.df,U9,O,D];obtain⟨z,ð,rfl,F,G,⟨R,S,q⟩|⟨U,o,i,⟨r,W,X,Y⟩,q⟩⟩:=h
 ·refine(_,#[Zc,#[h7,1,U9.nd,Ł],#[Zc,(@J4 _ _ _ _ _ _ _ _ _ _ _ 2 _ _ (λZ E=>#[Zh,#[ZO,#[hT,M,D,ÂS]]]) Üo Ο rfl ÎG T.x_MergeError rfl U9.nd rfl rfl rfl Å),#[Zc,#[ZN,#[gF,1],ÄT,ï],Èb]]],?_);refine(_,rfl,z,ð,rfl,F,G,R,S,λv g p=>?_);exact(_,rfl,rfl,_,rfl,Xu rfl (q g p))
 ·refine(_,#[Zc,#[h7,1,U9.nd,Ł],#[Zc,(@J4 _ _ _ _ _ _ _ _ _ _ _ 2 _ _ (λZ E=>#[Zh,#[ZO,#[Uw,N,ÁI,D,ÂS]]]) Üo Ο rfl ÎG T.x_MergeError rfl U9.nd rfl rfl rfl Å),#[Zc,#[ZN,#[gF,1],ÄV,ï],#[Zc,#[ZN,(@Ő _ _ _ #[Xb,(@Vo _ _ _ _ #[Xd,#[Zo,(isX K),Ë,Î9,Ïa,#[Zd,‹1›,#[Wi,T.m_BadLine]]]]),#[Xc,(@Vo _ _ _ _ #[Xd,#[fN,isX,1,T.b.n_ValueError,Zhj]])]]),ÄV,ï],#[Zc,#[ZN,(@Ő _ _ _ #[Xb,#[Xd,#[Zo,(Zxs K),Ë,Î9,Ïa,#[Zd,‹1›,#[ZS,#[Zd,#[Wi,T.m_Full],#[Wi,T.m_NoRow],#[Wi,ÓG]]]]]],#[Xc,#[Xd,#[Zo,(SW K),Ë,Î9,Ïa,#[Zd,Üp,#[Vi,T.b.n_bool,boot_bool]]]]]]),ÄV,ï],#[z9,Üp]]]]]],?_);refine(_,rfl,z,ð,i,r,rfl,F,G,U,o,W,X,Y,λd g p hd h8=>?_);refine(au,_,rfl,T.t_BadLine_init.cls,by simp,λe he=>?_);have t:Zu g (upd g e Ôj):=Zf he _;have k:(upd g e Ôj) e=aa Ôj:=Zb;generalize upd g e (exO e au (aa d))=l at t k ⊢;have j:=t _ _ h8;have x:Zu H l:=p.trans t;have kr:∀ {c:af} {b:Ê},Ď K ī ÄJ=aa b->∀u,ZI ÄJ u->Ď K ī u=aa b:=λhc u y=>by cases y;exact hc
  have I:aa d=ah\/X2 λa fs=>aa d=aa a/\l a=aa (xdO a fs):=.inr (d,_,rfl,j);refine(_,rfl,_,rfl,rfl,_,rfl,XS Ác ?_);refine(_,rfl,e,au,aa d,_,_,rfl,k,Ê8,I,kr T.ki_BadLine_BadLine,T.kg,T.kt,_,rfl,HJ ?_);refine(_,rfl,e,au,aa d,_,_,rfl,k,Ê8,I,(λu y=>by cases y;exact T.ki_BadLine_V),T.kg,T.kt,_,rfl,HJ ?_);refine(_,rfl,Á6,λm Eh=>?_);have n:=Zf Eh Üq;have J:(upd l m Üq) m=aa (.tup ([aH,aD,ap].map ø)):=Zb;generalize upd l m (.tup [.ref aH,.ref aD,.ref ap])=L at n J ⊢;have B:=n _ _ k;have C:=n _ _ j;have Fh:aa d=ah\/X2 λa fs=>aa d=aa a/\L a=aa (xdO a fs):=.inr (d,_,rfl,C);refine(e,au,aa d,m,[aH,aD,ap],false,rfl,B,Ê8,Fh,J,Zqq T.ki_BadLine_Full T.ki_BadLine_NoRow T.ki_BadLine_OutOfOrder,T.kg,T.kt,_,rfl,Y7 ?_);refine(_,rfl,e,au,d,_,_,rfl,B,C,Ê8,Óz,rfl,_, "bool",_,_,rfl,.int (i:Int),Je K,_,rfl,Y7 ?_);exact(_,rfl,e,au,d,_,_,rfl,B,C,Ê8,Óz,rfl,q L (x.trans n))
theorem Rx(ts:YG):(ZV ts).length=Φ:=by unfold ZV;rw[Qa]
def Kb(b e m:Nat):À Key:=[.inl (b:Int),.inl (e:Int),.inl (m:Int)]
theorem Zux{b e m d e' f:Nat}(h:Kb b e m=Kb d e' f):b=d/\e=e'/\m=f:=by unfold Kb at h;injection h with g a;injection a with a c;injection c with c _;injection g with g;injection a with a;injection c with c;lia
theorem GF{H:Hp}{d:af}{kvs:Ż}(h:H d=aa Ãp)(o:HO):∀a xs,H a=aa ű->(upd H d o) a=aa ű:=λa xs e=>by rw[Ze (Ru e h Àw)];exact e
def VN(H:Hp)(v:V)(b e:Nat):Prop:=X4 λ(a t:af) (xs:À V) (p:Int)=>v=.ref a/\H a=aa #[tm,p,t]/\H t=aa ű/\0<=p/\p<=4000000000/\1<=Ö/\(e=b+1->p=0/\xs=[.int (b:Int)])
theorem VN.mono{H c:Hp}{v:V}{b e:Nat}(h:VN H v b e)(s:#[e8,a,xs,H,ű,c]):VN c v b e:=by obtain a|t|xs|p|e|d|f|g:=h;exact(a,t,xs,p,e,s _ _ d,s _ _ f,g)
def Xe(a:Nat)(H:Hp)(kvs:Ż)(b e:Nat):Prop:=∀m,1<=m->m<a->∃v,Xw kvs (Kb b e m)=aa v/\VN H v b e
theorem Xe.mono{d:Nat}{H f:Hp}{kvs:Ż}{b e:Nat}(h:Xe d H kvs b e)(s:#[e8,a,xs,H,ű,f]):Xe d f kvs b e:=λm h1 h2=>by obtain v|a|c:=h m h1 h2;exact(v,a,c.mono s)
def Mu(b:Nat):Sp:=λvs H Q _=>X3 λ(d:af) (kvs:À (À Key×V)) (m:Nat)=>C7 (vs=[.ref d,.int #[fC,0],.int #[fC,2],.int m]) ÉY (2<=m) (m<=b) (Xe b H kvs 0 1) (Xe b H kvs 1 2) (∀ (r t:af) (a:Hp),a r=aa #[tm,0,t]->a t=aa #[fT,0,1]->Zu H a->Q Λ a)
theorem GD(T:Ø)(wy:Nat):Df P w K mg Â 1 "least_cut" Êk (Mu wy):=by
 rw[ey,T.t_least_cut.df,N3,vs,u];obtain d|b|m|rfl|hd|cX|hmw|A1|A2|q:=h;refine(_,#[Zc,#[Yy,#[Zo,(Kx K u),Ë,ÊF,ÊG,#[Zd,#[W0,We,#[UQ,ÃD,#[Zd,#[ZB,XZ,#[hj,1],Ú],#[hj,2]]],#[gj,6,We],γ,(λ_ _ _ _=>#[ZS,#[Zd,#[ZB,XZ,#[ZA,ÂX,#[ZA,(ixD u),#[cv,0,We],#[ZS,#[Zd,#[cv,1,We],#[cw,6,We],Ú]]],Ú],#[ZA,ÂX,#[ZA,(ixD u),#[cv,0,We],#[ZS,#[Zd,#[cw,6,We],#[cv,2,We],#[ZB,W4,#[cv,3,We],Ú]]]],Ú]],#[cw,6,We]]])]]],#[eC,4,N3.nd,5]],#[Zh,#[Zl,#[ZS,#[Zd,‹4›,#[ZB,Ztq,#[ZA,ÂX,#[ZA,(ixD u),#[hj,0],#[ZS,#[Zd,#[hj,1],‹5›,Ú]]],Ú],#[ZA,ÂX,#[ZA,(ixD u),#[hj,0],#[ZS,#[Zd,‹5›,#[hj,2],#[ZB,W4,#[hj,3],Ú]]]],Ú]]]]]]],?_);obtain v1|Y|Z|y1|x1|p1|rfl|u0|J|_|_|_|g1:=A1 1 Á Á;obtain v2|l2|a2|y2|x2|p2|rfl|gQ|L|_|_|_|g2:=A2 (m-1) Á Á;obtain rfl|rfl:=g1 rfl;obtain rfl|rfl:=g2 rfl;refine(_,rfl,_,_,rfl,rfl,_,rfl,_,_,rfl,Í2,λD hD=>?_);refine PR (λi zs M c=>(∃v:Ã V,M=[aa Âa,aa (.int #[fC,0]),aa (.int #[fC,2]),aa (.int m),ah,ah,v])/\(∃l:YG,zs=ZV l/\AtT c l/\İ=i/\∀t∈l,t.2=[.inl 0,.inl 1])/\i<=1/\c D=aa Ε/\Zu H c) ?_ ?_ ?_
 ·exact Û8
 ·rintro i zs M c hi ⟨⟨v,rfl⟩,⟨l,rfl,N,F,O⟩,uS,R,S⟩;have i0:i=0:=by lia
  subst i0;refine(_,rfl,_,rfl,_,rfl,Á6,λe G=>?_);have j:=S.trans (Zf G Æn);have ig:=Zf G Æn _ _ R;rw[e3,x,c,e,Æn];change VZ _ _ (upd c e Æn) _;generalize upd c e (.tup ((Kb 0 1 1).map kV))=k at j ig x ⊢;refine Ür;have U:#[tI,m]:=by lia
  change VZ _ _ Üs _;rw[yP];have W:=Zf I Èq _ _ ig;rw[e3,y,k,a,Èq];change VZ _ _ (upd k a Èq) _;generalize upd k a (.tup ((Kb 1 2 (m-1)).map kV))=X at g W y ⊢;refine(d,b,a,Kb 1 2 (m-1),_,rfl,rfl,g _ _ hd,y,l2,a2,_,_,_,rfl,rfl,þ (g _ _ gQ),rfl,_,_,rfl,rfl,_,rfl,Ť,λn hn=>?_);have sn:=Zf hn (.tup [.int (0+0),.int 1]);have xu:=sn _ _ W;have t0:l=[]:=ÊO F;subst t0;refine(xu,#[hh,0,aq],ā,([(n,[.inl 0,.inl 1],)],rfl,λt p=>?_,rfl,λt p=>by rw[ó p]),Qd _,Zb,λb' o hb=>?_)
  ·rw[ó p,Ze (Zg W hn).symm];exact Zb
  ·rw[Ze (Zg hb hD)];exact sn _ _ (g b' o hb)
 rintro zs M c ⟨⟨v,rfl⟩,⟨l,rfl,N,F,O⟩,_,R,S⟩;refine(D,l,Ïb,rfl,É R,N,(λz=>by rw[z]at F;cases F),(λt p=>by rw[O t p];rfl),λt p _=>?_);have jt:=N t p;rw[O t p]at jt;refine(t.1,_,rfl,þ jt,rfl,_,_,rfl,_,_,rfl,rfl,_,rfl,_,rfl,_,rfl,_,rfl,Á6,λe G=>?_);have j:=S.trans (Zf G Æn);rw[e3,x,c,e,Æn];change VZ _ _ (upd c e Æn) _;generalize upd c e (.tup ((Kb 0 1 1).map kV))=k at j x ⊢;refine Ür;have U:#[tI,m]:=by lia
 change VZ _ _ Üs _;rw[yP];rw[e3,y,k,a,Èq];change VZ _ _ (upd k a Èq) _;generalize upd k a (.tup ((Kb 1 2 (m-1)).map kV))=X at g y ⊢;refine(d,b,a,Kb 1 2 (m-1),_,rfl,rfl,g _ _ hd,y,l2,a2,_,_,_,rfl,rfl,þ (g _ _ gQ),rfl,y1,y2,_,_,rfl,rfl,þ (g _ _ J),þ (g _ _ L),Ù,QaC (ZD Å),Ù,λ_ B C=>?_);have s5:=Èz (Zf C Üt);have f5:(upd X B Üt) B=aa #[fT,0,1]:=Zb;generalize upd X B (.tup ([.int ((0:Nat):Int)]++[.int ((1:Nat):Int)]))=H5 at s5 f5 ⊢;rw[s6,Ť,r,cY];have s6:=Zf cY #[tm,0,B];exact q r B _ Zb (s6 _ _ f5) (s5.trans s6)
theorem ZxB:∀ {ns:À Int},2<=ď->ď<=2->Èr->0<=#[yI].sum/\#[yI].sum<=2000000000
 | [],h,_,_=>by cases h
 | [_],h,_,_=>by simp at h
 | [x,y],_,_,a=>by have h1:=a x Ù;have h2:=a y Ù;show 0<=x+(y+0)/\x+(y+0)<=_;lia
 | _::_::_::_,_,h,_=>by simp at h
def GC(K:Ä)(c:Nat):Sp:=λvs H Q _=>X6 λ(d a:af) (ns:À Int) (kvs:À (À Key×V)) (b e:Nat)=>C10 (vs=[.ref d,.ref a,.int c,.int b,.int e]) ÉY Å1 (b<e) (e<=ď) #[sv,2] (Èr) (2<=c) ((∀k,b<k->k<e->Xe c H kvs b k/\Xe c H kvs k e)) (∀ (r:af) (f:Hp),VN f Λ b e->Zu H f->Q Λ f)
theorem Zrb(T:Ø)(l:Nat)(D:#[sB,1,"least_cut",Êk,Mu,l]):Df P w K mg Â 2 "least_tree" ÍO (GC K l):=by
 rw[ey,T.t_least_tree.df,N0,F,G];obtain d|a|c|g|b|e|rfl|hd|I|gN|i|J|n|L|M|q:=h;refine(_,#[Zc,#[ZN,#[Zn,Yu,#[sZ,W4,4,3],Ú,č],#[Zh,#[Zl,#[ZS,#[Zd,Ú,#[ZS,Áf]]]]],ï],#[Zc,#[Yy,#[ZG,D,G,#[Zd,‹0›,‹3›,‹4›,‹2›],Ë],#[eC,5,N0.nd,6]],#[Zh,#[Zl,#[ZS,#[Zd,#[ZB,XZ,‹5›,#[Zo,(PD K),Ë,Ók,boot_sum,#[Zd,#[Wz,(slL K),‹1›,#[iu,3],#[iu,4]]]]],#[ZS,#[Zd,‹6›]]]]]]]],_,rfl,_,rfl,_,_,rfl,rfl,rfl,_,rfl,Z5 (λm=>?_) (λm=>?_))
 ·have d':=V.int.inj (ŋ m);have N:e=b+1:=by lia
  subst N;refine(_,rfl,Æk,λo O=>(Ť,λr R=>?_));have j:=Zf R #[tm,0,o];exact q r _ (r,o,_,0,rfl,Zb,j _ _ Zb,by decide,by decide,Qd 1,λ_=>(rfl,rfl)) ((Zf O _).trans j)
 ·have cK:¬ e=b+1:=λz=>m Üu;have S:b=0:=by lia
  have U:e=2:=by lia
  subst S U;obtain W|X:=M 1 Å Å;refine(_,rfl,_,rfl,_,rfl,_,rfl,d,g,l,rfl,hd,L,Qd _,W,X,λr t p Y h2 u=>?_);refine(r,_,rfl,þ Y,rfl,_,_,rfl,_,_,rfl,rfl,_,rfl,_,rfl,_,rfl,_,rfl,_,rfl,_,rfl,a,_,rfl,u.seq I,λk Z=>?_);rw[Zpp (Ŝ ß) 0 2 (Qp _) #[eH,Qa,i],<- Qbm,<- Qa2];have j:=Zf Z Üv;rw[e3,x,p,k,Üv];generalize upd p k (.lst (((c.drop 0).take (2-0)).map ß))=H2 at j x ⊢;have Co:=ZxB i J n;refine(k,(c.drop 0).take (2-0),rfl,É x,by rw[Qx,QL];lia,λv hv=>?_,_,_,rfl,rfl,_,rfl,Æk,λy fG=>(Ť,λB bT=>?_))
  ·have:=n v (Q3 (Qaj hv));lia
  have s3:=Zf fG (.tup [.ref t]);have C:=Zf bT (.tup [.int (0+((c.drop 0).take (2-0)).sum),.ref y]);have nZ:=(j.trans s3).trans C;exact q B _ (B,y,_,_,rfl,Zb,C _ _ Zb,by lia,by lia,Qd 1,λz=>by cases z) (u.trans nZ)
def GB(a:Nat):Sp:=λvs H Q _=>X6 λ(d f:af) (kvs:À (À Key×V)) (b e m:Nat)=>C9 (vs=[.ref d,.ref f,.int b,.int e,.int m]) ÉY (b<e) (e<=2) (1<=m) (m<a) (VN H Ĉ b e) ((∀k,b<k->k<e->Xe a H kvs b k/\Xe a H kvs k e)) (∀ (r:af) (c:Hp),VN c Λ b e->Zu H c->Q Λ c)
theorem Zob(T:Ø)(k:Nat)(u:#[sB,1,"least_cut",Êk,Mu,k]):Df P w K mg Â 2 "least_grove" ÍN (GB k):=by
 rw[ey,T.t_least_grove.df,Jl,v,x];obtain d|c|g|b|e|m|rfl|hd|gN|DZ|m1|mw|i|y|q:=h;refine(_,#[Zc,#[ZN,(@Ő _ _ _ #[Xb,#[Zn,Yu,#[sZ,W4,3,2],Ú,č],#[Xc,#[eL,Yu,4,Ú]]]),Å4,ï],#[Zc,#[Zq,5,Jl.nd,á,#[ZG,u,x,#[Zd,‹0›,‹2›,‹3›,‹4›],Ë]],#[Zh,#[Zl,#[Yb,#[Zn,WB,#[ZA,ÂX,‹5›,Ú],#[ZA,ÂX,‹1›,Ú],č],‹5›,‹1›]]]]],_,rfl,_,rfl,_,_,rfl,rfl,rfl,_,rfl,Z5 (λl=>Y3 Êp) (λl=>(_,rfl,rfl,_,rfl,Z5 #[Az,n] (λn=>?_))))
 ·exact q c H i Æc
 ·exact q c H i Æc
 ·have cK:¬ e=b+1:=λz=>l Üu;have gx:¬ m=1:=λz=>n (û #[tr,z]);have B:b=0:=by lia
  have C:e=2:=by lia
  subst B C;obtain D|F:=y 1 Å Å;refine(_,rfl,_,rfl,_,rfl,_,rfl,d,g,m,rfl,hd,by lia,by lia,D,F,λr t o p G j=>?_);obtain al'|t'|xs'|p'|I|J|k2|k3:=id i;cases I;refine(_,rfl,r,_,_,_,rfl,rfl,þ p,rfl,_,rfl,c,_,_,_,rfl,rfl,þ (j _ _ J),rfl,_,_,rfl,rfl,_,rfl,Z5 #[Az,L] #[Az,L])
  ·exact q r o (r,t,_,0,rfl,p,G,by decide,by decide,by decide,λz=>by cases z) j
  ·exact q c o (i.mono λa xs e=>j _ _ e) j
structure StW (n wy:Nat) (H0 H:Hp) (d:af) (kvs:Ż) (i j:Nat):Prop where
 hd:H d=aa Ãp
 has:∀b e,b<e->e<=n->Ôk->Xe wy H kvs b e
 only:∀b e m,Xw kvs (Kb b e m)≠ah->e-b<=i\/(e-b=i+1/\b<j)
 len:Ă<=12*i+6*j
 sm:Zu H0 H
 d0:H0 d=ah
def GA(K:Ä)(c:Nat):Sp:=λvs H Q _=>X2 λ(a:af) (ns:À Int)=>C8 #[gf,a,c] Å1 Îw #[sv,2] (Èr) (2<=c) (c<=6) (∀ (d:af) (kvs:À (À Key×V)) (f:Hp),f d=aa Ãp->(∀b e,b<e->e<=ď->Xe c f kvs b e)->Zu H f->Q Âa f)
theorem Zme(T:Ø)(g:Nat)(pz:Df P w K mg Â 2 "least_tree" ÍO (GC K g))(oj:#[sB,2,"least_grove",ÍN,GB,g]):Df P w K mg Â 3 "least_groves" ÁE (GA K g):=by
 rw[h6,T.t_least_groves.df,Va];obtain a|u|rfl|hS|n1|n2|bX|w2|w6|q:=h;refine(_,#[Zc,#[Zq,2,Va.nd,á,(@PM _ _)],#[Zc,#[XN,Ž,#[UQ,ÃD,#[Zd,Ú,#[tf,XZ,ÂP]]],#[sU,3,Va.nd],#[Zh,#[XN,Ž,#[Vn,ÃD,#[Zd,#[ZB,XZ,#[ZB,W4,ÂP,‹3›],Ú]]],#[sU,4,Va.nd],#[Zc,#[Zq,5,Va.nd,á,#[sZ,XZ,4,3]],#[Zc,#[Zq,6,Va.nd,á,#[ZG,pz,hr,#[Zd,‹2›,‹0›,‹1›,‹4›,‹5›],Ë]],#[Zh,#[XN,Ž,#[UQ,ÃD,#[Zd,Ú,‹1›]],#[sU,7,Va.nd],#[Zh,#[Yy,#[ZG,oj,hr,#[Zd,‹2›,‹6›,‹4›,‹5›,‹7›],Ë],#[WK,‹2›,#[ZS,#[fK,4,5,7]],(Zw6 hr)]]]]]]]]]],ÃA]],?_);have hl:#[sA,u.map]=(Æo:Int):=by rw[Qa]
 refine λd Bp=>?_;have tU:StW Æo g H (upd H d (.dT [])) d [] 0 0:=(Zb,λb e p t L=>by lia,λb e m h=>Î rfl h,Qp _,Zf Bp _,Bp);generalize upd H d (.dT [])=H1 at tU ⊢;refine(_,rfl,a,_,rfl,.inl (tU.sm.seq hS),_,_,rfl,rfl,_,_,rfl,Í2,?_);rw[show (#[sA,u.map]+1-1).toNat=Æo by lia];refine UN (λi y Y=>X6 λ(c:À (À Key×V)) (v3 G I J C:Ã V)=>y=[aa ą,aa (.int g),aa Âa,v3,G,I,J,C]/\StW Æo g H Y d c i 0) ([],_,_,_,_,_,rfl,tU) ?_ ?_
 ·rintro i y Y hi ⟨c,v3,G,I,J,C,rfl,D⟩;rw[show ((1:Int)+(i:Int))=#[gk,1,i] by lia];refine(_,rfl,a,_,rfl,.inl (D.sm.seq hS),_,rfl,_,_,rfl,rfl,_,_,rfl,rfl,_,rfl,by lia,by lia,?_);rw[show (#[sA,u.map]-#[gk,1,i]+1).toNat=Æo-i by lia];refine UN (λj y M=>X5 λ(c:À (À Key×V)) (G I J C:Ã V)=>y=[aa ą,aa (.int g),aa Âa,aa (.int #[gk,1,i]),G,I,J,C]/\StW Æo g H M d c i j) (c,_,_,_,_,rfl,D) ?_ ?_
  ·rintro j y M hj ⟨c,G,I,J,C,rfl,n⟩;rw[show (ÁQ+(j:Int))=(j:Int) by lia];refine(_,rfl,_,rfl,_,_,rfl,rfl,?_);simp only[show ((j:Int)+#[gk,1,i])=((j+1+i:Nat):Int) by lia];have fam:∀k,j<k->k<j+1+i->Xe g M c j k/\Xe g M c k Âc:=λk p t=>(n.has j k p Á Å3,n.has k Âc t Á Å3);refine(_,rfl,_,rfl,_,rfl,_,rfl,_,rfl,d,a,u,c,j,j+1+i,rfl,n.hd,n.sm.seq hS,by lia,by lia,n2,bX,w2,fam,λal H4 hC s4=>?_);refine(_,rfl,_,_,rfl,Í2,?_);rw[show ((g:Int)-1).toNat=g-1 by lia];refine UN (λl y B=>X2 λ(c:À (À Key×V)) (C:Ã V)=>y=[aa ą,aa (.int g),aa Âa,aa (.int #[gk,1,i]),aa (.int (j:Int)),aa (.int ((j+1+i:Nat):Int)),aa (.ref al),C]/\B d=aa (.dT c)/\(∀b e,b<e->e<=Æo->Ôk->Xe g B c b e)/\(∀m,1<=m->m<=l->∃v,Xw c (Kb j Âc m)=aa v/\VN B v j Âc)/\(∀b e m,Xw c (Kb b e m)≠ah->Ôk\/(b=j/\e=j+1+i/\m<=l))/\ë<=12*i+6*j+l/\Zu H B/\VN B (.ref al) j Âc)
    (c,_,rfl,s4 _ _ n.hd,λb e p t L=>(n.has b e p t L).mono λa F e=>s4 _ _ e,λm p t=>by lia,λb e m h=>.inl (n.only b e m h),by have:=n.len;lia,n.sm.trans s4,hC) ?_ ?_
   ·rintro l y B sF ⟨x,v7',rfl,Z,N,zz,sM,O,s5,Fi⟩;rw[show ((1:Int)+(l:Int))=#[gk,1,l] by lia];have R:∀k,j<k->k<j+1+i->Xe g B x j k/\Xe g B x k Âc:=λk p t=>(N j k p Á Å3,N k Âc t Á Å3);refine(_,rfl,_,rfl,_,rfl,_,rfl,_,rfl,d,al,x,j,j+1+i,1+l,rfl,Z,by lia,by lia,by lia,by lia,Fi,R,λr H6 hC6 s6=>?_);have Fj:=s6 _ _ Z;refine(_,rfl,_,rfl,_,rfl,_,rfl,Á6,λS iB=>?_);have s7:=Zf iB Ôl;rw[e3,f7,H6,S,Ôl];change Pz _ _ _ (upd H6 S Ôl) _;generalize upd H6 S (.tup ((Kb j (j+1+i) (1+l)).map kV))=H7 at s7 f7 ⊢;have Fk:=s7 _ _ Fj;have zA:Xw x (Kb j Âc (1+l))=ah:=by
     cases hx:Xw x (Kb j (j+1+i) (1+l)) with
     | none=>rfl
     | some v=>rcases sM j (j+1+i) (1+l) (by rw[hx];simp) with h|h<;>lia
    have sG:=s6.trans s7;have vE:#[z5,F,B,Üw]:=λa F e=>GF Fk _ _ _ (sG _ _ e);have Bq:#[z5,F,H6,Üw]:=λa F e=>GF Fk _ _ _ (s7 _ _ e);have gP:∀k v,Xw x k=aa v->Xw (x++[(Kb j Âc (1+l),ø r,)]) k=aa v:=λk v h=>by rw[PB,h];rfl
    refine(d,x,S,Kb j Âc (1+l),rfl,rfl,Fk,f7,zA,ZD Á,_,_,rfl,Zb,λb e p t L m U m2=>?_,λm U m2=>?_,λb e m h=>?_,by rw[Qg,QC];lia,λb o hb=>?_,Fi.mono vE)
    ·obtain v|W|X:=N b e p t L m U m2;exact Üx
    ·by_cases hm:m<=l
     ·obtain v|W|X:=zz m U hm;exact Üx
     ·have em:m=1+l:=by lia
      subst em;exact(.ref r,by rw[PB,zA,Æ rfl];rfl,hC6.mono Bq)
    ·rw[PB]at h;by_cases hk:Kb j Âc (1+l)=Kb b e m
     ·rw[sX,W,X,x3,Zux,hk];exact .inr (W.symm,X.symm,by lia)
     ·rw[sR,hk,h];rcases sM b e m (λz=>h (by rw[z];rfl)) with h|h
      ·exact .inl h
      ·exact .inr (h.1,h.2.1,by lia)
    ·rw[h1,hb,D.d0,sG,s5,o]
   ·rintro y B ⟨x,v7',rfl,Z,N,zz,sM,O,s5,Fi⟩;refine(x,_,_,_,_,rfl,Z,λb e p t L=>?_,λb e m h=>?_,by lia,s5,D.d0)
    ·by_cases hb:e-b<=i\/(e-b=i+1/\b<j)
     ·exact N b e p t hb
     ·have eb:b=j:=by lia
      have ee:e=j+1+i:=by lia
      subst eb ee;exact λm U m2=>zz m U Á
    ·rcases sM b e m h with h|h
     ·rcases h with h|h
      ·exact .inl h
      ·exact .inr (h.1,by lia)
     ·exact .inr ÂG
  ·rintro y M ⟨c,G,I,J,C,rfl,n⟩;refine(c,_,_,_,_,_,rfl,n.hd,λb e p t L=>n.has b e p t Á,λb e m h=>?_,by have:=n.len;lia,n.sm,n.d0);have:=n.only b e m h;lia
 ·rintro y Y ⟨c,v3,G,I,J,C,rfl,D⟩;exact(_,rfl,q d c Y D.hd (λb e p t=>D.has b e p t Å3) D.sm)
def Mt(K:Ä):Sp:=λvs H Q _=>X3 λ(a:af) (ns:À Int) (b:Nat)=>C8 #[gf,a,b] Å1 Îw #[sv,2] (Èr) (2<=b) (b<=6) (∀ (r:af) (x:V) (p:Int) (c:Hp),c r=aa #[sW,p]->0<=p->p<=4000000000->(ď=1->x=.int 0)->Zu H c->Q Λ c)
theorem ZqT(T:Ø)(y:∀i,Df P w K mg Â 3 "least_groves" ÁE (GA K i)):Df P w K mg Â 4 "near_plan" ÁE (Mt K):=by
 rw[ey,T.t_near_plan.df,NZ,B,m];obtain a|b|i|rfl|n|C|D|F|G|I|q:=h;have J:=y i;refine(_,#[Zc,#[Yy,#[ZA,(ixD m),#[sF,J,m,0],#[ZS,#[Zd,Ú,ÂP,Ú]]],#[eC,2,NZ.nd,3]],#[Zh,#[Zl,#[ZS,#[Zd,‹2›,ÊI]]]]],?_);have L:#[sA,ÂJ]=(Ň:Int):=by rw[Qa]
 refine(_,rfl,_,rfl,a,b,rfl,n,C,D,F,G,I,λd k l hd M o=>?_);refine(_,rfl,a,_,rfl,.inl (o.seq n),Á6,λe N=>?_);obtain v|O|c|t|R|p|rfl|S|U|W|X|Y|Z:=M 0 Ň Á ò 1 Á Á;have g:=Zf N Ôm;rw[e3,u,l,e,Ôm];rw[L];change VZ _ _ (upd l e Ôm) _;generalize upd l e (.tup ((Kb 0 Ň 1).map kV))=H2 at g u ⊢;refine(d,k,e,Kb 0 Ň 1,_,rfl,rfl,g _ _ hd,u,O,c,_,rfl,þ (g _ _ S),rfl,_,_,rfl,_,_,rfl,rfl,?_);have nQ:=o.trans g;cases R with
 | nil=>cases Y
 | Ñ x r=>refine(_,rfl,_,rfl,t,_,_,_,rfl,rfl,þ (g _ _ U),(Ya (j:=0) rfl),Ť,λr cY=>?_);have s3:=Zf cY #[sW,p];refine q r x p _ Zb W X (λz=>?_) (nQ.trans s3);have:=(Z z).2;rw[yS]
theorem Zpc{K:Ä}{a:af}{xs:ă}{k:Nat}{D:af}{b:ÄE}{f:Hp}{g:TG}{h:TE}{Q:VK}(Pv:É3)(h0:Pv 0 [] #[sS,b,k] (upd f D ÀB))
  (hl:∀i zs b H,Pv i zs b H->SqL K H a xs)
  (hs:∀i zs b H x p,xs[i]? = aa x->Pv i zs b H->H p=ah->g Ś b (upd H p #[sW,i]) λj n=>h j n λz l=>l D=aa Ε/\Ìj<aq/\Pv (i+1) (zs++[z]) j #[gR,l,zs,z])
  (hd:#[iG,zs,b,Ö]):V0 Ñh D k b f g Ww h Q:=by
 rw[eT,zs,b,Ö];have d:=hl i zs b H p;by_cases c:i<Ö
 ·refine .inr ((xs,d,c),Pv (i+1),λj3 aX o q=>(Ö-(i+1),by lia,rfl,c,q),λx o y=>?_);obtain r|s|rfl|e:=y;have t:=e xs d _ (Qb c);subst t;rw[j9];exact hs i zs b H _ r (Qb c) p s
 ·have e:ËM:=by lia
  exact .inl ((xs,d,by lia),hd zs b H Çe)
theorem Zr3(xs:ă)(d:Nat):Yh xs ah (aa (d:Int))=xs.take d:=by
 unfold Yh;rw[HT.sIx_nat,HT.sIx_none,ÒF,Nat.sub_zero];by_cases h:d<=Ö
 ·rw[Îp h]
 ·rw[Üy Á,Qy ò,Qy Á]
theorem Zts(xs:ă)(d:Nat):Yh xs (aa (d:Int)) ah=Èw d:=by
 unfold Yh;rw[HT.sIx_nat,HT.sIx_none,Qy #[fH,QL]];by_cases h:d<=Ö
 ·rw[Îp h]
 ·rw[Üy Á,Üz ò,Üz Á]
theorem Zn8(ts:YG)(d:Nat):(ZV ts).take d=ZV (ts.take d):=by unfold ZV;rw[Qa2]
theorem ZoP(ts:YG)(d:Nat):(ZV ts).drop d=ZV (ts.drop d):=by unfold ZV;rw[Qbm]
def szT(t:af×À Key):Int:=match t.2 with|.inl z::_=>z|_=>0
def Y4(ts:YG):Int:=(À9 szT).sum
def US(n:Nat)(t:af×À Key):Prop:=X2 λz m:Int=>t.2=[.inl z,.inl m]/\0<=z/\0<=m/\m<n
def Wo(a:af)(z m:Int):af×À Key:=(a,[.inl z,.inl m],)
theorem Ms(a b:YG):Y4 (a++b)=Y4 a+Y4 b:=by unfold Y4;rw[Qi,ÌN]
theorem Gz{a b:YG}(p:a.Perm b):Y4 a=Y4 b:=by
 unfold Y4;induction p with
 | nil=>rfl
 | Ñ x _ c=>rw[Qh,Qh,QP,QP,c]
 | swap x y l=>rw[Qh,Qh,Qh,Qh,QP,QP,QP,QP];lia
 | trans _ _ d e=>exact Ëx e
theorem Gy{n:Nat}{t:af×À Key}(h:US n t):0<=szT t:=by obtain z|m|e|a|_:=h;unfold szT;rw[e];exact a
theorem Mr{n:Nat}:∀ {ts:YG},(∀t∈ts,US n t)->0<=Y4 ts/\∀t∈ts,szT t<=Y4 ts
 | [],_=>(Qap 0,λt h=>by cases h)
 | x::r,h=>by
  have h1:=Gy (h x Ù);obtain h2|a:=Mr (ts:=r) λt ht=>h t (Qw _ ht);have e:Y4 (x::r)=szT x+Y4 r:=by unfold Y4;rw[Qh,QP]
  rw[e];refine(by lia,λt ht=>?_);rcases î ht with rfl|ht
  ·lia
  ·have:=a t ht;lia
structure AtF (H0 H:Hp) (th tr:af) (ts:YG) (xs:ă) (c:Int) (mm:Nat):Prop where
 hth:H th=aa #[fR,ZV,ts]
 att:AtT H ts
 key:∀t∈ts,US Ö t
 htr:H tr=aa Àt
 ne:th≠tr
 t0:H0 th=ah
 r0:H0 tr=ah
 sm:Zu H0 H
 m2:2<=mm
 su:Y4 ts<=12000000000
 ln:Φ+Ö<=24
 pos:1<=Ö
 c0:0<=c
 c1:c<=12000000000*Ö
theorem Gx{n:Nat}{ts:YG}(h:∀t∈ts,US n t):∀t∈ts,YJ t.2=Ïb:=λt ht=>by obtain z|m|e|_:=h t ht;rw[e];rfl
def Gw(K:Ä):Sp:=λvs H Q _=>X3 λ(a:af) (ns:À Int) (b:Nat)=>C8 #[gf,a,b] Å1 Îw #[sv,12] (Èr) (2<=b) (b<=6) (∀ (r:af) (x:V) (C:Int) (c:Hp),c r=aa #[sW,C]->0<=C->C<=300000000000->Zu H c->Q Λ c)
theorem Zqw(T:Ø):Df P w K mg Â 1 "free_plan" ÁE (Gw K):=by
 rw[h6,T.t_free_plan.df,Wf];obtain a|l|N|rfl|hS|u|n12|bX|w2|w6|q:=h;refine(_,#[Zc,#[Zq,2,ÃS,á,#[Zo,(Kz K),Ë,T.b.n_sorted,boot_sorted,#[Zd,#[W0,Tt,ÒP,#[fb,8,Tt,9],γ,(λ_ _ _ _=>#[ZS,#[ub,9,Tt,8]])]]]],#[Zc,#[Zq,3,ÃS,És,#[Xx,Zwm,Í5,Í6,#[Zd,#[Xx,Zxy,ÃD,ÏJ,#[Zd,ÂP]]]]],#[Zc,#[h7,4,ÃS,Ú],#[Zc,#[Zq,5,ÃS,á,#[ZB,XZ,Ú,#[ZB,UL,#[tf,W4,ÂP],#[Aj,W4,1]]]],#[Zc,(@T7 _ _ _ _ _ _ Ž #[f8,Æe] #[Zc,#[Zq,6,ÃS,á,#[Wz,(slL K),‹2›,(@VJ _),#[iu,5]]],#[Zc,#[Zq,7,ÃS,á,#[Zo,(PD K),Ë,Ók,boot_sum,#[Zd,#[W0,NV,#[iL,K,‹6›],#[gj,8,NV],γ,(λ_ _ _ _=>#[ZA,ÂX,#[cw,8,NV],Ú])]]]],#[Zc,#[Zq,2,ÃS,á,#[Zo,(Kz K),Ë,T.b.n_sorted,boot_sorted,#[Zd,#[ZB,Xn,#[ic,2,5],#[Z2,#[Zd,#[ZS,#[Zd,‹7›,#[hv,3]]]]]]]]],#[Zc,#[ZO,#[YF,K,QH,QN,QO,WR,#[hj,3],#[Zd,#[Xx,(Zxw K),T.b.n_tuple,boot_tuple,#[Zd,#[W0,R9,#[iL,K,‹6›],#[gj,8,R9],γ,(λ_ _ _ _=>#[ZA,(ixL K),#[cv,3,R9],#[ZA,ÂX,#[cw,8,R9],Ú]])]]]]]],#[Zc,(@LU _ _ 4 _ _ _ _ _ _ ÃS rfl á ‹7› LS ÍX),#[Zh,#[ij,5,ÃS,1]]]]]]]),#[Zh,#[Zl,#[ZS,#[Zd,‹4›,#[ZA,(ixL K),#[hj,3],ÇN]]]]]]]]]],?_);refine(_,rfl,a,Á1 ß,rfl,hS,λD hD=>?_);refine Zpc (K:=K) (a:=a) (xs:=Á1 ß) (λi zs G L=>(X2 λv1 v2:Ã V=>G=[aa ą,aa (.int N),ah,ah,ah,ah,ah,ah,v1,v2])/\(∃g:YG,zs=ZV g/\AtT L g/\Ã3=i/\(∀t∈g,US İ t)/\Y4 g<=1000000000*i)/\i<=İ/\L D=aa Ε/\Zu H L) ?_ (λ_ _ _ _ h=>h.2.2.2.2.seq hS) ?_ ?_
 ·exact((ah,ah,rfl),([],rfl,#[fk,t,h],rfl,#[fk,t,h],Qap 0),Qp _,Zb,Zf hD _)
 ·rintro i zs G L x p C ⟨⟨v1,v2,rfl⟩,⟨g,rfl,cn,gA,hk,u6⟩,uS,X,s2⟩ hp;rw[Qr]at C;cases hy:l[i]? with
  | none=>rw[hy]at C;cases C
  | some y =>
   rw[e5,hy,C,dP,İ];obtain y0|y1:=bX y (Qm hy);have sp:=Zf hp #[fT,i,y];have kj:(upd L p #[fT,i,y]) p=aa #[fT,i,y]:=Zb;have ig:=sp _ _ X;have lK:=Í8 cn sp;have S:=ÎC sp;generalize upd L p (.tup [.int i,.int y])=H3 at kj ig lK S ⊢;refine(p,_,rfl,þ kj,rfl,_,_,rfl,_,_,rfl,rfl,_,rfl,_,rfl,Ť,λn sI=>?_);have sn:=Zf sI #[fT,y,i];have gF:=sn _ _ ig;have px:D≠n:=Zg ig sI;refine(gF,(by rw[Rx,gA];exact ZD Á),ÊC,(g++[ÜA],by unfold ZV;rw[Qi];rfl,λt ht=>?_,by rw[Qg,QC];lia,λt ht=>?_,?_),by lia,Zb,λb o I=>?_)
   ·rcases ÿ ht with ht|ht
    ·exact U2 gF _ _ _ (sn _ _ (lK t ht))
    ·rw[ó ht,Ze px.symm];exact Zb
   ·rcases ÿ ht with ht|ht
    ·exact hk t ht
    ·rw[ó ht];exact(y,i,rfl,y0,by lia,by lia)
   ·rw[Ms];have:Y4 [ÜA]=y:=by show (y+0:Int)=y;lia
    lia
   ·rw[h1,I,hD,sn,S,o]
 rintro zs G L ⟨⟨v1,v2,rfl⟩,⟨ze,rfl,uo,rL,xg,CN⟩,_,X,s2⟩;rw[Qa]at CN rL;refine(D,ze,Ïb,rfl,É X,uo,by simp,Gx xg,by lia,λF g O M pw=>?_);have S:=ÎC (Zf O #[fR,ZV,g]);rw[fU,wI,L,F,ZV,g];have lK:AtT (upd L F #[fR,ZV,g]) g:=λt ht=>Zf O _ _ _ (uo t Ïc);have CO:H F=ah:=s2.free O;generalize upd L F (.lst (ZV g))=H3 at S wI lK ⊢;have hl:#[sA,Á1]=ÃH:=by rw[Qa]
 refine(_,rfl,a,_,rfl,.inl (S.seq hS),?_);simp only[hl];refine(_,rfl,λrg Fm=>(rg,0,_,rfl,Zb,by lia,by lia,by lia,by lia,by lia,λB Y=>?_));rw[show ((ÃH-0).toNat)=İ by lia];have s4:Zu H3 ÜB:=(Zf Fm _).trans (Zf Y _);have zB:ÜB B=aa (.lst Ôn):=Zb;have A5:F≠B:=Zg ((Zf Fm _) _ _ wI) Y;rw[f7,CP,B,S.free,Fm,Y];generalize upd (upd H3 rg (.rng 0 (İ:Int))) B (.lst ((X1 0 İ).map ß))=H4 at s4 zB ⊢;have jJ:=S.trans s4;refine(_,rfl,a,_,rfl,.inl (jJ.seq hS),_,_,rfl,rfl,_,rfl,_,_,rfl,rfl,_,_,rfl,rfl,by lia,_,_,rfl,rfl,?_);simp only[hl];obtain⟨mm0,hmm,cX⟩:∃m:Nat,(2+((İ:Int)-2) % ((N:Int)-1))=(m:Int)/\2<=m:=by have h1:0<=(ÃH-2) % ((N:Int)-1):=Qa4 _ Á;exact((2+(ÃH-2) % ((N:Int)-1)).toNat,by lia,by lia)
 rw[hmm];have sJ:AtF H H4 F B g Ôn 0 mm0:=by
  have cr:(Ôn).length=İ:=by rw[Qa,SS]
  exact(s4 _ _ wI,Í8 lK s4,λt ht=>by rw[cr];exact xg t Ïc,zB,A5,CO,CP,jJ,cX,by rw[Gz M];lia,by rw[M.length_eq,rL,cr];lia,by rw[cr];exact u,Qap 0,by lia)
 clear wI lK S uo X s2 M pw O hD rL zB A5 CO CP s4 jJ hmm cX xg CN;refine(λm G H5=>X8 λ(F B:af) (g:YG) (xs:À V) (c:Int) (k:Nat) (v6 v7:Ã V)=>G=[aa ą,aa (.int N),aa (.ref F),aa Ãy,aa (.int c),aa (.int k),v6,v7]/\AtF H H5 F B g xs c k/\m=Ã3,(_,F,B,g,_,0,_,ah,ah,rfl,sJ,rfl),?_);clear sJ;rintro m G H5 ⟨F,B,g,xs,c,k,v6,v7,rfl,h,rfl⟩;have hln:=h.ln;have cX:=h.m2;rw[gE,F,h.hth]
 ·have d':(1:Int)<#[e7,ZV,g]:=ÀY;rw[Rx]at d';refine Îx;rw[hd,F,h.hth,R,htg];rw[Zr3,Zn8];have s6:=Zf htg #[fR,ZV,Áj];rw[fU,ux,H5,R,ZV,Áj];generalize upd H5 R (.lst (ZV (Âd k)))=H6 at s6 ux ⊢;have wJ:∀t∈Âd k,US Ö t:=λt ht=>Áh t (Qaj ht);have CQ:AtT H6 Áj:=λt ht=>s6 _ _ (h.att t (Qaj ht));have hT24:(Áj).length<=24:=by rw[Qx];lia
  have hT2:2<=(Áj).length:=by rw[Qx];lia
  have Fn:Y4 g=Y4 Áj+Y4 (ÃT k):=by rw[<- Ms,QaP]
  obtain nnD|_:=Mr λt ht=>Áh t (Q3 (i:=k) ht);obtain nnT|leT:=Mr wJ;have u6:=h.su;refine(_,rfl,R,rfl,#[sK,ux],λD hD=>?_);refine Vw (K:=K) (a:=R) (xs:=ZV Áj) (λi zs G Z=>(∃v:Ã V,G=[aa ą,aa (.int N),aa (.ref F),aa Ãy,aa (.int c),aa (.int k),aa (.ref R),v7,v])/\zs=(((Áj).take i).map szT).map ß/\i<=(Áj).length/\Z D=aa Ε/\Zu H6 Z) ?_ #[gd,ux] ?_ ?_
  ·exact#[fn,hD]
  ·rintro i x zs G Z C ⟨⟨v,rfl⟩,rfl,hi,xv,s7⟩;rw[Ak,ZV,C];cases J:(Âd k)[i]? with
   | none=>rw[J]at C;cases C
   | some t =>
    rw[dI];have hH:=s7 _ _ (CQ t (Qm J));have ez:szT t=z:=by unfold szT;rw[et]
    rw[et]at hH;refine(_,rfl,t.1,_,_,_,rfl,rfl,þ hH,rfl,xv,Ó6,ā,?_,dP,Zb,λb o I=>?_)
    ·rw[QI,J,Qi,Qi];show _++[ß z]=_++[ß (szT t)];rw[ez]
    ·rw[ik,I,hD,s7,o]
  rw[hM,G,Z,v,xv,s7];rw[Aa,Rx,xv];refine(D,(Áj).map szT,rfl,É xv,by rw[Qa];lia,λn hn=>?_,?_)
  ·rw[eV,e,he,hn];have a1:=Gy (wJ e he);have a2:=leT e he;exact(a1,by lia)
  have esum:((Áj).map szT).sum=Y4 Áj:=rfl;rw[esum];have sG:=s6.trans s7;have hth7:=sG _ _ h.hth;have htr7:=sG _ _ h.htr;rw[hd,F,hth7,sl,cT];rw[Zts,ZoP];have s8:=Zf cT ÜC;rw[sr,CS,Z,sl,ÜC];generalize upd Z sl (.lst (ZV (ÃT k)))=H8 at s8 CS ⊢;refine(_,rfl,_,rfl,B,_,rfl,.inl #[An,s8,htr7],Ť,λu hV=>?_);have s9:=Zf hV ÜD;rw[e3,CT,H8,u,ÜD];generalize upd H8 u (.tup [.int (Y4 (Âd k)),.int ((Ö:Nat):Int)])=H9 at s9 CT ⊢;rw[s6,Æk,l1,cP];have gv:=Zf cP #[tL,u];have uv:(upd H9 l1 #[tL,u]) l1=aa #[tL,u]:=Zb;generalize upd H9 l1 (.lst [.ref u])=gg at gv uv ⊢;have CU:=s9.trans gv;refine(sl,l1,_,_,rfl,rfl,CU _ _ CS,uv,(by rw[Rx,QL];exact QaC (ZD (by show Ã3-k+1<=1000;lia))),λc1 u7=>?_);have ecat:ZV (ÃT k)++[ø u]=ZV Ê9:=by unfold ZV;rw[Qi];rfl
  rw[ecat];have lP:=Zf u7 #[fR,ZV,Ê9];rw[fU,rP,gg,c1,ZV,Ê9];generalize upd gg c1 (.lst (ZV (ÃT k++[Wo u (Y4 (Âd k)) ((Ö:Nat):Int)])))=jB at lP rP ⊢;have CW:Zu Z jB:=(s8.trans CU).trans lP;have wK:=sG.trans CW;have rM:∀t∈ÃT k++[Wo u (Y4 (Âd k)) ((Ö:Nat):Int)],US (Ö+1) t:=λt ht=>by
   rcases ÿ ht with ht|ht
   ·obtain z|m|e|z0|m0|m1:=Áh t (Q3 ht);exact(z,m,e,z0,m0,by lia)
   ·rw[ó ht];exact(_,_,rfl,nnT,by lia,by lia)
  have lJ:AtT jB Ê9:=λt ht=>by
   rcases ÿ ht with ht|ht
   ·exact wK _ _ (h.att t (Q3 ht))
   ·rw[ó ht];exact(gv.trans lP) _ _ CT
  have lnew:(Ê9).length+1<=Ã3:=by rw[Qg,QL,QC];lia
  have snew:Y4 Ê9=Y4 g:=by
   rw[Ms];have:Y4 [Wo u (Y4 Áj) #[fC,Ö]]=Y4 Áj:=by show (Y4 Áj+0:Int)=_;lia
   lia
  generalize ÃT k++[Wo u (Y4 (Âd k)) ((Ö:Nat):Int)]=us at lP rP rM lJ lnew snew ⊢;refine(c1,us,Ïb,rfl,É rP,lJ,by simp,Gx rM,by lia,λU W fG M pw=>?_);have nQ:=Zf fG #[fR,ZV,W];rw[fU,zC,jB,U,ZV,W];have wG:AtT (upd jB U #[fR,ZV,W]) W:=λt ht=>nQ _ _ (lJ t Ïc);have CY:U≠B:=(Zg (wK _ _ h.htr) fG).symm;have t20:H U=ah:=h.sm.free (wK.free fG);generalize upd jB U (.lst (ZV W))=nR at nQ zC wG ⊢;have CZ:=wK.trans nQ;have zD:Zu H6 nR:=(s7.trans CW).trans nQ;have vF:=CZ _ _ h.htr;refine(_,rfl,.inl #[fm,vF],_,rfl,R,rfl,(_,É (zD _ _ ux)),λD2 X=>?_);refine Vw (K:=K) (a:=R) (xs:=ZV Áj) (λi zs G xr=>(∃v:Ã V,G=[aa ą,aa (.int N),aa (.ref U),aa Ãy,aa (.int c),aa (.int k),aa (.ref R),aa (.int (Y4 Áj)),v])/\Ìj=i/\i<=(Áj).length/\xr D2=aa Ε/\Zu nR xr) ?_ (λ_ _ _ _ h=>É (h.2.2.2.2 _ _ (zD _ _ ux))) ?_ ?_
  ·exact#[fn,X]
  ·rintro i x zs G xr C ⟨⟨v,rfl⟩,ye,hi,zE,i5⟩;rw[Ak,ZV,C];cases J:(Âd k)[i]? with
   | none=>rw[J]at C;cases C
   | some t =>
    rw[dI];have hH:=i5 _ _ (zD _ _ (CQ t (Qm J)));rw[et]at hH;obtain⟨j,rfl⟩:∃j:Nat,n=(j:Int):=(ÀD,by lia);have EZ:j<Ö:=by lia
    have cn:atI xs (j:Int)=aa xs[j]:=Ya (Qb EZ);refine(_,rfl,_,rfl,t.1,_,_,_,rfl,rfl,þ hH,rfl,B,_,_,_,rfl,rfl,É (i5 _ _ vF),cn,zE,#[fs,ye,ZD,Á],ā,by rw[Qg,ye];rfl,dP,Zb,λb o I=>?_);rw[ik,I,X,i5,o]
  rintro zs G xr ⟨⟨v,rfl⟩,ye,_,zE,i5⟩;have zF:=i5 _ _ vF;have Fl:=h.pos;refine(D2,_,rfl,.inl (É zE,λtt jt=>(B,_,_,rfl,rfl,Zf jt _ _ _ zF,ZD Á,?_)));have nZ:=Zf jt (.tup zs);have zG:=nZ _ _ zF;generalize upd xr tt (.tup zs)=H14 at nZ zG ⊢;have vG:=i5.trans nZ;have kept:∀b o,b≠B->H14 b=aa o->(upd H14 B (.lst (xs++[.ref tt]))) b=aa o:=λb o nb I=>by rw[Ze nb];exact I
  refine(_,rfl,_,rfl,_,_,rfl,rfl,_,rfl,?_);have l2len:=M.length_eq;have xl:(xs++[ø tt]).length=Ö+1:=by rw[Qg];rfl
  have xp:=h.c0;have u7:=h.c1;exact(W.length,by lia,U,B,W,xs++[.ref tt],c+Y4 Áj,N,_,_,rfl,(kept _ _ CY (vG _ _ zC),λt ht=>U2 zG _ _ _ (vG _ _ (wG t ht)),λt ht=>by rw[xl];exact rM t Ïc,Zb,CY,t20,h.r0,λb o I=>by rw[Ze (Zg I h.r0)];exact vG _ _ (CZ _ _ (h.sm b o I)),w2,by rw[Gz M];lia,by rw[xl];lia,by lia,by lia,by rw[xl];lia),rfl)
 ·have Fl:=h.pos;have Fo:atI xs (-1)=aa (xs[Ö-1]' Á):=HN ÃC Á;have xp:=h.c0;have u7:=h.c1;refine(_,rfl,_,rfl,_,rfl,B,_,_,_,rfl,rfl,É h.htr,Fo,Ť,λr cY=>?_);exact q r _ c _ Zb xp Á (h.sm.trans (Zf cY _))
def Gv:Sp:=λvs H Q _=>∃i:Int,vs=[.int i]/\Q (.bl true) H
theorem Zsn(T:Ø):Df P w K mg Â 1 "is_number" Å0 Gv:=by
 rw[ey,T.t_is_number.df,Zkb,a,hr];rw[je,i,q,h];refine(_,#[Zh,#[Zl,(@Rr _ _ _ _ _ _ _ #[fN,SW,0,ÍV,ÍW] (@Ua _ _ _ _ _ (@Zvi _ _ _ _ #[fN,SW,0,T.b.n_bool,boot_bool])))]],?_);exact(_,rfl,_, "int",_,_,rfl,.int i,ZoZ K,_,rfl,Y3 (_,rfl,_, "bool",_,_,rfl,.int i,Je K,_,rfl,q))
def Gu:Sp:=λvs H Q _=>X4 λ(a r l:af) (xs:À V)=>C4 (vs=[.ref a,.ref r,.int 0]) (H r=aa #[tL,l]) Ém (∀ (n:af) (b:Hp),Zu H b->b n=aa Àt->Q (.ref n) b)
theorem Zvj(T:Ø)(c:#[jm,1,"is_number","thing",Gv]):Df P w K mg Â 2 "merged_by" ÍL Gu:=by
 rw[ey,T.t_merged_by.df,ZjN,d,e];obtain a|r|l|b|rfl|g|i|q:=h;refine(_,#[Zc,#[ZN,#[Xd,#[hT,c,e,ÃG]],#[Zh,#[Zl,#[Xx,(KW K),Í5,Í6,#[Zd,#[ZA,(ixL K),#[hj,1],‹2›]]]]],ï],Èb],?_);exact(_,rfl,0,rfl,_,rfl,Y3 (_,rfl,_,rfl,r,_,_,_,rfl,rfl,É g,rfl,l,b,rfl,.inl (É i),λn j=>q n _ (Zf j _) Zb))
def Gs(K:Ä):Sp:=λvs H Q _=>X4 λ(a:af) (ss:À am) (room d:Nat)=>C7 (vs=[.ref a,.int room,.int d]) ÇL (Àm<=room) (room<=60) (2<=d) (d<=6) (∀ (r n:af) (c:Int) (e:À Int) (b:Hp),b r=aa (.tup [.ref n,.int c])->b n=aa #[sz,e.map]->Ê1<=60->(∀m∈e,0<=m/\m<60)->Zu H b->Q Λ b)
theorem Zqk(T:Ø)(U:ÜE)(W:ÜF)(X:Df P w K mg Â 2 "merged_by" ÍL Gu):Df P w K mg Â 6 "sort_by" ÍP (Gs K):=by
 rw[ey,T.t_sort_by.df,Sc,Y,C];obtain a|N|room|F|rfl|Z|G|lV|w2|w6|q:=h;refine(_,#[Zc,#[Zq,3,Sc.nd,á,#[sF,U,C,0]],#[Zc,#[ZN,#[Zn,Yu,Ä1,Ú,č],#[Zh,#[Zl,#[ZS,#[Zd,Èi,Ú]]]],ï],#[Zc,#[Yy,#[ZG,W,C,#[Zd,#[W0,Sa,#[iL,K,‹3›],#[gj,6,Sa],γ,(λ_ _ _ _=>#[Zo,(Y2 K),#[tD,Sa],ÁF,Qn,#[Zd,#[cw,6,Sa]]])],‹2›],Ë],#[eC,4,Sc.nd,5]],#[Zh,#[Zl,#[ZS,#[Zd,#[ZG,X,C,#[fK,0,3,5],Ë],‹4›]]]]]]],?_);refine(_,rfl,_,rfl,a,N,room,rfl,Z,G,lV,λr l c H1 d j hn k O=>?_);refine(_,rfl,r,_,rfl,.inl (É d),rfl,_,rfl,?_);by_cases I:c=[]
 ·subst I;refine Xu rfl (Áe,λe he=>(Ť,λt g=>?_));exact q t e 0 [] _ Zb (Zf g _ _ _ Zb) Å #[fk,m,h] (O.trans ((Zf he _).trans (Zf g _)))
 ·have o1:Wp c l=[.ref l]:=È I;rw[o1]at d ⊢;refine XS Ác ?_;have j:=j I;refine(_,rfl,r,rfl,#[sK,d],λD R=>?_);refine Vw (K:=K) (a:=r) (xs:=[ø l]) (λi zs J o=>(∃v:Ã V,J=[aa ą,aa Î4,aa (.int F),aa Λ,ah,ah,v])/\zs=Ġ i (.int ÀK)/\i<=1/\o D=aa Ε/\Zu H1 o) #[fn,R] #[gd,d] ?_ ?_
  ·rintro i y zs J o S ⟨⟨v,rfl⟩,rfl,hi,L,B⟩;have nO:i<1:=(Ń S).1;have i0:i=0:=by lia
   subst i0;cases S;refine(_,rfl,l,_,rfl,.inl #[An,B,j],L,#[hh,0,aq],ā,?_,Qd _,Zb,λb u k=>?_)
   ·rw[Qa];rfl
   ·rw[ik,k,R,B,u]
  rw[hM,J,o,v,L,B];refine(_,rfl,D,[ÀK],F,rfl,É L,Qd 1,by show 1<=2;decide,λv hv=>by rw[ó hv];lia,w2,w6,λr2 x p H3 i4 p0 p1 hx s3=>?_);have ex:=hx rfl;subst ex;have M:=B.trans s3;refine(r2,_,rfl,þ i4,rfl,_,_,rfl,_,_,rfl,rfl,_,rfl,_,rfl,_,rfl,a,r,l,_,rfl,M _ _ d,M _ _ j,λn H4 s4 zj=>(_,rfl,Ť,λt g=>?_));exact q t n p c _ Zb (Zf g _ _ _ zj) Á k (((O.trans M).trans s4).trans (Zf g _))
def VM(P:À V->À V->Prop):Sp:=λvs H Q _=>X5 λ(d sl a:af) (S F:À V)=>C5 #[tw,a] #[sG,sl,S] #[sG,a,F] (P S F) (∀ (z:am) (b:Hp),Zu H b->Q ÀT b)
def Mq(S F:ă):Prop:=X2 λ(room:Nat) (ss:À am)=>S=[.int room]/\F=ss.map Ç/\Àm<=room/\room<=60
def Mp(S F:ă):Prop:=X3 λ(room a:Nat) (ss:À am)=>S=[.int room,.int a]/\F=ss.map Ç/\Àm<=room/\room<=60/\2<=a/\a<=6
def UR(n:Nat)(S F:ă):Prop:=X2 λ(a:Nat) (ns:À Int)=>S=[.int a]/\F=ÅF ß/\1<=ď/\ď<=n/\Èr/\2<=a/\a<=6
theorem Zrf{n:Int}(h:0<=n/\n<60):(Xh n).length<=13:=by unfold Xh;rw[QaQ];exact #[h5,10]
theorem Zty{ns:Ô}(hn:ď<=60)(hb:∀n∈ns,0<=n/\n<60):(blT ÎV).length<=1000:=by
 unfold blT;split
 ·exact(by decide:1<=1000)
 ·exact Qj (HB " " ÎV 13 60 (λz a=>by obtain n|hn|rfl:=Ι a;exact Zrf (hb n hn)) #[eH,Qa,hn] ä) Å
theorem Zmd(T:Ø)(N:ÜE)(O:ÓI):Df P w K mg Â 15 "ask_runs" Àl (VM Mq):=by
 rw[ey,T.t_ask_runs.df,Jk,R,B];obtain d|o|p|_|_|rfl|U|W|⟨room,X,rfl,rfl,t,Y⟩|q:=h;refine(_,#[Zc,#[Vj,3,Jk.nd,R8,#[iL,K,#[ZG,N,B,Ôo,Ë]],#[gj,4,R8],γ,(λ_ _ _ _=>#[ZG,O,B,#[Zd,#[cw,4,R8]],#[tD,R8]])],#[Zh,#[Zl,#[Yb,#[f8,Ä1],#[il,Áf],ÎL]]]],?_);refine(_,rfl,_,rfl,o,_,_,_,rfl,rfl,É U,rfl,p,X,room,rfl,É W,t,Y,λr l ns Z C cP G c I=>(r,rfl,#[sK,C],λD J=>?_));have wl:=Zty (ns:=ns) Á c;refine Vw (K:=K) (a:=r) (xs:=Wp ns l) (λi zs x k=>(∃v:Ã V,x=[aa Âa,aa (.ref o),aa Ś,ah,v])/\(∃ws:À am,zs=ÅX Ç/\Äh=i/\∀w∈ws,w.length<=1000)/\i<=1/\k D=aa Ε/\Zu Z k) ((ah,rfl),([],rfl,rfl,λw h=>by cases h),Qp _,Zb,Zf J _) #[gd,C] ?_ ?_
 ·rintro i y zs x k e ⟨⟨v,rfl⟩,⟨ws,rfl,hw,g⟩,hi,m,j⟩;have L:ns≠[]:=λz=>by rw[z]at e;cases e
  have o1:Wp ns l=[.ref l]:=È L;rw[o1]at e;have nO:i<1:=(Ń e).1;have i0:i=0:=by lia
  subst i0;cases e;refine(_,rfl,l,ns,rfl,É (j _ _ (cP L)),by lia,(λn G=>by have:=c n G;lia),λH3 M=>?_);refine(M _ _ m,(by rw[Qa,hw];show 0<aq;decide),ā,(ws++[blT ÎV],by rw[Qi];rfl,by rw[Qg,hw];rfl,λw hw=>?_),Qd _,Zb,λb u c=>?_)
  ·rcases ÿ hw with hw|hw
   ·exact g w hw
   ·rw[ó hw];exact wl
  ·rw[h1,c,J,M,j,u]
 rintro zs x k ⟨⟨v,rfl⟩,⟨ws,rfl,hw,g⟩,_,m,j⟩;have xn:Äh<=1:=by
  rw[hw];unfold Wp;split
  ·exact Qp _
  ·exact Qd _
 refine(_,rfl,D,_,rfl,.inl (É m),_,_,rfl,rfl,_,rfl,Z5 Èc (λ_=>q _ _ (I.trans j)));refine(rfl,_,rfl,_,D,ws,rfl,rfl,É m,?_,q _ _ (I.trans j));have e3:(" ; " : am).length=3:=by ac_rfl
 have hs:(ÅX ÃN).sum<=1000:=by
  match ws,xn,g with
  | [],_,_=>exact Qp _
  | [w],_,g=>have:=g w Ù;show w.length+0<=1000;lia
 rw[e3];lia
theorem ZmM(T:Ø)(j:#[sB,6,"sort_by",ÍP,Gs,K])(k:ÓI):Df P w K mg Â 15 "ask_sort" Àl (VM Mp):=by
 rw[ey,T.t_ask_sort.df,NY,l,e];obtain d|a|g|_|_|rfl|i|o|⟨room,p,t,rfl,rfl,b,u,v,x⟩|q:=h;refine(_,#[Zc,#[Yy,#[ZG,j,e,#[Zd,‹2›,ÁH,ÁH],Ë],#[eC,3,NY.nd,4]],#[Zh,#[Zl,#[hT,k,e,Áf]]]],_,rfl,_,rfl,a,_,_,_,rfl,rfl,É i,rfl,_,rfl,a,_,_,_,rfl,rfl,É i,rfl,g,t,room,p,rfl,É o,b,u,v,x,λr n c y H1 z B h3 C D=>?_);rw[gu,r,z];exact(_,rfl,n,y,rfl,É B,by lia,(λm G=>by have:=C m G;lia),λH2 I=>q _ _ (D.trans I))
theorem Gr{i:Int}(h0:0<=i)(h:i<=300000000000):Çg Åj=true/\(aQ.int i).intsShort 13=true/\(aQ.int i).showable=true:=by
 have hl:Òn<60:=by
  by_cases z:ÈT=0
  ·rw[z];decide
  ·exact QB (#[qG].mpr (Qax (show ÈT<=300000000000 by lia) (show 300000000000<2 ^ 39 by decide))) Å
 have a:Ûf:=by rw[QaQ];exact #[h5,12]
 refine(?_,by simp only[aQ.intsShort,Ãs];exact a,?_)
 ·rw[a9];split<;>lia
 ·rw[uW];lia
theorem Zml(T:Ø)(g:#[sB,1,"free_plan",ÁE,Gw,K]):Df P w K mg Â 15 "ask_free" ÂN (VM (UR 12)):=by
 rw[ey,T.t_ask_free.df,Zlo,i,b];obtain d|c|e|_|_|rfl|j|k|⟨l,m,rfl,rfl,n,a,o,p,t⟩|q:=h;refine(_,#[Zh,#[Zl,#[Xx,(SU K b),ÊU,ÊV,#[Zd,#[ZA,ÂX,#[ZG,g,b,Ôo,Ë],Ú]]]]],_,rfl,_,rfl,c,_,_,_,rfl,rfl,É j,rfl,e,m,l,rfl,É k,n,a,o,p,t,λr x C H1 h u v y=>?_);obtain z|B|D:=Gr u v;exact(r,_,_,_,rfl,rfl,þ h,rfl,_,.int C,rfl,.int C,z,B,D,q _ _ y)
theorem ZmQ(T:Ø)(e:ÜF):Df P w K mg Â 15 "ask_near" ÂN (VM (UR 2)):=by
 rw[ey,T.t_ask_near.df,ZkK,g,a];obtain d|b|c|_|_|rfl|i|j|⟨k,l,rfl,rfl,m,n,o,p,t⟩|q:=h;refine(_,#[Zh,#[Zl,#[Xx,(SU K a),ÊU,ÊV,#[Zd,#[ZA,ÂX,#[ZG,e,a,Ôo,Ë],Ú]]]]],_,rfl,_,rfl,b,_,_,_,rfl,rfl,É i,rfl,c,l,k,rfl,É j,m,n,o,p,t,λr x C H1 h u c1 _ v=>?_);obtain y|z|B:=Gr u Á;exact(r,_,_,_,rfl,rfl,þ h,rfl,_,.int C,rfl,.int C,y,z,B,q _ _ v)
inductive OdG:am×À V×À V->Prop
 | od (o:Od):OdW o->OdG (o.first,o.sing,o.furt,)
 | runs {S F:À V}:Mq S F->OdG ("runs",S,F,)
 | sort {S F:À V}:Mp S F->OdG ("sort",S,F,)
 | Ų {S F:À V}:UR 12 S F->OdG ("free",S,F,)
 | near {S F:À V}:UR 2 S F->OdG ("near",S,F,)
def Mo:À ÊY:=[("row",[.str "a"],[.str "b",.str "bb"],),("row",[.str "zz"],[],),("grow",[.str "a"],[.str ""],),("grow",[.str "a"],[],),("drop",[.str "a"],[],),("drop",[.str "abcdefgh"],[],),("coming",[],[],),("take",[.int 0],[],),
 ("take",[.int 1000000],[],),("left",[],[],),("counts",[],[],),("rows",[],[],),("runs",[.int 1],[],),("runs",[.int 16],[.str "a",.str "",.str "b"],),("sort",#[fY,3,2],[.str "b",.str "a"],),("sort",#[fY,16,6],[],),
 ("free",[.int 2],[.int 0],),("near",[.int 6],#[fY,999999999,1],),("free",[.int 3],[.int 7,.int 7,.int 7,.int 7,.int 7,.int 7,.int 7,.int 7,.int 7,.int 7,.int 7,.int 7],),("near",[.int 2],[.int 5],),("row",[.str "aaaaaaaa"],[.str "kkkkkkkkkkkkkkkkkkkkkkkkkkkkkkkkkkkkkkkk"],)]
theorem Zvm:∀r∈Yz,∀g∈UT r,g∈Mo:=by ac_rfl
def azB(z:am):Ê:=ÓO λc=>decide (97<=c/\c<=122)
theorem Gq{z:am}(h:azB z=true):AZ z:=Ûv
theorem Mn{z:am}(h:(azB z&&decide (1<=Ć/\Ć<=8))=true):NmS z:=by rw[QT]at h;exact(Gq h.1,ŋ h.2)
theorem Gp{ks:Ï}(h:Ôp=true):KsS ks:=by rw[QT]at h;refine(ŋ h.1,λz a=>?_);have:=QY.mp h.2 z a;rw[QT]at this;exact(ŋ this.2,Gq this.1)
theorem ZvG{g:Èl}(h:g∈Mo):OdG g:=by
 have row:∀ {s:am} {ks:À am},Ôq=true->Ôp=true->OdG ("row",[.str s],Áx Ç,):=λ{s ks} a b=>.od (.row s ks) (Mn a,Gp b);have grow:∀ {s:am} {ks:À am},Ôq=true->Ôp=true->OdG ("grow",[.str s],Áx Ç,):=λ{s ks} a b=>.od ÎQ (Mn a,Gp b);have drop:∀ {s:am},Ôq=true->OdG ("drop",[.str s],[],):=λ{s} a=>.od (.drop s) (Mn a);have size:∀ {n:Nat} {ns:À Int},1<=ď->ď<=n->(ns.all λv=>decide (0<=v/\v<=1000000000))=true->∀f:Nat,2<=f->f<=6->UR n [.int f] Τ:=λa b c f d e=>(f,_,rfl,rfl,a,b,λv i=>ŋ (QY.mp c v i),d,e);unfold Mo at h;rcases î h with rfl|h
 ·exact row (ks:=["b", "bb"]) ä ä
 rcases î h with rfl|h
 ·exact row (ks:=[]) ä ä
 rcases î h with rfl|h
 ·exact grow (ks:=[""]) ä ä
 rcases î h with rfl|h
 ·exact grow (ks:=[]) ä ä
 rcases î h with rfl|h
 ·exact drop ä
 rcases î h with rfl|h
 ·exact drop ä
 rcases î h with rfl|h
 ·exact .od .coming trivial
 rcases î h with rfl|h
 ·exact .od (.take 0) (.inl Å)
 rcases î h with rfl|h
 ·exact .od (.take 1000000) ÁW
 rcases î h with rfl|h
 ·exact .od .left trivial
 rcases î h with rfl|h
 ·exact .od .counts trivial
 rcases î h with rfl|h
 ·exact .od .rows trivial
 rcases î h with rfl|h
 ·exact .runs (1,[],rfl,rfl,by decide,by decide)
 rcases î h with rfl|h
 ·exact .runs (16,["a", "", "b"],rfl,rfl,by decide,by decide)
 rcases î h with rfl|h
 ·exact .sort (3,2,["b", "a"],rfl,rfl,by decide,by decide,by decide,by decide)
 rcases î h with rfl|h
 ·exact .sort (16,6,[],rfl,rfl,by decide,by decide,by decide,by decide)
 rcases î h with rfl|h
 ·exact .free (size (ns:=[0]) Å Å Å 2 Å Å)
 rcases î h with rfl|h
 ·exact .near (size (ns:=[999999999,1]) Å Å Å 6 Å Å)
 rcases î h with rfl|h
 ·exact .free (size (ns:=[7,7,7,7,7,7,7,7,7,7,7,7]) Å Å Å 3 Å Å)
 rcases î h with rfl|h
 ·exact .near (size (ns:=[5]) Å Å Å 2 Å Å)
 rcases î h with rfl|h
 ·exact row (ks:=["kkkkkkkkkkkkkkkkkkkkkkkkkkkkkkkkkkkkkkkk"]) ä ä
 cases h
structure GTo (cR cM:af) (H H':Hp) (X X':MS) (nd:af) (nm eV:ſ):Prop where
 st:(dsO X' eV=dsO X nm)\/X2 λo a=>OdW o/\Yo ω o a (dsO X' eV)
 D:DOk cR cM H' X' nd eV
 m:X'.m=X.m
 fp:∀b,MFp X' b->MFp X b\/H b=ah
 k:∀b u,H b=aa u->¬ MFp X b->b≠nd->H' b=aa u
def spG(h b c:af)(g:Èl):Sp:=λvs H Q _=>X7 λ(d sl e i:af) (X:MS) (nd:af) (nm:À (am×Int))=>C8 #[tw,e] #[tb,h,i,X.m] (¬ MFp X d) (DOk b c H X nd nm) (SBd ω) #[sG,sl,g.2.1] #[sG,e,g.2.2] (∀ (j:MS) (k:À (am×Int)) (a:am) (f:Hp),GTo b c H f X j nd nm k->Q (.str a) f)
theorem ZuV(c:ÂV)(M:Ûm)(N:Ûn)(O:Ûo)(R:Ûp)(T:Ûq)(U:Ûr)(W:Ûs)(Y:Ût)
  (Z:#[sB,15,"ask_runs",Àl,VM,Mq]) (jl:#[sB,15,"ask_sort",Àl,VM,Mp]) (jm:Df P w K mg Â 15 "ask_free" ÂN (VM (UR 12))) (jn:Df P w K mg Â 15 "ask_near" ÂN (VM (UR 2))) {g:Èl} (hg:OdG g) :
  ∃f,ô K aU g.1=aa ŉ/\Fv P w K mg Â 17 f (spG aB ax ao g):=by
 have go:∀ {x y:am} {k:À am} {p:À V->À V->Prop} {S F:À V},Df P w K mg Â 15 x k (VM p)->Ûu->p S F->∃f,ô K aU y=aa ŉ/\Fv P w K mg Â 17 f (spG aB ax ao (y,S,F,)):=λF hd hp=>by obtain f|l|F|hm|m|e:=F.ex;exact(f,hd f hm,l,_,(F.imp λvs H Q E ⟨d,q,r,G,X,nd,t,i,j,I,v,J,A,B,C⟩=>(d,q,r,_,_,i,A,B,hp,λz D s=>C X t z D (.inl rfl,v.same s,rfl,λ_ h=>.inl h,λb u e _ _=>s b u e))).mono Å,m,e)
 cases hg with
 | od o L=>obtain f|i|j:=ZsS c M N O R T U W Y o;obtain l|k|F|m|e:=j.ex;exact(f,i,l,k,F.imp λvs H Q E ⟨d,q,r,G,X,nd,t,i,j,I,v,J,A,B,C⟩=>(d,q,r,G,X,nd,t,o,i,j,I,v,J,A,B,L,rfl,λX' eV a D g=>C X' eV a D (.inr (o,a,L,g.st),g.D,g.m,g.fp,g.k)),m,e)
 | runs h=>exact go Z c.d_DEEDS_runs h
 | sort h=>exact go jl c.d_DEEDS_sort h
 | Ų h=>exact go jm c.d_DEEDS_free h
 | near h=>exact go jn c.d_DEEDS_near h
theorem ZuB(o:Od):o.deed<=1:=by cases o<;>first|exact Qd 1|exact Qp 1
theorem Zr6(T:Ø)(TD:ÂV)(iP:Df P w K mg Â 5 "orders_in" Á5 (GX K ç))(iQ:Cf P w K mg Â 16 aB "Desk" ö (Hm aB ax ao))(go:∀ {g:am×À V×À V},OdG g->∃f,ô K aU g.1=aa ŉ/\Fv P w K mg Â 17 f (spG aB ax ao g)) :
  Df P w K mg Â 18 "run" Á5 GG:=by
 rw[ey,T.t_run.df,Wh,vs,n];obtain z|ð|rfl|B|eT|zt|hg|q:=h;refine(_,#[Zc,#[Zq,1,Wh.nd,á,#[hT,iP,n,ÂS]],#[Zc,#[Zq,2,Wh.nd,á,(@Zvb _ _ _ _ _ _ _ _ _ iQ n ÍX Ë Å)],#[Zc,#[uj,3,Wh.nd],#[Zc,#[XN,Ž,ÓJ,#[gt,4,Wh.nd,5,6],#[Zc,#[Zq,7,Wh.nd,á,#[ZA,Pp,#[Wi,TD.m_DEEDS],‹4›]],#[Zh,#[ZO,#[YF,K,QH,QN,QO,WR,‹3›,#[Zd,(@Zqn _ _ _ _ _ _ _ _ _ _ ‹7› n #[fK,2,5,6] ÍX Ë Ë)]]]]]],#[hJ,3]]]]],_,rfl,z,ð,rfl,B,eT,by lia,λr n _=>Mv TD (QR _ (hg r n)),λr n=>GK r (hg r n),λol xs k s1 j6 W=>?_);have C0:=W.l;have hG:∀g∈WC ð,OdG g:=λg Y=>by obtain r|n|e:=ÏL Y;exact ZvG (Zvm r (hg r n) g e)
 have C:(WC ð).length<=12:=Qj ÛZ zt;generalize WC ð=gs at W hG C;have EY:=W.n;have fF:=W.at';intro d m tY Bp ndd;have Z:Zu k #[fl,k,m,d,aB]:=λb o j=>by rw[Ze (Zg j tY),Ze (Zg j Bp)];exact j
 have j2:#[fl,k,m,d,aB] d=aa (.ins aB m []):=Zb;generalize upd (upd k m (.own d)) d (.ins aB m [])=H2 at Z j2 ⊢;refine(d,m,rfl,j2,λX nd H3 tX D D3 hS Br je k3=>(rfl,Áe,λl p=>?_));have F:#[e8,b,u,k,u,H3]:=λb u j=>k3 b u (Z b u j) (Zg j tY);have sl:=Zf p ÀB;rw[e3,og,H3,l,ÀB];have D4:=D3.same sl;have y9:=sl _ _ tX;have G:k l=ah:=by
  cases z:k l with
  | none=>rfl
  | some u=>rw[F l u z]at p;cases p
 have nld:l≠d:=λz=>by rw[z,tX]at p;cases p
 have I:l≠nd:=λz=>by rw[z,D3.at']at p;cases p
 have nlM:¬ MFp X l:=D3.mg.M.fp_fresh p;have Fq:∀b u,k b=aa u->(upd H3 l ÀB) b=aa u:=λb u j=>sl _ _ (F b u j);have Fs:k nd=ah:=Z.free je;have J:∀b,MFp X b->k b=ah:=λb j=>Z.free (Br b j);generalize upd H3 l (.lst [])=H4 at og D4 y9 Fq ⊢;refine(_,rfl,ol,rfl,(_,É (Fq _ _ C0)),?_);refine Rp (λi σ t=>(X4 λv4 v5 v6 v7:Ã V=>σ=[aa ÀT,aa (.ref ol),aa Âa,aa Ŋ,v4,v5,v6,v7])/\#[fw,u,k,t]/\X4 λ(L:À am) (X:MS) (M:À (am×Int)) (c:Nat)=>t l=aa #[iI,ŏ]/\ż<=i/\c<=i/\Bd (dsO X M) c i/\t d=aa (.ins aB m (dkF X.m nd))/\DOk ax ao t X nd M/\¬ MFp X d/\¬ MFp X l/\∀b,MFp X b->k b=ah) ((_,_,_,_,rfl),Fq,[],X,[],0,og,Qd 0,Qd 0,(by rw[hS];exact(Qp _,Qap _,Qap _,λx h=>(by cases h),λx h=>(by cases h),λx h=>(by cases h),Qp _,Qp _,λx h=>(by cases h),Qp _)),y9,D4,D,nlM,J) (λ_ _ _ _ h=>É (h.2.1 _ _ C0)) ?_ ?_
 ·rintro i y σ t N ⟨⟨v4,v5,v6,v7,rfl⟩,v,L,X,M,c,vC,yg,hci,yv,O,D5,D,R,Br⟩;rw[Qr]at N;cases B:xs[i]? with
  | none=>rw[B]at N;cases N
  | some x =>
  rw[gv,B,N,N];have dP:i<gs.length:=by rw[<- EY];exact(Ń B).1
  obtain⟨g,Y⟩:∃g,gs[i]? = aa g:=(_,Qb dP);have g3:=yv.sbd Á Á;have hx:=fF i x g B Y;obtain f|bX|hfv:=go (hG g (Qm Y));refine(x.1,_,rfl,þ (v _ _ hx.t),rfl,_,_,rfl,_,_,rfl,_,_,rfl,rfl,_,rfl,aU,g.1,.ref f,_,rfl,rfl,TD.kd_DEEDS,bX,rfl,_,rfl,.inl #[fm,vC],_,rfl,f,_,rfl,hfv,_,rfl,_,rfl,_,rfl,d,x.2.1,x.2.2,m,X,nd,M,rfl,O,D,D5,g3,v _ _ hx.s,v _ _ hx.f,λX' eV a' H6 g=>?_);have ue:=g.k _ _ vC R I;have Fj:=g.k _ _ O D (λz=>by rw[z,D5.at']at O;cases O);have Db:¬ MFp X' l:=λz=>(g.fp l z).elim R λz=>by rw[vC]at z;cases z
  have S:¬ MFp X' d:=λz=>(g.fp d z).elim D λz=>by rw[O]at z;cases z
  obtain⟨c',jA,U⟩:∃c',c'<=i+1/\Bd (dsO X' eV) c' (i+1):=by
   rcases g.st with e|⟨o,a,ho,st⟩
   ·rw[e];exact(c+0,by lia,yv.up 0)
   ·have:=ZuB o;exact(c+o.deed,by lia,yv.step Á D5.ok ho st)
  refine(l,_,_,rfl,rfl,ue,Ç0,(_,_,_,_,rfl),λb u j=>?_,L++[a'],X',eV,c',?_,?_,jA,U,?_,?_,S,Db,λb j=>?_)
  ·rw[Ze (Zg j G)];exact g.k b u (v b u j) (λz=>by rw[Br b z]at j;cases j) (λz=>by rw[z,Fs]at j;cases j)
  ·rw[Zb,Qi];rfl
  ·rw[Qg];exact QaW yg
  ·rw[Ze nld.symm,g.m];exact Fj
  ·refine g.D.keep λb o' j eY=>?_;rw[Ze (λz=>by
    rcases eY with y|y|⟨zs,rfl⟩
    ·exact Db #[fE,z,y]
    ·exact I (z.symm.trans y)
    ·rw[z,ue]at j;cases j)]
   exact j
  ·rcases g.fp b j with z|z
   ·exact Br b z
   ·cases e:k b with
    | none=>rfl
    | some u=>rw[v b u e]at z;cases z
 ·rintro σ t ⟨⟨v4,v5,v6,v7,rfl⟩,v,L,X,M,c,vC,_⟩;exact(_,rfl,q _ t λb u j=>v b u (s1 b u j))
def Rw(K:Ä):Sp:=λvs H Q _=>X2 λ(a:af) (ns:À Int)=>C4 #[gh,a] Å1 #[sv,63] (∀b,Q (.bl true) b)
theorem Mm:∀rs:À am,(∀r∈rs,μ<=99)->(rs.map ÃN).sum<=99*Çn
 | [],_=>Qd _
 | r::rs,h=>by have h1:=h r Ù;have h2:=Mm rs λx a=>h x (Qw _ a);rw[Qh,QP,QE];lia
theorem Go{rs:Ï}(h0:rs≠[])(h:∀r∈rs,r∈Yz++YT):Àk (Ád "\n" rs) "\n" = rs:=by
 have e:#[tp,"\n",10]:=by ac_rfl
 rw[e];exact Zl1 h0 λz a=>ZoY z (h z a)
theorem Gn{rs:Ï}(a:Çn<=14)(h:∀r∈rs,r∈Yz++YT):(Ád "\n" rs).length<=100000 :=
 Qj (HB "\n" rs 99 14 (λz b=>Mw z (h z b)) a ä) Å
theorem Gm:∀ {rs:À am},(∃r∈rs,Yd r=false)->∃i,Uc rs i
 | [],⟨r,hr,_⟩=>by cases hr
 | a::rs,(r,hr,hb)=>by
  cases ha:Yd a with
  | false=>exact(0,a,rfl,ha,λj y h=>Î h (Íg j))
  | true =>
   obtain i|x|h1|h2|c:=Gm (rs:=rs) (by
    rcases î hr with rfl|hr
    ·rw[gv,ha,hb,hb]
    ·exact(r,hr,hb))
   refine(i+1,x,h1,h2,λj y hj b=>?_);cases j with
   | zero=>cases b;exact ha
   | succ j=>exact c j y Á b
theorem Zn4{rs:Ï}{i j:Nat}(h:Uc rs i)(g:Uc rs j):i=j:=by
 obtain r|c|a|d:=h;obtain s|f|b|k:=g;rcases Ù8 i j with e|e|e
 ·rw[k i r e c]at a;cases a
 ·exact e
 ·rw[d j s e f]at b;cases b
theorem Gk{rs:Ï}{i:Nat}(h:Uc rs i):¬ ∀r∈rs,Yd r=true:=λg=>by obtain r|b|a|_:=h;rw[g r (Qm b)]at a;cases a
theorem Zun{f:af}{fd:bC}(F:Fun K "law" "law" VB f fd)(T:Ø)(B:ÂV):YN P w K mg Â CX0 20 f fd ÍR (Rw K):=by
 have ki:ÙZ:=ZuS T;have xw:#[sB,1,"_law_left",Íz,Jj,K]:=Zth T;have L:Ôh:=ZsL T ki;have cU:ÒN:=ZiF T;have ix:ÒO:=Zrq T cU;have eN:ÒT:=Zql T;have nV:Ù9:=Zrj T ix eN;have hW:Új:=ZiQ T cU eN;have cH:Ò8:=Zp1 T nV;have bG:Îm:=Zo6 T cH;have gp:ÒX:=Zoq T ix;have fH:Óc:=Zoi T;rw[eM,bF,Zs6];have C:=Zsp T bF;have eQ:=ZmF T gp;have cu:=Zti T C hW;have cV:=IL T C fH cu 8;have bc:=Zlm T cV;have ij:=ZiN T bG eQ bc;have ck:=ZoL T C;have ii:=Zqt T bF;have gG:=Zpj T C;rw[eM,eG,Zke];rw[eM,gE,Zqc];have kZ:ÚH:=Zu1 T fH;have hZ:=ZmV T kZ;have dQ:=ZrI T cu;have fu:=Zsx T C hZ dQ;have ic:=Zsk T ck fu;have fJ:=Zmk T bG eQ bc;rw[eM,cm,Zop];have fw:=ZkQ T bF cm bc;have gc:=ZlE T gp;have ie:=Zs2 T cm bG C gc bc;rw[eM,eE,ZqH];rw[eM,gf,Zrz];have bZ:=Zm0 T cH eE;rw[eM,bY,ZmE];have fv:=Zso T bZ;have vH:=Zks T bF bY;have gD:=Zpu T bZ bY;have fz:=ZuD T ic;rw[eM,gq,Zsm];have iJ:=Zrk T gq;have jj:=Ztd T gq;rw[eM,gJ,ZqG];have gK:=ZsH T gJ;have gn:=Zrc T B iJ jj gK;rw[eM,fA,Zs3];have eS:=Zpi T B gn fA;have iP:=Zl9 T eS;have ik:=ZmJ T eS gf;rw[eM,gC,Ztp];have fK:=Zom T gC;rw[eM,bu,Zor];have iy:=Zpz T fJ fv;have gH:=ZoR T ie gD;have gI:=Zox T fw;have bo:=ZpT T bu;have dY:=ZjP T eG gE bo;have b6:=ZoF T fK;have bQ:=Zmg T b6;have fU:=ZlX T fz bQ bu;have iQ:=ZrQ T ij;have dZ:=Zkg T ck bQ bu;have fV:=Zmn T ii;have fW:=Zl2 T gG b6 bu;rw[eM,fN,ZqZ];have dJ:=ZqT T (P:=P) (w:=w) (Â:=Â) λM=>Zme T M (Zrb T M (GD T M)) (Zob T M (GD T M));rw[eM,iO,Zqw];rw[eM,iM,Zsn];have iN:=Zvj T iM;have jK:=Zqk T fN dJ iN;have jk:=Zmd T fN bo;have jl:=ZmM T jK bo;have jm:=Zml T iO;have jn:=ZmQ T dJ;have vD:=Zr6 T B iP iQ (ZuV B iy gH gI fU dY dZ fV fW jk jl jm jn);have sL:=Zr9 T ik;rw[eM,eI,Zsl];have fM:=Zo2 T eI;have gM:=ZmY T eI fM;have lb:=Ztg T (ç:=ç) gM;have jo:=Zq0 T lb;have lM:=Zoy T vD sL;have xx:=ZsO T L;have zH:=Zuv T L;refine F.ok Ut (λvs H Q E h=>?_) (λaP A Ü s H vs Q E c h=>?_)
 ·obtain a|G|rfl|_:=h;rfl
 rw[g2,a,G,hS,h63];refine(_,#[Zc,#[XN,Ž,#[Vn,ÃD,#[Zd,#[ZB,XZ,Ú,#[Zo,(Rc rfl),Ë,ÊF,ÊG,#[Zd,Ú,ÂP]]]]],#[sU,1,Ut.nd],#[Zc,#[Zq,2,Ut.nd,És,#[sF,xw,c,0]],#[Zc,#[Vj,3,Ut.nd,R7,ÜG,#[gj,6,R7],γ,(λ_ _ _ _=>#[ZG,xx,c,#[Zd,#[cv,2,R7]],#[tD,R7]])],#[Zc,#[ZN,(@Ő _ _ _ #[Xb,#[Zn,UK,#[hT,jo,c,Áf],Ł,č],#[Xc,#[Zn,UK,ÜH,Ł,č]]]),Ä6,ï],#[Zc,#[XN,Ž,ÜG,#[sU,4,Ut.nd],#[Zh,#[ZO,#[YF,K,QH,PySem.F.slot_list_insert,PySem.F.type_list_insert,Zpa,‹3›,#[Zd,#[ZG,L,c,#[Zd,#[hj,2],#[tf,XZ,Ä1]],Ë],#[ZG,zH,c,#[Zd,#[hj,2]],Ë]]]]]],#[Zc,#[Zq,5,Ut.nd,á,#[hT,jo,c,Áf]],#[Zh,#[ZN,(@Ő _ _ _ #[Xb,#[gF,5],#[Xc,#[Zn,V2,ÜH,‹5›,č]]]),Ä6,ï]]]]]]]],Ä6],?_);have bx:#[sA,G.map]=(G.length:Int):=by rw[Qa]
 have hA:∀r∈Yz,r∈Yz++YT:=λr c=>QR _ c;refine(_,rfl,a,_,rfl,.inl hS,_,_,rfl,_,_,rfl,rfl,_,rfl,?_,?_,?_)
 ·split<;>lia
 ·split<;>lia
 refine UN (λi l H2=>X5 λv1 v2 v3 v4 N:Ã V=>l=[aa ą,v1,v2,v3,v4,N]/\Zu H H2) (_,_,_,_,_,rfl,Ãe H) ?_ ?_
 rotate_left
 ·rintro l H2 ⟨v1,v2,v3,v4,N,rfl,s2⟩;exact q H2
 rintro i l H2 hi ⟨v1,v2,v3,v4,N,rfl,s2⟩;have hi8:(i:Int)<17:=by
  have:(i:Int)<(1+(if #[sA,G.map]<16 then (#[fG,G.map]:Int) else 16):Int).toNat:=by lia
  split at this<;>lia
 refine(_,rfl,_,rfl,a,G,_,rfl,s2.seq hS,h63,by lia,by lia,λp H3 hp L3 s3=>?_);have nHp:H p=ah:=s2.free hp;have s03:=ÎC s3;have Ė:∀ {m I:Hp},Zu H m->But p m I->Zu H I:=λ{m I} s b x o e=>b x o (s x o e) (Zg e nHp);refine(_,rfl,p,0,_,rfl,L3,by decide,by decide,by decide,λr H4 r0 r1 L4 B4=>?_);have jJ:=Ė s03 B4;refine(_,_,rfl,rfl,_,rfl,by lia,by lia,λD O=>?_);have R:D≠p:=λz=>by obtain o|ho:=L4.here;rw[<- z,O]at ho;cases ho
 refine PR (λj ys l m=>X3 λ(d:À am) (v:Ã V) (u:Int)=>l=[aa ą,aa (.int Ê4),aa Ś,v3,v4,N,v]/\ys=ÀE Ç/\Àz=j/\(∀s∈d,s∈Yz)/\Yg m p u/\1<=u/\u<=1+j/\m D=aa ÁV/\Zu H m) ?_ ?_ ?_
 ·exact([],ah,1,rfl,rfl,rfl,#[fk,s,hs],L4.new O,by lia,by lia,Zb,jJ.trans (Zf O _))
 ·rintro j ys l m hj ⟨d,v,u,rfl,rfl,S,U,L5,c2a,c2b,xu,s5⟩;refine(_,rfl,p,u,rfl,L5,by lia,λz t I hz L6 W c3b B6=>?_);have X:=B6 _ _ xu R;refine(X,(by rw[Qa,S];exact ZD Á),d++[z],_,t,rfl,by rw[Qi];rfl,by rw[Qg,S];rfl,λs hs=>?_,L6.at R.symm,by lia,by lia,Zb,λb o e=>?_)
  ·rcases ÿ hs with hs|hs
   ·exact U s hs
   ·rw[ó hs];exact hz
  ·have:=Ė s5 B6 b o e;rw[Ze (Zg e (jJ.free O))];rw[wr]
 rintro ys l m ⟨d,v,u,rfl,rfl,S,U,L5,c2a,c2b,xu,s5⟩;have Y:∀s∈d,s∈Yz++YT:=λs hs=>hA s (U s hs);have zt:Àz<=12:=by lia
 have cK:d≠[]:=λz=>by rw[z]at S;simp at S;lia
 have Bc:H D=ah:=jJ.free O;refine(_,rfl,D,d,rfl,xu,λr c=>Mv B (Y r c),λI Z _=>(rfl,_,rfl,Y7 ?_),λk I Z hF=>(Gk hF λr c=>GK r (U r c)).elim);have xq:=s5.trans Z;have X:=Z _ _ xu;refine(rfl,_,rfl,_,D,d,rfl,rfl,É X,?_,_,d,rfl,Gn Á Y,Go cK Y,.inl (zt,U,λH7 s7=>(rfl,_,rfl,Y7 ?_)))
 ·have:=Mm d λr c=>Mw r (Y r c);rw[v0];lia
 have Bk:=xq.trans s7;have xv:=s7 _ _ X;have L7:=(L5.same Z).same s7;clear xq Z s7 X;refine(_,rfl,p,u,_,rfl,L7,by lia,by decide,by decide,λr2 H8 q0 q1 L8 B8=>?_);refine(_,_,rfl,rfl,_,rfl,by lia,by lia,?_);refine UN (λj l H9=>X3 λ(g:À am) (w:Ã V) (t:Int)=>l=[aa ą,aa (.int Ê4),aa Ś,aa Ū,w,N]/\H9 D=aa #[iI,g.map]/\Ã3=Àz+j/\(∀s∈g,s∈Yz++YT)/\(0<j->∃s∈g,Yd s=false)/\Yg H9 p t/\t<=20+2*j/\Zu H H9) (d,_,_,rfl,B8 _ _ xv R,rfl,Y,λh=>Î h (Qal 0),L8,by lia,Ė Bk B8) ?_ ?_
 ·rintro j l H9 hj ⟨g,w',t,rfl,J,gA,y,lI,L9,W,s9⟩;have c30:=L9.ge;refine(_,rfl,.inl #[fm,J],_,rfl,_,rfl,D,_,rfl,.inl (É J),_,_,rfl,rfl,p,t,_,rfl,L9,by lia,#[fH,Qa],#[fH,Qa],λn gg n0 n1 L10 B10=>?_);rw[Qa]at n1;refine(_,rfl,p,t+1,rfl,L10,by lia,λz c4 jB hz L11 c4a c4b B11=>?_);have Dc:=B10.trans B11;have hD11:=Dc _ _ J R;refine(D,_,n,_,rfl,rfl,hD11,n0,#[fH,Qa],Ç0,Âd ÀD++z::ÃT ÀD,_,c4,rfl,?_,?_,λs hs=>?_,λ_=>(z,by simp,(Zwe z hz).1),L11.at R.symm,by lia,λb o e=>?_)
  ·rw[Zb,Qi,Qh,Qa2,Qbm]
  ·rw[Qg,QE,Qx,QL];lia
  ·rcases ÿ hs with hs|hs
   ·exact y s (Qaj hs)
   ·rcases î hs with rfl|hs
    ·exact QD _ hz
    ·exact y s (Q3 hs)
  ·rw[Ze (Zg e Bc)];exact Ė s9 Dc b o e
 rintro l H9 ⟨g,w',t,rfl,J,gA,y,lI,L9,W,s9⟩;obtain k|hF:=Gm (lI Á);have Ft:Ã3<=14:=by lia
 have tne:g≠[]:=λz=>by obtain r|h1|_:=hF;rw[gv,z,h1,h1]
 have tok:∀r∈g,Vs K ç r:=λr c=>Mv B (y r c);refine(_,rfl,D,g,rfl,J,tok,λgg gv h=>(Gk hF h).elim,λk' gg gv hF'=>?_);have ek:=Zn4 hF' hF;subst ek;have hD10:=gv _ _ J;refine Ó3;refine(rfl,_,rfl,_,D,g,rfl,rfl,É hD10,?_,_,g,rfl,Gn Ft y,Go tne y,.inr (by lia,λr c _=>tok r c,k',hF',λjB lP=>(_,rfl,rfl,_,rfl,?_)))
 ·have:=Mm g λr c=>Mw r (y r c);rw[v0];lia
 rw[yr];exact Y7 (_,_,_,_,_,rfl,(s9.trans gv).trans lP)
universe E
def FF(K:Ä)(x q:am)(st:aK)(f:af):Prop:=X9 λ(od b:Ã af) (sl:ē (Ã ae)) (c kV d e a ct:ae)=>Ā f=aa (c,od,.func #[ii,q,d,e,b,a],sl)/\Éb K a q=true/\Áq K Ĉ=true
theorem ZE{K:Ä}{h:aJ}{mg:Ą}{x:am}{st:aK}{ps:Ï}{f:af}(X:ų h)(G:h.Ns aM mg)(a:ô K aM x=aa ŉ)(g:FF K x x st f)(hb:#[eW,e,d,i,x]):Top K mg x st ps:=by obtain od|d|sl|oc|kV|dc|b|cd|ct|l|c|k:=g;exact(_,_,Wx (st:=st) l c k,QF X G a,#[rq].binds hb)
theorem XO{K:Ä}{C:af}{x q:am}{st:aK}{ps:Ï}{f:af}(a:Į K ã x=aa ŉ)(i:ÏT)(g:FF K x q st f)(hb:#[eW,e,d,h,q]):Yn K C x q st ps:=by obtain od|d|sl|oc|kV|dc|b|cd|ct|l|c|k:=g;exact(_,_,Wx (st:=st) l c k,(a,i,k),#[rq].binds hb)
theorem Ml{K:Ä}{h:aJ}{mg:Ą}{C:af}{x q:am}{st:aK}{ps:Ï}{f:af}(X:ų h)(G:h.Ns aM mg)(m:#[iO,C])(e:Áq K ã=true)(j:ô K aM x=aa (aa ã))(a:#[iV,C,f])(i:ÏT)(g:FF K "__init__" q st f)(hb:∀ (kV n b:ae) (d:Ã af) (o ct:ae) (us:À ae),ε=ÀS->bindArgs (ÅH "__init__" q (Wk st) Âx (Zi st) .none kV n b d o ct) È7=pure ÆN):Uz K mg C x q st ps:=by obtain od|d|sl|oc|kV|dc|b|cd|ct|l|c|k:=g;exact(_,_,Wx (st:=st) l c k,(m,a,i,e),#[rq].binds hb,QF X G j)
theorem Rv{n:Nat}{us:Þ}(h:ε=n+1):X2 λa r=>us=a::r/\μ=n:=by obtain a|r|rfl:=List.exists_cons_of_length_eq_add_one h;exact(a,r,rfl,Nat.succ.inj h)
theorem YL(us:Þ)(h:ε=1):∃a0,us=[a0]:=QaL.mp h
theorem YI(us:Þ)(h:ε=2):X2 λa0 b=>us=[a0,b]:=by obtain a|r|rfl|g:=Rv h;obtain c|rfl:=YL r g;exact(a,c,rfl)
theorem Yj(us:Þ)(h:ε=3):X3 λa0 b c=>us=[a0,b,c]:=by obtain a|r|rfl|g:=Rv h;obtain d|e|rfl:=YI r g;exact(a,d,e,rfl)
theorem Mj(us:Þ)(h:ε=4):X4 λa0 b c d=>us=[a0,b,c,d]:=by obtain a|r|rfl|g:=Rv h;obtain e|f|i|rfl:=Yj r g;exact(a,e,f,i,rfl)
theorem Gj(us:Þ)(h:ε=5):X5 λa0 b c d e=>us=[a0,b,c,d,e]:=by obtain a|r|rfl|g:=Rv h;obtain f|i|j|k|rfl:=Mj r g;exact(a,f,i,j,k,rfl)
theorem all_mk{l:ÐM}{w:aF}{K:Ä}{h:aJ}{mg:Ą}{fa:af}(X:ų h)(G:h.Ns aM mg)(hfa:mg "law" = aa (.ref fa))
  {ax ao aB ar aH aD ap au:af}
  {pA sN:am} {sO:af} {pB:Þ} {pC:Ï} {on:Þ} {pD:Ê} {oo:Ëa} {pE:ú} {pF pG pH pI pJ:Â6}
  {Bs Fu:am} {Fw:af} {Bu:Þ} {Bv:Ï} {zK:Þ} {Bw:Ê} {zL:Ëa} {Bx:ú} {By Bz BA BB BC:Â6}
  {zM BD:am} {BE:af} {zN:Þ} {zO:Ï} {xz:Þ} {zP:Ê} {xA:Ëa} {zQ:ú} {zR zS zT zU zV:Â6}
  {pK sP:am} {sQ:af} {pL:Þ} {pM:Ï} {oq:Þ} {pN:Ê} {ou:Ëa} {pO:ú} {pP pQ pR pS pT:Â6}
  {vI xB:am} {xC:af} {vJ:Þ} {vK:Ï} {uy:Þ} {vL:Ê} {uz:Ëa} {vM:ú} {vN vO vP vQ vR:Â6}
  {f0 f1 f2 f3 f4 f5 f6 f7 f8 f9 f10 f11 f12 f13 f14 f15 f16 f17 f18 f19 f20 f21 f22 f23 f24 f25 f26 f27 f28 f29 f30 f31 f32 f33 f34 Fx Fy Fz FA FC FD FE FG FH FI FJ FK f47 f48 f49 f50 f51 f52 f53 f54 f55 f56 f57 f58 f59 FL FM FO FP FQ FR FT FU FW FX FY FZ F0 F1 F3 F4 F5 F6 F7 F8 F9 F':af}
  {BF lY uA sR sS pU vS vT:Tok}
  {bi:af} {rQ:ÅS} {xD:Nat}
  {dR:af} {oy:ú} {oz:Nat} {oA:ġ} {km kn:Tok}
  {dS:af} {oB:ú} {oC:Nat} {oE:ġ} {ko kq:Tok}
  {dU:af} {oF:ú} {oG:Nat} {oH:ġ} {ku kA:Tok}
  {dW:af} {oI:ú} {oJ:Nat} {oK:ġ} {kB kC:Tok}
  {aU:af} {uB:ÅS} {zW:Nat}
  {ç:af} {uC:ÅS} {zX:Nat}
  {dX:af} {oM:ú} {oN:Nat} {oO:ġ} {kD:Tok} {fS:af} {sT:ú} {sU:Nat} {sV:ġ} {lZ:Tok}
  {c9:af} {ma:ú} {md:Nat} {mh:ġ} {jL:Tok} {fb:af} {pV:ú} {pW:Nat} {pX:ġ} {lf:Tok}
  {dh:af} {mi:ú} {mj:Nat} {ml:ġ} {jM:Tok} {fc:af} {pY:ú} {pZ:Nat} {p6:ġ}
  {cE:af} {kE:ú} {kF:Nat} {kG:ġ} {dj:af} {mn:ú} {mq:Nat} {mv:ġ}
  {dk:af} {mx:ú} {my:Nat} {mz:ġ} {jN:Tok} {fe:af} {p7:ú} {p8:Nat} {p9:ġ}
  {dr:af} {mB:ú} {mC:Nat} {mD:ġ} {ff:af} {qa:ú} {qb:Nat} {qc:ġ}
  {cG:af} {kH:ú} {kI:Nat} {kJ:ġ} {du:af} {mE:ú} {mF:Nat} {mG:ġ}
  {dw:af} {mH:ú} {mI:Nat} {mJ:ġ} {fg:af} {qd:ú} {qe:Nat} {qf:ġ}
  {dA:af} {mK:ú} {mL:Nat} {mM:ġ} {jO:Tok} {fh:af} {qg:ú} {qh:Nat} {qi:ġ} {lg:Tok}
  {dB:af} {mN:ú} {mO:Nat} {mP:ġ} {jP jQ:Tok} {fj:af} {qj:ú} {qk:Nat} {ql:ġ} {lh:Tok}
  {dC:af} {mQ:ú} {mR:Nat} {mS:ġ} {jR:Tok} {fm:af} {qm:ú} {qo:Nat} {qp:ġ} {lj:Tok}
  {dD:af} {mT:ú} {mU:Nat} {mV:ġ} {jS:Tok} {fo:af} {qq:ú} {qr:Nat} {qu:ġ} {lm:Tok}
  (Ga:#[ff,"Row",ax]) (Gb:#[sL,ax]) (Gc:#[fI,ax]) (Gd:#[sw,ax]) (Ge:#[hE,ax]) (Gf:#[iO,ax]) (Gg:#[Xki,K,ax])
  (mW:#[e6,ax,"all_keys"])
  (uD:#[e6,ax,"fars"])
  (uE:#[e6,ax,"gone"])
  (zY:#[ff,"Merge",ao]) (zZ:#[sL,ao]) (Aa:#[fI,ao]) (Ab:#[sw,ao]) (Ac:#[hE,ao]) (Ad:#[iO,ao]) (Ae:#[Xki,K,ao])
  (qv:#[e6,ao,"best"])
  (lq:#[e6,ao,"likened"])
  (mX:#[e6,ao,"looked"])
  (jp:#[e6,ao,"next_number"])
  (qw:#[e6,ao,"rows"])
  (oP:#[e6,ao,"stays"])
  (BG:#[ff,"Desk",aB]) (BH:#[sL,aB]) (BI:#[fI,aB]) (BJ:#[sw,aB]) (BK:#[hE,aB]) (BL:#[iO,aB]) (BM:#[Xki,K,aB])
  (qx:#[e6,aB,"merge"])
  (mY:#[e6,aB,"numbers"])
  (qy:#[ff,"MergeError",ar])
  (wM:#[ff,"Full",aH])
  (uF:#[ff,"NoRow",aD])
  (jy:#[ff,"OutOfOrder",ap])
  (oQ:#[ff,"BadLine",au])
  (qz:Ā ar=aa (υ pA sN ar sO pB YE true pC on pD oo pE pF pG pH pI pJ "ValueError.__new__"))
  (oR:ÆJ K ÄQ "__getattribute__" = aa Ùp)
  (oS:Ùq K ar Çz=true)
  (oU:Ùr K ÄQ Çz "__init__" = aa (.val ÄK))
  (wN:Ā aH=aa (υ Bs Fu aH Fw Bu ÇJ true Bv zK Bw zL Bx By Bz BA BB BC "ValueError.__new__"))
  (BN:#[Xki,K,aH])
  (BO:#[gq,Ŀ,ÄK])
  (BP:#[gm,Ŀ])
  (BQ:#[g9,Ŀ])
  (BR:#[e9,Ŀ,Àj])
  (BS:#[fI,aH])
  (BU:#[gC,Ŀ])
  (BV:#[g3,aH])
  (BW:#[e9,Ŀ,ÁC])
  (sW:#[e9,Ŀ,Ŀ])
  (jT:#[h2,Ŀ])
  (qA:#[fe,Ŀ,ŀ])
  (jU:#[fe,Ŀ,ı])
  (mZ:#[fe,Ŀ,ī])
  (Af:Ā aD=aa (υ zM BD aD BE zN ÇJ true zO xz zP xA zQ zR zS zT zU zV "ValueError.__new__"))
  (Ah:#[Xki,K,aD])
  (Ai:#[gq,ŀ,ÄK])
  (Aj:#[gm,ŀ])
  (Ak:#[g9,ŀ])
  (Al:#[e9,ŀ,Àj])
  (Am:#[fI,aD])
  (An:#[gC,ŀ])
  (Ao:#[g3,aD])
  (Ap:#[e9,ŀ,ÁC])
  (oW:#[e9,ŀ,ŀ])
  (ju:#[h2,ŀ])
  (qB:#[fe,ŀ,Ŀ])
  (jv:#[fe,ŀ,ı])
  (lu:#[fe,ŀ,ī])
  (jz:Ā ap=aa (υ pK sP ap sQ pL ÇJ true pM oq pN ou pO pP pQ pR pS pT "ValueError.__new__"))
  (qC:#[Xki,K,ap])
  (qD:#[gM,ı])
  (kK:Į K ı "row" = aa ah)
  (jw:Į K ı "place" = aa ah)
  (qE:#[gm,ı])
  (qF:#[g9,ı])
  (qG:#[e9,ı,Àj])
  (qH:#[fI,ap])
  (qI:#[gC,ı])
  (qJ:#[g3,ap])
  (qK:#[e9,ı,ÁC])
  (il:#[e9,ı,ı])
  (im:#[h2,ı])
  (jV:#[fe,ı,Ŀ])
  (jx:#[fe,ı,ŀ])
  (i6:#[fe,ı,ī])
  (vU:Ā au=aa (υ vI xB au xC vJ ÇJ true vK uy vL uz vM vN vO vP vQ vR "ValueError.__new__"))
  (vV:#[Xki,K,au])
  (vW:#[gM,ī])
  (m3:Į K ī "line" = aa ah)
  (vX:#[gm,ī])
  (vY:#[g9,ī])
  (vZ:#[e9,ī,Àj])
  (v9:#[fI,au])
  (wc:#[gC,ī])
  (we:#[g3,au])
  (wf:#[e9,ī,ÁC])
  (jW:#[e9,ī,ī])
  (i7:#[h2,ī])
  (m4:#[fe,ī,Ŀ])
  (lv:#[fe,ī,ŀ])
  (i8:#[fe,ī,ı])
  (fO:#[gZ,ar])
  (fP:Ï0 K ÄQ=aa Çz)
  (sX:#[gZ,aH])
  (sY:#[g4,Ŀ])
  (oX:#[gZ,aD])
  (oY:#[g4,ŀ])
  (io:#[gZ,ap])
  (ip:#[g4,ı])
  (jX:#[gZ,au])
  (jY:#[g4,ī])
  (hkg:Ða)
  (hkt:Ðb)
  (a0:#[ff,"halves",f0]) (g0:FF K "halves" "halves" Pn f0)
  (a1:#[ff,"way_up",f1]) (g1:FF K "way_up" "way_up" Pm f1)
  (a2:#[ff,"is_key",f2]) (g2:FF K "is_key" "is_key" Pk f2)
  (a3:#[ff,"alike",f3]) (g3:FF K "alike" "alike" Pj f3)
  (a4:#[ff,"liken",f4]) (g4:FF K "liken" "liken" Pg f4)
  (a5:#[ff,"liken_from",f5]) (g5:FF K "liken_from" "liken_from" Pf f5)
  (a6:#[ff,"alike_from",f6]) (g6:FF K "alike_from" "alike_from" Pe f6)
  (a7:#[ff,"order_at",f7]) (g7:FF K "order_at" "order_at" Pd f7)
  (a8:#[ff,"first_break",f8]) (g8:FF K "first_break" "first_break" Pc f8)
  (a9:#[ff,"alikes",f9]) (g9:FF K "alikes" "alikes" Pb f9)
  (dF:#[ff,"refuse_break",f10]) (g10:FF K "refuse_break" "refuse_break" Pa f10)
  (j0:#[ff,"matches_up",f11]) (g11:FF K "matches_up" "matches_up" O9 f11)
  (rR:#[ff,"near_plan",f12]) (g12:FF K "near_plan" "near_plan" O8 f12)
  (uH:#[ff,"least_groves",f13]) (g13:FF K "least_groves" "least_groves" O7 f13)
  (xJ:#[ff,"least_tree",f14]) (g14:FF K "least_tree" "least_tree" O6 f14)
  (De:#[ff,"least_grove",f15]) (g15:FF K "least_grove" "least_grove" O5 f15)
  (a16:#[ff,"least_cut",f16]) (g16:FF K "least_cut" "least_cut" Sw f16)
  (a17:#[ff,"is_number",f17]) (g17:FF K "is_number" "is_number" O4 f17)
  (a18:#[ff,"free_plan",f18]) (g18:FF K "free_plan" "free_plan" Uu f18)
  (a19:#[ff,"runs_of",f19]) (g19:FF K "runs_of" "runs_of" Sv f19)
  (a20:#[ff,"merged_by",f20]) (g20:FF K "merged_by" "merged_by" O3 f20)
  (a21:#[ff,"sort_by",f21]) (g21:FF K "sort_by" "sort_by" Su f21)
  (a22:#[ff,"read_word",f22]) (g22:FF K "read_word" "read_word" O2 f22)
  (a23:#[ff,"read_name",f23]) (g23:FF K "read_name" "read_name" O1 f23)
  (a24:#[ff,"read_key",f24]) (g24:FF K "read_key" "read_key" O0 f24)
  (a25:#[ff,"read_number",f25]) (g25:FF K "read_number" "read_number" OZ f25)
  (a26:#[ff,"are_figures",f26]) (g26:FF K "are_figures" "are_figures" OY f26)
  (a27:#[ff,"written_key",f27]) (g27:FF K "written_key" "written_key" OX f27)
  (a28:#[ff,"written_thing",f28]) (g28:FF K "written_thing" "written_thing" OW f28)
  (a29:#[ff,"with_blanks",f29]) (g29:FF K "with_blanks" "with_blanks" OV f29)
  (a30:#[ff,"written_numbers",f30]) (g30:FF K "written_numbers" "written_numbers" Ss f30)
  (a31:#[ff,"run",f31]) (g31:FF K "run" "run" OU f31)
  (a32:#[ff,"orders_in",f32]) (g32:FF K "orders_in" "orders_in" OT f32)
  (a33:#[ff,"order_in",f33]) (g33:FF K "order_in" "order_in" TK f33)
  (a34:#[ff,"may_be_further",f34]) (g34:FF K "may_be_further" "may_be_further" OR f34)
  (a35:#[ff,"do_row",Fx]) (g35:FF K "do_row" "do_row" OQ Fx)
  (a36:#[ff,"do_grow",Fy]) (g36:FF K "do_grow" "do_grow" OP Fy)
  (a37:#[ff,"do_drop",Fz]) (g37:FF K "do_drop" "do_drop" OO Fz)
  (a38:#[ff,"ask_coming",FA]) (g38:FF K "ask_coming" "ask_coming" ON FA)
  (a39:#[ff,"ask_take",FC]) (g39:FF K "ask_take" "ask_take" OM FC)
  (a40:#[ff,"ask_left",FD]) (g40:FF K "ask_left" "ask_left" OL FD)
  (a41:#[ff,"ask_counts",FE]) (g41:FF K "ask_counts" "ask_counts" OK FE)
  (a42:#[ff,"ask_rows",FG]) (g42:FF K "ask_rows" "ask_rows" OJ FG)
  (a43:#[ff,"ask_runs",FH]) (g43:FF K "ask_runs" "ask_runs" Sr FH)
  (a44:#[ff,"ask_sort",FI]) (g44:FF K "ask_sort" "ask_sort" OI FI)
  (a45:#[ff,"ask_free",FJ]) (g45:FF K "ask_free" "ask_free" OH FJ)
  (a46:#[ff,"ask_near",FK]) (g46:FF K "ask_near" "ask_near" OG FK)
  (a47:#[ff,"written_things",f47]) (g47:FF K "written_things" "written_things" Sq f47)
  (a48:#[ff,"written_heads",f48]) (g48:FF K "written_heads" "written_heads" TH f48)
  (a49:#[ff,"_law_mix",f49]) (g49:FF K "_law_mix" "_law_mix" OF f49)
  (a50:#[ff,"_law_left",f50]) (g50:FF K "_law_left" "_law_left" OE f50)
  (a51:#[ff,"_law_pick",f51]) (g51:FF K "_law_pick" "_law_pick" OD f51)
  (a52:#[ff,"_law_is_of",f52]) (g52:FF K "_law_is_of" "_law_is_of" So f52)
  (a53:#[ff,"_law_number_fits",f53]) (g53:FF K "_law_number_fits" "_law_number_fits" OC f53)
  (a54:#[ff,"_law_word_fits",f54]) (g54:FF K "_law_word_fits" "_law_word_fits" OB f54)
  (a55:#[ff,"_law_fits",f55]) (g55:FF K "_law_fits" "_law_fits" Sn f55)
  (a56:#[ff,"_law_good",f56]) (g56:FF K "_law_good" "_law_good" OA f56)
  (a57:#[ff,"_law_bad",f57]) (g57:FF K "_law_bad" "_law_bad" Oz f57)
  (a58:#[ff,"_law_caught",f58]) (g58:FF K "_law_caught" "_law_caught" Oy f58)
  (a59:#[ff,"_law_first_bad",f59]) (g59:FF K "_law_first_bad" "_law_first_bad" Ox f59)
  (a60:#[ff,"law",f60]) (l60:#[Xlk,K,f60,oc60,od60,"law","law",VB,kV60,dc60,pm60,an60,Dd,ct60,sl60]) (c60:#[Xci,K,Dd,"law"]) (k60:#[Xki,K,f60])
  (a61:#[iV,ap,Gh]) (i61:#[Xif,K,Gh]) (l61:#[Xlk,K,Gh,oc61,od61,"__init__","OutOfOrder.__init__",Z7,kV61,dc61,pm61,an61,cd61,ct61,sl61]) (c61:#[Xci,K,cd61,"OutOfOrder.__init__"]) (k61:#[Xki,K,Gh])
  (a62:#[iV,au,Gi]) (i62:#[Xif,K,Gi]) (l62:#[Xlk,K,Gi,oc62,od62,"__init__","BadLine.__init__",TF,kV62,dc62,pm62,an62,cd62,ct62,sl62]) (c62:#[Xci,K,cd62,"BadLine.__init__"]) (k62:#[Xki,K,Gi])
  (a63:#[iV,ax,FL]) (i63:#[Xif,K,FL]) (g63:FF K "__init__" "Row.__init__" Ow FL)
  (a64:#[Xfi,K,ax,"to_go",FM]) (i64:#[Xif,K,FM]) (g64:FF K "to_go" "Row.to_go" Ov FM)
  (a65:#[Xfi,K,ax,"head",FO]) (i65:#[Xif,K,FO]) (g65:FF K "head" "Row.head" Ou FO)
  (a66:#[Xfi,K,ax,"lengthen",FP]) (i66:#[Xif,K,FP]) (g66:FF K "lengthen" "Row.lengthen" Ot FP)
  (a67:#[iV,ao,FQ]) (i67:#[Xif,K,FQ]) (g67:FF K "__init__" "Merge.__init__" Oq FQ)
  (a68:#[h8,"coming",FR]) (i68:#[Xif,K,FR]) (g68:FF K "coming" "Merge.coming" Op FR)
  (a69:#[h8,"take",FT]) (i69:#[Xif,K,FT]) (g69:FF K "take" "Merge.take" Oo FT)
  (a70:#[h8,"take_few",FU]) (i70:#[Xif,K,FU]) (g70:FF K "take_few" "Merge.take_few" Om FU)
  (a71:#[h8,"left",FW]) (i71:#[Xif,K,FW]) (g71:FF K "left" "Merge.left" Sl FW)
  (a72:#[h8,"heads",FX]) (i72:#[Xif,K,FX]) (g72:FF K "heads" "Merge.heads" Sk FX)
  (a73:#[h8,"likenings",FY]) (i73:#[Xif,K,FY]) (g73:FF K "likenings" "Merge.likenings" Ol FY)
  (a74:#[h8,"looks",FZ]) (i74:#[Xif,K,FZ]) (g74:FF K "looks" "Merge.looks" Oj FZ)
  (a75:#[h8,"add_row",F0]) (i75:#[Xif,K,F0]) (g75:FF K "add_row" "Merge.add_row" Oi F0)
  (a76:#[h8,"drop_row",F1]) (i76:#[Xif,K,F1]) (g76:FF K "drop_row" "Merge.drop_row" Oh F1)
  (a77:#[h8,"grow",F3]) (i77:#[Xif,K,F3]) (g77:FF K "grow" "Merge.grow" Og F3)
  (a78:#[h8,"row_of",F4]) (i78:#[Xif,K,F4]) (g78:FF K "row_of" "Merge.row_of" Of F4)
  (a79:#[h8,"play_all",F5]) (i79:#[Xif,K,F5]) (g79:FF K "play_all" "Merge.play_all" Oe F5)
  (a80:#[h8,"play",F6]) (i80:#[Xif,K,F6]) (g80:FF K "play" "Merge.play" Oc F6)
  (a81:#[h8,"send_out",F7]) (i81:#[Xif,K,F7]) (g81:FF K "send_out" "Merge.send_out" Ob F7)
  (a82:#[h8,"play_again",F8]) (i82:#[Xif,K,F8]) (g82:FF K "play_again" "Merge.play_again" Oa F8)
  (a83:#[h8,"meet",F9]) (i83:#[Xif,K,F9]) (g83:FF K "meet" "Merge.meet" N9 F9)
  (a84:#[iV,aB,F']) (i84:#[Xif,K,F']) (g84:FF K "__init__" "Desk.__init__" N8 F')
  (BX:#[tV,"DONE","done",BF])
  (m5:#[he,"MOST_FIGURES",9,lY])
  (uG:#[he,"MOST_KEY",40,uA])
  (sZ:#[he,"MOST_NAME",8,sR])
  (tj:#[he,"MOST_ROWS",16,sS])
  (qL:#[he,"MOST_SIZES",12,pU])
  (wg:#[tV,"NOTHING","-",vS])
  (wj:#[tV,"REFUSED","refused",vT])
  (xE:#[ff,"BOUNDS",bi])
  (xF:Ā bi=aa #[ir,rQ,xD])
  (xG:Ív Êe rQ.toList)
  (xH:(bi == bE)=false)
  (oZ:#[eB,bi,"room",dR])
  (o0:Ā dR=aa (.type "tuple",oy,.seq #[.int 1 km,.int 16 kn] oz,oA))
  (o5:#[eB,bi,"ways",dS])
  (o6:Ā dS=aa (.type "tuple",oB,.seq #[.int 2 ko,.int 6 kq] oC,oE))
  (o7:#[eB,bi,"size",dU])
  (o8:Ā dU=aa (.type "tuple",oF,.seq #[.int 0 ku,.int 999999999 kA] oG,oH))
  (o9:#[eB,bi,"many",dW])
  (pb:Ā dW=aa (.type "tuple",oI,.seq #[.int 0 kB,.int 1000000 kC] oJ,oK))
  (Aq:#[ff,"DEEDS",aU])
  (Ar:Ā aU=aa #[ir,uB,zW])
  (As:Ív Êe uB.toList)
  (At:(aU == bE)=false)
  (tq:#[eB,aU,"row",Fx])
  (qM:#[eB,aU,"grow",Fy])
  (qN:#[eB,aU,"drop",Fz])
  (m6:#[eB,aU,"coming",FA])
  (qO:#[eB,aU,"take",FC])
  (qP:#[eB,aU,"left",FD])
  (m7:#[eB,aU,"counts",FE])
  (qQ:#[eB,aU,"rows",FG])
  (qR:#[eB,aU,"runs",FH])
  (qS:#[eB,aU,"sort",FI])
  (qT:#[eB,aU,"free",FJ])
  (qU:#[eB,aU,"near",FK])
  (Au:#[ff,"FORMS",ç])
  (Av:Ā ç=aa #[ir,uC,zX])
  (Aw:Ív Êe uC.toList)
  (Ax:(ç == bE)=false)
  (tu:#[eB,ç,"row",fS])
  (tw:Ā fS=aa #[hm,sT,dX,lZ,sU,sV])
  (pc:Ā dX=aa #[f4,oM,"name",kD,oN,oO])
  (qV:#[eB,ç,"grow",fb])
  (qW:Ā fb=aa #[hm,pV,c9,lf,pW,pX])
  (m8:Ā c9=aa #[f4,ma,"name",jL,md,mh])
  (qX:#[eB,ç,"drop",fc])
  (qY:#[fg,fc,pY,dh,pZ,p6])
  (m9:Ā dh=aa #[f4,mi,"name",jM,mj,ml])
  (ng:#[eB,ç,"coming",dj])
  (nh:#[fg,dj,mn,cE,mq,mv])
  (kL:#[hw,cE,kE,kF,kG])
  (qZ:#[eB,ç,"take",fe])
  (rh:#[fg,fe,p7,dk,p8,p9])
  (ni:Ā dk=aa #[f4,mx,"many",jN,my,mz])
  (rj:#[eB,ç,"left",ff])
  (rl:#[fg,ff,qa,dr,qb,qc])
  (nq:#[hw,dr,mB,mC,mD])
  (nr:#[eB,ç,"counts",du])
  (nu:#[fg,du,mE,cG,mF,mG])
  (kM:#[hw,cG,kH,kI,kJ])
  (rm:#[eB,ç,"rows",fg])
  (rn:#[fg,fg,qd,dw,qe,qf])
  (nv:#[hw,dw,mH,mI,mJ])
  (rq:#[eB,ç,"runs",fh])
  (rA:Ā fh=aa #[hm,qg,dA,lg,qh,qi])
  (nz:Ā dA=aa #[f4,mK,"room",jO,mL,mM])
  (rB:#[eB,ç,"sort",fj])
  (rC:Ā fj=aa #[hm,qj,dB,lh,qk,ql])
  (nA:Ā dB=aa (.type "tuple",mN,.seq #[.str "room" jP,.str "ways" jQ] mO,mP))
  (rD:#[eB,ç,"free",fm])
  (rE:Ā fm=aa (.type "tuple",qm,.seq #[.ref dC,.str "size" lj] qo,qp))
  (nB:Ā dC=aa #[f4,mQ,"ways",jR,mR,mS])
  (rF:#[eB,ç,"near",fo])
  (rG:Ā fo=aa (.type "tuple",qq,.seq #[.ref dD,.str "size" lm] qr,qu))
  (nC:Ā dD=aa #[f4,mT,"ways",jS,mU,mV])
  (wk:#[Al,"rowa"])
  (wm:#[Al,"Row"])
  (wo:#[Al,""])
  (wq:#[Al,"x"])
  (wt:#[Al,"take\t1"])
  (wu:#[Al,"left\t"])
  (z0:#[tW,"ValueError"]) (z1:#[tW,"abs"]) (z2:#[tW,"all"]) (z3:#[tW,"bool"]) (z4:#[tW,"enumerate"]) (z5:#[tW,"int"]) (z6:#[tW,"isinstance"]) (z7:#[tW,"len"]) (z8:#[tW,"list"]) (z9:#[tW,"max"]) (z10:#[tW,"min"]) (z11:#[tW,"range"]) (z12:#[tW,"sorted"]) (z13:#[tW,"str"]) (z14:#[tW,"sum"]) (z15:#[tW,"tuple"]) (z16:#[tW,"zip"]) :
  ∃fd:bC,#[ip,v,fd,"_law_script"]/\∀Â:aJ,ų Â->ÈC aM mg->YN l.prog w K mg Â CX0 20 fa fd ÍR (Rw K):=by
 have e:=hfa.symm.trans (QF X G a60);cases e;have T:Ø:=((QM X G z0,QM X G z1,QM X G z2,QM X G z3,QM X G z4,QM X G z5,QM X G z6,QM X G z7,QM X G z8,QM X G z9,QM X G z10,QM X G z11,QM X G z12,QM X G z13,QM X G z14,QM X G z15,QM X G z16),ZE X G a0 g0 ĳ,ZE X G a1 g1 ĺ,ZE X G a2 g2 ĳ,ZE X G a3 g3 ĺ,ZE X G a4 g4 ĺ,ZE X G a5 g5 Ş,ZE X G a6 g6 Ş,ZE X G a7 g7 Ş,ZE X G a8 g8 ĳ,ZE X G a9 g9 ĳ,ZE X G dF g10 ĺ,ZE X G j0 g11 ĺ,ZE X G rR g12 ĺ,ZE X G uH g13 ĺ,ZE X G xJ g14 (λ_ _ _ _ _ _ us hl=>by obtain _|_|_|_|_|rfl:=Gj us hl;exact rfl),ZE X G De g15 (λ_ _ _ _ _ _ us hl=>by obtain _|_|_|_|_|rfl:=Gj us hl;exact rfl),ZE X G a16 g16 (λ_ _ _ _ _ _ us hl=>by obtain _|_|_|_|rfl:=Mj us hl;exact rfl),ZE X G a17 g17 ĳ,ZE X G a18 g18 ĺ,ZE X G a19 g19 ĺ,ZE X G a20 g20 Ş,ZE X G a21 g21 Ş,ZE X G a22 g22 ĺ,ZE X G a23 g23 ĳ,ZE X G a24 g24 ĳ,ZE X G a25 g25 Ş,ZE X G a26 g26 ĳ,ZE X G a27 g27 ĳ,ZE X G a28 g28 ĺ,ZE X G a29 g29 ĳ,ZE X G a30 g30 ĳ,ZE X G a31 g31 ĳ,ZE X G a32 g32 ĳ,ZE X G a33 g33 ĳ,ZE X G a34 g34 ĺ,ZE X G a35 g35 Ş,ZE X G a36 g36 Ş,ZE X G a37 g37 Ş,ZE X G a38 g38 Ş,ZE X G a39 g39 Ş,ZE X G a40 g40 Ş,ZE X G a41 g41 Ş,ZE X G a42 g42 Ş,ZE X G a43 g43 Ş,ZE X G a44 g44 Ş,ZE X G a45 g45 Ş,ZE X G a46 g46 Ş,ZE X G a47 g47 ĺ,ZE X G a48 g48 ĺ,ZE X G a49 g49 ĺ,ZE X G a50 g50 ĺ,ZE X G a51 g51 ĺ,ZE X G a52 g52 Ş,ZE X G a53 g53 Ş,ZE X G a54 g54 ĺ,ZE X G a55 g55 ĳ,ZE X G a56 g56 ĳ,ZE X G a57 g57 ĳ,ZE X G a58 g58 ĳ,ZE X G a59 g59 ĳ,(_,_,Wx (st:=Z7) l61 c61 k61,((_,_,_,_,_,_,_,_,_,_,_,_,_,_,jz),a61,i61,qC,qD),(Wx (st:=Z7) l61 c61 k61).binds (ps:=ÇC) Ş,QF X G jy),(_,_,Wx (st:=TF) l62 c62 k62,((_,_,_,_,_,_,_,_,_,_,_,_,_,_,vU),a62,i62,vV,vW),(Wx (st:=TF) l62 c62 k62).binds (ps:=ÇD) ĺ,QF X G oQ),Ml X G Gf Gg Ga a63 i63 g63 ĺ,XO a64 i64 g64 ĳ,XO a65 i65 g65 ĳ,XO a66 i66 g66 ĺ,Ml X G Ad Ae zY a67 i67 g67 ĺ,XO a68 i68 g68 ĳ,XO a69 i69 g69 ĳ,XO a70 i70 g70 ĺ,XO a71 i71 g71 ĳ,XO a72 i72 g72 ĳ,XO a73 i73 g73 ĳ,XO a74 i74 g74 ĳ,XO a75 i75 g75 ĺ,XO a76 i76 g76 ĺ,XO a77 i77 g77 Ş,XO a78 i78 g78 ĺ,XO a79 i79 g79 ĳ,XO a80 i80 g80 ĺ,XO a81 i81 g81 ĺ,XO a82 i82 g82 Ş,XO a83 i83 g83 (λ_ _ _ _ _ _ us hl=>by obtain _|_|_|_|rfl:=Mj us hl;exact rfl),Ml X G BL BM BG a84 i84 g84 ĳ,(Gb,Gc,Gd,Ge),mW,uD,uE,(zZ,Aa,Ab,Ac),qv,lq,mX,jp,qw,oP,(BH,BI,BJ,BK),qx,mY,#[i4,BX],#[i4,m5],#[i4,uG],#[i4,sZ],#[i4,tj],#[i4,qL],#[i4,wg],#[i4,wj],QF X G qy,QF X G wM,QF X G uF,QF X G jy,QF X G oQ,#[i0,wN],#[i0,qz],#[i0,jz],(oR,oS,oU),kK,jw,m3,((_,_,_,_,_,_,_,_,_,_,_,_,_,_,wN),BO,BN,QF X G wM),((_,_,_,_,_,_,_,_,_,_,_,_,_,_,Af),Ai,Ah,QF X G uF),(BP,BQ,BR,BS,BU,BV),SA fO fP jT,SD,WH oX oY qA sW,WH io ip jU sW,WH jX jY mZ sW,Sz BW,(Aj,Ak,Al,Am,An,Ao),SA fO fP ju,WH sX sY qB oW,SD,WH io ip jv oW,WH jX jY lu oW,Sz Ap,(qE,qF,qG,qH,qI,qJ),SA fO fP im,WH sX sY jV il,WH oX oY jx il,SD,WH jX jY i6 il,Sz qK,(vX,vY,vZ,v9,wc,we),SA fO fP i7,WH sX sY m4 jW,WH oX oY lv jW,WH io ip i8 jW,SD,Sz wf,hkg,hkt);have TD:ÂV:=(QF X G xE,((_,_,xF,xG),xH),#[h3,oZ,o0],#[h3,o5,o6],#[h3,o7,o8],#[h3,o9,pb],QF X G Aq,((_,_,Ar,As),At),λf h=>by have e:=#[fp,a35];cases e;exact tq,λf h=>by have e:=#[fp,a36];cases e;exact qM,λf h=>by have e:=#[fp,a37];cases e;exact qN,λf h=>by have e:=#[fp,a38];cases e;exact m6,λf h=>by have e:=#[fp,a39];cases e;exact qO,λf h=>by have e:=#[fp,a40];cases e;exact qP,λf h=>by have e:=#[fp,a41];cases e;exact m7,λf h=>by have e:=#[fp,a42];cases e;exact qQ,λf h=>by have e:=#[fp,a43];cases e;exact qR,λf h=>by have e:=#[fp,a44];cases e;exact qS,λf h=>by have e:=#[fp,a45];cases e;exact qT,λf h=>by have e:=#[fp,a46];cases e;exact qU,QF X G Au,((_,_,Av,Aw),Ax),#[fy,tu,pc,tw],#[fy,qV,m8,qW],(_,_,qX,YD m9 Ôr Æp,YD qY Æq Ôs),#[gU,ng,kL,nh],(_,_,qZ,YD ni Ôr Æp,YD rh Æq Ôs),#[gU,rj,nq,rl],#[gU,nr,kM,nu],#[gU,rm,nv,rn],#[fy,rq,nz,rA],(_,_,rB,YD nA Æq (.cons ā Æp),YD rC Æq (.cons rfl Æp)),#[fy,rD,nB,rE],#[fy,rF,nC,rG],wk,wm,wo,wq,wt,wu);exact(ÅH "law" "law" (Wk VB) (XI VB) (Zi VB) .none kV60 dc60 pm60 an60 Dd ct60,λs v=>.of_eq rfl,λbase _ _=>Zun (Wx (st:=VB) l60 c60 k60) T TD)
theorem walk{l:ÐM}{q:aA}{e:Ï}{g:ÐE}{b:aF->aJ->Prop}{d:DefRec}{K:Params->Ä}(hn:l.most=aa 63)(i:ÐF)
  (j:∀ (w:aF) (h:aJ),b w h->(Éq).In h)
  (F:∀ (w:aF) (mg:am->Ã ae) (fa:af) (h:aJ),(Éq).In h->h.Ns aM mg->mg Éo=aa (.ref fa) ->
   ∃c:bC,#[ip,u,c,"_law_script"]/\∀Â:aJ,(Éq).In Â->ÈC aM mg->YN l.prog w Éq mg Â CX0 20 fa c ÍR (Rw Éq)) :
  PySem.W.WalkO q e g b Ìk d [] ÐH :=
 L2.walk_of (n:=63) (k:=20) (x := "_law_script") (CX:=λ_=>CX0) (sp:=λw=>Rw Éq) hn Å i (rfl,by decide,by decide,rfl) j F (λ_ _ a m o _ p=>(a,m,rfl,p,o,λ_=>rfl)) λ_ _ _ _ _ z=>z
universe E.My
open PySem PySem.W PyProof.Rows
namespace PySem.W.Fast
def tw0:=Nat
example:=#[5096994063995316026,16830132016262111546,3434935957258255706,5937198133579942443,2926185887582095469,8964280033806289086,18422318774365873727,17566177648171967808,8035505925878668882,5322912392122858610,608929236961466308,1735765509275001796,15662108388112205846,12898053249143763192,8400650709642665016,2305740877390689769,3117269864744209851,16765656930783886812,6125592942458718877,13037355055489948477,9079872350689349725,10363689863484949853,5553872049499016559,13168710161554862337,6910249891708768385,11335726962613852961,4138430268829660194,572972102826504563,14127565512025927476,10513939476552172596,10065436044454925172,18111670836074423477,18186552458801813173,5314872934888469301,5771162388453387302,9139330836896779495,9710753132714282539,12988531634355128734,6759682837100119540,16023608464162051193,10398502336224469161,11329929565584087459,16784284619712086081,12514381121326412218,9146114416166949672,7907291197601189005,4634625478963980942,9035354749135523719,14509880710132228298,15800763374521970261,6252701182670341444,254791601735361644,18166791810375436700,15226050988721379979,16860024764237725567,1119402125603199842,607420903698478591,12155928637730965883,14814749496275227578,2016601588375372702,6691944199193687146,1520322533337637115,16008811966567852738,16241222837135981342,2143499583247541529,1592868285748809545,5700141430406943038,15577084655529175117,4880416582783968886,4397925070732118254,2233591060590789495,5345482241567698913,4069760238797518488,11162545153660589456,15937049986970729588,11776560559881600441,623431988550513682,5774254392646116377,6646802272462696073,16907766252645204379,12627736828444030475,16651964725517436103,15869063939753729950,8653427947369971162,11847484906469867601,839210184513283882,10754130074420547713,8461325690141936691,3332744043843912460,6497774645207612220,1504585835571768284,16333397828320246185,16593784516598478530,14164439456796505555,10049750307404076884,18134064247714675635,17257083494854617982,2602511652990515239,16499018789599312348,3477560141490610619,16757080278724159758,12571150502679272408,1990708424265555082,13017998977681087086,753177635118174313,5345768142290740876,846345920306499415,14239212844155733556,17438669313869195289,14521046042394755606,12161231811990206026,13519710896685558522,5741807114002614954,12031434144168056886,17455455316238651350,6373139065024828758,17584772137493153706,15994091318333683524,2857333260485842432,2084019218175054243,12603583484800667695,17034311998221570063,2971431564994126913,16262740778970369594,3227556126079621023,16500474431575006908,341804555974987631,4755944224158366091,2946103068041654220,11169246791625613910,3983808479252693005,3662924026384893022,7574969761502319727,5660808021890916641,6621161652587703373,15779408529064116368,11522410852495151340,12611765028303125251,2671141482805072152,14053831345903121137,9932190537974904730,3675565038378834109,13569840421040962909,3957833287219414156,1249834536920075617,13202756160963070346,16733421920204380812,16230541282002854085,16046261019142733156,3487574139722732558,3907152645165424006,9015618353503245758,10572278539741760448,13837071731447560642,1446562399563913634,12942172030665002282,5651116028453296570,17663263319192654860,656311366669013681,16589888501864212096,17335194236840084223,16565216486925414918,3798173480036304359,16113842966421325511,14492635551948708812,4093381378872745725,18409941520023071997,9782088627468381792,12118655898759257976,4248539147770911067,9806435246001027103,9383831087377468917,17390718494048034813,3882872876651789723,1127634793912738221,10612309129367383811,5874152147974175959,16087587908636954648,10490727105504151691,18084770192368193450,8823498850154109503,8248123376946805343,4578676707742625726,1394999506921835130,14903571005810607084,653144130665663935,16446061036337333178,5352005061750937203,12057002021898967245,15896855833169975025,12222213710679437555,15101814282852432312,9151094753780074083,9342980573655945779,18404381037358320487,9845395369641470480,11182463942540378717,7365360410447152746,4589319523987029175,2511973105276084517,14872849554031118321,16290026511622119200,1465130161910818764,17209378237663181543,2430253761682794600,16741254815128721943,2957926498542325431,11979709137122430813,7111360695875279368,1922921556128227756,15043280230013789467,5622249501622157904,13643439921283432339,16244657643365107358,16817112304024337472,4909280109464089887,16991191411209258683,1054139098618326252,8305324130772541059,4787603284298742838,15612177884354992951,1025936656971202207,4431002483276085724,15284331814731850511,4890815104370328460,12991670863197774523,1331434763352218622,3775292928741308123,15237684202585131382,15039808927554437279,16955097979193682993,15698223889260126469,8853999990012491168,3712704079059041514,1414028322978354557,14530273738893809653,4126655337719505744,6903418020356964624,2152056127469195576,6201373481106467919,9664106279424769897,10187118674722455256,17404298693599809834,6278184286411639981,4242912567837342189,2245758298927256913,14472283320296257539,8603358811101349120,12635178922663789380,8102335136841717484,1775880753792051960,12303564400568003689,3560739923221801020,11672391577364118140,17706028031083018061,17933248869990009890,17407473930907887269,17475447132045232260,9580419028521291366,4932490625331650405,3835758409315847746,4553107086627376180,16242057246637818099,18211643575801558650,10517517803564692712,7546642854943797607,3832826148981233003,13082795074105851988,1383140075583350786,5101223393479840096,12814779499354737837,5690817853314615113,17950695112833053290,6810203408979689829,16561918017830656844,10315687245554533725,3754774396119027065,2722724609974425955,3429090088948023233,16393113829446935157,16484924990031974829,5538431809840652205,2585738401659406289,13979861303374865709,5368474287699877864,12435047821821710716,307186370409010567,10855218215123055581,14561811196211846131,10004410404831377025,11458675725044285283,6417435457907726484,2075375172355320020,4347502197105153658,4807197422963588281,11004844561254172783,13344692612766797552,4596986276007724536,13172606439102927660,2394382530441145214,7813032696914081632,8102332602257641886,12982672641407329517,10750010144119837956,2298381498934695029,13943156188759888003,776093964971928362,9797957903297371251,17791533634898006659,17805982036726832197,12705054258675542904,18189212095986095296,1447682390631068147,18237598213143296983,10934409156939472466,10339665114009435905,1216537398195588063,13487610147774819956,11831860746953546743,11262905748713298929,11538228471349496407,9225065091158363839,11202079762825262435,4207510021136447999,5665956796190501514,13375164874957547532,14931381755453863146,4665012822205472917,1260840431033703548,6816895674752696804,4407898869988193810,17858468970782083288,1541117132512403248,828692119740683940,2366895233323374611,11229599184459158252,4568112849734796365,2924939168850061979,4222358791808518297,18426953805517510484,16252976101734549959,15433108783097912037,6336548681905514650,4400014895199916993,10528588215527130866,8259057811127114146,17560011087036500899,1544556036058919077,4808656081850956228,13200783498870859117,819415941412235395,2821173069794941483,16113594087819494847,13423806227224415480,10530337394781176955,3477342617657057410,10521210953205229135,18206314136776036457,11492438585219009928,9898769907732148063,9951250637598995649,7851162631716708541,5964541302574008007,5707127359187538138,6829818265017995406,10697281246648731239,7788736235369043406,4615682989279503082,5583857192907832802,3808791084896693531,7262307829429454988,7011922932680052828,11847928405976012913,5075036345449770024,13296676315388562384,1263313148079413140,3145163820894252974,7276988559010911797,5597242662005915859,14708033005373228371,16122599678459110148,9052891913039035169,4778607400951837871,14861219775901920492,15941783279455143357,10645668900648511952,9685768063981189587,17414889053381701387,2835358864164083251,17097776671632952646,16874679392009141219,16614048688634502065,7578085886457372225,18134439904477547006,17065547112160594832,7610558445202492833,2850894869286317076,9992763851245931890,474040271226239948,12842893544055132498,8065417600208168162,3111695617047252979,5031071823016165739,5732076040912390203,14173086375230200798,2611111776412281539,206668432104427907,12367639057891794573,15612071436685634496,15879147220620841406,3147804671861899485,7417627108273346526,3508458327051230318,12978056107819566678,16589948689097306902,2778759030273654884,5612066134106926661,15579801449666633734,11851367249396664490,7942822675419243447,14497391270202142381,5203338791345534904,15785181256893852753,9022865736804528594,8219250855344689861,15265122371724403347,5556853645955872316,1592202084613860423,3989821740174817850,5004131851754121323,11603845400584341490,2273135699294382586,2282499634601885378,17531011071041391154,8841998703742142009,7069677365850711377,8680991905124857516,1720162581480625627,2332229187973857768,983262262387629244,16094234816003775605,17432574766845418721,11314845850804034253,5157865988078265019,18384822967143097981,7416451694298545749,8649890420380550949,5253610566999985915,2697446479572198506,5274768346404194930,4203659492206790829,11266043054201605315,3820319718078004933,4828510437049044411,5962706849022184521,5064662917920633792,4840113638790589989,15079064495871857825,11761176579221166167,410961622952417337,3168465410754133409,4924020029412847985,4291954855725776222,2047698933902070796,8438000082498261455,14617372214445777030,2656224978758858578,11238992121663851621,15557416580693548987,2098087206480532754,3077337712011144341,8946232566148151505,378543582891325710,10279184914885960580,7055191911506804325,14019062329432821833,16979909836539236990,909205379415409394,10244815458470050161,10676811928937910513,7805373514588442944,7091802796651969144,11483343078500642414,7187629901377005419,11008873137369849091,12946973868597758911,3655744908133130529,1932903275201576480,1553487085171213416,17709489848569563882,508974203189912802,11668438757243299432,9339491978621068064,15897900742963370319,9846797769276276240,16167609601289460114,10514474250549667838,3082671890933409316,6042415059840274472,6893598312199328938,10780358183069104990,10845104553028865732,12414340079431352417,7034585586219430683,4291596220642513354,2696285933967736027,14673717246734041941,10229305735109078006,11614042097568642007,1222309013891483896,8743641628206539334,15864759253638414946,15389137870590888955,15605779866496220913,13838637263037556551,2380746105906931047,15374394249406073169,4081298920304061005,16380122254751162433,16843181751038187730,3376624913445313170,6147688163153537073,13576706949597995646,17805318274233241765,6653161818924712100,10244011993824306468,10286049394215184468,10585140099644154996,10211174020624521192,1745955321107364386,1592634171099811358,5544377646020611102,7298676914309923463,12115393140979254808,9171937977047830101,15072208958370774689,16418066596610682940,11818159411736015086,6354199113793267079,1411173019672276670,6112833641076598787,11280559245807887811,17080758429420353638,2741423903183013631,10995976386733676237,2750577497097734991,8359533253161857938,17478829667126736372,18394484256342445555,3908443120361302994,129261520319630150,6229993816835249599,16061114567470536605,16458682470589171220,14870805991260114476,11387668875395060495,14562937356852056249,3415878816902147121,574695470628901775,7379912060807636204,189799722452199831,17441004919214764619,9751530976506119539,6454644891095517944,7174540001979395379,17776514479310760222,941469301527363832,4678980797063371107,5423896244106860349,4096984138656594316,2903293605163070894,15104231818778941520,12674554107744266137,7184082956734961283,18094240227981180448,17240920643166353294,11758186804417225729,13177538679402140955,7318366514538005063,14713066390094474082,6018700703874946246,11417308939099449869,10512401922415818636,6084420908932185456,16257357885586309873,9787002188124417924,17239072721996808512,4734587393529297213,15766425602780228969,16195886848883061178,2741275239650521026,4896691028661026600,11711185494491135633,5939986586723813461,13928550973448108306,6728987558702150517,8388690205193280950,8850377717495464346,5338483420155040824,112075421724538309,4415224246262895586,12533688421698256210,16603478117206866787,6340299664400202874,1670493479838081847,6461529726454148713,9682379346805377899,15759056803182964137,17579663610433162644,16130476413544226939,2140930833501178668,14846588577706930591,13496140719910243490,15437114243100828983,9997236822321983661,9590173342079643527,5430092991188184704,4801012940053524817,13102155965988915006,1345046801054387476,17568014724442830316,17242653360280820725,5806150629919598793,4845814991226519562,12495797199671122200,8556259538723338479,5626203381532498615,1924206028689834128,5245862081998322485,15035097653073513836,16797615339083672046,1694399840087493761,16370772712214396631,6869081408730093772,11793464611993817582,1431607534518362969,17597024410324354077,5060049726294607439,17518982093838419980,9505940577020577559,64167928875633122,9603938804714685943,11005691392861873268,4553720437139741654,11325558230128758340,12192112501097330852,11432876450571543232,15534110599341050551,7861875405060731670,11129627018802474157,9443755859364776390,2049327960379586363,3597111968597323879,1938475913865229794,8004666447860572817,12569585703006019414,6574888629665155100,17148768759950552181,14648745205971348822,17102596770350366968,8123606203987942169,11031392307631645742,8691243521050992034,7747553394162685798,7138596050916437986,1283802524174770396,17458493308721027355,16182474379839360002,18008091146102154226,15426980974297691954,2758117881724243675,7332756912377310589,532178351000879776,16638993090860579319,5612923298651470177,12366846876493190112,7355770323751615428,4124824506575878012,10065989087572704693,2921622221446761984,5354756037383921669,7803949503929933579,14011280037826072807,12952023258933730740,11537832388679949174,17996443966699258761,15062743135068164483,4288896519597932679,18140743729216839746,15691632478612807955,3954749066822334169,4501485962869951268,4350557666955698147,10663894355767071990,17822997646539096496,5002103802650098081,8189424450743735293,12676780211926141789,14137853058086732167,2830408160245076004,927090838781869308,12860047987352062686,7248345760797919615,9642911250561754515,10081016627439554454,13492264245051657340,9262895607716337626,1349357111067721591,16407727415840799626,2892669352324167319,2229472649356911058,4644291490990839429,15868897011848278150,10263642844788090791,6915073813982361868,14097547008814793549,12392007543274301691,4098881647132105747,3665127157898378877,18030297494896200993,18146529849476662245,17589976141173408134,10425538501460294425,18287016008246052851,7194369881238005401,14455472681129307352,9942113169138124197,10782167098595526133,11363447876392141031,8389781486220119448,4030526380554892558,7842659357941587158,6067631939523604902,10072167295792375056,9100182737217791068,1674452065260884541,4537132581053109686,4414433324131104016,4679819968754316876,2352722386050983425,7928508571887946859,12420103737057286195,8358912532838764180,9045214896160776210,17294462300537091646,12265884868698585105,4800103959320914,17484170522071874915,15299548734026439510,13716164350770474872,12132496138026016161,7833727770951392785,16490865769420922380,9587625812710206957,13742987594396473557,6194827477818720636,1482062613135447665,13410210448070619440,13260113136585279362,18396412751285540480,13482176121036328212,13938737083606590445,12222436781971717888,2886777181840074498,3372821612830858189]
universe E.PySem.W.Fast
set_option maxRecDepth 100000 in
set_option maxHeartbeats 0 in
theorem PySem.Challenge.cw_mergetree_k51_rows_not_so_written_holds : PySem.Challenge.rw_mergetree_k51_rows_not_so_written.Holds := by
 w_on;o_law;k_head;(case hw=>w_witness2)
 k_fill
 refine My.walk (l:=PySem.Challenge.rw_mergetree_k51_rows_not_so_written) rfl rfl (λw h Y=>PySem.W.kIn_of Y) ?F;case F =>
  intro w mg fa h KX G hmg
  refine' My.all_mk KX G hmg ?q00 ?q10 ?q20 ?q30 ?q40 ?q50 ?q60 ?q70 ?q80 ?q90 ?qa0 ?qb0 ?qc0 ?qd0 ?qe0 ?qf0 ?qg0 ?qh0 ?qi0 ?qj0 ?qk0 ?ql0 ?qm0 ?qn0 ?qo0 ?qp0 ?qq0 ?qr0 ?qs0 ?qt0 ?qu0 ?qv0 ?qw0 ?qx0 ?qy0 ?qz0 ?q01 ?q11 ?q21 ?q31 ?q41 ?q51 ?q61 ?q71 ?q81 ?q91 ?qa1 ?qb1 ?qc1 ?qd1 ?qe1 ?qf1 ?qg1 ?qh1 ?qi1 ?qj1 ?qk1 ?ql1 ?qm1 ?qn1 ?qo1 ?qp1 ?qq1 ?qr1 ?qs1 ?qt1 ?qu1 ?qv1 ?qw1 ?qx1 ?qy1 ?qz1 ?q02 ?q12 ?q22 ?q32 ?q42 ?q52 ?q62 ?q72 ?q82 ?q92 ?qa2 ?qb2 ?qc2 ?qd2 ?qe2 ?qf2 ?qg2 ?qh2 ?qi2 ?qj2 ?qk2 ?ql2 ?qm2 ?qn2 ?qo2 ?qp2 ?qq2 ?qr2 ?qs2 ?qt2 ?qu2 ?qv2 ?qw2 ?qx2 ?qy2 ?qz2 ?q03 ?q13 ?q23 ?q33 ?q43 ?q53 ?q63 ?q73 ?q83 ?q93 ?qa3 ?qb3 ?qc3 ?qd3 ?qe3 ?qf3 ?qg3 ?qh3 ?qi3 ?qj3 ?qk3 ?ql3 ?qm3 ?qn3 ?qo3 ?qp3 ?qq3 ?qr3 ?qs3 ?qt3 ?qu3 ?qv3 ?qw3 ?qx3 ?qy3 ?qz3 ?q04 ?q14 ?q24 ?q34 ?q44 ?q54 ?q64 ?q74 ?q84 ?q94 ?qa4 ?qb4 ?qc4 ?qd4 ?qe4 ?qf4 ?qg4 ?qh4 ?qi4 ?qj4 ?qk4 ?ql4 ?qm4 ?qn4 ?qo4 ?qp4 ?qq4 ?qr4 ?qs4 ?qt4 ?qu4 ?qv4 ?qw4 ?qx4 ?qy4 ?qz4 ?q05 ?q15 ?q25 ?q35 ?q45 ?q55 ?q65 ?q75 ?q85 ?q95 ?qa5 ?qb5 ?qc5 ?qd5 ?qe5 ?qf5 ?qg5 ?qh5 ?qi5 ?qj5 ?qk5 ?ql5 ?qm5 ?qn5 ?qo5 ?qp5 ?qq5 ?qr5 ?qs5 ?qt5 ?qu5 ?qv5 ?qw5 ?qx5 ?qy5 ?qz5 ?q06 ?q16 ?q26 ?q36 ?q46 ?q56 ?q66 ?q76 ?q86 ?q96 ?qa6 ?qb6 ?qc6 ?qd6 ?qe6 ?qf6 ?qg6 ?qh6 ?qi6 ?qj6 ?qk6 ?ql6 ?qm6 ?qn6 ?qo6 ?qp6 ?qq6 ?qr6 ?qs6 ?qt6 ?qu6 ?qv6 ?qw6 ?qx6 ?qy6 ?qz6 ?q07 ?q17 ?q27 ?q37 ?q47 ?q57 ?q67 ?q77 ?q87 ?q97 ?qa7 ?qb7 ?qc7 ?qd7 ?qe7 ?qf7 ?qg7 ?qh7 ?qi7 ?qj7 ?qk7 ?ql7 ?qm7 ?qn7 ?qo7 ?qp7 ?qq7 ?qr7 ?qs7 ?qt7 ?qu7 ?qv7 ?qw7 ?qx7 ?qy7 ?qz7 ?q08 ?q18 ?q28 ?q38 ?q48 ?q58 ?q68 ?q78 ?q88 ?q98 ?qa8 ?qb8 ?qc8 ?qd8 ?qe8 ?qf8 ?qg8 ?qh8 ?qi8 ?qj8 ?qk8 ?ql8 ?qm8 ?qn8 ?qo8 ?qp8 ?qq8 ?qr8 ?qs8 ?qt8 ?qu8 ?qv8 ?qw8 ?qx8 ?qy8 ?qz8 ?q09 ?q19 ?q29 ?q39 ?q49 ?q59 ?q69 ?q79 ?q89 ?q99 ?qa9 ?qb9 ?qc9 ?qd9 ?qe9 ?qf9 ?qg9 ?qh9 ?qi9 ?qj9 ?qk9 ?ql9 ?qm9 ?qn9 ?qo9 ?qp9 ?qq9 ?qr9 ?qs9 ?qt9 ?qu9 ?qv9 ?qw9 ?qx9 ?qy9 ?qz9 ?q0a ?q1a ?q2a ?q3a ?q4a ?q5a ?q6a ?q7a ?q8a ?q9a ?qaa ?qba ?qca ?qda ?qea ?qfa ?qga ?qha ?qia ?qja ?qka ?qla ?qma ?qna ?qoa ?qpa ?qqa ?qra ?qsa ?qta ?qua ?qva ?qwa ?qxa ?qya ?qza ?q0b ?q1b ?q2b ?q3b ?q4b ?q5b ?q6b ?q7b ?q8b ?q9b ?qab ?qbb ?qcb ?qdb ?qeb ?qfb ?qgb ?qhb ?qib
  case q00|q10|q20|q30|q40|q50|q60|q70|q80|q90|qa0|qb0|qc0|qd0|qe0|qf0|qg0|qh0|qi0|qj0|qk0|ql0|qm0|qn0|qo0|qp0|qq0|qr0|qs0|qt0|qu0|qv0|qw0|qx0|qy0|qz0|q01|q11|q21|q31|q41|q51|q61|q71|q81|q91|qa1|qb1|qc1|qd1|qe1|qf1|qg1|qh1|qi1|qj1|qk1|ql1|qm1|qn1|qo1|qp1|qq1|qr1|qs1|qt1|qu1|qv1|qw1|qx1|qy1|qz1|q02|q12|q22|q32|q42|q52|q62|q72|q82|q92|qa2|qb2|qc2|qd2|qe2|qf2|qg2|qh2|qi2|qj2|qk2|ql2|qm2|qn2|qo2|qp2|qq2|qr2|qs2|qt2|qu2|qv2|qw2|qx2|qy2|qz2|q03|q13|q23|q33|q43|q53|q63|q73|q83|qa3|qc3|qe3|qg3|qi3|qk3|qm3|qo3|qq3|qs3|qu3|qw3|qy3|q04|q24|q44|q64|q84|qa4|qc4|qe4|qg4|qi4|qk4|qm4|qo4|qq4|qs4|qu4|qw4|qy4|q05|q25|q45|q65|q85|qa5|qc5|qe5|qg5|qi5|qk5|qm5|qo5|qq5|qs5|qu5|qw5|qy5|q06|q26|q46|q66|q86|qa6|qc6|qe6|qg6|qi6|qk6|ql6|qm6|qn6|qo6|qp6|qq6|qr6|qs6|qt6|qu6|qv6|qw6|qx6|qy6|qz6|q17|q27|q47|q57|q77|q87|qa7|qb7|qd7|qe7|qg7|qh7|qj7|qk7|qm7|qn7|qp7|qq7|qs7|qt7|qv7|qw7|qy7|qz7|q18|q28|q48|q58|q78|q88|qa8|qb8|qd8|qe8|qg8|qh8|qj8|qk8|qm8|qn8|qp8|qq8|qs8|qt8|qu8|qv8|qw8|qx8|qy8|qz8|q09|q19=>k_is
  case q29=>exact((_,_,rfl,rfl),À0,À0,À0,Àc)
  case q39=>first|rfl|decide
  case q49|q59|q69|q79|q89|q99|qa9|qb9|qc9|qd9=>k_is
  case qe9=>exact ÜI
  case qf9=>first|rfl|decide
  case qg9|qh9|qi9|qj9|qk9|ql9|qm9|qn9|qo9|qp9|qq9|qr9|qs9|qt9=>k_is
  case qu9=>exact ÜI
  case qv9=>first|rfl|decide
  case qw9|qx9|qy9|qz9|q0a|q1a|q2a|q3a|q4a|q5a|q6a|q7a|q8a|q9a|qaa|qba|qca|qda|qea|qfa|qga|qha|qia|qja|qka|qla|qma|qna|qoa|qpa|qqa|qra|qsa|qta|qua|qva|qwa|qxa|qya|qza|q0b|q1b|q2b|q3b|q4b|q5b|q6b|q7b|q8b|q9b|qab|qbb|qcb|qdb|qeb|qfb|qgb|qhb|qib=>k_is
  case q93|qb3|qd3|qf3|qh3|qj3|ql3|qn3|qp3|qr3|qt3|qv3|qx3|qz3|q14|q34|q54|q74|q94|qb4|qd4|qf4|qh4|qj4|ql4|qn4|qp4|qr4|qt4|qv4|qx4|qz4|q15|q35|q55|q75|q95|qb5|qd5|qf5|qh5|qj5|ql5|qn5|qp5|qr5|qt5|qv5|qx5|qz5|q16|q36|q56|q76|q96|qb6|qd6|qf6|qh6|qj6|q07|q37|q67|q97|qc7|qf7|qi7|ql7|qo7|qr7|qu7|qx7|q08|q38|q68|q98|qc8|qf8|qi8|ql8|qo8|qr8=>exact(_,_,_,_,_,_,_,_,_,by k_is,by k_is,by k_is)
end
