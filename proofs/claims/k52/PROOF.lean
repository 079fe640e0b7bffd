import PyProof.Rows.All
import Wide.All
import OpenK.AllK
import Wide.FinOn
import Lean
import PyProof.EqAt
import PyProof.EqKinds
import PyProof.TupleCall
import PyProof.AttrMissHeap
import KE.KEqDict
import KE.KItemsList
import PyProof.WalksMore
import PyProof.TupleOfStr
import PyProof.DictWalks
import PyProof.WalkInts
import PyProof.ExcClass3
import PyProof.StationsW
import OpenK.KCall
import PyProof.RulesAs
import PyProof.Ns1
import PyProof.InstStoreFacts
import PyProof.ExcBaseAll.ValueError
import PyProof.ExcArgs
import KE.KIsAll
import PyProof.Rows.CountFlat
import PyProof.StrBlockL
import OpenK.KTop
import PyProof.StrLawsTight
import PyProof.Rows.StrFin3
import KE.KUnpackStar
import PyProof.Conv_int_bool
import PySem.Challenge.RW_mergetree_k52_deeds_refused_at_a_desk
set_option maxHeartbeats 4000000
set_option maxRecDepth 100000
open PySem renaming Value->aa,Addr->ae,wpAny_bind->ah,Shared->aj,sizeLine->aq,Str->ak,wpAny_pure->av,PyData->aE,wpAny->ar,Program->ay,starEach->aG,mainGlobals->aL,model->ax,Heap->aI,Around->aD,World->aF,Expr->aK,NameKind->aV,Stmt->aM,Builtin->aT,compareOp->aR,sliceBounds->dB,wpAny_holding->aU,PassesOwn->bo,Obj->aN,wpAny_seqItems->bi,wpAny_field->bg,sizeLine_eq->aO,assignEach->bX,compEnvC->bL,attributeBase->bE,wpAny_setField_rec->bU,sysModules->bC,wpAny_passesOwn->b8,wpAny_truthy_bool->bp,strIterType->bW,foldedSetIterable->cb,codeAny->bK,Scope->bj,backTo->bn,FuncData->bA,wpAny_standAt->bx,wpAny_pyIter_list->cc,wpAny_newObj_type->bz,wpAny_call_entry->cq,bootBuiltins->cW,wpAny_mono->ba,wpAny_Call_Name_kw->bh,tupleKind_room_in1->bV,wpAny_letGo->dC,wpAny_Call_method0_late->dO,keywordEach->cr,wpAny_tryCatch->cT,letOwnedTupleGo->dD
open Option renaming some->U,none->af
local macro_rules
|`(mutual $d* end)=>do
 let `(example:=#[$x,*]):=(d[0]!.raw)|Lean.Macro.throwUnsupported
 let nc:=(←`(command|noncomputable def x:=0)).raw[0][4]
 let key:=fun (a:Array Lean.Syntax)=>(if a[0]!.isIdent then a[0]!.getId.toString else (a[0]!.isNatLit?.map toString).getD "?")++"/"++toString a.size
 let sub:=fun (t:Std.HashMap String (Array Lean.Name×Lean.Syntax)) (s:Lean.Syntax)=>s.rewriteBottomUp fun s=>
  if s.getKind==`«term#[_,]» then
   let a:=s[1].getSepArgs
   if a.isEmpty then s else match t[key a]? with
   |some (p,b)=>if p.isEmpty then b else b.rewriteBottomUp fun u=>if u.isIdent then match p.idxOf? u.getId with|some i=>a[i+1]!|none=>u else u
   |none=>s
  else if s.isIdent then match (if s.getId.toString.front.toNat<192 then none else t[s.getId.toString++"/1"]?) with|some (_,b)=>b|none=>.ident .none s.getSubstring?.get! s.getId []
  else if s.isAtom then .atom .none s.getAtomVal
  else if s.getKind==``Lean.Parser.Command.declaration&&(s[1].getKind==``Lean.Parser.Command.definition||s[1].getKind==``Lean.Parser.Command.abbrev||s[1].getKind==``Lean.Parser.Command.instance) then s.setArg 0 (s[0].setArg 4 nc)
  else if s.getKind==``Lean.Parser.Tactic.rwSeq&&s[3].getNumArgs==0&&s[2][1].getSepArgs.all (·[0].getNumArgs==0) then
   let a:=s[2][1].getSepArgs.map (·[1])
   if a.size==1&&a[0]!.getKind==``Lean.Parser.Term.byTactic then .node .none ``Lean.Parser.Tactic.paren #[.atom .none "(",a[0]![1],.atom .none ")"] else match t[key a]? with
   |some (p,b)=>if b.getKind==``Lean.Parser.Term.byTactic then
     let c:=if p.isEmpty then b else b.rewriteBottomUp fun u=>if u.isIdent then match p.idxOf? u.getId with|some i=>a[i+1]!|none=>u else u
     .node .none ``Lean.Parser.Tactic.paren #[.atom .none "(",c[1],.atom .none ")"] else s
   |none=>s
  else if s.getKind==``Lean.Parser.Tactic.show&&s[1].getKind==``Lean.Parser.Term.byTactic then
   .node .none ``Lean.Parser.Tactic.paren #[.atom .none "(",s[1][1],.atom .none ")"]
  else if s.getKind==``Lean.Parser.Term.tuple&&s[1].getNumArgs>0&&s[1][2].getNumArgs%2==1 then
   .node .none ``Lean.Parser.Term.anonymousCtor #[.atom .none "⟨",Lean.mkNullNode (#[s[1][0],.atom .none ","]++s[1][2].getArgs),.atom .none "⟩"]
  else if s.getKind==``Lean.Parser.Tactic.obtain&&s[1][0][0].getNumArgs>1 then
   let tup:=fun (m:Lean.Syntax)=>Lean.Syntax.node .none ``Lean.Parser.Tactic.rcasesPat.tuple #[.atom .none "⟨",Lean.Syntax.mkSep (m.getSepArgs.map fun q=>.node .none ``Lean.Parser.Tactic.rcasesPatLo #[.node .none ``Lean.Parser.Tactic.rcasesPatMed #[Lean.mkNullNode #[q]],Lean.mkNullNode]) (.atom .none ","),.atom .none "⟩"]
   let m:=s[1][0][0].rewriteBottomUp fun u=>if u.getKind==``Lean.Parser.Tactic.rcasesPat.paren&&u[1][0][0].getNumArgs>1 then tup u[1][0][0] else u
   s.setArg 1 (Lean.mkNullNode #[.node .none ``Lean.Parser.Tactic.rcasesPatMed #[Lean.mkNullNode #[tup m]]])
  else s
 let mut t:Std.HashMap String (Array Lean.Name×Lean.Syntax):={}
 for y in x.getElems do
  let a:=y.raw[1].getSepArgs
  let b:=sub t a.back!
  let p:=(a.extract 1 (a.size-1)).map (·.getId)
  t:=t.insert (key a.pop) (p,b)
 let mut r:Array Lean.Syntax:=#[]
 for c in d.extract 1 d.size do
  if let `(example:=#[$x,*]):=c.raw then
   for y in x.getElems do
    let i:=Lean.mkIdent (.mkSimple s!"tw{(y.raw.isNatLit?).getD 0}")
    r:=r.push (←`(command|def $i:ident := Nat))
   continue
  let c:=c.raw
  r:=r.push (←if c.getKind==``Lean.Parser.Command.universe then do
   let n:=c[1][0].getId
   if n==`E then `(command|end) else
    let i:=Lean.mkIdent (n.replacePrefix `E .anonymous)
    `(command|end $i)
  else pure ⟨sub t c⟩)
 return Lean.mkNullNode r
mutual
example:=#[#[À,List],
#[Â,base],
#[Ã,Option],
#[Å,V.str],
#[Æ,if_pos],
#[Ç,if_neg],
#[È,absurd],
#[Ê,s.heap],
#[Ì,X.env],
#[Í,cons],
#[Î,s.heap.objs.size],
#[Ï,SqL.of],
#[Ð,Bool],
#[Ò,e.ss],
#[Ó,data],
#[Õ,heap],
#[Ú,e.nm],
#[Û,outer],
#[ß,h.get?],
#[à,aa.ref],
#[â,T.cl_Merge],
#[ã,xs.length],
#[å,Qe.mp],
#[è,X.xe],
#[é,s.heap.get?],
#[ê,I.hok],
#[ì,V.int],
#[í,Qn.mp],
#[ï,toks],
#[ñ,prog],
#[ö,SqT.of],
#[ø,kvs.length],
#[ù,X.prog],
#[ú,V.ref],
#[ý,h'.get?],
#[Ā,Array],
#[ā,eval],
#[ą,keep],
#[Ć,rest],
#[Ĉ,decide_eq_true],
#[Ċ,D.nx],
#[ċ,x.length],
#[Č,ns.length],
#[Ď,PySem.W.kitOne],
#[ď,arrOf],
#[Ē,X.nb],
#[ē,decide_eq_false],
#[ĕ,False],
#[ė,more],
#[ę,R.map],
#[Ě,X.mg],
#[ě,I.kIn],
#[ĝ,sortedS],
#[Ğ,Qm.mp],
#[ğ,N.length],
#[Ģ,Z9.k'],
#[ģ,its.toArray],
#[Ĥ,b.length],
#[ĥ,K.lookup],
#[ħ,D.at'],
#[Ĩ,small],
#[ĩ,QK.mp],
#[ī,PySem.W.findIn],
#[Ĭ,ys.length],
#[Į,e.ss.length],
#[İ,X.env.locals],
#[Ĳ,iter],
#[Ĵ,call],
#[ĵ,c.length],
#[ķ,kitOne],
#[ĺ,h.objs.size],
#[Ļ,s.toks],
#[ļ,a.length],
#[Ľ,of_decide_eq_true],
#[ľ,aX.size],
#[Ł,Qh.mp],
#[ł,congrArg],
#[Ń,a.map],
#[ń,ss.length],
#[Ņ,PySem.W.nsIn],
#[ņ,T.cl_Row],
#[Ň,M.rows],
#[ň,X.rd],
#[Ŋ,String],
#[Ō,wpS_bind],
#[Ŏ,X.li],
#[ŏ,X.lo],
#[Ő,X.base],
#[ő,items],
#[œ,Zt16],
#[Ŕ,snoc],
#[ŗ,z.length],
#[Ř,c.map],
#[Ś,I.loc],
#[ś,I.tok],
#[ş,T.na_Merge_rows],
#[Ţ,c.names.lookup],
#[ţ,wpS_pure],
#[Ť,SortedToK],
#[ť,ks.map],
#[Ŧ,Zt32],
#[ŧ,s.length],
#[Ũ,M.nd],
#[ũ,o.data],
#[Ū,K.In],
#[ū,X.s₀.heap.objs.size],
#[Ŭ,rawInt],
#[ŭ,True.intro],
#[Ů,vs.length],
#[ů,d.length],
#[ű,j.heap.objs.size],
#[Ų,l.length],
#[ŵ,L.map],
#[Ÿ,D.rows],
#[Ź,PW.pt],
#[Ž,HT.sIx],
#[ž,SortSt],
#[ſ,y.length],
#[Β,IsTup],
#[Δ,free],
#[Ε,X.stack],
#[Ζ,I.bare],
#[Η,cont],
#[Λ,wpAny_loadPart_at],
#[Ο,bo.never],
#[Ρ,rows],
#[Υ,grow],
#[Φ,drop],
#[Χ,take],
#[Ψ,x.nm],
#[β,Sum.inr],
#[γ,X.env.cells.lookup],
#[δ,I.free],
#[ε,I.ok],
#[ζ,c.heap.objs.size],
#[μ,kindOf],
#[ο,dict],
#[ρ,IsPair],
#[χ,ak.join],
#[ψ,kitCls],
#[Àa,X.sd],
#[Àb,ws.length],
#[Àc,S.nm],
#[Àd,D.sep],
#[Àe,T.cl_Desk],
#[Àf,Od.txt],
#[Àg,o.txt],
#[Àh,R.length],
#[Ài,aa.none],
#[Àj,I.cell],
#[Àk,I.pin],
#[Àl,s.heap.push],
#[Àm,value],
#[Ào,a.heap.objs.size],
#[Àq,h.elim],
#[Àt,I.src_off],
#[Àu,ks.length],
#[Àv,L.length],
#[Àw,excClassObj],
#[Àx,True],
#[Ày,X.fs],
#[Àz,I.len],
#[ÀA,I.freeC],
#[ÀB,s'.heap],
#[ÀD,ps.length],
#[ÀG,M.length],
#[ÀJ,h.len],
#[ÀK,bump],
#[ÀL,many],
#[ÀM,os.length],
#[ÀO,us.length],
#[ÀQ,s₀],
#[ÀR,Model],
#[ÀT,I.turned],
#[ÀU,I.laid],
#[ÀV,r.length],
#[ÀW,f.toks],
#[ÀX,P.map],
#[ÀZ,M.each],
#[À2,I.hr],
#[À3,I.hd],
#[À7,I.ok.hd],
#[À8,List.lookup],
#[À9,PySem.W.keepIn],
#[Áb,vs.toArray],
#[Ác,f.length],
#[Áe,pendingOf],
#[Ág,wpAny_isSubtype_exc],
#[Áh,Txt.join],
#[Án,os.map],
#[Áo,D.nd],
#[Áp,List.mem_cons],
#[Áq,aa.str],
#[Ár,I.ok.kind],
#[Ás,Ne.symm],
#[Áu,holding],
#[Áy,ak.empty],
#[ÁA,List.replicate],
#[ÁC,List.range],
#[ÁE,Keyed],
#[ÁF,κ.kle],
#[ÁK,kitAny],
#[ÁL,aE.canLay0],
#[ÁM,aE.depthAll],
#[ÁP,T.b.n_len],
#[ÁQ,h.few],
#[ÁR,j.rows],
#[ÁS,o.first],
#[ÁT,h.nmz],
#[ÁV,slots],
#[ÁZ,I.list],
#[Á5,z.cps.toList],
#[Á6,names],
#[Á7,f.heap.objs.size],
#[Á8,i.extBut],
#[Á9,z.cps],
#[Âa,j.extBut],
#[Âd,d.map],
#[Âe,h0.get?],
#[Âg,b.map],
#[Âk,Txt.split],
#[Âl,ws.map],
#[Âo,aE.canLayAll0],
#[Âp,aE.depth],
#[Âq,M.few],
#[Âs,D.tup],
#[Ât,List.find?_cons],
#[Âu,Sum.inl],
#[Âw,X.outer],
#[Âx,X.env.kindOf],
#[Âz,assign],
#[ÂB,A.units],
#[ÂC,cLine],
#[ÂG,c.names],
#[ÂH,compPost],
#[ÂJ,IsZip],
#[ÂK,List.not_mem_nil],
#[ÂL,or_false],
#[ÂM,SeqAt.shaped],
#[ÂN,aE.eqv],
#[ÂO,SortKind],
#[ÂQ,x.snd],
#[ÂR,of_decide_eq_false],
#[ÂS,l.map],
#[ÂU,r.map],
#[ÂZ,T.na_Merge_best],
#[Â2,h.num],
#[Â5,B.few],
#[Â7,G.map],
#[Â8,aa.int],
#[Â9,aa.type],
#[Ãb,AllBare],
#[Ãc,GenState],
#[Ãd,o.cls],
#[Ãe,False.elim],
#[Ãf,I.kept],
#[Ãg,wpAny_rule],
#[Ãh,pyNext],
#[Ão,k.toNat],
#[Ãr,X.env.scope.names.lookup],
#[Ãs,z.symm],
#[Ãx,items.size],
#[Ãy,A.in1],
#[Ãz,kvs.map],
#[ÃA,atKey],
#[ÃB,B.get?],
#[ÃC,i.objs.size],
#[ÃI,M.same],
#[ÃN,T.na_Desk_merge],
#[ÃO,o.sw.length],
#[ÃQ,Sum.inl.inj],
#[ÃR,fs.length],
#[ÃS,QY.mp],
#[ÃT,a.names.lookup],
#[ÃU,e.symm],
#[ÃW,standAt],
#[ÃY,I.tuple],
#[Ã0,c.toks],
#[Ã2,binaryOp],
#[Ã4,getMethod],
#[Ã7,F.len],
#[Ã8,hr.mono],
#[Äe,wpAny_call],
#[Äg,I.ok.mod.kin],
#[Äh,bindL],
#[Äi,bindC],
#[Äj,envOfC],
#[Äk,s.heap.update],
#[Äm,aV.free],
#[Äo,f.heap.push],
#[Äp,z.cps.size],
#[Äq,S.raw],
#[Är,d.objs.size],
#[Äs,d.extBut],
#[Ät,c.objs.size],
#[Äu,PyProof.Rows.KeyKind],
#[Äw,pairsOf],
#[ÄA,valueAt],
#[ÄC,c.val],
#[ÄG,f.objs.size],
#[ÄO,g.map],
#[ÄP,Spec.ltCps],
#[ÄR,T.na_Row_all_keys],
#[ÄX,h.key],
#[Ä2,nm.map],
#[Ä4,D.stay],
#[Ä5,T.na_Desk_numbers],
#[Ä9,WK.nd],
#[Åb,Sum.inr.inj],
#[Åc,aa.bool],
#[Åd,Paired],
#[Åf,PySem.W.instObj],
#[Åg,s.gens],
#[Åh,Drawn],
#[Åi,I.base],
#[Åm,assignInOrder_cons],
#[Ån,pyIter],
#[Åp,j.length],
#[Åq,fs.lookup],
#[År,PySem.W.isFn],
#[Ås,I.write],
#[Åt,typeLookup],
#[Åu,its.toArray.size],
#[Åv,aN.mapSeq],
#[Åw,if_false],
#[Åx,a.get?],
#[Åy,ns.map],
#[Åz,callerA],
#[ÅA,PySem.W.fnOf],
#[ÅB,env.cells],
#[ÅD,List.length_nil],
#[ÅE,aE.layable0],
#[ÅF,κ.blt],
#[ÅG,failedOf],
#[ÅI,NonIncK],
#[ÅJ,wpAny_updateSeq],
#[ÅM,decide_eq_decide.mpr],
#[ÅO,call_meetsIn],
#[ÅP,merged],
#[ÅR,L2.St],
#[ÅS,aN.mapFields],
#[ÅU,X.mkd],
#[Å2,T.b.n_range],
#[Å3,aE.str],
#[Å8,best'],
#[Æb,T.na_Merge_stays],
#[Æg,noRow],
#[Æh,noGrow],
#[Æi,noDrop],
#[Æk,D.same],
#[Æm,B.len],
#[Æn,D.mg.M],
#[Æo,B.nmz],
#[Æp,Od.ws],
#[Æq,V6.nd],
#[Ær,c.drop],
#[Æt,Y3.drop],
#[Æu,Y3.take],
#[Æx,List.lookup_cons],
#[Æy,beq_eq_false_iff_ne.mpr],
#[ÆB,g.get?],
#[ÆC,env.kindOf],
#[ÆD,I.ok.noex],
#[ÆE,I.base.free],
#[ÆF,s.heap.FunFrames],
#[ÆG,I.hok.fresh],
#[ÆH,d.trans],
#[ÆJ,aI.SameBut],
#[ÆM,wpAny_execs_nil],
#[ÆN,pos.line],
#[ÆP,c.heap.push],
#[ÆQ,c.heap],
#[ÆT,PySem.W.emptyDict],
#[ÆV,A.deeper],
#[ÆW,Calls.spliced_cons],
#[ÆX,a.toks],
#[ÆY,BindsTo],
#[Æ0,I.ok.frames],
#[Æ1,codeAny_mono],
#[Æ3,bu.atName],
#[Æ4,callWith],
#[Æ6,P.length],
#[Æ7,S.kind],
#[Æ8,IntsAre],
#[Æ9,s.TypeIs],
#[Ça,getItem],
#[Çc,if_true],
#[Çe,call_meets],
#[Çf,Or.inr],
#[Çh,noteFrame],
#[Çi,j.heap],
#[Çk,Txt.mul],
#[Çl,aT.SmallTypes.nextOf],
#[Çm,f.extBut],
#[Çn,S2.raw_keep],
#[Ço,l.extBut],
#[Çp,h.push],
#[Çr,κ.keyOf],
#[Çt,wpS_forRange],
#[Çx,k.length],
#[Çy,z.elim],
#[ÇA,B.symm],
#[ÇF,w.cps.toList],
#[ÇV,risingS],
#[ÇY,T.na_Row_gone],
#[ÇZ,Btr.total],
#[Ç0,Win.both],
#[Ç1,N.headD],
#[Ç2,N.getLastD],
#[Ç3,QaF.mpr],
#[Ç5,h.rows],
#[Ç6,h.stays],
#[Ç8,M.stays],
#[Èa,M.ne_sd],
#[Èi,ak.ofString],
#[Èp,o.sing],
#[Èq,o.furt],
#[Èy,R.take],
#[ÈA,I.same],
#[ÈB,Y.free],
#[ÈD,DecidableEq],
#[ÈE,xs.map],
#[ÈF,PySem.Within],
#[ÈG,Un.kept],
#[ÈH,base.Ns],
#[ÈI,X.base.get?],
#[ÈJ,X.H₀],
#[ÈK,I.base.keep],
#[ÈL,I.ok.above],
#[ÈM,I.base.slot],
#[ÈN,I.ok.bsz],
#[ÈO,I.base.frzs],
#[ÈP,I.step],
#[ÈQ,s.drawn],
#[ÈR,o.slots],
#[ÈU,its.toList],
#[ÈV,assignInOrder],
#[ÈX,Operator],
#[ÈY,wpAny_bindName],
#[ÈZ,h.IsListIter],
#[È0,Qad.mp],
#[È1,T.keep],
#[È3,i.length],
#[È5,setAttr],
#[È7,A.under],
#[È8,Yo.some_of],
#[Éa,PySem.W.specialIn],
#[Éf,d.hok.fresh],
#[Ég,Result],
#[Éh,ps.zip],
#[Él,PySem.W.codeIn],
#[Ém,d.typeIs],
#[Én,ak.length],
#[Éo,its.length],
#[Éq,Calls.callWith_builtin],
#[És,I.fresh],
#[Éu,d.name],
#[Éx,a.getD],
#[Éz,Decidable],
#[ÉA,ZD.refl],
#[ÉB,d.names],
#[ÉC,Bool.false_eq_true],
#[ÉH,bs.all],
#[ÉI,Src.at_keep],
#[ÉJ,Int.toNat_natCast],
#[ÉK,wpAny_setField],
#[ÉL,aN.data_mapFields],
#[ÉM,h.extBut],
#[ÉO,S1.its],
#[ÉP,S2.its],
#[ÉR,not_or],
#[ÉT,I.reads],
#[ÉU,m.extBut],
#[ÉV,X.A.units],
#[ÉW,ns.take],
#[ÉX,wpS_get],
#[ÉZ,x.cps.toList],
#[É1,wpAny_typeOf],
#[É2,checkBuiltinCall],
#[É3,o.getD],
#[É4,stored],
#[É8,a.objs.size],
#[Êc,decide_eq_true_eq],
#[Êf,OsState],
#[Êg,excMatches],
#[Êh,a.dict],
#[Êl,PySem.W.subIn],
#[Êm,join_plain_closes],
#[Ên,w.params],
#[Êx,lcp_nil'],
#[ÊA,T.b.n_int],
#[ÊB,boot_int],
#[ÊG,T.b.n_isinstance],
#[ÊH,boot_isinstance],
#[ÊI,T.b.n_list],
#[ÊJ,boot_list],
#[ÊL,aE.eqvAll],
#[ÊO,Win.both'],
#[ÊP,Win.congr],
#[ÊS,YD.one],
#[ÊV,R.at'.ob],
#[ÊY,M1.rows],
#[Ê1,hM.mem],
#[Ê5,Mg.stays],
#[Ê7,Qam.mp],
#[Ëb,T.b.n_str],
#[Ëc,boot_str],
#[Ëd,nm.filter],
#[Ëe,D.mg.M.each],
#[Ëf,o.fw.length],
#[Ëi,o.deed],
#[Ëj,G.trans],
#[Ëk,QaW.mpr],
#[Ëp,Z.free],
#[Ër,bindName],
#[Ës,List.length_cons],
#[Ët,List.size_toArray],
#[Ëu,aa.float],
#[Ëw,Paired.mapP],
#[Ëy,a.slots],
#[Ëz,I.ok.mod],
#[ËB,I.base.tups],
#[ËD,I.base.tbls],
#[ËG,N.Nodup],
#[ËH,I.ok.has],
#[ËL,swapsWith],
#[ËM,assignInOrder_nil],
#[ËN,unpackItems],
#[ËO,Flow.next],
#[ËV,PySem.W.lookIn],
#[ËY,PySem.W.plainGet],
#[ËZ,Nat.le_of_eq],
#[Ë1,A.depth],
#[Ë2,aD.under],
#[Ë3,Code.isFrame],
#[Ë4,r.append],
#[Ìc,subscriptTail],
#[Ìd,subscripted],
#[Ìf,typeIs_str],
#[Ìj,l.row.toRowW],
#[Ìl,hr.units],
#[Ìm,ForInStep.yield],
#[Ìn,N'.length],
#[Ìo,aV.cell],
#[Ìq,comprehension],
#[Ìr,newList],
#[Ìs,out.toList],
#[Ìt,sep.length],
#[Ìu,n.toNat],
#[Ìv,Src.at_obj],
#[Ìw,wpAny_callSpecial?_slot],
#[Ìy,c.typeIs],
#[Ìz,F.slot_tuple_iterator_next],
#[ÌC,F.slot_zip_next],
#[ÌE,S2.at_keep],
#[ÌF,N.extBut],
#[ÌG,t.extBut],
#[ÌH,S1.value],
#[ÌI,S2.value],
#[ÌO,DVs.mono],
#[ÌQ,KeyOrd.kle_trans],
#[ÌT,minRun'],
#[ÌV,vs.toArray.size],
#[ÌX,updateSeq],
#[ÌY,aI.size_update],
#[ÌZ,y.cps.toList],
#[Ì4,richCompare],
#[Ì5,b.toList],
#[Ì6,this.symm],
#[Ì9,o.isSome],
#[Íg,p.typeIs],
#[Íi,typeLookup_type],
#[Íj,builtinLookup_eq_fast],
#[Ík,ks.take],
#[Ím,DHs.mono],
#[Ír,a.toList],
#[Íu,storeInDict],
#[ÍA,occurrences],
#[ÍB,PySem.W.KeysLit],
#[ÍE,items.toList.take],
#[ÍF,items.toList.drop],
#[ÍZ,But.trans],
#[Í0,aE.strOk],
#[Îg,Win.sing],
#[Îh,Win.left],
#[Îi,Win.right],
#[Îm,r.at'.ks],
#[În,r.at'.fs],
#[Îp,Nat.pow_succ],
#[Îr,tN.symm],
#[Îs,M1.each],
#[Îy,T.na_Merge_next_number],
#[ÎC,Rd.mono],
#[ÎD,T.b.n_min],
#[ÎE,boot_min],
#[ÎH,Function.comp],
#[ÎO,a.natAbs],
#[ÎQ,strLen_append],
#[ÎU,nm.length],
#[ÎV,S.nm.map],
#[ÎW,S.P.length],
#[ÎZ,D.ok.nd],
#[Î2,D.ok.ndN],
#[Î4,o.fw.map],
#[Î6,p.length],
#[Î8,List.nil_append],
#[Ïd,I.D.at'],
#[Ïe,I.D.rows],
#[Ïh,AI.deed],
#[Ïj,pb.free],
#[Ïk,sb.free],
#[Ïo,Paired.length],
#[Ïp,ZG.append],
#[Ïw,List.mem_range.mpr],
#[Ïx,builtinsNs],
#[Ïy,env.cells.lookup],
#[Ïz,X.env.scope.kind],
#[ÏA,X.s₀.heap.get?],
#[ÏB,X.env.scope],
#[ÏC,I.ok.exfs],
#[ÏI,storeName],
#[ÏK,wpAny_Name],
#[ÏN,wpAny_execs_cons],
#[ÏO,inplaceOp],
#[ÏP,swapsWithSole],
#[ÏQ,swappedStores],
#[ÏT,IsTup.new],
#[ÏV,wpAny_pyNext_list_item],
#[ÏW,I.list_inj],
#[ÏX,wpAny_pyNext_list_end],
#[ÏZ,j.unpinned],
#[Ï4,behindInMarks],
#[Ï8,beq_iff_eq.mp],
#[Ï9,PySem.W.takerIn],
#[Ðc,wpAny_nsSet1],
#[Ðd,wpAny_lookBehind],
#[Ðe,pastItsLine_dict],
#[Ðf,PySem.W.hasDictIn],
#[Ðl,plainObj_wpAny_Assign_Attribute],
#[Ðn,Code.frames],
#[Ðo,Calls.spliced_nil],
#[Ðp,I.stkFree],
#[Ðs,PySem.W.callWith_K0],
#[Ðu,List.of_mem_zip],
#[Ðw,cellsFrom],
#[Ðz,a.heap.push],
#[ÐA,seqIndex_of],
#[ÐB,seqIndex_neg],
#[ÐC,its'.toArray],
#[ÐD,SeqAt.EqAt],
#[ÐE,List.all_cons],
#[ÐH,Calls.evalArgs_plain],
#[ÐN,c.heap.Ns],
#[ÐO,c.heap.get?],
#[ÐP,DictEntry],
#[ÐS,closureFor],
#[ÐU,X.env.cells],
#[ÐV,env.scope.kind],
#[ÐW,beq_self_eq_true],
#[ÐY,I.ok.glob],
#[Ð1,Walks.list],
#[Ð3,a.cps.size],
#[Ð4,Nat.succ_mul],
#[Ð5,h.IsStrIter],
#[Ð6,s.heap.IsTuple],
#[Ð7,aN.isFreed_of_fields],
#[Ð8,z.cps.all],
#[Ñb,wpAny_attempt],
#[Ñc,wpAny_updateSeq_pair],
#[Ñd,D.TOi2.symm],
#[Ñe,wpAny_newTuple],
#[Ñf,D.TOz.symm],
#[Ñg,D.i1z.symm],
#[Ñh,isInstance],
#[Ñi,Src.iter_at],
#[Ñj,Src.pyIter],
#[Ño,Inv.readsAll],
#[Ñt,aT.List.listItems],
#[Ñw,KeyOrd.kle_of_klt],
#[Ñx,KK_mirror_equal],
#[Ñz,wpS_modify],
#[ÑB,sortedAll],
#[ÑC,wpAny_newList],
#[ÑD,size_push'],
#[ÑI,List.zipIdx_cons],
#[ÑJ,Array.all_eq_true],
#[ÑK,PyProof.Rows.KeysOf],
#[ÑL,items.toList],
#[ÑN,get?_update_seq],
#[ÑO,s.heap.IsList],
#[ÑQ,codeAny_call_builtin_at],
#[ÑY,tupleKind],
#[ÑZ,I.base.there],
#[Ñ1,List.append_assoc],
#[Ñ7,h'.FunFrames],
#[Ñ8,setFlight],
#[Òe,bm.contains],
#[Òf,wpAny_madeBy_exc],
#[Òg,a.contains],
#[Òj,wpAny_onRaise],
#[Òn,i.heap.get?],
#[Òo,PySem.W.kitCls],
#[Òs,partsBetween],
#[Òt,F.slot_str_split],
#[Òv,F.entry_str_split],
#[Òx,a.cps.toList],
#[ÒI,Nat.succ_le_succ],
#[ÒK,Int.emod_nonneg],
#[ÒL,List.length],
#[ÒN,Bool.eq_false_iff.mpr],
#[ÒP,T.b.n_tuple],
#[ÒQ,boot_tuple],
#[ÒS,T.b.n_zip],
#[ÒX,T.b.n_enumerate],
#[Ò5,T.na_Row_fars],
#[Óf,T.na_Merge_likened],
#[Ón,T.b.n_sum],
#[Ós,Nat.sub_self],
#[Óu,T.b.n_max],
#[Óx,ts.length],
#[ÓC,PySem.F.type_dict_pop],
#[ÓD,Re.at'.ob],
#[ÓH,a.natAbs.log2],
#[ÓJ,List.pairwise_cons.mp],
#[ÓK,ss.Pairwise],
#[ÓR,X.L.length],
#[ÓU,List.filter],
#[Ôk,List.length_map],
#[Ôl,List.mem_cons_of_mem],
#[Ôm,Bool.and_eq_true],
#[Ôn,Array.length_toList],
#[Ôp,wpAny_eqBool_int],
#[Ôq,SeqAt.EqAt.int_str],
#[Ôr,SeqAt.EqAt.str_int],
#[Ôs,wpAny_eqBool_str],
#[Ôt,PySem.W.methodObj],
#[Ôw,X.s₀.heap.FunFrames],
#[Ôx,aI.get?_none_of_le],
#[Ôy,Array.append_assoc],
#[ÔD,wpAny_loadName_local],
#[ÔE,wpAny_loadName_cell],
#[ÔF,Calls.Name_function_global],
#[ÔM,wpAny_assign_Name],
#[ÔO,unpackItems_tuple],
#[ÔT,wpAny_pyIter_tuple],
#[Ô5,PySem.W.handedIn],
#[Ô6,PySem.W.plainGet_of],
#[Ô7,PySem.W.bind_fn],
#[Ô8,PySem.W.plainOver],
#[Õa,aI.Ns1.of_empty],
#[Õd,PySem.W.kitx_none],
#[Õe,PySem.W.kitx_bool],
#[Õf,PySem.W.kitx_int],
#[Õg,PySem.W.kitx_str],
#[Õh,PySem.W.kitx_float],
#[Õj,PySem.W.kitx_tuple],
#[Õl,PySem.W.kitx_own],
#[Õq,PySem.W.makesIn],
#[Õt,sc.names.lookup],
#[Õu,PySem.W.cellsFrom_some],
#[Õv,List.getElem?_replicate],
#[Õy,PyProof.Rows.callWith_builtin1],
#[ÕB,subscriptTail_builtinR],
#[ÕC,slot_list_getitem.lookup],
#[ÕF,SeqAt.EqAt.int_int],
#[ÕG,SeqAt.EqAt.str_str],
#[ÕM,PySem.evalArgs_none],
#[ÕN,Nat.le_of_not_lt],
#[ÕP,List.forIn_cons],
#[ÕW,theTreesLotGoes],
#[Õ2,wpAny_newFunctionEnv],
#[Öh,List.mem_iff_getElem.mp],
#[Öi,List.mem_range.mp],
#[Ök,Int.mul_le_mul_of_nonneg_left],
#[Öp,F.entry_tuple_iterator_next],
#[Ör,aI.SameBut.update],
#[Ös,aN.cls_mapFields],
#[Öy,F.entry_zip_next],
#[Öz,F.args_zip_next_1],
#[ÖA,aT.SmallTypes.ownedTupleHandOut],
#[ÖC,wpAny_isInstance],
#[ÖF,wpAny_pyIter_zip],
#[ÖH,wpAny_pyIter_enum],
#[ÖL,wpAny_Dict_empty],
#[ÖX,entry_list_sort],
#[ÖY,Array.toList_inj.mp],
#[Ö0,PyProof.Rows.lt_int],
#[Ö2,PyProof.Rows.lt_str],
#[Ö3,wpAny_forIn_list],
#[Ö5,Array.toList_map],
#[Ö6,wpAny_loadPart'],
#[Øa,List.filter_cons],
#[Øb,Option.isSome_map],
#[Øc,wpAny_getItem_of],
#[Øh,wpAny_Call_method],
#[Øi,PySem.F.type_dict_get],
#[Øk,List.mem_map.mpr],
#[Øp,PySem.F.slot_dict_values],
#[Øq,PySem.F.slot_dict_items],
#[Ør,wpAny_dictSet_pairs],
#[Øs,getAttr?_keys_list],
#[Øt,getattributeRaised],
#[Øx,aT.Dict.pairItems],
#[Øy,aT.Dict.updateFrom],
#[Øz,List.getElem?_cons_zero],
#[ØA,wpAny_specialOf],
#[ØB,PySem.F.slot_dict_getitem.lookup],
#[ØE,EntryCells.newEntry],
#[ØU,aI.get?_push_at],
#[ØV,codeAny_call_builtin],
#[ØX,PySem.wpAt_bind],
#[ØY,PySem.wpAt_of_wpAny],
#[ØZ,codeAny_call_builtin_code],
#[Ø7,wpAny_check_type_call_sub],
#[Ø9,FormattedValue_plain],
#[Ùb,PySem.W.readsIn],
#[Ùc,PySem.W.findCls],
#[Ùm,ne_true_of_eq_false],
#[Ùo,PySem.W.mapOf_K],
#[Ùr,wpAny_Try_except],
#[Ùz,PySem.W.takesIn],
#[ÙB,z.cps.toList.length],
#[ÙQ,List.replicate_succ'],
#[ÙZ,List.range_succ],
#[Ù6,List.cons_lt_cons_iff],
#[Ù8,List.take_append_drop],
#[Úa,List.find?_cons_of_pos],
#[Úh,T.na_Merge_looked],
#[Úp,Nat.min_eq_left],
#[Úy,Option.bind_some],
#[ÚC,List.mem_reverse.mp],
#[ÚJ,List.getElem?_range],
#[ÚR,List.pairwise_append.mpr],
#[ÚW,PySem.ofString_length],
#[ÚX,T.xb_MergeError],
#[Ú0,List.pairwise_cons],
#[Ú8,Nat.not_lt_zero],
#[Ûc,List.map_singleton],
#[Ûh,List.lookup_cons_self],
#[Ûj,T.t_OutOfOrder_init.cls],
#[Ûm,List.find?_eq_none.mp],
#[Ûy,z.cps.toList.all],
#[ÛA,List.getElem?_take],
#[ÛI,List.length_zip],
#[Üb,List.map_eq_nil_iff.mp],
#[Üf,aT.SmallTypes.ownedTupleIsFree],
#[Üg,codeAny_builtin],
#[Üh,I.mod.glob.keeps],
#[Üi,Code.quiet_builtin],
#[Ν,(rfl,rfl,by ac_rfl,by ac_rfl,by ac_rfl,by decide,by ac_rfl,by ac_rfl)],
#[Ü,(rfl,rfl,rfl,by ac_rfl,rfl,by ac_rfl,by ac_rfl)],
#[1,a_,(λ_ _ _ _ _ _ us hl=>by obtain _|h:=a_ us hl;subst h;exact rfl)],
#[2,a_,(λ_ _ _ _ _ _ us hl=>by obtain _|_|h:=a_ us hl;subst h;exact rfl)],
#[3,a_,(λ_ _ _ _ _ _ us hl=>by obtain _|_|_|h:=a_ us hl;subst h;exact rfl)],
#[û,(by ac_rfl)],
#[Á,(by lia)],
#[á,(Or.inl rfl)],
#[Ö,(by simp)],
#[É,(by rfl)],
#[Ë,(by decide)],
#[Ä,PySem.W.Frag],
#[Ė,(.inl rfl)],
#[9,x_,PySem.wpAny (PySem.model (x_).prog (x_).w) (x_).A],
#[Xns,a_,b_,c_,Ņ a_ mainGlobals b_=some (some (.ref c_))],
#[Xfi,a_,b_,c_,d_,ī a_ (.ref b_) c_=some (some (.ref d_))],
#[Xlk,z_,a_,b_,c_,d_,e_,f_,g_,h_,i_,j_,k_,l_,m_,(z_).lookup a_=some (b_,c_,.func (ÅA d_ e_ (WD f_) (XY f_) (Zh f_) .none g_ h_ i_ j_ k_ l_),m_)],
#[Xci,a_,b_,c_,Él a_ b_ c_=true],
#[Xki,a_,b_,À9 a_ (.ref b_)=true],
#[Xif,a_,b_,År a_ (.ref b_)=true],
#[Zf,a_,b_,@Zf _ _ _ _ _ a_ b_],
#[Zx,a_,b_,c_,d_,@Zx _ _ a_ _ _ _ _ b_ rfl c_ d_ (by rfl) (by trivial)],
#[ZR,a_,b_,c_,@ZR _ _ _ _ _ _ _ _ a_ b_ c_],
#[Þ,@Zj _ _ _ _],
#[Zg,a_,@Zg _ _ _ a_],
#[Zm,a_,@Zm _ _ _ _ a_],
#[Z0,a_,b_,c_,@Z0 _ _ _ _ _ _ _ _ a_ b_ c_],
#[Zn,a_,b_,c_,d_,@Zn _ _ _ _ _ _ _ _ a_ b_ c_ d_],
#[Zp,a_,b_,c_,d_,e_,@Zp _ _ _ _ _ _ _ _ _ a_ b_ c_ d_ e_ (by decide) (by decide) (by rfl) (by rfl)],
#[Za,a_,b_,@Za _ _ _ _ _ a_ b_ (by rfl)],
#[ÈC,@Zd _],
#[Zd,a0_,#[Za,a0_,ÈC]],
#[Zd,a0_,a1_,#[Za,a0_,#[Za,a1_,ÈC]]],
#[Zd,a0_,a1_,a2_,#[Za,a0_,#[Za,a1_,#[Za,a2_,ÈC]]]],
#[Zd,a0_,a1_,a2_,a3_,#[Za,a0_,#[Za,a1_,#[Za,a2_,#[Za,a3_,ÈC]]]]],
#[Zd,a0_,a1_,a2_,a3_,a4_,#[Za,a0_,#[Za,a1_,#[Za,a2_,#[Za,a3_,#[Za,a4_,ÈC]]]]]],
#[ZC,a_,b_,c_,@ZC _ _ _ _ _ _ _ a_ b_ c_ (λ_ _=>rfl)],
#[ZT,a_,@ZT _ _ _ _ a_],
#[W9,a_,b_,c_,d_,@W9 _ _ _ _ _ _ _ _ _ a_ (by rfl) b_ c_ d_ (by decide) (by decide) (by rfl) (by rfl)],
#[X1,a_,b_,c_,d_,@X1 _ _ _ _ _ _ _ _ a_ b_ c_ d_],
#[YB,a_,b_,@YB _ _ _ _ _ _ a_ b_ (by rfl) (by rfl) (by rfl)],
#[Xo,a_,b_,c_,@Xo _ _ _ _ _ _ _ a_ b_ c_ (by intro _;rfl)],
#[ZN,a_,b_,c_,@ZN _ _ _ _ _ _ _ _ a_ b_ c_],
#[ò,@Zy _],
#[ZA,a_,b_,c_,d_,@ZA _ _ _ _ _ _ _ _ _ _ _ a_ b_ c_ (by trivial) d_ (by decide) (by rfl) (by rfl)],
#[Ý,@Zk _ _ _ _],
#[XS,a_,b_,c_,d_,e_,@XS _ _ _ _ _ _ _ _ _ _ _ _ _ _ a_ rfl rfl rfl b_ c_ d_ e_ (by intro _;rfl)],
#[VN,a_,b_,@VN _ _ _ _ _ _ rfl a_ b_ (by rfl)],
#[pv,a_,b_,@pv _ a_ _ _ (by rfl) b_ (by decide) (by decide)],
#[cg,a_,b_,@cg _ _ _ _ _ _ _ _ _ _ _ a_ b_ rfl (by ac_rfl) (by rfl)],
#[cv,a_,b_,@cv _ _ _ _ _ _ _ _ _ _ _ a_ b_ rfl (by ac_rfl) (by rfl) (by decide) (by decide)],
#[YQ,a_,b_,c_,d_,e_,f_,@YQ _ _ _ _ _ _ _ _ _ _ _ _ a_ b_ c_ d_ e_ f_ (by rfl) (by rfl) (by rfl) (by rfl) (by rfl)],
#[Xc,a_,b_,@Xc _ _ _ _ _ _ _ a_ b_],
#[W4,a_,@W4 _ _ _ _ a_],
#[Xd,a_,@Xd _ _ _ a_ (by intro _;rfl)],
#[YG,a_,@YG _ _ _ _ _ a_],
#[XI,a_,b_,@XI _ _ _ _ a_ b_ (by rfl) (by decide) (by decide)],
#[WR,a_,b_,@WR _ _ _ _ _ _ _ a_ b_],
#[WS,a_,@WS _ _ _ _ a_],
#[iZ,a_,b_,c_,@iZ _ a_ _ _ _ _ _ _ _ _ b_ c_ (by rfl) (by rfl) (by rfl) (by rfl)],
#[gT,a_,b_,c_,@gT _ a_ _ _ _ b_ _ c_ (by rfl) (by rfl) (by rfl) (by rfl)],
#[Zo,a_,b_,@Zo _ _ _ _ _ a_ b_ (by rfl)],
#[Èt,@ZZ _],
#[cw,a_,b_,@cw _ _ _ _ _ _ _ _ _ _ _ a_ b_ rfl (by ac_rfl) (by rfl) (by decide) (by decide)],
#[ř,@ZU _ _ _],
#[XT,a_,b_,c_,d_,@XT _ _ _ _ _ _ _ _ a_ rfl b_ c_ d_ (by intro _;rfl)],
#[Zu,a_,b_,c_,@Zu _ _ a_ _ b_ rfl c_ (by trivial)],
#[ZI,a_,@ZI _ _ _ _ a_ (by rfl)],
#[iE,a_,b_,c_,@iE _ a_ _ _ _ _ _ _ _ b_ c_ (by rfl) (by rfl) (by rfl)],
#[Wo,a_,b_,c_,d_,@Wo _ _ _ _ _ _ _ _ _ _ a_ b_ c_ d_],
#[ZH,a_,@ZH _ _ _ _ _ a_ (by rfl)],
#[Yi,a_,b_,c_,d_,@Yi _ _ _ _ _ _ _ _ _ _ _ _ a_ b_ c_ d_ (by trivial) (by rfl)],
#[X0,a_,b_,@X0 _ _ _ _ _ _ _ _ a_ b_ (by rfl)],
#[Ê8,@XD _ _],
#[VJ,a_,b_,c_,@VJ _ _ _ _ _ _ _ _ _ _ a_ b_ c_],
#[XF,a_,b_,c_,d_,e_,@XF _ _ _ _ _ _ _ _ _ _ _ _ _ _ _ a_ b_ c_ d_ e_ (by trivial) (by rfl) (by rfl) (by rfl)],
#[Uo,a_,b_,c_,@Uo _ _ _ _ _ _ _ _ _ _ _ _ a_ b_ c_ (by trivial) (by rfl) (by decide) (by rfl) (by rfl)],
#[iL,a_,b_,@iL _ a_ _ _ _ b_ (by rfl)],
#[V9,a_,@V9 _ _ _ _ a_ (by rfl) (by decide)],
#[V8,a_,@V8 _ _ _ _ _ _ a_],
#[Ye,a_,b_,@Ye _ _ _ _ _ a_ b_],
#[UW,a_,b_,c_,d_,e_,f_,@UW _ _ _ _ _ _ _ _ _ _ _ _ _ _ _ _ a_ b_ c_ d_ e_ f_ (by trivial) (by rfl) (by rfl) (by rfl)],
#[SU,a_,b_,c_,d_,@SU _ _ _ _ _ _ _ _ _ _ _ _ a_ b_ c_ d_ (by trivial) (by rfl) (by decide) (by rfl) (by rfl)],
#[UY,a_,@UY _ _ _ _ a_ (by rfl) (by decide)],
#[WL,a_,b_,@WL a_ _ _ _ _ _ b_ (by rfl) (by rfl)],
#[Td,a_,b_,c_,d_,e_,f_,g_,@Td _ _ _ _ _ a_ _ _ _ _ _ _ _ _ _ _ _ _ b_ rfl (Or.inl rfl) c_ rfl rfl rfl d_ e_ f_ g_ (by rfl) (by intro _;rfl) (by trivial)],
#[Ù,ZM K mg aw am aB ap aJ aA ao au],
#[Ç9,(Zv "likened" (.int 0) (Zv "next_number" (.int (Ų:Int)) (Zv "rows" (.ref c) [])))],
#[h,((Àl (seqObj "list" #[] 0)).update Î (Åv λx=>x++Áb))],
#[Ī,(x == ("__debug__" : ak))=false],
#[θ,aG (e::es) Ì=(false,ā e Ì,)::aG es Ì],
#[ä,Inv X ai σ H s],
#[Ô,(ax ñ w)],
#[ÅV,ß C=U (Àw nm q C N bs (.ref B::Yv) cC sn sub ab bT dd k0 k1 k2 k3 k5 "ValueError.__new__")],
#[Ôj,(λaP f A Û s H vs Q E hr h=>?_)],
#[Α,["desk", "singles", "further"]],
#[Än,(Y6 ÐU ÂG [])],
#[À0,Xq _ _ _ _ _ _ û û û û û û],
#[ÃE,["_law_left_here", "_law_stems_here", "_law_most"]],
#[ÀI,(lcp (cds x) (cds y):Nat)],
#[ÂY,(by nofun)],
#[Âh,#[.ref T,.none,.none,.none,.bool false,.none]],
#[š,(Î+1)],
#[y,by refine(λi m ys a H=>m=ø-i/\i<=ø/\Pv i ys a H,(ø,by simp,Qs _,h0),?_);rintro i m ys a H ⟨rfl,hi,p⟩;have q:=hl i ys a H p],
#[ð,aa->aj->Prop],
#[ËK,(ok.mod,ok.kind,ok.glob,ok.blt,ok.above,ok.inj,ok.has,ok.cab,ok.hd,ok.frames,ok.stk,ok.exf,ok.bs,ok.bsz,ok.noex,ok.exfs,ok.funs,ok.frf)],
#[B,by rintro i zs k a C F r L R ⟨⟨I,J,rfl⟩,rfl,d,l,S⟩ hr;have W:i<ã:=(Ł L).1;have X:D≠r:=Ze l hr;have M:ZD H (upd a r (.tup [C,F])):=ÆH (Zi hr _);refine(r,_,rfl,ö Zb,rfl,_,_,rfl,_,_,rfl,rfl,_,rfl,_,rfl,C,F,rfl,(hi i C F L R).mono M,λY N=>?_);have Z:Y D=U (.lst (ÁA i (.bl true))):=N _ _ (by rw[Zc X];exact l);refine(Z,(by rw[QaP];exact Zs Á),(_,_,rfl),?_,?_,Zb,W)],
#[Ŵ,(by show 0<=aq;decide)],
#[ġ,#[ZH,‹0›]],
#[Áz,(bn pos (aG es Ì)).any (·.1)=false],
#[F,by subst m hw n;obtain q|t|Q|x|y|A:=j it Ö;obtain B|C:=p;obtain D|a|F:=I.dictF B hd;have l:ø=D.length:=ļ],
#[Àn,(λz=>nomatch z)],
#[ÉS,(YF X c N' C s H fp)],
#[Å1,Df P w K mg Â 2 "_law_pick" ["_law_left_here", "_law_many"] V4],
#[ÿ,(_,rfl)],
#[Ø,À Int],
#[þ,ak->Ã aa],
#[Óm,(upd (upd (upd Z B (.dT [])) m (.ins am g (Zv "stays" (.ref B) (Zv "looked" (.int 0) Ç9)))) m (.ins am g (Zv "best" .non (Zv "stays" (.ref B) (Zv "looked" (.int 0) Ç9)))))],
#[Ĝ,(ax ù X.w)],
#[ć,À (ae×aN)],
#[P,(((Äk a (Åv λ_=>#[])).push { cls:=.type "tuple",Ó:=.seq vs.toArray.toList.toArray }).push { cls:=.type "list",Ó:=.seq ([]:À aa).toArray })],
#[Q,by subst e;obtain o|e|c|d:=st;exact(o,e,λv z=>by rw[d]at z;cases z)],
#[ÀH,(.type "BaseException")],
#[ÀE,(.ref Á7)],
#[Áa,(by with_unfolding_all rfl)],
#[Ãn,∀vs H Q E,sp vs H Q E->Ů=ÀD],
#[Đ,(ď st)],
#[À4,(_,_,rfl,rfl)],
#[υ,(by show 3<=aq;decide)],
#[Ñ,À ak],
#[ĳ,(rfl,rfl)],
#[Äa,YY ù X.w X.K Ě Ő CX k f fd ps sp],
#[ç,(.ref C)],
#[ÁN,(.lst [])],
#[È9,(U (.builtin "object.__setattr__"))],
#[14,by have L:Inv X A B H { s with Õ:=f,ï:=Ļ+1 }:=ÀT (t':=Ļ+1) (λb o a e=>(J.2 b a).trans e) n p q u x;obtain o|e|c|d:=id D;exact(_,rfl,VO (s:={ s with Õ:=f,ï:=Ļ+1 }) e c d Ë (.str ⟨#[Á9[i]]⟩,H,L,ÿ,(rfl,_,C,rfl),D,λb a=>(g b a).1))],
#[Ξ,(λ_ _ _ _=>(@XX _))],
#[ξ,(Åy ì)],
#[17,by have e1:=Qv (wa.one B);have e2:=Qv (wb.one u);subst e1;subst e2;have e3:=Qv (rC.symm.trans G);have e4:=Qv (rD.symm.trans D);subst e3;subst e4],
#[ÏD,∀b∈ch,(b∈X.ex\/ū<=b)/\b≠İ/\(∀x c,γ x=U c->c≠b)/\∀p∈X.pn++ai,p.1≠b],
#[ÇE,(.builtin "object.__class__")],
#[Ç4,(mgF rd nb li lo sd aH)],
#[ÅZ,["_law_word", "_law_parts", "_law_keys_here"]],
#[ÇR,(upd H c (.tup (["list", "tuple"].map V.ty)))],
#[Èz,(upd I l (.lst (Âl Å++[Å (thT Ú z)])))],
#[Âj,(by intro z;cases z)],
#[Áf,(.frz o (.dK kvs))],
#[26,(mgF rd nb li lo sd a)],
#[Áj,#[Zd,‹1›]],
#[Ád,(ss.map Å)],
#[ÎP,∀ {x y:ak} {n m:Nat},ċ<=n->ſ<=m->n+m<=10000->(x++y).length<=n+m],
#[Îf,(upd (upd H k (.lst (Âd Å))) p (.ins aw c (Zv "all_keys" (.ref k) [])))],
#[À1,(.lst (ť Å))],
#[Μ,(".0",.«local»,)],
#[ÆK,X.fn x=true\/Ãr x=U .local],
#[Üy,(show false=true from c)],
#[ÅT,((env::Û).filterMap (·.frame))],
#[ÄT,ZO cR cM H m rd sd L s nb li lo aH],
#[Äf,(.Call (.Name x p) (e::es) [] pos)],
#[Ç7,Mf P w K mg Â 2 aw "head" ["self"] (Vm aw)],
#[ÄL,["desk", "singles", "keys"]],
#[Ïg,[.str "row",.str "row",.str "row",.str "grow",.str "grow",.str "drop"]],
#[ÇP,#[Zp,(Yj K),É,ÁP,Qy,#[Zd,‹0›]]],
#[ν,Ā (Ã aa)],
#[43,by rintro i c d _ _ ⟨rfl,rfl⟩;show wpS _ _ _ _ (get >>= _) _ _;refine Ō (ÉX ?_);show wpS _ _ _ _ (if (Áe d).size<=1 then _ else _) _ _;rw[Æ r];exact ţ (ţ (q _ g j k))],
#[ÄH,(.builtin "ValueError.__init__")],
#[τ,(h,g,d,t,os)],
#[Æ2,(.Call (.Attribute o m bu) (e::es) [] pos)],
#[Œ,À (Key×V)],
#[48,by have G:ZD H ÇR:=Zi u _;refine Tb (K:=K) (xs:=xs) (ys:=ys) (λi zs k a=>(X2 λI J=>k=[U (.ref p),U (.ref m),I,J])/\zs=ÁA i (.bl true)/\ZD H a/\a D=U (.lst zs)/\i<=ã) ?_ ?_ ?_ ?_],
#[Üc,(if (if n<(((Â7 ì).length:Nat):Int) then n else (((Â7 ì).length:Nat):Int))>9 then (if n<(((Â7 ì).length:Nat):Int) then n else (((Â7 ì).length:Nat):Int)) else 9)],
#[ÄI,["one", "other", "far"]],
#[Î5,(Án Àf)],
#[Â0,((lcp (cds i) z:Nat):Int)],
#[ÇQ,#[Zp,WE,É,ÁP,Qy,#[Zd,‹0›]]],
#[54,by simp only[Áp,ÂK,ÂL]at d],
#[ŷ,À (ak×Int)],
#[Èr,(_,_,c,by assumption,by assumption)],
#[Á1,(by show 2<=aq;decide)],
#[Èx,(.frz o (.dK (kvA R)))],
#[ÖJ,(λi m b H=>m=ã-i/\i<=ã/\Pv i b H,(ã,by simp,Qs _,h0),?_)],
#[Ám,DOk cR cM H X nd nm],
#[É7,(upd B Á7 (.dK []))],
#[Ŝ,(ZW I q Ö)],
#[Ùh,(U (.builtin "BaseException.__getattribute__"))],
#[ÒA,["row", "first", "others", "single_kinds", "further_kind", "many", "singles", "further"]],
#[65,by obtain _|q1|q2|q3|q4|_:=f3 b k;have z1:=I4.ok.exf b (by rw[<- w];exact k);refine(hn b k,z1.1,I4.ok.exfs b (by rw[<- w];exact k),.inl (by rw[<- w];exact k),z1.2,λp hp=>?_)],
#[Õn,(.builtin "type.__call__" (.ref C::us,kw))],
#[67,by refine ah ?_;simp only[ÑI,List.zipIdx_nil,ÕP,List.forIn_nil];refine ah (ah (Òj ?_));show ar _ _ (Çl (.ref i1) >>= _) _ _ _],
#[Ît,Df P w K mg Â 5 "refuse_break" ["number", "keys"] (TR K)],
#[Îx,(Zv "rows" (.ref c) [])],
#[č,(.ref f)],
#[Ä8,AL H1 H d rd rl dl R c rs ds],
#[Ãu,ÑK κ aX],
#[73,by simp only[ÎH]],
#[74,by show ar _ _ (Üf (.ref z) >>= _) _ _ _;unfold Üf;refine ah (ah (bg hz rfl (x:=.none) rfl (av ?_)));simp only[Çc]],
#[ÍU,["_law_desk", "_law_word", "_law_name", "_law_keys_here"]],
#[Èe,((lcp (cds i) (cds l):Nat):Int)],
#[Ãi,(_,Qt _ rfl,rfl,rfl)],
#[78,(Àl { cls:=.type "range",Ó:=.fields #[.int lo t,.int a u,.int 1 v] })],
#[79,by refine .inr ((xs,xs[i],q,by simp[l]),Pv (i+1),λh c r=>(ã-(i+1),by lia,rfl,l,r),λx c y=>?_);obtain e|y:=y;subst e;exact n i x b _ (y xs q) p],
#[Âi,(.type "ValueError")],
#[81,by show ar _ _ (if (à t == Ài)=true then _ else _) _ _ s;rw[Ç (show ¬ ((à t == Ài)=true) from Qu)];show ar _ _ (field (.ref it) 1 >>= _) _ _ s],
#[ÊZ,(((kvM L).length:Nat):Int)],
#[83,(bL c Än Î Ì)],
#[Ê4,[.inl (ZV M).1,.inl (ZV M).2]],
#[Îu,Mf P w K mg Â 13 am "play_all" ["self"] (TH aw am)],
#[86,(ÍF 1)],
#[ÓP,(_,rfl,rfl,_,rfl,Y0 (λd=>È (Ľ d) û) (λ_=>?_))],
#[Ä7,R.Pairwise λa b=>a.n<b.n],
#[Èm,(Ëd λe=>decide (e.1≠s))],
#[Êw,["_law_desk", "_law_word", "_law_many"]],
#[ÂP,Äu],
#[Àp,PA X (e::es) t],
#[Íf,(ÆV (Äj c (Zh st) Î f a))],
#[94,by rw[show Zv f v ((k,x,)::r)=(if k=f then (k,v,)::r else (k,x,)::Zv f v r) from rfl]],
#[ÂW,["one", "other"]],
#[ÇS,["list", "tuple"]],
#[ŕ,X.calm=true],
#[ÌU,(setPending b ((Áe b).push (0,ľ,0,)))],
#[Â6,#[ZT,ÈC]],
#[Å9,#[ZC,(ixL K),‹1›,Þ]],
#[Å0,#[ZC,(ixL K),‹0›,Þ]],
#[ad,by subst o;refine Ō ?_;rw[moveDown'_eq];refine Ñz (ţ ?_);exact(rfl,b.set (bubble_perm _ _ _),Ls (by rw[b.size];lia) m d f g)],
#[ae,by have f1:=tc_lookup;have f2:=tc_bind ç;have hT:(τ:aj).TypeIs ç "type":=(_,a,rfl);refine Äe (codeAny_of_tree ?_);show ar _ _ (callAny ç _) _ _ _],
#[Úq,(upd (upd (upd t m (.ins am g (Zv "next_number" (.int (Ų:Int)) Îx))) m (.ins am g Ç9)) m (.ins am g (Zv "looked" (.int 0) Ç9)))],
#[ÃD,(ĺ+1)],
#[ÍK,["_law_left_here", "_law_stems_here"]],
#[ÃH,Ã (ae×Int×Int)],
#[aj,by rw[<- l]at G;have W:Inv X L M H { s with Õ:=g }:=ÀT (t':=Ļ) (λb o f e=>(T.2 b f).trans e) q t x y A;obtain o1|Y|Z|d1:=id G],
#[ak,by rintro zs k a ⟨_,rfl,d,l,_⟩;refine(D,ÁA (min ã Ĭ) true,rfl,Ï (by rw[List.map_replicate];exact l),?_)],
#[ÉE,(upd G Á7 ÁN)],
#[Ú1,#[Zg,#[ZN,(@Ź _ _ _ #[WR,#[Zn,Rz,‹1›,Ý,(Zr _)],#[WS,#[Zn,Ly,‹1›,Ý,(Zr _)]]]),#[Zg,#[Zm,(@UE _ _ _ _)]],ò]]],
#[æ,À aa],
#[ÓE,(upd (upd H c (.lst ((i++ks).map Å))) p (.ins aw d (YV c f g)))],
#[Ùn,(Òs z (ÍA z y 0 ŗ (ŗ+1)) ſ)],
#[ÊD,#[Zp,(Yj K),É,ÁP,Qy,Áj]],
#[Îe,Mf P w K mg Â 1 aw "to_go" ["self"] (TU aw)],
#[Üo,(Çp { cls:=.type "dict",Ó:=.dict #[] })],
#[Úf,(.tup [.int (ZQ (cds x) (cds y)),.int ÀI,.int (ÀI-(u:Int)+1)])],
#[ÕV,∀ {j:Type} {t:Sem j} {Q:j->aj->Prop} {s:aj},ar Ô A t Q E s->ar Ô A t Q (notedBy Ô A env λe s'=>R (.error e) s') s ],
#[Ðj,ËL Àm (U (.Attribute o f cZ)) ÆN Ì=pure false],
#[ay,by show ar _ _ (Áu [.ref #[h].objs.size] (Ĵ (.builtin "list.sort") [.ref #[h].objs.size]) >>= λ_=>ret (.ref #[h].objs.size)) _ _ _],
#[ÍW,["_law_desk", "_law_rows", "_law_heads_here"]],
#[Às,ÏB=o],
#[Ġ,Ã ae],
#[Âf,(ZK ù X.w)],
#[ÃM,(YC X.L e.n ks k' a)],
#[Ãm,(ÆG (Qg _))],
#[Ê0,(.lst ((ZB L).map ì))],
#[Âr,(.inr (.inl z))],
#[Èw,#[Zn,YT,‹1›,Ý,(Zr _)]],
#[aI,by exact .inl ((q,by lia),hd ys a H (e ▸ p))],
#[Üx,(Æt n++Æu n)],
#[Íq,∀ys a H,Pv ø ys a H->Q (.ref D) H],
#[aL,by show wpS _ _ _ _ (forIn [:(Đ).size] (af,(),) _ >>= _) _ _;refine Ō ?_;refine Çt (λi c d=>c=(af,(),)/\d=a) ?_ ?_ ĳ],
#[Ă,(.ref l)],
#[ÎL,#[Zp,(Yj K),É,ÁP,Qy,#[Zd,‹2›]]],
#[aO,by show ar _ _ (field (.ref z) 2 >>= _) _ _ _;refine ah (bg hz rfl (x:=.bool false) rfl ?_);show ar _ _ (field (.ref z) 3 >>= _) _ _ _],
#[aP,by rintro r s6 ⟨u,hr,h6⟩;subst hr;refine thn h6 ?_;rintro _ s7 ⟨x,H7,I7,r7,y7,qP,AC⟩;have AD:=I7.pinned (im AC) (T.obj _ _ qP)],
#[Æ5,(backToKw pos (cr [] Ì))],
#[aR,by intro ai s σ H xs us Q I r h],
#[Ûx,(rfl,rfl,rfl,λi k c v b=>(by have b:([]:À ak)[i]? = U k:=b;rw[List.getElem?_nil]at b;cases b),.inl ĳ,Qs _)],
#[Ãv,(by lia,by lia)],
#[ÙF,(_,rfl,_,_,rfl,rfl,.inr (J2 _),_,rfl,_,rfl,_,_,rfl,rfl,.inl (by decide,by decide),_,_,rfl,rfl,υ,λp b=>?_)],
#[ÃG,Ľ d],
#[ÁJ,["_law_desk"]],
#[ÃL,(λ_ _ h=>h.unwish)],
#[Üp,(Äk T (ÅS (·.setIfInBounds 3 Ài)))],
#[Æl,(YU X.L e.n)],
#[ĭ,(.ref ao)],
#[a1,by intro g s i H R I h;refine thn (hl g s i H _ I h) ?_;rintro v c ⟨x,j,d,k,m⟩;obtain a|e|(xs|n)|q:=m;subst e;cases k],
#[a2,by have V:Inv X G J H { s with Õ:=g }:=ÀT (t':=Ļ) (λb o f e=>(T.2 b f).trans e) y A B C D;obtain o|e|c|d:=id L],
#[Ű,⟨#[c]⟩],
#[ÆR,∀x,cb Ĳ Ì x=pure x],
#[Áx,È Üy Qu],
#[ÂX,["self", "keys"]],
#[ÄZ,(e.n,(Ò,e.g,),)],
#[Öc,∀ {qQ:St} {V:Hp} {s9:aj},Inv Y ([]++Vd fp s7.heap) qQ V s9->Inv Y [] qQ V s9/\tn (i+1) s9.heap/\∀b∈fp,V b=af],
#[a9,by refine(_,rfl,rfl,_,rfl,YR Àn ?_)],
#[Æv,(by show 2<=100;decide)],
#[Åo,(.ref Î)],
#[Ķ,(.ref au)],
#[Êe,((X.pn++ai).map (·.1))],
#[Ëq,((Î5).map Å++[Å Àg])],
#[Û5,(Qs _,λe h=>(by cases h),QaX _,QaX _,λe h=>(by cases h),λe h=>(by cases h),λe h=>(by cases h),.nil,.nil)],
#[bg,by subst j hw l;obtain n|p|G|q|u|x:=g it Ö],
#[bh,by refine wpAny_comprehension_free (use:=use) rfl hs qM Æ7 S.loc (thn (hi Z s σ H _ I h) λv s1 h1=>thn h1 λxF f h2=>?_)],
#[ØW,(i.update e λo=>{ o with ο:=U ÃC }).get? e=U { cls:=.ref C,ο:=U ÃC,Ó:=.fields Âh }],
#[ÏY,aG [a,b] Ì=[(false,ā a Ì,),(false,ā b Ì,)]],
#[î,À AR],
#[ÎR,∀ {x:ak},ċ<=10000->ċ<=aq],
#[ÇI,["_law_found", "_law_due"]],
#[ÂV,(YW (YS ZJ))],
#[Ñl,∀ {b:ae} {o:aN},é b=U o->Î≠b],
#[ÍQ,["self", "one", "other", "far"]],
#[ÁI,["self", "n"]],
#[ÃK,(hdM (ÀK L e.n))],
#[ÇW,(Ĉ z)],
#[ÅK,(by show 0<=_;lia)],
#[Ŀ,(.ref aJ)],
#[ŀ,(.ref aA)],
#[ÀS,(.Name x pos)],
#[ØG,∀h',Xu B ÅT h'->Ñ7 Â (env::Û)->Yr NB h' e cls dd (Ŭ L)->Q () { s with Õ:=h' }],
#[Êp,["one", "other", "at"]],
#[ÒE,["_law_left_here", "_law_rows", "_law_due", "_law_desk"]],
#[ÒD,["_law_left_here", "_law_names_here", "_law_stems_here"]],
#[Ìg,(by simp only[Ët]<;>lia)],
#[Æf,(by show 1<=aq;decide)],
#[ÒY,((ÁC i).map λj=>.int (W7 c j))],
#[ÔB,(λb o e n t hx=>?_,λb o e n t hx=>?_,ÆE,λb o e hx=>?_,ËB,ÈO,ËD)],
#[bG,by rw[Ç Qu];obtain b1|b2|b3:=pS I9;obtain m'|gs|w9:=uK _ _ _ q9;exact(m',gs,i+1,ys,jY,V,b1,b2,b3,w9)],
#[bH,by intro c a;have:c∈("-" : ak).cps.toList:=a;rw[show ("-" : ak).cps.toList=[45] from by ac_rfl]at this;rw[å this]],
#[ÓQ,Df P w K mg Â 1 "_law_key_text" ["_law_key_here"] UI],
#[ÊC,(∀s∈ss,ŧ<=24/\AZ s)],
#[Èd,((lcp (cds l) z:Nat):Int)],
#[Òh,#[.ref ĺ,.none,.none,.none,.bool false,.none]],
#[ÜC,∀ {a b:ak},a≠b->¬ Å a=Å b],
#[Ìi,(bn bq (aG es Ì)).any (·.1)=false],
#[Äv,WB ñ w A s k0 κ],
#[ÀF,À (κ×V)],
#[ÄN,#[Zg,#[Zm,‹2›]]],
#[ĉ,["self"]],
#[ü,(cds x)],
#[ÔV,∀i x b H,xs[i]? = U x->Pv i b H->g x b H λd f=>j { D with nx:=Pv (i+1),ct:=Pv (i+1),bk:=Ċ } d f],
#[ô,À Zz],
#[Í3,(.lst (Wy.map Å))],
#[Òm,(.Raise (U (.Call (.Name x p) (e::es) [] bq)) af pos)],
#[Ë6,(.Call (.Attribute o m bu) [] [] pos)],
#[Ój,#[Zp,Ul,É,ÁP,Qy,#[Zd,ġ]]],
#[ÊN,#[Zd,‹0›]],
#[ÇJ,["self", "row", "place"]],
#[ØD,(a++ÁA k af)],
#[Î3,((o.sw++o.fw).map Å)],
#[b3,(XJ CX0 P w K mg Â N c (Zh st) f a A Û s H E)],
#[Íp,∀i ys a H,Pv i ys a H->H d=U Áf],
#[Íw,(∀b o,ß b=U o->ý b=U o)],
#[Óg,Df P w K mg Â 1 "halves" ["numbers"] (Se K true)],
#[ÑE,(seqObj "list" Áb 0)],
#[b8,(Àl { cls:=.type "dict",Ó:=.dict #[] })],
#[ÓV,#[Zg,#[Zm,(WM T.g_REFUSED)]]],
#[ca,by intro b o e;have e1:=N b o (M b o e);rw[Zc (λz=>by subst z;exact nomatch (G b o e).symm.trans t)];exact e1],
#[ÄB,À (À Key×V)],
#[ÛM,[U (.ref d),U (.str l),U (.str i),U (.ref X),U (.ref m),U (.int n),U (.ref F),U (.int (g:Int))]],
#[Àr,ZX N N' o c],
#[Òa,Ε=Ì::Âw/\X.env.frame=U İ],
#[ÁX,Unit->aj->Prop],
#[ż,Ã Int],
#[Í4,(λaP f A Û s H vs Q E I h=>?_)],
#[ËJ,(x == ("__classdict__" : ak))=false],
#[Ùd,(Àw nm q C N bs (.ref B::Yv) true sn sub ab bT dd k0 k1 k2 k3 k5 "ValueError.__new__")],
#[cm,(ę (·.nm))],
#[ÅC,(Ìn-ğ)],
#[Êj,(.type "type")],
#[Ħ,(.ref a)],
#[Öd,(I9.unpinned,È1 _ _ _ qP λb k A e=>(I9.pin (b,A,) (QF _ (QF _ (Vc k e)))).1,λb k=>?_)],
#[cr,by intro ai s σ H x y v u Q I a b h],
#[ÄJ,["numbers", "n"]],
#[Ð9,(∃o,ý e=U o/\Ãd=.type "StopIteration")],
#[Éb,(by rw[e];exact ŭ)],
#[ÁD,(.type "str")],
#[Å7,(.dK (kvM L))],
#[Ê3,#[ZC,(ixT K),‹2›,Þ]],
#[Ëx,∀b u,ß b=U u->ý b=U u],
#[ÜE,(bL c Än ű Ì)],
#[Óc,Df P w K mg Â 4 "first_break" ["keys"] (Sf K)],
#[đ,(cds y)],
#[ÙL,#[Zp,(W0 K),É,ÊG,ÊH,#[Zd,‹0›,#[XI,T.b.n_bool,boot_bool]]]],
#[Ïc,[.inr z,.inl n,.inr s]],
#[cG,(zH5 Ê S1 S2 a b)],
#[ÀN,(dsO X nm)],
#[Üe,((_,_,rfl,rfl),À4,À4,À4,À4,À4,À4,À4,À4,À4,À4,À4,ŭ)],
#[Í9,(_,rfl,rfl,_,rfl,YR Âj ?_)],
#[Ú3,(_,rfl,_,rfl,_,_,rfl,rfl,_,rfl,Y2 i (_,rfl,_,_,rfl,rfl,_,rfl,Y2 j (_,rfl,q)))],
#[cL,by refine Üg K1 ?_;rw[aD.under_plainId SY _];show ar _ Ãy (Ãh (.ref I) >>= _) _ _ s],
#[ÊM,(∀s∈ss,ŧ<=1000)],
#[ÉY,(Äw vs)],
#[ÙJ,#[Zp,(W0 K),É,ÊG,ÊH,#[Zd,‹1›,#[XI,Ëb,Ëc]]]],
#[ÙK,#[Zp,(W0 K),É,ÊG,ÊH,#[Zd,‹0›,#[XI,Ëb,Ëc]]]],
#[ÜF,#[Zd,‹0›,Þ]],
#[cR,by simp only[Áp,ÂK,ÂL]at A],
#[cS,by refine .inr ((q,r),Pv (i+1),λjD aS u v=>(ø-(i+1),by lia,rfl,r,v),λx u y=>?_)],
#[cT,by show Ãr y.1=_\/Ãr y.1=_;rw[ho];exact(S.free y hy hf).2],
#[Òp,[.Tuple [.Name x m,.Name y n,.Name z r] kt pt]],
#[Ñ6,(show (à T != Ài)=true from by simp)],
#[ÎS,(_,rfl,_,_,rfl,rfl,_,rfl,?_)],
#[Îa,(upd d p (.tup [.int i,.str y]))],
#[ÂI,(ļ:Int)],
#[Ŷ,(Zt M n)],
#[ÂD,(.type "list")],
#[ŝ,(.ref e)],
#[ÇK,["self", "n", "keys"]],
#[Κ,(ď d)],
#[ă,(Zr _)],
#[Ðx,(XJ CX P w K mg Â N d a f g A Û s H E)],
#[Æj,(Åb z)],
#[Ôc,(.tup [.int g.n,.ref g.k,.int ((g.g:Int)+1)])],
#[Ä3,#[WL,K,‹0›]],
#[c9,((Üo).update x λo=>{ cls:=Ãd,ο:=U ĺ,Ó:=ũ,ÁV:=ÈR })],
#[da,by refine Calls.call_function_entry kind_sorted plain_sorted entry_sorted (args_sorted1 Ă) ?_],
#[db,by intro X hP hw hK f i ai s σ H E I g st hg;subst hP hw hK;obtain J|L|(a|b'|M)|N|O:=st],
#[ÅY,["_law_left_here"]],
#[Æe,Vq K w mg bQ br bv],
#[Ân,(·.length)],
#[Üj,(Àl ÆT)],
#[ÐG,(if ([]:À Keyword).isEmpty then 0 else 1)],
#[dh,(f.2 b (Qz (QG (Qq e) (I.ok.cab x c S hc))))],
#[Üd,(.lst [.str "rows",.str "left",.str "take"])],
#[Ñ0,(.DictComp kx vx [(tg,Ĳ,dF,0)] c pos)],
#[ÒU,#[Zp,(Yj K),É,ÁP,Qy,#[Zd,‹3›]]],
#[dl,by subst t hw y;obtain (l|f)|g:=st;obtain M|p|B:=A;obtain its|C|D|_:=ÁZ p],
#[dm,by rw[list_sort_plain];refine ah (Uu ha rfl ?_);show ar _ _ (ÌX a (λx=>#[]) >>= _) _ _ _],
#[dn,by obtain u|rfl:=hq],
#[dp,by have S:=Zi G (.lst [.str k]);have mC:(upd v b (.lst [.str k])) b=U (.lst ([k].map Å)):=Zb],
#[Õb,Éa K ÇE "__get__" = U (U (.builtin "getset_descriptor.__get__"))],
#[Ív,(.type "object")],
#[Ê6,λe:Zz=>(e.n,(Ò,e.g,),)],
#[dt,by rw[List.getElem?_set_ne (Ás w)]at l;obtain O|P|q:=W j y G g l J;refine(O,P,?_)],
#[du,by obtain z|lo|i|l|g|C|D|j|m|n|E:=(show Z7 ù X.w k ÆQ d (.dK f) from A.hok d _ B)],
#[ÕO,(λr g=>r=.ok (.ret (.bool true))/\OldK ÆQ g.heap/\g.os=c.os/\Ãb g.gens)],
#[ų,(λd=>?_)],
#[Üz,(show false=true from f)],
#[Ą,(hdM L)],
#[ÚI,(.ins aw dp (YV e.k e.f ((e.g+1:Nat):Int)))],
#[Çb,ē Á],
#[Ée,(false,ā e Ì,)],
#[Ó2,(.ins aB c [("merge",.ref m,)])],
#[Ûw,(rfl,rfl,(e ks h.2).2.2,g s h.1,.inr (rfl,(e ks h.2).1),(e ks h.2).2.1)],
#[dE,by refine(Ìy,λb q=>?_,g);cases q;obtain ob|_|_|h|i|_:=c;exact(ob,h,i.2.1)],
#[dF,by refine ah (ah (Òj ?_));show ar _ _ (Çl (.ref i2) >>= _) _ _ _],
#[ÐZ,È (QG (Qq e) (Qk ÈN z)) (Qag _)],
#[Ò3,Df P w K mg Â 3 "alikes" ["row"] (Si K)],
#[Ól,(upd (upd H7 G (.own u)) u (.ins aw G []))],
#[Ûk,(Yg aB aw am λo=>X2 λs ks=>o=.grow s ks)],
#[ØS,ß C=U (Àw nm q C N bs bm true sn sub ab bT dd k0 k1 k2 k3 k5 bH)],
#[ÍI,["_law_cell", "_law_k"]],
#[ÀY,Zs Á],
#[Ây,X.N[i]? = U x],
#[ō,Int×Int],
#[À5,HOk P w H h],
#[Êd,A.frames=U (env::Û)],
#[ÑP,(∀b o,é b=U o->ý b=U o)],
#[Ñ5,(·.setIfInBounds 1 (à Ät))],
#[Ì8,(kvs.any λa=>decide (a.1=k))],
#[Ãq,(k == Äm)],
#[ÎI,(Z5 8 (ZB L) e.n)],
#[Ûi,(Yg aB aw am λo=>X2 λs ks=>o=.row s ks)],
#[Γ,(.tup xs)],
#[ÁG,(.dK kvs)],
#[Æw,(.cons ÿ .nil)],
#[Éd,(.builtin "isinstance")],
#[Ð0,(.ListComp iD [(tg,Ĳ,dF,0)] c pos)],
#[Ë5,(.Call (.Name x p) [] [] pos)],
#[Ûz,#[YQ,Q0,PySem.F.slot_str_split,PySem.F.type_str_split,Kv,‹0›,#[Zd,Ý]]],
#[d4,a_,b_,c_,d_,by refine a_ b_ ÂY (λaP f A Û s H c_ Q E d_ h=>?_)],
#[d5,a_,b_,(λaP f A Û s H a_ Q E b_ h=>?_)],
#[d6,a_,b_,c_,d_,#[gT,K,3,#[Zo,#[Zu,a_,b_,á],#[Zo,#[Zu,c_,b_,á],#[Zo,#[Zu,d_,b_,á],Èt]]]]],
#[d7,a_,b_,c_,#[Zo,#[Zu,a_,b_,á],#[Zo,#[Zu,c_,b_,á],Èt]]],
#[d8,a_,(by simpa using a_)],
#[d9,a_,b_,c_,d_,#[Zo,#[Zu,a_,b_,á],#[Zo,#[Zu,c_,b_,á],#[Zo,#[Zu,d_,b_,á],Èt]]]],
#[ea,a_,b_,(by rw[a_];exact b_)],
#[eb,a_,b_,c_,d_,e_,by refine(_,rfl,_,rfl,d,aB,a_,_,_,rfl,b_,Àe,Ä5,WJ ..,nd,_,rfl,Ģ (k:=.inr c_) ħ d_,_,rfl,e_ ?_)],
#[ec,a_,b_,c_,d_,e_,(_,rfl,_,rfl,d,aB,a_,_,_,rfl,b_,Àe,Ä5,WJ ..,nd,_,rfl,Ģ (k:=.inr c_) ħ d_,_,rfl,e_ ?_)],
#[ed,a_,b_,c_,by obtain a_|b_|rfl:=Ğ c_],
#[ee,a_,b_,c_,d_,Df P w K mg Â a_ b_ c_ d_],
#[ef,a_,(.lst (a_ Å))],
#[eg,a_,b_,by have a_:=b_ T (P:=P) (w:=w) (Â:=Â)],
#[eh,a_,a_ T (P:=P) (w:=w) (Â:=Â)],
#[ei,a_,b_,c_,(thn (a_ b_ s c_ H _ I h) ?_)],
#[ej,a_,b_,c_,d_,∀ (kV a_ b:aa) (b_:Ã ae) (c_ ct:aa) (us:À aa),ÀO=ÀD->bindArgs (ÅA x d_ (WD st) (XY st) (Zh st) .none kV a_ b b_ c_ ct) (us,[])=pure (Éh us)],
#[ek,a_,Ņ K aL a_ = U af],
#[el,a_,b_,c_,(λ_ _ _ _=>#[gT,K,2,#[Zo,#[cg,a_,b_],#[Zo,#[cg,c_,b_],Èt]]])],
#[em,a_,b_,c_,#[Zp,(W0 K),É,ÊG,ÊH,#[Zd,‹a_›,#[XI,b_,c_]]]],
#[en,a_,b_,c_,d_,by rw[a_]at b_;cases b_;have c_:i<d_:=(Ł a_).1],
#[eo,a_,b_,c_,#[Zn,a_,‹b_›,c_,ă]],
#[ep,a_,b_,c_,by obtain a_|b_:=c_],
#[eq,a_,b_,c_,Ņ K a_ b_ = U (U (.ref c_))],
#[er,a_,(by rw[Qa,a_];exact ÀY)],
#[es,a_,(rfl,_,Ï a_)],
#[et,a_,ł ÒL a_],
#[eu,a_,b_,c_,(a_ b_ s c_ H _ I h)],
#[ev,a_,b_,ī K (.ref a_) b_ = U af],
#[ew,a_,b_,c_,(∀b a_,H b=U a_->b≠b_->c_ b=U a_)],
#[ex,a_,b_,(λa_ b_=>by cases b_)],
#[ey,a_,by refine(λi m a H=>m=a_-i/\i<=a_/\Pv i a H,(a_,by simp,Qs _,h0),?_);rintro i m a H ⟨rfl,hi,p⟩],
#[ez,a_,b_,Êl K a_ b_=U true],
#[eA,a_,b_,by obtain a_|rfl:=b_],
#[eB,a_,b_,c_,d_,(show ∃a_,u=b_ c_ a_ from d_)],
#[eC,a_,by rw[Zc (λz=>by rw[z,a_]at this;cases this)];exact this],
#[eD,a_,(a_,.«local»,)],
#[eE,a_,b_,(by show a_<=b_;decide)],
#[eF,a_,(λ_ _ _ _ h=>Ï (h.2.2.2.2 _ _ a_))],
#[eG,a_,b_,(λa A Û s H vs Q E a_ h=>b_ a f A Û s H vs Q E a_ h)],
#[eH,a_,b_,c_,d_,by have a_:(upd b_ c_ d_) c_=U d_:=Zb],
#[eI,a_,b_,c_,d_,(upd (upd a_ b_ (.own c_)) c_ (.ins d_ b_ []))],
#[eJ,a_,b_,c_,d_,e_,by subst a_;cases (show u=à b from b_);obtain z|c_|d_|c|e_:=Wa ê e],
#[eK,a_,b_,#[Xns,K,a_,b_]],
#[eL,a_,b_,Êl K a_ b_=U false],
#[eM,a_,(.builtin a_)],
#[eN,a_,b_,c_,by rw[a_,b_]at c_;cases c_],
#[eO,a_,(by rw[a_];lia)],
#[eP,a_,b_,(by rw[<- a_];exact b_)],
#[eQ,a_,b_,c_,d_,e_,by have a_:=b_ ű j c_ fp;have d_:=e_ ű j c_ fp],
#[eR,a_,b_,c_,d_,Mf P w K mg Â a_ am b_ c_ (d_ aw am)],
#[eS,a_,b_,c_,by intro a_ s b_ H c_ I h],
#[eT,a_,b_,c_,d_,∀b a_,b_ b=U c_->d_ b=U c_],
#[eU,a_,b_,c_,(.tup [.str a_,.str b_,.ref c_])],
#[eV,a_,by obtain u|rfl|a_:=XN r;cases a_],
#[eW,a_,b_,∀t∈a_,∃its:À aa,ZG (t.2.map kV) its/\Β b_ t.1 ģ],
#[eX,a_,b_,c_,(λa_ o b_ e=>c_ a_ o b_ e)],
#[eY,a_,b_,c_,d_,by cases (show u=à b from a_);obtain z|b_|c_|c|d_:=Wa ê e],
#[eZ,a_,λc H R=>b c H λx a=>X2 λd kvs=>x=.ref d/\a d=U ÁG/\∀o,R (a_ d o kvs) (upd a d Áf)],
#[e0,a_,b_,c_,∀C s H fp,a_ ÉS b_ c_],
#[e1,a_,b_,c_,d_,e_,by rw[Qf];refine QaU.mpr (a_,by simp,λa b_ b c_=>?_);rw[ed,d_,e_,b_]],
#[e2,a_,b_,#[Zd,‹a_›,‹b_›]],
#[e3,a_,b_,c_,(∀a_ b_,N a_ b_->∃c_,c_<m/\W (i+1) c_ a_ b_)],
#[e4,a_,b_,c_,(∀b o,a_ b=U o->b≠m->b≠b_->c_ b=U o)],
#[e5,a_,b_,c_,d_,∀b a_,b_ b=U a_->b≠c_->d_ b=U a_],
#[e6,a_,(λi m a H=>m=a_-i/\i<=a_/\Pv i a H,(a_,by simp,Qs _,h0),?_)],
#[e7,a_,Ðf K a_=true],
#[e8,a_,b_,(upd a_ b_ ÁN)],
#[e9,a_,b_,bE a_ b_ Ì (ā a_ Ì)=ā a_ Ì],
#[fa,a_,by refine(λi m a H=>m=a_-i/\i<=a_/\Pv i a H,(a_,by simp,Qs _,h0),?_)],
#[fb,a_,by rw[Zc (λz=>by rw[z,a_]at this;cases this)]],
#[fc,a_,b_,(∀s∈a_,ŧ<=b_/\AZ s)],
#[fd,a_,b_,c_,(by rw[a_];exact b_ c_)],
#[fe,a_,#[Zg,#[Zm,‹a_›]]],
#[ff,a_,b_,c_,d_,e_,(_,rfl,p,c,a_,rfl,b_,by lia,by decide,by decide,λr c_ r0 r1 d_ e_=>?_)],
#[fg,a_,(ā a_ Ì)],
#[fh,a_,aG [a_] Ì=[(false,ā a_ Ì,)]],
#[fi,a_,∀a_ s',XE X E a_ s'->è a_ s'],
#[fj,a_,#[ZC,(ixG a_),‹0›,Ý]],
#[fk,a_,b_,(a_,_,rfl,ö b_,rfl,_,_,rfl,_,_,rfl,_,_,rfl,rfl,?_)],
#[fl,a_,b_,ī K a_ "__init__" = U (U b_)],
#[fm,a_,b_,by refine(a_,_,rfl,ö b_,rfl,_,_,rfl,_,_,rfl,_,_,rfl,rfl,?_)],
#[fn,a_,b_,c_,by exact(_,a_,λb_ c_=>by cases c_)],
#[fo,a_,b_,c_,by have:=a_;rw[<- b_,z,c_]at this;cases this],
#[fp,a_,b_,c_,(_,a_,λb_ c_=>by cases c_)],
#[fq,a_,b_,c_,#[Zd,‹a_›,‹b_›,‹c_›]],
#[fr,a_,b_,(a_ : ak).length=b_],
#[fs,a_,b_,c_,ZO a_ b_ H m rd sd L s nb li lo c_],
#[ft,a_,b_,c_,(∀b a_,b_ b=U a_->c_ b=U a_)],
#[fu,a_,(ÆV (Äj a_ (Zh st) Î f a))],
#[fv,a_,(ÆP { cls:=.type a_,Ó:=.fields #[.ref d] })],
#[fw,a_,b_,c_,by refine(_,rfl,Ŵ,λa_ b_=>?_);have c_:=Zi b_ ÁN],
#[fx,a_,(a_ λt=>à t.1)],
#[fy,a_,b_,c_,(.tup [.int a_,.int (b_:Int),.str c_])],
#[fz,a_,b_,c_,d_,by obtain its|a_|b_|c_:=ÁZ d_],
#[fA,a_,b_,a_ ù X.w X.K Ě Ő k C b_ ps sp],
#[fB,a_,b_,Qd (f:=λy:AR=>(a_,y,)) b_],
#[fC,a_,by rw[ē (no û:¬ Å a_ = Å "row")]],
#[fD,a_,b_,c_,#[Zn,(@a_ _ K _ b_ É),‹c_›,Â6,ă]],
#[fE,a_,ī K a_ "__getattribute__" = U Ùh],
#[fF,a_,b_,c_,d_,(λ_ _ _ _=>#[gT,K,3,#[Zo,#[cg,a_,b_],#[Zo,#[cg,c_,b_],#[Zo,#[cg,d_,b_],Èt]]]])],
#[fG,a_,b_,c_,hdS (Zt64 (a_ (b_ (c_ ZJ))))],
#[fH,a_,Ãr a_=U .local],
#[fI,a_,((a_+1:Nat):Int)],
#[fJ,a_,["self", a_]],
#[fK,a_,b_,(a_ : ak)=⟨[b_].toArray⟩],
#[fL,a_,b_,c_,by rw[a_,b_,md]at c_;refine thn c_ ?_],
#[fM,a_,(a_,.globalImplicit,)],
#[fN,a_,b_,c_,(a,b,by rw[Zc a_];exact b_,c_)],
#[fO,a_,b_,(.lst ((a_ b_).map Å))],
#[fP,a_,b_,by refine(_,rfl,m,am,a_,_,rfl,b_,â,ÂZ,Wk ..,?_);rw[R7]],
#[fQ,a_,b_,c_,by rw[a_]at b_;cases c_],
#[fR,a_,b_,by exact .inr (by rw[show b=a_ from z];exact b_)],
#[fS,a_,b_,(.inr (.inr (.inr (a_,b_,.inl z))))],
#[fT,a_,ī K a_ "__class__" = U (U ÇE)],
#[fU,a_,b_,c_,d_,e_,ĥ a_=U (.type "tuple",b_,.seq #[.ref c_,.none] d_,e_)],
#[fV,a_,b_,c_,#[ZA,a_,b_,c_,É]],
#[fW,a_,b_,by rw[<- a_,z,b_]at this;cases this],
#[fX,a_,b_,c_,d_,by obtain a|b|a_|b_:=c_;exact(a,b,by rw[Zc d_];exact a_,b_)],
#[fY,a_,b_,#[ZI,#[YQ,QB,QC,QD,ZY,‹a_›,#[Zd,‹b_›]]]],
#[fZ,a_,b_,by exact(a_ e b_).keep (Zc a.symm) (Zc b.symm) (Zc c.symm)],
#[f0,a_,PySem.W.isClsIn K a_=true],
#[f1,a_,ī K a_ "__setattr__" = U È9],
#[f2,a_,by refine Y0 (λa_=>?_) (λa_=>?_)],
#[f3,a_,b_,c_,(_,rfl,m,am,dx,_,_,rfl,a_,â,b_,c_ ..,_,_,rfl,rfl,dx,_,a_,Wk ..,?_)],
#[f4,a_,b_,(ha pos a_ s b_ H _ I h)],
#[f5,a_,b_,(a_,g,d,b_,os)],
#[f6,a_,b_,c_,d_,by refine(_,rfl,m,am,dx,_,_,rfl,a_,â,b_,c_ ..,_,_,rfl,rfl,dx,_,a_,Wk ..,?_);rw[d_]],
#[f7,a_,b_,(_,rfl,m,am,a_,_,rfl,b_,â,ÂZ,Wk ..,?_)],
#[f8,a_,b_,c_,d_,by obtain a_|b_|rfl|c_|d_|q:=h],
#[f9,a_,b_,c_,by refine(_,rfl,m,am,dx,_,_,rfl,a_,â,b_,c_ ..,_,_,rfl,rfl,dx,_,a_,Wk ..,?_)],
#[ga,a_,(Äj a_ (Zh st) Î f a)],
#[gb,a_,b_,c_,d_,e_,#[ZA,a_,b_,#[Zd,‹c_›,‹d_›,‹e_›],É]],
#[gc,a_,b_,by refine(_,rfl,m,am,a_,_,rfl,b_,â,ÂZ,Wk ..,?_)],
#[gd,a_,Qd (f:=λt:ae×À Key=>t.2) a_],
#[ge,a_,b_,(.str a_,H,ś _,ÿ,b_)],
#[gf,a_,b_,c_,a_ λb_ c_=>h b_ (Ql _ c_)],
#[gg,a_,b_,#[ep,a_,b_,M.ob]],
#[gh,a_,PySem.W.mroIn K a_ Ív=U true],
#[gi,a_,b_,c_,(ÅA x a_ (WD st) (XY st) (Zh st) .none kV e g b_ c_ ct)],
#[gj,a_,b_,c_,d_,(upd a_ b_ (.lst ((c_ d_).map Å))) b_=U (.lst ((c_ d_).map Å))],
#[gk,a_,ī K a_ "__getattr__" = U af],
#[gl,a_,b_,c_,d_,by obtain a_|e|d:=T.obj _ _ b_ b c_;exact(d_ (b,a_,) (QF _ (QF _ (Vc c_ e)))).2.1],
#[gm,a_,b_,c_,d_,(thn #[eu,a_,b_,b] λu i ⟨y,j,k,c_,d_⟩=>thn (ha b_ i b j _ k d_) ?_)],
#[gn,a_,((af,rfl),rfl,Qs _,Zb,Zi a_ _)],
#[go,a_,b_,c_,d_,e_,by have a_:(upd b_ c_ (.lst ((d_ e_).map Å))) c_=U (.lst ((d_ e_).map Å)):=Zb],
#[gp,a_,b_,hdS (Zt64 (a_ (b_ ZJ)))],
#[gq,a_,(λz=>a_ (.inl z))],
#[gr,a_,b_,(∀x a_,γ x=U a_->a_≠b_)],
#[gs,a_,b_,#[Yi,a_,â,b_,‹0›]],
#[gt,a_,(.lst [.str a_])],
#[gu,a_,b_,Êl K a_ (.ref b_)=U true],
#[gv,a_,(.tup [.int (ZV a_).1,.int (ZV a_).2])],
#[gw,a_,b_,c_,d_,(upd a_ b_ (.dK (c_ d_)))],
#[gx,a_,by exact Q8 a_ ě ŭ f e Àn c],
#[gy,a_,b_,c_,d_,e_,by rintro u a_ ⟨x,b_,c_,d_,a,dx,fs,ex,e_,l,q⟩;subst ex;obtain rfl:u=à a:=d_],
#[gz,a_,b_,c_,d_,(.ListComp a_ [(b_,Ĳ,c_,0)] d_ pos)],
#[gA,a_,b_,(λ_ _ _ _=>#[cg,a_,b_])],
#[gB,a_,b_,((lcp a_ b_:Nat):Int)],
#[gC,a_,by rw[z,a_]at this;cases this],
#[gD,a_,Nat->À V->a_->Hp->Prop],
#[gE,a_,(by show a_<=_;rw[(aO)];decide)],
#[gF,a_,b_,#[Zn,a_,‹b_›,#[Zp,WE,É,ÁP,Qy,Áj],ă]],
#[gG,a_,b_,c_,Ņ K aL a_ = U (U (.int b_ c_))],
#[gH,a_,b_,c_,d_,e_,by have a_:=Zi b_ ÁN;have c_:#[e8,d_,e_] e_=U (.lst (([]:À ak).map Å)):=Zb],
#[gI,a_,ī K (.ref a_) "__setattr__" = U È9],
#[gJ,a_,b_,c_,by obtain a_|g|d|b_|os:=c_],
#[gK,a_,λ_ _ _ _ _ st h=>a_ st h],
#[gL,a_,by exact nomatch z.one a_],
#[gM,a_,b_,c_,d_,e_,by have a_:(Áy++(b_ : ak)).length<=0+c_:=z Ë Ë Ë;have d_:=z a_ e_ Ë],
#[gN,a_,b_,c_,(∀b o,H b=U o->¬ Fp m a_ b_ L b->c_ b=U o)],
#[gO,a_,b_,c_,d_,e_,by intro a_ b_;have c_:=Zi b_ (.dK []);have d_:(upd e_ a_ (.dK [])) a_=U (.dK []):=Zb],
#[gP,a_,b_,c_,(show Z7 ù X.w H Ê a_ (.dK b_) from ê a_ _ c_)],
#[gQ,a_,b_,[.int a_,.int b_]],
#[gR,a_,b_,#[Zx,a_,b_,á,Â6]],
#[gS,a_,(QL X G a_).symm.trans h],
#[gU,a_,b_,(a_ b_=U .cell\/a_ b_=U .free)],
#[gV,a_,b_,c_,d_,by rw[eS,a_,b_,Q];refine bh (Xe I c_ hm ?_ d_)],
#[gW,a_,by exact Q7 a_ ě ŭ e Àn h],
#[gX,a_,b_,by have a_:(kvA R).length=Àh:=Qa ..;rw[a_,Qx (Qg _)]at b_],
#[gY,a_,b_,c_,d_,by obtain⟨a_,rfl⟩:∃b_:Nat,c_=(b_:Int):=(d_,by lia)],
#[gZ,a_,b_,{ a_ with Õ:=b_ }],
#[g0,a_,(upd a_ D (.lst (ys++[y])))],
#[g1,a_,b_,by rw[a_]at this;exact È this (Qbh.mpr b_)],
#[g2,a_,b_,#[Wo,(slL K),‹a_›,(@VF _ _ _ ‹b_›),(@VG _)]],
#[g3,a_,b_,c_,d_,Df P w K mg Â a_ b_ [c_] d_],
#[g4,a_,b_,c_,ZO cR cM a_ X.m ň b_ c_ s' Ē (Ŏ+k) (ŏ+q) (Yy w)],
#[g5,a_,#[cG].get? (a_ Ê S1 S2 a b).objs.size=U _],
#[g6,a_,b_,c_,d_,by subst a_;obtain z|b_|c_|c|d_:=Wm ê e],
#[g7,a_,#[Zg,#[Zm,a_]]],
#[g8,a_,b_,(a_,_,rfl,ö b_,rfl,_,_,rfl,_,_,rfl,rfl,?_)],
#[g9,a_,b_,c_,d_,by obtain a_|b_|c_:=d_],
#[ha,a_,b_,c_,(upd a_ b_ (.lst c_))],
#[hb,a_,b_,(a_ Ê S1 S2 a b).objs.size=Î+b_],
#[hc,a_,b_,c_,by refine(a_,_,_,rfl,rfl,b_,#[er,c_],?_)],
#[hd,a_,b_,c_,d_,∀a_ b_,a_≠c_->d_ a_=U b_->ý a_=U b_],
#[he,a_,b_,c_,(∀ (s:aj) (a_:aa),ÆY s b_ ([a_],[]) [(c_,a_,)])],
#[hf,a_,b_,c_,(XJ (CX1 P w) P w K mg Â N a_ b_ f c_ A Û s H E)],
#[hg,a_,b_,(.type "dict",af,.dict a_ b_,#[])],
#[hh,a_,#[eo,Xa,a_,ř]],
#[hi,a_,b_,by refine a_ b_ ÂY Ôj],
#[hj,a_,b_,c_,d_,#[ZA,a_,b_,#[Zd,‹c_›,‹d_›,Þ],É]],
#[hk,a_,b_,c_,d_,e_,by have a_:atI [ì b_,.int c_] d_=U (.int e_):=XZ (j:=d_) rfl],
#[hl,a_,b_,c_,d_,e_,by have a_:=h a Ö;have b_:=#[gf,c_,d_,e_]],
#[hm,a_,b_,c_,(a_,_,_,rfl,rfl,b_,#[er,c_],?_)],
#[hn,a_,a_->aj->Prop],
#[ho,a_,(_,Ï a_)],
#[hp,a_,(WC a_ rfl û)],
#[hq,a_,b_,(S1.at_keep (λo e=>a_ _ o D.i1z e) b_)],
#[hr,a_,nomatch z.one a_],
#[hs,a_,b_,by refine(a_,_,rfl,ö b_,rfl,_,_,rfl,_,_,rfl,rfl,?_)],
#[ht,a_,b_,(@a_ _ _ _ _ ‹b_›)],
#[hu,a_,b_,c_,d_,e_,Inv X a_ b_ c_ { d_ with Õ:=e_ }],
#[hv,a_,b_,(SqL a_ H p b_\/SqT a_ H p b_)],
#[hw,a_,#[pv,a_,(Çf á)]],
#[hx,a_,b_,((a_ : ak) = b_)],
#[hy,a_,b_,by rw[Ç a_]at b_],
#[hz,a_,À (ak×a_)],
#[hA,a_,by have hb:(g == a_)=false:=Æy h],
#[hB,a_,b_,(by show a_<b_;decide)],
#[hC,a_,(λ_ _ _ _ h=>h.2.2.2.2 _ _ a_)],
#[hD,a_,b_,by rw[Ç a_,Ç b_]],
#[hE,a_,b_,by intro ai s σ H x y v u Q I a_ b_ h],
#[hF,a_,Õq K a_=true],
#[hG,a_,by rw[<- a_]at this;exact this],
#[hH,a_,b_,#[ZI,#[Yi,a_,â,b_,‹0›]]],
#[hI,a_,b_,#[Ye,(@a_ _ _ _ _ ‹b_›),#[Ye,Ý,(@UZ _)]]],
#[hJ,a_,b_,c_,d_,by refine(_,rfl,_,rfl,_,rfl,l,_,rfl,Ï a_,λb_ c_=>?_);rw[d_]],
#[hK,a_,b_,c_,(_,rfl,_,rfl,_,rfl,l,_,rfl,Ï a_,λb_ c_=>?_)],
#[hL,a_,b_,#[e8,a_,b_] b_=U (.lst (([]:À ak).map Å))],
#[hM,a_,b_,c_,d_,by obtain its|a_|b_|c_:=ÃY d_],
#[hN,a_,b_,∀a_ H,Pv b_ a_ H->Ċ a_ H],
#[hO,a_,b_,[(a_,Ĳ,b_,0)]],
#[hP,a_,b_,(by rw[Zc a_];exact b_)],
#[hQ,a_,b_,c_,(.lst (a_ λb_=>ú c_))],
#[hR,a_,b_,#[Zd,‹a_›,‹b_›,Þ]],
#[hS,a_,((a_:Nat):Int)],
#[hT,a_,(∀b∈fp,a_ b=af)],
#[hU,a_,b_,c_,d_,(.DictComp a_ d [(b_,Ĳ,c_,0)] d_ pos)],
#[hV,a_,[.int (ZV a_).1,.int (ZV a_).2]],
#[hW,a_,((af,af,rfl),rfl,Qs _,Zb,Zi a_ _)],
#[hX,a_,b_,(.tup [.int a_,.int b_])],
#[hY,a_,b_,by unfold a_ at b_;rw[Qp]at b_],
#[hZ,a_,b_,∀b u,a_ b=U u->b≠b_->(upd a_ b_ Èx) b=U u],
#[h0,a_,b_,c_,by refine(_,rfl,_,rfl,_,rfl,l,_,rfl,Ï a_,λb_ c_=>?_)],
#[h1,a_,b_,c_,by have a_:#[e8,b_,c_] c_=U (.lst (([]:À ak).map Å)):=Zb],
#[h2,a_,b_,(λx a_=>(Qk (b_ x a_).1 Ë,(b_ x a_).2))],
#[h3,a_,b_,#[Xfi,K,a_,"__init__",b_]],
#[h4,a_,b_,#[Xfi,K,am,a_,b_]],
#[h5,a_,b_,c_,d_,e_,ĥ a_=U (.type "tuple",b_,.seq #[.str "name" c_] d_,e_)],
#[h6,a_,Pv 0 [] ØD #[e8,a_,D]],
#[h7,a_,ÂB+a_<ÂC],
#[h8,a_,a_ tm=U (.tup ((Ê4:À Key).map kV))],
#[h9,a_,b_,c_,d_,e_,by obtain z|a_|b_|c_|d_:=e_ ê e],
#[ia,a_,b_,a_ λ_ _ _ _ _ _ _ q=>b_ q],
#[ib,a_,b_,#[ZC,(ixG a_),ġ,‹b_›]],
#[ic,a_,b_,(.inr (.inr (.inr (a_,b_,z))))],
#[id,a_,a_ ÏB x],
#[ie,a_,b_,c_,(λa_ b_ c_=>Qc _ c_)],
#[ig,a_,(_,QL X G a_)],
#[ih,a_,b_,(à a_::b_).contains ÀH=true],
#[ii,a_,b_,(((a_ b_).length:Nat):Int)],
#[ij,a_,b_,c_,by have a_:(Áy++(b_ : ak)).length<=0+c_:=z Ë Ë Ë],
#[ik,a_,b_,c_,d_,by have a_:=z b_ (show (c_ : ak).length<=d_ by decide) Ë],
#[il,a_,b_,(_,rfl,a_,_,_,_,rfl,rfl,Ï b_,rfl,?_)],
#[im,a_,a_ ù X.w X.K Ě Ő k x ps sp],
#[io,a_,b_,(∀t∈a_,b_ t.1=U (.tup [kV t.2.1,t.2.2]))],
#[ip,a_,b_,by rw[Æ a_,Æ b_]],
#[iq,a_,(.tup (a_ kV))],
#[ir,a_,(.type a_)],
#[it,a_,(∀u∈a_,Y4 u.2 t.2=false)],
#[iu,a_,(by rw[Qp,Qb a_]<;>rfl)],
#[iv,a_,(λa_ H Q E h=>?_)],
#[iw,a_,b_,c_,by intro a_ s b_ H c_ us Q I r h],
#[ix,a_,b_,c_,by obtain m|(o|_|_|a_|_)|_:=b_;exact c_ _ _ a_ Ãs],
#[iy,a_,b_,c_,by rw[show nd=a_ from z,b_]at c_;cases c_],
#[iz,a_,b_,c_,(λa_ b_ c_=>?_)],
#[iA,a_,b_,c_,by obtain f|fd|F|a_|b_|c_:=F.ex],
#[iB,a_,by obtain o|B|e|_:=Ìv a_],
#[iC,a_,b_,(upd a_ e (exN e C (U b_)))],
#[iD,a_,b_,#[Xo,ġ,‹a_›,(Wz b_)]],
#[iF,by refine Üg F.entry_min_loop ?_;show ar _ _ (seqItems? (.ref S) >>= _) _ _ _],
#[iG,by have q:=(ÄC k).isSome_eq;rw[Øb]at q;rw[<- q,<- l];exact h _ (ś _)],
#[iH,by rw[aR];obtain i|j|rfl|q:=h;obtain u|w'|rfl|(t|rfl)|(t'|rfl):=Ti r],
#[Äl,Zl N ps (Zh st)],
#[Äb,Yz X.K fd ps ds],
#[Á4,A.handled=af],
#[iM,(show ĕ from r)],
#[Út,(by rcases dJ with z|z|z<;>rw[z];exact n1.symm;exact n2.symm;exact n3.symm)],
#[Éw,(K Ên)],
#[Á0,(À7 hc)],
#[ÇO,((ÇS).map Â9)],
#[ÍP,["self", "meeting", "comer"]],
#[Ïn,(.cons rfl (.cons rfl .nil))],
#[iT,by rw[ep,A,B,y];obtain C|f|D:=I.dictF A hd;have p:ø=C.length:=Ác],
#[iU,by obtain y|A|S|B|C|D:=j it Ö],
#[Ñ4,e ∉ (env::Û).filterMap (·.frame)],
#[Ùl,[λv=>Ër Ì z v,λv=>Ër Ì y v,λv=>Ër Ì x v]],
#[Ëo,[.ref J,.ref M,.ref N]],
#[Ðy,V->Ã Int->Ã Int->Hp->VK->Prop],
#[Ðk,(.Assign [.Attribute o f cZ] Àm pos)],
#[i1,by rw[Zc (Ze this hu),Zc (Ze this qk)];exact this],
#[ÖB,(∀c o,c≠z->c≠TO->c≠i1->c≠i2->é c=U o->ý c=U o)],
#[Øj,(λxs H Q=>X2 λa kvs=>xs=[ú a]/\H a=U ÁG/\Q (.int ø) H)],
#[ØN,(λT=>NB ū H Êe T/\(hideAll Ê ch).get? T=af)],
#[Ú4,(_,rfl,rfl,_,rfl,Y0 (λd=>nomatch (Ľ d)) (λ_=>?_))],
#[i6,by obtain gQ|r1|m1|f1:=I.src C;obtain hZ|r2|m2|f2:=I.src F;have T:=g z Ö],
#[ÎF,#[ZC,(ixT K),‹3›,Þ]],
#[Í8,Ĉ rfl],
#[Êr,["number", "keys"]],
#[ÇL,["desk", "things"]],
#[ë,(Qg _)],
#[ÊT,À (Int×Ã ak)],
#[ÛE,Df P w K mg Â 15 "ask_take" Α (Yg aB aw am λo=>∃n,o=.take n)],
#[Ò1,(upd (upd H f A) r B)],
#[π,(.lst zs)],
#[ÄU,#[Zd,‹2›]],
#[ÛR,∀l:À ak,(∀x∈l,ċ<=50)->(ÂS Ân).sum<=50*Ų],
#[ÍV,["_law_desk", "_law_many"]],
#[Ş,À Nat],
#[ÛD,Df P w K mg Â 15 "do_drop" Α (Yg aB aw am λo=>∃s,o=.drop s)],
#[Ä0,(ĵ:Int)],
#[ÚG,([("all_keys",.ref k,),("fars",.ref f,),("gone",.int g,)]:À (ak×V))],
#[Ál,(ZS X.L)],
#[Îb,(@To _ _ _ _ _ _ Tl Þ)],
#[ÏR,[.Tuple [.Name x g,.Name y k] kt pt]],
#[jq,(Äo { cls:=.type "list",Ó:=.seq ([]:À aa).toArray })],
#[Ö8,ÆB S=U { cls:=.type "list",Ó:=.seq #[.ref t.1,.ref t.1] c }],
#[ÎG,(rfl,rfl,rfl,rfl,rfl)],
#[Í1,(by decide,by decide)],
#[Ó8,λe:AR=>((.inr Ú:Key),ú e.t,)],
#[jv,by obtain g|d|r:=e.get b;rw[show its[k]? = U u from f]at d;cases d;exact r],
#[ÍS,["word", "least", "most"]],
#[ÍJ,["_law_script", "_law_k"]],
#[Âc,SB k0 aX st],
#[ÆS,Nat->St->Hp->Prop],
#[Çs,KeyOrd.kle_refl _],
#[ÅQ,Ā ÐP],
#[Ða,(λy=>if y=name then U v else mA y)],
#[Ïq,(ÑY (ZK P w))],
#[jE,(f.2 b (Qz (QG (Qq e) ÈL)))],
#[Îd,(YV k f g)],
#[ÔW,(RD ha hb I h λv u f x y g i j k q=>c d f e g x y v u Q i j k q)],
#[Ôa,(.tup [.int n,.ref B,.int (g:Int)])],
#[Úg,(.ins am dx (mgF j l (p+1) lo C r))],
#[ÐL,(.call (.ref fa) ([.ref a],[]))],
#[ÓI,#[Zf,Ê8,#[Zf,Ê8,#[Zg,Ê8]]]],
#[Ù0,(_,rfl,_,rfl,y,rfl,Ĩ i,rfl,_,rfl,Y0 (λc=>?_) (λc=>?_))],
#[jM,by simp only[Ôk];rw[Ç Á]],
#[Ñ3,ÆF Â (env::Û)],
#[Ûp,Df P w K mg Â 3 "written_heads" ["desk", "heads"] (Nd K aB)],
#[ÛG,Df P w K mg Â 15 "ask_rows" Α (Yg aB aw am λo=>o=.rows)],
#[ÛF,Df P w K mg Â 15 "ask_left" Α (Yg aB aw am λo=>o=.left)],
#[ÓB,(L++[(i,u,k,f,l,0)])],
#[Ż,(.ref p)],
#[Ó1,(.lst ((Î5).map Å))],
#[jU,by rw[show its.toArray.any (eqU x)=its.any (eqU x) by simp,Rs r fs];exact q],
#[Ãl,Ãe a],
#[õ,(·.1)],
#[Õz,(thn #[f4,a,b] λk l ⟨m,n,o,q,u⟩=>hc a l b n m k Q o q u)],
#[Ðv,(Äj a b Î f c)],
#[Ãw,(ď a)],
#[ÀC,(U č)],
#[ÃF,(.lst Ád)],
#[Ùe,(.Call (.Attribute (.Name x p) "__init__" bu) (e::es) [] pos)],
#[j3,by obtain rfl|L:=d j;obtain rfl|m:=b.link L k l;exact(rfl,m)],
#[ÌP,(o,k it Ö o e,r)],
#[Û0,(k,ks,d,rfl,?_,f2,by lia,f5,y,by lia,by lia,Ëj B5)],
#[j6,by simp only[dB,Ž,Option.getD_none,show (1:Int)>0 by decide,Çc]],
#[j7,by rintro v j ⟨x,g,i,k,d⟩;obtain c|rfl|d:=d;cases k;refine bp ?_],
#[ØQ,YY ù X.w X.K Ě Ő (CX1 ù X.w) k f fd ps sp],
#[Ìe,V->À V->Hp->VK->Prop],
#[Îo,TV _ _ _ û û û],
#[Ï6,ī K ç name=U af],
#[ı,À aK],
#[ĸ,À ZL],
#[Íb,À (À Key×ae×aa)],
#[ÎA,(λe=>(e.n,(Ò,e.g,),))],
#[Ìh,(bu.endLine == bq.line)],
#[ÙR,(ÁA (min ã Ĭ) true).all id=true],
#[ÄS,(ŵ toL)],
#[Ι,(.ref D)],
#[Ö7,(.builtin "min.loop" { pos:=[.ref I,.none,.ref S],kw:=kw })],
#[Ĺ,#[1,YH]],
#[ØI,∀b o,é b=U o->(∀g,ũ≠.fields g)->b≠T],
#[Üq,(XJ (CX1 P w) P w K mg Â N b (Zh st) f a A Û s H E)],
#[Óv,(_,rfl,rfl,_,rfl,Y2 rfl ?_)],
#[Òz,["_law_left_here", "_law_many"]],
#[Êv,["_law_keys_here"]],
#[ÈW,V->V->Hp->VK->Prop],
#[Õp,(thn #[f4,g,i] λus s1 ⟨vs,H1,a,r,q⟩=>(a.kIn,?_))],
#[Éj,(aG (e::es) Ì)],
#[Új,(.tup [.int D,.int (ÀI:Int)])],
#[Áw,(.ref it)],
#[kw,by have:Ãr x=U .free:=hk;rw[k]at this;cases this],
#[Ìx,Èi "__next__"],
#[Θ,[.ref p]],
#[ÌB,Tc z TI TO i1 i2 S1 S2],
#[Τ,(.ref d)],
#[ÍG,(#[86].length-(2-1-1))],
#[ØP,(F,h,T,i,j,G,J,K,L,N,O,k,l,P,n,hideAll_none _ Ö)],
#[ÇH,⟨#[(48)+n]⟩],
#[kE,by rw[cr];obtain i|j|rfl|rfl|q:=h;rw[eA,t,a];rw[eA,c,b]],
#[kF,by refine((o,e,ex.1),λa g=>?_);cases g;exact(o,e,ex.2.1)],
#[ÇT,(ss.map Å3)],
#[Íz,(ÄG+1)],
#[kI,(Xy n ks k f x)],
#[Úo,(.tup [.int (i:Int),.ref x.1])],
#[ÒV,(.lst (ÄO Å++[.str k]))],
#[ÙX,(.lst ((ÁC ń).map λj=>.int (W7 ss j)))],
#[ÒT,#[X1,YT,‹0›,‹1›,ă]],
#[ŉ,#[2,Yx]],
#[ÅH,(rfl,?_)],
#[kP,by refine ah (av ?_)],
#[ÄV,(λ_ _=>rfl)],
#[ÄY,(Z6 P).Nodup],
#[ÃZ,(EP X a b Q)],
#[kT,by subst w;rw[fQ,B,g,g];rw[List.getElem?_set_self Y]at l;cases l],
#[ι,Z8 k X.A],
#[ÕQ,Y6 a ((n,k,)::r) b=Y6 a r ((n,(a.lookup n).getD 0,)::b)],
#[Ðr,À9 X.K č=true],
#[Ãt,Ā ÁE],
#[ÃJ,2<=ÀG],
#[Îj,(λe=>decide (e.1=k))],
#[Ëh,(ÃO:Int)],
#[Ís,(Çh ŝ env)],
#[ÌS,(mirror_perm _ _ _ _)],
#[ÓY,(.tail _ (.tail _ (.head _)))],
#[À6,(.lst xs)],
#[Îv,(.ins am g Îx)],
#[Óo,((Į:Int)-(e.g:Int))],
#[ÒO,#[ee,1,"alike_from",ÄI,Sn]],
#[Ôb,#[ee,1,"_law_heads",ÁJ,RN]],
#[ó,#[9,X]],
#[ÙN,(_,rfl,_, "bool",_,_,rfl,.bl b,JO K,_,rfl,YJ ?_)],
#[lb,by obtain _|_|_|_|o|_|_|e|ex|_:=ê p _ b;exact(o,e,ex)],
#[Ûd,(X.m,ň,f,X.L++[e],s',Ē+1,Ŏ+k,ŏ+q,w)],
#[ØR,∀self:aa,refuseLoop self "__setattr__" bm=pure ()],
#[ÚY,M1f P w K mg Â 1 am "row_of" ÁI (Nq aw am aA)],
#[lf,(Äo { cls:=.type "dict",Ó:=.dict #[] })],
#[ÙP,((af,af,rfl),rfl,Ëj (Zi t _),Zb,Qs _)],
#[lh,by show wpS _ _ _ _ (get >>= _) _ _;refine Ō (ÉX ?_)],
#[li,by show ar _ _ (Åt ç _) _ _ _;refine(Qax X2 m).at ?_],
#[lj,by rw[AA];obtain W|(m0|w0)|turn:=hR Á7 hD],
#[ll,by refine ÖJ;rintro i m b H ⟨rfl,o,p⟩;have q:=hl i b H o p],
#[Ùv,["_law_left_here", "_law_stems_here", "_law_tail"]],
#[ËX,H a=U (.ins C dx fs)],
#[Û1,AL H1 H d rd rl dl R c (Án Àf++[Àg]) as],
#[lp,(low n (Z5 8 N n) i)],
#[Ûv,(ť Å)],
#[Èh,(Ò++ks)],
#[Ák,(Y8 M n)],
#[Â4,(X.L++[e])],
#[Ë7,(ÆG (QV _))],
#[Âv,(.frz o u)],
#[Çj,#[eM,"sorted"]],
#[ÈT,x ≠ "__name__"],
#[ly,by rintro _ s8 ⟨jY,H8,I8,q8⟩;have P2:=fj _ s8 jY H8 _ I8 q8],
#[ÔN,[λv=>Ër Ì y v,λv=>Ër Ì x v]],
#[Êt,["kind", "many"]],
#[Áv,PE X a ta],
#[Ûs,Df P w K mg Â 1 "with_blanks" ["words"] (Nl K)],
#[Ę,(·.2)],
#[ÁU,(no û)],
#[lF,(backToKw bq (cr [] Ì))],
#[Ói,(ZQ ü đ=0/\I.n<J.n)],
#[ÁB,(Xw N vs)],
#[Ën,(ę (XQ e t))],
#[Òr,((Âk z y).map Å)],
#[Ób,#[ee,4,"_law_keys",ÃE,Sj]],
#[Ò0,#[ee,1,"order_at",Êp,Sg]],
#[lM,by refine ah (ÑC ?_ ÅK)],
#[Ñk,(zH1 c S1 a,g,d,tk,os)],
#[lO,by refine Éq rfl (ÕM ?_)],
#[lP,by obtain _|q1|_|q3|q4|q5:=f3 b k;exact(q3,q1,q4,q5)],
#[ÒB,["desk", "heads", "names"]],
#[ÌA,Ã aa->aj->Prop],
#[Ä6,.inr "rows"],
#[ÒJ,(by show (0:Int)<_;decide)],
#[ÄW,(ÉA H)],
#[į,(ZB L)],
#[Ó9,(.lst ((p++ks).map Å))],
#[Ã3,#[ir,"int"]],
#[ÄK,#[fJ,"row"]],
#[ÛX,#[Za,Ý,#[Zd,Ý,Ý,Ý,Ý,Ý]]],
#[ÕK,typeOf #[eM,id]=pure #[ir,"method_descriptor"]],
#[Ùf,YY ù X.w X.K Ě Ő CX0 k f fd ps sp],
#[η,[.ref a]],
#[ς,À Key],
#[ÚZ,D1f P w K mg Â 5 "refuse_break" Êr (Nr K ao)],
#[ÎT,(Ĉ rfl)],
#[ØK,(NB ū a ((X.pn++d).map õ))],
#[Éc,Î],
#[Çv,(_,rfl,q)],
#[Èb,(_,_,rfl)],
#[Ðb,{ s with ï:=Ļ+1 }],
#[Çz,env.frame=U L],
#[Ñn,Ţ x=U .local],
#[Ép,È Üz Qu],
#[Ès,a ks h.2 z hz],
#[ÉQ,[z,TI,TO,i1,i2]],
#[Ês,["name", "key"]],
#[Ï7,År K č=true],
#[Š,À ae],
#[Çw,À (κ×aa)],
#[ÕY,(∀f h j,N f h j->∃l,l<m/\W (i+1) l f h j)],
#[ÐM,(λf vs=>PySem.call f vs)],
#[Êk,(j.objs.size+1)],
#[Ï2,(f (.int i t) (.int j u))],
#[ÐJ,(ak->Ã aa)->aI->Prop],
#[ÊR,(Yf s k v)],
#[Ä1,(YU L e.n)],
#[Ük,(XJ CX P w K mg Â N o j f t A Û s H E)],
#[ÂA,(ś _)],
#[Úk,(.tup [.int (Ç1 0),.int (Ç2 0)])],
#[ÇM,(.ref ap::Yv)],
#[Ãp,(.inr rfl)],
#[Ëa,#[iL,K,‹1›]],
#[ÇN,#[hS,Ão]],
#[ÓW,#[Zg,#[Zm,(WM T.g_DONE)]]],
#[ÒR,#[Zg,#[Zm,(@UE _ _ _ _)]]],
#[Î9,λe:AR=>(Ú,e.n,)],
#[Ïa,λe:AR=>(ÄZ:ZL)],
#[ÖN,é a=U (seqObj "list" Áb n)],
#[mD,by rw[Æ d]at h2;rw[Æ (f.trans d)];exact ih h1 h2],
#[mE,by have c:=congrFun ih n;unfold hdL at c ⊢;rw[Qaw,Qaw,d]],
#[Û2,(upd H' dl (.lst (as.map Å++[Å a])))],
#[Üw,(c.zip (Ær 1))],
#[Òy,(χ Ű ws)],
#[Ìb,([]:À (ae×aN))],
#[ÎN,(YC L e.n ks k' a)],
#[ÌR,(KK κ Đ (n-1))],
#[ÍC,(A.mark (U ŝ))],
#[ÀP,(.ref x)],
#[Ái,(.ref r)],
#[ÚV,#[Zd,‹1›,#[ZR,Wc,#[ZH,‹3›],‹2›]]],
#[ÓN,(_,rfl,rfl,_,rfl,?_)],
#[mQ,by rw[Qa];exact ÀY],
#[ÐX,Ţ x=U .free],
#[Ñy,Ã Nat->ž->Prop],
#[ØT,(∀a dx,ß x=U a->Êh=U dx->b≠dx)],
#[ÛL,(l = "row"/\o=.row i ks/\∀e∈R,Ú≠i)],
#[ÓG,(e.g<Į\/ks=[])],
#[Õx,(ÅA name d C m a D kV F G L g ct)],
#[Òw,(F.args_str_split_2 _ _)],
#[ÛY,(.lst ((Üx).map Å))],
#[ÒW,#[ee,2,"alike",ÂW,So]],
#[Õ5,(λx=>([]:À (ak×aa)).reverse.lookup x)],
#[ÔR,(show Ð6 a ģ from p)],
#[ÛN,(by rw[Qa,Qa];have:=cu.1;exact Ĩ Á)],
#[Ø5,(à C::.ref B::Yv).contains ç=true],
#[Ûe,(.inr (.inr (.inr (x,(ÃS g).1,z))))],
#[ÊF,(_,rfl,?_)],
#[Öb,(0,[],_,_,I4,uI,λb k=>(f3 b k).1,?_)],
#[Æd,λx:ZL=>x.1],
#[m8,by rw[Zc (λz=>by rw[z,e]at q;cases q;exact a)];exact q],
#[Ì3,k.isLeft=m.isLeft],
#[È2,aa->aa->Sem aa],
#[ÍT,["_law_key_here"]],
#[Ín,List.find?_some a],
#[ź,À aM],
#[Ún,Cf P w K mg Â 4 aw "Row" ÂX (Og aw)],
#[Ôe,ATo H H' d rd R R' c c'],
#[Å6,2<=ğ],
#[ÉF,(λ_ _=>ĕ)],
#[ÉG,(ys.map Å)],
#[nj,(Ä2 Ę)],
#[Øv,(ÅP [] (Ík i))],
#[ÅL,(ť kV)],
#[Ëv,(fs.map õ)],
#[Üt,(Z5 k Ŷ n)],
#[Å5,(U (m:Int))],
#[ÆO,(Qz (Qq e))],
#[ÏG,(ÆE b o e n a)],
#[ÁO,(.ref t)],
#[ÑM,(.ok (.ret (.ref t.1)))],
#[ÂE,(.lst ys)],
#[Îz,(.frz g Å7)],
#[Ìa,((p,w,)::P.zip vs)],
#[ÚN,(((Ř λu=>ú u.1).length:Nat):Int)],
#[ÎJ,#[gB,đ,ü]],
#[ny,#[ep,jL,dG,M2.ob]],
#[Ûl,#[Zd,#[ZC,(ixG p),Ä3,‹3›],‹2›]],
#[ÔQ,λi h g st k=>st.at λo e=>k it Ö o e],
#[nB,by rintro c d ⟨rfl,rfl⟩;exact ţ (q _ g j k)],
#[nC,by obtain s|j:=D.ok.has (show x∈(ÀN).P from b)],
#[nD,by have p:c.heap.DictOf Âf d i:=(g,C,D,j,m,n,E)],
#[nE,by have m:=one d;have p:=one j;subst l;subst m;subst p],
#[nF,by have e:=ÀV;simp only[Ôn]at e],
#[ØJ,Ui B Â NB env Û L e cls dd Ê],
#[ÉD,(λ_ _ z=>z)],
#[ÚA,(upd f o (.lst (h.map ú++[.ref y])))],
#[ÇB,(exN e C af)],
#[Èg,(ÀK L e.n)],
#[ÖD,(S1.raw_keep #[eX,c,n,Äs] D.s1z H)],
#[nM,(ę λe=>(Į:Int)-(e.g:Int))],
#[Çq,(Qap Ë _)],
#[ÇD,(.ref ÃD)],
#[ÖI,(.Call (.Name "enumerate" p) [l] [] pos)],
#[ÚP,#[Zn,RA,Ój,#[V9,T.g_MOST_ROWS],ă]],
#[Úl,#[W9,KW,ÊI,ÊJ,#[Zd,ġ]]],
#[nS,by rw[Ĉ (rfl:Å "row" = Å "row")]],
#[ÚL,RW _ #[ea,Â2,nd] s.1 (Ł s.2.1).1],
#[Úm,(upd G m (.ins am z (mgF j p t i g u)))],
#[ÒZ,(by rw[e];exact Í8)],
#[Óe,#[VJ,‹0›,Þ,Ux]],
#[Ω,#[3,Yb]],
#[nY,by subst e;exact .inl ((xs,q,Qg _),hd b H p)],
#[nZ,by show (af,0+ľ,)=(af,ľ,);rw[Nat.zero_add]],
#[n0,by rw[e,a,List.drop_zero,Nat.sub_zero,List.map_take]],
#[n1,by obtain o|p|q:=B d e m;exact(o,p,d,e,l,q)],
#[ÍR,["kind", "word"]],
#[Õ8,Y.env=bL c Än ű Ì],
#[Ìk,(λ_ _ _=>ĕ)],
#[ÜA,(by injection z)],
#[ÁH,(Key×V)],
#[Îq,(F,D,(ÀI:Int),)],
#[Íh,(.frz g (.dK f))],
#[ÙD,#[Zp,Mr,É,T.b.n_abs,boot_abs,ÄU]],
#[ÙM,(_,rfl,_,rfl,rfl,_,rfl,Y2 rfl ?_)],
#[Úb,∀t,v=U t->H t.1=U #[hX,t.2.1,t.2.2]],
#[Êu,["_law_rows"]],
#[Ög,Q8 Qa9 ě (o,j,m.1) f e Àn c],
#[Öf,Q8 Qa8 ě (_,j,rfl) f e Àn c],
#[Ãk,PE X o ta],
#[Ĕ,À V],
#[ÈS,Inv X a b H s],
#[ÃP,ABd R c i],
#[ÓX,(∃s,(s,u.2.1,)∈nm)],
#[ÏH,(λz=>a (by simp[z]))],
#[ÔH,(thn (ha b s d H Q I h) λc s1 e=>?_)],
#[Ñ9,(Ŭ İ)],
#[Ün,(Äw #[fx,f.map])],
#[ÑA,(keyKind' Áb)],
#[ω,(ixL K)],
#[Ïr,(Åq f)],
#[É9,(Ř Ę)],
#[Û3,(by rw[Qp,ÚJ h];rfl)],
#[Íl,(Âg Ę)],
#[ox,(à C::a)],
#[Ãa,(a == bC)],
#[ÐQ,(Wq ÆQ H)],
#[ÊW,(N.map ì)],
#[Óa,(ŵ õ)],
#[Øm,(Itk d o kvs)],
#[ÖW,((#[h].push ÑE).get? š)=U ÑE],
#[Êz,#[ir,"tuple"]],
#[ÔG,#[fd,ÐY,Üh,I.bk]],
#[ÊX,#[Zd,‹3›]],
#[oH,by subst f hw g;obtain m|p|D|q|r|u:=d it Ö],
#[oI,by rw[arm_exec_Raise];refine ah (bx (Kz hr.hd ?_))],
#[oJ,by obtain m|rd|sd|L|s|nb|li|lo|S|l|N|rfl|_:=h],
#[oK,by obtain F|h|T|i|j|G|J|K|L|N|O|k|l|P|n:=x.ex],
#[ÕL,bE o name Ì #[fg,o]=ā o Ì],
#[Öw,ρ Ê TI (.ref i1) (.ref i2)],
#[ÛV,(λz=>hn (Üb z))],
#[Úw,(@K4 _ _ _ _ _ _ _ _ ġ É É)],
#[ÖG,(.Call (.Name "zip" p) [a,b] [] pos)],
#[ÙC,((a % 2147483629+k*k*7919+11)*48271)],
#[ÙU,[U Ż,U Ă,U (.int N),U Ái,F,G]],
#[Äy,(À Key)],
#[ØL,ū<=Î],
#[Át,.inr rfl],
#[oV,by rw[<- (ÄC k).isSome_eq,<- l];exact h _ ÂA],
#[Ô9,(Åf C Î)],
#[ÏM,(a,b,I.unwish,q)],
#[Î1,(_,_,_,rfl)],
#[Ôf,(_,.inl rfl,rfl)],
#[ÔX,(.int (g i j),H,ś _,ÿ,q)],
#[o1,by subst e;exact f.fpOk ë (f.hok.fresh ë)],
#[o2,by subst e;exact d.fpOk ë (Éf ë)],
#[o3,by rw[eS,a,b,Q];refine bh (VP I c hm d ?_ f g)],
#[o4,by rw[bg];have C:Á9[i]? = U Á9[i]:=Qat m],
#[ÙG,q p _ b (_,_,Zb,QaX _) (Zi b _)],
#[Õ4,ű=Á7+1],
#[o7,by have:=UM n _ k h;refine(λz=>?_,λm a=>?_)],
#[ÐK,d.params.defaults=[]],
#[Âm,["word"]],
#[Ùx,["desk", "singles", "keys", "name"]],
#[ÍX,["_law_script"]],
#[Âb,Z8 j X.A],
#[Ít,Yz X.K fd ps []],
#[Õ7,È1 0 _ _ fN λb _ A e=>jE b A e],
#[Õk,Q7 Qa9 ě (o,g,l.1) e Àn h],
#[Õi,Q7 Qa8 ě (_,g,rfl) e Àn h],
#[ËT,OpR X (aR op) r],
#[ÁW,À Env],
#[ÏE,HOk ù X.w H' h'],
#[Á2,Ā aa],
#[Ù9,(λe=>if e.1=k then (e.1,v,) else e)],
#[Ôz,(λb ps e=>(#[],by rw[e];simp))],
#[Í2,(upd H l Í3)],
#[Æz,(upd H a o)],
#[Øu,(É4 kvs x.1 x.2)],
#[ÆZ,(Éh us)],
#[Èu,(os.take i)],
#[Ù7,(if (hd n).isSome then U n else af)],
#[Òb,(hideAll_get _ f hc)],
#[Èn,(hdM Æl)],
#[Èf,(ÀK L n)],
#[ÅX,(YM ÂV)],
#[Ül,(YF X c N' Î s H fp)],
#[Îk,(ÃQ z)],
#[Ðh,(Nat.lt_succ_self _)],
#[Ów,(ÀZ e he).at'.ob],
#[Æs,(ŵ tD)],
#[pD,(I.ok.bs b o e)],
#[Õm,(È7 Õn)],
#[ÂT,(.ref b)],
#[Çg,(.ok .next)],
#[ÇG,(.inr Ė)],
#[Òq,(.Tuple [a,b,c] t A)],
#[Ði,(.Attribute e f pos)],
#[Èj,#[g7,Ý]],
#[ÇX,#[g7,ř]],
#[Èk,#[fr,":",1]],
#[ÍN,#[fJ,"numbers"]],
#[Çd,#[eM,"len"]],
#[Èv,#[cm].Nodup],
#[ÖS,#[P].get? a=U (seqObj "list" #[] _)],
#[Ók,ÊZ=(Àv:Int)],
#[pS,by rw[Qa,Qa]at this;exact this],
#[pT,by refine Ō (wpS_lift (Ãg ÅH))],
#[pU,by intro b hb;exact(List.eq_of_mem_replicate hb)],
#[Úz,(Z1 s (ZV M)=af\/Z1 s (ZV M)=U af)],
#[Ôv,(Ôt č (.ref y))],
#[ØM,(NB ū H Êe)],
#[Û6,(.lst ((["k"]:À ak).map Å))],
#[Û9,#[ZA,X,D,#[Zd,‹1›,Þ],É]],
#[Òd,(a,b,I.unpnd,q)],
#[p1,by rw[Æ rfl]],
#[p2,by rw[e];exact r.fpOk ë (r.hok.fresh ë)],
#[p3,by rw[Qb l]at c;rw[Qb Á]at e;cases c;cases e],
#[Êa,i=ø],
#[Ït,e=x\/H e=U (.own x)],
#[ÑF,Ĉ Á],
#[Ò8,[.inl k.1,.inl k.2]],
#[Äc,ZG dvs ds],
#[Ék,Z8 (k+1) X.A],
#[ÃV,X.N.Nodup],
#[Äd,Wp CX X E],
#[Ï5,VL Ê x dx C mA],
#[ÃX,PE X b tb],
#[Ã5,Ã aa],
#[Äz,KV kvs vs],
#[Ã6,Cls X.K C],
#[Ã9,(vs++dvs)],
#[qi,(show NmS s from h)],
#[Üv,(o.kinds.map Å)],
#[Ël,(hdP (Y1 R))],
#[ql,(Äj o j Î f t)],
#[ÊE,(by trivial)],
#[Ñv,(by show i-1<_;lia)],
#[Ð2,(by rw[Qa]at a;lia)],
#[ÖQ,(aT.«list.sort» { pos:=η })],
#[Êo,(YM (YW ZJ))],
#[qr,(WP (st:=st) l c k)],
#[Ùa,(U #[eM,"type.__getattribute__"])],
#[ÄQ,(Qb Á)],
#[Ùp,(PySem.strKind_is ù X.w z t)],
#[ÄM,(.ref ap)],
#[Êi,(.ref B::Yv)],
#[Ür,(.lst [.int a,.int b,.int (c+1)])],
#[ÙV,(.list (([]:À ak).map Å3))],
#[Ét,(.bool true)],
#[Ùq,((X.pnd d).wish (XE (X.pnd d) E))],
#[Êy,#[ir,"bool"]],
#[È6,#[hn,Ég]],
#[ÖV,#[h].objs.size=Î+1],
#[Êq,#[fJ,"line"]],
#[Ò4,#[X0,‹0›,Þ]],
#[ÜD,λh z=>h ÜA],
#[ÜB,λb k=>QG (uG b k) #[fd,pP,QV,_]],
#[qI,by simp only[VD,↓reduceIte]],
#[qJ,by show wpS _ _ _ _ (if f>0 then _ else _) _ _],
#[qK,by refine Ō (w_rev ?_)],
#[qL,by have r:=h.each e he;rw[ep,dy,c,r.at'.ob]],
#[Ôo,ē (λq=>nomatch q)],
#[Ë8,Ě x=U ç],
#[ËR,Int->Int->Prop],
#[ÕH,(λw hw=>Rr b c r fs w #[d8,hw])],
#[Îw,(Ų:Int)],
#[qR,(Ç (Ùm a))],
#[ÛT,(ę λe=>thO Ú Ò[e.g]?)],
#[qT,(ę (·.n))],
#[Í5,(HO.lst.inj e)],
#[Öq,(F.args_tuple_iterator_next_1 _)],
#[Í7,(.int #[fI,k])],
#[Ûg,(.inr (.inr (.inl (z.trans i))))],
#[ÍO,#[fJ,"number"]],
#[Øw,(o,B,C,a.heap D _ N c,Ć)],
#[Ïu,∃u,ý e=U u],
#[Ñq,[Ào]],
#[Ùu,["_law_left_here", "_law_some"]],
#[Ñp,ÉV+64<ÂC],
#[Øl,PX a i kvs[i].1 kvs[i].2 (Qb C)],
#[ÓT,(λz=>Àd Âr)],
#[Óq,(λe=>(e.1,e.2.2,))],
#[Òu,(Ìf _ _ _)],
#[ÛH,(p.2.cps.toList<p.1.cps.toList)],
#[ÙA,(if b=true then (1:Int) else 0)],
#[Ñr,(by rw[(aO)];decide)],
#[Öt,(Çl (.ref i))],
#[Ùi,(PySem.W.clsIn K D).isSome=true],
#[Øg,(PySem.F.args_dict_get_3 _ _ _)],
#[Ø0,(Üi _ FV.quiet)],
#[Úx,(.tup [kV (.inl e.n),.ref e.p])],
#[Üa,(.lst #[gQ,26,13])],
#[ÏS,(.Tuple [a,b] l m)],
#[Ø8,(.FormattedValue e (-1) af pos)],
#[ÔJ,(.BoolOp .And (a::b::Ć) pos)],
#[Û8,#[eU,"row","q",e2]],
#[Ðm,#[eB,t,Â8,i,d]],
#[Û4,#[YG,#[Zd,Ý,‹6›,Â6]]],
#[ÁY,.inl rfl],
#[Éy,(Çf rfl)],
#[rp,by subst a;rw[Æ rfl]at q],
#[rq,by have uH:∀b∈fp,b<ű:=ÜB],
#[rr,by have no:ÜC:=ÜD],
#[rs,a_,PySem.W.typeIn K a_=U Êj],
#[rt,a_,b_,c_,d_,by have a_:(upd b_ c_ d_) c_=U d_:=Zb],
#[ru,a_,b_,c_,(upd a_ b_ c_) b_=U c_],
#[rv,a_,(Î+a_)],
#[rx,a_,b_,c_,d_,∀b o,a_ b=U o->b≠b_->(upd c_ b_ d_) b=U o],
#[ry,a_,b_,#[Zn,a_,b_,Þ,ă]],
#[rz,a_,b_,c_,(λh z=>h (by show (a_ b_:Key)=_;rw[z]),λh z=>h c_)],
#[rA,a_,b_,c_,#[ZC,a_,‹b_›,‹c_›]],
#[rB,a_,Ô8 K a_=true],
#[rC,a_,b_,c_,d_,e_,by have a_:=Zi b_ ÁN;rw[eH,c_,d_,e_,ÁN]],
#[rD,a_,(.inr (.inl (rfl,.inl (_,a_))))],
#[rE,a_,b_,(Ž a_ a_ b_-Ž a_ 0 lo)],
#[rF,a_,by refine ah (seqEpoch_at a_ rfl ?_)],
#[rG,a_,b_,hdS (Zt64 (a_ b_))],
#[rH,a_,b_,(∀H,SqT K H a_ [.ref b_,.non])],
#[rI,a_,b_,[.ref a_,.ref b_]],
#[rJ,a_,b_,#[ZR,a_,‹b_›,Þ]],
#[rK,a_,(ZW I q (ł not a_))],
#[rL,a_,b_,c_,by rw[eS,a_,b_,Q];refine QaO (pl:=pl) #[ei,he,a_,b_] c_],
#[rM,a_,ËY K a_ Áy=true],
#[rN,a_,b_,c_,d_,by rw[a_ (λb_=>by rw[b_,c_]at d_;cases d_)];exact d_],
#[rO,a_,b_,c_,(_,rfl,_, a_,_,_,rfl,.int i,b_ K,_,rfl,c_ ?_)],
#[rP,a_,b_,c_,(@a_ _ _ _ _ _ _ _ _ _ _ d.xc b_ ‹0› ‹c_› É)],
#[rQ,a_,by show (Z6 (ZS a_)).Nodup;rw[<- Xp];exact Ũ],
#[rR,a_,#[gT,K,2,#[d7,2,a_,3]]],
#[rS,a_,b_,#[fQ,a_,b_,b_]],
#[rT,a_,b_,#[Zu,a_,b_,á]],
#[rU,a_,#[eT,o,ß,o,a_]],
#[rV,a_,b_,∀b∈fp,Xx X a_ b_ b],
#[rW,a_,b_,c_,by refine(_,rfl,_, a_,_,_,rfl,.int i,b_ K,_,rfl,c_ ?_)],
#[rX,a_,b_,c_,d_,#[ZA,a_,b_,#[e2,c_,d_],É]],
#[rY,a_,b_,c_,#[ZN,#[Zn,(a_ b_),‹3›,c_,Áa],ÓV,ò]],
#[rZ,a_,b_,c_,by rw[fQ,a_,b_,b_];have c_:=Qr a_;have b9:=(Ł a_).1],
#[r0,a_,b_,c_,by obtain a_|b_:=ÑZ b o e c_],
#[r1,a_,by have hb:(g == a_)=true:=beq_iff_eq.mpr h],
#[r2,a_,b_,[.ref a_,.int b_]],
#[r3,a_,b_,c_,(a_,b_,)∈Ń λy=>(c_,y,)],
#[r4,a_,(β a_:Key)],
#[r5,a_,b_,(.Attribute o a_ b_)],
#[r6,a_,b_,#[X1,a_,‹b_›,Ý,ă]],
#[r7,a_,b_,c_,∀a_∈b_,X3 λz n s=>c_=Ïc/\AZ z/\AZ s],
#[r8,a_,by rw[a_,TX,ē Á]],
#[r9,a_,(show b∈([]:À ae) from a_)],
#[sa,a_,(∃m,W 0 m a_ H)],
#[sb,a_,b_,#[ep,a_,b_,D.mg.M.ob]],
#[sc,a_,(∀H,SqT K H a_ [.str "name"])],
#[sd,a_,(.inr (.inl a_))],
#[se,a_,b_,(.inr (a_,_,rfl,rfl,b_))],
#[sf,a_,b_,(.compLoop a_ 0 b_ ÀE ÜE)],
#[sg,a_,#[X0,‹0›,(@a_ _ _)]],
#[sh,a_,b_,c_,d_,e_,by rw[Zc (Ze a_ b_)];exact c_ _ _ (d_ e_ u a_)],
#[si,a_,b_,by refine(a_,b_,?_)],
#[sj,a_,(.int (a_ ü đ))],
#[sk,a_,b_,ÃY (ö (K:=X.K) (a_ t b_))],
#[sl,a_,b_,#[Zx,3,a_,á,‹b_›]],
#[sm,a_,b_,#[fV,a_,b_,Áj]],
#[sn,a_,(.inl (rfl,.inl (_,a_)))],
#[so,a_,b_,c_,d_,e_,(by rw[<- a_];exact R9 b_ (λt c_=>d_ _ _ (e_ t c_)))],
#[sp,a_,b_,a_ (ZW I q (ł not b_))],
#[sq,a_,b_,(by rw[a_,b_];lia)],
#[sr,a_,(.lst (YN a_))],
#[ss,a_,b_,by rw[eN,z,a_,b_]],
#[st,a_,by obtain f|a_|F|m|b:=T.ex],
#[su,a_,a_ (t':=Ã0) λb o e=>Qc _ e],
#[sv,a_,b_,by exact a_ (ZW I q (ł not b_))],
#[sw,a_,b_,c_,#[XF,a_,â,b_,‹0›,c_]],
#[sx,a_,((a_,rfl),rfl)],
#[sy,a_,b_,#[fV,a_,b_,ÊN]],
#[sz,a_,(by rw[a_];simp)],
#[sA,a_,b_,c_,∀b o,H b=U o->b≠a_->b≠b_->c_ b=U o],
#[sB,a_,b_,(Qd (f:=λx:Zz=>(a_,x,)) b_)],
#[sC,a_,b_,by rw[Æ a_]at b_],
#[sD,a_,b_,c_,a_ r λb_ c_=>h b_ (Ql _ c_)],
#[sE,a_,b_,c_,d_,e_,by rintro zs a_ b_ ⟨⟨c_,rfl⟩,rfl,_,d_,e_⟩],
#[sF,a_,b_,c_,by obtain a_|b_|c_:=Ğ this],
#[sG,a_,by have ex:=ok.row1 a_ w g1 i;subst ex],
#[sH,a_,λb a_=>Qah _ _ (Ás a_)],
#[sI,a_,b_,c_,d_,e_,by have a_:=ÀZ e b_;rw[ep,c_,d_,e_]],
#[sJ,a_,b_,c_,d_,e_,by obtain a_|b_|c_:=d_ e_],
#[sK,a_,b_,(by rw[a_];exact Qs _,by rw[a_,b_])],
#[sL,a_,b_,c_,#[ZR,a_,‹b_›,‹c_›]],
#[sM,a_,a_->ž->Prop],
#[sN,a_,b_,c_,by rw[eS,e,f,a_];refine b_ #[ei,c_,e,f]],
#[sO,a_,b_,(a_++ÁA b_ af)],
#[sP,a_,(But.same (Zi a_ _))],
#[sQ,a_,b_,a_ b_=U .cell\/a_ b_=U .free],
#[sR,a_,b_,c_,d_,e_,by obtain a_|b_|rfl|c_|d_|e_|q:=h],
#[sS,a_,b_,c_,by obtain a_|b_|rfl|c_|q:=h],
#[sT,a_,ÂJ a_ z TI TO .ellipsis],
#[sU,a_,b_,(mirror Đ a_ b_ ((b_-a_) / 2))],
#[sV,a_,b_,(a_ b_).length<aq],
#[sW,a_,b_,c_,#[Yi,a_,ņ,b_,‹c_›]],
#[sX,a_,b_,c_,d_,(a_ _ _ b_ (λz=>by rw[z,c_]at d_;cases d_))],
#[sY,a_,ĝ a_=true],
#[sZ,a_,by rw[eA,t,a_]],
#[s0,a_,a_<Î],
#[s1,a_,#[ea,a_,ŭ]],
#[s2,a_,b_,(∀s∈a_,ŧ<=b_)],
#[s3,a_,b_,c_,d_,e_,by rw[Zc (Ze a_ b_)];exact c_ d_ e_ a_],
#[s4,a_,b_,c_,d_,(by rw[<- a_ b_ c_];exact d_)],
#[s5,a_,b_,c_,d_,#[Zd,‹a_›,‹b_›,‹c_›,‹d_›]],
#[s6,a_,b_,c_,Ņ K aL a_ = U (U (.str b_ c_))],
#[s7,a_,(Âu a_:Key)],
#[s8,a_,b_,Uv (X:=X) S a_ Än b_ x],
#[s9,a_,∀b∈a_ M n,b∈M],
#[ØF,∀T,Î<=T->NB T],
#[tb,by show ar _ _ (seqItems? ÁO >>= _) _ _ s],
#[tc,by refine T.t_Merge_play.mf Wl #[iv,vs] Ôj],
#[td,by obtain L|g:=ÈM b o e n t hx],
#[ÕU,È rfl (S.nocell _ (Te q))],
#[Ú5,[U (.str d),U Ħ,U ÂT,v]],
#[ÆU,Yu X.K C f],
#[Õc,Ùz K ÇE=U true],
#[Ô4,ËY K C name=true],
#[ÚU,(λe=>(e.1,e.2.2.1[e.2.2.2]?,))],
#[ÕJ,(λa c i e=>f its d g a c i e)],
#[Ùk,(upd l Íz (exN Íz C af))],
#[Ö1,(aR .Lt (.str x t) (.str y u))],
#[ÖZ,(aR .Lt (.int i t) (.int j u))],
#[Èo,(ZB Æl)],
#[Ór,(Z5 k M n)],
#[Ê2,(Z5 8 N n)],
#[ts,(ÁA Ìu a.cps)],
#[Èc,(À Int)],
#[Ùt,(Bk e d _ _ _ _ (I4.mkd e) bM)],
#[Ú6,(.lst ([.str d]++e.map Å))],
#[ÇU,(.list [])],
#[ÆL,(.bl true)],
#[ÔL,(.BoolOp .Or (a::b::Ć) pos)],
#[ÛQ,#[ee,2,"_law_coming",ÁJ,MU]],
#[ÛC,#[ee,15,"do_grow",ÄL,Ûk]],
#[Úc,(λz=>?_,λz=>?_,λz=>?_)],
#[Ûf,(λa z=>a ?_,λa z=>a ?_)],
#[Éi,(us,[])],
#[Év,(t,rfl)],
#[Ñs,(rfl,rfl,rfl)],
#[Ó5,(_,_,_,_,rfl)],
#[Ó4,([],0,0,0,[])],
#[tI,by rw[hy,a,q];rw[ē (Io a)]],
#[tJ,by obtain m|hn|_:=id F.loc;rw[Yl]at hn],
#[tK,by obtain f0|f1|f2|f3|f4|f5:=n it Ö],
#[ËW,Č<=aq],
#[tM,by intro bs S g;generalize e:f++[o]=os at g],
#[ÖR,ÑN ha (λ_=>#[])],
#[Ë9,ak->Ã aV],
#[Üs,[.inl (ZV N).1,.inl (ZV N).2]],
#[Ùw,["one", "other", "far", "at"]],
#[ÒC,["desk", "heads"]],
#[Íe,ZK ù X.w],
#[Õ9,Y.env.locals=ű],
#[Ùs,X.A.frames=U (Ì::Âw)],
#[Ú9,Qbd _ (λa b c z=>c Æj) nd],
#[Ë0,PE X Àm tv],
#[Ål,PE X e te],
#[Íd,À (TE×TE)],
#[È4,Ū Ê],
#[ËP,Inv X c d H s],
#[ÐI,ÆG ë],
#[ÑR,H b=U #[iq,k.map]],
#[É5,H a=U ÁG],
#[ŋ,Gl X x],
#[Ód,(∃xs,o=.tup xs)],
#[ÐF,(λx=>x.1.isSome)],
#[ÚF,(λj hj=>by rw[Ww,Ç hj])],
#[Å4,(λ_=>?_)],
#[ËS,(tOp r ta tb)],
#[Ô2,(p f D g E x y v u _ F B l G)],
#[Óy,(low e.n ÎI i)],
#[ËE,(frs Ε)],
#[Ñu,(by show i<_;lia)],
#[ÓM,(by rw[k];decide)],
#[ÛW,(by rw[Qa,Qa,Qw];exact ÀY)],
#[Öe,(ba lp ÉD λ_ _ z=>Çy)],
#[Õs,(à š::us)],
#[ui,([]:À Keyword)],
#[Ðg,(Zv f y fs)],
#[uk,(Zv f v fs)],
#[ÆA,(ZK P w)],
#[Ëm,(Z6 (Y1 R))],
#[Üu,(Yf s (ZV M) (U (S,R,Èe,)))],
#[Öj,(Áh sep ys)],
#[ÊK,(Ï Zb)],
#[ÛS,(ę nkA)],
#[Øf,(PySem.F.args_dict_get_2 _ _)],
#[ÖP,(Fin.done (Flow.ret Ài))],
#[uu,(B2.due Á)],
#[Ô1,(.Compare a [op,i] [b,c] pos)],
#[ÊU,(į).Nodup],
#[Ót,#[ii,Âd,ì]],
#[Ér,#[ie,_,_,q]],
#[Ãj,#[hz,aa]],
#[Óz,#[hQ,Ř,u,u.1]],
#[Ï0,#[hN,b,ã]],
#[uC,#[gg,dx,hm]],
#[Ê9,#[fr," ",1]],
#[Úe,#[ee,2,"liken_from",ÄI,Oi]],
#[ÛB,#[ee,15,"do_row",ÄL,Ûi]],
#[Ôh,#[eU,"drop",C,e1]],
#[ÔA,#[eT,u,é,u,ý]],
#[ÒF,#[eD,"_law_name"]],
#[Ïi,#[Zd,‹5›]],
#[Ôg,#[ZT,#[Zd,Ý]]],
#[ÛP,(s,t,e.n,k,Ò++ks,e.g)],
#[ÕT,∀b∈fp,b<Î],
#[Õ1,∀b∈fp,b<Á7],
#[ÕD,ÙB=ŗ],
#[uP,by show ar _ _ (field Áw 0 >>= _) _ _ s],
#[Õ6,oz.extBut b A ÆO (Qc _ e)],
#[uR,by obtain (T|j)|_|_:=ê e _ he],
#[Ô0,lastMarks [op,i] [b,c]=false],
#[uT,by have N:=C e he;rw[ep,de,gk,N.at'.ob]],
#[Õ0,ÐS c Ì=pure Än],
#[Ùj,È this (Qbh.mpr (QV _))],
#[Øe,[Ée,(false,ā f Ì,)]],
#[Õo,VH P w K mg Â A Û s H],
#[ÖO,ÑK κ ÉY],
#[Ùg,(λv eZ dI=>ah (bx (av dI)))],
#[Úd,(upd H sd (.dT (kvS ÊR)))],
#[Öo,(Çl Áw)],
#[ÖE,(Qc _ (Qc _ (Qt _ (l _ _))))],
#[Úv,(.tup [.int t.2.1,oV t.2.2])],
#[ÔI,(.BoolOp .And (b::Ć) pos)],
#[Ûr,λu:ae×Int×Ã ak=>u.2],
#[Ù2,¬ lcp ü đ=ſ],
#[u7,by rw[cr];obtain rfl|q:=h;cases b],
#[Ŗ,Ļ],
#[u9,by rintro rfl;have e:=Äg a o hk],
#[va,by have:=R4 h;refine(λz=>?_,λm=>?_)],
#[Ñm,ζ],
#[Öu,bW z = "str_ascii_iterator"],
#[ÛO,[.inr z,.inl e.n,.inr Ú]],
#[Ö9,[(Èi "default",d,)]],
#[Ó7,XR ok.nd r i rfl],
#[ÑU,À (Ã aK)],
#[Ûa,.inl λe a z=>h (e,a,z)],
#[Óh,(λb o h _ _=>h)],
#[Ó6,(z.symm.trans y)],
#[ÖT,(vs.toArray.zip Áb)],
#[ÚT,(upd H a (.dK (kvM Ä1)))],
#[ÚQ,(upd G g (.dK (kvM ÓB)))],
#[Ûb,(nm++[(s,Ē,)])],
#[ÖK,(j.cps.toList<i.cps.toList)],
#[ÑG,(f.symm.trans e)],
#[ÑH,(e.trans d.symm)],
#[Ïv,(c b _ q λz=>z)],
#[ÕE,(by rw[d];exact(_,l,q))],
#[Á3,(ak×V)],
#[ÑX,(aG [e,f] Ì)],
#[Úr,(Zv "looked" (.int 0) Ç9)],
#[Ù4,(Zv "all_keys" (.ref k) [])],
#[ÑV,(YX kvs p.1 p.2)],
#[ÓL,(WM T.g_NOTHING)],
#[Ø6,(Üi _ û)],
#[ÙW,(.list ((y::B).map Å3))],
#[Ðt,(.cons rfl .nil)],
#[ÔK,(.BoolOp .Or (b::Ć) pos)],
#[Ú2,#[g3,1,"is_key","thing",Nm]],
#[ÚM,#[fy,u.2.1,u.2.2.1,u.2.2.2]],
#[ÓO,#[eo,YT,0,Ý]],
#[ÙT,#[ee,3,"_law_key",ÍK,Oo]],
#[ÙH,#[ee,1,"_law_mix",ÍI,Ou]],
#[Ôi,#[eU,"row",C,e3]],
#[ÛU,([],rfl,#[ex,t,h],rfl)],
#[ØH,∀b o,ÃB b=U o->b≠T],
#[Îc,λz=>d ÇW],
#[ËI,λ_ _=>ĕ],
#[vN,by show wpS _ _ _ _ (modify _ >>= _) _ _],
#[ÖU,ÑO l Áb],
#[vP,by rw[exec_Assign_arm];refine ah (bx ?_)],
#[vQ,by refine T.t_l_same.df Ki #[iv,vs] Ôj],
#[ÄF,ae->Prop],
#[Äx,[.ref l]],
#[ÕR,Y6 a ((n,k,)::r) b=Y6 a r b],
#[Öv,ÂJ Ê z TI TO .none],
#[ËA,Àj x c e],
#[Íy,Ãe l],
#[ËF,(λ_ _ e=>e)],
#[Ød,(upd H a (.dK (WO kvs k)))],
#[Íx,(toString i)],
#[Øn,(t.endLine == u.line)=true],
#[Ôu,(show ß a=U _ from x)],
#[ÎY,(s,e.n,)∈nm],
#[Ûu,(o.sw++o.fw)],
#[Èl,(kvN nm)],
#[Ú7,(ť kT0)],
#[ÌD,(dC (av ?_))],
#[Õ3,(by intro y hy;simp at hy)],
#[Ã1,(ax P w)],
#[ÑT,(YX kvs k v)],
#[ÍH,(YM (YS ZJ))],
#[ÍD,(St->XK)->TS],
#[ÙS,(Ôl _ a)],
#[ÔC,(ÈK b o e n t hx)],
#[we,(Âs e he)],
#[ÄE,(.int n)],
#[ÄD,(.dK [])],
#[Ì0,#[iq,ť]],
#[ÍL,#[fJ,"rows"]],
#[ÍM,#[fJ,"many"]],
#[Ïf,#[ef,Y3.map]],
#[ÛZ,#[ee,5,"_law_row",ÃE,N6]],
#[ÏJ,(v,H,I,r,h)],
#[Û7,(Qk mE.2.2 Ë,mE.1)],
#[Ó0,∀o∈os,OdW o],
#[ÖM,ţ (q n st B o p S)],
#[wr,by rw[hl,h5,h6,ih,u,hu];rw[Qj,QR,QA]],
#[Ön,s.heap.IsTupleIter it t i],
#[Òi,rest.length<=aq],
#[wu,by refine Ō ?_],
#[Òl,ÀD<=1000],
#[Ù1,inj (Ľ c)],
#[ÛK,È rfl (d.mp h1 _ g1)],
#[É6,Z9 H a y o],
#[Ï1,V->Hp->VK->Prop],
#[Ëg,å this],
#[ÐR,PySem.W.OpenLaw],
#[Êb,À ÁE],
#[Çu,À Ð],
#[ÑS,H a=U (.dT kvs)],
#[Ñ2,Ā (Int×aa)],
#[Ûn,(∀e∈nm,e.1.length<=8)],
#[Ò9,(λz=>h (Oe z))],
#[Ö4,(λa b=>Y4 b.2 a.2=false)],
#[ØC,(upd H p (.tup [kV k,x]))],
#[Ò2,(upd Ò1 t T)],
#[Ûo,(thO (Yt nm h.2.1) h.2.2)],
#[ÒH,(ń:Int)],
#[Òk,(ne this Âj)],
#[wO,(mem x l)],
#[Î7,(dkR rd c)],
#[ÊQ,(by rw[h])],
#[Ø3,(by rw[QN,FV.noName];rfl)],
#[Ø2,(by rw[QN,FV.noAttr];rfl)],
#[Ï3,(Ã2 .Add)],
#[Ò6,(ZQ x y=0/\a<b)],
#[ÓF,(YC L n ks k f)],
#[Ía,(Y5 kvs k)],
#[ÏL,(X.wish E)],
#[Òc,(X.pnd ai)],
#[ÉN,(Qt _ rfl)],
#[w0,(ÃS he)],
#[w1,(Nat.log2_lt z)],
#[ÔS,(Itr lo n)],
#[ÏU,(Itl K a)],
#[ÏF,(ÀA x c e)],
#[ÔZ,(.Compare a [op] [b] pos)],
#[Ó3,((d+_:Nat):Int)],
#[ÆI,#[id,Loc]],
#[w8,#[hy,e,h]],
#[É0,#[hn,Ð]],
#[Ôd,#[gw,M,g,kvA,R]],
#[xb,#[g9,ok,j,a,st]],
#[ÇC,#[ex,_,z]],
#[ÚE,#[ee,2,"way_up",ÄJ,NF]],
#[ÚS,#[eR,1,"row_of",ÁI,RV]],
#[ØO,(by simp,λT' d=>?_)],
#[ÕI,(Ļ+1,by rw[QE,c])],
#[ÙO,(_,rfl,_,rfl,rfl,?_)],
#[xi,by subst m hw n;obtain N|x|l|r:=q],
#[xj,by rw[sZ,hp];rw[dn]],
#[xk,by obtain i|w:=mem e h1;rw[m]at i],
#[xl,by obtain a|q:=Ño I c f],
#[ÔY,Ï4 op b=false],
#[ÛJ,È m (d.mpr g1 e h1)],
#[ÕZ,(∀p∈X.pn++Z,p.1≠C)],
#[Ûq,(λt=>(t.2.1,U t.2.2.2,))],
#[Ús,(upd H a (.frz j Å7))],
#[ÚK,(by show ¬ 2<=1;decide)],
#[ÕA,(by rw[d];simpa using k)],
#[Ù5,([]:À Á3).length=0],
#[xu,(ÁC ĺ)],
#[ÙI,(ÒK _ Á)],
#[ÙY,(.lst (ÒY++[.int z]))],
#[ÔU,(((a-lo).toNat:Nat):Int)],
#[ÙE,(((ξ).length:Nat):Int)],
#[Ùy,("_law_left_here",.free,)],
#[ÕS,#[gU,o.names.lookup,y.1]],
#[Ù3,#[ee,3,"liken",ÂW,Oj]],
#[ÚB,(_,λaS H' h=>h,?_)],
#[Ìp,(?_,?_)],
#[Öm,(.str _,H,I,ÿ,q)],
#[Ût,∀e∈nm,e.1.length<=8],
#[Î0,ŧ<=8],
#[Öx,Æ9 (.ref z) "zip"],
#[xI,by rw[Ç (λz=>h Æj),Ç h]],
#[xJ,by injection this],
#[ËQ,i=ã],
#[Ïs,ĺ<=a],
#[Ø4,ØU rfl rfl],
#[Ì2,ZE (kV m) q],
#[Ì1,ZE (kV k) p],
#[Ðq,Ě x=U č],
#[ÚH,Win Ą į (U e.n)],
#[Ïl,Ã Ð],
#[Â1,À Yk],
#[Â3,À Od],
#[Íc,KT H kvs xs],
#[Öa,HOk ù X.w l t.heap],
#[ÓS,Àd (.inl z)],
#[Øo,A.freeze B ŭ j],
#[ÎB,1<Č],
#[Æa,.inl e.n],
#[ÔP,(∀b∈fp,Xx X ai H b)],
#[x1,(ys.map Ân)],
#[ÒM,(ċ:Int)],
#[ÐT,(x == n)=false],
#[Öl,(n == 1||ļ == 0)],
#[Úu,(kvM L).length=Àv],
#[Ô3,(if i<0 then -i else i)],
#[ÌN,(Ã8 a)],
#[ÓA,(hdM (L++[e]))],
#[ÌM,(g i2 Ö)],
#[ÌL,(g i1 Ö)],
#[ÌK,(g TO Ö)],
#[yc,(dB lo a af n)],
#[Ña,(by size_fits)],
#[Ø1,(by rw[QN,FV.hasB,Qaq])],
#[Ò7,(ae×Int×Int)],
#[Õr,(à š::(us++ds))],
#[ÑW,(aG [e] Ì)],
#[ÂF,(XY st)],
#[yj,(Uz f y fs)],
#[ÎM,(Qbi _ QaB)],
#[yl,(Ô6 a)],
#[ÌW,(Ás u)],
#[Õw,(List.take_sublist _ _)],
#[ÚD,(ÚC j)],
#[yp,(ŵ (·.p))],
#[ÕX,(J.stop i c/\Q Ι c)],
#[yr,(Üh I.bk)],
#[ËC,(G b o e a)],
#[yt,(Âs y f)],
#[Åk,(.str x)],
#[Æc,(.ref m)],
#[ÅW,(.ref c)],
#[ÌJ,(.ref š)],
#[Åe,(.own a)],
#[Åj,(.int i)],
#[Ïb,(.inr Ú)],
#[Åa,(.inl i)],
#[Ì7,(.inl ĳ)],
#[yD,((Z1 s (ZV M)).map stV)],
#[ÎX,#[gq,Àd]],
#[Ío,#[gD,ÅR]],
#[yG,#[fx,Âd]],
#[Üm,#[fx,Ń]],
#[ÓZ,#[ef,Î4]],
#[Í6,#[ef,Âd]],
#[ÎK,#[ea,Qo,nd]],
#[Óp,#[ea,Qa,ÀY]],
#[Úi,#[eR,3,"meet",ÍQ,NN]],
#[ÅN,#[eO,Qa]],
#[ËU,#[eM,"min"]],
#[Ïm,#[eE,1,100]],
#[ÍY,#[eD,"row"]],
#[ÒG,#[eD,"_law_n"]],
#[ÚO,#[Zx,2,Sy.nd,á,ġ]],
#[Îl,#[Zg,Ê8]],
#[yU,a_,b_,∀a_ s',Inv X ai σ b_ s'->ZE v a_->Q a_ s'],
#[yV,a_,hdS (Zt64 (œ (YO a_)))],
#[yW,a_,#[YQ,Q0,Qaj,Qak,(U3 K),Ý,a_]],
#[yX,a_,b_,c_,∀a_ b_,H a_=U (.tup b_)->c_ a_=U (.tup b_)],
#[yY,a_,b_,c_,∀b a_,H b=U a_->b≠b_->c_ b=U a_],
#[yZ,a_,(bX a_ Ì)],
#[y0,a_,b_,c_,ÆJ a_ b_ c_],
#[y1,a_,hdS (Ŧ (œ a_))],
#[y2,a_,b_,(.bl a_,H,I,rfl,b_)],
#[y3,a_,by rw[this]at a_;cases a_],
#[y4,a_,b_,#[fV,a_,b_,ÜF]],
#[y5,a_,b_,Qd (f:=λx:α×a=>a_) b_],
#[y6,a_,(λz=>(a_ _ z).2.1 rfl)],
#[y7,a_,b_,c_,by refine(a_,λb_ c_=>?_)],
#[y8,a_,b_,c_,d_,e_,by obtain oc|od|kV|a_|b_|c_|d_|ct|l7|rfl|lk|e_:=F.ex],
#[y9,a_,ũ=.dict a_ ep],
#[za,a_,[.str x,.str y,.int a_]],
#[zb,a_,b_,c_,d_,e_,by have a_:#[r3,b_,c_,d_]:=#[fB,d_,e_]],
#[zc,a_,b_,c_,d_,(lcp x a_<=lcp b_ c_/\lcp d_ z=lcp x a_)],
#[zd,a_,b_,by have a_:=b_ h2;rw[z,a_]at this],
#[ze,a_,b_,c_,d_,(_,rfl,a_,rfl,#[ho,b_],λc_ d_=>?_)],
#[zf,a_,by rw[Ç a_]],
#[zg,a_,(∀f,Yo Ïr (a_ f))],
#[zh,a_,b_,c_,(a_,Âa _ _ b_ c_)],
#[zi,a_,b_,by obtain e|n|ne|a_|d:=Àk p b_],
#[zj,a_,(by rw[a_];rfl)],
#[zk,a_,b_,(Ŵ,λa_ b_=>?_)],
#[zl,a_,by rw[a_]at this;exact this],
#[zm,a_,b_,c_,(thn #[eu,he,a_,b_] λu c_ a=>?_)],
#[zn,a_,b_,(.lst ((a_ b_ n).map ì))],
#[zo,a_,b_,c_,(.ins a_ b_ (dkF c_ nd))],
#[zp,a_,b_,by rw[a_,Zb];rw[a_,Ÿ]at b_;exact b_]]
inductive X2 {t0 t1:Type} (p:t0->t1->Prop):Prop where
 | mk (a0:t0) (a1:t1) (h:p a0 a1)
inductive X3 {t0 t1 t2:Type} (p:t0->t1->t2->Prop):Prop where
 | mk (a0:t0) (a1:t1) (a2:t2) (h:p a0 a1 a2)
inductive X4 {t0 t1 t2 t3:Type} (p:t0->t1->t2->t3->Prop):Prop where
 | mk (a0:t0) (a1:t1) (a2:t2) (a3:t3) (h:p a0 a1 a2 a3)
inductive X5 {t0 t1 t2 t3 t4:Type} (p:t0->t1->t2->t3->t4->Prop):Prop where
 | mk (a0:t0) (a1:t1) (a2:t2) (a3:t3) (a4:t4) (h:p a0 a1 a2 a3 a4)
inductive X6 {t0 t1 t2 t3 t4 t5:Type} (p:t0->t1->t2->t3->t4->t5->Prop):Prop where
 | mk (a0:t0) (a1:t1) (a2:t2) (a3:t3) (a4:t4) (a5:t5) (h:p a0 a1 a2 a3 a4 a5)
inductive X7 {t0 t1 t2 t3 t4 t5 t6:Type} (p:t0->t1->t2->t3->t4->t5->t6->Prop):Prop where
 | mk (a0:t0) (a1:t1) (a2:t2) (a3:t3) (a4:t4) (a5:t5) (a6:t6) (h:p a0 a1 a2 a3 a4 a5 a6)
inductive X8 {t0 t1 t2 t3 t4 t5 t6 t7:Type} (p:t0->t1->t2->t3->t4->t5->t6->t7->Prop):Prop where
 | mk (a0:t0) (a1:t1) (a2:t2) (a3:t3) (a4:t4) (a5:t5) (a6:t6) (a7:t7) (h:p a0 a1 a2 a3 a4 a5 a6 a7)
inductive X9 {t0 t1 t2 t3 t4 t5 t6 t7 t8:Type} (p:t0->t1->t2->t3->t4->t5->t6->t7->t8->Prop):Prop where
 | mk (a0:t0) (a1:t1) (a2:t2) (a3:t3) (a4:t4) (a5:t5) (a6:t6) (a7:t7) (a8:t8) (h:p a0 a1 a2 a3 a4 a5 a6 a7 a8)
inductive X10 {t0 t1 t2 t3 t4 t5 t6 t7 t8 t9:Type} (p:t0->t1->t2->t3->t4->t5->t6->t7->t8->t9->Prop):Prop where
 | mk (a0:t0) (a1:t1) (a2:t2) (a3:t3) (a4:t4) (a5:t5) (a6:t6) (a7:t7) (a8:t8) (a9:t9) (h:p a0 a1 a2 a3 a4 a5 a6 a7 a8 a9)
inductive X11 {t0 t1 t2 t3 t4 t5 t6 t7 t8 t9 il:Type} (p:t0->t1->t2->t3->t4->t5->t6->t7->t8->t9->il->Prop):Prop where
 | mk (a0:t0) (a1:t1) (a2:t2) (a3:t3) (a4:t4) (a5:t5) (a6:t6) (a7:t7) (a8:t8) (a9:t9) (fg:il) (h:p a0 a1 a2 a3 a4 a5 a6 a7 a8 a9 fg)
inductive X12 {t0 t1 t2 t3 t4 t5 t6 t7 t8 t9 il jg:Type} (p:t0->t1->t2->t3->t4->t5->t6->t7->t8->t9->il->jg->Prop):Prop where
 | mk (a0:t0) (a1:t1) (a2:t2) (a3:t3) (a4:t4) (a5:t5) (a6:t6) (a7:t7) (a8:t8) (a9:t9) (fg:il) (kZ:jg) (h:p a0 a1 a2 a3 a4 a5 a6 a7 a8 a9 fg kZ)
inductive X13 {t0 t1 t2 t3 t4 t5 t6 t7 t8 t9 il jg k7:Type} (p:t0->t1->t2->t3->t4->t5->t6->t7->t8->t9->il->jg->k7->Prop):Prop where
 | mk (a0:t0) (a1:t1) (a2:t2) (a3:t3) (a4:t4) (a5:t5) (a6:t6) (a7:t7) (a8:t8) (a9:t9) (fg:il) (kZ:jg) (oj:k7) (h:p a0 a1 a2 a3 a4 a5 a6 a7 a8 a9 fg kZ oj)
inductive X14 {t0 t1 t2 t3 t4 t5 t6 t7 t8 t9 il jg k7 pK:Type} (p:t0->t1->t2->t3->t4->t5->t6->t7->t8->t9->il->jg->k7->pK->Prop):Prop where
 | mk (a0:t0) (a1:t1) (a2:t2) (a3:t3) (a4:t4) (a5:t5) (a6:t6) (a7:t7) (a8:t8) (a9:t9) (fg:il) (kZ:jg) (oj:k7) (qC:pK) (h:p a0 a1 a2 a3 a4 a5 a6 a7 a8 a9 fg kZ oj qC)
inductive X15 {t0 t1 t2 t3 t4 t5 t6 t7 t8 t9 il jg k7 pK ul:Type} (p:t0->t1->t2->t3->t4->t5->t6->t7->t8->t9->il->jg->k7->pK->ul->Prop):Prop where
 | mk (a0:t0) (a1:t1) (a2:t2) (a3:t3) (a4:t4) (a5:t5) (a6:t6) (a7:t7) (a8:t8) (a9:t9) (fg:il) (kZ:jg) (oj:k7) (qC:pK) (um:ul) (h:p a0 a1 a2 a3 a4 a5 a6 a7 a8 a9 fg kZ oj qC um)
inductive X16 {t0 t1 t2 t3 t4 t5 t6 t7 t8 t9 il jg k7 pK ul DC:Type} (p:t0->t1->t2->t3->t4->t5->t6->t7->t8->t9->il->jg->k7->pK->ul->DC->Prop):Prop where
 | mk (a0:t0) (a1:t1) (a2:t2) (a3:t3) (a4:t4) (a5:t5) (a6:t6) (a7:t7) (a8:t8) (a9:t9) (fg:il) (kZ:jg) (oj:k7) (qC:pK) (um:ul) (Ar:DC) (h:p a0 a1 a2 a3 a4 a5 a6 a7 a8 a9 fg kZ oj qC um Ar)
set_option Elab.async false
set_option linter.all false
local macro_rules|`(tactic|nofun)=>`(tactic|(intro _ _ _ _ h;repeat(first|(obtain h|_:=h;subst h;rfl)|(cases h;rename_i h))))
local macro_rules|`(tactic|ac_rfl)=>`(tactic|decide +kernel)
def Qa:=@Ôk
def Qb:=@List.getElem?_eq_getElem
def Qc:=@PySem.Heap.get?_push_of_some
def Qd:=@List.mem_map_of_mem
def Qe:=@List.mem_singleton
def Qf:=@List.map_append
def Qg:=@Nat.le_refl
def Qh:=@List.getElem?_eq_some_iff
def Qi:=@List.length_append
def Qj:=@List.map_cons
def Qk:=@Nat.le_trans
def Ql:=@Ôl
def Qm:=@List.mem_map
def Qn:=@List.mem_append
def Qo:=@List.map_map
def Qp:=@List.getElem?_map
def Qq:=@PySem.Heap.lt_size
def Qr:=@List.mem_of_getElem?
def Qs:=@Nat.zero_le
def Qt:=@PySem.Heap.get?_push_size
def Qu:=@Bool.false_ne_true
def Qv:=@Option.some.inj
def Qw:=@List.length_take
def Qx:=@List.take_of_length_le
def Qy:=@PySem.boot_len
def Qz:=@Nat.ne_of_lt
def QA:=@Ës
def QB:=@PySem.F.plainAttrs_list
def QC:=@PySem.F.slot_list_append
def QD:=@PySem.F.type_list_append
def QE:=@Ët
def QF:=@List.mem_append_right
def QG:=@Nat.lt_of_lt_of_le
def QH:=@List.take_add_one
def QI:=@List.length_singleton
def QJ:=@List.map_congr_left
def QK:=@Áp
def QL:=@PySem.W.mg_of
def QM:=@PySem.Str.length_append
def QN:=@List.contains_cons
def QO:=@PySem.W.mg_none_of
def QP:=@List.getD_eq_getElem?_getD
def QR:=@List.sum_cons
def QS:=@List.nodup_cons
def QT:=@List.getElem?_append_left
def QU:=@List.mem_append_left
def QV:=@Nat.le_succ
def QW:=@List.getElem?_eq_none
def QX:=@Nat.ne_of_gt
def QY:=@List.mem_filter
def QZ:=@List.length_drop
def Q0:=@PySem.F.plainAttrs_str
def Q1:=@PySem.Heap.size_push
def Q3:=@Ôm
def Q4:=@PySem.Heap.get?_update_self
def Q5:=@PySem.F.plainAttrs_dict
def Q6:=@List.getElem?_append_right
def Q7:=@PySem.W.kia_one
def Q8:=@PySem.W.kia_tup
def Q9:=@List.getElem_mem
def Qaa:=@PySem.Heap.get?_update_of_ne
def Qab:=@List.append_nil
def Qac:=@List.mem_cons_self
def Qad:=@List.mem_filterMap
def Qae:=@PySem.W.callWith_K
def Qaf:=@PyProof.Rows.callWith_type1
def Qag:=@Nat.lt_irrefl
def Qah:=@PySem.Heap.get?_update_other
def Qai:=@PySem.F.slot_dict_get
def Qaj:=@PySem.F.slot_str_join
def Qak:=@PySem.F.type_str_join
def Qal:=@List.all_eq_true
def Qam:=@List.length_eq_zero_iff
def Qan:=@List.filter_map
def Qao:=@PySem.mem_of_lookup
def Qap:=@Nat.add_lt_add_left
def Qaq:=@Bool.or_true
def Qar:=@Array.getElem?_eq_some_iff
def Qas:=@List.getElem?_toArray
def Qat:=@Array.getElem?_eq_getElem
def Qau:=@List.mem_of_find?_eq_some
def Qav:=@List.getLastD_eq_getLast?
def Qaw:=@Ât
def Qax:=@PySem.W.looks_findIn
def Qay:=@List.mem_of_mem_take
def Qaz:=@List.filterMap_cons
def QaA:=@Ôn
def QaB:=@List.filter_sublist
def QaC:=@Æx
def QaD:=@Nat.lt_add_of_pos_right
def QaE:=@List.pairwise_singleton
def QaF:=@List.any_eq_true
def QaG:=@List.zip_cons_cons
def QaH:=@PySem.F.entry_dict_get
def QaI:=@List.find?_cons_of_neg
def QaJ:=@Nat.add_sub_cancel
def QaK:=@List.length_eq_one_iff
def QaL:=@Int.add_zero
def QaM:=@Bool.eq_iff_iff
def QaN:=@List.sum_append
def QaO:=@PySem.W.methodCall_KW
def QaP:=@List.length_replicate
def QaQ:=@Array.getElem?_toList
def QaR:=@List.length_filter_le
def QaS:=@PySem.F.slot_dict_pop
def QaT:=@List.reverse_cons
def QaU:=@List.nodup_append
def QaV:=@List.filter_congr
def QaW:=@List.pairwise_map
def QaX:=@Int.le_refl
def QaY:=@List.mem_of_mem_drop
def QaZ:=@List.map_nil
def Qa0:=@Nat.le_add_right
def Qa1:=@List.getElem?_eq_none_iff
def Qa2:=@PySem.Heap.get?_update_ne
def Qa3:=@List.any_cons
def Qa4:=@List.getLast?_eq_getLast
def Qa5:=@Nat.lt_of_le_of_lt
def Qa6:=@Int.emod_lt_of_pos
def Qa7:=@Nat.le_of_lt
def Qa8:=@PySem.W.kitx_list
def Qa9:=@PySem.W.kitx_dict
def Qba:=@Array.getElem?_eq_none
def Qbb:=@Nat.lt_trans
def Qbc:=@Option.map_eq_some_iff
def Qbd:=@List.Pairwise.map
def Qbe:=@List.length_pos_of_mem
def Qbh:=@Nat.not_lt
def Qbi:=@List.Sublist.map
namespace L2
open PySem PySem.Spec PyProof.Rows
abbrev Key:=Sum Int ak
def VQ:Key->aa->Ð
 | .inl k,v=>aa.isInt k v
 | .inr x,v=>aa.isStrOf x v
def MM(w:aF):Key->Int
 | .inl k=>hashInt k
 | .inr x=>hashStr w x
theorem WH:∀ {k:Key} {v:aa},VQ k v=true->(X2 λi t=>k=Âu i/\v=Â8 i t)\/(X2 λx t=>k=β x/\v=Áq x t)
 | .inl i,v,h=>by obtain t|e:=aa.isInt_shape (k:=i) (v:=v) h;exact .inl (i,t,rfl,e)
 | .inr x,v,h=>by obtain t|e:=aa.isStrOf_shape (x:=x) (v:=v) h;exact .inr (x,t,rfl,e)
theorem Zoi(i:Int)(t:Tok):VQ Åa (.int i t)=true:=by simp[VQ,aa.isInt]
theorem Zox(x:ak)(t:Tok):VQ (.inr x) (.str x t)=true:=by simp[VQ,aa.isStrOf]
theorem ZuY(a b:Int):decide (#[s7,a]=Âu b)=(a == b):=by
 by_cases e:a=b
 ·subst e;simp
 ·have h:¬ #[s7,a]=Âu b:=λq=>e (ÃQ q);rw[ē h];exact(Æy e).symm
theorem ZtT(a b:ak):decide (#[r4,a]=β b)=decide (a=b):=by
 by_cases e:a=b
 ·subst e;simp
 ·have h:¬ #[r4,a]=β b:=λq=>e (Åb q);rw[ē h,ē e]
theorem ZtD(a:Int)(b:ak):decide (#[s7,a]=β b)=false:=Ôo
theorem Ztq(a:ak)(b:Int):decide (#[r4,a]=Âu b)=false:=Ôo
def ZK(ñ:ay)(w:aF):PySem.KeyKind ñ w Key where
 is:=VQ
 hash:=MM w
 inj:=λv a b g f=>by
  rcases WH g with⟨i,t,rfl,rfl⟩|⟨x,t,rfl,rfl⟩
  ·rcases WH f with⟨j,u,rfl,e⟩|⟨y,u,rfl,e⟩
   ·injection e with c _;rw[c]
   ·exact nomatch e
  ·rcases WH f with⟨j,u,rfl,e⟩|⟨y,u,rfl,e⟩
   ·exact nomatch e
   ·injection e with c _;rw[c]
 byValue:=λk v h=>by rcases WH h with⟨i,t,rfl,rfl⟩|⟨x,t,rfl,rfl⟩<;>rfl
 pyHash:=λd h=>by
  rcases WH d with⟨i,t,rfl,rfl⟩|⟨x,t,rfl,rfl⟩
  ·exact wpAny_pyHash_int h
  ·exact wpAny_pyHash_str h
 eqBool:=λl d h=>by
  rcases WH l with⟨i,t,rfl,rfl⟩|⟨x,t,rfl,rfl⟩
  ·rcases WH d with⟨j,u,rfl,rfl⟩|⟨y,u,rfl,rfl⟩
   ·rw[ZuY]at h;exact Ôp h
   ·rw[ZtD]at h;exact Ôq i t y u _ _ _ _ h
  ·rcases WH d with⟨j,u,rfl,rfl⟩|⟨y,u,rfl,rfl⟩
   ·rw[Ztq]at h;exact Ôr x t j u _ _ _ _ h
   ·rw[ZtT]at h;exact Ôs h
 «strs»:=λk x t v h=>by
  rcases WH h with⟨i,u,rfl,e⟩|⟨y,u,rfl,e⟩
  ·exact nomatch e
  ·injection e with c _;subst c;cases v<;>rfl
theorem ZlK(ñ:ay)(w:aF)(k:Key)(v:aa):(ZK ñ w).is k v=VQ k v:=rfl
theorem Zlt(ñ:ay)(w:aF)(i:Int)(t:Tok):(ZK ñ w).is Åa (.int i t)=true:=Zoi i t
theorem ZkJ(ñ:ay)(w:aF)(x:ak)(t:Tok):(ZK ñ w).is (.inr x) (.str x t)=true:=Zox x t
inductive V where
 | non|bl (b:Ð)|int (i:Int)|str (x:ak)|byt (b:Ā UInt8)|flt (b:UInt64)|ref (a:ae)|ty (n:Ŋ)
 deriving ÈD
def ZE:V->aa->Prop
 | .non,u=>u=Ài
 | .bl b,u=>u=Åc b
 | .int i,u=>∃t,u=Â8 i t
 | .str x,u=>∃t,u=Áq x t
 | .byt b,u=>∃t,u=aa.bytes b t
 | .flt b,u=>∃t,u=Ëu b t
 | .ref a,u=>u=à a
 | .ty n,u=>u=Â9 n
abbrev ZG:À V->À aa->Prop:=Åd ZE
theorem ZG.length{xs:Ĕ}{us:æ}(r:ZG xs us):ã=ÀO:=Ïo r
theorem ZG.get:∀ {xs:À V} {us:À aa} {i:Nat} {x:V},ZG xs us->xs[i]? = U x->∃u,us[i]? = U u/\ZE x u
 | _,_,_,_,.nil,e=>by simp at e
 | _,_,0,_,.cons r _,e=>by simp at e;subst e;exact(_,rfl,r)
 | _,_,i+1,x,.cons _ t,e=>by obtain u|h1|h2:=ZG.get (i:=i) (x:=x) t #[d8,e];exact(u,by simpa using h1,h2)
theorem ZG.set{x:V}{u:aa}(r:ZE x u):∀ {xs:À V} {us:À aa} (i:Nat),ZG xs us->ZG (xs.set i x) (us.set i u)
 | _,_,_,.nil=>.nil
 | _,_,0,.cons _ t=>.cons r t
 | _,_,i+1,.cons q t=>.cons q (ZG.set r i t)
theorem Ïp:∀ {xs ys:À V} {us ws:À aa},ZG xs us->ZG ys ws->ZG (xs++ys) (us++ws)
 | _,_,_,_,.nil,s=>s
 | _,_,_,_,.cons r t,s=>.cons r (Ïp t s)
theorem ZG.take:∀ {xs:À V} {us:À aa} (n:Nat),ZG xs us->ZG (xs.take n) (us.take n)
 | _,_,0,_=>.nil
 | _,_,_+1,.nil=>.nil
 | _,_,n+1,.cons r t=>.cons r (ZG.take n t)
theorem ZG.drop:∀ {xs:À V} {us:À aa} (n:Nat),ZG xs us->ZG (xs.drop n) (us.drop n)
 | _,_,0,r=>r
 | _,_,_+1,.nil=>.nil
 | _,_,n+1,.cons _ t=>ZG.drop n t
def Yo:Ã V->Ã aa->Prop
 | some v,U u=>ZE v u
 | none,af=>Àx
 | _,_=>ĕ
def KV{κ:Type}:À (κ×V)->À (κ×aa)->Prop:=Åd λ(p:κ×V) (q:κ×aa)=>p.1=q.1/\ZE p.2 q.2
def kV:Key->V
 | .inl i=>.int i
 | .inr x=>.str x
inductive HO where
  | lst (xs:À V)
  | tup (xs:À V)
  | dK (kvs:À (Key×V))|dT (kvs:À (À Key×V))
  | set (S:Int->Ð) (n:Nat)
  | ins (C dx:ae) (fs:À (ak×V))
  | own (x:ae)
  | xd (fs:À (ak×V))
  | met (f x:ae)
  | rng (lo hi:Int)
  | frz (o:aN) (u:HO)
  | tbl (ps:Ā aa)
  | ext (φ:aI->Prop)
abbrev Hp:=ae->Ã HO
def upd(H:Hp)(a:ae)(o:HO):Hp:=λb=>if b=a then U o else H b
theorem Zb{H:Hp}{a:ae}{o:HO}:upd H a o a=U o:=by unfold upd;rw[Æ rfl]
theorem Zc{H:Hp}{a b:ae}{o:HO}(h:b≠a):upd H a o b=H b:=by unfold upd;rw[Ç h]
theorem Zr6{H:Hp}{a:ae}{o u:HO}:upd Æz a u=upd H a u:=by funext b;unfold upd;split<;>rfl
theorem RK{H:Hp}{a b:ae}{o u:HO}(h:H a=U o)(h':H b=U u)(d:o≠u):a≠b:=by intro e;subst e;rw[h]at h';exact d (Qv h')
theorem Ze{H:Hp}{a b:ae}{o:HO}(h:H a=U o)(h':H b=af):a≠b:=by intro e;subst e;rw[h]at h';cases h'
section
variable (P:ay) (w:aF)
def Z7(H:Hp)(h:aI)(a:ae):HO->Prop
 | .lst xs=>ã<=aq/\X2 λ(its:À aa) (n:Nat)=>ZG xs its/\ß a=U { cls:=.type "list",Ó:=.seq ģ n }
 | .tup xs=>ã<=aq/\∃its:À aa,ZG xs its/\Β h a ģ
 | .dK b=>Ĥ<=aq/\Ãa=false/\∃g,KV b g/\h.DictOf ÆA a g
 | .dT b=>Ĥ<=aq/\Ãa=false/\∃xs:À (À Key×ae×aa),
   Åd (λ(p:À Key×V) (q:À Key×ae×aa)=>p.1=q.1/\H q.2.1=U #[iq,p.1.map]/\ZE p.2 q.2.2) b xs /\
   X3 λo i l=>ß a=U o/\o.ExactDict/\ũ=.dict i l/\i.toList=ÈE (entryOfKey Ïq)/\(ÈE õ).Nodup
 | .set S n=>h.SetOf (intKind P w) a S n
 | .ins C d fs=>H d=U Åe/\ÃR<=1000/\d≠a/\ß a=U (Åf C d) /\
   ∃c,h.Ns1 d c/\#[zg,c]/\ÈF c Ëv
 | .own _=>∃o,ß a=U o
 | .xd fs=>∃c,h.Ns1 a c/\∀f,Yo Ïr (c f)
 | .rng lo m=>X3 λt u v=>ß a=U { cls:=.type "range",Ó:=.fields #[.int lo t,.int m u,.int 1 v] }
 | .frz o u=>ß a=U o/\Z7 H h a u
 | .tbl r=>ß a=U { cls:=.none,Ó:=.fields r }
 | .met f x=>ß a=U (Ôt č ÀP)
 | .ext e=>e h/\(∃o,ß a=U o)/\∀j k:aI,e j->(∀o,j.get? a=U o->k.get? a=U o)->e k
def HOk(H:Hp)(h:aI):Prop:=∀a o,H a=U o->Z7 P w H h a o
universe E
section
variable {P:ay} {w:aF} {H H':Hp} {h h':aI} {a:ae} {o:HO}
theorem Z7.lt(x:Z7 P w H h a o):a<ĺ:=by
 cases o with
 | lst c=>obtain _|_|_|_|e:=x;exact Qq e
 | tup c=>obtain _|_|_|p:=x;exact p.lt
 | dK b=>obtain _|_|_|_|o|_|_|e|_:=x;exact Qq e
 | dT b=>obtain _|_|_|_|o|_|_|e|_:=x;exact Qq e
 | set S n=>obtain o|_|_|_|e|_:=x;exact Qq e
 | ins C dx fs=>obtain _|_|_|e|_:=x;exact Qq e
 | own y=>obtain _|e:=x;exact Qq e
 | xd fs=>obtain _|(_|_|_|e|_)|_:=x;exact Qq e
 | rng lo hi=>obtain _|_|_|e:=x;exact Qq e
 | frz ob u=>obtain e|_:=x;exact Qq e
 | tbl ps=>exact Qq Ôu
 | met f y=>exact Qq Ôu
 | ext φ=>obtain _|(_|e)|_:=x;exact Qq e
theorem Ëw{α c:Type}{F G:α->c->Prop}:∀ {d:À α} {e:À c},Åd F d e->(∀a b,F a b->G a b)->Åd G d e
 | _,_,.nil,_=>.nil
 | _,_,.cons r t,f=>.cons (f _ _ r) (Ëw t f)
theorem Z7.stay(x:Z7 P w H h a o)(k:∀b u,(b=a\/H b=U Åe)->ß b=U u->ý b=U u)
  (B:∀b,H b=U Åe->H' b=U Åe) (ht:#[eT,xs,H,Γ,H']):Z7 P w H' h' a o:=by
 induction o with
 | lst xs=>obtain z|its|n|r|e:=x;exact(z,its,n,r,k _ _ Ė e)
 | tup xs=>obtain z|its|r|g|e|c:=x;exact(z,its,r,g,k _ _ Ė e,c)
 | dK l=>obtain z|y|D|r|g|i|j|e|c:=x;exact(z,y,D,r,g,i,j,k _ _ Ė e,c)
 | dT l=>obtain z|y|xs|r|g|i|j|e|c:=x;exact(z,y,xs,Ëw r λp q z=>(z.1,ht _ _ z.2.1,z.2.2),g,i,j,k _ _ Ė e,c)
 | set S n=>obtain g|i|j|t|e|c:=x;exact(g,i,j,t,k _ _ Ė e,c)
 | ins C dx fs=>obtain d|z|ne|e|m|(s|i|j|E|c)|r:=x;exact(B _ d,z,ne,k _ _ Ė e,m,(s,i,j,k _ _ (.inr d) E,c),r)
 | own y=>obtain g|e:=x;exact(g,k _ _ Ė e)
 | xd fs=>obtain m|(s|i|j|e|c)|r:=x;exact(m,(s,i,j,k _ _ Ė e,c),r)
 | rng lo hi=>obtain t|u|v|e:=x;exact(t,u,v,k _ _ Ė e)
 | frz g u F=>obtain e|q:=x;exact(k _ _ Ė e,F q)
 | tbl A=>have e:ß a=U { cls:=.none,Ó:=.fields A }:=x;show ý a=U { cls:=.none,Ó:=.fields A };exact k a _ Ė e
 | met f y=>have e:ß a=U Ôv:=x;show ý a=U Ôv;exact k a _ Ė e
 | ext φ=>obtain p|(o|e)|st:=x;exact(st _ _ p λo q=>k _ _ Ė q,(o,k _ _ Ė e),st)
theorem HOk.lt(x:À5)(e:H a=U o):a<ĺ:=(x a o e).lt
theorem HOk.fresh(x:À5)(e:Ïs):H a=af:=by
 cases q:H a with
 | none=>rfl
 | some u=>exact È (QG (x.lt q) e) (Qag _)
theorem HOk.kept(x:À5)(k:Ëx):HOk P w H h':=λa o e =>
 (x a o e).stay (λb u _ q=>k b u q) (λ_ q=>q) λ_ _ q=>q
theorem HOk.laid(x:À5)(k:Ëx)(hp:Ïs)(new:Z7 P w Æz h' a o):HOk P w Æz h':=λb u e=>by
 have d:=x.fresh hp;by_cases f:b=a
 ·subst f;rw[rS,Zb,e];exact new
 ·rw[Zc f]at e;exact(x b u e).stay (λc v _ q=>k c v q) (λc q=>by rw[Zc (Ze q d)];exact q) λc xs q=>by rw[Zc (Ze q d)];exact q
universe E
def Rd(H:Hp)(a:ae)(u:HO):Prop:=H a=U u\/∃o,H a=U Âv
theorem Rd.ok{P:ay}{w:aF}{H:Hp}{h:aI}{a:ae}{u:HO}(r:Rd H a u)(x:À5):Z7 P w H h a u:=by
 rcases r with r|⟨o,r⟩
 ·exact x a u r
 ·obtain _|q:=x a _ r;exact q
def Mut:Ã HO->Prop
 | some (.lst _)=>Àx
 | some (.dK _)=>Àx
 | some (.dT _)=>Àx
 | some (.set _ _)=>Àx
 | some (.ins _ _ _)=>Àx
 | some (.ext _)=>Àx
 | _=>ĕ
section
variable {P:ay} {w:aF} {H:Hp} {h h':aI} {x e:ae} {o':HO}
theorem HOk.write(ok:À5)(a:Mut (H x))(he:Ït)(k:#[hd,b,u,e,ß])(l:Ïu)
  (new:Z7 P w (upd H x o') h' x o'):HOk P w (upd H x o') h':=λb u q=>by
 have i:∀c y,H c=U (.own y)->c≠x:=λc y r z=>by subst z;rw[r]at a;exact a
 have m:∀c d,H c=U (.tup d)->c≠x:=λc d r z=>by subst z;rw[r]at a;exact a
 by_cases f:b=x
 ·subst f;rw[rS,Zb,q];exact new
 ·rw[Zc f]at q;by_cases g:b=e
  ·have j:H b=U (.own x):=by
    rcases he with z|z
    ·exact È (g.trans z) f
    ·rw[g];exact z
   rw[fQ,q,j,j];rw[ep,v,n,l];exact(v,by rw[g];exact n)
  ·refine(ok b u q).stay (λc v hc r=>k c v ?_ r) (λc r=>by rw[Zc (i c b r)];exact r) λc d r=>by rw[Zc (m c d r)];exact r
   rcases hc with rfl|hc
   ·exact g
   ·rintro rfl;rcases he with z|z
    ·exact i c b hc z
    ·rw[rS,hc,z];exact f rfl
universe E
structure Un (fs ex:Š) (H H':Hp) (h h':aI):Prop where
 ą:∀b o,ß b=U o->H b=af->b ∉ fs->b ∉ ex->ý b=U o
 slot:∀b o,ß b=U o->H b=af->b∈fs->b ∉ ex->∃sl,ý b=U { o with ÁV:=sl }
 Δ:∀b o,ß b=U o->H b=af->b ∉ ex->H' b=af
 there:∀b o,ß b=U o->b ∉ ex->∃o',ý b=U o'
 tups:∀b xs,H b=U Γ->H' b=U Γ
 frzs:∀b o u,H b=U Âv->H' b=U Âv
 tbls:∀b ps,H b=U (.tbl ps)->∃ė,H' b=U (.tbl (ps++ė))
section
variable {fs sZ ex ex':À ae} {H H1 H2:Hp} {h h1 h2 h':aI} {a x e:ae} {o:HO}
theorem Un.any(u:Un fs ex H H1 h h1){b:ae}{ob:aN}(q:ß b=U ob)(n:H b=af)(hx:b ∉ ex):∃sl,h1.get? b=U { ob with ÁV:=sl }:=by
 by_cases a:b∈fs
 ·exact u.slot b ob q n a hx
 ·exact(ob.slots,u.keep b ob q n a hx)
theorem ÈG(k:Ëx):Un fs ex H H h h' :=
 (λb a q _ _ _=>k b a q,λb a q _ _ _=>(Ëy,k b a q),λ_ _ _ n _=>n,λb a q _=>(a,k b a q),λ_ _ q=>q,λ_ _ _ q=>q,λ_ ps q=>(#[],by rw[q];simp))
theorem Un.refl:Un fs ex H H h h:=ÈG λ_ _ q=>q
theorem Un.laid(k:Ëx)(hp:Ïs)(c:H a=af):Un fs ex H Æz h h' where
 ą:=λb u q _ _ _=>k b u q
 slot:=λb u q _ _ _=>(u.slots,k b u q)
 Δ:=λb u q n _=>by rw[Zc (Qz (QG (Qq q) hp))];exact n
 there:=λb u q _=>(u,k b u q)
 tups:=λb d q=>by rw[Zc (Ze q c)];exact q
 frzs:=λb u d q=>by rw[Zc (Ze q c)];exact q
 tbls:=λb ps q=>(#[],by rw[Zc (Ze q c),q];simp)
theorem Un.write(a:Mut (H x))(he:Ït)(k:#[hd,b,u,e,ß])(i:Ïu):Un fs ex H (upd H x o) h h':=by
 have d:∀b,H b=af->b≠x:=λb n z=>by subst z;rw[n]at a;exact a
 have f:∀b,H b=af->b≠e:=λb n z=>by
  subst z;rcases he with r|r
  ·exact d b n r
  ·rw[fQ,n,r,r]
 have c:∀b u,H b=U u->¬ Mut (U u)->b≠x:=λb u q j z=>by subst z;rw[q]at a;exact j a
 refine⟨λb u q n _ _=>k b u (f b n) q,λb u q n _ _=>(u.slots,k b u (f b n) q),λb u q n _=>by rw[Zc (d b n)];exact n,λb u q _=>?_,
  λb l q=>by rw[Zc Ïv];exact q,λb u l q=>by rw[Zc Ïv];exact q,λb ps q=>(#[],by rw[Zc Ïv,q];simp)⟩
 by_cases g:b=e
 ·subst g;exact i
 ·exact(u,k b u g q)
universe E
def trk(h:aI)(H:Hp):À ae:=#[xu].filter λa=>(H a).isSome
def Wq(h:aI)(H:Hp):aI:=PySem.W.hideAll h (trk h H)
theorem Zou(h:aI)(H:Hp):(Wq h H).objs.size=ĺ:=PySem.W.hideAll_size _ _
theorem Zqs{h:aI}{H:Hp}{b:ae}{o:aN}(e:ß b=U o)(n:H b=af):(Wq h H).get? b=U o :=
 PySem.W.hideAll_get _ e λa=>by have q:(H b).isSome=true:=(ÃS a).2;rw[n]at q;simp at q
theorem Zrt{h:aI}{H:Hp}{b:ae}{o:aN}(e:(Wq h H).get? b=U o):ß b=U o/\H b=af:=by
 have a:ß b=U o:=PySem.W.of_hideAll (trk h H) e;refine(a,?_);cases q:H b with
 | none=>rfl
 | some x=>have c:b∈trk h H:=List.mem_filter.mpr (Ïw (Qq a),by simp[q]);have z:(Wq h H).get? b=af:=PySem.W.hideAll_none (trk h H) c;rw[fQ,z,e,e]
def Zsd(g h:aI)(L:ae):À (ae×aN):=#[xu].filterMap λa=>if a=L\/(ÆB a).isSome=true then af else (ß a).map λo=>(a,o,)
def Ć(g h:aI)(L d:ae):À (ae×aN):=(Zsd g h L).filter λp=>decide (p.1≠d)
structure Mod (K:Ä) (mg:þ) (Â:aI):Prop where
 kin:Ū Â
 glob:ÈH aL mg
 blt:∃mb,ÈH Ïx mb/\∀x:ak,x ≠ "__name__"->mb x=cW x
 nolimit:base.NoLimit
structure Cx where
 ñ:ay
 w:aF
 K:Ä
 mg:ak->Ã aa
 Â:aI
 A:aD
 N:À ak
 ÀQ:aj
 H₀:Hp
 env:Env
 Û:À Env
 stack:À Env
 ex:À ae
 fn:ak->Ð
 calm:Ð
 pn:À (ae×aN)
 xe:aa->aj->Prop
def frs(l:ÁW):À ae:=l.filterMap (·.frame)
abbrev Cx.fs(X:Cx):À ae:=frs Âw
def Vis(a:bj)(x:ak):Prop:=ÃT x=U .local\/ÃT x=U .cell\/ÃT x=U .free
def Loc(a:bj)(x:ak):Prop:=ÃT x=U .local\/ÃT x=U .cell
def ZwK(env:Env)(h:aI)(m:þ)(x:ak)(u:aa):Prop :=
 (ÆC x=U .local/\m x=U u)\/(#[gU,ÆC,x]/\∃c,Ïy x=U c/\h.IsCell c (U u))
structure Cx.Ok (X:Cx):Prop where
 mod:Mod X.K Ě Ő
 kind:Ïz=.function
 glob:X.env.globals=aL
 blt:X.env.builtins=Ïx
 above:ū<=İ
 inj:∀x y c,γ x=U c->γ y=U c->x=y
 has:∀x,#[gU,Âx,x]->∃c,γ x=U c
 cab:∀x c,X.fn x=true->γ x=U c->ū<=c
 hd:X.calm=true->X.A.handled=af
 frames:X.A.frames=U Ε
 stk:Ε=Âw\/(Ε=Ì::Âw/\X.env.frame=U İ)
 exf:∀b∈X.ex,b≠İ/\∀x c,γ x=U c->c≠b
 bs:∀b o,ÈI b=U o->ÏA b=U o/\ÈJ b=af
 bsz:X.base.objs.size<=ū
 noex:∀b o,ÈI b=U o->b ∉ X.ex
 exfs:∀b∈X.ex,b ∉ Ày
 funs:Ôw Ő Âw
 frf:∀b∈Ày,ÈJ b=af
structure Inv (X:Cx) (ai:ć) (σ:À (Ã V)) (H:Hp) (s:aj):Prop where
 ok:X.Ok
 os:s.os=X.s₀.os
 bare:Ãb Åg
 Â:Un Ày X.ex ÈJ H X.s₀.heap Ê
 loc:∃m,s.heap.Ns İ m/\∀ (i:Nat) (x:ak) (v:V),X.N[i]? = U x->σ[i]? = U (U v)->Vis ÏB x->∃u,ZE v u/\ZwK Ì Ê m x u
 cell:∀x c,γ x=U c->∃v,s.heap.IsCell c v
 Δ:H İ=af
 freeC:∀x c,γ x=U c->H c=af
 pin:∀p∈X.pn++ai,é p.1=U p.2/\H p.1=af/\p.1≠İ/\p.1 ∉ Ày/\∀v,p.2.data≠.cell v
 hok:HOk ù X.w H Ê
 len:σ.length=X.N.length
section
variable {X:Cx} {ai:À (ae×aN)} {σ:À (Ã V)} {H H':Hp} {s:aj} {h':aI}
theorem Cx.Ok.nofr(ok:X.Ok){b:ae}{o:aN}(e:ÈI b=U o):b ∉ Ày:=λhb=>by have:=(ok.funs.mem hb).1;rw[e]at this;cases this
theorem Inv.bs(I:ä):∀b o,ÈI b=U o->é b=U o/\H b=af:=λb o e =>
 (ÈK b o #[pD].1 #[pD].2 (I.ok.nofr e) (ÆD b o e),ÆE b o #[pD].1 #[pD].2 (ÆD b o e))
theorem Inv.bk(I:ä):∀b o,ÈI b=U o->é b=U o:=λb o e=>(I.bs b o e).1
theorem Inv.mod(I:ä):Mod X.K Ě Ő:=Ëz
theorem Inv.kIn(I:ä):X.K.In Ê:=I.ok.mod.kin.keeps I.bk
theorem Inv.lt(I:ä):İ<Î:=let ⟨_,a,_⟩:=Ś;a.lt
theorem Inv.sz(I:ä):ū<=Î:=Qk ÈL (Qa7 I.lt)
theorem Inv.nofs(I:ä){a:ae}(h:Î<=a):a ∉ Ày:=λhb=>by obtain _|o|b|_:=I.ok.funs.mem hb;exact È (QG (Qq b) (Qk I.sz h)) (Qag _)
theorem Inv.cne(I:ä):∀x c,γ x=U c->c≠İ:=λx c e z=>by obtain v|o|a|b:=ËA;obtain m|(o'|es|ep|d|f|_)|_:=Ś;rw[z,d]at a;cases a;rw[f]at b;cases b
theorem Inv.funs(I:ä):ÆF Ő Âw:=by
 have all:∀ (l:À Env),(∀b∈frs l,b∈Ày)->Ôw Ő l->ÆF Ő l:=by
  intro l;induction l with
  | nil=>intro _ _;trivial
  | Í env r g=>intro f h;obtain i|(L|o|a|j|k|m)|n:=h;have c:L∈Ày:=f L (by unfold frs;rw[Qaz,a];exact Qac);obtain sl|e:=ÈM L o k (I.ok.frf L c) c λz=>ÏC L z c;exact(i,(L,_,a,j,e,m),g (λb d=>f b (by unfold frs;rw[Qaz,a];exact Ql _ d)) n)
 exact all Âw (λ_ d=>d) I.ok.funs
theorem Inv.stack(I:ä):ÆF Ő Ε:=by
 rcases I.ok.stk with e|⟨e,a⟩
 ·rw[e];exact I.funs
 ·rw[e];obtain m|b|_:=Ś;refine .cons (by rw[Ár];decide) a b ?_ I.funs;exact Ôx (Qk ÈN ÈL)
theorem Inv.stkSub(I:ä):∀b∈frs Ε,b∈İ::Ày:=λb hb=>by
 rcases I.ok.stk with e|⟨e,a⟩
 ·rw[e]at hb;exact Ql _ hb
 ·rw[e]at hb;unfold frs at hb;rw[Qaz,a]at hb;exact hb
theorem Inv.stkFree(I:ä):∀b∈frs Ε,H b=af:=λb hb=>by
 rcases ĩ (I.stkSub b hb) with e|hb
 ·rw[e];exact δ
 ·obtain _|o|a|_:=I.ok.funs.mem hb;exact ÆE b o a (I.ok.frf b hb) λz=>ÏC b z hb
theorem Inv.step{g':Ā Ãc}{t':Nat}{d':Åh}{ch:Š}(I:ä)
  (w:ÏD)
  (ą:∀b o,b≠İ->b ∉ Ày->b ∉ ch->é b=U o->H b=af->ý b=U o)
  (slot:∀b o,b≠İ->b∈Ày->b ∉ ch->é b=U o->H b=af->∃sl,ý b=U { o with ÁV:=sl }) (Δ:∀b o,b ∉ ch->é b=U o->H b=af->H' b=af)
  (h:∀b o,b ∉ ch->é b=U o->∃y,ý b=U y)
  (A:#[yX,b,g,H']) (B:∀b o u,H b=U Âv->H' b=U Âv) (C:∀b F,H b=U (.tbl F)->∃ė,H' b=U (.tbl (F++ė)))
  (R:∀m,s.heap.Ns İ m->h'.Ns İ m) (J:ÏE) (S:Ãb g') :
  Inv X ai σ H' { s with Õ:=h',gens:=g',drawn:=d',ï:=t' }:=by
 have M:∀b o,ÏA b=U o->b≠İ:=λb o e=>Qz (QG (Qq e) ÈL);have G:∀b o,ÏA b=U o->b ∉ X.ex->b ∉ ch:=λb o e a j=>by
  rcases(w b j).1 with z|z
  ·exact a z
  ·exact È (QG (Qq e) z) (Qag _)
 have N:∀x c,γ x=U c->∀v,s.heap.IsCell c v->h'.IsCell c v:=λx c e v ⟨o,t,K⟩=>by
  have D:c ∉ ch:=λz=>(w c z).2.2.1 x c e rfl;by_cases O:c∈Ày
  ·obtain sl|q:=slot c o (I.cne x c e) O D t ÏF;exact(_,q,K)
  ·exact(o,ą c o (I.cne x c e) O D t ÏF,K)
 refine(ε,I.os,S,(λb o e n j a=>?_,λb o e n j a=>?_,λb o e n a=>?_,λb o e a=>?_,λb g e=>A b g (ËB b g e),λb o g e=>B b o g (ÈO b o g e),λb F e=>?_),?_,λx c e=>?_,?_,λx c e=>?_,λp P=>?_,J,Àz)
 ·exact ą b o (M b o e) j ËC (ÈK b o e n j a) ÏG
 ·obtain sl|f:=ÈM b o e n j a;obtain L|E:=slot b _ (M b o e) j ËC f ÏG;exact(L,E)
 ·rw[r0,y,f,a];exact Δ b y ËC f ÏG
 ·rw[r0,y,f,a];exact h b y ËC f
 ·obtain T|f:=ËD b F e;obtain V|E:=C b _ f;exact(T++V,by rw[E,Ôy])
 ·rw[g9,m,W,Y,Ś];refine(m,R m W,λi x v f E Z=>?_);obtain u|r|l:=Y i x v f E Z;rw[si,u,r];rcases l with l|⟨k,c,e,z⟩
  ·exact .inl l
  ·exact .inr (k,c,e,N x c e _ z)
 ·obtain v|z:=ËA;exact(v,N x c e v z)
 ·obtain m|(o|_|_|t|_)|_:=Ś;exact Δ _ o #[y6,w] t δ
 ·obtain v|o|t|K:=ËA;exact Δ c o (λz=>(w c z).2.2.1 x c e rfl) t ÏF
 ·rw[zi,Q,P];have D:p.1 ∉ ch:=λz=>(w p.1 z).2.2.2 p P rfl;exact(ą p.1 p.2 ne Q D e n,Δ p.1 p.2 D e n,ne,Q,d)
theorem Inv.un{t':Nat}(I:ä)(u:Un Ày [] H H' Ê h')(hok:ÏE):Inv X ai σ H' { s with Õ:=h',ï:=t' }:=by obtain m|(o|es|ep|c|r)|_:=id Ś;obtain sl|f:=u.any c δ Ö;exact ÈP (g':=Åg) (d':=ÈQ) (ch:=[]) (λ_ z=>nomatch z) (λb o _ a _ e n=>u.keep b o e n a Ö) (λb o _ a _ e n=>u.slot b o e n a Ö) (λb o _ e n=>u.free b o e n Ö) (λb o _ e=>u.there b o e Ö) u.tups u.frzs u.tbls (λm' g=>by obtain o'|h|i|d|j:=g;rw[c]at d;cases d;exact(_,h,i,f,j)) hok Ζ
theorem Inv.call{g':Ā Ãc}{t':Nat}{d':Åh}{ch:Š}(I:ä)(u:Un ËE ch H H' Ê h')(hok:ÏE)(i:Ãb g')
  (f:ÏD) :
  Inv X ai σ H' { s with Õ:=h',gens:=g',drawn:=d',ï:=t' }:=by
 obtain m|(o|es|ep|g|r)|_:=id Ś;obtain sl|d:=u.any g δ λz=>(f _ z).2.1 rfl;exact ÈP (ch:=ch) f (λb o d j a e n=>u.keep b o e n (λz=>(ĩ (I.stkSub b z)).elim d j) a) (λb o _ _ a e n=>u.any e n a) (λb o a e n=>u.free b o e n a) (λb o a e=>u.there b o e a) u.tups u.frzs u.tbls (λm' k=>by obtain o'|l|q|h|t:=k;rw[g]at h;cases h;exact(_,l,q,d,t)) hok i
theorem Inv.turned{t':Nat}{it:ae}(I:ä)(k:#[hd,b,o,it,é])(g:H it=af)(d:it≠İ)
  (h1:it∈X.ex\/ū<=it) (h2:∀x c,γ x=U c->c≠it) (h:∀p∈X.pn++ai,p.1≠it):Inv X ai σ H { s with Õ:=h',ï:=t' }:=by
 have f:∀b u,H b=U u->b≠it:=λb u e z=>by rw[z,g]at e;cases e
 refine ÈP (g':=Åg) (d':=ÈQ) (ch:=[it]) (λb i=>?_) (λb o _ _ a e _=>k b o ÏH e) (λb o _ _ a e _=>(ÈR,k b o ÏH e)) (λ_ _ _ _ n=>n)
  (λb o a e=>(o,k b o ÏH e)) ËF (λ_ _ _ e=>e) Ôz (λm j=>?_) #[iz,b,u,e] Ζ
 ·have e:b=it:=by simpa using i
  subst e;exact(h1,d,h2,h)
 ·obtain o|l|t|w|r:=j;exact(o,l,t,k _ o (Ás d) w,r)
 ·refine(ê b u e).stay (λc v a q=>k c v ?_ q) (λ_ q=>q) λ_ _ q=>q;rcases a with z|z
  ·rw[z];exact f b u e
  ·exact f c _ z
theorem Inv.tok(I:ä)(t:Nat):Inv X ai σ H { s with ï:=t }:=I.un (h':=Ê) (t':=t) Un.refl ê
theorem Inv.kept{t':Nat}(I:ä)(k:ÔA):Inv X ai σ H { s with Õ:=h',ï:=t' }:=I.un (ÈG k) (I.hok.kept k)
theorem Inv.laid{a:ae}{o:HO}{t':Nat}(I:ä)(k:ÔA)(hp:Î<=a)(new:Z7 ù X.w Æz h' a o) :
  Inv X ai σ Æz { s with Õ:=h',ï:=t' }:=I.un (Un.laid k hp (ÆG hp)) (I.hok.laid k hp new)
theorem Inv.write{x e:ae}{o:HO}{t':Nat}(I:ä)(a:Mut (H x))(he:Ït)(k:#[hd,b,u,e,é])(c:Ïu)
  (new:Z7 ù X.w (upd H x o) h' x o):Inv X ai σ (upd H x o) { s with Õ:=h',ï:=t' }:=I.un (Un.write a he k c) (I.hok.write a he k c new)
theorem Inv.pins_of{a:ć}(I:ä)(h:∀p∈a,é p.1=U p.2/\H p.1=af/\p.1≠İ/\p.1 ∉ Ày/\∀v,p.2.data≠.cell v):Inv X a σ H s :=
 (ε,I.os,Ζ,Åi,Ś,Àj,δ,ÀA,λp b=>(í b).elim (λz=>Àk p (QU _ z)) (h p),ê,Àz)
theorem ML{N:Ñ}(c:ËG){i j:Nat}{x:ak}(a:N[i]? = U x)(b:N[j]? = U x):i=j:=by obtain h1|d:=Ł a;obtain h2|e:=Ł b;exact(List.getElem_inj c).mp (ÆH ÃU)
theorem MK{M:ÀR}{A:aD}{E:ð}{i:Nat}{x:ak}{v:V}{u:aa}{Q:ÁX}(I:ä)(T:ÃV)(B:Ây)(hx:ÆI)(r:ZE v u)
  (h:∀s',Inv X ai (σ.set i (U v)) H s'->(∃a,ÆJ a Ê ÀB/\(a=İ\/γ x=U a))->Q () s') (hf:ÆK:=by first|exact ÁY|exact Át|assumption):ar M A (ÏI Ì x u) Q E s:=by
 rw[sJ,m,F,W,id,Ś];have la:(Ïz == .class||(Ïz == .module&&İ != X.env.globals))=false:=by rw[Ár];rfl
 have Y:i<σ.length:=by rw[Àz];exact(Ł B).1
 have cne:=I.cne;have Z:∀ {a:ae} {h':aI},(∃o,é a=U o/\H a=af)->ÆJ a Ê h'->HOk ù X.w H h':=λ{a h'} ha f b ob e=>by
  obtain _|_|gq:=ha;refine(ê b ob e).stay (λc C hc q=>(f.2 c ?_).trans q) (λ_ q=>q) λ_ _ q=>q;rintro rfl;rcases hc with rfl|hc
  ·rw[rS,gq,e]
  ·rw[rS,gq,hc]
 rcases hx with hk|hk
 ·refine wpAny_storeName_local hk F #[iz,h',qD,f] la;obtain oL|_|_|qE|_:=id F;refine h _ (ε,I.os,Ζ,ÔB,(_,qD,λj y G g l J=>?_),λy c e=>?_,δ,ÀA,λp K=>?_,Z (oL,qE,δ) f,by simpa using Àz) (_,f,.inl rfl)
  ·exact#[jE].trans ÔC
  ·rw[td];exact(L,#[jE].trans g)
  ·rw[r0,N,g,hx];exact(N,#[jE].trans g)
  ·by_cases w:j=i
   ·rw[kT];exact(u,r,.inl (hk,by simp))
   ·rw[dt];rcases q with⟨k,e⟩|⟨k,c,e,z⟩
    ·refine .inl (k,?_);have:y≠x:=λe=>w (ML T g (e ▸ B));simp[this,e]
    ·exact .inr (k,c,e,z.sameBut f (cne y c e))
  ·obtain C|z:=Àj y c e;exact(C,z.sameBut f (cne y c e))
  ·rw[zi,R,K];exact((f.2 p.1 ne).trans e,n,ne,R,d)
 ·have S:X.fn x=true:=by
   rcases hf with z|z
   ·exact z
   ·rw[rS,z,hk]
  obtain c|hc:=ËH x (.inl hk);obtain C|z:=Àj x c hc;refine wpAny_storeName_cell Ár hk hc z #[iz,h',ur,f];rw[sJ,oc,DG,DI,id,z];refine h { s with Õ:=h' } (ε,I.os,Ζ,ÔB,(m,F.sameBut f (Ás (cne x c hc)),λj y G g l J=>?_),λy D e=>?_,δ,ÀA,λp K=>?_,Z (oc,DG,ÀA x c hc) f,by simpa using Àz) (c,f,.inr hc)
  ·exact#[dh].trans ÔC
  ·rw[td];exact(L,#[dh].trans g)
  ·rw[r0,N,g,hx];exact(N,#[dh].trans g)
  ·by_cases w:j=i
   ·rw[kT];exact(u,r,.inr (.inl hk,c,hc,ur))
   ·rw[dt];rcases q with q|⟨k,D,e,z'⟩
    ·exact .inl q
    ·refine .inr (k,D,e,z'.sameBut f ?_);rintro rfl;exact w (ML T g (I.ok.inj _ _ _ e hc ▸ B))
  ·by_cases DJ:D=c
   ·subst DJ;exact(_,ur)
   ·obtain w2|z2:=Àj y D e;exact(w2,z2.sameBut f DJ)
  ·rw[zi,R,K];refine((f.2 p.1 ?_).trans e,n,ne,R,d);intro q;rw[q,DG]at e;have q':oc=p.2:=Qv e;exact d C #[eP,q',DI]
theorem Wf{M:ÀR}{A:aD}{E:ð}{i:Nat}{x:ak}{v:V}{u:aa}{Q:ÁX}(I:ä)(a:ÃV)(b:Ây)(hx:ÆI)(r:ZE v u)
  (h:∀s',Inv X ai (σ.set i (U v)) H s'->Q () s') (c:ÆK:=by first|exact ÁY|exact Át|assumption):ar M A (ÏI Ì x u) Q E s :=
 MK I a b hx r (λs' d _=>h s' d) c
theorem Inv.call'{s':aj}{ch:Š}(I:ä)(a:s'.os=s.os)(u:Un ËE ch H H' Ê ÀB)(hok:HOk ù X.w H' ÀB)(d:Ãb s'.gens)
  (f:ÏD):Inv X ai σ H' s':=by
 obtain h'|g'|d'|t'|g:=s';have e:g=s.os:=a;subst e;exact I.call (g':=g') (t':=t') (d':=d') u hok d f
universe E
abbrev XK:=aa->Ã ae->Hp->Prop
abbrev St:=À (Ã V)
abbrev VK:=V->Hp->Prop
abbrev TE:=St->Hp->VK->Prop
abbrev TT:=St->Hp->(Ð->Hp->Prop)->Prop
abbrev TA:=St->Hp->(À V->Hp->Prop)->Prop
structure Ya where
 nx:St->Hp->Prop
 rt:VK
 bk:St->Hp->Prop:=ËI
 ct:St->Hp->Prop:=ËI
abbrev TS:=Ya->St->Hp->Prop
def EP(X:Cx)(b:ć)(c:St)(Q:VK)(u:aa)(s':aj):Prop:=X2 λv a=>Inv X b c a s'/\ZE v u/\Q v a
def TP(X:Cx)(c:ć)(d:St)(Q:Ð->Hp->Prop)(b:Ð)(s':aj):Prop:=∃a,Inv X c d a s'/\Q b a
def AP(X:Cx)(b:ć)(c:St)(Q:À V->Hp->Prop)(us:æ)(s':aj):Prop:=X2 λvs a=>Inv X b c a s'/\ZG vs us/\Q vs a
def SP(X:Cx)(c:ć)(D:Ya)(f:Flow)(s':aj):Prop :=
 match f with
 | .next=>X2 λb a=>Inv X c b a s'/\Ċ b a
 | .brk=>X2 λb a=>Inv X c b a s'/\D.bk b a
 | .cont=>X2 λb a=>Inv X c b a s'/\D.ct b a
 | .ret u=>X3 λv b a=>Inv X c b a s'/\ZE v u/\D.rt v a
def PE(X:Cx)(e:aK)(t:TE):Prop :=
 ∀ (b:À (ae×aN)) (s:aj) (a:St) (H:Hp) (Q:VK),Inv X b a H s->t a H Q->ó #[fg,e] (EP X b a Q) è s
def PT(X:Cx)(e:aK)(t:TT):Prop :=
 ∀ (b:À (ae×aN)) (s:aj) (a:St) (H:Hp) (Q:Ð->Hp->Prop),Inv X b a H s->t a H Q->ó (isTrue e Ì #[fg,e]) (TP X b a Q) è s
def PW(X:Cx)(e:aK)(t:TT):Prop :=
 ∀ (c:Sem aa) (b:À (ae×aN)) (s:aj) (a:St) (H:Hp) (Q:Ð->Hp->Prop),Inv X b a H s->t a H Q->ó (isTrue e Ì c) (TP X b a Q) è s
theorem Ź{X:Cx}{e:aK}{t:TT}(h:PW X e t):PT X e t:=h _
def PA(X:Cx)(d:ı)(t:TA):Prop :=
 ∀ (a:Pos) (c:À (ae×aN)) (s:aj) (b:St) (H:Hp) (Q:À V->Hp->Prop),Inv X c b H s->t b H Q->ó (spliced (bn a (aG d Ì))) (AP X c b Q) è s
def PS(X:Cx)(st:aM)(t:TS):Prop :=
 ∀ (a:À (ae×aN)) (s:aj) (b:St) (H:Hp) (D:Ya),Inv X a b H s->t D b H->ó (exec st Ì) (SP X a D) è s
def PSs(X:Cx)(st:ź)(t:TS):Prop :=
 ∀ (a:À (ae×aN)) (s:aj) (b:St) (H:Hp) (D:Ya),Inv X a b H s->t D b H->ó (execs st Ì) (SP X a D) è s
theorem thn{α:Type}{t:Sem α}{Q b:α->aj->Prop}{M:ÀR}{A:aD}{E:ð}{s:aj}(h:ar M A t Q E s)(c:∀a s,Q a s->b a s):ar M A t b E s:=ba h c λ_ _ x=>x
section
variable {X:Cx}
inductive EA {α:Type} (A B:α->Prop):Prop where
 | mk (v:α) (a:A v) (b:B v)
def Ts(i:Nat):TE:=λa H Q=>EA (λv=>a[i]? = U (U v)) (λv=>Q v H)
def tC(v:V):TE:=λ_ H Q=>Q v H
theorem RJ{i:Nat}{x:ak}{pos:Pos}(f:Ây)(g:#[id,Vis])(hd:Ī:=by decide)(j:ËJ:=by decide):PE X ÀS (Ts i):=by
 rw[eS,k,n,Q];rw[g9,v,e,h,h];rw[g9,m,o,p,Ś];obtain u|r|l:=p i x v f e g;have a:EP X k n Q u s:=ÏJ;rcases l with⟨hk,q⟩|⟨hk,c,b,d⟩
 ·exact ÏK (ÔD Ár hk o q a) hd
 ·rcases hk with hk|hk
  ·exact ÏK (ÔE Ár hk b d a) hd
  ·exact ÏK (wpAny_loadName_free Ár hk b d a j) hd
theorem Zj{i j pos}:PE X (.Constant Åj j pos) (tC Åj):=λ_ _ _ H _ I h=>wpAny_Constant_int (.int i,H,ś _,ÿ,h)
theorem UE{b j pos}:PE X (.Constant (.bool b) j pos) (tC (.bl b)):=λ_ _ _ H _ I h=>Constant_bool #[y2,b,h]
theorem ZU{j pos}:PE X (.Constant .none j pos) (tC .non):=λ_ _ _ H _ I h=>Constant_none (.non,H,I,rfl,h)
theorem Zk{x j pos}:PE X (.Constant Åk j pos) (tC Åk):=λ_ _ _ H _ I h=>Calls.Constant_str #[ge,x,h]
def Gl(X:Cx)(x:ak):Prop:=Âx x=U .globalImplicit
theorem Xe{E:ð}{a:ć}{s:aj}{b:St}{H:Hp}{x:ak}{u:aa}{pos:Pos}{Q:ð}(I:ÈS)(c:ŋ)(hm:Ě x=U u)(h:Q u s)
  (hd:Ī:=by decide):ó #[fg,ÀS] Q E s :=
 ÔF Ár c (Calls.loadGlobal_global ÔG hm h) hd
theorem VP{E:ð}{a:ć}{s:aj}{b:St}{H:Hp}{x:ak}{u:aa}{pos:Pos}{Q:ð}(I:ÈS)(c:ŋ)(hm:Ě x=af)(d:cW x=U u)(h:Q u s)
  (e:ÈT:=by decide) (hd:Ī:=by decide):ó #[fg,ÀS] Q E s:=by
 rw[g9,mb,f,g,I.mod.blt];exact ÔF Ár c (Calls.loadGlobal_builtin ÔG hm #[fd,I.ok.blt,f.keeps,I.bk] ((g x e).trans d) h) hd
theorem MJ{x:ak}{v:V}{u:aa}{pos:Pos}(a:ŋ)(hm:Ě x=U u)(r:ZE v u)(hd:Ī:=by decide):PE X ÀS (tC v) :=
 λ_ _ _ H _ I h=>Xe I a hm ÏJ hd
theorem Zsm{x:ak}{v:V}{u:aa}{pos:Pos}(a:ŋ)(hm:Ě x=af)(b:cW x=U u)(r:ZE v u)(c:ÈT:=by decide)(hd:Ī:=by decide):PE X ÀS (tC v) :=
 λ_ _ _ H _ I h=>VP I a hm b ÏJ c hd
variable {a b:aK} {ta tb:TE} {pos:Pos}
def tB(t:TE):TT:=λa H Q=>t a H λx b=>EA (λc=>x=.bl c) (λc=>Q c b)
theorem Xd{e:aK}{t:TE}(h:PE X e t)(he:∀a,isTrue e Ì a=(do let v <- a;ÃW e.pos;Áu [v] (truthy v)):=by intro _;rfl):PT X e (tB t):=by intro b s c H Q I hw;refine isTrue_plain (thn (h b s c H _ I hw) ?_) (he _);rintro v s1 ⟨x,f,g,i,j⟩;obtain d|rfl|q:=j;cases i;exact bp (f,g,q)
variable {tA xE:TT} {Ć:À aK}
def Zwp(t u:TT):TT:=λa H Q=>t a H λc b=>if c=true then u a b Q else Q false b
def tOr(t u:TT):TT:=λa H Q=>t a H λc b=>if c=true then Q true b else u a b Q
def ZwO(t:TT):TT:=λa H Q=>t a H λc b=>Q (!c) b
theorem W4(ha:PT X a tA):PW X (.BoolOp .And [a] pos) tA:=by
 intro wh b s d H Q I h;refine isTrue_and ÔH;cases c with
 | true=>exact isTrue_and_nil e
 | false=>exact e
theorem WS(ha:PT X a tA):PW X (.BoolOp .Or [a] pos) tA:=by
 intro wh b s d H Q I h;refine isTrue_or ÔH;cases c with
 | false=>exact isTrue_or_nil e
 | true=>exact e
theorem Xc(ha:PT X a tA)(hb:PW X ÔI xE):PW X ÔJ (Zwp tA xE):=by
 intro j d s e H Q I h;refine isTrue_and #[ei,ha,d,e];rintro c k ⟨f,g,i⟩;cases c with
 | true=>exact hb j d k e f Q g i
 | false=>exact(f,g,i)
theorem WR(ha:PT X a tA)(hb:PW X ÔK xE):PW X ÔL (tOr tA xE):=by
 intro j d s e H Q I h;refine isTrue_or #[ei,ha,d,e];rintro c k ⟨f,g,i⟩;cases c with
 | true=>exact(f,g,i)
 | false=>exact hb j d k e f Q g i
theorem Tr(ha:PT X a tA):PT X (.UnaryOp .Not a pos) (ZwO tA):=by intro b s d H Q I h;exact isTrue_not (ha b s d H (λc e=>Q (!c) e) I h)
def ZvQ(ta tb:TE):TE:=λa H Q=>ta a H λx b=>∃c,x=.bl c/\if c=true then tb a b Q else Q (.bl false) b
def ZwH(ta tb:TE):TE:=λa H Q=>ta a H λx b=>∃c,x=.bl c/\if c=true then Q ÆL b else tb a b Q
def Zva(ta:TE):TE:=λa H Q=>ta a H λx b=>∃c,x=.bl c/\Q (.bl (!c)) b
theorem UD{op}{t:TE}(h:PE X a t):PE X (.BoolOp op [a] pos) t:=λb s c H Q I hw=>BoolOp_one (h b s c H Q I hw)
theorem UC(ha:Áv)(hb:PE X ÔI tb):PE X ÔJ (ZvQ ta tb):=by
 rw[sN,Q,BoolOp_and,ha];rw[j7];cases c with
 | true=>exact hb e j f g Q i d
 | false=>exact(.bl false,g,i,rfl,d)
theorem Zvt(ha:Áv)(hb:PE X ÔK tb):PE X ÔL (ZwH ta tb):=by
 rw[sN,Q,BoolOp_or,ha];rw[j7];cases c with
 | false=>exact hb e j f g Q i d
 | true=>exact(.bl true,g,i,rfl,d)
theorem ZuH(ha:Áv):PE X (.UnaryOp .Not a pos) (Zva ta):=by intro d s e H Q I h;refine UnaryOp_ #[ei,ha,d,e];rintro v s1 ⟨x,f,g,i,b⟩;obtain c|rfl|b:=b;cases i;exact not_of (bp (.bl (!c),f,g,rfl,b))
def tIf(t:TT)(ta tb:TE):TE:=λa H Q=>t a H λc b=>if c=true then ta a b Q else tb a b Q
theorem Z0{c:aK}(hc:PT X c tA)(ha:Áv)(hb:ÃX):PE X (.IfExp c a b pos) (tIf tA ta tb):=by
 rw[sN,Q,wpAny_IfExp,hc];rintro d g ⟨i,j,k⟩;cases d with
 | true=>exact ha e g f i Q j k
 | false=>exact hb e g f i Q j k
universe E
def SqL(K:Ä)(H:Hp)(a:ae)(xs:Ĕ):Prop :=
 Rd H a À6 \/
  X3 λ(o:aN) (its:Ā aa) (n:Nat)=>ĥ a=U o/\Ãd=.type "list"/\o.dict=af/\ũ=.seq its n/\its.size<=aq/\ZG xs ÈU
def SqT(K:Ä)(H:Hp)(a:ae)(xs:Ĕ):Prop :=
 Rd H a Γ \/
  X3 λ(o:aN) (its:Ā aa) (n:Nat)=>ĥ a=U o/\Ãd=.type "tuple"/\ũ=.seq its n/\its.size<=aq/\ZG xs ÈU
def Zww:aa->Ã V
 | .none=>U .non
 | .bool b=>U (.bl b)
 | .int i _=>U Åj
 | .str x _=>U Åk
 | .bytes b _=>U (.byt b)
 | .float b _=>U (.flt b)
 | .ref a=>U Ħ
 | .type n=>U (.ty n)
 | _=>af
theorem ZE.abs{x:V}{u:aa}(r:ZE x u):Zww u=U x:=by
 cases x with
 | non=>cases r;rfl
 | bl _=>cases r;rfl
 | int _=>obtain t|rfl:=r;rfl
 | str _=>obtain t|rfl:=r;rfl
 | byt _=>obtain t|rfl:=r;rfl
 | flt _=>obtain t|rfl:=r;rfl
 | ref _=>cases r;rfl
 | ty _=>cases r;rfl
theorem ZE.inj{x y:V}{u:aa}(r:ZE x u)(q:ZE y u):x=y:=Qv (r.abs.symm.trans q.abs)
theorem ZG.inj:∀ {xs ys:À V} {us:À aa},ZG xs us->ZG ys us->xs=ys
 | _,_,_,.nil,.nil=>rfl
 | _,_,_,.cons r t,.cons a t'=>by rw[r.inj a,ZG.inj t t']
section
variable {X:Cx} {ai:À (ae×aN)} {σ:St} {H:Hp} {s:aj} {a:ae} {xs ys:À V}
theorem Ï{K:Ä}(h:H a=U À6):SqL K H a xs:=.inl (.inl h)
theorem ö{K:Ä}(h:H a=U Γ):SqT K H a xs:=.inl (.inl h)
theorem Inv.list(I:ä)(h:SqL X.K H a xs):∃its:À aa,ZG xs its/\PlainL Ê a ģ/\ã<=aq:=by
 rcases h with h|⟨o,its,n,b,c,d,f,hz,r⟩
 ·obtain z|its|n|r|e:=h.ok ê;exact(its,r,(_,n,e,rfl,rfl,rfl),z)
 ·refine(ÈU,r,(o,n,ě a o b,c,d,by simpa using f),?_);rw[nF];lia
theorem Inv.tuple(I:ä)(h:SqT X.K H a xs):∃its:À aa,ZG xs its/\Β Ê a ģ/\ã<=aq:=by
 rcases h with h|⟨o,its,n,b,c,d,hz,r⟩
 ·obtain z|its|r|p:=h.ok ê;exact(its,r,p,z)
 ·refine(ÈU,r,(o,ě a o b,c,n,by simpa using d),?_);rw[nF];lia
theorem Inv.list_inj(I:ä)(h:SqL X.K H a xs)(h':SqL X.K H a ys):xs=ys:=by
 obtain its|r|(o|n|e|_|_|d)|_:=ÁZ h;obtain b|g|(o'|n'|c|_|_|f)|_:=ÁZ h';rw[fQ,e,c,c];rw[d]at f;injection f with i _;have:its=b:=by simpa using ł Array.toList i
 subst this;exact r.inj g
theorem Inv.tuple_inj(I:ä)(h:SqT X.K H a xs)(h':SqT X.K H a ys):xs=ys:=by
 obtain its|r|(o|e|_|n|d)|_:=ÃY h;obtain b|g|(o'|c|_|n'|f)|_:=ÃY h';rw[fQ,e,c,c];rw[d]at f;injection f with i _;have:its=b:=by simpa using ł Array.toList i
 subst this;exact r.inj g
universe E
abbrev Cx.wish(X:Cx)(E:ð):Cx:={ X with xe:=E }
abbrev Cx.nox(X:Cx):Cx:=X.wish λ_ _=>ĕ
theorem Cx.Ok.wish{X:Cx}(ok:X.Ok)(E:ð):(ÏL).Ok :=
 ËK
theorem Cx.Ok.unwish{X:Cx}{E:ð}(ok:(ÏL).Ok):X.Ok :=
 ËK
section
variable {X:Cx} {ai:À (ae×aN)} {σ:St} {H:Hp} {s:aj} {E:aa->aj->Prop}
theorem Inv.wish(I:ä)(E:ð):Inv ÏL ai σ H s:=(I.ok.wish E,I.os,Ζ,Åi,Ś,Àj,δ,ÀA,Àk,ê,Àz)
theorem Inv.unwish(I:Inv ÏL ai σ H s):Inv X ai σ H s:=(I.ok.unwish,I.os,Ζ,Åi,Ś,Àj,δ,ÀA,Àk,ê,Àz)
theorem SP.unwish{D:Ya}{f:Flow}{s':aj}(h:SP ÏL ai D f s'):SP X ai D f s':=by
 cases f with
 | next=>obtain a|b|I|q:=h;exact ÏM
 | brk=>obtain a|b|I|q:=h;exact ÏM
 | Η=>obtain a|b|I|q:=h;exact ÏM
 | ret u=>obtain v|a|b|I|r|q:=h;exact(v,a,b,I.unwish,r,q)
theorem PSs.nox{st:ź}{t:TS}(h:PSs X.nox st t):PSs X st t:=λai s σ H D I hw =>
 ba (h ai s σ H D (I.wish _) hw) (λ_ _ q=>q.unwish) λ_ _ z=>Ãe z
universe E
section
variable {X:Cx} {st:aM} {Ć:À aM} {t u:TS} {e:aK} {te:TE} {pos:Pos}
def ZvS:TS:=λD a H=>Ċ a H
def RI(t u:TS):TS:=λD a H=>t { D with nx:=u D } a H
theorem Zy:PSs X [] ZvS:=λ_ _ a H _ I h=>ÆM (a,H,I,h)
theorem Zf(h1:PS X st t)(h2:PSs X Ć u):PSs X (st::Ć) (RI t u):=by
 rw[eS,a,b,D];refine ÏN (thn (h1 a s b H { D with nx:=u D } I h) λf c q=>?_);cases f with
 | next=>obtain d|e|g|q:=q;exact h2 a c d e D g q
 | ret v=>exact q
 | brk=>exact q
 | Η=>exact q
theorem Zg(h1:PS X st t):PSs X [st] t:=by
 rw[eS,a,b,D];refine ÏN (thn (h1 a s b H D I h) λf s1 q=>?_);cases f with
 | next=>exact ÆM q
 | ret v=>exact q
 | brk=>exact q
 | Η=>exact q
theorem Inv.quiet{a:ć}{b:St}{H:Hp}{s:aj}(I:ÈS):interactive Ì=false:=by simp[interactive,Ár]
def ZvF(te:TE):TS:=λD a H=>te a H λ_ b=>Ċ a b
theorem ZI(he:Ål)(b:ËL e af ÆN Ì=pure false:=by rfl):PS X (.Expr e pos) (ZvF te):=by intro c s a H D I h;exact wpAny_Expr_any (thn #[eu,he,c,a] λv s1 ⟨x,d,f,r1,g⟩=>(a,d,f,g)) I.quiet b
def ZwJ(te:TE):TS:=λD a H=>te a H D.rt
theorem Zm(he:Ål):PS X (.Return (U e) pos) (ZwJ te):=by intro b s a H D I h;exact wpAny_Return_some (thn #[eu,he,b,a] λv s1 ⟨x,c,d,f,g⟩=>(x,a,c,d,f,g))
def ZwF(c:TT)(t u:TS):TS:=λD a H=>c a H λb d=>if b=true then t D a d else u D a d
theorem ZN{c:aK}{a b:ź}{g:TT}(hc:PT X c g)(ha:PSs X a t)(hb:PSs X b u):PS X (.If c a b pos) (ZwF g t u):=by
 rw[sN,D,wpAny_If,hc];rintro d i ⟨j,k,l⟩;cases d with
 | true=>exact ha e i f j D k l
 | false=>exact hb e i f j D k l
universe E
abbrev TG:=V->St->Hp->(St->Hp->Prop)->Prop
abbrev TGs:=À V->St->Hp->(St->Hp->Prop)->Prop
def PG(X:Cx)(e:aK)(t:TG):Prop :=
 ∀ (a:À (ae×aN)) (s:aj) (b:St) (H:Hp) (v:V) (u:aa) (Q:St->Hp->Prop),Inv X a b H s->ZE v u->t v b H Q ->
  ó (Âz e Ì u) (λ_ f=>X2 λc d=>Inv X a c d f/\Q c d) è s
def PGs(X:Cx)(g:ı)(t:TGs):Prop :=
 ∀ (a:À (ae×aN)) (s:aj) (b:St) (H:Hp) (c:À V) (d:À aa) (Q:St->Hp->Prop),Inv X a b H s->ZG c d->t c b H Q ->
  ó (ÈV (#[yZ,g].map Ę) d) (λ_ h=>X2 λe f=>Inv X a e f h/\Q e f) è s
abbrev Tq:=V->V->V->Hp->(Hp->Prop)->Prop
def RH(X:Cx)(t:Tq):Prop :=
 ∀ (a:À (ae×aN)) (s:aj) (b:St) (H:Hp) (o i v:V) (c d u:aa) (Q:Hp->Prop),Inv X a b H s->ZE o c->ZE i d->ZE v u->t o i v H Q ->
  ó (setItem c d u) (λ_ f=>∃e,Inv X a b e f/\Q e) è s
abbrev TIp:=ÈW
def PIp(X:Cx)(op:ÈX)(t:TIp):Prop :=
 ∀ (a:À (ae×aN)) (s:aj) (b:St) (H:Hp) (x y:V) (v u:aa) (Q:VK),Inv X a b H s->ZE x v->ZE y u->t x y H Q ->
  ó (ÏO op v u) ÃZ è s
section
variable {X:Cx} {pos:Pos}
def Tp(i:Nat):TG:=λv a H Q=>Q (a.set i (U v)) H
theorem Zu{i:Nat}{x:ak}(a:ÃV)(b:Ây)(hx:ÆI)(c:ÆK:=by first|exact ÁY|exact Át|assumption):PG X ÀS (Tp i):=by intro ai s σ H v u Q I r h;exact ÔM (Wf I a b hx r (λs' d=>(_,H,d,h)) c)
def MI:TGs:=λvs a H Q=>vs=[]/\Q a H
inductive RGc (vs:Ĕ) (B:V->À V->Prop):Prop where
 | mk (v:V) (r:À V) (e:vs=v::r) (q:B v r)
def MH(t:TG)(u:TGs):TGs:=λvs a H Q=>RGc vs λv r=>t v a H λb c=>u r b c Q
theorem ZZ:PGs X [] MI:=by intro ai s a H vs us Q I r h;obtain e|h:=h;subst e;cases r;exact ËM (a,H,I,h)
theorem Zo{e:aK}{a:ı}{t:TG}{u:TGs}(h1:PG X e t)(h2:PGs X a u)
  (c:(bX (e::a) Ì).map Ę=Âz e Ì::#[yZ,a].map Ę:=by rfl):PGs X (e::a) (MH t u):=by
 rw[iw,b,d,vs];obtain v|vr|f|h:=h;subst f;cases r with
 | Í r g=>rw[c];refine Åm (thn (h1 b s d H _ _ _ I r h) ?_);rintro _ i ⟨j,k,l,m⟩;exact h2 b i j k _ _ Q l g m
inductive RGt (K:Ä) (H:Hp) (n:Nat) (v:V) (B:À V->Prop):Prop where
 | mk (a:ae) (xs:À V) (e:v=.ref a) (s:SqT K H a xs) (l:ã=n) (q:B xs)
def MG(K:Ä)(n:Nat)(t:TGs):TG:=λv a H Q=>RGt K H n v λxs=>t xs a H Q
theorem ZuV{c:ı}{k:Nat}{t:TGs}{n:Nat}(hc:ŕ)(h:PGs X c t)
  (i:#[yZ,c].length=n:=by rfl) (j:#[yZ,c].findIdx? õ=af:=by rfl):PG X (.Tuple c k pos) (MG X.K n t):=by
 intro d s f H v u Q I r hw;obtain a|l|m|p|q|hw:=hw;subst m;cases r;rw[hM,g,w,hz,p];refine assign_Tuple_tuple Á0 w (by simp[i,<- q,g.length]) j λx y=>?_;have z:#[hu,d,f,H,s,x]:=Ãf (t':=Ŗ) λb o e=>y b o ÆO e;exact h d _ f H l _ Q z #[d8,g] hw
def Zwk(to b:TE)(t:Tq):TG:=λv a H Q=>to a H λo c=>b a c λi d=>t o i v d λe=>Q a e
theorem Xo{o i:aK}{to e:TE}{t:Tq}(f:PE X o to)(g:PE X i e)(j:RH X t)
  (ha:∀v,Âz (.Subscript o i pos) Ì v=(do
   let a <- Áu [v] (ā o Ì);let b <- Áu [v,a] (ā i Ì)
   ÃW pos
   Áu [v,a,b] (setItem a b v)
   release [v,a,b] []):=by intro _;rfl):PG X (.Subscript o i pos) (Zwk to e t):=by
 intro d s c H v u Q I r h;rw[ha];refine ah (aU #[ei,f,d,c]);rintro a k ⟨x,l,m,n,p⟩;refine ah (aU (thn (g d k c l _ m p) ?_));rintro b q ⟨y,w,z,A,B⟩;refine ah (bx (ah (aU (thn (j d q c w x y v a b u _ z n A r B) ?_))));rintro _ s3 ⟨C,D,E⟩;exact wpAny_release (c,C,D,E)
def RG(b:TE)(g:TG):TS:=λD a H=>b a H λx c=>g x a c Ċ
theorem YB{a e:aK}{b:TE}{g:TG}(he:PE X e b)(f:PG X a g)(i:ÏP [a] e ÆN Ì=pure false:=by rfl)(hw:ÏQ [a] e Ì=pure af:=by rfl)
  (j:(bX [a] Ì).map Ę=[Âz a Ì]:=by rfl):PS X (.Assign [a] e pos) (RG b g):=by
 rw[eS,c,d,D];refine wpAny_Assign_stores #[ei,he,c,d] i hw;rintro v k ⟨x,l,m,n,o⟩;rw[j];exact thn (f c k d l x v _ m n o) λ_ s2 q=>q
theorem Zx{i:Nat}{x:ak}{e:aK}{a:TE}{b:Pos}(c:ÃV)(d:Ây)(hx:ÆI)(he:PE X e a)(f:ËL e (U (.Name x b)) ÆN Ì=pure false:=by rfl)(g:ÆK:=by first|exact ÁY|exact Át|assumption) :
  PS X (.Assign [.Name x b] e pos) (RG a (Tp i)):=by
 rw[eS,j,k,D];refine wpAny_Assign_Name #[ei,he,j,k] f;rintro v s1 ⟨y,l,m,n,o⟩;exact Wf m c d hx n (λs2 p=>(_,l,p,o)) g
def Zwq(i j:Nat)(b:TA):TS:=λD a H=>b a H λvs c=>X2 λv w=>vs=[v,w]/\Ċ ((a.set i (U v)).set j (U w)) c
theorem Zut{i j:Nat}{x y:ak}{a b:aK}{r:TA}{g k pt:Pos}{kt l m}(hc:ŕ)(t:ÃV)(C:Ây)(E:X.N[j]? = U y)(F:i≠j)
  (hx:#[fH,x]) (hy:#[fH,y]) (ha:PA X [a,b] r)
  (hw:ÏQ ÏR ÏS Ì=pure (U [x,y]))
  (G:ÏP ÏR ÏS ÆN Ì=pure false:=by rfl) :
  PS X (.Assign ÏR ÏS pos) (Zwq i j r):=by
 rw[eS,u,z,D];rw[vP];rw[G];rw[kP];rw[zf,Ë];refine ah (Tuple_ (thn (ha _ u s z H _ I h) ?_));rintro J c ⟨vs,A,K,L,n⟩;obtain v|w|M|n:=n;subst M;obtain⟨d,f,rfl,N,O⟩:X2 λd f=>J=[d,f]/\ZE v d/\ZE w f:=by
  cases L with
  | Í p q =>
   cases q with
   | Í P Q=>cases Q;exact(_,_,rfl,p,P)
 refine bz ?_ Á1;have R:Inv X u z A { c with Õ:=ÆP { cls:=.type "tuple",Ó:=.seq [d,f].toArray } }:=#[su,K.kept];rw[hw];rw[kP];show ó (do rule "assign.swapped-stores";let ő <- ËN (.ref ζ) 2 af;ÈV ÔN items.reverse;pure ËO) _ _ _;refine ah (Ãg (ah (ÔO (ő:=#[d,f]) Á0 (ÏT ÆQ _) λh' S=>?_)));have T:=R.kept (h':=h') (t':=Ã0) λb o e=>S b o ÆO e;show ar _ _ (ÈV ÔN [f,d] >>= λ_=>pure ËO) _ _ _;refine ah (Åm (ÈY (Wf T t E (.inl hy) O (λs2 V=>?_) (.inr hy))));refine Åm (ÈY (Wf V t C (.inl hx) N (λs3 B=>ËM (av ?_)) (.inr hx)));rw[List.set_comm _ _ (Ás F)]at B;exact(_,A,B,n)
def Zwz(i:Nat)(b:TE)(c:TIp):TS:=λD a H=>∃x,a[i]? = U (U x)/\b a H λy d=>c x y d λz e=>Ċ (a.set i (U z)) e
theorem ZtH{i:Nat}{x:ak}{e:aK}{b:TE}{op:ÈX}{d:TIp}{j:Pos}(n:ÃV)(f:Ây)(hx:ÆI)(he:PE X e b)(o:PIp X op d)(p:ÆK:=by first|exact ÁY|exact Át|assumption) :
  PS X (.AugAssign (.Name x j) op e pos) (Zwz i b d):=by
 rw[eS,a,g,D];rw[g9,v,q,h,h];rw[g9,m,t,A,Ś];have B:#[id,Vis]:=by rcases hx with k|k;exact .inl k;exact .inr (.inl k)
 obtain u|r|l:=A i x v f q B;refine wpAny_AugAssign_Name ?_;have go:ó #[fg,e] (λw C=>ó (ÏO op u w) (λr E=>ó (ÏI Ì x r) (λ_=>SP X a D .next) è E) è C) è s:=by refine thn #[eu,he,a,g] ?_;rintro w F ⟨y,G,J,K,L⟩;refine thn (o a F g G v y u w _ J r K L) ?_;rintro z s2 ⟨zv,M,N,O,P⟩;exact Wf N n f hx O (λs3 Q=>(_,M,Q,P)) p
 rcases l with⟨hk,R⟩|⟨hk,c,S,T⟩
 ·exact ÔD Ár hk t R go
 ·rcases hk with hk|hk
  ·exact ÔE Ár hk S T go
  ·rcases hx with k|k
   ·rw[kw]
   ·rw[kw]
def ipI(f:Int->Int->Int):TIp:=λx y H Q=>X2 λi j=>x=.int i/\y=.int j/\Q (.int (f i j)) H
theorem ZuQ:PIp X .Add (ipI λi j=>i+j):=by intro ai s σ H x y v u Q I a b h;obtain i|j|c|d|q:=h;subst c;subst d;obtain t|rfl:=a;obtain t'|rfl:=b;exact iadd_int (.int _,H,ś _,ÿ,q)
universe E
section
variable {X:Cx} {pos:Pos}
def Zub(c:TT)(h:TS):TS:=λD a H=>∃W:Nat->St->Hp->Prop,(∃m,W m a H)/\∀m a H,W m a H ->
 c a H λb d=>if b=true then ∃N:St->Hp->Prop,(∀e f,N e f->∃g,g<m/\W g e f)/\h { D with nx:=N,ct:=N,bk:=Ċ } a d else Ċ a d
theorem RF{c:aK}{r:ź}{t:TT}{u:TS}(hp:bo Ĝ X.A Ì è)(hc:PT X c t)(hb:PSs X r u):PS X (.While c r [] pos) (Zub t u):=by
 rw[eS,k,C,D];obtain W|(E|F)|a:=h;refine wpAny_While (codeAny_whileLoop (λn G=>X2 λw x=>Inv X k w x G/\W n w x) ?_ E (C,H,I,F));rintro n J ⟨g,y,K,L⟩;refine b8 hp (thn (hc k J g y _ K (a n g y L)) ?_);rintro b M ⟨z,A,i⟩;cases b with
 | true =>
  rw[g9,N,B,i,i];rw[p1];refine b8 hp (thn (hb k M g z _ A i) λf s3 j=>?_);cases f with
  | next=>obtain d|e|l|m:=j;rw[n1]
  | Η=>obtain d|e|l|m:=j;rw[n1]
  | brk=>exact j
  | ret v=>exact j
 | false=>rw[Ç Qu];exact ÆM (g,z,A,i)
universe E
structure It where
 go:Nat->Hp->Prop
 yld:Nat->Hp->V->Hp->Prop
 stop:Nat->Hp->Prop
def Xx(X:Cx)(a:ć)(H:Hp)(b:ae):Prop :=
 H b=af/\b≠İ/\b ∉ Ày/\(b∈X.ex\/ū<=b)/\#[gr,c,b]/\∀p∈X.pn++a,p.1≠b
theorem Inv.fpOk{X:Cx}{a:ć}{f:St}{H d:Hp}{s:aj}{b:ae}(I:Inv X a f H s)(hb:Î<=b)(g:d b=af):Xx X a d b:=by
 refine(g,QX (QG I.lt hb),I.nofs hb,.inr (Qk I.sz hb),λx c e z=>?_,λp h z=>?_)
 ·obtain v|q:=ËA;exact È (QG q.lt #[ea,z,hb]) (Qag _)
 ·exact È (QG (Qq (Àk p h).1) #[ea,z,hb]) (Qag _)
structure WQ (P:ay) (w:aF) (K:Ä) (tg:aK) (J:It) (fp:Š) (it:ae) (tn:Nat->aI->Prop):Prop where
 mem:it∈fp
 obj:∀i h,tn i h->∀b∈fp,∃o,ß b=U o/\∀v,ũ≠.cell v
 ą:∀i h h',tn i h->(∀b∈fp,∀o,ß b=U o->ý b=U o)->tn i h'
 item:∀ (X:Cx),ù=P->X.w=w->X.K=K->X.calm=true->∀ (i:Nat) (ai:À (ae×aN)) (s:aj) (σ:St) (H:Hp) (E:aa->aj->Prop),Inv X ai σ H s->ÔP->tn i Ê->J.go i H ->
  ar Ã1 X.A (Ãh Áw) (λr s1=>∃u,r=U u /\
   ar Ã1 X.A (dD tg Áw u) (λ_ s2=>X2 λx H'=>Inv X ai σ H' s2/\ZE x u/\J.yld i H x H'/\tn (i+1) s2.heap/\∀b∈fp,H' b=af) E s1) E s
 done:∀ (X:Cx),ù=P->X.w=w->X.K=K->X.calm=true->∀ (i:Nat) (ai:À (ae×aN)) (s:aj) (σ:St) (H:Hp) (E:aa->aj->Prop),Inv X ai σ H s->ÔP->tn i Ê->J.stop i H ->
  ar Ã1 X.A (Ãh Áw) (λr s1=>r=af/\Inv X ai σ H s1) E s
 self:∀ (A:aD) (i:Nat) (s:aj) (Q:aa->aj->Prop) (E:aa->aj->Prop),tn i Ê->Q Áw s->ar Ã1 A (Ån Áw) Q E s
abbrev TI:=St->Hp->(It->Hp->Prop)->Prop
def PIE(X:Cx)(c:ć)(g:St)(h:aK)(R:It->Hp->Prop)(i:aa)(d:aj):Prop :=
 X5 λ(e:ae) (fp:À ae) (f:Nat->aI->Prop) (J:It) (a:Hp)=>i=.ref e/\Inv X c g a d/\WQ ù X.w X.K h J fp e f/\f 0 d.heap/\(∀b∈fp,Xx X c a b)/\R J a
def PI(X:Cx)(c Ĳ:aK)(d:TI):Prop :=
 ∀ (b:À (ae×aN)) (s:aj) (a:St) (H:Hp) (R:It->Hp->Prop),Inv X b a H s->d a H R ->
  ó #[fg,Ĳ] (λv e=>ó (Ån v) (PIE X b a c R) è e) è s
theorem VO{M:ÀR}{A:aD}{E:ð}{s:aj}{b:aK}{it:ae}{u:aa}{o:aN}{n:Ŋ}{vs:Á2}{Q:ÁX}(c:é it=U o)(hc:Ãd=.type n)(hd:ũ=.fields vs)
  (d:["enumerate", "zip", "dict_itemiterator", "dict_reverseitemiterator", "odict_iterator", "itertools.zip_longest", "itertools.pairwise"].contains n=false) (a:Q () s):ar M A (dD b Áw u) Q E s:=by
 unfold dD;cases b<;>first
  | exact av a
  | (cases u<;>first
    | exact av a
    | (refine ah (wpAny_load c ?_);rw[hc,hd];show ar M A (if (["enumerate", "zip", "dict_itemiterator", "dict_reverseitemiterator", "odict_iterator", "itertools.zip_longest", "itertools.pairwise"].contains n&&vs[0]? == U (Ŭ _))=true then _ else _) Q E s;rw[Ç (by intro h;rw[d,Bool.false_and]at h;cases h)];exact av a))
def Itl(K:Ä)(a:ae):It :=
 (λi H=>X2 λb x=>SqL K H a b/\b[i]? = U x,λi H x c=>c=H/\∀b,SqL K H a b->b[i]? = U x,λi H=>∃b,SqL K H a b/\Ĥ<=i)
def Itt(K:Ä)(a:ae):It :=
 (λi H=>X2 λb x=>SqT K H a b/\b[i]? = U x,λi H x c=>c=H/\∀b,SqT K H a b->b[i]? = U x,λi H=>∃b,SqT K H a b/\Ĥ<=i)
def Itr(lo:Int)(n:Nat):It:=(λi _=>i<n,λi H x a=>a=H/\x=.int (lo+i),λi _=>n<=i)
theorem Zoz{P:ay}{w:aF}{K:Ä}{M:aK}(a it:ae):WQ P w K M ÏU [it] it (λi h=>ÈZ it a i) where
 mem:=by simp
 obj:=λi h st b f=>by
  have e:b=it:=by simpa using f
  rw[Q]
 ą:=ÔQ
 item:=by intro X m hw n F i G s J H E I j st q;rw[xi];rw[fz,t,p,O,l];rw[sJ,u,Q,R,t.get,r];rw[iU];refine ÏV st p.isList (x:=u) #[d8,Q] λg L T=>?_;rw[a2];exact(u,rfl,VO (s:=#[gZ,s,g]) e c d Ë (x,H,V,R,(rfl,λys W=>by rw[ÏW W l];exact r),L,λb f=>(j b f).1))
 done:=by intro X m hw n F i G s J H E I j st q;subst m hw n;rw[g9,N,l,r,q];rw[fz,t,p,O,l];rw[iU];have hl:=t.length;exact ÏX (À7 F) st p.isList (by simp;lia) λg Y=>(rfl,ÀT (t':=Ŗ) #[eX,b,f,Y] y A B C D)
 self:=#[gK,wpAny_pyIter_listiter]
theorem Zmr{P:ay}{w:aF}{K:Ä}{M:aK}(a it:ae):WQ P w K M (Itt K a) [it] it (λi h=>h.IsTupleIter it a i) where
 mem:=by simp
 obj:=λi h st b f=>by
  have e:b=it:=by simpa using f
  rw[Q]
 ą:=ÔQ
 item:=by intro X m hw n F i G s J H E I j st q;rw[xi];rw[hM,t,p,O,l];rw[sJ,u,Q,R,t.get,r];rw[iU];refine wpAny_pyNext_tuple_item st ÔR (x:=u) #[d8,Q] λg L T=>?_;rw[a2];exact(u,rfl,VO (s:=#[gZ,s,g]) e c d Ë (x,H,V,R,(rfl,λys W=>by rw[I.tuple_inj W l];exact r),L,λb f=>(j b f).1))
 done:=by intro X m hw n F i G s J H E I j st q;subst m hw n;rw[g9,N,l,r,q];rw[hM,t,p,O,l];rw[iU];have hl:=t.length;exact wpAny_pyNext_tuple_end (À7 F) st ÔR (by simp;lia) λg Y=>(rfl,ÀT (t':=Ŗ) #[eX,b,f,Y] y A B C D)
 self:=#[gK,wpAny_pyIter_tupleiter]
theorem Zmk{P:ay}{w:aF}{K:Ä}{B:aK}(it:ae)(lo:Int)(n:Nat):WQ P w K B ÔS [it] it (λi h=>IsRangeIter h it (lo+(i:Nat)*1) ((n:Int)-(i:Nat)) 1) where
 mem:=by simp
 obj:=λi h st b a=>by
  have e:b=it:=by simpa using a
  subst e;exact(_,st,λv z=>by have C:Data.fields _=Data.cell v:=z;cases C)
 ą:=λi h c st k=>k it Ö _ st
 item:=by intro X f hw g j i x s y H E I d st l;rw[oH];have W:=Walks.range (ñ:=ù) (w:=X.w) (À7 j) it lo 1 n;refine W.item i s _ _ l st λv c tk F A kk=>?_;rw[sZ,F];have G:Inv X x y H { s with Õ:=c,ï:=tk }:=ÀT (λb o a e=>kk b o #[d8,a] e) m p q r u;refine(_,rfl,VO (s:={ s with Õ:=c,ï:=tk }) (n := "range_iterator") A rfl rfl Ë (.int (lo+i),H,G,(t,?_),ĳ,A,λb a=>(d b a).1));rw[Int.mul_one]
 done:=by intro X f hw g j i x s y H E I d st l;rw[oH];exact wpAny_pyNext_range_end (À7 j) st (by have:n<=i:=l;lia) λc J=>(rfl,ÀT (t':=Ŗ) #[eX,b,a,J] m p q r u)
 self:=#[gK,wpAny_pyIter_rangeiter]
section
variable {X:Cx} {tg:aK}
def MF(K:Ä)(c:TE):TI:=λd H R=>c d H λx b=>∃a,x=.ref a/\(∃xs,SqL K b a xs)/\R ÏU b
def ME(K:Ä)(c:TE):TI:=λd H R=>c d H λx b=>∃a,x=.ref a/\(∃xs,SqT K b a xs)/\R (Itt K a) b
theorem Zr1{l:aK}{f:TE}(hl:PE X l f):PI X tg l (MF X.K f):=by
 rw[a1];obtain its|rv|p|hz:=d.list n;refine cc p.isList ?_;refine(ζ,[ζ],_,_,j,rfl,d.kept (t':=Ã0) λb o e=>Qc _ e,Zoz a _,Ãi,λb r=>?_,q);have e:b=ζ:=by simpa using r
 rw[o2]
theorem ZuB{l:aK}{f:TE}(hl:PE X l f):PI X tg l (ME X.K f):=by
 rw[a1];obtain its|rv|p|hz:=d.tuple n;refine ÔT (show c.heap.IsTuple a ģ from p) ?_;refine(ζ,[ζ],_,_,j,rfl,d.kept (t':=Ã0) λb o e=>Qc _ e,Zmr a _,Ãi,λb r=>?_,q);have e:b=ζ:=by simpa using r
 rw[o2]
theorem MD{c:ć}{d:St}{H:Hp}{s:aj}{R:It->Hp->Prop}{E:ð}{lo a:Int}{t u v:Tok}{tk:Nat}(I:ËP)(h1:-(2 ^ 62)<=lo)(h2:lo<2 ^ 62)(g:-(2 ^ 62)<=a)(h:a<2 ^ 62)
  (q:R (Itr lo (a-lo).toNat) H):ó (Ån Åo) (PIE X c d tg R) E { s with Õ:=Àl { cls:=.type "range",Ó:=.fields #[.int lo t,.int a u,.int 1 v] },ï:=tk }:=by
 refine wpAny_pyIter_range (IsRange.new ..) (small_one h1 h2 g h) ?_;have f:Inv X c d H { s with Õ:=Àl { cls:=.type "range",Ó:=.fields #[.int lo t,.int a u,.int 1 v] },ï:=tk }:=Ãf λb o e=>Qc _ e;refine⟨#[78].objs.size,[#[78].objs.size],_,_,H,rfl,
  f.kept (t':=tk) λb o e=>Qc _ e,Zmk _ lo (a-lo).toNat,?_,λb i=>?_,q⟩
 ·have j:lo+#[hS,0]*1=lo:=by simp
  have k:ÔU-#[hS,0]=aT.Range.rangeSize lo a 1:=by rw[rangeSize_one];split<;>lia
  show IsRangeIter _ _ (lo+#[hS,0]*1) (ÔU-#[hS,0]) 1;rw[j,k];exact Qt _ rfl
 ·have e:b=#[78].objs.size:=by simpa using i
  rw[o1]
def ZvT(a:TA):TI:=λb H R=>a b H λvs c=>∃j:Int,vs=[.int j] /\ -(2 ^ 62)<=j/\j<2 ^ 62/\R (Itr 0 j.toNat) c
def Zv3(a:TA):TI:=λb H R=>a b H λvs c=>X2 λi j:Int=>vs=#[gQ,i,j]/\(-(2 ^ 62)<=i/\i<2 ^ 62 /\ -(2 ^ 62)<=j/\j<2 ^ 62)/\R (Itr i (j-i).toNat) c
theorem VN{a:aK}{c:TA}{p pos:Pos}(d:Gl X "range")(hm:Ě "range" = af)(ha:PA X [a] c)(f:#[fh,a]:=by rfl):PI X tg (.Call (.Name "range" p) [a] [] pos) (ZvT c):=by
 rw[eS,g,i,R];refine Call_ (VP I d hm boot_range (Qaf (thn #[f4,g,i] ?_) f rfl));rintro us s1 ⟨vs,H1,k,l,b⟩;obtain j|e|b|m|q:=b;subst e;cases l with
 | Í r n=>cases n;rw[sZ,r];exact call_range_1 (MD k Á Á b m #[d8,q])
theorem MC{a b:aK}{f:TA}{p pos:Pos}(k:Gl X "range")(hm:Ě "range" = af)(ha:PA X [a,b] f)(l:ÏY:=by rfl)(g:#[fh,b]:=by rfl) :
  PI X tg (.Call (.Name "range" p) [a,b] [] pos) (Zv3 f):=by
 rw[eS,m,n,R];refine Call_ (VP I k hm boot_range (Qaf (thn #[f4,m,n] ?_) (by rw[l,g]) #[zj,g]));rintro us s1 ⟨vs,H1,o,u,c⟩;obtain i|j|e|(c|v|w|x)|q:=c;subst e;cases u with
 | Í r d =>
  cases d with
  | Í y d=>cases d;rw[sZ,r];rw[eA,t',y];exact call_range_2 (MD o c v w x q)
def Zws(e:TI)(g:TG)(f:TS):TS:=λD a H=>e a H λJ h=>∃W:Nat->Nat->St->Hp->Prop,(∃m,W 0 m a h)/\∀i m a H,W i m a H ->
 (J.stop i H/\Ċ a H)\/(J.go i H/\∃N:St->Hp->Prop,#[e3,c,b,d]/\∀x b,J.yld i H x b->g x a b λj k=>f { D with nx:=N,ct:=N,bk:=Ċ } j k)
def Vd(fp:Š)(h:aI):À (ae×aN):=fp.filterMap λb=>(ß b).map λo=>(b,o,)
theorem Vc{fp:Š}{h:aI}{b:ae}{o:aN}(hb:b∈fp)(e:ß b=U o):(b,o,)∈Vd fp h:=Qad.mpr (b,hb,by rw[e];rfl)
theorem ZnK{fp:Š}{h:aI}{p:ae×aN}(hp:p∈Vd fp h):p.1∈fp/\ß p.1=U p.2:=by
 rw[sJ,b,a,e,È0,hp];cases q:ß b with
 | none=>rw[q]at e;cases e
 | some o=>rw[q]at e;have c:(b,o,)=p:=Qv e;subst c;exact(a,q)
theorem Inv.pinned{a:ć}{c:St}{H:Hp}{s:aj}{fp:Š}(I:Inv X a c H s)(h:#[rV,a,H])(i:∀b∈fp,∃o,é b=U o/\∀v,ũ≠.cell v):Inv X (a++Vd fp Ê) c H s :=
 I.pins_of λp j=>(í j).elim (λz=>Àk p (QF _ z)) λz=>by obtain f|e:=ZnK z;obtain k|l|m|_:=h p.1 f;obtain o|g|d:=i p.1 f;rw[fQ,e,g,g];exact(e,k,l,m,d)
theorem Inv.unpinned{a pl:ć}{b:St}{H:Hp}{s:aj}(I:Inv X (a++pl) b H s):Inv X a b H s:=I.pins_of λp hp=>Àk p (QF _ (QU _ hp))
theorem XT{Ĳ:aK}{K:ź}{L:TI}{g:TG}{M:TS}{pos:Pos}(hp:bo Ĝ X.A Ì è)(hc:ŕ)(hi:PI X tg Ĳ L)(hg:PG X tg g)(hb:PSs X K M)
  (hs:ÆR:=by intro _;rfl):PS X (.For tg Ĳ K [] pos) (Zws L g M):=by
 rw[eS,p,O,D];refine wpAny_For (thn #[eu,hi,p,O] λv s1 h1=>thn h1 λxF s2 h2=>?_) hs;obtain it|fp|P|J|H2|e|I2|T|cX|Q|W|(m0|w0)|q:=h2;subst e;have A:∀ {k:Hp},#[hT,k]->∀b∈fp,Xx X p k b:=λhn b hb=>(hn b hb,(Q b hb).2);refine codeAny_forLoop_any (λn R=>X3 λi t k=>Inv X p t k R/\P i R.heap/\#[hT,k]/\W i n t k) ?_ m0 (0,O,H2,I2,cX,λb hb=>(Q b hb).1,w0);rintro n S ⟨i,w,z,V,Y,Z,w3⟩;rcases q i n w z w3 with⟨stop,qn⟩|⟨go,N,hN,step⟩
 ·refine b8 hp (thn (T.done X rfl rfl rfl hc i p S w z è V (A Z) Y stop) ?_);rintro r s4 ⟨B,I4⟩;subst B;exact ÆM (w,z,I4,qn)
 ·refine b8 hp (thn (T.item X rfl rfl rfl hc i p S w z è V (A Z) Y go) ?_);rintro r s4 ⟨u,B,h4⟩;subst B;refine b8 hp (thn h4 ?_);rintro _ s5 ⟨x,H5,I5,r5,y5,C,qH⟩;have E:=I5.pinned (A qH) (T.obj _ _ C);refine b8 hp (thn (hg _ s5 w H5 x u _ E r5 (step x H5 y5)) ?_);rintro _ s6 ⟨F,H6,I6,q6⟩;refine b8 hp (thn (hb _ s6 F H6 _ I6 q6) λf G l=>?_);have again:∀ {a:St} {c:Hp},Inv X (p++Vd fp s5.heap) a c G->N a c->∃m,m<n/\X3 λi t k=>Inv X p t k G/\P i G.heap/\#[hT,k]/\W i m t k:=λ{a c} j y=>by obtain m'|hm|w7:=hN a c y;refine(m',hm,i+1,a,c,ÏZ,È1 _ _ _ C λb hb o e=>(j.pin (b,o,) (QF _ (QF _ (Vc hb e)))).1,λb hb=>?_,w7);rw[gl,o,C,hb,j.pin]
  cases f with
  | next=>obtain a|c|j|y:=l;exact again j y
  | Η=>obtain a|c|j|y:=l;exact again j y
  | brk=>obtain a|c|j|l:=l;exact(a,c,ÏZ,l)
  | ret v=>obtain x7|a|c|j|r7|l:=l;exact(x7,a,c,ÏZ,r7,l)
universe E
theorem RE{K:Ä}{a:ae}{xs:Ĕ}{g:TG}{j:TS}{D:Ya}{b:St}{H:Hp}(Pv:ÆS)(h0:Pv 0 b H)(hl:∀i b H,i<=ã->Pv i b H->SqL K H a xs)
  (n:ÔV) (hd:Ï0) :
  ∃W:Nat->Nat->St->Hp->Prop,#[sa,b]/\∀i m b H,W i m b H ->
   ((ÏU).stop i H/\Ċ b H)\/((ÏU).go i H/\∃N:St->Hp->Prop,#[e3,h,c,k]/\∀x c,(ÏU).yld i H x c->g x b c λd f=>j { D with nx:=N,ct:=N,bk:=Ċ } d f):=by
 rw[ll];by_cases l:i<ã
 ·rw[79]
 ·have e:ËQ:=by lia
  rw[nY]
theorem ZrV{K:Ä}{a:ae}{xs:Ĕ}{g:TG}{j:TS}{D:Ya}{b:St}{H:Hp}(Pv:ÆS)(h0:Pv 0 b H)(hl:∀i b H,i<=ã->Pv i b H->SqT K H a xs)
  (n:ÔV) (hd:Ï0) :
  ∃W:Nat->Nat->St->Hp->Prop,#[sa,b]/\∀i m b H,W i m b H ->
   ((Itt K a).stop i H/\Ċ b H)\/((Itt K a).go i H/\∃N:St->Hp->Prop,#[e3,h,c,k]/\∀x c,(Itt K a).yld i H x c->g x b c λd f=>j { D with nx:=N,ct:=N,bk:=Ċ } d f):=by
 rw[ll];by_cases l:i<ã
 ·rw[79]
 ·have e:ËQ:=by lia
  rw[nY]
theorem UB{lo:Int}{n:Nat}{g:TG}{j:TS}{D:Ya}{a:St}{H:Hp}(Pv:ÆS)(h0:Pv 0 a H)
  (l:∀i a H,i<n->Pv i a H->g (.int (lo+i)) a H λc d=>j { D with nx:=Pv (i+1),ct:=Pv (i+1),bk:=Ċ } c d) (hd:#[hN,a,n]) :
  ∃W:Nat->Nat->St->Hp->Prop,#[sa,a]/\∀i m a H,W i m a H ->
   ((ÔS).stop i H/\Ċ a H)\/((ÔS).go i H/\∃N:St->Hp->Prop,#[e3,f,b,k]/\∀x b,(ÔS).yld i H x b->g x a b λc d=>j { D with nx:=N,ct:=N,bk:=Ċ } c d):=by
 rw[ey,n];by_cases h:i<n
 ·refine .inr (h,Pv (i+1),λf b o=>(n-(i+1),by lia,rfl,h,o),λx b y=>?_);rw[ep,e,y,y];subst e y;exact l i a _ h p
 ·have e:i=n:=by lia
  subst e;exact .inl (Qg _,hd a H p)
abbrev R2:=ÈW
def OpR(X:Cx)(f:È2)(r:R2):Prop :=
 ∀ (a:À (ae×aN)) (s:aj) (b:St) (H:Hp) (x y:V) (v u:aa) (Q:VK),Inv X a b H s->ZE x v->ZE y u->r x y H Q ->
  ó (f v u) ÃZ è s
def UnR(X:Cx)(f:aa->Sem aa)(r:Ï1):Prop :=
 ∀ (a:À (ae×aN)) (s:aj) (b:St) (H:Hp) (x:V) (v:aa) (Q:VK),Inv X a b H s->ZE x v->r x H Q ->
  ó (f v) ÃZ è s
def YZ(X:Cx)(f:aa)(r:À V->Hp->VK->Prop):Prop :=
 ∀ (a:À (ae×aN)) (s:aj) (b:St) (H:Hp) (c:À V) (d:À aa) (Q:VK),Inv X a b H s->ZG c d->r c H Q ->
  ó (Ĵ f d) ÃZ è s
def tOp(r:R2)(b c:TE):TE:=λa H Q=>b a H λx d=>c a d λy e=>r x y e Q
def tUn(r:Ï1)(a:TE):TE:=λb H Q=>a b H λx c=>r x c Q
inductive RI2 (x y:V) (B:ËR):Prop where
 | mk (i j:Int) (a:x=.int i) (b:y=.int j) (q:B i j)
inductive RI3 (x y:V) (C B:ËR):Prop where
 | mk (i j:Int) (a:x=.int i) (b:y=.int j) (c:C i j) (q:B i j)
def rI(C:ËR)(g:Int->Int->V):R2:=λx y H Q=>RI3 x y C (λi j=>Q (g i j) H)
def rI0(g:Int->Int->V):R2:=λx y H Q=>RI2 x y (λi j=>Q (g i j) H)
def rU(g:Int->V):V->Hp->VK->Prop:=λx H Q=>EA (λi=>x=.int i) (λi=>Q (g i) H)
section
variable {X:Cx} {a b c:aK} {ta tb tc:TE} {pos:Pos}
theorem RD(ha:Áv)(hb:ÃX){e:ć}{s:aj}{c:St}{H:Hp}{R:V->V->Hp->Prop}(I:Inv X e c H s)
  (h:ta c H λx i=>tb c i λy d=>R x y d) {Q:ð} {f:È2}
  (j:∀v u g x y d,Inv X e c d g->ZE x v->ZE y u->R x y d->ó (f v u) Q è g) :
  ó #[fg,a] (λv k=>ó #[fg,b] (λu l=>ó (f v u) Q è l) è k) è s:=by
 refine thn #[eu,ha,e,c] ?_;rintro v m ⟨x,i,n,o,p⟩;refine thn (hb e m c i _ n p) ?_;rintro u g ⟨y,d,q,r,t⟩;exact j v u g x y d q o r t
theorem ZR{op:ÈX}{r:R2}(c:OpR X (Ã2 op) r)(ha:Áv)(hb:ÃX):PE X (.BinOp a op b pos) ËS:=by intro d s e H Q I h;exact wpAny_BinOp ÔW
theorem To{op:UnaryOp}{r:Ï1}(d:UnR X (unaryOp op) r)(ha:Áv):PE X (.UnaryOp op a pos) (tUn r ta):=by intro b s c H Q I h;exact UnaryOp_ (thn #[eu,ha,b,c] λv e ⟨x,f,g,i,j⟩=>d b e c f x v Q g i j)
theorem opI{f:È2}{C:ËR}{g:Int->Int->Int}
  (rule:∀ (i j:Int) (t u:Tok) (s:aj) (Q:aa->aj->Prop) (E:aa->aj->Prop),C i j->Q (.int (g i j) Ļ) { s with ï:=Ļ+1 }->ó Ï2 Q E s) :
  OpR X f (rI C λi j=>.int (g i j)):=by
 rw[cr];obtain i|j|rfl|rfl|c|q:=h;rw[sZ,a];rw[eA,d,b];exact rule i j t d s _ _ c ÔX
theorem MB{f:È2}{g:Int->Int->Int}
  (rule:∀ (i j:Int) (t u:Tok) (s:aj) (Q:aa->aj->Prop) (E:aa->aj->Prop),Q (.int (g i j) Ļ) { s with ï:=Ļ+1 }->ó Ï2 Q E s) :
  OpR X f (rI0 λi j=>.int (g i j)):=by
 rw[kE];exact rule i j t c s _ _ ÔX
theorem Tn{f:È2}{g:Int->Int->Ð}
  (rule:∀ (i j:Int) (t u:Tok) (s:aj) (Q:aa->aj->Prop) (E:aa->aj->Prop),Q (.bool (g i j)) s->ó Ï2 Q E s) :
  OpR X f (rI0 λi j=>.bl (g i j)):=by
 rw[kE];exact rule i j t c s _ _ (.bl (g i j),H,I,rfl,q)
def Zwn(i j:Int):Prop:=0<j/\j<1073741824
def MA(i j:Int):Prop:=0<=j/\j<=1000000/\i.natAbs<2 ^ 64
def RC(i j:Int):Prop:=(-(2 ^ 64)<i/\i<2 ^ 64)\/(-(2 ^ 64)<j/\j<2 ^ 64)
theorem RC.ok{i j:Int}(h:RC i j):IntMulOk i j:=by
 rcases h with⟨a,b⟩|⟨a,b⟩
 ·exact .of_left (intBits_le_64 a b)
 ·exact .of_right (intBits_le_64 a b)
theorem Xb:OpR X Ï3 (rI0 λi j=>.int (i+j)):=#[ia,MB,add_int]
theorem Vb:OpR X (Ã2 .Sub) (rI0 λi j=>.int (i-j)):=#[ia,MB,sub_int]
theorem Va:OpR X (Ã2 .Mult) (rI RC λi j=>.int (i*j)):=opI λ_ _ _ _ _ _ _ hc q=>mul_int q hc.ok
theorem RB:OpR X (Ã2 .FloorDiv) (rI Zwn λi j=>.int (i / j)):=opI λi j _ _ _ _ _ hc q=>by have h1:(0:Int)<j:=hc.1;have h2:j<1073741824:=hc.2;exact floordiv_int Á (by rw[Int.fdiv_eq_ediv_of_nonneg i Á];exact q) (.inl (PyProof.noPylong_small Á))
theorem UA:OpR X (Ã2 .Mod) (rI (λ_ j=>0<j) λi j=>.int (i % j)):=opI λi j _ _ _ _ _ hc q=>by have h1:(0:Int)<j:=hc;exact mod_int' Á (by rw[Int.fmod_eq_emod_of_nonneg i Á];exact q)
theorem ZtX:OpR X (Ã2 .Pow) (rI MA λi j=>.int (i ^ j.toNat)):=opI λ_ _ _ _ _ _ _ hc q=>pow_int_small hc.1 hc.2.1 hc.2.2 q
theorem unI{f:aa->Sem aa}{g:Int->Int}
  (rule:∀ (i:Int) (t:Tok) (s:aj) (Q:aa->aj->Prop) (E:aa->aj->Prop),Q (.int (g i) Ļ) { s with ï:=Ļ+1 }->ó (f (.int i t)) Q E s) :
  UnR X f (rU λi=>.int (g i)):=by
 intro ai s σ H x v Q I a h;obtain i|rfl|q:=h;rw[sZ,a];exact rule i t s _ _ (.int (g i),H,ś _,ÿ,q)
theorem Tl:UnR X (unaryOp .USub) (rU λi=>.int (-i)):=unI λ_ _ _ _ _ q=>neg_int q
universe E
def Mz:V->V->Ð
 | .non,.non=>true|.non,.int _=>true|.int _,.non=>true|.non,.bl _=>true|.bl _,.non=>true|.non,.str _=>true|.str _,.non=>true
 | .int _,.int _=>true|.bl _,.bl _=>true|.str _,.str _=>true|.byt _,.byt _=>true
 | .int _,.str _=>true|.str _,.int _=>true|.bl _,.str _=>true|.str _,.bl _=>true
 | _,_=>false
def rEq:R2:=λx y H Q=>Mz x y=true/\Q (.bl (decide (x=y))) H
def rNe:R2:=λx y H Q=>Mz x y=true/\Q (.bl (!decide (x=y))) H
theorem Mx{i j:Int}:decide (ì i=ì j)=(i == j):=by rw[QaM];simp
theorem Mw{i j:Ð}:decide (V.bl i=V.bl j)=(i == j):=by rw[QaM];simp
theorem Mv{i j:ak}:decide (Å i=Å j)=(i == j):=by rw[QaM];simp
theorem Mu{i j:Ā UInt8}:decide (V.byt i=V.byt j)=(i.toList == j.toList):=by rw[QaM];cases i;cases j;simp
section
variable {X:Cx} {a b c:aK} {ta tb tc:TE} {pos:Pos}
theorem ZW{a:ć}{b:St}{H:Hp}{s:aj}{Q:VK}{k k':Ð}(I:ÈS)(q:Q (.bl k) H)(e:k=k'):EP X a b Q (.bool k') s:=by subst e;exact#[y2,k,q]
theorem YT:OpR X (aR .Eq) rEq:=by
 rw[hE,d,a];rw[ep,c,q,h];cases x with
 | non =>
  cases d;cases y with
  | non=>cases a;exact PySem.EqNone.eq_none_none Ŝ
  | bl j=>cases a;exact PySem.EqNone.eq_none_bool Ŝ
  | int j=>obtain b|rfl:=a;exact PySem.EqNone.eq_none_int Ŝ
  | str j=>obtain b|rfl:=a;exact PySem.EqNone.eq_none_str Ŝ
  | _=>exact Áx
 | bl i =>
  cases d;cases y with
  | non=>cases a;exact PySem.EqNone.eq_bool_none Ŝ
  | bl j=>cases a;exact eq_bool (ZW I q Mw)
  | str j=>obtain b|rfl:=a;exact PySem.EqMixed.eq_bool_str Ŝ
  | _=>exact Áx
 | int i =>
  rw[sZ,d];cases y with
  | non=>cases a;exact PySem.EqNone.eq_int_none Ŝ
  | int j=>obtain b|rfl:=a;exact eq_int (ZW I q Mx)
  | str j=>obtain b|rfl:=a;exact PySem.EqMixed.eq_int_str Ŝ
  | _=>exact Áx
 | str i =>
  rw[sZ,d];cases y with
  | non=>cases a;exact PySem.EqNone.eq_str_none Ŝ
  | bl j=>cases a;exact PySem.EqMixed.eq_str_bool Ŝ
  | int j=>obtain b|rfl:=a;exact PySem.EqMixed.eq_str_int Ŝ
  | str j=>obtain b|rfl:=a;exact eq_str (ZW I q Mv)
  | _=>exact Áx
 | byt i =>
  rw[sZ,d];cases y with
  | byt j=>obtain b|rfl:=a;exact PySem.W.eq_bytes (ZW I q Mu)
  | _=>exact Áx
 | _=>cases y<;>exact Áx
theorem VM:OpR X (aR .NotEq) rNe:=by
 rw[hE,d,a];rw[ep,c,q,h];cases x with
 | non =>
  cases d;cases y with
  | non=>cases a;exact PySem.EqNone.ne_none_none Ŝ
  | bl j=>cases a;exact PySem.EqNone.ne_none_bool Ŝ
  | int j=>obtain b|rfl:=a;exact PySem.EqNone.ne_none_int Ŝ
  | str j=>obtain b|rfl:=a;exact PySem.EqNone.ne_none_str Ŝ
  | _=>exact Áx
 | bl i =>
  cases d;cases y with
  | non=>cases a;exact PySem.EqNone.ne_bool_none Ŝ
  | bl j=>cases a;rw[sv,ne_bool,Mw]
  | str j=>obtain b|rfl:=a;exact PySem.EqMixed.ne_bool_str Ŝ
  | _=>exact Áx
 | int i =>
  rw[sZ,d];cases y with
  | non=>cases a;exact PySem.EqNone.ne_int_none Ŝ
  | int j=>obtain b|rfl:=a;rw[sv,ne_int,Mx]
  | str j=>obtain b|rfl:=a;exact PySem.EqMixed.ne_int_str Ŝ
  | _=>exact Áx
 | str i =>
  rw[sZ,d];cases y with
  | non=>cases a;exact PySem.EqNone.ne_str_none Ŝ
  | bl j=>cases a;exact PySem.EqMixed.ne_str_bool Ŝ
  | int j=>obtain b|rfl:=a;exact PySem.EqMixed.ne_str_int Ŝ
  | str j=>obtain b|rfl:=a;rw[sv,ne_str,Mv]
  | _=>exact Áx
 | byt i =>
  rw[sZ,d];cases y with
  | byt j=>obtain b|rfl:=a;rw[sv,PySem.W.ne_bytes,Mu]
  | _=>exact Áx
 | _=>cases y<;>exact Áx
theorem WG:OpR X (aR .Lt) (rI0 λi j=>.bl (decide (i<j))):=#[ia,Tn,lt_int]
theorem We:OpR X (aR .LtE) (rI0 λi j=>.bl (decide (i<=j))):=#[ia,Tn,le_int]
theorem WF:OpR X (aR .Gt) (rI0 λi j=>.bl (decide (j<i))):=#[ia,Tn,gt_int]
theorem RA:OpR X (aR .GtE) (rI0 λi j=>.bl (decide (j<=i))):=#[ia,Tn,ge_int]
theorem Rz:OpR X (aR .Lt) (λx y H Q=>X2 λi j=>x=.str i/\y=.str j/\Q (.bl (decide (i.cps.toList<j.cps.toList))) H):=by intro ai s σ H x y v u Q I a b h;obtain i|j|rfl|rfl|q:=h;obtain t|rfl:=a;obtain t'|rfl:=b;exact lt_str (ZW I q rfl)
theorem Xa:OpR X (aR .Is) (λx y H Q=>y=.non/\Q (.bl (decide (x=.non))) H):=by
 rw[u7];refine is_none_gen (ZW I q ?_);cases x<;>first
  | (cases a;rfl)
  | (obtain t|rfl:=a;rfl)
theorem Tj:OpR X (aR .IsNot) (λx y H Q=>y=.non/\Q (.bl (!decide (x=.non))) H):=by
 rw[u7];refine isnot_none_gen (ZW I q ?_);cases x<;>first
  | (cases a;rfl)
  | (obtain t|rfl:=a;rfl)
theorem Zr(b:aK){op:CmpOp}(h:op≠.In:=by decide)(h2:op≠.NotIn:=by decide):Ï4 op b=false:=by
 have a:(op == CmpOp.In)=false:=by cases op<;>first|rfl|exact È rfl h
 have c:(op == CmpOp.NotIn)=false:=by cases op<;>first|rfl|exact È rfl h2
 cases b<;>simp[Ï4,a,c]
theorem X1{op:CmpOp}{r:R2}(c:ËT)(ha:Áv)(hb:ÃX)(hm:ÔY):PE X ÔZ ËS:=by intro d s e H Q I h;exact wpAny_Compare1 ÔW hm
def Mt(t:TE):TT:=λa H Q=>t a H λx b=>EA (λk=>x=.bl k) (λk=>Q k b)
theorem Zn{op:CmpOp}{r:R2}(g:ËT)(ha:Áv)(hb:ÃX)(hm:ÔY):PT X ÔZ (Mt ËS):=by
 rw[eS,d,f,Q];refine wpAny_isTrue_Compare1 (thn #[eu,ha,d,f] λv i ⟨x,j,l,m,n⟩=>thn (hb d i f j _ l n) λu o ⟨y,p,q,t,w⟩=>
  thn (g d o f p x y v u _ q m t w) λc s3 ⟨z,A,B,C,k,e,D⟩=>?_) hm
 subst e;cases C;exact bp (A,B,D)
def Ms(r c:R2)(ta tb tc:TE):TE:=λa H Q=>ta a H λx d=>tb a d λy e=>r x y e λz b=>∃k,z=.bl k /\
 (if k=true then tc a b λf g=>c y f g Q else Q (.bl false) b)
theorem ZqR{op i:CmpOp}{r j:R2}(p:ËT)(q:OpR X (aR i) j)(ha:Áv)(hb:ÃX)(hc:PE X c tc)
  (hm:Ô0:=by with_unfolding_all rfl):PE X Ô1 (Ms r j ta tb tc):=by
 rw[eS,f,g,Q];refine Compare_chain (thn #[eu,ha,f,g] λv t ⟨x,w,A,B,C⟩=>chain_link (thn (hb f t g w _ A C) λu D ⟨y,E,F,l,G⟩=>
  thn Ô2 λd J ⟨z,m,n,K,k,e,o⟩=>?_)) hm
 subst e;cases K;refine bp ?_;cases k with
 | false=>exact ite_ff (.bl false,m,n,rfl,o)
 | true=>exact ite_tt (chain_last (thn (hc f J g m _ n o) λL M ⟨N,O,P,R,S⟩=>q f M g O y N u L Q P l R S))
theorem Rx{op i:CmpOp}{r j:R2}(p:ËT)(q:OpR X (aR i) j)(ha:Áv)(hb:ÃX)(hc:PE X c tc)
  (hm:Ô0:=by with_unfolding_all rfl):PT X Ô1 (Mt (Ms r j ta tb tc)):=by
 rw[eS,f,g,Q];refine isTrue_chain (thn #[eu,ha,f,g] λv t ⟨x,w,A,B,C⟩=>test_link (thn (hb f t g w _ A C) λu D ⟨y,E,F,l,G⟩=>
  thn Ô2 λd J ⟨z,m,n,K,k,e,o⟩=>?_)) hm
 subst e;cases K;refine bp ?_;cases k with
 | false=>obtain k'|L|M:=o;cases L;exact ite_ff (m,n,M)
 | true=>refine ite_tt (test_last (thn (hc f J g m _ n o) λN O ⟨P,R,S,T,V⟩=>thn (q f O g R y P u N _ S l T V) ?_));rintro d' s5 ⟨z2,W,Y,Z,k2,e2,q5⟩;subst e2;cases Z;exact bp (W,Y,q5)
theorem U9:(aq:Nat)<2 ^ 63:=by rw[(aO)];decide
theorem U8:OpR X Ï3 (λx y H Q=>X2 λi j=>x=.str i/\y=.str j/\È3+Åp<=aq/\Q (.str (i++j)) H):=by intro ai s σ H x y v u Q I a b h;obtain i|j|rfl|rfl|c|q:=h;obtain t|rfl:=a;obtain d|rfl:=b;exact add_str (λd tk=>(.str (i++j),H,ś _,ÿ,q)) c
theorem XN{x:V}{us:æ}(r:ZG [x] us):∃u,us=[u]/\ZE x u:=by
 cases r with
 | Í a b=>cases b;exact(_,rfl,a)
theorem Ti{x y:V}{us:æ}(r:ZG [x,y] us):X2 λu a=>us=[u,a]/\ZE x u/\ZE y a:=by
 cases r with
 | Í b c =>
  cases c with
  | Í d e=>cases e;exact(_,_,rfl,b,d)
theorem Mr:YZ X #[eM,"abs"] (λxs H Q=>∃i,xs=[.int i]/\Q (.int Ô3) H):=by intro ai s σ H xs us Q I r h;obtain i|rfl|q:=h;obtain u|rfl|t|rfl:=XN r;exact call_abs_int λu tk=>(.int Ô3,H,ś _,ÿ,q)
theorem Rw(hc:ŕ):YZ X #[eM,"max"] (λxs H Q=>X2 λi j=>xs=#[gQ,i,j]/\Q (.int (if j>i then j else i)) H):=by
 rw[iH];refine max_two_ints Á0 λh' tk k=>(_,H,Ãf k,?_,q);by_cases a:j>i
 ·rw[ip,a,a];exact ÿ
 ·rw[hD,a,a];exact ÿ
theorem Mq(hc:ŕ):YZ X ËU (λxs H Q=>X2 λi j=>xs=#[gQ,i,j]/\Q (.int (if j<i then j else i)) H):=by
 rw[iH];refine min_two_ints Á0 λh' tk k=>(_,H,Ãf k,?_,q);by_cases a:j<i
 ·rw[ip,a,a];exact ÿ
 ·rw[hD,a,a];exact ÿ
theorem Rv:YZ X Ã3 (λxs H Q=>(∃i,xs=[.int i]/\Q Åj H)\/∃k,xs=[.bl k]/\Q (.int (if k then 1 else 0)) H):=by
 rw[aR];rcases h with⟨i,rfl,q⟩|⟨k,rfl,q⟩
 ·obtain u|rfl|t|rfl:=XN r;exact call_int_int (.int i,H,I,ÿ,q)
 ·rw[eV,a];exact call_int_bool (.int (if k then 1 else 0),H,ś _,ÿ,q)
universe E
structure VL (h:aI) (x dx C:ae) (mA:þ):Prop where
 obj:ß x=U (Åf C dx)
 ns:h.Ns1 dx mA
 ne:dx≠x
theorem ZoE{h:aI}{dx:ae}{mA:þ}(n:h.Ns1 dx mA):∃b,ß dx=U b/\∀name,ËV name b=U (mA name):=by
 obtain o|c|ep|d|f|g|_|i:=n;refine(o,d,λname=>?_);have e:=i name;unfold nsFind findBy at e;rw[<- Array.find?_toList]at e;unfold ËV;rw[f];dsimp only;split
 ·rename_i y q;rw[q]at e;exact ł U e
 ·rename_i q;rw[q]at e;have a:c.toList.any (·.refKey)=false:=by rw[List.any_eq_false];intro y j;obtain z|t|k:=g y (Array.mem_toList_iff.mp j);simp[DictEntry.refKey,k]
  have l:¬ c.toList.any (·.refKey)=true:=by rw[a];exact Qu
  rw[zf,l];exact ł U e
theorem VL.look{h:aI}{x dx C:ae}{mA:þ}(I:VL h x dx C mA):∃a,PySem.W.InstAt h x (Åf C dx) C (U a)/\∀name,ËV name a=U (mA name) :=
 let ⟨a,b,c⟩:=ZoE I.ns
 (a,(I.obj,rfl,rfl,b),c)
section
variable {ñ:ay} {w:aF} {A:aD} {E:aa->aj->Prop} {s:aj} {K:Ä} {x dx C f:ae} {mA:ak->Ã aa} {name:ak} {v:aa}
theorem ZrN{a:Ð}{Q:ð}(X:È4)(I:Ï5)(b:Ô4)(c:#[e7,C])
  (ha:Ï6) (d:mA name=U v) (e:Ô5 v=true) (h:Q v { s with ï:=Ļ+1 }) :
  ar Ô A (getAttr ÀP name a) Q E s:=by
 rw[g9,od,J,f,I.look];exact PySem.W.get_value X J (Ô6 b).1 (PySem.W.findObj_own c ha rfl (by rw[f,d])) e h
theorem ZpQ{pl:Sem Ð}{Q:aa×À aa->aj->Prop}(X:È4)(I:Ï5)(a:Ô4)
  (b:ī K ç name=U ÀC) (ht:Ï7) (c:mA name=af) (h:Q (.ref f,[.ref x],) s) :
  ar Ô A (Ã4 ÀP name pl) Q E s:=by
 rw[g9,d,J,e,I.look];exact PySem.W.method_fn X J #[yl].1 #[yl].2 b (Ï8 ht) (by show (ËV name d).map (·.isSome)=U false;rw[e,c];rfl) h
theorem ZrS{ns:Ñ}{Q:ÁX}(X:È4)(I:Ï5)
  (e:#[f1,ç]) (hp:#[rB,C]) (ht:Ï9 K C name=U af) (f:#[e7,C])
  (hw:ÈF mA ns) (hsz:ËW)
  (h:∀h',VL h' x dx C Ða->ÆJ dx Ê h'->Q () { s with Õ:=h',ï:=Ļ+2 }) :
  ar Ô A (È5 ÀP name v) Q E s:=by
 rw[g9,od,J,hl,I.look];refine PySem.W.set_plain X J e (PySem.W.osa_open (s:=Ðb) (r:=af) X J hp ht λb=>?_);rw[sJ,cd,g,i,PySem.W.any_some,f];have j:é x=U (.ref C,U dx,.plain,#[]):=I.obj;refine ah (av (ah (ah (wpAny_loadPart j (ah (PySem.W.Looks.here (s:=Ðb) (PySem.W.looks_clsIn X g) ?_))))));rw[i];refine av (a:=U dx) (ah (av (ah ?_)));refine Ðc (s:=Ðb) I.ns λh' c d=>?_;obtain oD|DN|DO|k|l|m:=c.count (PySem.Within.cons name v hw);refine ah (Ðd k (by rw[l];exact Ðe (Qk m #[eO,QA])) ?_);exact av (h _ ((d.2 _ (Ás I.ne)).trans I.obj,c,I.ne) d)
theorem Zrg{R:È6}{vs:æ}{kw:Ãj}(X:È4)(hm:#[hF,C])
  (a:#[fl,ç,č]) (b:PySem.W.typeIn K č=U #[ir,"function"])
  (h:bK Ô (È7 (.builtin "type.__call__" (.ref C::vs,kw))) (.call č (.ref š::vs,kw)) (PySem.W.InitBack š R)
   { s with Õ:=(Àl ÆT).push (Åf C Î) }) :
  bK Ô A (.call ç (vs,kw)) R s:=by
 rw[gJ,hh,t,s];exact PySem.W.make_core (PySem.W.makes_of X hm) (Qax X a) (λself=>Ô7 X self b) Ė h
universe E
def Zv(f:ak)(v:V):À Á3->À Á3
 | []=>[(f,v,)]
 | (g,x,)::r=>if g=f then (g,v,)::r else (g,x,)::Zv f v r
theorem Zq(f g:ak)(v:V):∀fs:À (ak×V),#[uk].lookup g=if g=f then U v else Åq g
 | []=>by
  show À8 g [(f,v,)]=_;by_cases h:g=f
  ·rw[r1,f];simp only[À8,hb,Æ h]
  ·rw[hA,f];simp only[À8,hb,Ç h]
 | (k,x,)::r=>by
  have b:=Zq f g v r;rw[94];by_cases a:k=f
  ·rw[Æ a];by_cases h:g=k
   ·rw[r1,k];simp only[À8,hb,Æ (h.trans a)]
   ·rw[hA,k];simp only[À8,hb,Ç (λe:g=f=>h (e.trans a.symm))]
  ·rw[zf,a];by_cases h:g=k
   ·rw[r1,k];simp only[À8,hb,Ç (λe:g=f=>a (h.symm.trans e))]
   ·rw[hA,k];simp only[À8,hb];exact b
theorem Uz(f:ak)(v:V):∀fs:À (ak×V),f∈#[uk].map õ/\∀g,g∈fs.map õ->g∈#[uk].map õ
 | []=>(by simp[Zv],λg h=>by simp at h)
 | (k,x,)::r=>by
  obtain i1|i2:=Uz f v r;rw[94];by_cases a:k=f
  ·rw[Æ a];subst a;exact(by simp,λg h=>by simpa using h)
  ·rw[zf,a];rw[y7,?_,g,h]
   ·rw[Qj];exact Ql _ i1
   ·rw[Qj]at h ⊢;rcases ĩ h with e|e
    ·exact List.mem_cons.mpr (.inl e)
    ·exact Ql _ (i2 g e)
theorem Mp(f:ak)(v:V):∀fs:À (ak×V),#[uk].length<=ÃR+1
 | []=>by simp[Zv]
 | (k,x,)::r=>by
  have ih:=Mp f v r;rw[94];by_cases a:k=f
  ·rw[Æ a,QA,QA];lia
  ·rw[Ç a,QA,QA];lia
theorem È8{v:V}{o:Ã5}(r:Yo (U v) o):∃u,o=U u/\ZE v u:=by
 cases o with
 | none=>exact#[iM].elim
 | some u=>exact(u,rfl,r)
theorem Yo.none_of{o:Ã5}(r:Yo af o):o=af:=by
 cases o with
 | none=>rfl
 | some u=>exact#[iM].elim
theorem ZnQ{v:V}{u:aa}(r:ZE v u):Ô5 u=true:=by
 cases v with
 | non=>cases (show u=Ài from r);rfl
 | bl b=>cases (show u=Åc b from r);rfl
 | int i=>obtain t|e:=#[eB,t,Â8,i,r];cases e;rfl
 | str x=>obtain t|e:=#[eB,t,Áq,x,r];cases e;rfl
 | byt b=>obtain t|e:=#[eB,t,aa.bytes,b,r];cases e;rfl
 | flt b=>obtain t|e:=#[eB,t,Ëu,b,r];cases e;rfl
 | ref a=>cases (show u=à a from r);rfl
 | ty n=>cases (show u=Â9 n from r);rfl
section
variable {P:ay} {w:aF} {H H':Hp} {h h':aI} {a C dx:ae} {fs sZ:À (ak×V)}
theorem Uy(hok:À5)(e:ËX):∃mA,VL h a dx C mA/\#[zg,mA]/\ÈF mA Ëv/\ÃR<=1000/\H dx=U Åe:=by obtain d|z|ne|b|mA|n|r|q:=(show Z7 P w H h a (.ins C dx fs) from hok a _ e);exact(mA,(b,n,ne),r,q,z,d)
universe E
structure Cls (K:Ä) (C:ae):Prop where
 pg:ËY K C Áy=true
 hd:Ðf K C=true
 po:Ô8 K C=true
 sa:ī K ç "__setattr__" = U È9
theorem Cls.get{K:Ä}{C:ae}(c:Cls K C)(f:ak):ËY K C f=true:=c.pg
def Yu(K:Ä)(C:ae)(f:ak):Prop:=ī K ç f=U af
theorem Yu.taker{K:Ä}{C:ae}{f:ak}(n:Yu K C f):Ï9 K C f=U af:=by unfold Ï9;rw[show ī K ç f=U af from n];rfl
structure Con (K:Ä) (C:ae) (f:ak) (v:V) (u:aa):Prop where
 at_:ī K ç f=U (U u)
 rel:ZE v u
 get:Éa K u "__get__" = U af
 cp:PySem.W.copiedNames.contains f=false
structure U7 (K:Ä) (C:ae) (m:ak) (f:ae):Prop where
 at_:ī K ç m=U ÀC
 fn:År K č=true
 kp:À9 K č=true
section
variable {X:Cx} {ai:À (ae×aN)} {σ:St} {H:Hp} {s:aj} {a C dx:ae} {fs:À (ak×V)} {f:ak} {v:V} {A:aD} {E:aa->aj->Prop}
theorem Mo{b:Ð}{Q:ð}(I:ä)(e:ËX)(c:Ã6)(n:ÆU)(l:Åq f=U v)
  (h:#[yU,u,H]):ar Ĝ A (getAttr Ħ f b) Q E s:=by
 obtain g|O|r|_|_|_:=Uy ê e;obtain u|i|d:=È8 (v:=v) (o:=g f) (by rw[<- l];exact r f);exact ZrN ě O (c.get f) c.hd n i (ZnQ d) (h u _ ÂA d)
theorem Ru{m:ak}{g:ae}{pl:Sem Ð}{Q:aa×À aa->aj->Prop}(I:ä)(e:ËX)(c:Ã6)(k:U7 X.K C m g)(l:Åq m=af)
  (h:Q (.ref g,η,) s):ar Ĝ A (Ã4 Ħ m pl) Q E s:=by
 obtain b|O|r|_|_|_:=Uy ê e;have d:b m=af:=Yo.none_of (by rw[<- l];exact r m);exact ZpQ ě O (c.get m) k.at_ k.fn d h
theorem Mn{y:V}{u:aa}{Q:ÁX}(I:ä)(e:ËX)(c:Ã6)(n:ÆU)(hl:ÃR<1000)(l:ZE y u)
  (h:∀s',Inv X ai σ (upd H a (.ins C dx Ðg)) s'->Q () s'):ar Ĝ A (È5 Ħ f u) Q E s:=by
 obtain i|O|r|j|_|k:=Uy ê e;have m:(Ëv).length<=aq:=by rw[Qa,aO];lia
 refine ZrS ě O c.sa c.po n.taker c.hd j m λp d t=>h _ ?_;have v:∃o,p.get? dx=U o:=let ⟨o,_,_,w,_⟩:=d.ns;(o,w);refine Ås (x:=a) (e:=dx) Éb (.inr k) (λb q B z=>(t.2 b B).trans z) v ?_;refine(by rw[Zc O.ne];exact k,?_,O.ne,d.obj,_,d.ns,λg=>?_,λg D=>?_)
 ·have:=Mp f y fs;lia
 ·show Yo ((Ðg).lookup g) (if g=f then U u else i g);rw[Zq];by_cases q:g=f
  ·rw[ip,q,q];exact l
  ·rw[hD,q,q];exact r g
 ·by_cases q:g=f
  ·rw[q];exact#[yj].1
  ·refine#[yj].2 g (j g λz=>D ?_);show (if g=f then U u else i g)=af;rw[zf,q];exact z
theorem Inv.made(I:ä):Inv X ai σ #[eI,H,Î,š,C]
  { s with Õ:=(Àl ÆT).push (Åf C Î) }:=by
 have c:(Üj).get? Î=U ÆT:=Qt Ê rfl;have d:((Üj).push Ô9).get? š=U Ô9:=by have:=Qt Üj (o:=Åf C Î) rfl;rwa [Q1]at this
 have f:(Üj).Ns Î (λ_=>af):=(ÆT,#[],_,c,rfl,(λe g=>È g Ö),λ_=>rfl);have h:=ÀU (a:=Éc) (o:=.own š) (h':=Àl ÆT) (t':=Ŗ) #[ie,b,u,q] ë (_,c);refine h.laid (a:=Î+1) (o:=.ins C Î []) (t':=Ŗ) #[ie,b,u,q] (ËZ (Q1 _ _)) ?_;have ne:Î≠Î+1:=Qz Ðh;refine(by rw[Zc ne,Zb],Qs _,ne,d,λ_=>af,(Õa f).at λo q=>Qc _ q,λ_=>ŭ,λy i=>È rfl i)
theorem ZrP{ñ:ay}{w:aF}{env:Env}{e:aK}{f:ak}{pos:Pos}{s:aj}{Q:ð}(hb:bE e f env (ā e env)=ā e env)
  (h:ar Ô A (ā e env) (λo a=>ar Ô A (getAttr o f true) Q E a) E s):ar Ô A (ā Ði env) Q E s :=
 Attribute_any_ h (by rw[arm_eval_Attribute,hb])
universe E
inductive Zwj (K:Ä) (f:ak) (x:V) (H:Hp) (B:V->Prop):Prop where
 | mk (a C dx:ae) (fs:À (ak×V)) (v:V) (e:x=.ref a) (g:H a=U (.ins C dx fs)) (c:Cls K C) (n:Yu K C f) (l:Åq f=U v) (q:B v)
def Mm(K:Ä)(b:TE)(f:ak):TE:=λc H Q=>b c H λx a=>Zwj K f x a (λv=>Q v a)
inductive RSF (K:Ä) (f:ak) (x:V) (H:Hp) (B:ae->HO->Prop) (y:V):Prop where
 | mk (a C dx:ae) (fs:À (ak×V)) (e:x=.ref a) (g:H a=U (.ins C dx fs)) (c:Cls K C) (n:Yu K C f) (l:ÃR<1000) (q:B a (.ins C dx (Zv f y fs)))
def Zwx(K:Ä)(d e:TE)(f:ak):TS:=λD b H=>e b H λy g=>d b g λx c=>RSF K f x c (λa o=>Ċ b (upd c a o)) y
def Ml(X:Cx)(op:ÈX)(rd:ÈW):Prop :=
 ∀ (a:À (ae×aN)) (s:aj) (b:St) (H:Hp) (x y:V) (u v:aa) (Q:VK),Inv X a b H s->ZE x u->ZE y v->rd x y H Q->ó (ÏO op u v) ÃZ è s
def ZsR(K:Ä)(h i:TE)(rd:ÈW)(f:ak):TS:=λD b H=>h b H λx d=>X5 λa C dx fs v=>x=.ref a/\d a=U (.ins C dx fs)/\Cls K C/\Yu K C f/\Åq f=U v /\
 i b d λy j=>rd v y j λz e=>X2 λg c=>e a=U (.ins C g c)/\ĵ<1000/\Ċ b (upd e a (.ins C g (Zv f z c)))
section
variable {X:Cx} {o e Àm:aK} {f:ak} {pos cZ eS:Pos} {ta tv:TE}
theorem ZH(he:PE X e ta)(hb:#[e9,e,f]):PE X Ði (Mm X.K ta f):=by intro b s d H Q I h;refine ZrP hb #[ei,he,b,d];rintro u s1 ⟨x,g,i,j,a,C,dx,fs,v,ex,k,c,n,l,q⟩;subst ex;obtain rfl:u=à a:=j;exact Mo i k c n l λu' s2 m o=>(v,g,m,o,q)
theorem X0(ha:Ãk)(e:Ë0)(g:Ðj):PS X Ðk (Zwx X.K ta tv f):=by intro d s b H D I h;refine Ðl #[gm,e,d,m,q] g;rintro p s2 ⟨x,H2,r,t,a,C,dx,fs,ex,v,c,n,l,w⟩;subst ex;obtain rfl:p=à a:=t;exact Mn r v c n l m λs3 z=>(b,_,z,w)
theorem VJ{op:ÈX}{rd:ÈW}(ha:Ãk)(g:Ë0)(d:Ml X op rd):PS X (.AugAssign #[r5,f,eS] op Àm pos) (ZsR X.K ta tv rd f):=by intro e s b H D I h;refine wpAny_AugAssign_AttributeAny #[ei,ha,e,b];rintro i s1 ⟨x,j,k,m,a,C,dx,fs,v,ex,p,c,n,l,q⟩;subst ex;obtain rfl:i=à a:=m;refine Mo k p c n l λu r t w=>thn (g e r b j _ t q) λA B ⟨y,E,F,G,J⟩=>thn (d e B b E v y u A _ F w G J) ?_;rintro w4 s4 ⟨z,H3,K,L,uw,sZ,M,N,O⟩;exact Mn K M c n N L λs5 P=>(b,_,P,O)
def Zwm:V->V->Hp->VK->Prop:=λx y H Q=>RI2 x y (λi j=>Q (.int (i+j)) H)
theorem Ux:Ml X .Add Zwm:=by rintro ai s σ H x y u v Q I b c ⟨i,j,rfl,rfl,q⟩;obtain t|rfl:=#[eB,t,Â8,i,b];obtain a|rfl:=(show ∃a,v=Â8 j a from c);exact PyProof.Rows.iadd_int (.int (i+j),H,ś _,ÿ,q)
universe E
section
variable {X:Cx} {ai:À (ae×aN)} {σ:St} {H:Hp} {s:aj} {A:aD} {E:aa->aj->Prop} {Q:aa->aj->Prop} {c:aa} {b:Ð}
inductive Xn (K:Ä) (H:Hp):V->aa->Prop where
 | non:Xn K H .non (.type "NoneType")
 | bl (x:Ð):Xn K H (.bl x) (.type "bool")
 | int (i:Int):Xn K H (.int i) (.type "int")
 | str (x:ak):Xn K H (.str x) (.type "str")
 | flt (x:UInt64):Xn K H (.flt x) (.type "float")
 | lst {a:ae} {xs:À V} (e:H a=U (.lst xs)):Xn K H (.ref a) (.type "list")
 | frz {a:ae} {o:aN} {xs:À V} (e:H a=U (.frz o (.lst xs))):Xn K H (.ref a) (.type "list")
 | tup {a:ae} {xs:À V} (e:H a=U (.tup xs)):Xn K H (.ref a) (.type "tuple")
 | dK {a:ae} {kvs:À (Key×V)} (e:H a=U (.dK kvs)):Xn K H (.ref a) (.type "dict")
 | dT {a:ae} {kvs:À (À Key×V)} (e:H a=U (.dT kvs)):Xn K H (.ref a) (.type "dict")
 | ins {a C dx:ae} {fs:À (ak×V)} (e:H a=U (.ins C dx fs)) (cl:Cls K C) (ha:ī K (.ref C) "__class__" = U (U (.builtin "object.__class__")))
   (hn:Õb) (fO:Õc)
   (hm:#[gh,C]):Xn K H Ħ ç
theorem Zoe{x:V}{u t:aa}(I:ä)(d:ZE x u)(ty:Xn X.K H x t)(e:Ď X.K t c=U b)(h:∀tk,Q (.bool b) { s with ï:=tk }) :
  ar Ĝ A (Ĵ Éd [u,c]) Q E s:=by
 cases ty with
 | non=>cases (show u=Ài from d);rw[gW,Õd]
 | bl y=>cases (show u=Åc y from d);rw[gW,Õe]
 | int i=>obtain t|q:=Ðm;cases q;rw[gW,Õf]
 | str y=>obtain t|q:=#[eB,t,Áq,y,d];cases q;rw[gW,Õg]
 | flt y=>obtain t|q:=#[eB,t,Ëu,y,d];cases q;rw[gW,Õh]
 | @lst a k f=>cases (show u=à a from d);obtain _|_|n|_|g:=(show Z7 ù X.w H Ê a (.lst k) from ê a _ f);exact Õi
 | @frz a r k f=>cases (show u=à a from d);obtain _|_|_|n|_|g:=(show Z7 ù X.w H Ê a (.frz r (.lst k)) from ê a _ f);exact Õi
 | @tup a k f=>cases (show u=à a from d);obtain _|_|_|p:=(show Z7 ù X.w H Ê a (.tup k) from ê a _ f);obtain o|g|l|_:=p;exact Q7 Õj ě (o,g,l) e Àn h
 | @dK a j f=>cases (show u=à a from d);obtain _|_|vs|_|p:=#[gP,a,j,f];obtain o|v|w|g|l|_:=p;exact Õk
 | @dT a j f=>cases (show u=à a from d);obtain _|_|k|_|o|v|w|g|l|_:=(show Z7 ù X.w H Ê a (.dT j) from ê a _ f);exact Õk
 | @ins a C dx fs f m B D F G=>cases (show u=à a from d);obtain mA|O|_:=Uy ê f;obtain od|J|_:=O.look;exact Q7 (Õl (m.get _) m.hd B D F G) ě J e Àn h
universe E
structure Z8 (k:Nat) (A:aD):Prop where
 hd:A.handled=af
 dp:Ë1+3*k+5<recursionLimit
 un:ÂB+16*k+200<ÂC
 gd:A.guards=U []
theorem Z8.mono{j k:Nat}{A:aD}(r:Z8 k A)(h:j<=k):Z8 j A:=(r.hd,by have:=r.dp;lia,by have:=r.un;lia,r.gd)
theorem Z8.deeper{k:Nat}{A:aD}(r:Z8 (k+1) A)(env:Env):Z8 k (ÆV env) :=
 (r.hd,by have:=r.dp;show Ë1+1+3*k+5<_;lia,by have:=r.un;show ÂB+3+16*k+200<_;lia,r.gd)
theorem Zms{A:aD}{C:ae}{us:æ}{kw:Ãj}:(Õm).depth=Ë1+1:=by first|rfl|simp[Ë2,Code.weight,Code.isCreation,Code.isGuard,Code.isCaller,Ðn,Ë3,guardIds]
theorem Zmd{A:aD}{C:ae}{us:æ}{kw:Ãj}:(Õm).units=ÂB+1:=by first|rfl|simp[Ë2,Code.cUnits,Ðn,Ë3]
theorem Z8.make{k:Nat}{A:aD}(r:Z8 (k+1) A)(C:ae)(us:æ)(kw:Ãj):Z8 k Õm :=
 (r.hd,by have:=r.dp;rw[Zms];lia,by have:=r.un;rw[Zmd];lia,by rw[show (È7 Õn).guards=A.guards from by first|rfl|simp[Ë2,pushGuards,Code.guards,Code.isGuard,guardIds]];exact r.gd)
theorem Z8.depth{k:Nat}{A:aD}(r:Z8 k A):Ë1<recursionLimit:=by have:=r.dp;lia
theorem Z8.units{k:Nat}{A:aD}(r:Z8 k A):ÂB+64<ÂC:=by have:=r.un;lia
def VI:TA:=λ_ H Q=>Q [] H
def Zv8(b:TE)(c:TA):TA:=λa H Q=>b a H λx d=>c a d λxs e=>Q (x::xs) e
section
variable {X:Cx} {e:aK} {es:À aK} {te:TE} {t:TA} {pos:Pos}
theorem Zd:PA X [] VI:=λ_ _ _ _ H Q I h=>Ðo ([],H,I,.nil,h)
theorem Za(ha:Ål)(hr:PA X es t)(c:θ:=by rfl):PA X (e::es) (Zv8 te t):=by intro pos a s b H Q I h;rw[c];show ar _ _ (spliced (Ée::bn pos (aG es Ì))) _ _ s;refine ÆW #[ei,ha,a,b];rintro u d ⟨x,f,g,i,j⟩;exact thn (hr pos a d b f _ g j) λus s2 ⟨k,l,m,n,o⟩=>(x::k,l,m,.cons i n,o)
def Zwv(t:TA):TE:=λb H Q=>t b H λxs a=>ã<=aq/\∀p,a p=af->Q Ż (upd a p Γ)
def ZwL(t:TA):TE:=λb H Q=>t b H λxs a=>ã<=aq/\∀p,a p=af->Q Ż #[ha,a,p,xs]
theorem YG{f}(h:PA X es t):PE X (.Tuple es f pos) (Zwv t):=by intro g s i H Q I j;refine wpAny_Tuple_spliced (thn (h pos g s i H _ I j) λk a ⟨l,c,d,r,z,q⟩=>(by rw[<- ÀV];exact z,?_));have m:c Ào=af:=Éf ë;refine(.ref Ào,upd c Ào (.tup l),d.laid (t':=ÆX) #[ie,b,u,e] ë ?_,rfl,q _ m);exact(z,k,r,(_,Qt _ rfl,rfl,_,rfl))
theorem ZT(h:PA X es t):PE X (.List es pos) (ZwL t):=by intro f s g H Q I i;refine wpAny_List_spliced (thn (h pos f s g H _ I i) λj a ⟨k,c,d,r,z,q⟩=>(by rw[<- ÀV];exact z,?_));have l:c Ào=af:=Éf ë;refine(.ref Ào,upd c Ào (.lst k),d.laid (t':=ÆX) #[ie,b,u,e] ë ?_,rfl,q _ l);exact(z,j,0,r,Qt _ rfl)
universe E
abbrev Sp:=À V->Hp->VK->XK->Prop
abbrev CXT:=À Env->Hp->aj->XK->aa->aj->Prop
structure VH (P:ay) (w:aF) (K:Ä) (mg:þ) (Â:aI) (A:aD) (Û:ÁW) (s:aj) (H:Hp):Prop where
 frames:A.frames=U Û
 mod:Mod K mg Â
 bs:∀b o,base.get? b=U o->é b=U o/\H b=af
 bsz:base.objs.size<=Î
 funs:ÆF Â Û
 frf:∀b∈frs Û,H b=af
 hok:HOk P w H Ê
 bare:Ãb Åg
def CE(Û:ÁW)(P:ay)(w:aF)(H:Hp)(s:aj)(Q:VK)(u:aa)(s':aj):Prop :=
 X2 λv a=>s'.os=s.os/\Ãb s'.gens/\Un (frs Û) [] H a Ê ÀB/\HOk P w a ÀB/\ZE v u/\Q v a
def CR(CX:CXT)(Û:ÁW)(P:ay)(w:aF)(H:Hp)(s:aj)(Q:VK)(E:XK)(r:Ég)(s':aj):Prop :=
 match r with
 | .ok (.ret u)=>CE Û P w H s Q u s'
 | .ok _=>ĕ
 | .error e=>CX Û H s E e s'
structure YY (P:ay) (w:aF) (K:Ä) (mg:þ) (Â:aI) (CX:CXT) (k:Nat) (f:ae) (fd:bA) (ps:Ñ) (sp:Sp):Prop where
 len:∀vs H Q E,sp vs H Q E->Ů=ÀD
 run:∀ (A:aD) (Û:À Env) (s:aj) (H:Hp) (args:Args) (us:À aa) (vs:À V) (Q:VK) (E:XK),Z8 k A->VH P w K mg Â A Û s H->ÆY s fd args ÆZ->ZG vs us->sp vs H Q E ->
  bK Ã1 A (.call č args) (CR CX Û P w H s Q E) s
theorem YY.mono{P:ay}{w:aF}{K:Ä}{mg:þ}{Â:aI}{CX:CXT}{j k:Nat}{f:ae}{a:bA}{ps:Ñ}{sp:Sp}(F:YY P w K mg Â CX j f a ps sp)(h:j<=k) :
  YY P w K mg Â CX k f a ps sp:=(Ã7,λA Û s H args us vs Q E hr=>F.run A Û s H args us vs Q E (Ã8 h))
theorem YY.imp{P:ay}{w:aF}{K:Ä}{mg:þ}{Â:aI}{CX:CXT}{k:Nat}{f:ae}{b:bA}{ps:Ñ}{sp c:Sp}(F:YY P w K mg Â CX k f b ps sp)
  (h:∀vs H Q E,c vs H Q E->sp vs H Q E):YY P w K mg Â CX k f b ps c :=
 (λvs H Q E q=>Ã7 vs H Q E (h _ _ _ _ q),λA a s H args d vs Q E e g i j l=>F.run A a s H args d vs Q E e g i j (h _ _ _ _ l))
theorem VH.make{P:ay}{w:aF}{K:Ä}{mg:þ}{Â:aI}{A:aD}{Û:ÁW}{s:aj}{H:Hp}(e:Õo)(C:ae)(us:æ)(kw:Ãj) :
  VH P w K mg Â Õm Û s H:=(by first|exact e.frames|(simpa [Ë2,Code.envs,Ë3,pushEnvs] using e.frames),e.mod,e.bs,e.bsz,e.funs,e.frf,e.hok,e.bare)
section
variable {X:Cx} {ai:À (ae×aN)} {σ:St} {H:Hp} {s s':aj}
theorem Inv.env0(I:ä):VH ù X.w X.K Ě Ő X.A Ε s H :=
 (Æ0,Ëz,I.bs,Qk ÈN I.sz,I.stack,Ðp,ê,Ζ)
theorem Inv.after{Q:VK}{u:aa}(I:ä)(h:CE Ε ù X.w H s Q u s'):EP X ai σ Q u s':=by obtain v|e|os|a|un|c|r|q:=h;obtain f|g|d|t|i:=s';obtain rfl:i=s.os:=os;exact(v,e,I.call (h':=f) (g':=g) (d':=d) (t':=t) (ch:=[]) un c a (λb z=>È z Ö),r,q)
universe E
def Th(sp:Sp)(dvs:Ĕ)(E:XK)(t:TA):TE:=λa H Q=>t a H λvs b=>sp Ã9 b Q E
inductive RMt (C:ae) (m:ak) (x:V) (H:Hp) (B:Prop):Prop where
 | mk (a dx:ae) (fs:À (ak×V)) (e:x=.ref a) (g:H a=U (.ins C dx fs)) (l:Åq m=af) (q:B)
def Tg(C:ae)(m:ak)(sp:Sp)(dvs:Ĕ)(E:XK)(c:TE)(t:TA):TE:=λa H Q=>c a H λx b=>RMt C m x b (t a b λvs d=>sp (x::Ã9) d Q E)
def Tf(C:ae)(sp:Sp)(dvs:Ĕ)(E:XK)(t:TA):TE:=λb H Q=>t b H λvs a=>∀x dx,a x=af->a dx=af->dx≠x ->
 sp (.ref x::Ã9) #[eI,a,dx,x,C] (λv c=>v=.non/\Q ÀP c) E
def Yz(K:Ä)(b:bA)(ps:Ñ)(ds:æ):Prop :=
 ∀ (s:aj) (a:À aa),Ū Ê->(a++ds).length=ÀD->ÆY s b (a,[]) (Éh (a++ds))
theorem Yz.all{K:Ä}{a:bA}{ps:Ñ}(h:∀us:À aa,ÀO=ÀD->bindArgs a Éi=pure ÆZ):Yz K a ps []:=λs us _ hl=>by rw[Qab]at hl ⊢;exact .of_eq (h us hl)
def Wp(CX:CXT)(X:Cx)(E:XK):Prop:=∀ (a:À (ae×aN)) (b:St) (H:Hp) (s:aj) (e:aa) (s':aj),Inv X a b H s->CX Ε H s E e s'->è e s'
section
variable {X:Cx} {CX:CXT} {k:Nat} {f C:ae} {fd:bA} {ps:À ak} {sp:Sp} {dvs:À V} {ds:À aa} {E:XK} {x m:ak} {p pos bu:Pos} {e o:aK} {es:À aK} {ta:TE} {t:TA}
theorem Uw{b:ć}{c:St}{H:Hp}{s:aj}{Q:VK}{us:æ}{vs:Ĕ}(F:Äa)(hr:ι)(hb:Äb)(hd:Äc)(hx:Äd)
  (I:Inv X b c H s) (r:ZG vs us) (h:sp Ã9 H Q E):ó (Ĵ č us) (EP X b c Q) è s:=by
 have d:ZG Ã9 (us++ds):=Ë4 hd;have g:(us++ds).length=ÀD:=by rw[<- ů];exact Ã7 _ _ _ _ h
 refine Äe (Æ1 (F.run X.A Ε s H Éi (us++ds) Ã9 Q E hr I.env0 (hb s us ě g) d h) λr i a=>?_);cases r with
 | error e=>exact hx b c H s e i I a
 | ok j =>
  cases j with
  | ret u=>exact I.after a
  | next=>exact Ãl
  | brk=>exact Ãl
  | Η=>exact Ãl
theorem Zrq(F:Äa)(hr:ι)(b:ŋ)(hm:Ðq)(hk:Ðr)(hb:Äb)(hd:Äc)(hx:Äd)
  (ha:Àp) (c:Ī:=by decide) (he:θ:=by rfl) (d:Áz:=by rfl) :
  PE X Äf (Th sp dvs E t):=by
 rw[gV,g,i,b,c];refine Qae (h₀:=Ő) Äg hk Õp he d;exact Uw F hr hb hd hx a r q
theorem ZoO(F:Äa)(hr:ι)(a:ŋ)(hm:Ðq)(hk:Ðr)(hb:Äb)(hd:Äc)(hx:Äd)
  (b:Ī:=by decide):PE X Ë5 (Th sp dvs E VI):=by
 rw[gV,ai,σ,a,b];exact Ðs ě hk (Uw (us:=[]) F hr hb hd hx I .nil h)
theorem ZrR{pl:Sem Ð}(he:Ãk)(c:Ã6)(hm:U7 X.K C m f)(F:Äa)(hr:ι)(hb:Äb)(hd:Äc)(hx:Äd)(ha:Àp)
  (n:θ:=by rfl) (p:Áz:=by rfl)
  (v:ā Æ2 Ì=(do
   let b <- ā o Ì
   ÃW Æ3
   let (f,first) <- Áu [b] (Ã4 b m pl)
   Æ4 pos f first (bn pos Éj) Æ5):=by rfl) :
  PE X Æ2 (Tg C m sp dvs E ta t):=by
 rw[rL,d,g,v];rw[gy,w,y,i,z,A];refine Ru i A c hm l ?_;refine Qae (first:=η) (h₀:=Ő) Äg hm.kp (thn (ha pos d w g y _ i q) λus s2 ⟨vs,H2,j,r,B⟩=>(j.kIn,?_)) n p;exact Uw (us:=.ref a::us) (vs:=.ref a::vs) F hr hb hd hx j (.cons rfl r) B
theorem ZpR{pl:Sem Ð}(he:Ãk)(c:Ã6)(hm:U7 X.K C m f)(F:Äa)(hr:ι)(hb:Äb)(hd:Äc)(hx:Äd)
  (ht:ā Ë6 Ì=(do
   let d <- ā o Ì
   ÃW Æ3
   let (f,first) <- Áu [d] (Ã4 d m pl)
   Æ4 pos f first (bn pos (aG [] Ì)) Æ5):=by rfl) :
  PE X Ë6 (Tg C m sp dvs E ta VI):=by
 rw[rL,e,g,ht];rw[gy,s1,H1,b,i,j];refine Ru b j c hm l ?_;exact Ðs (first:=η) b.kIn hm.kp (Uw (us:=η) (vs:=η) F hr hb hd hx b Ðt q)
structure Mk (K:Ä) (C f:ae):Prop where
 makes:Õq K C=true
 init:ī K ç "__init__" = U ÀC
 fn:År K č=true
 kp:À9 K ç=true
theorem Mj{c:ć}{d:St}{H:Hp}{s:aj}{Q:VK}{us:æ}{vs:Ĕ}(M:Mk X.K C f)(F:Äa)(hr:Ék)(hb:Äb)(hd:Äc)
  (hx:Äd) (I:ËP) (r:ZG vs us)
  (h:∀x dx,H x=af->H dx=af->dx≠x->sp (.ref x::Ã9) #[eI,H,dx,x,C] (λv j=>v=.non/\Q ÀP j) E) :
  ó (Ĵ ç us) (EP X c d Q) è s:=by
 have g:=h š Î Ë7 Ãm (Qz Ðh);have b:=Inv.made (C:=C) I;have i:ZG (ú š::Ã9) Õr:=.cons rfl (Ë4 hd);have l:(à š::us++ds).length=ÀD:=by have e:=È3;rw[Ã7 _ _ _ _ g]at e;exact ÃU
 refine Äe (Zrg (f:=f) ě M.makes M.init (Ï8 M.fn) (Æ1 (F.run _ Ε _ _ (à š::us,[]) Õr _ _ E (hr.make C us [])
  (b.env0.make C us []) (hb _ Õs b.kIn l) i g) λr m a=>?_))
 cases r with
 | error e=>exact hx c d _ _ e m b a
 | ok n =>
  cases n with
  | ret u=>obtain v|o|p|q|t|w:=b.after a;subst t;exact(q,(ú š,o,p,rfl,w))
  | next=>exact Ãl
  | brk=>exact Ãl
  | Η=>exact Ãl
theorem ZrL(M:Mk X.K C f)(F:Äa)(hr:Ék)(b:ŋ)(hm:Ë8)(hb:Äb)(hd:Äc)(hx:Äd)
  (ha:Àp) (c:Ī:=by decide) (he:θ:=by rfl) (d:Áz:=by rfl) :
  PE X Äf (Tf C sp dvs E t):=by
 rw[gV,g,i,b,c];refine Qae (h₀:=Ő) Äg M.kp Õp he d;exact Mj M F hr hb hd hx a r q
theorem ZpW(M:Mk X.K C f)(F:Äa)(hr:Ék)(a:ŋ)(hm:Ë8)(hb:Äb)(hd:Äc)(hx:Äd)
  (b:Ī:=by decide):PE X Ë5 (Tf C sp dvs E VI):=by
 rw[gV,ai,σ,a,b];exact Ðs ě M.kp (Mj (us:=[]) M F hr hb hd hx I .nil h)
universe E
section
variable {X:Cx} {CX:CXT} {k:Nat} {f C:ae} {fd:bA} {ps ks:À ak} {sp:Sp} {E:XK} {x m:ak} {p pos bu kpos:Pos} {e o:aK} {es:À aK} {kws:À Keyword} {te ta:TE} {t tk:TA} {nm:Ã ak}
structure KBinds (K:Ä) (fd:bA) (ps ks:Ñ) (g:À aa->À aa->À aa) (gV:À V->À V->À V):Prop where
 to:∀ (s:aj) (us ws:À aa),Ū Ê->(g us ws).length=ÀD->ÆY s fd (us,ks.zip ws) (Éh (g us ws))
 rel:∀ {vs:À V} {us:À aa} {zs:À V} {ws:À aa},ZG vs us->ZG zs ws->ZG (gV vs zs) (g us ws)
variable {g:À aa->À aa->À aa} {gV:À V->À V->À V}
universe E
structure Zl (N P:Ñ) (sc:bj):Prop where
 kind:sc.kind=.function
 co:sc.isCoroutine=false
 gen:sc.isGenerator=false
 nd:ËG
 pre:N.take Æ6=P
 par:∀x∈P,Õt x=U .local\/Õt x=U .cell
 nofree:∀y∈sc.names,y.2≠.free
theorem Mi{μ:Ë9}{x:ak}:∀ {binds:À (ak×aa)} {m:ak->Ã aa},(∀v,(x,v,) ∉ binds)->Äh μ binds m x=m x
 | [],_,_=>rfl
 | (n,v,)::r,m,h=>by
  unfold Äh;rw[Mi λw hw=>h w (Ql _ hw)];split
  ·have:x≠n:=by rintro rfl;exact h v Qac
   simp[this]
  ·rfl
theorem Me{μ:Ë9}{x:ak}:∀ {binds:À (ak×aa)} {m:ak->Ã aa},(∀v,(x,v,) ∉ binds)->Äi μ binds m x=m x
 | [],_,_=>rfl
 | (n,v,)::r,m,h=>by
  unfold Äi;rw[Me λw hw=>h w (Ql _ hw)];split
  ·rfl
  ·have:x≠n:=by rintro rfl;exact h v Qac
   simp[this]
theorem Md{μ:Ë9}{x:ak}{v:aa}:∀ {P:À ak} {vs:À aa} {i:Nat} {m:ak->Ã aa},P.Nodup->P[i]? = U x->vs[i]? = U v->μ x=U .local ->
  Äh μ (P.zip vs) m x=U v
 | [],_,_,_,_,h,_,_=>by simp at h
 | _::_,[],_,_,_,_,h,_=>by simp at h
 | p::P,w::vs,0,m,nd,h1,h2,hk=>by simp at h1 h2;subst h1;subst h2;show Äh μ Ìa m p=_;unfold Äh;rw[Mi λv a=>(QS.mp nd).1 (Ðu a).1,Æ hk];simp
 | p::P,w::vs,i+1,m,nd,h1,h2,hk=>by show Äh μ Ìa m x=_;unfold Äh;exact Md (i:=i) (QS.mp nd).2 #[d8,h1] #[d8,h2] hk
theorem Mc{μ:Ë9}{x:ak}{v:aa}:∀ {P:À ak} {vs:À aa} {i:Nat} {m:ak->Ã aa},P.Nodup->P[i]? = U x->vs[i]? = U v->μ x≠U .local ->
  Äi μ (P.zip vs) m x=U v
 | [],_,_,_,_,h,_,_=>by simp at h
 | _::_,[],_,_,_,_,h,_=>by simp at h
 | p::P,w::vs,0,m,nd,h1,h2,hk=>by simp at h1 h2;subst h1;subst h2;show Äi μ Ìa m p=_;unfold Äi;rw[Me λv a=>(QS.mp nd).1 (Ðu a).1,Ç hk];simp
 | p::P,w::vs,i+1,m,nd,h1,h2,hk=>by show Äi μ Ìa m x=_;unfold Äi;exact Mc (i:=i) (QS.mp nd).2 #[d8,h1] #[d8,h2] hk
def Xw(N:Ñ)(vs:Ĕ):St:=vs.map U++ÁA (ğ-Ů) af
def XJ(CX:CXT)(P:ay)(w:aF)(K:Ä)(mg:þ)(Â:aI)(N:Ñ)(a:ak)(b:bj)(f:ae)(c:aa)(A:aD)(Û:ÁW)(s:aj)(H:Hp)(E:XK):Cx where
 ñ:=P
 w:=w
 K:=K
 mg:=mg
 Â:=Â
 A:=ÆV Ðv
 N:=N
 ÀQ:=s
 H₀:=H
 env:=Äj a b Î f c
 Û:=Û
 stack:=Äj a b Î f c::Û
 ex:=[]
 calm:=true
 fn:=λ_=>true
 pn:=[]
 xe:=λe g=>ar Ã1 (ÆV Ðv) (leaving Ðv e) (λ_ d=>CX Û H s E e d) (λh d=>CX Û H s E h d) g
theorem Mb{a:bj}{n:Nat}{x:ak}(h:ÃT x=U .cell):∃c,(Ðw n a.names []).lookup x=U c:=by have q:=Õu a.names n [] (.inl h);exact Option.isSome_iff_exists.mp q
theorem Zn8{CX:CXT}{P:ay}{w:aF}{K:Ä}{mg:þ}{Â:aI}{N ps:Ñ}{o:ak}{j:bj}{f:ae}{t:aa}{A:aD}{Û:ÁW}{s F:aj}{H:Hp}{E:XK}{us:æ}{vs:Ĕ}
  (S:Zl N ps j) (hd:Á4) (g:Õo) (hl:Ů=ÀD) (r:ZG vs us)
  (x:InCallC s Î (Äh #[ql].kindOf ÆZ λ_=>af) (Ðw š j.names []) (Äi #[ql].kindOf ÆZ λ_=>af) F) :
  Inv Ük [] ÁB H F:=by
 have cK:ÀD<=ğ:=by have:=#[et,S.pre];rw[Qw]at this;lia
 obtain B|tk|rfl|G:=x.done;have D:∀b:ae,b ∉ (Ük).ex:=λb z=>È #[r9,z] Ö;refine⟨(g.mod,Æ7,rfl,rfl,Qg _,λy z c B d=>?_,λy hy=>?_,λy c _ h=>?_,λ_=>hd,aD.frames_deeper g.frames,.inr ĳ,λb z=>È z (D b),g.bs,g.bsz,λb _ _=>D b,λb z=>È z (D b),g.funs,g.frf),
  rfl,g.bare,ÈG G,(_,x.toInCall.ns,λi y v B d h3=>?_),λy c h=>(_,x.cell y c h),g.hok.fresh ë,λy c h=>?_,λp l=>È (show p∈Ìb from l) Ö,g.hok.kept G,?_⟩
 ·exact name_of_addr x.apart (Qao B) (Qao d)
 ·have hy:#[sQ,j.names.lookup,y]:=hy;rcases hy with hy|hy
  ·exact Mb hy
  ·exact È rfl (S.nofree _ (Qao hy))
 ·exact Qa7 (x.above y c (Qao h))
 ·have C:i<Ů:=by
   unfold Xw at d;by_cases C:i<Ů
   ·exact C
   ·rw[Q6 #[d8,C]]at d;rw[Õv]at d;split at d<;>cases d
  have J:vs[i]? = U v:=by
   unfold Xw at d;rw[QT #[d8,C],Qp]at d;cases e:vs[i]? with
   | none=>rw[e]at d;cases d
   | some a=>rw[e]at d;cases d;rfl
  rw[sJ,u,I,L,r.get,J];have l:ps[i]? = U y:=by rw[<- S.pre,List.getElem?_take_of_lt Á];exact B
  have m:ps.Nodup:=by rw[<- S.pre];exact S.nd.sublist Õw
  rw[si,u,L];rcases S.par y (Qr l) with k|k
  ·exact .inl (k,Md m l I k)
  ·obtain c|e:=Mb (n:=Î+1) k;refine .inr (.inl k,c,e,?_);have q:=x.cell y c e;rw[Mc m l I (by show j.names.lookup y≠_;rw[k];decide)]at q;exact q
 ·exact g.hok.fresh (Qa7 (x.above y c (Qao h)))
 ·unfold Xw;show _=ğ;rw[Qi,Qa,QaP];lia
theorem Ma{CX:CXT}{P:ay}{w:aF}{K:Ä}{mg:þ}{Â:aI}{k:Nat}{f:ae}{name d:ak}{C:Arguments}{m:ź}{a:bj}{D kV F G g ct R:aa}{L T:Ġ}
  {W:ν} {N ps:Ñ} {sp:Sp} (lk:ĥ f=U (R,T,.func Õx,W)) (X:Él K g d=true) (S:Zl N ps a)
  (len:Ãn)
  (Y:∀ (A:aD) (Û:À Env) (s:aj) (H:Hp) (vs:À V) (Q:VK) (E:XK),Z8 k (ÆV (Äj d a Î f g))->sp vs H Q E ->
   ∃t,PSs Ðx m t/\t { nx:=λ_ c=>Q .non c,rt:=Q } ÁB H) :
  YY P w K mg Â CX (k+1) f Õx ps sp:=by
 refine(len,λA Û s H args Z vs Q E p i hb r M=>?_);have hl:=len _ _ _ _ M;have KX:È4:=i.mod.kin.keeps λb o e=>(i.bs b o e).1;have gG:s.heap.NoLimit:=i.mod.nolimit.keeps λb o e=>(i.bs b o e).1;have Av:∀y∈Éh Z,ÃT y.1=U .local\/(ÃT y.1=U .cell/\((Ðw š a.names []).lookup y.1).isSome=true):=λ⟨n,v⟩ hy=>by
  rcases S.par n (Ðu hy).1 with q|q
  ·exact .inl q
  ·exact .inr (q,Õu _ _ _ (.inl q))
 refine codeAny_call_function p.depth (KX _ _ lk) rfl S.co S.gen rfl (PySem.W.codeRec_of KX X) (hb _ _ _ _ ?_);refine wpAny_newFunctionEnv_cells Æ7 Av λenv he O x=>?_;subst he;refine(gG.keeps x.toInCall.keep,codeAny_func ?_);obtain t|ht|hq:=Y A Û s H vs Q E (p.deeper _) M;have I:Inv Ðx [] ÁB H O:=Zn8 S p.hd i hl r x;refine ba (ht [] O ÁB H _ I hq) #[iz,fl,z,h] λe z h=>h;have j:∀ {l:St} {c:Hp} {v:V} {u:aa},Inv Ðx [] l c z->ZE v u->Q v c->CE Û P w H s Q u z :=
  λ{l c v u} J B q=>(v,c,J.os,J.bare,J.base,J.hok,B,q)
 cases fl with
 | ret u=>obtain v|l|c|J|B|q:=h;exact j J B q
 | next=>obtain l|c|J|q:=h;exact j (v:=V.non) (u:=Ài) J rfl q
 | brk=>obtain _|_|_|q:=h;exact Ãe q
 | Η=>obtain _|_|_|q:=h;exact Ãe q
section
variable {X:Cx} {x:ak} {p pos:Pos} {e:aK} {es:À aK} {t:TA} {id T:Ŋ} {r:À V->Hp->VK->Prop}
def tCB(r:À V->Hp->VK->Prop)(t:TA):TE:=λa H Q=>t a H λvs b=>r vs b Q
theorem Zp(hc:YZ X #[eM,id] r)(c:ŋ)(hm:Ě x=af)(d:cW x=U #[eM,id])(ha:Àp)(f:ÈT:=by decide)(g:Ī:=by decide)
  (i:θ:=by rfl) (j:Áz:=by rfl):PE X Äf (tCB r t):=by
 rw[o3];exact Õy Õz i j
theorem W9(hc:YZ X (.type T) r)(c:ŋ)(hm:Ě x=af)(d:cW x=U (.type T))(ha:Àp)(f:ÈT:=by decide)(g:Ī:=by decide)
  (i:θ:=by rfl) (j:Áz:=by rfl):PE X Äf (tCB r t):=by
 rw[o3];exact Qaf Õz i j
universe E
universe E.L2
namespace HT
open PySem PyProof.Rows
section
variable {ñ:ay} {w:aF} {A:aD} {E:aa->aj->Prop} {s:aj}
def sIx(n d:Nat):Ã Int->Nat
 | none=>d
 | some v=>if v<0 then (v+(n:Int)).toNat else min v.toNat n
universe E
universe E.HT
namespace L2
open PySem PySem.Spec PyProof.Rows
abbrev TO:=St->Hp->(Ã Int->Hp->Prop)->Prop
def PO(X:Cx)(e:Ã aK)(t:TO):Prop :=
 ∀ (b:À (ae×aN)) (s:aj) (a:St) (H:Hp) (Q:Ã Int->Hp->Prop),Inv X b a H s->t a H Q ->
  ó (evalPart e Ì) (λu d=>X2 λo c=>Inv X b a c d/\IsPart u o/\Q o c) è s
def ZrX:TO:=λ_ H Q=>Q af H
def Zv1(t:TE):TO:=λa H Q=>t a H λx b=>EA (λi=>x=.int i) (λi=>Q (U i) b)
theorem Zl6{ns:Ø}:∀ {us:À aa},ZG ξ us->Æ8 us ns:=by
 induction ns with
 | nil=>intro us r;rw[rS,QaZ,r];exact .nil
 | Í n ns a =>
  intro us r;rw[Qj]at r;cases r with
  | Í b c=>obtain t|e:=b;subst e;exact .cons n t (a c)
section
variable {X:Cx} {e:aK} {te:TE} {lo hi:Ã aK} {tl th:TO} {pos p2:Pos}
theorem VG:PO X af ZrX:=by intro ai s σ H Q I h;rw[evalPart_none];exact av (af,H,I,.none,h)
theorem VF(h:Ål):PO X (U e) (Zv1 te):=by intro a s b H Q I hw;rw[evalPart_some];refine thn (h a s b H _ I hw) ?_;rintro u s1 ⟨x,c,d,f,g⟩;obtain i|rfl|q:=g;obtain t|rfl:=f;exact(U i,c,d,.int i t,q)
def SlR(X:Cx)(r:Ðy):Prop :=
 ∀ (a:À (ae×aN)) (s:aj) (b:St) (H:Hp) (x:V) (v c d:aa) (lo hi:Ã Int) (e:ae) (Q:VK),Inv X a b H s->ZE x v->s.heap.IsSliceOf e c d .none->IsPart c lo->IsPart d hi->r x lo hi H Q ->
  X2 λT id=>Åt (.type T) "__getitem__" = pure (U #[eM,id])/\Æ9 v T/\ó (Ça v ŝ) ÃZ è s
def tSl(r:Ðy)(te:TE)(tl th:TO):TE:=λa H Q=>te a H λx b=>tl a b λl c=>th a c λu d=>r x l u d Q
theorem Wo{r:Ðy}(hr:SlR X r)(he:Ål)(hl:PO X lo tl)(hu:PO X hi th):PE X (.Subscript e (.Slice lo hi af p2) pos) (tSl r te tl th):=by intro c s d H Q I h;refine Subscript_ #[ei,he,c,d];rintro v j ⟨x,k,m,n,o⟩;refine wpAny_Slice (thn (hl c j d k _ m o) λf p ⟨l,t,w,y,z⟩=>thn (hu c p d t _ w z) ?_);rintro g a ⟨u,i,A,B,C⟩;rw[evalPart_none];refine av ?_;have D:Inv X c d i { a with Õ:=Ðz { cls:=.type "slice",Ó:=.fields #[f,g,.none] } }:=A.kept (t':=ÆX) λb ob q=>Qc _ q;obtain T|id|E|F|G:=hr c { a with Õ:=Ðz { cls:=.type "slice",Ó:=.fields #[f,g,.none] } } d i x v f g l u Ào Q D n (aI.IsSliceOf.new ..) y B C;show ó (Ìc e (.Slice lo hi af p2) v (.ref Ào)) (EP X c d Q) è { a with Õ:=Ðz { cls:=.type "slice",Ó:=.fields #[f,g,.none] } };exact tail_any (ops:=[.ref Ào,v]) F E G Áa
def Xm(xs:Ĕ)(lo hi:ż):À V:=(xs.drop (Ž ã 0 lo)).take #[rE,ã,hi]
theorem Zlk(xs:Ĕ)(lo hi:ż):(Xm xs lo hi).length<=ã:=by unfold Xm;rw[Qw,QZ];lia
universe E
def ixN(n:Nat)(i:Int):Ã Nat:=if 0<=i then (if i<n then U i.toNat else af) else if -(n:Int)<=i then U (i+n).toNat else af
def atI{α:Type}(xs:À α)(i:Int):Ã α:=(ixN ã i).bind λj=>xs[j]?
theorem L8{n:Nat}{i:Int}{j:Nat}(h:ixN n i=U j):seqIndex? i n=U j/\j<n /\ -(n:Int)<=i/\i<n:=by
 unfold ixN at h;by_cases b:0<=i
 ·rw[sC,b,h];by_cases a:i<n
  ·rw[sC,a,h];have e:i.toNat=j:=Qv h;exact(by rw[ÐA b a,e],by lia,by lia,a)
  ·rw[hy,a,h];cases h
 ·rw[hy,b,h];by_cases a:-(n:Int)<=i
  ·rw[sC,a,h];have e:(i+n).toNat=j:=Qv h;exact(by rw[ÐB Á a,e],by lia,a,by lia)
  ·rw[hy,a,h];cases h
theorem Rt{α:Type}{xs:À α}{i:Int}{v:α}(h:atI xs i=U v):∃j,seqIndex? i ã=U j/\xs[j]? = U v/\j<ã /\ -(ã:Int)<=i/\i<ã:=by
 unfold atI at h;cases e:ixN ã i with
 | none=>rw[e]at h;cases h
 | some j=>rw[e]at h;obtain a|b|c|d:=L8 e;exact(j,a,h,b,c,d)
theorem XZ{α:Type}{xs:À α}{j:Nat}{v:α}(h:xs[j]? = U v):atI xs (j:Int)=U v:=by
 have hj:j<ã:=(Ł h).1;have e:ixN ã (j:Int)=U j:=by unfold ixN;rw[ip,Á,Á];simp
 unfold atI;rw[e];exact h
theorem Zq5{α:Type}(xs:À α)(v:α):atI (xs++[v]) (-1)=U v:=by
 have a:(xs++[v]).length=ã+1:=by simp
 have e:ixN (xs++[v]).length (-1)=U ã:=by unfold ixN;rw[a,Ç Ë,Æ Á];congr 1;lia
 unfold atI;rw[e];show (xs++[v])[ã]? = U v;simp
def Zsu(b:aK):Prop:=∀o i,Ìd b false o i=operate [o,i] (Ça o i)
def IxR(X:Cx)(r:R2):Prop :=
 ∀ (Àm a:aK) (b:À (ae×aN)) (s:aj) (c:St) (H:Hp) (x y:V) (v u:aa) (Q:VK),Inv X b c H s->ZE x v->ZE y u->r x y H Q ->
  Ìd a false v u=operate [v,u] (Ça v u)->ó (Ìc Àm a v u) (EP X b c Q) è s
def MtR(X:Cx)(id:Ŋ)(r:Ìe):Prop :=
 ∀ (a:À (ae×aN)) (s:aj) (b:St) (H:Hp) (x:V) (c:À V) (v:aa) (d:À aa) (Q:VK),Inv X a b H s->ZE x v->ZG c d->r x c H Q ->
  ó (Ĵ #[eM,id] (v::d)) ÃZ è s
section
variable {X:Cx} {a b:aK} {ta tb:TE} {pos:Pos}
theorem ZC{r:R2}(hr:IxR X r)(ha:Áv)(hb:ÃX)(c:Zsu b):PE X (.Subscript a b pos) ËS:=by intro d s e H Q I h;exact Subscript_ (RD ha hb I h λv u f x y g i j k q=>hr a b d f e g x y v u Q i j k q (c _ _))
inductive RIx (S:ae->À V->Prop) (x y:V) (B:V->Prop):Prop where
 | mk (p:ae) (xs:À V) (i:Int) (v:V) (a:x=.ref p) (b:y=.int i) (c:S p xs) (d:atI xs i=U v) (q:B v)
def LZ(K:Ä):R2:=λx y H Q=>RIx (SqL K H) x y (λv=>Q v H)
def LY(K:Ä):R2:=λx y H Q=>RIx (SqT K H) x y (λv=>Q v H)
def ZwB:R2:=λx y H Q=>X3 λz i c=>x=.str z/\y=.int i/\ŗ<=aq/\atI Á5 i=U c/\Q (.str Ű) H
theorem Zsy:IxR X (LZ X.K):=by
 intro Àm fP e s f H x y v u Q I m n h g;obtain p|xs|i|z|rfl|rfl|o|A|q:=h;cases m;rw[sZ,n];rw[fz,r,c,hz,o];obtain j|b|B|h3|C|D:=Rt A;rw[sJ,w,k,E,r.get,B];have F:=ÀV;have hn:=U9;have a:EP X e f Q w s:=(z,H,I,E,q);by_cases l:0<=i
 ·have d:i.toNat=j:=by rw[ÐA l D]at b;exact Qv b
  exact item_listR c.isList l Á ÕA a g
 ·have d:(i+(Åu:Int)).toNat=j:=by rw[ÐB Á C]at b;rw[QE,<- F];exact Qv b
  exact ÕB (x:=w) c.isList.typeIs ÕC
   (wpAny_getItem_list_neg (Q:=λr G=>r=w/\EP X e f Q r G) c.isList Á (by rw[QE]<;>lia) Á ÕA (rfl,a)) g
theorem ZtA:IxR X (LY X.K):=by
 intro Àm fP b s c H x y v u Q I e f h g;obtain p|xs|i|z|rfl|rfl|k|l|q:=h;cases e;rw[sZ,f];rw[hM,r,d,hz,k];obtain j|m|n|h3|h4|h5:=Rt l;rw[sJ,w,o,A,r.get,n];have B:=ÀV;have hn:=U9;have a:EP X b c Q w s:=(z,H,I,A,q);exact ÕB (x:=w) Ém slot_tuple_getitem.lookup
  (getItem_tuple (j:=j) (Q:=λr C=>r=w/\EP X b c Q r C) d Á Á (by rw[QE,<- B];exact m) #[d8,o] (rfl,a)) g
theorem Wd:IxR X ZwB:=by
 intro Àm fP ai s σ H x y v u Q I b d h e;obtain z|i|c|rfl|rfl|hz|f|q:=h;rw[sZ,b];rw[eA,t',d];obtain j|a|g|h3|k|l:=Rt f;have m:ÕD:=by simp[Én]
 rw[m]at a k l;have hn:=U9;exact tail_any (Ìf s z t) slot_str_getitem.lookup (getItem_str (c:=c) (by have n:decide (i < -(2 ^ 63:Int))=false:=Çb;have o:decide (i>=2 ^ 63)=false:=Çb;rw[n,o,Bool.or_false]) (by rw[a];simpa using g) #[ge,Ű,q]) e
theorem Zmi(its:æ)(n j:Nat)(u:aa):Åv (·.setIfInBounds j u) { cls:=.type "list",Ó:=.seq ģ n }={ cls:=.type "list",Ó:=.seq (its.set j u).toArray n }:=by simp[Åv]
theorem Inv.lst{a:ć}{b:St}{H:Hp}{s:aj}{p:ae}{xs:Ĕ}(I:ÈS)(h:H p=U À6) :
  X2 λ(its:À aa) (n:Nat)=>ZG xs its/\é p=U { cls:=.type "list",Ó:=.seq ģ n }/\ã<=aq:=by
 obtain z|its|n|r|e:=ê p _ h;exact(its,n,r,e,z)
theorem Inv.lstUpd{c:ć}{d:St}{H:Hp}{s:aj}{p:ae}{xs ys:Ĕ}{its its':æ}{n a:Nat}{f:aN->aN}(I:ËP)(h:H p=U À6)
  (i:é p=U { cls:=.type "list",Ó:=.seq ģ n }) (g:f { cls:=.type "list",Ó:=.seq ģ n }={ cls:=.type "list",Ó:=.seq ÐC a }) (r:ZG ys its') (hz:Ĭ<=aq) (t:Nat) :
  Inv X c d #[ha,H,p,ys] { s with Õ:=Äk p f,ï:=t }:=by
 have e:(Äk p f).get? p=U { cls:=.type "list",Ó:=.seq ÐC a }:=by rw[Q4 f i (by rw[g]<;>rfl),g]
 refine Ås (x:=p) (e:=p) (by rw[h];trivial) Ė (λb u j q=>(Qah _ _ (Ás j)).trans q) (_,e) ?_;exact(hz,its',a,r,e)
def ZvJ:V->V->V->Hp->(Hp->Prop)->Prop:=λo i v H Q=>X4 λp xs k j=>o=.ref p/\i=.int k/\H p=U À6/\ixN ã k=U j/\Q (upd H p (.lst (xs.set j v)))
theorem LX:RH X ZvJ:=by
 intro w s x H o i v ov iv u Q I y z A h;obtain p|B|k|j|rfl|rfl|e|C|q:=h;cases y;rw[sZ,z];obtain its|n|r|b|D:=I.lst e;obtain a|h2|f|g:=L8 C;have c:=ÀV;have hn:=U9;have l:Inv X w x (upd H p (.lst (B.set j v))) { s with Õ:=Äk p (Åv (·.setIfInBounds j u)) } :=
  I.lstUpd e b (Zmi its n j u) (r.set A j) #[ea,List.length_set,D] Ļ
 by_cases m:0<=k
 ·have d:Ão=j:=by rw[ÐA m g]at a;exact Qv a
  exact PySem.W.ki_setAt b m Á (by rw[QE,<- c];exact g) ÕE
 ·have d:(k+(Åu:Int)).toNat=j:=by rw[ÐB Á f]at a;rw[QE,<- c];exact Qv a
  exact PySem.W.ki_setBack b Á (by rw[QE,<- c];exact f) Á ÕE
theorem Zj0(lo a:ż)(n:Nat):#[yc].1=((Ž n 0 lo:Nat):Int)/\#[yc].2.1=((Ž n n a:Nat):Int)/\#[yc].2.2=1:=by
 refine(?_,?_,rfl)
 ·cases lo with
  | none=>simp[dB,Ž]
  | some i =>
   rw[j6];by_cases h:i<0
   ·simp only[h,Çc]<;>lia
   ·simp only[h,Åw]<;>lia
 ·cases a with
  | none=>simp[dB,Ž]
  | some i =>
   rw[j6];by_cases h:i<0
   ·simp only[h,Çc]<;>lia
   ·simp only[h,Åw]<;>lia
theorem Zh7(its:æ)(lo a:ż):slicePick ģ lo a af=((its.drop (Ž Éo 0 lo)).take #[rE,Éo,a]).toArray:=by obtain b|c|d:=Zj0 lo a Åu;unfold slicePick;rw[b,c,d];simp only[sliceRange_one,pick_run,Ët]<;>rfl
inductive RSl (K:Ä) (x:V) (lo hi:ż) (H:Hp) (B:ae->Hp->Prop):Prop where
 | mk (a:ae) (xs:À V) (e:x=.ref a) (s:SqL K H a xs) (q:∀p,H p=af->B p (upd H p (.lst (Xm xs lo hi))))
def LW(K:Ä):V->Ã Int->Ã Int->Hp->VK->Prop:=λx lo a H Q=>RSl K x lo a H λp b=>Q Ż b
theorem ZsX:SlR X (LW X.K):=by intro ai s σ H x v vl vu lo d sl Q I f g i j h;obtain a|c|rfl|k|q:=h;cases f;obtain its|r|e|l:=ÁZ k;have m:=ÀV;refine("list",_,ÕC,e.isList.typeIs,?_);refine wpAny_getItem_list_slice e.isList g i j .none Ö ?_ (by rw[QE]<;>lia);rw[Zh7,<- m];refine(.ref Î,_,ÀU (t':=Ŗ) (o:=.lst (Xm c lo d)) #[ie,b,ob,q] ë ?_,rfl,q _ Ãm);exact(Qk (Zlk c lo d) l,_,0,(r.drop (Ž ĵ 0 lo)).take #[rE,ĵ,d],Qt _ rfl)
def Xl:V->Ð
 | .non=>true
 | .bl _=>true
 | .int _=>true
 | .str _=>true
 | _=>false
def eqV:V->V->Ð
 | .non,.non=>true
 | .bl a,.bl b=>a == b
 | .bl a,.int b=>(if a then 1 else 0) == b
 | .int a,.bl b=>a == (if b then 1 else 0)
 | .int a,.int b=>a == b
 | .str a,.str b=>a == b
 | _,_=>false
theorem ZuF{A:aD}{s:aj}{y x:V}{u v:aa}(e:ZE y u)(c:ZE x v)(g:Xl y=true)(f:Xl x=true):ÐD A s u v (eqV y x):=by
 cases y with
 | non =>
  cases e;cases x with
  | non=>cases c;exact SeqAt.EqAt.same _
  | bl b=>cases c;exact SeqAt.EqAt.none_bool b
  | int b=>obtain t|rfl:=c;exact SeqAt.EqAt.none_int b t
  | str b=>obtain t|rfl:=c;exact SeqAt.EqAt.none_str b t
  | _=>exact Ép
 | bl a =>
  cases e;cases x with
  | non=>cases c;exact SeqAt.EqAt.bool_none a
  | bl b=>cases c;exact SeqAt.EqAt.bool_bool a b
  | int b=>obtain t|rfl:=c;exact SeqAt.EqAt.bool_int a b t
  | str b=>obtain t|rfl:=c;exact SeqAt.EqAt.bool_str a b t
  | _=>exact Ép
 | int a =>
  rw[eA,d,e];cases x with
  | non=>cases c;exact SeqAt.EqAt.int_none a d
  | bl b=>cases c;exact SeqAt.EqAt.int_bool a d b
  | int b=>obtain t|rfl:=c;exact ÕF a d b t
  | str b=>obtain t|rfl:=c;exact Ôq a d b t
  | _=>exact Ép
 | str a =>
  rw[eA,d,e];cases x with
  | non=>cases c;exact SeqAt.EqAt.str_none a d
  | bl b=>cases c;exact SeqAt.EqAt.str_bool a d b
  | int b=>obtain t|rfl:=c;exact Ôr a d b t
  | str b=>obtain t|rfl:=c;exact ÕG a d b t
  | _=>exact Ép
 | _=>exact È (show false=true from g) Qu
def eqU(x:V)(u:aa):Ð:=match u with
 | .none=>eqV .non x
 | .bool b=>eqV (.bl b) x
 | .int i _=>eqV Åj x
 | .str z _=>eqV (.str z) x
 | _=>false
theorem LV{x y:V}{u:aa}(r:ZE y u)(f:Xl y=true):eqU x u=eqV y x:=by
 cases y with
 | non=>cases r;rfl
 | bl b=>cases r;rfl
 | int i=>obtain t|rfl:=r;rfl
 | str z=>obtain t|rfl:=r;rfl
 | _=>exact Ép
theorem Rs{x:V}:∀ {xs:À V} {us:À aa},ZG xs us->xs.all Xl=true->us.any (eqU x)=xs.any λy=>eqV y x
 | _,_,.nil,_=>rfl
 | y::xs,u::us,.cons r t,f=>by rw[ÐE,Q3]at f;rw[Qa3,Qa3,LV r f.1,Rs t f.2]
theorem Rr{A:aD}{s:aj}{x:V}{v:aa}(a:ZE x v)(b:Xl x=true):∀ {xs:À V} {us:À aa},ZG xs us->xs.all Xl=true->∀u∈us,ÐD A s u v (eqU x u)
 | _,_,.nil,_=>λu hu=>by cases hu
 | y::xs,u::us,.cons r t,f=>λc hu=>by
  rw[ÐE,Q3]at f;rcases ĩ hu with rfl|hu
  ·rw[LV r f.1];exact ZuF r a f.1 b
  ·exact Rr a b t f.2 c hu
def inV(x:V)(xs:Ĕ):Ð:=xs.any λy=>eqV y x
def rIn(K:Ä)(a:Ð):R2:=λx y H Q=>X2 λp xs=>y=.ref p/\#[hv,K,xs]/\Xl x=true/\xs.all Xl=true/\Q (.bl (if a then !inV x xs else inV x xs)) H
theorem Zn2:OpR X (aR .In) (rIn X.K false):=by
 rw[hE,b,d];rw[sR,p,xs,hq,c,fs];cases d;rcases hq with hq|hq
 ·rw[fz,r,a,e,hq];refine SeqAt.in_listAt (eqU x) a.isList ÕH (.bl _,H,I,rfl,?_);rw[jU]
 ·rw[hM,r,a,e,hq];refine SeqAt.in_tupleAt (eqU x) a ÕH (.bl _,H,I,rfl,?_);rw[jU]
theorem ZjB:YZ X Çd (λxs H Q=>X2 λp ys=>xs=Θ/\#[hv,X.K,ys]/\Q (.int Ĭ) H):=by
 rw[aR];rw[sS,p,ys,hq];rw[eV,d];have hn:=U9;rcases hq with hq|hq
 ·rw[fz,a,b,e,hq];have c:=ļ;exact Calls.call_len_list b.isList Ìg (.int Ĭ,H,ś _,ÕI,q)
 ·rw[hM,a,b,e,hq];have c:=ļ;exact len_tuple b Ìg (.int Ĭ,H,ś _,ÕI,q)
theorem WE:YZ X Çd (λxs H Q=>∃z,xs=[.str z]/\ŗ<=aq/\Q (.int ŗ) H):=by intro ai s σ H xs us Q I r h;obtain z|rfl|hz|q:=h;obtain u|rfl|t|rfl:=XN r;have hn:=U9;exact len_str Á (.int ŗ,H,ś _,ÿ,q)
theorem ZjD:YZ X ÂD (λxs H Q=>X2 λp ys=>xs=Θ/\#[hv,X.K,ys]/\∀l,H l=af->Q Ă #[ha,H,l,ys]):=by
 rw[iw,w,x,xs];rw[sS,p,ys,hq];rw[eV,y];have f:∀ (its:À aa),ZG ys its->Ĭ<=aq->∀ (a:aI) (c:Nat),#[ft,v,é,Åx] ->
   Åx Î=U { cls:=.type "list",ο:=af,Ó:=.seq ģ c,ÁV:=#[] }->EP X w x Q Åo { s with Õ:=a }:=λits d g a c i e =>
  (.ref Î,_,ÀU (t':=Ŗ) i ë (show Z7 ù X.w _ a _ ÂE from(g,its,c,d,e)),rfl,q _ Ãm)
 rcases hq with hq|hq
 ·rw[fz,d,j,g,hq];have z:=ů;obtain o|k|m|n|t:=j.isList;exact call_list_seq p Ė k m t ÕJ Ìg
 ·rw[hM,d,j,g,hq];have z:=ů;obtain o|k|m|n|t:=j;exact call_list_seq p Ãp k m t ÕJ Ìg
def tyV(K:Ä)(T:Ŋ)(x:V)(H:Hp):Prop:=match x with
 | .str _=>T = "str"
 | .int _=>T = "int"
 | .ref p=>(T = "list"/\∃b,SqL K H p b)\/(T = "tuple"/\∃o,ĥ p=U o/\Ãd=.type "tuple"/\o.dict=af) \/
   (T = "dict"/\((∃a,H p=U (.dK a))\/∃a,H p=U (.dT a)))\/(T = "set"/\X2 λS n=>H p=U (.set S n))
 | _=>ĕ
theorem LU{j:ć}{k:St}{H:Hp}{s:aj}{T:Ŋ}{x:V}{v:aa}(I:Inv X j k H s)(r:ZE x v)(ty:tyV X.K T x H) :
  Æ9 v T/\∀a,v=.ref a->∃ob,é a=U ob/\ob.dict=af:=by
 cases x with
 | str z=>obtain t|rfl:=r;cases (show T = "str" from ty);exact(Ìf s z t,λ_ e=>nomatch e)
 | int i=>obtain t|rfl:=r;cases (show T = "int" from ty);exact(typeIs_int s i t,λ_ e=>nomatch e)
 | ref p =>
  cases r;rcases ty with⟨rfl,xs,l⟩|⟨rfl,o,b,m,d⟩|⟨rfl,b⟩|⟨rfl,S,n,b⟩
  ·obtain its|_|h|_:=ÁZ l;rw[y7,h.isList.typeIs,a,e];cases e;obtain o|n|e|c|d|_:=h;exact(o,e,d)
  ·refine((o,ě p o b,m),λa e=>?_);cases e;exact(o,ě _ o b,d)
  ·have z:∃o,é p=U o/\o.ExactDict:=by
    rcases b with⟨f,b⟩|⟨f,b⟩
    ·rw[lb]
    ·rw[lb]
   rw[g9,o,e,ex,z];rw[kF]
  ·obtain o|_|_|_|e|ex|_:=ê p _ b;rw[kF]
 | _=>exact Ãe ty
def ZwN(K:Ä)(T:Ŋ)(r:Ìe)(to:TE):TE:=λb H Q=>to b H λx a=>tyV K T x a/\r x [] a Q
def tBM(K:Ä)(T:Ŋ)(r:Ìe)(to:TE)(t:TA):TE:=λa H Q=>to a H λx b=>tyV K T x b/\t a b λxs c=>r x xs c Q
variable {o e:aK} {es:À aK} {to:TE} {t:TA} {name:ak} {bu bq:Pos} {T id:Ŋ} {r:V->À V->Hp->VK->Prop}
theorem ZuO(e:PlainAttrs T)(slot:Slot T name id)(f:ÕK)(hm:MtR X id r)(g:PE X o to)
  (i:ÕL:=by rfl) (j:Ìh=true:=by rfl):PE X (.Call (.Attribute o name bu) [] [] bq) (ZwN X.K T r to):=by
 rw[eS,a,b,Q];refine dO i j #[ei,g,a,b];rintro v k ⟨x,l,c,d,ty,m⟩;obtain n|p:=LU c d ty;exact(T,id,e,slot,f,n,p,Éq rfl (ÕM (hm a k b l x [] v [] Q c d .nil m)))
theorem YQ(g:PlainAttrs T)(slot:Slot T name id)(i:ÕK)(hm:MtR X id r)(j:PE X o to)(ha:Àp)
  (k:ÕL:=by rfl)
  (l:((bn bq Éj).all (λx=>!x.1)&&#[lF].all ÐF
   && decide ((e::es).length+#[ui].length+ÐG<30))=true:=by rfl)
  (m:Ìh=true:=by rfl) (n:θ:=by rfl) (p:Ìi:=by rfl) :
  PE X (.Call (.Attribute o name bu) (e::es) [] bq) (tBM X.K T r to t):=by
 rw[eS,a,b,Q];refine wpAny_Call_method_late k l m rfl #[ei,j,a,b];rintro v q ⟨x,u,c,d,ty,w⟩;obtain y|z:=LU c d ty;refine(T,id,g,slot,i,y,z,?_);have f:=ha bq a q b u _ c w;rw[n]at f ⊢;refine Éq (by show (false||(bn bq (aG es Ì)).any õ)=false;rw[p]<;>rfl) (ÐH ?_);exact thn f λA B ⟨C,D,E,F,G⟩=>hm a B b D x C v A Q E d F G
universe E
def MtM(X:Cx)(id:Ŋ)(r:Ìe):Prop :=
 ∀ (a:À (ae×aN)) (s:aj) (b:St) (H:Hp) (x:V) (c:À V) (v:aa) (d:À aa) (Q:VK),Inv X a b H s->ZE x v->ZG c d->r x c H Q ->
  ó (Ĵ #[eM,id] (v::d)) ÃZ è s
theorem ZG.one:∀ {x:V} {us:À aa},ZG [x] us->∃u,us=[u]/\ZE x u
 | _,_,.cons r .nil=>(_,rfl,r)
theorem ZG.two:∀ {x y:V} {us:À aa},ZG [x,y] us->X2 λu v=>us=[u,v]/\ZE x u/\ZE y v
 | _,_,_,.cons r (.cons q .nil)=>(_,_,rfl,r,q)
theorem ZG.zero:∀ {us:À aa},ZG [] us->us=[]
 | _,.nil=>rfl
theorem ZG.reverse{xs:Ĕ}{us:æ}(h:ZG xs us):ZG xs.reverse us.reverse:=by
 induction h with
 | nil=>exact .nil
 | Í r t a=>rw[QaT,QaT];exact Ïp a (.cons r .nil)
section
variable {X:Cx} {ai:À (ae×aN)} {σ:St} {H:Hp} {s:aj} {l b:ae} {xs ys zs:À V}
theorem Inv.lset{its its':æ}{n:Nat}{f:Ā aa->Ā aa}{t':Nat}(I:ä)(a:H l=U À6)
  (e:é l=U { cls:=.type "list",Ó:=.seq ģ n }) (b:f ģ=ÐC) (c:ZG ys its') (hz:Ĭ<=aq) :
  Inv X ai σ #[ha,H,l,ys] { s with Õ:=Äk l (Åv f),ï:=t' }:=by
 have q:=PySem.IsL.update e f;rw[b]at q;refine Ås (x:=l) (e:=l) (by rw[a];exact trivial) Ė (λb' u d g=>(Qah Ê (Åv f) (Ás d)).trans g) (_,q) ?_;exact(hz,its',_,c,q)
theorem Inv.lnew{its:æ}{t':Nat}(I:ä)(a:ZG ys its)(hz:Ĭ<=aq) :
  Inv X ai σ #[ha,H,Î,ys] { s with Õ:=Àl { cls:=.type "list",Ó:=.seq ģ },ï:=t' } :=
 ÀU Ér ë (hz,its,0,a,Qt _ rfl)
theorem Inv.fresh(I:ä):H Î=af:=ÐI
theorem Inv.lstM(I:ä)(a:H l=U À6):ã<=aq/\X2 λ(its:À aa) (n:Nat)=>ZG xs its/\ã=Éo/\é l=U { cls:=.type "list",Ó:=.seq ģ n }:=by obtain z|its|n|r|e:=ê l _ a;exact(z,its,n,r,ÀV,e)
universe E
section
variable {X:Cx}
inductive RAp (x:V) (vs:Ĕ) (H:Hp) (B:Hp->Prop):Prop where
 | mk (l:ae) (xs:À V) (y:V) (a:x=.ref l) (b:vs=[y]) (c:H l=U (.lst xs)) (d:ã<aq) (q:B (upd H l (.lst (xs++[y]))))
def Zr4:V->À V->Hp->VK->Prop:=λx vs H Q=>RAp x vs H λa=>Q .non a
theorem ZY:MtM X "list.append" Zr4:=by intro ai s σ H x vs v us Q I b c h;obtain l|xs|y|rfl|rfl|a|hz|q:=h;cases b;obtain u|rfl|d:=c.one;obtain z|its|n|r|hl|e:=I.lstM a;refine Çe F.slot_list_append (_,e,rfl) F.entry_list_append (F.args_list_append_2 _ _) (PySem.list_append l ģ n u #[eO,QE]) (e,?_);refine(.non,_,I.lset (its':=its++[u]) a e Ö (Ë4 (.cons d .nil)) ?_,rfl,q);rw[Qi,QI];lia
def Zo5:V->À V->Hp->VK->Prop:=λx vs H Q=>X2 λl xs=>x=.ref l/\vs=[]/\H l=U À6/\Q .non #[ha,H,l,xs.reverse]
theorem Zlw:MtM X "list.reverse" Zo5:=by intro ai s σ H x vs v us Q I b c h;obtain l|xs|rfl|rfl|a|q:=h;cases b;have d:=c.zero;subst d;obtain z|its|n|r|hl|e:=I.lstM a;refine Çe F.slot_list_reverse (_,e,rfl) F.entry_list_reverse (F.args_list_reverse_1 _) (AutoSeq1.list_reverse_list_0 l ģ n #[eO,QE]) (e,?_);refine(.non,_,I.lset (its':=its.reverse) a e Ö r.reverse ?_,rfl,q);rw[List.length_reverse];lia
def ZwG:R2:=λx y H Q=>X4 λl b xs zs=>x=.ref l/\y=.ref b/\H l=U À6/\H b=U π/\ã+zs.length<=aq/\∀p,H p=af->Q Ż (upd H p (.lst (xs++zs)))
theorem Wc:OpR X Ï3 ZwG:=by
 rw[hE,c,d];obtain l|b|xs|zs|rfl|rfl|f|g|hz|q:=h;cases c;cases d;obtain z|its|n|r|hl|e:=I.lstM f;obtain z2|a|n2|i|bN|j:=I.lstM g;refine PySem.P.add_list e j ?_ #[sq,QE,QE];have k:ģ++a.toArray=(its++a).toArray:=by simp
 rw[k];exact(.ref _,_,I.lnew (t':=Ŗ) (Ë4 i) #[eO,Qi],rfl,q _ És)
universe E
universe E.L2
namespace Att
open PySem PySem.W PySem.Calls PyProof.Rows
theorem ZgH{P:Params}{h:aI}:∀ (ns:À Int) (vs:À aa),WellAll P h vs (Åy WData.int)->Æ8 vs ns:=by
 intro ns;induction ns with
 | nil=>intro vs w;rw[rS,QaZ,w];exact .nil
 | Í n ns c =>
  intro vs w;rw[Qj]at w;cases w with
  | Í a b=>cases a;exact .cons _ _ (c _ b)
theorem ZnU{l:OpenLaw}{n:Nat}(i:l.most=U n){P:Params}{h:aI}{args:À WData}{e:æ}
  (f:l.row.toRowW.claim.pre args=true) (j:WellAll P h e args) :
  X3 λa vs ns=>e=[à a]/\args=[WData.list (Åy WData.int)]/\ß a=U { cls:=.type "list",Ó:=.seq Áb }/\Æ8 vs ns/\Č<=n:=by
 have k:WShape.hasAll [] args [.list .int]=true:=(pre_splitW f).1;have g:l.pre.holds [] { args:=args }=true:=(pre_splitW f).2;obtain d|r|rfl|m|o:=hasAllW_cons k;obtain rfl:=hasAllW_nil o;obtain xs|rfl|p:=hasW_list m;obtain ns|rfl:=items_int p;have s:Č<=n:=by
  unfold OpenLaw.pre at g;have b:(WTm.not (.lt (.lit (.int (n:Int))) (.len (.arg 0)))).holds [] { args:=[.list (Åy .int)] }=true:=by have b:=(holds_andW g).1;rw[i]at b;exact b
  have c:=condW_of b (w_not (w_lt w_lit (w_len_list (w_arg rfl))));rw[Qa]at c;refine ÕN λq=>?_;have t:(n:Int)<#[hS,Č]:=by lia
  first
   | (rw[Ĉ t]at c;exact È c Ë)
   | (simp at c;lia)
 cases j with
 | Í u v =>
  cases v;cases u with
  | list w x=>exact(_,_,ns,rfl,rfl,w,ZgH ns _ x,s)
theorem ZoF(l:OpenLaw)(args:À WData):l.row.toRowW.claim.post args Ét args=true :=
 postW_of (r:=Ìj) (X:=(true == true))
  (show WShape.has [] Ét .bool=true by first|rfl|decide|simp[WShape.has,WShape.arms,WShape.armsAll])
  (show (WTm.eq .res (.lit Ét)).value [] { args:=args,res:=U Ét,after:=args }=U (.bool (true == true)) from w_eq_bool (w_res rfl) w_lit) rfl
theorem attach_call{l:OpenLaw}{n:Nat}{q:ay}{j:Ñ}{k:ÐJ}{m:aF->aI->Prop}{d:DefRec}
  (s:l.most=U n) (t:ÐK)
  (Ĵ:∀ (w:aF) (ÀQ b:aj) (mg g:ak->Ã aa) (fa:ae) (o:aN) (h c i:aa) (a:ae) (vs:À aa) (ns:À Int),
   Ground q j [] k w ÀQ mg g b.heap->m w b.heap ->
   b.heap.get? fa=U o->ũ=.func (docDef Éu d.params d.body d.scope h c i)->b.heap.CodeRec c Éu->mg Éu=U (.ref fa) ->
   b.heap.get? a=U { cls:=.type "list",Ó:=.seq Áb }->Æ8 vs ns->Č<=n->b.gens = #[] ->
   bK (ax l.prog w) Åz ÐL (λr e=>r=.ok (.ret Ét)/\OldK b.heap e.heap/\e.os=b.os/\Ãb e.gens) b) :
  WalkO q j k m Ìj d [] ÐM:=by
 intro w ÀQ b mg g G Y fa o h c i u kV v x y p hmg z args uB as A hlay ox B ma;obtain rfl:u=.none:=Dflts.none p t;obtain rfl:kV=.none:=Dflts.noKw p;obtain a|vs|ns|rfl|rfl|C|D|E:=ZnU s A B;refine enter_call (Æ1 (Ĵ w ÀQ b mg g fa o h c i a vs ns G Y v (fd_plain x) y hmg C D E z) λr e F=>?_);obtain rfl|H|I|J:=F;exact(.inl (.bool true,.bool true,[],rfl,λ_=>rfl,.bool true,ZoF l _,λ_=>(List.Pairwise.nil,λ_ K=>(nomatch K))),H,I,J)
universe E.Att
namespace L2
open PySem PySem.Spec PyProof.Rows
theorem LS:∀ {vs:À aa} {ns:À Int},Æ8 vs ns->ZG ξ vs
 | _,_,.nil=>.nil
 | _,_,.cons n t h=>.cons Év (LS h)
def Rq(H:Hp):Prop:=∀b,H b=af\/X2 λo xs=>H b=U (.frz o À6)
theorem Zp4{P:ay}{w:aF}{K:Ä}{mg A:þ}{CX:CXT}{k:Nat}{fa a:ae}{D:bA}{x:ak}{sp:Sp}{c:aj}{vs:æ}{ns:Ø}
  (KX:Ū ÆQ) (E:ÐN aL mg) (hb:ÐN Ïx A) (Q:∀x:ak,x ≠ "__name__"->A x=cW x) (R:c.heap.NoLimit) (S:c.gens = #[])
  (ha:ÐO a=U { cls:=.type "list",Ó:=.seq Áb }) (G:Æ8 vs ns) (hl:ËW) (hr:Z8 k Åz)
  (F:∀f:aI,Ū f->f.Ns aL mg->YY P w K mg f CX k fa D [x] sp) (T:∀ (s:aj) (u:aa),ÆY s D ([u],[]) [(x,u,)])
  (W:∀H:Hp,Rq H->SqL K H a ξ->sp η H (λv _=>v=.bl true) λ_ _ _=>ĕ)
  (X:∀H e g,CX [] H c Ìk e g->ĕ) :
  bK Ã1 Åz ÐL ÕO c:=by
 have I:=LS G;have Y:=G.length;have core:∀H:Hp,Rq H->SqL K H a ξ->HOk P w H ÆQ->(∀b,H b≠af->b=a)->(H a≠af->ĥ a=af) ->
   bK Ã1 Åz ÐL ÕO c:=by
  intro H J Z i L hK;have M:∀ {b:ae} {o:aN},ÐO b=U o->H b=af->(ÐQ).get? b=U o:=λe n=>Zqs e n;have uz:∀ {b:ae} {o:aN} {j:Ā ÐP} {l:Nat},ÐO b=U o->ũ=.dict j l->H b=af:=λ{b o j l} e d=>by
   cases q:H b with
   | none=>rfl
   | some u=>have B:b=a:=L b #[sz,q];subst B;rw[rS,ha,e];have d':Data.seq Áb _=Data.dict j l:=d;cases d'
  have y:∀ {b:ae} {m:ak->Ã aa},ÐN b m->(ÐQ).Ns b m:=λ{b m} ⟨o,j,l,e,d,r⟩=>(o,j,l,M e (uz e d),d,r);have N:Ū ÐQ:=λb o e=>M (KX b o e) (by
   cases q:H b with
   | none=>rfl
   | some u=>have B:b=a:=L b #[sz,q];subst B;rw[hK #[sz,q]]at e;cases e)
  have hM:Mod K mg ÐQ:=(N,y E,(A,y hb,Q),let ⟨mc,h1,h2⟩:=R;(mc,y h1,h2));have e0:VH P w K mg ÐQ Åz [] c H:=(rfl,hM,λb o e=>Zrt e,ËZ (Zou _ _),trivial,λb hb=>È #[r9,hb] Ö,i,.of_eq S);refine Æ1 ((F _ N (y E)).run Åz [] c H ([.ref a],[]) η η _ _ hr e0 (T c Ħ) Ðt (W H J Z)) λr g h=>?_;cases r with
  | error e=>exact(X H e g h).elim
  | ok fl =>
   cases fl with
   | next=>exact Ãe h
   | brk=>exact Ãe h
   | Η=>exact Ãe h
   | ret u =>
    obtain v|H'|os|p|un|DU|r'|q:=h;have q':v=.bl true:=q;subst q';obtain rfl:u=Åc true:=r';refine(rfl,OldK.of_keep λb o e=>?_,os,p);cases q:H b with
    | none=>exact un.keep b o e q (by intro z;exact È #[r9,z] Ö) Ö
    | some u =>
     rcases J b with z|⟨ob,xs,z⟩
     ·rw[fQ,q,z,z]
     ·have z2:=un.frzs b ob _ z;obtain O|_:=i b _ z;obtain e2|_:=DU b _ z2;rw[fQ,e,O,O];exact e2
 cases C:ĥ a with
 | some o=>have e:=KX a o C;rw[rS,ha,e];refine core (λ_=>af) (λ_=>.inl rfl) (.inr (_,Áb,_,C,rfl,rfl,rfl,by rw[QE,Y];exact hl,by simpa using I)) (λb u z=>by have t:(af:Ã HO)=U u:=z;cases t) (λb z=>È rfl z) λz=>È rfl z
 | none =>
  refine core (λb=>if b=a then U (.frz { cls:=.type "list",Ó:=.seq Áb } (.lst ξ)) else af) (λb=>?_) (.inl (.inr ({ cls:=.type "list",Ó:=.seq Áb },Æ rfl))) #[iz,b,u,z] (λb z=>?_) λ_=>C
  ·by_cases hb:b=a
   ·exact .inr (_,_,Æ hb)
   ·exact .inl (Ç hb)
  ·by_cases hb:b=a
   ·have t:=(Æ hb).symm.trans z;cases t;subst hb;exact(ha,by rw[Qa];exact hl,vs,_,I,ha)
   ·have t:=(Ç hb).symm.trans z;cases t
  ·by_cases hb:b=a
   ·exact hb
   ·exact È (Ç hb) z
theorem walk_of{l:ÐR}{n k:Nat}{q:ay}{i:Ñ}{j:ÐJ}{c:aF->aI->Prop}{d:DefRec}{K:Params->Ä}{CX:aF->CXT}{sp:aF->Sp}{x:ak}
  (m:l.most=U n) (p:n<=aq) (r:ÐK) (hr:Z8 k Åz)
  (t:∀ (w:aF) (h:aI),c w h->(Éw).In h)
  (F:∀ (w:aF) (mg:ak->Ã aa) (fa:ae) (h:aI),(Éw).In h->h.Ns aL mg->mg Éu=U (.ref fa) ->
   ∃b:bA,#[he,u,b,x] /\
    ∀Â:aI,(Éw).In Â->ÈH aL mg->YY l.prog w Éw mg Â (CX w) k fa b [x] (sp w))
  (y:∀ (w:aF) (H:Hp) (a:ae) (ns:À Int),Č<=n->Rq H->SqL Éw H a ξ->sp w η H (λv _=>v=.bl true) λ_ _ _=>ĕ)
  (z:∀ (w:aF) (H:Hp) (s:aj) (e:aa) (s':aj),CX w [] H s Ìk e s'->ĕ) :
  PySem.W.WalkO q i j c Ìj d [] ÐM:=by
 refine Att.attach_call m r λw ÀQ A mg mb fa o pm cd fh a vs ns G Y ho hd gr hmg B C g D=>?_;have KX:=t w _ Y;obtain b|E|I:=F w mg fa _ KX G.T.g hmg;exact Zp4 KX G.T.g G.T.b G.T.builtins G.T.nolimit D B C (Qk g p) hr I E (λH J L=>y w H a ns g J L) λH e s'=>z w H A e s'
def Yn(s:aM)(j:Nat):aM:=match s with
 | .ClassDef _ _ _ a _ _ _ _ _ _ _=>Éx j (.Pass (0,0,0,0))
 | _=>.Pass (0,0,0,0)
def WD(s:aM):Arguments:=match s with
 | .FunctionDef _ a _ _ _ _ _ _ _ _=>a
 | _=>{ posonlyargs:=[],args:=[],vararg:=af,kwonlyargs:=[],kw_defaults:=[],kwarg:=af,defaults:=[] }
def XY(s:aM):À aM:=match s with
 | .FunctionDef _ _ b _ _ _ _ _ _ _=>b
 | _=>[]
def Zh(s:aM):bj:=match s with
 | .FunctionDef _ _ _ _ _ _ a _ _ _=>a
 | _=>{ kind:=.function,Á6:=[],isGenerator:=false,isCoroutine:=false }
abbrev CX0:CXT:=λ_ _ _ _ _ _=>ĕ
abbrev E0:XK:=λ_ _ _=>ĕ
theorem VE{X:Cx}:Wp CX0 X E0:=λ_ _ _ _ _ _ _ h=>Àq
structure Fun (K:Ä) (x aY:ak) (st:aM) (f:ae) (fd:bA):Prop where
 ex:X9 λ(oc:aa) (od:Ã ae) (kV fh pm:aa) (an:Ã ae) (aP ct:aa) (l7:Ā (Ã aa)) =>
  fd=ÅA x aY (WD st) ÂF (Zh st) .none kV fh pm an aP ct/\ĥ f=U (oc,od,.func fd,l7)/\Él K aP aY=true
 kp:À9 K č=true
section
variable {P:ay} {w:aF} {K:Ä} {mg:ak->Ã aa} {Â:aI}
theorem Fun.ok{x b:ak}{st:aM}{f:ae}{c:bA}{N ps:Ñ}{k:Nat}{sp:Sp}(F:Fun K x b st f c)(S:Äl)(len:Ãn)
  (d:∀ (a:aa) (A:aD) (Û:À Env) (s:aj) (H:Hp) (vs:À V) (Q:VK) (E:XK),Z8 k #[fu,b]->sp vs H Q E ->
   ∃t,PSs (XJ CX0 P w K mg Â N b (Zh st) f a A Û s H E).nox ÂF t/\t { nx:=λ_ e=>Q .non e,rt:=Q } ÁB H):YY P w K mg Â CX0 (k+1) f c ps sp:=by
 rw[y8,fh,pm,an,a,g];refine Ma lk g S len λA Û s H vs Q E i j=>?_;obtain t|h|q:=d a A Û s H vs Q E i j;exact(t,h.nox,q)
theorem Fun.binds{x e:ak}{st:aM}{f:ae}{g:bA}{ps:Ñ}(F:Fun K x e st f g)
  (h:#[ej,a,c,d,e]):Yz K g ps []:=by
 rw[y8,a,b,c,d,gr];exact .all (h kV a b c d ct)
theorem WP{x a:ak}{st:aM}{f:ae}{h:aa}{i d:Ġ}{j:ν}{kV e g b ct:aa}(l:ĥ f=U (h,i,.func #[gi,a,d,b],j))
  (c:Él K b a=true) (k:À9 K č=true):Fun K x a st f #[gi,a,d,b]:=((h,i,kV,e,g,d,b,ct,j,rfl,l,c),k)
universe E
theorem U6{A:aD}{k:Nat}(hr:Z8 k A):ÂB+1<ÂC:=Qa5 (Nat.add_le_add_left (by decide:1<=64) _) Ìl
theorem Zs{n:Nat}(h:n<=1000):n<aq:=Qa5 h Ë
section
variable {X:Cx}
theorem pv(i:Nat){x:ak}{pos:Pos}(a:Ây:=by rfl)(b:#[id,Vis]:=by first|exact Or.inl rfl|exact Çf á|exact Çf Éy)(hd:Ī:=by decide)
  (c:ËJ:=by decide):PE X ÀS (Ts i):=RJ a b hd c
universe E
theorem Y7{A B:Prop}(h:B):if false=true then A else B:=by rw[Ç Qu];exact h
theorem YJ{A B:Prop}(h:A):if true=true then A else B:=by rw[Æ rfl];exact h
theorem Y0{c A B:Prop}[Éz c](h1:c->A)(h2:¬ c->B):if c then A else B:=by
 by_cases h:c
 ·rw[Æ h];exact h1 h
 ·rw[zf,h];exact h2 h
theorem U5{c A B:Prop}[Éz c](hc:c)(h:B):if (!decide c)=true then A else B:=by rw[Ĉ hc];exact Y7 h
def ZD(H a:Hp):Prop:=#[eT,o,H,o,a]
theorem ÉA(H:Hp):ZD H H:=λ_ _ h=>h
theorem ZD.trans{H d e:Hp}(a:ZD H d)(b:ZD d e):ZD H e:=λc o h=>b c o (a c o h)
theorem ZD.free{H a:Hp}(e:ZD H a){l:ae}(h:a l=Option.none):H l=Option.none:=by
 cases q:H l with
 | none=>rfl
 | some o=>rw[e l o q]at h;cases h
theorem ZD.seq{K:Ä}{H b:Hp}{a:ae}{xs:Ĕ}(e:ZD H b)(h:SqL K H a xs):SqL K b a xs:=by
 rcases h with(h|⟨o,h⟩)|h
 ·exact .inl (.inl (e _ _ h))
 ·exact .inl (.inr (o,e _ _ h))
 ·exact .inr h
def Y6(b:#[hz,ae]):À (ak×aV)->À (ak×ae)->À (ak×ae)
 | [],a=>a
 | (n,k,)::r,a=>if k == .free then Y6 b r ((n,(b.lookup n).getD 0,)::a) else Y6 b r a
theorem LR{d:bj}{env:Env}(h:∀y∈ÉB,y.2=.free->∃c,Ïy y.1=U c) :
  ÐS d env=pure (Y6 ÅB ÉB []):=by
 have go:∀ (a:À (ak×aV)) (b:À (ak×ae)),(∀y∈a,y.2=.free->∃c,Ïy y.1=U c) ->
   (forIn a b λ(x:ak×aV) (r:À (ak×ae))=>if (x.2 == Äm)=true then (do let c <- cellOf env x.1;pure (Ìm ((x.1,c,)::r))) else pure (Ìm r):Sem (À (ak×ae)))=pure (Y6 ÅB a b):=by
  intro a;induction a with
  | nil=>intro b _;rfl
  | Í y r j =>
   intro b f;rw[ep,n,k,y];rw[ÕP];cases e:(k == Äm) with
   | false =>
    have g:Y6 ÅB ((n,k,)::r) b=Y6 ÅB r b:=by show (if Ãq=true then _ else _)=_;rw[e];rfl
    rw[g,<- j b λz i=>f z (Ql _ i)];simp only[e,ÉC,Åw,pure_bind]
   | true =>
    have m:k=.free:=by simpa using e
    obtain c|l:=f (n,k,) Qac m;have g:Y6 ÅB ((n,k,)::r) b=Y6 ÅB r ((n,c,)::b):=by show (if Ãq=true then _ else _)=_;rw[e,l];rfl
    have o:cellOf env n=pure c:=by unfold cellOf;rw[l]
    rw[g,<- j ((n,c,)::b) λz i=>f z (Ql _ i)];simp only[e,Çc,o,pure_bind]
 have q:=go ÉB [] h;unfold ÐS;first
  | (rw[show (forIn ÉB ([]:À (ak×ae)) _:Sem (À (ak×ae)))=pure (Y6 ÅB ÉB []) from q];rfl)
  | (simp only[bind_pure];exact q)
  | exact q
theorem Rp(a:#[hz,ae]):∀ (Á6:À (ak×aV)) (b:À (ak×ae)) (x:ak) (c:ae),(Y6 a Á6 b).lookup x=U c ->
  (∃y∈Á6,y.1=x/\y.2=.free/\c=(a.lookup x).getD 0)\/b.lookup x=U c
 | [],b,x,c,h=>.inr h
 | (n,k,)::r,b,x,c,h=>by
  by_cases hk:Ãq=true
  ·have e:ÕQ:=by show (if Ãq=true then _ else _)=_;rw[Æ hk]
   rw[e]at h;rcases Rp a r _ x c h with⟨y,d,q⟩|q
   ·exact .inl (y,Ql _ d,q)
   ·rw[QaC]at q;by_cases f:(x == n)=true
    ·rw[f]at q;have g:x=n:=by simpa using f
     subst g;exact .inl ((x,k,),Qac,rfl,by simpa using hk,(Qv q).symm)
    ·have g:ÐT:=by simpa using f
     rw[g]at q;exact .inr q
  ·have e:ÕR:=by show (if Ãq=true then _ else _)=_;rw[zf,hk]
   rw[e]at h;rcases Rp a r _ x c h with⟨y,d,q⟩|q
   ·exact .inl (y,Ql _ d,q)
   ·exact .inr q
theorem Ro(a:#[hz,ae]):∀ (Á6:À (ak×aV)) (b:À (ak×ae)) (x:ak),((∃y∈Á6,y.1=x/\y.2=.free)\/∃c,b.lookup x=U c) ->
  ∃c,(Y6 a Á6 b).lookup x=U c
 | [],b,x,h=>by
  rcases h with⟨y,hy,_⟩|h
  ·cases hy
  ·exact h
 | (n,k,)::r,b,x,h=>by
  by_cases hk:Ãq=true
  ·have e:ÕQ:=by show (if Ãq=true then _ else _)=_;rw[Æ hk]
   rw[e];refine Ro a r _ x ?_;by_cases d:(x == n)=true
   ·exact .inr (_,by rw[QaC,d])
   ·have f:ÐT:=by simpa using d
    rcases h with⟨y,hy,q⟩|⟨c,q⟩
    ·rcases ĩ hy with rfl|hy
     ·exact È #[d8,q.1.symm] d
     ·exact .inl (y,hy,q)
    ·exact .inr (c,by rw[QaC,f];exact q)
  ·have e:ÕR:=by show (if Ãq=true then _ else _)=_;rw[zf,hk]
   rw[e];refine Ro a r _ x ?_;rcases h with⟨y,hy,q⟩|h
   ·rcases ĩ hy with rfl|hy
    ·exact È #[d8,q.2] hk
    ·exact .inl (y,hy,q)
   ·exact .inr h
structure ZX (N N':Ñ) (o c:bj):Prop where
 kind:c.kind=.function
 okind:o.kind=.function
 nocell:∀y∈ÂG,y.2≠.cell
 loc:∀y∈ÂG,y.2=.local->Ţ y.1=U .local
 Δ:∀y∈ÂG,y.2=.free->Ţ y.1=U .free/\ÕS
 len:ğ<=Ìn
 same:∀i∈ÁC ğ,∀x∈N'[i]?,Ţ x=U .local\/Ţ x=U .free->Ţ x=U .free/\N[i]? = U x
 nd:N'.Nodup
def YF(X:Cx)(c:bj)(a:Ñ)(C:ae)(s:aj)(H:Hp)(fp:Š):Cx :=
 { X with N:=a,ÀQ:=s,H₀:=H,env:=bL c (Y6 ÐU ÂG []) C Ì,Û:=Ε,stack:=Ε,ex:=fp,fn:=λ_=>false,pn:=[],xe:=λ_ _=>ĕ }
theorem LQ{env:Env}(c:ÐV=.function):∀ (Á6:À (ak×aV)) (x:ak),
  (names.map λ(p:ak×aV)=>if (p.2 == Äm&&ÐV == .function&&ÆC p.1 == U .cell)=true then (p.1,Ìo,) else (p.1,p.2,)).lookup x =
   match names.lookup x with
   | some .free=>if ÆC x=U .cell then U .cell else U .free
   | k=>k
 | [],x=>rfl
 | (n,k,)::r,x=>by
  have ih:=LQ c r x;rw[Qj];by_cases f:(x == n)=true
  ·have a:x=n:=by simpa using f
   subst a;have d:À8 x ((x,k,)::r)=U k:=by rw[QaC];simp
   rw[d];by_cases e:k=.free
   ·subst e;by_cases b:ÆC x=U .cell
    ·simp[Æx,c,b]
    ·simp[Æx,c,b]
   ·have g:Ãq=false:=by simpa using e
    rw[g];simp only[Bool.false_and,ÉC,Åw,Æx,ÐW];all_goals (cases k<;>first|rfl|exact È rfl e)
  ·have a:ÐT:=by simpa using f
   have d:À8 x ((n,k,)::r)=À8 x r:=by rw[QaC,a]
   rw[d,<- ih];by_cases b:(k == Äm&&ÐV == .function&&ÆC n == U .cell)=true
   ·simp only[b,Çc,Æx,a]
   ·simp only[b,Åw,Æx,a,ÉC]
section
variable {X:Cx} {N N':À ak} {o c:bj}
theorem Uv(S:Àr)(a:Às)(b:#[hz,ae])(C:ae)(x:ak):(bL c b C Ì).kindOf x =
  match Ţ x with
  | some .free=>if Âx x=U .cell then U .cell else U .free
  | k=>k:=LQ (env:=Ì) #[ea,a,S.okind] ÂG x
theorem Te{Á6:#[hz,aV]}{x:ak}{k:aV}(h:names.lookup x=U k):(x,k,)∈Á6:=Qao h
theorem U4(S:Àr)(g:Às)(ok:X.Ok){x:ak}{a:ae}(h:(Än).lookup x=U a) :
  γ x=U a/\Ţ x=U .free:=by
 rcases Rp _ _ _ _ _ h with⟨y,i,rfl,j,e⟩|q
 ·have d:=S.free y i j;have k:#[sQ,Âx,y.1]:=by show Ãr y.1=_\/Ãr y.1=_;rw[g];exact d.2
  obtain b|f:=ok.has y.1 k;rw[f]at e;exact(by rw[f,e];rfl,d.1)
 ·cases q
theorem LO(S:Àr)(d:Às)(ok:X.Ok){x:ak}(h:ÐX):∃a,(Än).lookup x=U a/\γ x=U a:=by obtain a|b:=Ro ÐU ÂG [] x (.inl ((x,.free,),Te h,rfl,rfl));exact(a,b,(U4 S d ok b).1)
theorem ZsB(S:Àr)(f:Às){l:ć}{n:St}{H:Hp}{s:aj}{fp:Š}(I:Inv X l n H s)
  (i:#[rV,l,H]) (ht:ÕT):(Ül).Ok where
 mod:=Ëz
 kind:=Æ7
 glob:=ÐY
 blt:=I.ok.blt
 above:=Qg _
 inj:=λx y a p r=>I.ok.inj x y a (U4 S f ε p).1 (U4 S f ε r).1
 has:=λx t=>by
  have e:=#[s8,f,Î];have g:#[83].kindOf x=U .cell\/#[83].kindOf x=U .free:=t;rw[e]at g;cases q:Ţ x with
  | none=>rw[q]at g;rcases g with z|z<;>cases z
  | some k =>
   by_cases m:k=.free
   ·subst m;obtain a|u|_:=LO S f ε q;exact(a,u)
   ·rw[q]at g;have v:k=.cell:=by cases k<;>first|rfl|exact È rfl m|(rcases g with z|z<;>cases z)
    subst v;exact ÕU
 cab:=λx a h=>by cases (show false=true from h)
 hd:=À7
 frames:=Æ0
 stk:=ÁY
 exf:=λb d=>(Qz (ht b d),λx a h=>(i b d).2.2.2.2.1 x a (U4 S f ε h).1)
 bs:=λb j e=>I.bs b j e
 bsz:=Qk ÈN I.sz
 noex:=λb j e d=>by
  rcases(i b d).2.2.2.1 with z|z
  ·exact ÆD b j e z
  ·exact ÐZ
 exfs:=λb d w=>by
  rcases ĩ (I.stkSub b w) with z|z
  ·exact(i b d).2.1 z
  ·exact(i b d).2.2.1 z
 funs:=I.stack
 frf:=Ðp
theorem LN(S:Àr)(t:X.N=N)(g:Às){C:ć}{f:St}{H:Hp}{s:aj}{fp:Š}{w:aI}{tk:Nat}{D:þ}(I:Inv X C f H s)
  (F:#[rV,C,H]) (ht:ÕT) (G:w.Ns Î D) (hk:#[eT,ob,é,ob,w.get?]) :
  Inv Ül [] #[sO,f,ÅC] H { s with Õ:=w,ï:=tk } where
 ok:=ZsB S g I F ht
 os:=rfl
 bare:=Ζ
 Â:=ÈG hk
 loc:=by
  refine(D,G,λi x v J j K=>?_);rw[g9,m,hn,L,Ś];have M:Ác=ğ:=by rw[Àz,t]
  have y:i<Ác:=by
   by_cases y:i<Ác
   ·exact y
   ·rw[Q6 Á,Õv]at j;split at j<;>cases j
  have O:f[i]? = U (U v):=by rw[QT y]at j;exact j
  have E:=#[s8,g,Î];have P:Ţ x=U .local\/Ţ x=U .free:=by
   have n:#[83].kindOf x=U .local\/#[83].kindOf x=U .cell\/#[83].kindOf x=U .free:=K;rw[E]at n;cases q:Ţ x with
   | none=>rw[q]at n;rcases n with z|z|z<;>cases z
   | some k =>
    cases k with
    | «local»=>exact ÁY
    | Δ=>exact Át
    | cell=>exact ÕU
    | _=>rw[q]at n;rcases n with z|z|z<;>cases z
  obtain A|B:=S.same i (Ïw Á) x (by rw[show N'[i]? = U x from J];rfl) P;have hok:#[sQ,Âx,x]:=by show Ãr x=_\/Ãr x=_;rw[g];exact(S.free _ (Te A) rfl).2
  obtain u|r|l:=L i x v #[ea,t,B] O (.inr hok);refine(u,r,.inr Ìp)
  ·show (bL c Än Î Ì).kindOf x=U .cell\/#[83].kindOf x=U .free;rw[E,A];show (if Âx x=U .cell then U Ìo else U Äm)=U .cell\/(if Âx x=U .cell then U Ìo else U Äm)=U .free;by_cases q:Âx x=U .cell
   ·rw[Æ q];exact ÁY
   ·rw[zf,q];exact Át
  ·obtain a|Q|R:=LO S g ε A;rw[si,a,Q];rcases l with⟨z,_⟩|⟨_,a',e,ob,T,V⟩
   ·rcases hok with q|q<;>rw[q]at z<;>cases z
   ·rw[fQ,R,e,e];exact(ob,hk _ _ T,V)
 cell:=λx a h=>by obtain v|ob|e|d:=Àj x a (U4 S g ε h).1;exact(v,ob,hk _ _ e,d)
 Δ:=ÐI
 freeC:=λx a h=>ÀA x a (U4 S g ε h).1
 pin:=λp W=>È (show p∈Ìb from W) Ö
 hok:=I.hok.kept hk
 len:=by
  have M:Ác=ğ:=by rw[Àz,t]
  have:=S.len;show (f++ÁA ÅC af).length=Ìn;rw[Qi,QaP];lia
universe E
abbrev Rm(a:ı)(env:Env):Sem Ð :=
 forIn a true λk r=>if r=true then do let ok <- isTrue k env (ā k env);pure (Ìm ok) else pure (Ìm r)
def PTs(X:Cx)(c:ı)(t:TT):Prop :=
 ∀ (b:À (ae×aN)) (s:aj) (a:St) (H:Hp) (Q:Ð->Hp->Prop),Inv X b a H s->t a H Q->ó (Rm c Ì) (TP X b a Q) è s
def VD:TT:=λ_ H Q=>Q true H
theorem XX{X:Cx}:PTs X [] VD:=λ_ _ _ H _ I h=>wpAny_tests_nil (H,I,h)
section
variable {ñ:ay} {w:aF} {A:aD} {R:Ég->aj->Prop} {s:aj}
theorem ZjC{c b Ĳ:aK}{d:ı}{k:bj}{pos:Pos}{it f:aa}{env:Env}{E:ð}(I:#[hn,Nat])
  (B:∀e s',E e s'->ĕ)
  (turn:∀n s,I n s->ar Ô A (Ãh it) (λr g=>match r with
   | none=>R Çg g
   | some v=>ar Ô A (dD b it v) (λ_ ÀQ=>ar Ô A (Âz b env v) (λ_ l =>
     ar Ô A (Rm d env) (λok i =>
      if ok=true then ar Ô A (ā c env) (λx o =>
       ar Ô A (Ĵ #[eM,"list.append"] [f,x]) (λ_ p=>∃m,m<n/\I m p) E o) E i
      else ∃m,m<n/\I m i) E l) E ÀQ) E g) E s)
  (n:Nat) (h:I n s):bK Ô A (.compLoop #[gz,c,b,d,k] 0 it f env) R s:=by
 have go:ÕV:=
  λ{j t Q s} q=>ba q ÉD λe s' z=>(B e s' z).elim
 refine codeAny_loop rfl I #[iz,n,s,C] n h;show ar _ A ((compTurn #[gz,c,b,d,k] 0 it f env).onRaise (λx=>do Çh x env;ÕW x)) _ _ s;refine wpAny_noted ?_;rw[compTurn_list];refine ah (bx (ah (thn (go (turn n s C)) λr g u=>?_)));cases r with
 | none=>exact av u
 | some v =>
  refine ah (thn (go u) λ_ ÀQ a=>ah (thn (go a) λ_ l D=>ah (thn (go D) λok i y=>?_)));cases ok with
  | false=>exact av (rfl,y)
  | true=>exact ah (ah (thn (go y) λx o F=>ah (thn (go F) λ_ p G=>av (av (rfl,G)))))
universe E
def VC(J:It)(D:ae)(k:Nat)(q:St)(r:Hp)(g:TG)(s:TT)(t:TE)(Q:VK):Prop :=
 ∃W:Nat->Nat->À V->St->Hp->Prop,(∃m,W 0 m [] #[sO,q,k] #[e8,r,D]) /\
  ∀i m a e c,W i m a e c->ÕX \/
   (J.go i c/\∃N:À V->St->Hp->Prop,ÕY/\∀x n,J.yld i c x n->g x e n λd u=>s d u λb o =>
    if b=true then t d o λy p=>p D=U (.lst a)/\ļ<aq/\N (a++[y]) d (upd p D (.lst (a++[y]))) else N a d o)
def Rl(n:Nat)(c:TI)(g:TG)(d:TT)(e:TE):TE:=λa H Q=>c a H λJ b=>∀D,b D=af->VC J D n a b g d e Q
section
variable {X:Cx} {N N':À ak} {o c:bj}
theorem LM{iD tg Ĳ:aK}{dF:ı}{pos cZ:Pos}{wi:TI}{g:TG}{tc:TT}{te:TE}{use:Ã (aa->Sem Unit)}{QQ:ð}(S:Àr)(hN:X.N=N)(ho:Às)(hc:ŕ)
  (hi:PI X tg Ĳ wi) (hg:#[e0,PG,tg,g]) (ht:#[e0,PTs,dF,tc]) (he:#[e0,PE,iD,te])
  (hs:ÆR) {Z:ć} {s:aj} {σ:St} {H:Hp} {Q:VK} (I:Inv X Z σ H s) (h:Rl ÅC wi g tc te σ H Q)
  (post:∀ (D C:ae) (t:aj) (l:Hp) (m:ak->Ã aa),Inv X Z σ l t->l C=af->t.heap.Ns C m->C≠İ->ū<=C->#[gr,a,C]->ÕZ ->
   Q Ι l->ÂH Ĝ X.A è use QQ Ι C Çg t) :
  ó (Ìq Ð0 c Ì cZ (Ìr []) false #[fg,Ĳ] use) QQ è s:=by
 have qM:Õ0:=LR λy hy hf=>by refine ËH y.1 ?_;rw[cT]
 rw[bh];obtain it|fp|tn|J|G|e|I2|T|cX|f2|hR:=h2;subst e;have hD:G Á7=af:=I2.fresh;have M:Inv X Z σ ÉE { f with Õ:=Äo { cls:=.type "list",Ó:=.seq ([]:À aa).toArray } } :=
  I2.lnew (ys:=[]) (its:=[]) (t':=ÀW) .nil (Qs _)
 have uG:Õ1:=λb k=>by obtain A|e|_:=T.obj 0 _ cX b k;exact Qq e
 refine bz (Õ2 S.nocell Õ3 #[iz,K,oy,oz] Æ7);have O:∃j:aj,j={ f with Õ:=Äo { cls:=.type "list",Ó:=.seq ([]:À aa).toArray } }:=ÿ;rw[ep,j,qN,O];have O:Çi=Äo { cls:=.type "list",Ó:=.seq ([]:À aa).toArray }:=by rw[qN]
 have pP:Õ4:=by rw[O,Q1]
 rw[rq];have f3:#[rV,Z,ÉE]:=λb k=>(by rw[Zc (Qz (uG b k))];exact(f2 b k).1,(f2 b k).2);have fN:tn 0 Çi:=È1 0 _ _ cX λb _ A e=>by rw[O];exact Qc _ e
 rw[<- qN]at M;show bK Ĝ X.A (.compStart _ 0 Áw ÀE (bL c Än #[jq].objs.size Ì))
  (ÂH Ĝ X.A è use QQ ÀE #[jq].objs.size)
  { f with Õ:=K,ï:=ÀW+([]:À (ak×aa)).length }
 have eO:K.Ns ű Õ5:=by rw[O];exact oy
 have jE:#[eT,A,j.heap.get?,A,K.get?]:=λb A e=>by rw[O]at e;exact Õ6
 rw[<- O];have AA:({ f with Õ:=K,ï:=ÀW+([]:À (ak×aa)).length }:aj)={ j with Õ:=K,ï:=ÀW }:=by rw[qN];rfl
 rw[lj];have I4:=LN (tk:=ÀW) S hN ho M f3 uH eO jE;have uI:tn 0 K:=Õ7;generalize w:YF X c N' ű j (upd G Á7 (.lst [])) fp=Y at I4;have P:Y.prog=ù:=by rw[<- w];rfl
 have R:Y.w=X.w:=by rw[<- w];rfl
 have YK:Y.K=X.K:=by rw[<- w];rfl
 have Yc:Y.calm=true:=by rw[<- w];exact hc
 have YA:Y.A=X.A:=by rw[<- w];rfl
 have pQ:Õ8:=by rw[<- w];rfl
 have Yl:Õ9:=by rw[pQ];rfl
 have md:Y.xe=λ_ _=>ĕ:=by rw[<- w];rfl
 rw[eQ,uJ,hg,ÉE,fj,ht];have gH:=he ű j ÉE fp;rw[w]at uJ fj gH;have im:∀ {B:Hp},#[hT,B]->∀b∈fp,Xx Y [] B b:=λ{B} hn b k=>by
  rw[65];have qO:p∈Ìb:=by
   have:Y.pn=[]:=by rw[<- w];rfl
   rw[this]at hp;exact hp
  cases qO
 have fin:∀ (t:aj) (L:St) (l:Hp),Inv Y [] L l t->Q ÀE l->ÂH Ĝ X.A è use QQ ÀE ű Çg t:=λt L l F q=>by
  rw[tJ];have oA:l ű=af:=by have:=F.free;rw[zl,Yl]
  have un:Un ËE fp ÉE l Çi t.heap:=by have:=F.base;rw[hG,w]
  have AB:t.os=j.os:=by have:=F.os;rw[hG,w]
  have jk:Öa:=by have:=F.hok;rw[P,R]at this;exact this
  refine post _ _ t l m (M.call' (s':=t) (ch:=fp) AB un jk F.bare λb k=>?_) oA hn (QX M.lt) M.sz #[iz,x,a,e] (λp hp=>?_) q
  ·rw[lP]
  ·obtain v|A|e'|_:=M.cell x a e;exact Qz (Qq e')
  ·exact Qz (Qq (M.pin p hp).1)
 have pR:bK Ĝ X.A #[sf,Ð0,Áw]
   (ÂH Ĝ X.A è use QQ ÀE ű) { j with Õ:=K,ï:=ÀW }:=by
  rw[<- pQ,<- YA];refine ZjC (E:=ËI) (λn s'=>X4 λi ys aS B=>Inv Y [] aS B s'/\tn i ÀB/\#[hT,B]/\W i n ys aS B) ÉD ?_ m0
   Öb
  ·rintro n t ⟨i,ys,L,l,F,ou,qH,w5⟩;rcases turn i n ys L l w5 with⟨stop,qn⟩|⟨go,Nn,uK,step⟩
   ·refine thn (T.done Y P R YK Yc i [] t L l _ F (im qH) ou stop) ?_;rintro r s6 ⟨hr,I6⟩;subst hr;have fq:=fin s6 L l I6 qn;rw[<- YA]at fq;exact fq
   ·refine thn (T.item Y P R YK Yc i [] t L l _ F (im qH) ou go) ?_;rw[aP];have pS:Öc:=λ{qQ V s9} I9=>by refine Öd;rw[gl,A,qP,k,I9.pin]
    have P1:=uJ _ s7 L H7 x u _ AD r7 (step x H7 y7);rw[fL,P,R,P1];rw[ly];rw[fL,P,R,P2];rintro ok s9 ⟨V,I9,q9⟩;cases ok with
    | false=>rw[Ç Qu]at q9;rw[bG]
    | true=>rw[Æ rfl]at q9;rw[p1];have P3:=gH _ s9 jY V _ I9 q9;rw[fL,P,R,P3];rintro y AE ⟨vy,mh,AF,AG,AH,hsz,q10⟩;have P4:=ZY (X:=Y) _ AE jY mh ÀE [vy] ÀE [y] (λ_ B=>Nn (ys++[vy]) jY B) AF rfl (.cons AG .nil) (_,ys,vy,rfl,rfl,AH,hsz,q10);rw[fL,P,R,P4];rintro _ xJ ⟨_,uL,oB,_,q11⟩;rw[sJ,b1,b2,b3,pS,oB];obtain m'|gs|w11:=uK _ _ _ q11;exact(m',gs,i+1,ys++[vy],jY,uL,b1,b2,b3,w11)
  ·exact w0
 have lp:=T.self X.A 0 { j with Õ:=K,ï:=ÀW } (λAJ s'=>bK Ĝ X.A #[sf,Ð0,AJ]
   (ÂH Ĝ X.A è use QQ ÀE ű) s') ÉF uI pR
 exact codeAny_compStart_list pR Öe
theorem Inv.let{c:ć}{d:St}{H:Hp}{s:aj}{C:ae}{h':aI}(I:ËP)(f:H C=af)(g:C≠İ)(h1:ū<=C)
  (h2:∀x a,γ x=U a->a≠C) (h:∀p∈X.pn++c,p.1≠C) (i:#[y0,C,Ê,h']):Inv X c d H { s with Õ:=h' } :=
 ÀT (t':=Ŗ) (λb j k e=>Á8 b j k e) f g (.inr h1) h2 h
theorem XS{b a Ĳ:aK}{d:ı}{pos:Pos}{e:TI}{g:TG}{f:TT}{i:TE}(S:Àr)(j:X.N=N)(k:Às)(hc:ŕ)
  (l:PI X a Ĳ e) (n:#[e0,PG,a,g]) (ht:#[e0,PTs,d,f]) (he:#[e0,PE,b,i])
  (p:ÆR:=by intro _;rfl) :
  PE X #[gz,b,a,d,c] (Rl ÅC e g f i):=by
 rw[eS,ai,σ,Q];rw[eval_ListComp];refine LM (use:=af) S j k hc l n ht he p I h λD C s5 r m t u v w y z A q=>(m,v,λh' B=>?_);exact(.ref D,r,t.let u w y z A B,rfl,q)
theorem Td{i:Nat}{x:ak}{e b Ĳ:aK}{f:ı}{pos d k:Pos}{l:TI}{g:TG}{n:TT}{p:TE}(w:ÃV)(hx:Ây)(hl:ÆI)(S:Àr)(y:X.N=N)(A:Às)(hc:ŕ)
  (B:PI X b Ĳ l) (E:#[e0,PG,b,g]) (ht:#[e0,PTs,f,n]) (he:#[e0,PE,e,p])
  (F:ËL #[gz,e,b,f,c] (U (.Name x d)) k.line Ì=pure true)
  (G:ÆR:=by intro _;rfl) (J:ÆK:=by first|exact ÁY|exact Át|assumption) :
  PS X (.Assign [.Name x d] #[gz,e,b,f,c] k) (RG (Rl ÅC l g n p) (Tp i)):=by
 rw[eS,K,σ,D];rw[exec_Assign_Name_used _ _ _ _ F];refine ah (bx (ah ?_));show ar _ X.A (do let _ <- Ìq (.ListComp e [⟨b,Ĳ,f,0⟩] c pos) c Ì _ (Ìr []) false (ā Ĳ Ì) (U (Âz (.Name x d) Ì))) _ _ s;refine ah (thn (LM (QQ:=λ_ r=>SP X K D .next r) (use:=U (Âz (.Name x d) Ì)) S y A hc B E ht he G I h ?_) λ_ r M=>av (av M));intro L C s5 O m P Q R t T u V q;show ar _ X.A (Âz (.Name x d) Ì (.ref L)) _ _ _;refine ÔM (MK (v:=.ref L) P w hx hl rfl (?_) J);rintro s6 W ⟨a,Y,Z⟩;have j:C≠a:=by
  rcases Z with z|z
  ·rw[z];exact t
  ·exact(u x a z).symm
 exact(m,R.sameBut Y j,λh' DX=>(_,O,W.let Q t T u V DX,q))
universe E
theorem LL{ys:Ñ}:∀ {us:À aa},ZG ÉG us->StrsAre us ys:=by
 induction ys with
 | nil=>intro us r;rw[rS,QaZ,r];exact .nil
 | Í y ys a =>
  intro us r;rw[Qj]at r;cases r with
  | Í b c=>obtain t|e:=b;subst e;exact .cons _ _ (a c)
theorem LK:∀ {vs:À aa} {ys:À ak},StrsAre vs ys->ZG ÉG vs
 | _,_,.nil=>.nil
 | _,_,.cons _ t h=>.cons Év (LK h)
section
variable {X:Cx}
def LJ(K:Ä):À V->Hp->VK->Prop:=λxs H Q=>X4 λx c t b=>xs=[x,.ty c]/\Xn K H x t/\Ď K t (.type c)=U b/\Q (.bl b) H
theorem Zp5:YZ X Éd (LJ X.K):=by intro ai s σ H xs us Q I r h;obtain x|c|t|b|rfl|ty|e|q:=h;obtain u|w'|rfl|a|d:=Ti r;cases d;exact Zoe I a ty e λtk=>(.bl b,H,ś _,rfl,q)
def LI(K:Ä):À V->Hp->VK->Prop:=λxs H Q=>X5 λ(x:V) (a:ae) (c:À Ŋ) (t:aa) (b:Ð)=>xs=[x,.ref a]/\H a=U (.tup (Ř V.ty))/\Xn K H x t/\PySem.W.kitAny K t (Ř Â9)=U b/\Q (.bl b) H
theorem ZrG{a:À Ŋ}:∀ {us:À aa},ZG (Ń V.ty) us->us=Ń Â9:=by
 induction a with
 | nil=>intro us r;rw[rS,QaZ,r];rfl
 | Í y ys b =>
  intro us r;rw[Qj]at r;cases r with
  | Í c d=>rw[show _=Â9 y from c,b d];rfl
theorem Zoo:YZ X Éd (LI X.K):=by
 rw[iw,w,A,k];obtain x|B|D|t|b|rfl|E|ty|e|q:=h;obtain u|w'|rfl|d|F:=Ti r;cases F;obtain _|its|G|(K|f|L|n|M):=ê B _ E;have N:=ZrG G;subst N;obtain P|R|S|sl:=K;have T:P=Â9 "tuple":=L;have V:S=Data.seq (D.map Â9).toArray n:=M;subst T;subst V;have c:∀tk,EP X w A Q (.bool b) { s with ï:=tk }:=λtk=>(.bl b,H,ś _,rfl,q);cases ty with
 | non=>cases (show u=Ài from d);rw[gx,Õd]
 | bl y=>cases (show u=Åc y from d);rw[gx,Õe]
 | int i=>obtain t|q:=Ðm;cases q;rw[gx,Õf]
 | str y=>obtain t|q:=#[eB,t,Áq,y,d];cases q;rw[gx,Õg]
 | flt y=>obtain t|q:=#[eB,t,Ëu,y,d];cases q;rw[gx,Õh]
 | @lst a k g=>cases (show u=à a from d);obtain _|_|n|_|j:=(show Z7 ù X.w H Ê a (.lst k) from ê a _ g);exact Öf
 | @frz a W k g=>cases (show u=à a from d);obtain _|_|_|n|_|j:=(show Z7 ù X.w H Ê a (.frz W (.lst k)) from ê a _ g);exact Öf
 | @tup a k g=>cases (show u=à a from d);obtain _|_|_|p:=(show Z7 ù X.w H Ê a (.tup k) from ê a _ g);obtain o|j|m|_:=p;exact Q8 Õj ě (o,j,m) f e Àn c
 | @dK a l g=>cases (show u=à a from d);obtain _|_|vs|_|p:=#[gP,a,l,g];obtain o|Y|Z|j|m|_:=p;exact Ög
 | @dT a l g=>cases (show u=à a from d);obtain _|_|k|_|o|Y|Z|j|m|_:=(show Z7 ù X.w H Ê a (.dT l) from ê a _ g);exact Ög
 | @ins a C dx fs g v ha hn fO hm=>cases (show u=à a from d);obtain mA|O|_:=Uy ê g;obtain R|J|_:=O.look;exact Q8 (Õl (v.get _) v.hd ha hn fO hm) ě J f e Àn c
theorem Zrd(hc:ŕ):YZ X #[eM,"all"] (λxs H Q=>X2 λ(p:ae) (bs:À Ð)=>xs=Θ/\SqL X.K H p (bs.map V.bl)/\Q (.bl (ÉH id)) H):=by
 rw[aR];rw[sS,p,bs,t];rw[eV,w];rw[fz,f,x,hz,t];have g:=x.isList;have y:#[s0,p]:=by obtain _|e|_:=g;exact Qq e
 refine call_all_walk (cc g ?_);refine⟨Î,[Î,p],[Î],Åu,_,_,λi=>(bs[i]?).getD true,rfl,Ð1 (A:=X.A.in1) Á0 _ p (Qz y) ģ,
  ((_,Qt _ rfl,rfl,rfl),g.push _),λi v B C E' D E=>?_,λh' tk F=>?_⟩
 ·have m:its[i]? = U v:=by simpa using D
  have c:i<Éo:=(Ł m).1;have a:=Ác;have j:(bs.map V.bl)[i]? = U (V.bl (bs[i]' Ð2)):=by rw[Qp,Qb Ð2];rfl
  rw[sJ,u',d,k,f.get,j];rw[fQ,m,d,d];obtain rfl:v=Åc _:=k;have n:C ((bs[i]?).getD true) B:=E;rw[Qb Ð2]at n;exact bp n
 ·have e:((ÁC Åu).all λi=>(bs[i]?).getD true)=ÉH id:=by
   have a:=Ác;rw[Qa]at a;rw[QE,<- a,QaM,Qal,Qal];constructor
   ·intro z b j;obtain i|c|rfl:=Öh j;have:=z i (Ïw c);rw[Qb c]at this;exact this
   ·intro z i c;have o:=Öi c;rw[Qb o];exact z _ (Q9 o)
  refine(.bl (ÉH id),H,Ãf λb G l=>F b G (λJ=>?_) (Qc _ l),by rw[e];rfl,q);rw[å J]at l;exact Qag _ (Qq l)
theorem ZjT:YZ X Çj (λxs H Q=>X2 λ(p:ae) (ss:À ak)=>xs=Θ/\SqL X.K H p Ád/\ń<64 /\
  ∀ (l:ae) (a:À ak),H l=af->a.Perm ss->ĝ a=true->Q Ă (upd H l #[ef,Ń])):=by
 rw[aR];rw[f8,p,ss,d,qR];rw[eV,f];rw[fz,b,g,i,d];have j:=Ĥ;rw[Qa]at j i;refine sorted_strs g.isList (LL b) Á λout a k c m=>?_;obtain e|n:=sortedAll_at Ê its out;have hp:=c.length_eq;refine(.ref š,_,ÀU (t':=Ŗ) (o:=.lst (Ń Å)) (λ_ _=>sortedAll_old) (QV _) (by rw[Qa];lia,Ìs,e,LK k,by simpa using n),rfl,q _ a Ë7 c m)
theorem ZsS:MtR X "str.join" (λx vs H Q=>X3 λ(sep:ak) (p:ae) (ys:À ak)=>x=.str sep/\vs=Θ/\SqL X.K H p ÉG/\#[x1].sum+Ĭ*Ìt<=16777216/\Q (.str Öj) H):=by intro ai s σ H x vs v us Q I a b h;obtain sep|p|ys|rfl|rfl|c|d|q:=h;obtain t|rfl:=a;obtain u|rfl|e:=b.one;cases e;obtain its|f|g|_:=ÁZ c;exact join_list g.isList (LL f) d λt' k=>(.str _,H,ś _,ÿ,q)
theorem LH:OpR X (Ã2 .Mult) (λx y H Q=>X2 λa n=>x=.str a/\y=.int n/\0<=n/\n<=1000000/\ÂI*n<=1000000/\Q (.str (Çk a n)) H):=by
 rw[hE,g,i];obtain a|n|rfl|rfl|j|l|h2|q:=h;rw[sZ,g];rw[eA,t',i];have m:ļ*Ìu<=1000000:=by
  have e:((ļ*Ìu:Nat):Int)=ÂI*n:=by rw[Int.natCast_mul,Int.toNat_of_nonneg j]
  lia
 refine PySem.P.mul_str ?_ (λb c=>?_) (λb c=>?_) ?_
 ·have o:decide (n < -(2 ^ 63:Int))=false:=Çb;have f:decide (n>=2 ^ 63)=false:=Çb;rw[o,f];rfl
 ·have p:(1:Int)<=n:=by lia
  have q1:ÂI*1<=ÂI*n:=Ök p (Int.natCast_nonneg _);have q2:(1000000:Int)<=(2 ^ 63-1) / n:=by rw[Int.le_ediv_iff_mul_le Á];have:(1000000:Int)*n<=1000000*1000000:=Ök l Ë;lia
  lia
 ·unfold aT.Str.tooLong;have r:aq=16777216:=aO;exact Çb
 ·have e:Çk a n=if n<1 then Áy else if Öl=true then a else ⟨#[ts].foldl (·++·) #[]⟩:=rfl
  rw[e]at q;by_cases b:n<1
  ·rw[Æ b]at q ⊢;exact(by decide,.str _,H,ś _,ÿ,q)
  ·rw[Ç b]at q ⊢;by_cases c:Öl=true
   ·rw[Æ c]at q ⊢;exact Öm
   ·rw[Ç c]at q ⊢;refine(?_,.str _,H,ś _,ÿ,q);have w:∀ (k:Nat) (d:Ā Nat),((ÁA k a.cps).foldl (·++·) d).size=d.size+k*Ð3:=by
     intro k;induction k with
     | zero=>intro d;simp
     | succ k z=>intro d;rw[List.replicate_succ,List.foldl_cons,z,Array.size_append,Ð4];lia
    show (#[ts].foldl (·++·) #[]).size<=aq;rw[w];have f:Ð3=ļ:=rfl;have:Ìu*Ð3<=1000000:=by rw[f,Nat.mul_comm];exact m
    have r:aq=16777216:=aO;simp only[Ët,ÅD];lia
universe E
inductive Src where
 | l (a:ae)|t (a:ae)|s (z:ak)
def Src.val:Src->V
 | .l a=>.ref a
 | .t a=>.ref a
 | .s z=>.str z
def Zsw(c:Nat):V:=.str Ű
def Src.its(K:Ä)(H:Hp):Src->À V->Prop
 | .l a,xs=>SqL K H a xs
 | .t a,xs=>SqT K H a xs
 | .s z,xs=>xs=z.cps.toList.map Zsw
def Src.at(h:aI)(i:ae):Src->Nat->Prop
 | .l a,k=>ÈZ i a k
 | .t a,k=>h.IsTupleIter i a k
 | .s z,k=>∃tk,Ð5 i (bW z) z tk k
def Src.raw(h:aI):Src->À aa->Prop
 | .l a,us=>h.IsList a us.toArray
 | .t a,us=>h.IsTuple a us.toArray
 | .s _,_=>Àx
def Src.fit:Src->À aa->Nat->aa->Prop
 | .l _,us,k,u=>us[k]? = U u
 | .t _,us,k,u=>us[k]? = U u
 | .s z,_,k,u=>X2 λc tk=>Á9[k]? = U c/\u=.str Ű tk
def Src.many:Src->À aa->Nat
 | .l _,us=>ÀO
 | .t _,us=>ÀO
 | .s z,_=>Äp
def Src.off:Src->ae->Prop
 | .l a,b=>a≠b
 | .t a,b=>a≠b
 | .s _,_=>Àx
theorem Ìv{h:aI}{i:ae}:∀ {S:Src} {k:Nat},S.at h i k->X2 λo vs=>ß i=U o/\ũ=.fields vs
 | .l _,_,⟨o,e,_,d⟩=>(o,_,e,d)
 | .t _,_,⟨o,e,_,d⟩=>(o,_,e,d)
 | .s _,_,⟨_,o,e,_,d⟩=>(o,_,e,d)
theorem ÉI{h h':aI}{i:ae}(k':∀o,ß i=U o->ý i=U o):∀ {S:Src} {k:Nat},S.at h i k->S.at h' i k
 | .l _,_,⟨o,e,d⟩=>(o,k' o e,d)
 | .t _,_,⟨o,e,d⟩=>(o,k' o e,d)
 | .s _,_,⟨tk,o,e,d⟩=>(tk,o,k' o e,d)
theorem Src.raw_keep{h h':aI}{b:ae}(k':#[hd,c,o,b,ß]):∀ {S:Src} {us:À aa},S.off b->Äq h us->Äq h' us
 | .l _,_,f,⟨o,e,d⟩=>(o,k' _ o f e,d)
 | .t _,_,f,⟨o,e,d⟩=>(o,k' _ o f e,d)
 | .s _,_,_,_=>trivial
section
variable {ñ:ay} {w:aF} {A:aD} {E:aa->aj->Prop} {s:aj}
theorem ZjV{it t:ae}{i:Nat}{ő:Á2}{x:aa}{Q:ð}(c:Ön)(ht:Ð6 t ő)(hx:ő[i]? = U x)
  (d:∀h',h'.IsTupleIter it t (i+1)->ÆJ it Ê h'->Q x { s with Õ:=h' }):ar Ô A Öo Q E s:=by
 obtain o|b|e|a:=id c;obtain ol|f|_|nl|g:=ht;unfold Çl;refine ah (Ìw (name:=Ìx) Ìy Ìz
  (cq Ìz Ìy Öp ?_ Öq))
 rw[uP];refine ah (bg b a (x:=.ref t) rfl ?_);rw[81];refine ah (bg b a (x:=.int i 0) rfl ?_);rw[tb];refine ah (bi f g ?_);simp only[ÉJ,hx];refine ah (ÉK b a Ö (av (x,rfl,av (d _ ?_ (Ör ..)))));exact⟨_,Q4 _ b (Ð7 (ÉL a _)),(Ös ..).trans e,by
  rw[ÉL a];simp[Ŭ]⟩
theorem Rk{i:ae}{k:Nat}{us:æ}{Q:ð}:∀ {S:Src},S.at Ê i k->Äq Ê us->k<S.many us ->
  (∀h' tk u,S.fit us k u->S.at h' i (k+1)->ÆJ i Ê h'->Q u { s with Õ:=h',ï:=tk })->ar Ô A Öt Q E s
 | .l a,c,h,b,g=>wpAny_nextOf_list_item c h (x:=us[k]'b) #[fd,Qas,Qb,b] λh' d f=>g h' Ļ _ (Qb b) d f
 | .t a,c,h,b,g=>ZjV c h (x:=us[k]'b) #[fd,Qas,Qb,b] λh' d f=>g h' Ļ _ (Qb b) d f
 | .s z,⟨tk,c⟩,h,b,g=>by
  have j:Á9[k]? = U Á9[k]:=Qat b;by_cases l:Ð8 (·<128)=true
  ·have e:Öu:=by unfold bW;rw[Æ l]
   rw[e]at c;exact wpAny_nextOf_ascii_item c j λh' d f=>g h' _ _ (_,_,j,rfl) (tk,by rw[e];exact d) f
  ·have e:bW z = "str_iterator":=by unfold bW;rw[zf,l]
   rw[e]at c;exact wpAny_nextOf_wide_item c j λh' d f=>g h' _ _ (_,_,j,rfl) (tk,by rw[e];exact d) f
theorem Zgp{it t:ae}{i:Nat}{ő:Á2}{Q:ð}(f:Á4)(b:Ön)(ht:Ð6 t ő)(hx:ő[i]? = af)
  (g:∀h' e,aI.ExtBut it Ê h'->Ð9->E ŝ { s with Õ:=h' }):ar Ô A Öo Q E s:=by
 obtain o|c|hc|d:=id b;obtain ol|h|_|nl|j:=ht;unfold Çl;refine ah (Ìw (name:=Ìx) b.typeIs Ìz
  (cq Ìz b.typeIs Öp ?_ Öq))
 rw[uP];refine ah (bg c d (x:=.ref t) rfl ?_);rw[81];refine ah (bg c d (x:=.int i 0) rfl ?_);rw[tb];refine ah (bi h j ?_);simp only[ÉJ,hx];refine ah (Ãg (ah (ÉK c d Ö ?_)));show ar _ _ (newExc #[ir,"StopIteration"] [] >>= _) _ _ _;refine ah ?_;simp only[newExc,newTuple];refine ah (bz ?_ Ña);refine ah (m:=firstArgMember _ _) (wpAny_of_eq (a:=Ài) (by first|rfl|(simp only[firstArgMember];rfl)) ?_);refine bz ?_ Ña;simp only[raiseNew];refine ah (wpAny_handled ?_);first|rw[show A.in1.handled=af from f]|rw[f]
 refine ah (av (wpAny_throw ?_));exact g _ _ (((Ör ..).extBut.push _).push _) (_,Qt _ rfl,rfl)
theorem LG{i:ae}{k:Nat}{us:æ}{Q:ð}(f:Á4):∀ {S:Src},S.at Ê i k->Äq Ê us->S.many us<=k ->
  (∀h' e,aI.ExtBut i Ê h'->Ð9->E ŝ { s with Õ:=h' })->ar Ô A Öt Q E s
 | .l a,b,g,d,c=>wpAny_nextOf_list_end f b g #[fd,Qas,QW,d] c
 | .t a,b,g,d,c=>Zgp f b g #[fd,Qas,QW,d] c
 | .s z,⟨tk,b⟩,g,d,c=>by
  have h:Á9[k]? = af:=Qba d;by_cases j:Ð8 (·<128)=true
  ·have e:Öu:=by unfold bW;rw[Æ j]
   rw[e]at b;exact wpAny_nextOf_ascii_end f b h c
  ·have e:bW z = "str_iterator":=by unfold bW;rw[zf,j]
   rw[e]at b;exact wpAny_nextOf_wide_end f b h c
structure Tc (z TI TO i1 i2:ae) (S1 S2:Src):Prop where
 TIz:TI≠z
 TOz:TO≠z
 i1z:i1≠z
 i2z:i2≠z
 TITO:TI≠TO
 TIi1:TI≠i1
 TIi2:TI≠i2
 TOi1:TO≠i1
 TOi2:TO≠i2
 i12:i1≠i2
 s1z:S1.off z
 s1TO:S1.off TO
 s1i1:S1.off i1
 s1i2:S1.off i2
 s2z:S2.off z
 s2TO:S2.off TO
 s2i1:S2.off i1
 s2i2:S2.off i2
theorem Zqy{z TI TO i1 i2:ae}{S1 S2:Src}{k:Nat}{q r:æ}{a b:aa}{Q:ÌA}(D:ÌB)
  (hz:Öv) (Z:Öw) (jl:ρ Ê TO a b)
  (h1:S1.at Ê i1 k) (h2:S2.at Ê i2 k) (r1:S1.raw Ê q) (r2:S2.raw Ê r) (m1:k<S1.many q) (m2:k<S2.many r)
  (hQ:∀h' tk x y,S1.fit q k x->S2.fit r k y->ÂJ h' z TI TO (Ŭ Î)->ρ h' TO x y->S1.at h' i1 (k+1)->S2.at h' i2 (k+1)->ρ h' Î x y->h'.objs.size=Î+1 ->
   (∀c o,c≠z->c≠TO->c≠i1->c≠i2->é c=U o->ý c=U o)->Q (U Åo) { s with Õ:=h',ï:=tk }) :
  ar Ô A (Ãh (.ref z)) Q E s:=by
 have O:Öx:=(_,hz,rfl);unfold Ãh;refine ah (Ñb (Ìw (name:=Ìx) O ÌC (cq ÌC O Öy ?_ (Öz _))));rw[aO];refine ah (bg hz rfl (x:=.ref TI) rfl (ah (bi Z rfl ?_)));rw[74];refine ah (Ãg (ah (bg hz rfl (x:=.ref TO) rfl (ah (bU hz Ö λP B f=>?_)))));replace B:ÂJ P z TI TO .ellipsis:=B;rw[67];refine ah (Rk (S:=S1) (us:=q) (k:=k) #[hq,Çm,h1] (S1.raw_keep #[eX,c,n,Çm] D.s1z r1) m1 λC AM x fx uO jF=>av ?_);have h:#[y0,i1,P,C]:=jF;have R:ρ C TO a b:=ÉM _ _ D.TOi1 (Çm _ _ D.TOz jl);refine ah (bi R rfl (ah (Ñc R λG H jG=>ah ÌD)));replace H:ρ G TO x b:=H;have i:#[y0,TO,C,G]:=jG;rw[dF];refine ah (Rk (S:=S2) (us:=r) (k:=k)
  (ÌE (λo e=>Á8 _ o Ñd (ÉM _ o D.i12.symm (Çm _ o D.i2z e))) h2)
  (Çn #[eX,c,n,Á8] D.s2TO (Çn #[eX,c,n,ÉM] D.s2i1 (Çn #[eX,c,n,Çm] D.s2z r2))) m2 λI AN y fy AO oC=>av ?_)
 have j:#[y0,i2,G,I]:=oC;have T:ρ I TO x b:=Âa _ _ D.TOi2 H;refine ah (bi T rfl (ah (Ñc T λd t oE=>ah (dC (av (av ?_))))));replace t:ρ d TO x y:=t;have l:#[y0,TO,I,d]:=oE;refine ah (bi t rfl (ah (Ñe ?_)));have m:Är=Î:=by rw[l.1,j.1,i.1,h.1,f.1]
 have V:#[sT,d]:=Ço _ _ Ñf (Âa _ _ D.i2z.symm (Á8 _ _ Ñf (ÉM _ _ Ñg B)));have AQ:∀c o,c≠z->c≠TO->c≠i1->c≠i2->é c=U o->d.get? c=U o:=λc o g u J K e =>
  Ço _ _ u (Âa _ _ K (Á8 _ _ u (ÉM _ _ J (Çm _ _ g e))))
 have AS:S1.at d i1 (k+1):=S1.at_keep (λo e=>Ço _ o D.TOi1.symm (Âa _ o D.i12 (Á8 _ o D.TOi1.symm e))) uO;have AT:S2.at d i2 (k+1):=ÌE (λo e=>Ço _ o Ñd e) AO;have W:z<Är:=Qq V;show ar _ _ (ÖA (.ref z) (.ref Är) >>= _) _ _ _;refine ah ?_;unfold ÖA;have AU:ÂJ (d.push { cls:=.type "tuple",Ó:=.seq #[x,y] }) z TI TO .ellipsis:=Qc _ V;refine ah (bU AU Ö λD8 L M=>?_);replace L:ÂJ D8 z TI TO (Ŭ Är):=L;refine bU L Ö λp v N=>?_;replace v:ÂJ p z TI TO (Ŭ Är):=v;have up:∀c o,c≠z->d.get? c=U o->p.get? c=U o:=λc o g e=>ÌF _ _ g (M.extBut _ _ g (Qc _ e));have X:ρ p Är x y:=ÌF _ _ (QX W) (M.extBut _ _ (QX W) ÉN);have Y:p.objs.size=Är+1:=by rw[N.1,M.1,Q1]
 rw[m]at v X Y;refine av (_,rfl,av ?_);show Q (U (.ref Är)) _;rw[m];exact hQ p AN x y fx fy v (up _ _ D.TOz t) #[hq,up,AS] (ÌE (λo e=>up _ o D.i2z e) AT) X Y λc o g u J K e=>up c o g (AQ c o g u J K e)
theorem Zrm{z TI TO i1 i2:ae}{S1 S2:Src}{k:Nat}{g m:æ}{a b:aa}{Q:ÌA}(G:Á4)(D:ÌB)
  (hz:Öv) (P:Öw) (R:ρ Ê TO a b)
  (h1:S1.at Ê i1 k) (h2:S2.at Ê i2 k) (H:S1.raw Ê g) (V:S2.raw Ê m) (W:S1.many g<=k\/S2.many m<=k)
  (X:∀h' tk,ÖB->Q af { s with Õ:=h',ï:=tk }) :
  ar Ô A (Ãh (.ref z)) Q E s:=by
 have I:Öx:=(_,hz,rfl);unfold Ãh;have done:∀ (h':aI) (tk:Nat) (e:ae),ÖB->Ð9 ->
   ar Ô A (do if (<- Ñh ŝ #[ir,"StopIteration"]) then pure af else throw ŝ:Sem (Ã aa)) Q E { s with Õ:=h',ï:=tk }:=λh' tk e Y ⟨o,Z,hc⟩=>
  ah (ÖC (T := "StopIteration") (b:=true) (o,Z,hc) isSubtype_stop (av (X h' tk Y)))
 refine ah (Ñb (Ìw (name:=Ìx) I ÌC (cq ÌC I Öy ?_ (Öz _))));rw[aO];refine ah (bg hz rfl (x:=.ref TI) rfl (ah (bi P rfl ?_)));rw[74];refine ah (Ãg (ah (bg hz rfl (x:=.ref TO) rfl (ah (bU hz Ö λJ p d=>?_)))));replace p:ÂJ J z TI TO .ellipsis:=p;rw[67];by_cases m1:k<S1.many g
 ·have m2:S2.many m<=k:=by rcases W with z'|z';lia;exact z'
  refine ah (Rk (S:=S1) (us:=g) (k:=k) #[hq,Äs,h1] ÖD m1 λh AM x fx uO q=>av ?_);have i:#[y0,i1,J,h]:=q;have K:ρ h TO a b:=Á8 _ _ D.TOi1 (Äs _ _ D.TOz R);refine ah (bi K rfl (ah (Ñc K λu kX r=>ah ÌD)));have t:#[y0,TO,h,u]:=r;rw[dF];refine ah (LG (S:=S2) (us:=m) (k:=k) G
   (ÌE (λo e=>ÌG _ o Ñd (Á8 _ o D.i12.symm (Äs _ o D.i2z e))) h2)
   (Çn #[eX,c,n,ÌG] D.s2TO (Çn #[eX,c,n,Á8] D.s2i1 (Çn #[eX,c,n,Äs] D.s2z V))) m2 λip e L v=>?_)
  rw[g9,y,f,j,v];have M:#[sT,ip]:=L _ _ D.i2z.symm (ÌG _ _ Ñf (Á8 _ _ Ñg p));have B:e≠z:=λx=>by subst x;rw[fQ,M,f,f];simp at j
  exact bU M Ö λdE _ N=>done dE _ e (λc o l c2 C c4 x=>ÌF _ _ l (L _ _ c4 (ÌG _ _ c2 (Á8 _ _ C (Äs _ _ l x))))) (y,ÌF _ _ B f,j)
 ·refine ah (LG (S:=S1) (us:=g) (k:=k) G #[hq,Äs,h1] ÖD Á λh e q v=>?_);rw[g9,y,f,j,v];have O:#[sT,h]:=q _ _ Ñg p;have B:e≠z:=λx=>by subst x;rw[fQ,O,f,f];simp at j
  exact bU O Ö λu _ r=>done u _ e (λc o l _ C _ x=>r.extBut _ _ l (q _ _ C (Äs _ _ l x))) (y,r.extBut _ _ B f,j)
universe E
def Src.iter(tk:Tok):Src->aN
 | .l a=>{ cls:=.type "list_iterator",Ó:=.fields #[.ref a,.int 0 0] }
 | .t a=>{ cls:=.type "tuple_iterator",Ó:=.fields #[.ref a,.int 0 0] }
 | .s z=>{ cls:=.type (bW z),Ó:=.fields #[.str z tk,.int 0 0] }
def Src.value(tk:Tok):Src->aa
 | .l a=>.ref a
 | .t a=>.ref a
 | .s z=>.str z tk
theorem Ñi{h:aI}{i:ae}{tk:Tok}:∀ {S:Src},ß i=U (S.iter tk)->S.at h i 0
 | .l _,e=>(_,e,rfl,rfl)
 | .t _,e=>(_,e,rfl,rfl)
 | .s _,e=>(tk,_,e,rfl,rfl)
theorem Ñj{ñ:ay}{w:aF}{A:aD}{E:ð}{s:aj}{tk:Tok}{us:æ}{Q:ð}:∀ {S:Src},Äq Ê us ->
  Q Åo { s with Õ:=Àl (S.iter tk) }->ar Ô A (Ån (S.value tk)) Q E s
 | .l _,r,q=>cc r q
 | .t _,r,q=>ÔT r q
 | .s _,_,q=>wpAny_pyIter_strU q
theorem Src.raw_push{h:aI}{ob:aN}:∀ {S:Src} {us:À aa},Äq h us->Äq (Çp ob) us
 | .l _,_,⟨o,e,d⟩=>(o,Qc _ e,d)
 | .t _,_,⟨o,e,d⟩=>(o,Qc _ e,d)
 | .s _,_,_=>trivial
abbrev zH1(h:aI)(S1:Src)(a:Tok):aI:=Çp (S1.iter a)
abbrev zH2(h:aI)(S1 S2:Src)(a b:Tok):aI:=(zH1 h S1 a).push (S2.iter b)
abbrev zH3(h:aI)(S1 S2:Src)(a b:Tok):aI:=(zH2 h S1 S2 a b).push { cls:=.type "tuple",Ó:=.seq #[.ref ĺ,.ref (zH1 h S1 a).objs.size] }
abbrev zH4(h:aI)(S1 S2:Src)(a b:Tok):aI:=(zH3 h S1 S2 a b).push { cls:=.type "tuple",Ó:=.seq #[.none,.none] }
abbrev zH5(h:aI)(S1 S2:Src)(a b:Tok):aI:=(zH4 h S1 S2 a b).push { cls:=.type "zip",Ó:=.fields #[.none,.bool false,.bool false,.ref (zH2 h S1 S2 a b).objs.size,.ref (zH3 h S1 S2 a b).objs.size] }
theorem Zsh(S1 S2:Src)(a e:Tok)(f i:æ) :
  Meets (aT.«zip.__new__» ([.type "zip",ÌH a,ÌI e],[])) (λ_ R s=>S1.raw Ê f/\S2.raw Ê i /\
   R (.ok (.ret (.ref (zH4 Ê S1 S2 a e).objs.size))) { s with Õ:=zH5 Ê S1 S2 a e }) :=
 .of_wp λb w A R s h=>by
  rw[gJ,c,tk,s];rw[g9,l,m,h,h];have jp:=sub_zip;have j:∀ {A:aD} {E:aa->aj->Prop} {Q:aa->aj->Prop},Q (.ref Ät) Ñk->ar (ax b w) A (Ån (ÌH a)) Q E #[f5,c,tk]:=
   λ{A E Q} q=>Ñj (s:=#[f5,c,tk]) (us:=f) l q
  have k:∀ {A:aD} {E:aa->aj->Prop} {Q:aa->aj->Prop},Q (.ref (zH1 c S1 a).objs.size) (zH2 c S1 S2 a e,g,d,tk,os)->ar (ax b w) A (Ån (ÌI e)) Q E Ñk:=
   λ{A E Q} q=>Ñj (s:=Ñk) (us:=i) (S2.raw_push m) q
  generalize ÌH a=v1 at j ⊢;generalize ÌI e=v2 at k ⊢
  wp_walk using j,k
  exact(_,rfl,h)
section
variable {ñ:ay} {w:aF} {A:aD} {E:aa->aj->Prop} {s:aj}
theorem ZqE{S1 S2:Src}{a b:Tok}{j k:æ}{Q:ð}(q:S1.raw Ê j)(r:S2.raw Ê k)
  (h:∀h',ÂJ h' #[rv,4] #[rv,2] #[rv,3] .none->ρ h' #[rv,2] Åo ÌJ ->
   ρ h' #[rv,3] .none .none->S1.at h' Î 0->S2.at h' š 0->h'.objs.size=Î+5 ->
   (∀c o,é c=U o->ý c=U o)->Q (.ref #[rv,4]) { s with Õ:=h' }) :
  ar Ô A (Ĵ #[ir,"zip"] [ÌH a,ÌI b]) Q E s:=by
 refine callType_new F.called_zip Ë (F.typeCall_zip_2 _ _) (F.newCall_zip_2 _ _) (λobj=>F.args_object_init_3 obj _ _) F.entry_zip_new (Zsh S1 S2 a b j k) (q,r,?_);have d:(zH1 Ê S1 a).objs.size=Î+1:=Q1 ..;have e:#[hb,zH2,2]:=by rw[Q1,d]
 have f:#[hb,zH3,3]:=by rw[Q1,e]
 have g:#[hb,zH4,4]:=by rw[Q1,f]
 have t:#[cG].objs.size=Î+5:=by rw[Q1,g]
 have l:∀ (tk:Tok) (S:Src),(S.iter tk).isFreed=false:=λtk S=>by cases S<;>rfl
 have i:#[g5,zH4]:=Qt _ rfl;have m:#[g5,zH3]:=Qc _ ÉN;have n:#[g5,zH2]:=Qc _ (Qc _ ÉN);have p:#[cG].get? (zH1 Ê S1 a).objs.size=U (S2.iter b):=Qc _ ÖE;have u:#[cG].get? Î=U (S1.iter a):=Qc _ (Qc _ ÖE);show _/\_;rw[e,f,g]at i;rw[d,e]at n;rw[f]at m;rw[d]at p;rw[g];exact⟨(_,i,rfl),h _ i n m (Ñi u) (Ñi p) t λc o x =>
  Qc _ (Qc _ (Qc _ (Qc _ (Qc _ x))))⟩
universe E
def Itz(K:Ä)(S1 S2:Src):It :=
 ⟨λi H=>X2 λa b=>ÉO K H a/\ÉP K H b/\i<ļ/\i<Ĥ,
  λi H v c=>∃p,H p=af/\v=.ref p/\∀a b,ÉO K H a->ÉP K H b->∀x y,a[i]? = U x->b[i]? = U y->c=upd H p (.tup [x,y]),
  λi H=>X2 λa b=>ÉO K H a/\ÉP K H b/\(ļ<=i\/Ĥ<=i)⟩
section
variable {X:Cx} {ai:À (ae×aN)} {σ:St} {H:Hp} {s:aj}
theorem Inv.src(I:ä):∀ {S:Src} {xs:À V},S.its X.K H xs->∃us,Äq Ê us/\S.many us=ã/\∀k u x,S.fit us k u->xs[k]? = U x->ZE x u
 | .l a,xs,h=>by obtain its|e|pl|_:=ÁZ h;refine(its,pl.isList,e.length.symm,λk u x f b=>?_);rw[jv]
 | .t a,xs,h=>by obtain its|e|pl|_:=ÃY h;refine(its,pl,e.length.symm,λk u x f b=>?_);rw[jv]
 | .s z,xs,h=>by
  refine([],trivial,?_,λk u x f b=>?_)
  ·rw[show xs=_ from h,Qa];simp[Src.many]
  ·obtain c|tk|d|i:=f;subst i;rw[show xs=_ from h,Qp]at b;have j:Á5[k]? = U c:=by simpa using d
   rw[fQ,j,b,b];exact(tk,rfl)
theorem Inv.src_off(I:ä){b:ae}(hb:Xx X ai H b):∀ {S:Src} {xs:À V},S.its X.K H xs->S.off b
 | .l a,xs,h=>by
  rcases h with(h|⟨ob,h⟩)|⟨o,its,n,hk,_⟩
  ·exact Ze h hb.1
  ·exact Ze h hb.1
  ·rw[u9];rcases hb.2.2.2.1 with z|z
   ·exact ÆD a o e z
   ·exact ÐZ
 | .t a,xs,h=>by
  rcases h with(h|⟨ob,h⟩)|⟨o,its,n,hk,_⟩
  ·exact Ze h hb.1
  ·exact Ze h hb.1
  ·rw[u9];rcases hb.2.2.2.1 with z|z
   ·exact ÆD a o e z
   ·exact ÐZ
 | .s z,xs,h=>trivial
theorem Inv.zipped{fp:Š}{h':aI}{tk:Nat}{x y:V}{u v:aa}(I:ä)(g:#[rV,ai,H])(k:ZE x u)(l:ZE y v)
  (hp:ρ h' Î u v) (hfh:∀b∈fp,∃o,ý b=U o) (hk:∀c o,c ∉ fp->é c=U o->ý c=U o) :
  Inv X ai σ (upd H Î (.tup [x,y])) { s with Õ:=h',ï:=tk }:=by
 have p:H Î=af:=És;have ne:∀b a,é b=U a->b≠Î:=λb a e=>Qz (Qq e);have h:∀b u,H b=U u->b≠Î:=λb u e=>Ze e p;have i:∀b u,H b=U u->b ∉ fp:=λb u e d=>by rw[(g b d).1]at e;cases e
 refine ÈP (g':=Åg) (d':=ÈQ) (ch:=fp) (λb d=>((g b d).2.2.2.1,(g b d).2.1,(g b d).2.2.2.2.1,(g b d).2.2.2.2.2))
  (λb a _ _ f e _=>hk b a f e) (λb a _ _ f e _=>(Ëy,hk b a f e)) (λb a _ e n=>by rw[Zc (ne b a e)];exact n) (λb a f e=>(a,hk b a f e))
  (λb t e=>by rw[Zc (h b _ e)];exact e) (λb a u e=>by rw[Zc (h b _ e)];exact e) (λb ps e=>(#[],by rw[Zc (h b _ e),e];simp)) (λm w=>?_) #[iz,b,j,e] Ζ
 ·obtain a|A|B|C|r:=w;exact(a,A,B,hk _ a #[y6,g] C,r)
 ·by_cases d:b=Î
  ·subst d;rw[rS,Zb,e];exact(by show 2<=aq;decide,[u,v],.cons k (.cons l .nil),(_,hp,rfl,_,rfl))
  ·rw[Zc d]at e;refine(ê b j e).stay (λc D f q=>hk c D ?_ q) (λc q=>by rw[Zc (h c _ q)];exact q) λc t q=>by rw[Zc (h c _ q)];exact q
   rcases f with z|z
   ·rw[z];exact i b j e
   ·exact i c _ z
universe E
theorem Zpp{P:ay}{w:aF}{K:Ä}{fR:ı}{x1:Nat}{eS:Pos}{S1 S2:Src}{z TI TO i1 i2:ae}
  (Q:TI≠z) (Y:TO≠z) (Z:i1≠z) (d4:i2≠z) (d5:TI≠TO) (d6:TI≠i1) (d7:TI≠i2) (d8:TO≠i1) (d9:TO≠i2) (pU:i1≠i2) :
  WQ P w K (.Tuple fR x1 eS) (Itz K S1 S2) ÉQ z
   (λi h=>ÂJ h z TI TO .none/\ρ h TI (.ref i1) (.ref i2)/\(X2 λa b=>ρ h TO a b)/\S1.at h i1 i/\S2.at h i2 i) where
 mem:=by simp
 obj:=λi h st b A=>by
  obtain J|L|(a|b'|M)|N|O:=st;have nf:∀ {o:aN} {B:Ā aa},ũ=.fields B->∀v,ũ≠.cell v:=λd v e=>by rw[d]at e;cases e
  rw[cR];rcases A with rfl|rfl|rfl|rfl|rfl
  ·exact(_,J,nf rfl)
  ·rw[fn,L,v,e]
  ·rw[fn,M,v,e]
  ·obtain o|B|e|d:=Ìv N;exact(o,e,nf d)
  ·obtain o|B|e|d:=Ìv O;exact(o,e,nf d)
 ą:=λi h R st k=>by obtain J|L|(a|b'|M)|N|O:=st;exact(k z Ö _ J,k TI Ö _ L,(a,b',k TO Ö _ M),ÉI (λo e=>k i1 Ö o e) N,ÉI (λo e=>k i2 Ö o e) O)
 item:=by
  rw[db];obtain xs|ys|C|F|l1|l2:=hg;rw[i6];have D:ÌB:=⟨Q,Y,Z,d4,d5,d6,d7,d8,d9,pU,Àt T C,Àt ÌK C,Àt ÌL C,Àt ÌM C,
   Àt T F,Àt ÌK F,Àt ÌL F,Àt ÌM F⟩
  refine Zqy D J L M N O r1 r2 Á Á λR tk x y fx fy a1 a2 a3 a4 a5 a6 a7=>?_;have rx:=f1 i x _ fx (Qb l1);have ry:=f2 i y _ fy (Qb l2);refine(_,rfl,wpAny_letOwnedTupleGo_zip a1 λoG zt pV=>?_);have j:#[y0,z,R,oG]:=pV;have zu:ρ R TI (.ref i1) (.ref i2):=a7 _ _ Q d5 d6 d7 L;have lt:Ñl:=λe=>QX (Qq e);have hzs:Î≠z:=lt J;have I2:Inv X ai σ (upd H Î (.tup [xs[i],ys[i]])) { s with Õ:=oG,ï:=tk }:=by
   refine I.zipped (fp:=ÉQ) g rx ry (Âa _ _ hzs a5) (λb A=>?_) λc o f e=>?_
   ·rw[cR];rcases A with rfl|rfl|rfl|rfl|rfl
    ·exact(_,zt)
    ·exact#[zh,_,Q,zu]
    ·exact#[zh,_,Y,a2]
    ·rw[iB,a3];exact#[zh,o,Z,e]
    ·rw[iB,a4];exact#[zh,o,d4,e]
   ·simp only[Áp,ÂK,ÂL,ÉR]at f;exact Âa _ _ f.1 (a7 c o f.1 f.2.2.1 f.2.2.2.1 f.2.2.2.2 e)
  refine(.ref Î,_,I2,rfl,(Î,És,rfl,λxs' jD w1 w2 x' y' e1 e2=>?_),(zt,Âa _ _ Q zu,(_,_,Âa _ _ Y a2),ÉI (λo e=>Âa _ o Z e) a3,ÉI (λo e=>Âa _ o d4 e) a4),λb A=>?_)
  ·have same:∀ {S:Src} {us B:À V},S.its X.K H us->S.its X.K H B->us=B:=λ{S us B} p q=>by
    cases S with
    | l a=>exact ÏW p q
    | t a=>exact I.tuple_inj p q
    | s z=>rw[show us=_ from p,show B=_ from q]
   have e3:=same w1 C;have e4:=same w2 F;subst e3;subst e4;rw[Qb l1]at e1;rw[Qb l2]at e2;cases e1;cases e2;rfl
  ·rw[Zc (λe=>by
    obtain⟨o,e1,_⟩:∃o,é b=U o/\Àx:=by
     rw[cR];rcases A with rfl|rfl|rfl|rfl|rfl
     ·exact(_,J,trivial)
     ·exact(_,L,trivial)
     ·exact(_,M,trivial)
     ·rw[iB,N];exact(o,e,trivial)
     ·rw[iB,O];exact(o,e,trivial)
    exact lt e1 ÃU)]
   exact(g b A).1
 done:=by
  rw[db];obtain xs|ys|C|F|l:=hg;rw[i6];have D:ÌB:=⟨Q,Y,Z,d4,d5,d6,d7,d8,d9,pU,Àt T C,Àt ÌK C,Àt ÌL C,Àt ÌM C,
   Àt T F,Àt ÌK F,Àt ÌL F,Àt ÌM F⟩
  refine Zrm (À7 f) D J L M N O r1 r2 Á λR tk hk=>(rfl,?_);have W:∀c o,c ∉ ÉQ->é c=U o->R.get? c=U o:=λc o f e=>by simp only[Áp,ÂK,ÂL,ÉR]at f;exact hk c o f.1 f.2.2.1 f.2.2.2.1 f.2.2.2.2 e
  have uU:∀b u,H b=U u->b ∉ ÉQ:=λb u e A=>by rw[(g b A).1]at e;cases e
  refine ÈP (g':=Åg) (d':=ÈQ) (ch:=ÉQ) (λb A=>((g b A).2.2.2.1,(g b A).2.1,(g b A).2.2.2.2.1,(g b A).2.2.2.2.2))
   (λb G _ _ f e _=>W b G f e) (λb G _ _ f e _=>(G.slots,W b G f e)) (λb G _ e n=>n) (λb G f e=>(G,W b G f e))
   (λb xs e=>e) (λb G u e=>e) Ôz (λm hm=>?_) #[iz,b,ub,e] Ζ
  ·obtain G|es|ep|ho|r:=hm;exact(G,es,ep,W _ G #[y6,g] ho,r)
  ·refine(ê b ub e).stay (λc w' f q=>W c w' ?_ q) (λc q=>q) λc xs q=>q;rcases f with z'|z'
   ·rw[z'];exact uU b ub e
   ·exact uU c _ z'
 self:=λ_ _ _ _ _ st h=>ÖF st.1 h
def LF(K:Ä)(b:TA):TI:=λc H R=>b c H λvs a=>X4 λS1 S2 xs ys=>vs=[Src.val S1,Src.val S2]/\ÉO K a xs/\ÉP K a ys/\R (Itz K S1 S2) a
theorem Zu0{X:Cx}{a b:aK}{g:TA}{p pos:Pos}{y:ı}{A:Nat}{B:Pos}(C:Gl X "zip")(hm:Ě "zip" = af)(ha:PA X [a,b] g)
  (D:ÏY:=by rfl) (i:#[fh,b]:=by rfl) :
  PI X (.Tuple y A B) ÖG (LF X.K g):=by
 rw[eS,j,k,R];refine Call_ (VP I C hm boot_zip (Qaf (thn #[f4,j,k] ?_) (by rw[D,i]) #[zj,i]));rintro us c ⟨vs,m,d,f,E⟩;obtain S1|S2|xs|ys|e|F|G|q:=E;subst e;obtain u1|u2|rfl|J|K:=f.two;have o:∀ {S:Src} {u:aa},ZE S.val u->∃tk,u=S.value tk:=λ{S u} r=>by
  cases S with
  | l a=>exact(0,r)
  | t a=>exact(0,r)
  | s z=>obtain tk|e:=r;exact(tk,e)
 obtain t1|rfl:=o J;obtain t2|rfl:=o K;obtain gQ|f|m1|f1:=d.src F;obtain hZ|L|m2|f2:=d.src G;refine ZqE f L λM v N O P Q a3 T=>ÖF v ?_;have V:#[hu,j,k,m,c,M]:=d.kept (t':=Ã0) T;have n:=Ñm;refine⟨_,_,_,_,m,rfl,V,Zpp (S1:=S1) (S2:=S2) (z:=ζ+4) (TI:=ζ+2) (TO:=ζ+3) (i1:=Ñm) (i2:=ζ+1)
  (Qz Çq) (Qz Çq) (Qz (QaD Ë)) (Qz Çq)
  (Qz Çq) (QX (QaD Ë)) (QX Çq) (QX (QaD Ë))
  (QX Çq) (Qz (QaD Ë)),(v,N,(_,_,O),P,Q),λb w=>?_,q⟩
 have x:ζ<=b:=by
  simp only[Áp,ÂK,ÂL]at w;rcases w with rfl|rfl|rfl|rfl|rfl
  ·exact Qa0 _ 4
  ·exact Qa0 _ 2
  ·exact Qa0 _ 3
  ·exact Qg _
  ·exact Qa0 _ 1
 exact d.fpOk x (Éf x)
section
variable {X:Cx} (K:Ä)
theorem ixL(h:X.K=K:=by rfl):IxR X (LZ K):=by subst h;exact Zsy
theorem ixT(h:X.K=K:=by rfl):IxR X (LY K):=by subst h;exact ZtA
theorem slL(h:X.K=K:=by rfl):SlR X (LW K):=by subst h;exact ZsX
def Zu5:À V->Hp->VK->Prop:=λxs H Q=>X2 λp ys=>xs=Θ/\#[hv,K,ys]/\Q (.int Ĭ) H
theorem Yj(h:X.K=K:=by rfl):YZ X Çd (Zu5 K):=by subst h;exact ZjB
theorem W0(h:X.K=K:=by rfl):YZ X Éd (LJ K):=by subst h;exact Zp5
theorem Zvd(h:X.K=K:=by rfl):YZ X Éd (LI K):=by subst h;exact Zoo
def ZvR:À V->Hp->VK->Prop:=λxs H Q=>X2 λ(p:ae) (bs:À Ð)=>xs=Θ/\SqL K H p (bs.map V.bl)/\Q (.bl (ÉH id)) H
theorem LD(hc:ŕ:=by rfl)(h:X.K=K:=by rfl):YZ X #[eM,"all"] (ZvR K):=by subst h;exact Zrd hc
def Zu3:À V->Hp->VK->Prop:=λxs H Q=>X2 λ(p:ae) (ss:À ak)=>xs=Θ/\SqL K H p Ád/\ń<64 /\
  ∀ (l:ae) (a:À ak),H l=af->a.Perm ss->ĝ a=true->Q Ă (upd H l #[ef,Ń])
theorem ZwE(h:X.K=K:=by rfl):YZ X Çj (Zu3 K):=by subst h;exact ZjT
def ZvI:V->À V->Hp->VK->Prop:=λx vs H Q=>X3 λ(sep:ak) (p:ae) (ys:À ak)=>x=.str sep/\vs=Θ/\SqL K H p ÉG/\#[x1].sum+Ĭ*Ìt<=16777216/\Q (.str Öj) H
theorem U3(h:X.K=K:=by rfl):MtR X "str.join" (ZvI K):=by subst h;exact ZsS
theorem iL{b l:aK}{a:TE}(hl:PE X l a)(h:X.K=K:=by rfl):PI X b l (MF K a):=by subst h;exact Zr1 hl
theorem iT{b l:aK}{a:TE}(hl:PE X l a)(h:X.K=K:=by rfl):PI X b l (ME K a):=by subst h;exact ZuB hl
theorem gT{a:ı}{k:Nat}{t:TGs}{n:Nat}{pos:Pos}(h:PGs X a t)(b:X.K=K:=by rfl)(hc:ŕ:=by rfl)
  (c:#[yZ,a].length=n:=by rfl) (d:#[yZ,a].findIdx? õ=af:=by rfl):PG X (.Tuple a k pos) (MG K n t):=by subst b;exact ZuV hc h c d
theorem iZ{a b:aK}{c:TA}{p pos:Pos}{d:ı}{e:Nat}{f:Pos}(hm:Ě "zip" = af)(ha:PA X [a,b] c)(g:Gl X "zip":=by rfl)(h:X.K=K:=by rfl)
  (i:ÏY:=by rfl) (j:#[fh,b]:=by rfl) :
  PI X (.Tuple d e f) ÖG (LF K c):=by subst h;exact Zu0 g hm ha i j
universe E
structure Df (P:ay) (w:aF) (K:Ä) (mg:þ) (Â:aI) (k:Nat) (x:ak) (ps:Ñ) (sp:Sp):Prop where
 ex:X2 λf fd=>YY P w K mg Â CX0 k f fd ps sp/\mg x=U č/\À9 K č=true/\Yz K fd ps []
section
variable {P:ay} {w:aF} {K:Ä} {mg:ak->Ã aa} {Â:aI}
structure Top (K:Ä) (mg:þ) (x:ak) (st:aM) (ps:Ñ):Prop where
 ex:X2 λf fd=>Fun K x x st f fd/\mg x=U č/\Yz K fd ps []
theorem Top.df{x:ak}{st:aM}{N ps:Ñ}{k:Nat}{sp:Sp}(T:Top K mg x st ps)(S:Äl)(len:Ãn)
  (c:∀ (a:aa) (f:ae) (A:aD) (Û:À Env) (s:aj) (H:Hp) (vs:À V) (Q:VK) (E:XK),Z8 k #[fu,x]->sp vs H Q E ->
   ∃t,PSs (XJ CX0 P w K mg Â N x (Zh st) f a A Û s H E).nox ÂF t/\t { nx:=λ_ d=>Q .non d,rt:=Q } ÁB H):Df P w K mg Â (k+1) x ps sp:=by
 rw[st,e];exact(f,e,F.ok S len #[eG,g,c],m,F.kp,b)
universe E
section
variable {X:Cx} {k j:Nat} {x:ak} {ps:À ak} {sp:Sp} {e:aK} {es:À aK} {t:TA} {p pos:Pos}
theorem ZA(F:#[im,Df])(hr:Âb)(ha:Àp)(a:k<=j:=by decide)(c:ŋ:=by rfl)(d:Ī:=by decide)
  (g:θ:=by rfl) (h:Áz:=by rfl) :
  PE X Äf (Th sp [] E0 t):=by
 rw[iA,m,i,b];exact Zrq F ÌN c m i b .nil VE ha d g h
theorem Zuy(F:#[im,Df])(hr:Âb)(a:k<=j:=by decide)(c:ŋ:=by rfl)(d:Ī:=by decide) :
  PE X Ë5 (Th sp [] E0 VI):=by
 rw[iA,m,e,b];exact ZoO F ÌN c m e b .nil VE d
theorem XI{T:Ŋ}(hm:Ě x=af)(a:cW x=U (.type T))(b:ŋ:=by rfl)(c:ÈT:=by decide)(hd:Ī:=by decide):PE X ÀS (tC (.ty T)) :=
 Zsm b hm a rfl c hd
universe E
theorem LC{lo:Int}{n k:Nat}{D:ae}{a:St}{c:Hp}{g:TG}{d:TE}{Q:VK}(Pv:#[gD,St])(h0:#[h6,c])
  (j:∀i ys a H,i<n->Pv i ys a H->g (.int (lo+i)) a H λf l=>d f l λy h=>h D=U ÂE/\Ĭ<aq/\Pv (i+1) (ys++[y]) f #[g0,h])
  (hd:∀ys a H,Pv n ys a H->Q Ι H):VC ÔS D k a c g VD d Q:=by
 refine(λi m ys a H=>m=n-i/\i<=n/\Pv i ys a H,(n,by simp,Qs _,h0),?_);rintro i m ys a H ⟨rfl,hi,p⟩;by_cases b:i<n
 ·refine .inr (b,Pv (i+1),λjD aS o q=>(n-(i+1),by lia,rfl,b,q),λx o y=>?_);rw[ep,e,y,y];subst e y;rw[qI];exact j i ys a _ b p
 ·have e:i=n:=by lia
  subst e;exact .inl (Qg _,hd ys a H p)
theorem Tb{K:Ä}{S1 S2:Src}{xs ys:Ĕ}{k:Nat}{D:ae}{a:St}{h:Hp}{g:TG}{j:TE}{Q:VK}(Pv:#[gD,St])(h0:#[h6,h])
  (hl:∀i zs a H,Pv i zs a H->ÉO K H xs/\ÉP K H ys)
  (o:∀i zs a H x y p,xs[i]? = U x->ys[i]? = U y->Pv i zs a H->H p=af->g Ż a (upd H p (.tup [x,y])) λl q=>j l q λz n=>n D=U π/\zs.length<aq/\Pv (i+1) (zs++[z]) l (upd n D (.lst (zs++[z]))))
  (hd:∀zs a H,Pv (min ã Ĭ) zs a H->Q Ι H):VC (Itz K S1 S2) D k a h g VD j Q:=by
 refine(λi m zs a H=>m=min ã Ĭ-i/\i<=min ã Ĭ/\Pv i zs a H,(min ã Ĭ,by simp,Qs _,h0),?_);rintro i m zs a H ⟨rfl,hi,p⟩;obtain b|c:=hl i zs a H p;by_cases s:i<min ã Ĭ
 ·have d:i<ã:=by lia
  have f:i<Ĭ:=by lia
  refine .inr ((xs,ys,b,c,d,f),Pv (i+1),λjD aS t u=>(min ã Ĭ-(i+1),by lia,rfl,s,u),λx t y=>?_);obtain r|v|rfl|e:=y;have w:=e xs ys b c _ _ (Qb d) (Qb f);subst w;rw[qI];exact o i zs a H _ _ r (Qb d) (Qb f) p v
 ·have e:i=min ã Ĭ:=by lia
  refine .inl ((xs,ys,b,c,by lia),hd zs a H (e ▸ p))
section
variable {X:Cx} {N N':À ak} {o c:bj} {x:ak} {pos:Pos} {C:ae} {s:aj} {H:Hp} {fp:À ae}
theorem Rj(S:Àr)(a:Às)(hl:Ñn):(ÉS).env.scope.names.lookup x=U .local:=by have e:=#[s8,a,C];rw[hl]at e;exact e
theorem WC(S:Àr)(a:Às)(hl:Ţ x=U .globalImplicit):Gl ÉS x:=by have e:=#[s8,a,C];rw[hl]at e;exact e
theorem ZpD(S:Àr)(b:Às)(hl:ÐX):Vis (ÉS).env.scope x:=by
 have e:=#[s8,b,C];rw[hl]at e;have a:(ÉS).env.scope.names.lookup x=if Âx x=U .cell then U Ìo else U Äm:=e
 by_cases z:Âx x=U .cell
 ·rw[sC,z,a];exact .inr (.inl a)
 ·rw[hy,z,a];exact .inr (.inr a)
theorem cv(i:Nat)(S:Àr)(a:Às)(hl:ÐX)(b:N'[i]? = U x:=by rfl)(hd:Ī:=by decide)(d:ËJ:=by decide) :
  PE ÉS ÀS (Ts i):=RJ b (ZpD S a hl) hd d
theorem cw(i:Nat)(S:Àr)(a:Às)(hl:Ñn)(b:N'[i]? = U x:=by rfl)(hd:Ī:=by decide)(d:ËJ:=by decide) :
  PE ÉS ÀS (Ts i):=RJ b (.inl (Rj S a hl)) hd d
theorem cg(i:Nat)(S:Àr)(a:Às)(hl:Ñn)(b:N'[i]? = U x:=by rfl):PG ÉS ÀS (Tp i) :=
 Zu S.nd b (.inl (Rj S a hl)) (.inr (Rj S a hl))
universe E
mutual
inductive DV (K:Ä) (H:Hp):V->aE->Prop where
 | non:DV K H .non .none
 | bl (b:Ð):DV K H (.bl b) (.bool b)
 | int (i:Int):DV K H (.int i) (.int i)
 | str (s:ak):DV K H (.str s) (.str s)
 | lst {a:ae} {xs:À V} {ds:À aE}:SqL K H a xs->DVs K H xs ds->DV K H (.ref a) (.list ds)
 | tup {a:ae} {xs:À V} {ds:À aE}:SqT K H a xs->DVs K H xs ds->DV K H (.ref a) (.tuple ds)
inductive DVs (K:Ä) (H:Hp):À V->À aE->Prop where
 | nil:DVs K H [] []
 | Í {x:V} {d:aE} {xs:À V} {ds:À aE}:DV K H x d->DVs K H xs ds->DVs K H (x::xs) (d::ds)
end
section
variable {X:Cx} {ai:À (ae×aN)} {σ:St} {H:Hp} {s:aj}
mutual
theorem Inv.reads(I:ä):∀ {x:V} {d:aE} {u:aa},DV X.K H x d->ZE x u->∃a,Reads Ê u d a
 | _,_,_,.non,r=>by cases r;exact(_,.none)
 | _,_,_,.bl b,r=>by cases r;exact(_,.bool b)
 | _,_,_,.int i,r=>by obtain t|rfl:=r;exact(_,.int i t)
 | _,_,_,.str z,r=>by obtain t|rfl:=r;exact(_,.str z t)
 | _,_,_,.lst h c,r=>by cases r;obtain its|f|(o|n|e|g|_|j)|_:=ÁZ h;rw[xl];exact(_,reads_list_at e g j #[d8,q])
 | _,_,_,.tup h c,r=>by cases r;obtain its|f|(o|e|g|n|j)|_:=ÃY h;rw[xl];exact(_,reads_tuple_at e g j #[d8,q])
theorem Ño(I:ä):∀ {xs:À V} {ds:À aE} {us:À aa},DVs X.K H xs ds->ZG xs us->∃a,ReadsAll Ê us ds a
 | _,_,_,.nil,r=>by cases r;exact(_,.nil)
 | _,_,_,.cons h b,r=>by
  cases r with
  | Í c d=>obtain a|e:=Inv.reads I h c;obtain bs|f:=Ño I b d;exact(_,.cons e f)
end
def Ta(K:Ä)(a:Ð):R2:=λx y H Q=>X2 λd e=>DV K H x d/\DV K H y e/\ÂM d=true/\ÂM e=true/\Q (.bl (if a then !aE.eqv d e else ÂN d e)) H
theorem ZtS(hu:Ñp):OpR X (aR .Eq) (Ta X.K false):=by intro ai s σ H x y v u Q I a b h;obtain d|e|c|f|g|i|q:=h;obtain as|j:=ÉT c a;obtain bs|k:=ÉT f b;exact eq_dataH j k g i hu #[y2,_,q]
theorem Zun(hu:Ñp):OpR X (aR .NotEq) (Ta X.K true):=by intro ai s σ H x y v u Q I a b h;obtain d|e|c|f|g|i|q:=h;obtain as|j:=ÉT c a;obtain bs|k:=ÉT f b;exact ne_dataH j k g i hu #[y2,_,q]
universe E
theorem eqD{X:Cx}(K:Ä){k:Nat}(hr:ι)(h:X.K=K:=by rfl):OpR X (aR .Eq) (Ta K false):=by subst h;exact ZtS Ìl
theorem neD{X:Cx}(K:Ä){k:Nat}(hr:ι)(h:X.K=K:=by rfl):OpR X (aR .NotEq) (Ta K true):=by subst h;exact Zun Ìl
mutual
theorem DV.mono{K:Ä}{H c:Hp}(s:ZD H c):∀ {x:V} {d:aE},DV K H x d->DV K c x d
 | _,_,.non=>.non
 | _,_,.bl b=>.bl b
 | _,_,.int i=>.int i
 | _,_,.str z=>.str z
 | _,_,.lst h a=>.lst (s.seq h) (ÌO s a)
 | _,_,.tup h a=>.tup (by
   rcases h with(h|⟨ob,h⟩)|h
   ·exact .inl (.inl (s _ _ h))
   ·exact .inl (.inr (ob,s _ _ h))
   ·exact .inr h) (ÌO s a)
theorem ÌO{K:Ä}{H a:Hp}(s:ZD H a):∀ {xs:À V} {ds:À aE},DVs K H xs ds->DVs K a xs ds
 | _,_,.nil=>.nil
 | _,_,.cons h b=>.cons (DV.mono s h) (ÌO s b)
end
def Ite(K:Ä)(a:ae):It :=
 ⟨λi H=>∃b,SqL K H a b/\i<Ĥ,
  λi H v c=>∃p,H p=af/\v=.ref p/\∀b,SqL K H a b->∀x,b[i]? = U x->c=upd H p (.tup [.int i,x]),
  λi H=>∃b,SqL K H a b/\Ĥ<=i⟩
theorem ZnR{P:ay}{w:aF}{K:Ä}{R:ı}{S:Nat}{T:Pos}{a e it:ae}(G:e≠it) :
  WQ P w K (.Tuple R S T) (Ite K a) [e,it] e (λi h=>(∃l,IsEnum h e it i l)/\ÈZ it a i) where
 mem:=by simp
 obj:=λi h st b d=>by
  obtain (l|f)|o|g|j|V:=st;rw[54];rcases d with rfl|rfl
  ·rw[fn,f,v,z]
  ·exact(o,g,λv z=>by rw[V]at z;cases z)
 ą:=λi h r st k=>by obtain (l|f)|g:=st;exact((l,k e Ö _ f),g.at λo q=>k it Ö o q)
 item:=by
  intro X t hw y j i J s L H E I n st A;rw[dl];obtain u|W|Y:=C.get (Qb B);refine wpAny_pyNext_enum_item f g D.isList (x:=u) #[d8,W] G λr Z a2 a3 a4 a5=>?_;have lt:Ñl:=λq=>QX (Qq q);have tq:Î≠e:=lt f;refine(_,rfl,wpAny_letOwnedTupleGo_enum Z λF N pV=>?_);have m:#[y0,e,r,F]:=pV;have O:F.IsListIter it a (i+1):=a2.extBut ÉU G.symm;have I2:Inv X J L (upd H Î (.tup [.int i,M[i]])) { s with Õ:=F,ï:=Ļ+1 }:=by
   refine I.zipped (fp:=[e,it]) (u:=.int i Ļ) (v:=u) n ÿ Y (ÉU _ _ tq a3) (λb d=>?_) λc o j q=>?_
   ·rw[54];rcases d with rfl|rfl
    ·exact(_,N)
    ·obtain o|q|_:=O;exact(o,q)
   ·simp only[Áp,ÂK,ÂL,ÉR]at j;exact ÉU _ _ j.1 (a5 c o j.1 j.2 q)
  refine(.ref Î,_,I2,rfl,(Î,És,rfl,λxs' w1 x' Q=>?_),((_,N),O),λb d=>?_)
  ·have e3:=ÏW w1 p;subst e3;rw[Qb B]at Q;cases Q;rfl
  ·rw[Zc (λz=>by
    obtain⟨o,q⟩:∃o,é b=U o:=by
     rw[54];rcases d with rfl|rfl
     ·exact(_,f)
     ·obtain o|q|_:=g;exact(o,q)
    exact lt q Ãs)]
   exact(n b d).1
 done:=by intro X t hw y j i J s L H E I n st A;rw[dl];rw[tK];have hl:=C.length;exact wpAny_pyNext_enum_end (À7 j) f g D.isList #[fd,Qas,QW,Á] λr eb=>(rfl,ÀT (t':=Ŗ) (λb o d q=>eb b o d q) f0 f1 f3 f4 f5)
 self:=λ_ _ _ _ _ st h=>by obtain (l|f)|_:=st;exact ÖH f h
def LB(K:Ä)(c:TA):TI:=λd H R=>c d H λvs b=>X2 λa xs=>vs=[ú a]/\SqL K b a xs/\R (Ite K a) b
theorem Zsf{X:Cx}{l:aK}{f:TA}{p pos:Pos}{o:ı}{r:Nat}{t:Pos}(v:Gl X "enumerate")(hm:Ě "enumerate" = af)(ha:PA X [l] f)
  (w:#[fh,l]:=by rfl):PI X (.Tuple o r t) ÖI (LB X.K f):=by
 rw[eS,g,i,R];refine Call_ (VP I v hm boot_enumerate (Qaf (thn #[f4,g,i] ?_) w rfl));rintro us c ⟨vs,j,d,x,y⟩;obtain a|xs|e|z|q:=y;subst e;obtain u|rfl|A:=x.one;cases A;obtain its|rv|B|_:=d.list z;refine call_enumerate_list B.isList λC k D hsz E=>ÖH k ?_;have F:#[hu,g,i,j,c,C]:=d.kept (t':=Ã0) E;refine(_,_,_,_,j,rfl,F,ZnR (a:=a) (e:=ζ+1) (it:=Ñm) (QX Ðh),((_,k),D),λb m=>?_,q);have n:ζ<=b:=by
  simp only[Áp,ÂK,ÂL]at m;rcases m with rfl|rfl
  ·exact Qa0 _ 1
  ·exact Qg _
 exact d.fpOk n (Éf n)
theorem iE{X:Cx}(K:Ä){l:aK}{a:TA}{p pos:Pos}{b:ı}{c:Nat}{d:Pos}(hm:Ě "enumerate" = af)(ha:PA X [l] a)(e:Gl X "enumerate":=by rfl)(f:X.K=K:=by rfl)
  (g:#[fh,l]:=by rfl):PI X (.Tuple b c d) ÖI (LB K a):=by subst f;exact Zsf e hm ha g
theorem Ri{K:Ä}{a:ae}{xs:Ĕ}{g:TG}{l:TS}{D:Ya}{b:St}{H:Hp}(Pv:ÆS)(h0:Pv 0 b H)(hl:∀i b H,Pv i b H->SqL K H a xs)
  (o:∀i x b H p,xs[i]? = U x->Pv i b H->H p=af->g Ż b (upd H p (.tup [.int i,x])) λf h=>l { D with nx:=Pv (i+1),ct:=Pv (i+1),bk:=Ċ } f h) (hd:Ï0) :
  ∃W:Nat->Nat->St->Hp->Prop,#[sa,b]/\∀i m b H,W i m b H ->
   ((Ite K a).stop i H/\Ċ b H)\/((Ite K a).go i H/\∃N:St->Hp->Prop,#[e3,j,c,n]/\∀x c,(Ite K a).yld i H x c->g x b c λf h=>l { D with nx:=N,ct:=N,bk:=Ċ } f h):=by
 refine ÖJ;rintro i m b H ⟨rfl,hi,p⟩;have k:=hl i b H p;by_cases d:i<ã
 ·refine .inr ((xs,k,d),Pv (i+1),λj c q=>(ã-(i+1),by lia,rfl,d,q),λx c y=>?_);obtain r|s|rfl|e:=y;have t:=e xs k _ (Qb d);subst t;exact o i _ b H r (Qb d) p s
 ·have e:ËQ:=by lia
  exact .inl ((xs,k,by lia),hd b H (e ▸ p))
def ZuL(K:Ä):À V->Hp->VK->Prop:=λxs H Q=>X2 λp ys=>xs=Θ/\#[hv,K,ys]/\∀l,H l=af->Q Ă #[ha,H,l,ys]
theorem Zvx{X:Cx}(K:Ä)(h:X.K=K:=by rfl):YZ X ÂD (ZuL K):=by subst h;exact ZjD
section
variable {X:Cx}
theorem inQ(K:Ä)(h:X.K=K:=by rfl):OpR X (aR .In) (rIn K false):=by subst h;exact Zn2
universe E
def Its(z:ak):It:=(λi _=>i<Äp,λi H v a=>a=H/\∃c,Á9[i]? = U c/\v=.str Ű,λi _=>Äp<=i)
theorem Zod{P:ay}{w:aF}{K:Ä}{F:aK}(z:ak)(t:Tok)(it:ae):WQ P w K F (Its z) [it] it (λi h=>Ð5 it "str_ascii_iterator" z t i) where
 mem:=by simp
 obj:=λi h st b a=>by
  have e:b=it:=by simpa using a
  rw[Q]
 ą:=λi h f st k=>by obtain o|e|r:=st;exact ÌP
 item:=by intro X j hw l y i A s B H E I g st m;rw[o4];refine wpAny_pyNext_ascii_item st C λf D J=>?_;rw[14]
 done:=by intro X j hw l y i A s B H E I g st m;rw[bg];exact wpAny_pyNext_ascii_end (À7 y) st (Qba m) λf M=>(rfl,ÀT (t':=Ŗ) #[eX,b,a,M] n p q u x)
 self:=#[gK,wpAny_pyIter_striter_ascii]
theorem Zog{P:ay}{w:aF}{K:Ä}{F:aK}(z:ak)(t:Tok)(it:ae):WQ P w K F (Its z) [it] it (λi h=>Ð5 it "str_iterator" z t i) where
 mem:=by simp
 obj:=λi h st b a=>by
  have e:b=it:=by simpa using a
  rw[Q]
 ą:=λi h f st k=>by obtain o|e|r:=st;exact ÌP
 item:=by intro X j hw l y i A s B H E I g st m;rw[o4];refine wpAny_pyNext_wide_item st C λf D J=>?_;rw[14]
 done:=by intro X j hw l y i A s B H E I g st m;rw[bg];exact wpAny_pyNext_wide_end (À7 y) st (Qba m) λf M=>(rfl,ÀT (t':=Ŗ) #[eX,b,a,M] n p q u x)
 self:=#[gK,wpAny_pyIter_striter_wide]
section
variable {X:Cx} {tg:aK}
def ZwP(a:TE):TI:=λb H R=>a b H λx c=>∃z,x=.str z/\R (Its z) c
theorem LA{l:aK}{f:TE}(hl:PE X l f):PI X tg l (ZwP f):=by
 rw[eS,g,j,R];refine thn #[eu,hl,g,j] ?_;rintro v a ⟨x,d,c,k,m⟩;rw[g9,z,e,q,m];subst e;rw[sZ,k];have fp:∀b∈[Ào],Xx X g d b:=λb n=>by
  have e:b=Ào:=by simpa using n
  subst e;exact c.fpOk ë (c.hok.fresh ë)
 cases i:Ð8 (·<128)
 ·exact wpAny_pyIter_wide i (Ào,Ñq,_,_,d,rfl,c.kept (t':=ÆX) λb o e=>Qc _ e,Zog z t _,Ãi,fp,q)
 ·exact wpAny_pyIter_ascii i (Ào,Ñq,_,_,d,rfl,c.kept (t':=ÆX) λb o e=>Qc _ e,Zod z t _,Ãi,fp,q)
theorem Lz{z:ak}{g:TG}{k:TS}{D:Ya}{a:St}{H:Hp}(Pv:ÆS)(h0:Pv 0 a H)
  (n:∀i c a H,Á9[i]? = U c->Pv i a H->g (.str Ű) a H λd f=>k { D with nx:=Pv (i+1),ct:=Pv (i+1),bk:=Ċ } d f) (hd:#[hN,a,Äp]) :
  ∃W:Nat->Nat->St->Hp->Prop,#[sa,a]/\∀i m a H,W i m a H ->
   ((Its z).stop i H/\Ċ a H)\/((Its z).go i H/\∃N:St->Hp->Prop,#[e3,h,b,l]/\∀x b,(Its z).yld i H x b->g x a b λd f=>k { D with nx:=N,ct:=N,bk:=Ċ } d f):=by
 rw[ey,Äp];by_cases j:i<Äp
 ·refine .inr (j,Pv (i+1),λh b o=>(Äp-(i+1),by lia,rfl,j,o),λx b y=>?_);obtain rfl|c|q|rfl:=y;exact n i c a _ q p
 ·have e:i=Äp:=by lia
  exact .inl (ÕN j,hd a H (e ▸ p))
theorem Ly:OpR X (aR .Gt) (λx y H Q=>X2 λi j=>x=.str i/\y=.str j/\Q (.bl (decide ÖK)) H):=by intro ai s σ H x y v u Q I a b h;obtain i|j|rfl|rfl|q:=h;obtain t|rfl:=a;obtain t'|rfl:=b;exact PySem.P.gt_str (ZW I q rfl)
universe E
def Lx:aE->ak
 | .str z=>z
 | d=>d.shown
def Lw(K:Ä):À V->Hp->VK->Prop:=λxs H Q=>X2 λx d=>xs=[x]/\DV K H x d/\ÅE d=true/\d.intsShort 13=true/\d.showable=true/\Q (.str (Lx d)) H
theorem Zon{X:Cx}(p:X.A.guards=U [])(hu:ÉV+64+30<ÂC):YZ X ÁD (Lw X.K):=by
 rw[iw,y,B,xs];obtain x|d|rfl|l|c|C|m|q:=h;obtain u|rfl|f:=XN r;have D:d.shown.length<=aq:=Qk (shown_le13 c C) Ñr;have hdp:d.depth<=64:=by unfold ÅE at c;rw[Q3,Q3]at c;exact Ľ c.1.2
 have E:d.canLay0=true:=by unfold ÅE at c;rw[Q3,Q3]at c;exact c.1.1
 have ref:∀a,u=.ref a->Lx d=d.shown->ó (Ĵ ÁD [u]) (EP X y B Q) è s:=λa G J=>by
  subst G;obtain as|K:=ÉT l f;rw[J]at q;exact callType_new F.called_str Ë (F.typeCall_str_1 _) (F.newCall_str_1 _) (λobj=>F.args_object_init_2 obj _) F.entry_str_new
   (meets_str_new (v:=.ref a) (S:=λA R n=>n=s/\A=X.A.in1/\∀g u tk,#[ft,o,é,ÆB]->R (.ok (.ret (.str d.shown u))) { s with Õ:=g,ï:=tk }) λprog w A R n j=>by obtain rfl|rfl|j:=j;exact strOf_of_reads K m (aE.noDict_hsm (aE.hasDict_of_canLay d E)) p (by show ÉV+1+1+(d.depth+1)<ÂC;lia) ËF (λg u tk k=>j g u tk k) D)
   (rfl,rfl,λg u tk k=>(Ìf _ _ _,.str _,H,Ãf k,ÿ,q))
 cases l with
 | non=>cases f;exact PySem.P.str_of_none #[ge,_,q]
 | bl b=>cases f;exact PySem.P.str_of_bool #[ge,_,q]
 | int i=>obtain t|rfl:=f;exact PySem.P.str_of_int (Ľ m) #[ge,_,q]
 | str z=>obtain t|rfl:=f;exact PySem.P.str_of_str Öm
 | lst L M=>cases f;exact ref _ rfl rfl
 | tup L M=>cases f;exact ref _ rfl rfl
theorem Rh{X:Cx}(K:Ä){k:Nat}(hr:ι)(h:X.K=K:=by rfl):YZ X ÁD (Lw K):=by subst h;exact Zon hr.gd (by have:=hr.un;lia)
section
variable {X:Cx} {ai:À (ae×aN)} {σ:St} {H:Hp} {s:aj}
def Zvb:TE:=λ_ H Q=>∀p,H p=af->Q Ż (upd H p (.dT []))
theorem Lv{pos:Pos}:PE X (.Dict [] [] pos) Zvb:=by intro ai s σ H Q I h;have a:#[s0,bC]:=Qbb Ë (show aL<Î from#[yr].lt);refine ÖL (.ref Î,upd H Î (.dT []),?_,rfl,h _ Ãm);refine ÀU (t':=Ŗ) Ér ë ?_;refine(Qs _,?_,[],.nil,_,#[],0,Qt _ rfl,Ñs,rfl,rfl,List.nodup_nil);exact Æy λz=>Qag _ (z ▸ a)
universe E
def Wn(lo:Int)(n:Nat):À Int:=(ÁC n).map λ(k:Nat)=>lo+k
theorem Lu(lo:Int)(n:Nat):(Wn lo n).length=n:=by simp[Wn]
section
variable {X:Cx}
theorem Uu{ñ:ay}{w:aF}{A:aD}{E:ð}{s:aj}{a:ae}{o:aN}{xs:Á2}{n:Nat}{Q:Ā aa->aj->Prop}(b:é a=U o)(hd:ũ=.seq xs n)(h:Q xs s):ar Ô A (Ñt Ħ) Q E s:=by unfold Ñt;exact ah (bi b hd (av h))
theorem S9(ns:Ø):∀n,n<=Č->preSum (λj=>ns.getD j 0) n=(ÉW n).sum
 | 0,_=>rfl
 | n+1,h=>by
  have ih:=S9 ns n Á;have e:ÉW (n+1)=ÉW n++[ns.getD n 0]:=by rw[QH,Qb Á,QP,Qb Á];rfl
  rw[e,QaN,<- ih];simp[preSum]
universe E
section
variable {ñ:ay} {w:aF} {A:aD} {E:aa->aj->Prop} {s:aj} {κ:Äu} {k0:ÂO} {aX:Ā ÁE} {st:ž}
def WB(ñ:ay)(w:aF)(A:aD)(s:aj)(k0:ÂO)(κ:ÂP):Prop :=
 ∀ (E:aa->aj->Prop) (x y:aa) (a b:κ.α) (Q:Ð->aj->Prop),Çr x=U a->Çr y=U b->Q (ÅF a b) s->ar Ô A (keyLt' k0 x y) Q E s
structure SB (k0:ÂO) (aX:Ãt) (st:ž):Prop where
 perm:(Đ).Perm aX
 kind:μ st=k0
 failed:ÅG st=af
 pend:Áe st = #[]
theorem SB.size(B:Âc):(Đ).size=ľ:=B.perm.size_eq
theorem SB.at(B:Âc)(hk:Ãu){i:Nat}(hi:i<ľ):X2 λx p=>(ď st)[i]? = U (x,p,)/\Çr x=U (KK κ Đ i):=by
 have hs:=B.size;have e:Đ[i]? = U Đ[i]:=Qat Á;have b:Đ[i]∈aX.toList:=by have c:Đ[i]∈ď st:=Array.getElem_mem Á;have d:=(B.perm.mem_iff (a:=Đ[i])).mp c;simpa using d
 obtain a|f:=hk _ b;refine(Đ[i].1,Đ[i].2,e,?_);unfold KK;rw[e];show _=U ((Çr Đ[i].1).getD κ.dflt);rw[f];rfl
theorem SB.set(B:Âc){xs:Ãt}(h:xs.Perm Đ):SB k0 aX (setArr st xs):=(h.trans B.perm,B.kind,B.failed,B.pend)
theorem w_elem{arr:Ãt}{i:Nat}{p:ÁE}{Q:#[sM,ÁE]}(h:arr[i]? = U p)(q:Q p st):wpS Ô A E s (elem' arr i) Q st:=by rw[elem'_eq,h];exact ţ q
theorem w_lt(a:Äv)(hk:Ãu)(B:Âc){i j:Nat}(b:i<ľ)(c:j<ľ){Q:Ã Ð->ž->Prop}(q:Q (U (ÅF (KK κ Đ i) (KK κ Đ j))) st):wpS Ô A E s (ltAt' i j) Q st:=by obtain x|p|d|e:=B.at hk b;obtain y|p'|f|g:=B.at hk c;rw[ltAt'_eq];refine Ō (ÉX ?_);show wpS _ _ _ _ (elem' Đ i >>= _) _ _;refine Ō (w_elem d (Ō (w_elem f ?_)));rw[lt'_eq];refine Ō (ÉX (Ō (wpS_lift (Ñb ?_))));rw[B.kind];refine a _ x y _ _ _ e g ÅH;exact ţ q
theorem Zra{xs:Ãt}{i:Nat}(h0:1<=i)(S:Ť κ xs i)(h:ÁF (KK κ xs (i-1)) (KK κ xs i)):Ť κ xs (i+1):=by
 intro a b c hb;by_cases e:b<i
 ·exact S a b c e
 ·have d:b=i:=by lia
  subst d;by_cases f:a=b
  ·subst f;exact Çs
  ·exact ÌQ (S a (b-1) Á Á) h
theorem w_asc(g:Äv)(hk:Ãu){a b:Nat}(hn:b<=ľ)(h1:1<=a)(ha:a<=b)(B:Âc)(S:Ť κ Đ a){Q:#[sM,AscSt]}
  (q:∀n,a<=n->n<=b->Ť κ Đ n->(n=b\/κ.klt (KK κ Đ n) ÌR)->Q (af,n,) st):wpS Ô A E s (ascLoop a b) Q st:=by
 unfold ascLoop;refine Çt (λi c d=>d=st/\c=(af,i,)/\Ť κ Đ i) ?_ ?_ (rfl,rfl,S)
 ·rintro i c d h mj ⟨rfl,rfl,e⟩;refine Ō (w_lt g hk B Ñu Ñv ?_);cases f:ÅF (KK κ (ď d) i) (KK κ (ď d) (i-1)) with
  | true=>exact ţ (q i h Á e (.inr f))
  | false=>exact ţ (rfl,rfl,Zra Á e f)
 ·rintro c d ⟨rfl,rfl,e⟩;rw[show max a b=b by lia]at e ⊢;exact q b ha ë e Ė
theorem w_rev{i j:Nat}{Q:#[sM,Unit]}(q:Q () (setArr st #[sU,i,j])):wpS Ô A E s (reverseSlice' i j) Q st:=wpS_reverse q
theorem w_desc(C:Äv)(hk:Ãu){n h:Nat}(hn:h<=ľ)(h1:1<=n)(G:n<=h)(B:Âc)(S:ÅI κ Đ n){Q:#[sM,DescSt]}
  (q:∀ (m f:Nat) (d:ž),SB k0 aX d->n<=m->m<=h->ÅI κ Κ m->f+1<=m->(∀i,m-(f+1)<=i->i<m->KK κ Κ i=KK κ Κ (m-1))->Q (af,m,f,) d):wpS Ô A E s (descLoop n h) Q st:=by
 unfold descLoop;refine Çt (λi c d=>∃f,c=(af,i,f,)/\SB k0 aX d/\n<=i/\i<=h/\ÅI κ Κ i/\f+1<=i/\(∀k,i-(f+1)<=k->k<i->KK κ Κ k=KK κ Κ (i-1))) ?_ ?_ ?_
 ·rintro i c d Eb mj ⟨f,rfl,g,t,u,j,v,l⟩;have ė:∀ (p:ž),SB k0 aX p->(∀k,KK κ (ď p) k=KK κ Κ k)->ÁF (KK κ Κ i) (KK κ Κ (i-1))->ÅI κ (ď p) (i+1):=λp B2 e r a b H x=>by
   rw[e a,e b];by_cases y:b<i
   ·exact j a b H y
   ·have I:b=i:=by lia
    subst I;by_cases J:a=b
    ·subst J;exact Çs
    ·exact ÌQ r (j a (b-1) Á Á)
  refine Ō (w_lt C hk g Ñu Ñv ?_);cases x:ÅF (KK κ (ď d) i) (KK κ (ď d) (i-1)) with
  | true =>
   have r:ÁF (KK κ Κ i) (KK κ Κ (i-1)):=Ñw x;rw[qJ];by_cases D:f>0
   ·rw[Æ D];refine Ō (w_rev (ţ ?_));have e:∀k,KK κ (mirror Κ (i-(f+1)) i ((i-(i-(f+1))) / 2)) k=KK κ Κ k:=Ñx #[eO,g.size] (λk h1 o=>l k h1 o);refine(0,rfl,g.set ÌS,by lia,by lia,ė _ (g.set ÌS) e r,by lia,λk h1 o=>?_);have:k=i:=by lia
    subst this;rfl
   ·rw[zf,D];refine ţ (0,rfl,g,by lia,by lia,ė _ g (λ_=>rfl) r,by lia,λk h1 o=>?_);have:k=i:=by lia
    subst this;rfl
  | false =>
   refine Ō (w_lt C hk g Ñv Ñu ?_);cases F:ÅF (KK κ (ď d) (i-1)) (KK κ (ď d) i) with
   | true=>exact ţ (q i f d g t u j v l)
   | false =>
    have K:=κ.total _ _ x F;refine ţ (f+1,rfl,g,by lia,by lia,ė _ g (λ_=>rfl) F,by lia,λk h1 o=>?_);show KK κ Κ k=KK κ Κ i;by_cases z:k=i
    ·rw[z]
    ·rw[K];exact l k Á Á
 ·rintro c d ⟨f,rfl,g,t,u,j,v,l⟩;rw[show max n h=h by lia]at *
  exact q h f d g t u j v l
 ·refine(0,rfl,B,Qg _,G,S,by lia,λk h1 o=>?_);have:k=n-1:=by lia
  rw[this]
theorem w_tail(g:Äv)(hk:Ãu){n c:Nat}(h:c<=ľ)(h1:1<=n)(k:n<=c)(B:Âc)(N:ÅI κ Đ n){Q:Ñy}
  (q:∀ (m:Nat) (d:ž),SB k0 aX d->1<=m->m<=c->Ť κ Κ m->Q (U m) d):wpS Ô A E s (tail3 n c) Q st:=by
 unfold tail3;rw[qK];have f:=B.set (mirror_perm Đ 0 n ((n-0) / 2));have e:=KK_mirror (κ:=κ) (xs:=ď st) (i:=0) (j:=n) #[eO,B.size];have S:Ť κ #[sU,0,n] n:=λa b eQ hb=>by rw[e a,e b,Æ Ãv,Æ Ãv];exact N _ _ Á Á
 refine Ō (w_asc g hk h h1 k f S λm e7 l o _=>?_);exact ţ (q m _ f Á l o)
theorem w_part(g:Äv)(hk:Ãu){n d:Nat}(h:d<=ľ)(p:n+1<=d)(B:Âc)(N:ÅI κ Đ (n+1)){Q:Ñy}
  (q:∀ (m:Nat) (c:ž),SB k0 aX c->1<=m->m<=d->Ť κ (ď c) m->Q (U m) c):wpS Ô A E s (descPart n d) Q st:=by
 unfold descPart;rw[pT];refine Ō (w_desc g hk h Á p B N λm f c i m1 j l hq r=>?_);rw[qJ];by_cases o:f>0
 ·rw[Æ o];rw[qK];have e:∀k,KK κ (mirror (ď c) (m-(f+1)) m ((m-(m-(f+1))) / 2)) k=KK κ (ď c) k:=Ñx #[eO,i.size] (λk t u=>r k t u);exact w_tail g hk h Á j (i.set ÌS) (λa b v x=>by rw[e a,e b];exact l a b v x) q
 ·rw[zf,o];exact w_tail g hk h Á j i l q
theorem w_count(g:Äv)(hk:Ãu){c:Nat}(h:c<=ľ)(h1:1<=c)(B:Âc){Q:Ñy}
  (q:∀ (m:Nat) (i:ž),SB k0 aX i->1<=m->m<=c->Ť κ (ď i) m->Q (U m) i):wpS Ô A E s (countRun' 0 c) Q st:=by
 rw[countRun0_eq];refine Ō (w_asc g hk h (Qg 1) h1 B (λa b j f=>by obtain rfl:a=b:=Á;exact Çs) λn o p S u=>?_);show wpS _ _ _ _ (if (n == c)=true then _ else _) _ _;by_cases l:n=c
 ·rw[Æ #[fd,l,ÐW,_]];exact ÖM
 ·rw[Ç (by intro z;exact l (eq_of_beq z))];have v:=u.resolve_left l;have r:(∀k,k<n->KK κ Đ k=KK κ Đ (n-1))->ÅI κ Đ (n+1):=λd a b j f=>by
   by_cases x:b<n
   ·rw[d a Á,d b x];exact Çs
   ·have y:b=n:=by lia
    subst y;by_cases C:a=b
    ·subst C;exact Çs
    ·rw[d a Á];exact Ñw v
  by_cases t:n>1
  ·rw[Æ t];refine Ō (w_lt g hk B Á Á ?_);cases f:ÅF (KK κ (ď st) 0) (KK κ (ď st) (n-1)) with
   | true=>exact ÖM
   | false =>
    have d:∀k,k<n->KK κ Đ k=KK κ Đ (n-1):=λk D=>by have F:ÁF (KK κ Đ k) ÌR:=S k (n-1) Á Á;have G:ÁF ÌR (KK κ Đ k):=ÌQ (show ÁF ÌR (KK κ Đ 0) from f) (S 0 k Á Á);exact KeyOrd.kle_antisymm F G
    rw[qK];have e:∀k,KK κ #[sU,0,n] k=KK κ Đ k:=Ñx #[eO,B.size] (λk _ H=>d k H);exact w_part g hk h Á (B.set ÌS) (λa b j f=>by rw[e a,e b];exact r d a b j f) q
  ·rw[zf,t];exact w_part g hk h Á B (r λk D=>by rw[show k=n-1 by lia]) q
theorem Ls{xs:Ãt}{k l:Nat}(hk:k<xs.size)(hl:l<=k)(e:Ť κ xs k)(h:∀j,j<l->ÁF (KK κ xs j) (KK κ xs k))(i:∀j,l<=j->j<k->κ.klt (KK κ xs k) (KK κ xs j)) :
  Ť κ (bubble xs (0+k) (0+k-(0+l))) (k+1):=by
 have f:=KK_bubble (κ:=κ) (xs:=xs) (src:=0+k) (d:=0+k-(0+l)) Á Á;intro a b m hb;rw[f a,f b];rw[show 0+k=k by lia,show 0+l=l by lia,show k-(k-l)=l by lia];by_cases g:a=l
 ·rw[Æ g];by_cases c:b=l
  ·rw[Æ c];exact Çs
  ·rw[Ç c,Æ Ãv];exact Ñw (i (b-1) Á Á)
 ·rw[zf,g];by_cases n:a<l
  ·rw[zf,Á];by_cases c:b=l
   ·rw[Æ c];exact h a n
   ·rw[zf,c];by_cases o:l<b
    ·rw[Æ (o,by lia)];exact e a (b-1) Á Á
    ·rw[zf,Á];exact e a b m Á
  ·rw[Æ Ãv,Ç Á,Æ Ãv];exact e (a-1) (b-1) Á Á
theorem w_binary(v:Äv)(hk:Ãu){n ok:Nat}(hn:n<=ľ)(h1:ok<=n)(h0:1<=ok)(B:Âc)(S:Ť κ Đ ok){Q:#[sM,Ð]}
  (q:∀ (a:ž),SB k0 aX a->Ť κ Ãw n->Q true a):wpS Ô A E s (binarySort' 0 n ok) Q st:=by
 rw[binarySort'_eq];rw[wu];refine Çt (λi c a=>c=(af,(),)/\SB k0 aX a/\Ť κ Ãw i) ?_ ?_ (rfl,B,by rw[show max ok 1=ok by lia];exact S)
 ·rintro k c a hak Ed ⟨rfl,b,d⟩;have k1:1<=k:=by lia
  rw[wu];refine Çt (λi c e=>X2 λl r=>c=(af,l,r,)/\e=a/\l<=r/\r<=k/\r-l<=k-i/\(∀j,j<l->ÁF (KK κ Ãw j) (KK κ Ãw k))/\(∀j,r<=j->j<k->κ.klt (KK κ Ãw k) (KK κ Ãw j))) ?_ ?_ (0,k,rfl,rfl,Qs _,Qg _,by lia,λj h=>by lia,λj h1 p=>by lia)
  ·rintro i c e xM hik ⟨l,r,rfl,rfl,x,m,y,f,g⟩;show wpS _ _ _ _ (if l>=r then _ else _) _ _;by_cases t:l>=r
   ·rw[Æ t];refine ţ ?_;have o:l=r:=by lia
    rw[ad]
   ·rw[zf,t];refine Ō (w_lt v hk b (by show 0+k<_;lia) (by show 0+(l+r) / 2<_;lia) ?_);rw[show 0+k=k by lia,show 0+(l+r) / 2=(l+r) / 2 by lia];cases u:ÅF (KK κ (ď e) k) (KK κ (ď e) ((l+r) / 2)) with
    | true=>refine ţ (l,(l+r) / 2,rfl,rfl,by lia,by lia,by lia,f,λj h1 p=>?_);exact KeyOrd.klt_of_klt_of_kle u (d _ j h1 p)
    | false=>refine ţ ((l+r) / 2+1,r,rfl,rfl,by lia,by lia,by lia,λj h=>?_,g);exact ÌQ (d j ((l+r) / 2) Á Á) u
  ·rintro c e ⟨l,r,rfl,rfl,x,m,y,f,g⟩;have o:l=r:=by lia
   rw[ad]
 ·rintro c a ⟨rfl,b,d⟩;rw[show max (max ok 1) n=n by lia]at d;exact ţ (q a b d)
theorem w_runs(t:Äv)(hk:Ãu)(B:Âc)(h2:2<=ľ)(qR:ľ<64){Q:#[sM,Unit]}
  (q:∀ (a:ž),(Ãw).Perm aX->ÅG a=af->Ť κ Ãw ľ->Q () a):wpS Ô A E s sortRuns' Q st:=by
 rw[sortRuns'_eq];refine Ō (ÉX ?_);have l:=B.size;have y:ÌT (Đ).size (Đ).size 0=(Đ).size:=by obtain⟨f,z⟩:∃f,(ď st).size=f+1:=((Đ).size-1,by lia);rw[show ÌT (Đ).size (Đ).size 0=ÌT (f+1) (Đ).size 0 by rw[<- z],minRun'_succ,Æ Á];rfl
 rw[wu];refine Çt (λi c a=>(i=0/\c=(af,0,)/\a=st)\/(i≠0/\c=(af,ľ,)/\(Ãw).Perm aX/\ÅG a=af/\(Áe a).size<=1/\Ť κ Ãw ľ)) ?_ ?_ (.inl Ñs)
 ·rintro i c a xM hi ⟨⟩
  ·rename_i h;obtain rfl|rfl|rfl:=h;show wpS _ _ _ _ (if 0>=(Ãw).size then _ else _) _ _;rw[zf,Á];rw[wu];rw[show (ď a).size-0=ľ by lia];refine w_count t hk ë Á B λm d n C m2 u=>?_;have push:∀ (b:ž),SB k0 aX b->Ť κ (ď b) ľ->(ď ÌU).Perm aX/\ÅG ÌU=af/\(Áe ÌU).size<=1/\Ť κ (ď ÌU) ľ:=λb e o =>
    (e.perm,e.failed,by show ((Áe b).push (0,ľ,0,)).size<=1;rw[e.pend,Array.size_push];exact Qg _,o)
   show wpS _ _ _ _ (if m<ÌT (Ãw).size (Ãw).size 0 then _ else _) _ _;rw[y,l];by_cases v:m<ľ
   ·rw[Æ v];rw[pT];show wpS _ _ _ _ (binarySort' 0 (min ľ ľ) m >>= _) _ _;rw[Nat.min_self];refine Ō (w_binary t hk ë Á C n u λb e o=>?_);rw[lh];show wpS _ _ _ _ (match (Áe b).back? with|some (D,F,p,)=>_|x=>_) _ _
    rw[show (Áe b).back? = af by rw[e.pend];rfl];rw[vN];refine Ō (Ñz (ţ (.inr (by lia,?_,push b e o))));rw[nZ]
   ·rw[zf,v];have G:m=ľ:=by lia
    subst G;rw[lh];show wpS _ _ _ _ (match (Áe d).back? with|some (D,F,p,)=>_|x=>_) _ _
    rw[show (Áe d).back? = af by rw[n.pend];rfl];rw[vN];refine Ō (Ñz (ţ (.inr (by lia,?_,push d n u))));rw[nZ]
  ·rename_i h;obtain H|rfl|g|j|r|k:=h;show wpS _ _ _ _ (if ľ>=(Đ).size then _ else _) _ _;rw[Æ Á];refine ţ ?_;rw[aL]
   ·rw[43]
   ·rw[nB]
 ·rintro c a ⟨⟩
  ·rename_i h;exact È h.1 Á
  ·rename_i h;obtain H|rfl|g|j|r|k:=h;rw[aL]
   ·rw[43]
   ·rw[nB]
universe E
section
variable {ñ:ay} {w:aF} {A:aD} {E:aa->aj->Prop} {s:aj} {κ:Äu}
theorem w_sort{a:ae}{vs:æ}{n:Nat}{P:#[hn,PySem.Fin]}(ha:ÖN)(hk:ÖO)(h2:2<=Ů)(p:Ů<64)
  (t:∀ (s':aj),(∀b o,b≠a->é b=U o->s'.heap.get? b=U o)->∀ (E:aa->aj->Prop) (Q:ÂO->aj->Prop),(∀e,WB ñ w A s' e κ->Q e s')->ar Ô A ÑA Q E s')
  (q:∀ (d:ž),(Κ).Perm ÉY->Ť κ Κ (ÉY).size->P ÖP { s with Õ:=sortedHeap Ê a vs ((ď d).map λx=>ÂQ) }) :
  ar Ô A ÖQ P E s:=by
 have f:ÌV<=aq:=by rw[QE,aO];lia
 rw[dm];refine ah (ÅJ ha rfl ?_ f ÅK);have j:=ÖR;rw[rF,j];refine ah (Ñe ?_ #[d8,f]);rw[lM];refine aU ?_;have k:¬ ÌV<2:=by rw[QE];lia
 have g:(ÉY).size=Ů:=by unfold Äw;simp
 rw[hD,k,k];have ą:∀b o,b≠a->é b=U o->#[P].get? b=U o:=λb o u h =>
  Qc _ (Qc _ (Qaa _ ÌW h))
 have l:ÖS:=Qc _ (Qc _ j);refine ah (t _ ą _ _ λe v=>?_);refine ah ?_;have B:SB e ÉY (SortSt.mk' e ÖT #[] 7 af):=(Array.Perm.refl _,rfl,rfl,rfl);refine thn (w_runs (E:=E) v hk B #[ea,g,h2] #[ea,g,p] (Q:=λ_ d=>(ď d).Perm ÉY/\ÅG d=af/\Ť κ Κ (ÉY).size) (λd a b c=>(a,b,c))) λr s' y=>?_;obtain⟨⟨⟩,d⟩:=r;obtain rfl|m|z|C:=y;rw[rF,l];have i:((Κ).map λx=>ÂQ).size=Ů:=by rw[Array.size_map,m.size_eq,g]
 show ar _ _ (ÌX a (λx=>(ď d).map λx=>ÂQ) >>= _) _ _ _;refine ah (ÅJ l rfl ?_ ÅK (by show ((Κ).map λx=>ÂQ).size<=_;rw[i];rw[QE]at f;lia));rw[z];rw[zf,Ö];exact av (q d m C)
theorem w_sorted{l:ae}{vs:æ}{Q:ð}(hl:ÖU)(hk:ÖO)(h2:2<=Ů)(g:Ů<64)
  (i:∀ (A:aD) (s':aj),#[ft,o,é,s'.heap.get?]->∀ (E:aa->aj->Prop) (Q:ÂO->aj->Prop),(∀d,WB ñ w A s' d κ->Q d s')->ar Ô A ÑA Q E s')
  (q:∀ (a:ž),(Ãw).Perm ÉY->Ť κ Ãw (ÉY).size->Q ÌJ { s with Õ:=ÑB Ê vs ((ď a).map λx=>ÂQ) }) :
  ar Ô A (Ĵ Çj Äx) Q E s:=by
 rw[da];have e:Ů<=aq:=by rw[(aO)];lia
 refine ah (av (ah (collect_list hl (ah (ÑC ?_ e)) e)));have c:ÖV:=by rw[ÌY,ÑD]
 have f:ÖW:=by rw[<- c];exact Qt _ rfl
 have ą:∀b o,é b=U o->(#[h].push ÑE).get? b=U o:=λb o h =>
  Qc _ (Qaa _ (QX (Qq h)) (Qc _ h))
 rw[ay];rw[c];refine ah (aU (cq slot_list_sort (_,f,rfl) ÖX ?_ (args_list_sort _)));refine w_sort f hk h2 g (λs' j=>i _ s' λb o h=>j b o (Qz (QG (Qq h) (QV _))) (ą b o h)) λa k m=>?_;exact(_,rfl,av (_,rfl,q a k m))
universe E
def kLt:Key->Key->Ð
 | .inl i,.inl j=>decide (i<j)
 | .inr x,.inr y=>decide (ÉZ<ÌZ)
 | .inl _,.inr _=>true
 | .inr _,.inl _=>false
theorem Zl4:∀a:Key,kLt a a=false
 | .inl i=>ē Á
 | .inr x=>ē (List.lt_irrefl _)
theorem Zn7:∀a b c:Key,kLt a b=true->kLt b c=true->kLt a c=true
 | .inl i,.inl j,.inl k,h1,h2=>by have:=Ľ h1;have:=Ľ h2;exact ÑF
 | .inr x,.inr y,.inr z,h1,h2=>Ĉ (List.lt_trans (Ľ h1) (Ľ h2))
 | .inl _,.inl _,.inr _,_,_=>rfl
 | .inl _,.inr _,.inr _,_,_=>rfl
 | .inl _,.inr _,.inl _,_,h=>by cases h
 | .inr _,.inl _,_,h,_=>by cases h
 | .inr _,.inr _,.inl _,_,h=>by cases h
theorem ZnI:∀a b:Key,kLt a b=false->kLt b a=false->a=b
 | .inl i,.inl j,h1,h2=>by have:=ÂR h1;have:=ÂR h2;congr 1;lia
 | .inr x,.inr y,h1,h2=>by have c:¬ ÉZ<ÌZ:=ÂR h1;have d:¬ ÌZ<ÉZ:=ÂR h2;have e:ÉZ=ÌZ:=List.le_antisymm d c;obtain⟨xs⟩:=x;obtain⟨ys⟩:=y;congr 2;exact ÖY e
 | .inl _,.inr _,h,_=>by cases h
 | .inr _,.inl _,_,h=>by cases h
def Y4:À Key->À Key->Ð
 | [],[]=>false
 | [],_::_=>true
 | _::_,[]=>false
 | x::xs,y::ys=>if x=y then Y4 xs ys else kLt x y
theorem Ut(x y:Key)(xs ys:ς):Y4 (x::xs) (y::ys)=if x=y then Y4 xs ys else kLt x y:=rfl
theorem S8:∀a:À Key,Y4 a a=false
 | []=>rfl
 | x::r=>by unfold Y4;rw[p1];exact S8 r
theorem S7:∀a b c:À Key,Y4 a b=true->Y4 b c=true->Y4 a c=true
 | [],[],_,h,_=>by cases h
 | [],_::_,[],_,h=>by cases h
 | [],_::_,_::_,_,_=>rfl
 | _::_,[],_,h,_=>by cases h
 | _::_,_::_,[],_,h=>by cases h
 | x::r,y::s,z::t,h1,h2=>by
  have ih:=S7 r s t;unfold Y4 at h1 h2 ⊢;by_cases f:x=y
  ·rw[sC,f,h1];by_cases d:y=z
   ·rw[mD]
   ·rw[hy,d,h2];rw[Ç (λe=>d ÑG),f];exact h2
  ·rw[hy,f,h1];by_cases d:y=z
   ·rw[Ç (λe=>f ÑH),<- d];exact h1
   ·rw[hy,d,h2];have g:=Zn7 _ _ _ h1 h2;rw[rN,Ç,e,Zl4,g]
theorem S6:∀a b:À Key,Y4 a b=false->Y4 b a=false->a=b
 | [],[],_,_=>rfl
 | [],_::_,h,_=>by cases h
 | _::_,[],_,h=>by cases h
 | x::r,y::s,h1,h2=>by
  unfold Y4 at h1 h2;by_cases e:x=y
  ·rw[sC,e,h1];rw[sC,ÃU,h2];rw[e,S6 r s h1 h2]
  ·rw[hy,e,h1];rw[Ç λz=>e Ãs]at h2;exact È (ZnI _ _ h1 h2) e
theorem ZqW(a b c:ς)(h:Y4 a c=true):Y4 a b=true\/Y4 b c=true:=by
 by_cases d:Y4 a b=true
 ·exact .inl d
 ·by_cases f:Y4 b a=true
  ·exact .inr (S7 _ _ _ f h)
  ·have e:=S6 a b #[d8,d] #[d8,f];rw[<- e];exact .inr h
def unV:V->Ã Key
 | .int i=>U Åa
 | .str x=>U (.inr x)
 | _=>af
def Wb:À V->Ã Äy
 | []=>U []
 | x::r=>(unV x).bind λk=>(Wb r).map (k::·)
theorem ZtY(k:Key):unV (kV k)=U k:=by cases k<;>rfl
theorem Lr:∀ks:À Key,Wb ÅL=U ks
 | []=>rfl
 | k::r=>by show (unV (kV k)).bind _=_;rw[ZtY,Lr r];rfl
theorem ZuU:∀ {x:V} {k:Key},unV x=U k->x=kV k
 | .int i,k,h=>by cases h;rfl
 | .str z,k,h=>by cases h;rfl
 | .non,_,h=>by cases h
 | .bl _,_,h=>by cases h
 | .byt _,_,h=>by cases h
 | .flt _,_,h=>by cases h
 | .ref _,_,h=>by cases h
 | .ty _,_,h=>by cases h
theorem Lq:∀ {xs:À V} {ks:À Key},Wb xs=U ks->xs=ť kV
 | [],ks,h=>by cases h;rfl
 | x::r,ks,h=>by
  unfold Wb at h;cases hu:unV x with
  | none=>rw[hu]at h;cases h
  | some k =>
   rw[hu]at h;cases hr:Wb r with
   | none=>rw[hr]at h;cases h
   | some ms=>rw[hr]at h;cases h;rw[ZuU hu,Lq hr];rfl
def YE(ks:ς):À Ð:=ť λk=>k.isLeft
def U2(H:Hp)(sh:Çu):aa->Ã Äy
 | .ref a=>match H a with
  | some (.tup xs)=>(Wb xs).bind λks=>if YE ks=sh then U ks else af
  | _=>af
 | _=>af
theorem Lp{H:Hp}{a:ae}{ks:ς}(h:H a=U Ì0):U2 H (YE ks) Ħ=U ks:=by unfold U2;dsimp only;rw[h];show (Wb ÅL).bind _=_;rw[Lr];show (if YE ks=YE ks then U ks else af)=_;rw[Æ rfl]
theorem Lm{H:Hp}{sh:Çu}{v:aa}{ks:ς}(h:U2 H sh v=U ks):∃a,v=.ref a/\H a=U Ì0/\YE ks=sh:=by
 unfold U2 at h;split at h
 ·rename_i a;split at h
  ·rename_i f g;cases c:Wb f with
   | none=>rw[c]at h;cases h
   | some d =>
    rw[c]at h;have b:(if YE d=sh then U d else af)=U ks:=h;by_cases e:YE d=sh
    ·rw[sC,e,b];cases b;exact(a,rfl,by rw[g,Lq c],e)
    ·rw[hy,e,b];cases b
  ·cases h
 ·cases h
def Rg(H:Hp)(sh:Çu):Äu:=((À Key,Y4,S8,S7,λa b c h=>ZqW a b c h,S6),U2 H sh,[])
section
variable {ñ:ay} {w:aF} {A:aD} {E:aa->aj->Prop} {s:aj}
theorem ZtE{k m:Key}{p q:aa}(hp:Ì1)(hq:Ì2)(a:Ì3){Q:É0}(h:Q (decide (k=m)) s):ar Ô A (eqBool p q) Q E s:=by
 cases k with
 | inl i =>
  cases m with
  | inl j =>
   rw[xj];refine Ôp ?_;have e:(i == j)=decide (#[s7,i]=Âu j):=by
    by_cases z:i=j
    ·rw[z];simp
    ·rw[ē (λe=>z (ÃQ e))];simpa using z
   rw[e];exact h
  | inr y=>cases a
 | inr x =>
  cases m with
  | inl j=>cases a
  | inr y=>obtain t|rfl:=hp;rw[dn];refine Ôs ?_;have e:decide (x=y)=decide (#[r4,x]=β y):=ÅM (λz=>by rw[z],λz=>Åb z);rw[e];exact h
theorem Zua{c:Ð}{k m:Key}{p q:aa}(hp:Ì1)(hq:Ì2)(a:Ì3){Q:É0}(h:Q (kLt k m) s):ar Ô A (oneLt' c p q) Q E s:=by
 cases k with
 | inl i =>
  cases m with
  | inl j =>
   rw[xj];cases c with
   | true=>exact oneLt_int h
   | false=>rw[oneLt'_eq];show ar _ _ (Ì4 .Lt (.int i t) (.int j u) >>= _) _ _ _;refine ah (show ar Ô A ÖZ _ _ _ from Ö0 ?_);exact av h
  | inr y=>cases a
 | inr x =>
  cases m with
  | inl j=>cases a
  | inr y =>
   rw[xj];cases c with
   | true=>exact oneLt_str h
   | false=>rw[oneLt'_eq];show ar _ _ (Ì4 .Lt (.str x t) (.str y u) >>= _) _ _ _;refine ah (show ar Ô A Ö1 _ _ _ from Ö2 ?_);exact av h
theorem Zui{b:Ð}{x y:ae}{ks j:ς}{its m:æ}(hx:Β Ê x ģ)(hy:Β Ê y m.toArray)(z:ZG ÅL its)(B:ZG (j.map kV) m)(C:YE ks=YE j){Q:É0}
  (h:Q (Y4 ks j) s):ar Ô A (keyLt' (tuples' b) ÀP (.ref y)) Q E s:=by
 obtain o1|K|_|n1|L:=hx;obtain o2|M|_|n2|N:=hy;show ar _ _ (Ñt ÀP >>= _) _ _ _;refine ah (Uu K L (ah (Uu M N (ah ?_))));have O:=ŗ;have P:=B.length;have fD:Àu=Åp:=by have:=#[et,C];simpa [YE] using this
 rw[Qa]at O P;refine Ö3 _ (λrest c r=>c=(af,(),)/\r=s/\X5 λ(n ws:À aa) (k:Nat) (f d:À Key)=>Ć=(n.zip ws).zipIdx k/\ZG (f.map kV) n/\ZG (Âd kV) ws/\YE f=YE d/\Y4 ks j=Y4 f d) _ ?_ ?_ _ _ (rfl,rfl,its,m,0,ks,j,by simp,z,B,C,rfl)
 ·rintro⟨⟨p,q⟩,i⟩ Ć c r ⟨rfl,rfl,n,ws,k,f,d,l,o,t,a,g⟩;cases f with
  | nil=>cases o;cases l
  | Í D kr =>
   cases d with
   | nil=>cases a
   | Í F G =>
    cases o with
    | Í u H =>
     cases t with
     | Í v I =>
      rw[QaG,ÑI]at l;injection l with R S;injection R with T V;injection T with W X;subst V W X;unfold YE at a;rw[Qj,Qj]at a;injection a with J Y;refine ah (ZtE u v J ?_);rw[Ut]at g;by_cases e:D=F
      ·rw[sC,e,g];rw[Ĉ e];exact av (rfl,rfl,_,_,_,kr,G,S,H,I,Y,g)
      ·rw[hy,e,g];rw[ē e];refine ah (Zua u v J (av ?_));refine av ?_;rw[<- g];exact h
 ·rintro c r ⟨rfl,rfl,n,ws,k,f,d,l,o,t,a,g⟩;refine av ?_;have e:Y4 f d=false:=by
   cases f with
   | nil =>
    cases d with
    | nil=>rfl
    | Í _ _=>cases a
   | Í D kr =>
    cases d with
    | nil=>cases a
    | Í F G =>
     cases o with
     | Í u H =>
      cases t with
      | Í v I=>rw[QaG,ÑI]at l;cases l
  rw[e]at g;rw[g]at h;have Z:decide (Åu<m.toArray.size)=false:=ē #[sq,QE,QE];rw[Z];exact h
universe E
section
variable {ñ:ay} {w:aF} {A:aD} {E:aa->aj->Prop} {s:aj}
theorem w_mapM{M:ÀR}{α c:Type}{f:α->Sem c}(R:α->c->Prop):∀ (l:À α) {Q:À c->aj->Prop},(∀v∈l,∃r,R v r/\∀ (e:c->aj->Prop),e r s->ar M A (f v) e E s)->(∀b,Ĥ=Ų->(∀r∈b,∃v∈l,R v r)->Q b s)->ar M A (List.mapM f l) Q E s
 | [],Q,_,q=>by rw[List.mapM_nil];exact av (q [] rfl #[ex,r,h])
 | a::l,Q,h,q=>by
  rw[List.mapM_cons];obtain r|hr|hw:=h a Ö;refine ah (hw _ (ah (w_mapM R l (λv d=>h v (Ql _ d)) λb g i=>av (q (r::b) (by simp[g]) λz hz=>?_))));rcases ĩ hz with rfl|hz
  ·exact(a,by simp,hr)
  ·obtain v|d|j:=i z hz;exact(v,Ql _ d,j)
theorem w_mapA{M:ÀR}{α a:Type}{f:α->Sem a}(R:α->a->Prop)(l:Ā α){Q:Ā a->aj->Prop}(h:∀v∈l.toList,∃r,R v r/\∀ (c:a->aj->Prop),c r s->ar M A (f v) c E s)(q:∀b:Ā a,(∀r∈Ì5,∃v∈l.toList,R v r)->Q b s):ar M A (Array.mapM f l) Q E s:=by rw[Array.mapM_eq_mapM_toList,map_eq_pure_bind];exact ah (w_mapM R l.toList h λb _ d=>av (q b.toArray #[d8,d]))
theorem ZoD{a:ae}{its:æ}(ht:Β Ê a ģ){Q:ÌA}(q:Q its[0]? s):ar Ô A (firstOfTuple' Ħ) Q E s:=by obtain o|b|hc|n|c:=id ht;show ar _ _ (typeOf Ħ >>= _) _ _ _;refine ah (É1 ht.typeIs ?_);rw[Ç Ë];refine ah (Uu b c (av ?_));simpa using q
theorem ZqN{k:Key}{v:aa}(h:ZE (kV k) v){Q:ð}(q:Q (.type (if k.isLeft then "int" else "str")) s):ar Ô A (typeOf v) Q E s:=by
 cases k with
 | inl i=>obtain t|rfl:=h;exact É1 (T := "int") rfl q
 | inr x=>obtain t|rfl:=h;exact É1 (T := "str") rfl q
theorem Zre{vs:æ}(h:∀v∈vs,X4 λ(a:ae) (its:À aa) (k:Key) (c:aa)=>v=.ref a/\Β Ê a ģ/\its[0]? = U c/\ZE (kV k) c){Q:#[hn,ÂO]}(q:∀b,Q (tuples' b) s):ar Ô A ÑA Q E s:=by
 rw[keyKind'_eq];refine ah (w_mapA (λ_ r=>X2 λ(k:Key) (c:aa)=>r=U c/\ZE (kV k) c) _ (λv d=>?_) λf l=>?_)
 ·obtain a|its|k|c|rfl|n|p|g:=h v #[d8,d];exact(its[0]?,(k,c,p,g),λt j=>ZoD n j)
 ·have u:(f.all λx=>x.isSome)=true:=by rw[ÑJ];intro i hi;obtain v|_|k|c|e|_:=l f[i] Ö;rw[e];rfl
  rw[Æ u];refine ah (Ãg (ah ?_));rw[oneTypeOnly'_eq];refine ah (w_mapA (λ_ _=>Àx) _ (λv d=>?_) λts _=>?_)
  ·have m:v∈(Array.filterMap id f).toList:=d;rw[Array.toList_filterMap]at m;rw[sJ,o,y,z,È0,m];obtain _|_|k|c|e|g:=l o y;have B:c=v:=by have:o=U v:=z;rw[e]at this;exact Qv this
   subst B;exact(_,trivial,λt j=>ZqN g j)
  ·split
   ·exact av (av (q _))
   ·exact av (av (q _))
theorem w_sort0{a:ae}{vs:æ}{n:Nat}{P:#[hn,PySem.Fin]}(ha:ÖN)(h2:Ů<2)
  (q:P ÖP { s with Õ:=sortedHeap Ê a vs ((Äw vs).map λx=>ÂQ) }) :
  ar Ô A ÖQ P E s:=by
 have b:ÌV<=aq:=by rw[QE,aO];lia
 rw[dm];refine ah (ÅJ ha rfl ?_ b ÅK);have d:=ÖR;rw[rF,d];refine ah (Ñe ?_ #[d8,b]);rw[lM];refine aU ?_;have e:ÌV<2:=by rw[QE];lia
 have g:(ÉY).size=Ů:=by unfold Äw;simp
 rw[ip,e,e];have f:ÖS:=Qc _ (Qc _ d);rw[kP];show ar _ _ (pure ((),SortSt.mk' general' ÖT #[] 7 af,) >>= _) _ _ _;rw[kP];rw[rF,f];have c:((ÉY).map λx=>ÂQ).size=Ů:=by rw[Array.size_map,g]
 show ar _ _ (ÌX a (λx=>(Äw vs).map λx=>ÂQ) >>= _) _ _ _;refine ah (ÅJ f rfl ?_ ÅK (by show ((ÉY).map λx=>ÂQ).size<=_;rw[c];rw[QE]at b;lia));show ar _ _ (if _ then _ else _) _ _ _;rw[zf,Ö];exact av q
theorem w_sorted0{l:ae}{vs:æ}{Q:ð}(hl:ÖU)(h2:Ů<2)
  (q:Q ÌJ { s with Õ:=ÑB Ê vs ((Äw vs).map λx=>ÂQ) }) :
  ar Ô A (Ĵ Çj Äx) Q E s:=by
 rw[da];have b:Ů<=aq:=by rw[(aO)];lia
 refine ah (av (ah (collect_list hl (ah (ÑC ?_ b)) b)));have a:ÖV:=by rw[ÌY,ÑD]
 have c:ÖW:=by rw[<- a];exact Qt _ rfl
 rw[ay];rw[a];refine ah (aU (cq slot_list_sort (_,c,rfl) ÖX ?_ (args_list_sort _)));exact w_sort0 c h2 (_,rfl,av Çv)
universe E
theorem ZqD{α s:Type}(f:α->s){l m:À s}(h:l.Perm m):∀c:À α,m=Ř f->∃i:À α,i.Perm c/\l=i.map f:=by
 induction h with
 | nil =>
  intro c e;have:c=[]:=by cases c with
   | nil=>rfl
   | Í _ _=>cases e
  subst this;exact([],.nil,rfl)
 | Í x _ t =>
  intro c e;cases c with
  | nil=>cases e
  | Í a r=>rw[Qj]at e;injection e with g d;obtain i|p|j:=t r d;exact(a::i,p.cons a,by rw[Qj,g,j])
 | swap x y l =>
  intro c e;cases c with
  | nil=>cases e
  | Í a r =>
   cases r with
   | nil=>cases e
   | Í b r=>rw[Qj,Qj]at e;injection e with g d;injection d with d j;exact(b::a::r,.swap a b r,by rw[Qj,Qj,g,d,j])
 | trans _ _ k n=>intro c e;obtain o|u|d:=n c e;obtain q|v|g:=k o d;exact(q,v.trans u,g)
theorem Ll{α:Type}:∀l:À α,l.zip l=ÂS λv=>(v,v,)
 | []=>rfl
 | a::r=>by rw[QaG,Ll r];rfl
abbrev Xv:=À (ae×À Key)
def YN(a:Xv):À V:=Ń λt=>ú t.1
def AtT(H:Hp)(a:Xv):Prop:=∀t∈a,H t.1=U #[iq,t.2.map]
theorem Rc:∀ {c:Xv} {us:À aa},ZG (YN c) us->us=Ř λt=>à t.1
 | [],_,h=>by cases h;rfl
 | t::r,_,h=>by
  cases h with
  | Í a b=>rw[Rc b];cases a;rfl
theorem Lk:∀a:Xv,ZG (YN a) Üm
 | []=>.nil
 | t::r=>.cons rfl (Lk r)
def Lj(K:Ä):À V->Hp->VK->Prop:=λxs H Q=>X3 λ(p:ae) (c:Xv) (sh:À Ð)=>xs=Θ/\SqL K H p (YN c)/\AtT H c/\sh≠[]/\(∀t∈c,YE t.2=sh)/\ĵ<64 /\
 ∀ (l:ae) (d:Xv),H l=af->d.Perm c->d.Pairwise Ö4->Q Ă (upd H l #[sr,d])
theorem Zjw{X:Cx}:YZ X Çj (Lj X.K):=by
 rw[iw,S,T,xs];obtain p|f|n|rfl|V|B|W|C|Y|q:=h;rw[eV,Z];rw[fz,rv,J,hz,V];have ei:=Rc rv;subst ei;have A4:#[eW,f,Ê]:=λt g=>by obtain i|v|q|_:=#[sk,B,g];exact(i,v,q)
 have w:(Ün).toList=f.map λt=>(à t.1,à t.1,):=by unfold Äw;rw[Array.toList_zip,Ll,Qo];rfl
 have m:∀ (out:Ā aa) (d:Xv),d.Perm f->d.Pairwise Ö4->Ìs=Âd (λt=>à t.1)->EP X S T Q ÌJ { s with Õ:=ÑB Ê (f.map λt=>à t.1) out }:=λout d l pw eo=>by obtain e|he:=sortedAll_at Ê #[fx,f.map] out;refine(.ref š,_,ÀU (t':=Ŗ) (o:=.lst (YN d)) (λ_ _=>sortedAll_old) (QV _) (?_,Ìs,e,by rw[eo];exact Lk d,by simpa using he),rfl,q _ d Ë7 l pw);unfold YN;rw[Qa,l.length_eq,aO];lia
 by_cases A:Ác<2
 ·refine w_sorted0 J.isList #[ea,Qa,A] (m _ f (.refl _) ?_ ?_)
  ·cases f with
   | nil=>exact .nil
   | Í t r=>have:r=[]:=List.eq_nil_of_length_eq_zero (by rw[QA]at A;lia);subst this;exact QaE _ _
  ·rw[Ö5,w,Qo];rfl
 ·have hk:ÑK (Rg H n) Ün:=λz L=>by rw[w]at L;rw[ed,t,g,L];exact(t.2,by rw[<- C t g];exact Lp (B t g))
  refine w_sorted (κ:=Rg H n) J.isList hk ÅN #[ea,Qa,Y] (λA' s' kp E' Q' q'=>?_) λM p1 p3=>?_
  ·have D:∀ {a:ae} {its:À aa},Β Ê a ģ->Β ÀB a ģ:=λ⟨o,ho,hc⟩=>(o,kp _ _ ho,hc);refine Zre (λv hv=>?_) λb=>q' _ λE2 x y a c Q2 hx hy A=>?_
   ·rw[ed,t,g,hv];obtain i|v|qt:=A4 t g;have N:=C t g;cases O:t.2 with
    | nil=>rw[O]at N;exact È N.symm W
    | Í k kr =>
     rw[O]at v;cases v with
     | Í r1 rr=>exact(t.1,_,k,_,rfl,D qt,rfl,r1)
   ·obtain a1|rfl|pZ|s1:=Lm hx;obtain a2|rfl|qX|s2:=Lm hy;obtain i1|v1|t1|_:=ÃY (ö (K:=X.K) pZ);obtain i2|v2|t2|_:=ÃY (ö (K:=X.K) qX);exact Zui (D t1) (D t2) v1 v2 (s1.trans s2.symm) A
  ·have E:=p1.toList;obtain d|l|e:=ZqD (λt:ae×À Key=>(à t.1,à t.1,)) E f w;refine m _ d l ?_ ?_
   ·rw[List.pairwise_iff_getElem];intro i j hi P DK;have F:(Ün).size=ů:=by rw[<- QaA,w,Qa,l.length_eq]
    have:=p3 i j Á #[ea,F,P];have key:∀k (G:k<ů),KK (Rg H n) (ď M) k=d[k].2:=λk G=>by
     unfold KK;have e1:(ď M)[k]? = U (à d[k].1,à d[k].1,):=by rw[<- QaQ,e,Qp,Qb G];rfl
     rw[e1];have R:d[k]∈f:=l.mem_iff.mp (Q9 G);show ((U2 H n (.ref d[k].1)).getD _)=_;rw[<- C _ R,Lp (B _ R)];rfl
    rw[key i hi,key j P]at this;exact this
   ·rw[Ö5,e,Qo];rfl
theorem ZwM{X:Cx}(K:Ä)(h:X.K=K:=by rfl):YZ X Çj (Lj K):=by subst h;exact Zjw
theorem ZpG(A:aD)(s:aj){k m:Key}{p q:aa}(hp:Ì1)(hq:Ì2)(a:Ì3):∃e,ÐD A s p q e/\(e=true↔k=m):=by
 cases k with
 | inl i =>
  cases m with
  | inl j=>obtain t|rfl:=hp;rw[dn];exact(_,ÕF i t j u,by simp)
  | inr y=>cases a
 | inr x =>
  cases m with
  | inl j=>cases a
  | inr y=>obtain t|rfl:=hp;rw[dn];exact(_,ÕG x t y u,by simp)
theorem ZqS(A:aD)(s:aj){k m:Key}{p q:aa}(hp:Ì1)(hq:Ì2)(a:Ì3)(ñ:ay)(w:aF)(E:ð)(Q:ð)(h:Q (.bool (kLt k m)) s) :
  ar Ô A (Ì4 .Lt p q) Q E s:=by
 cases k with
 | inl i =>
  cases m with
  | inl j=>obtain t|rfl:=hp;rw[dn];exact(Ö0 h:ar Ô A ÖZ Q E s)
  | inr y=>cases a
 | inr x =>
  cases m with
  | inl j=>cases a
  | inr y=>obtain t|rfl:=hp;rw[dn];exact(Ö2 h:ar Ô A Ö1 Q E s)
section
open PySem.SeqAt
open PySem.AutoSeq1 (wpAny_loadPart')
open PySem.MeetsSeq PySem.MeetsSeq2 PySem.MeetsSeq3
theorem Zig(l b:ae)(ő o:Á2)(n M:Nat)(N O:Ġ)(sl P:ν)(ks m:ς)(F:ZG ÅL ÑL)(G:ZG (m.map kV) o.toList)(H:YE ks=YE m) :
  Meets (aT.«tuple.__lt__» ([.ref l,.ref b],[]))
   (λ_ R s=>é l=U { cls:=.type "tuple",ο:=N,Ó:=.seq ő n,ÁV:=sl }/\é b=U { cls:=.type "tuple",ο:=O,Ó:=.seq o M,ÁV:=P } /\
    R (.ok (.ret (.bool (Y4 ks m)))) s) :=
 .of_wp λc w A R s h=>by
  rw[gJ,p,tk,s];rw[g9,Q,S,h,h];have f2:=AutoSeq1.sub_tuple_tuple;have z1:Ãx=Àu:=by have:=F.length;simpa using Ì6
  have z2:o.size=m.length:=by have:=G.length;simpa using Ì6
  have z3:Àu=m.length:=by have:=#[et,H];simpa [YE] using this
  wp_walk using Ö6 Q,Ö6 S,Ö3 _ (λrest b u=>b.1=af/\u=(p,g,d,tk,os)/\X4 λ(r ws:À aa) (f a:À Key)=>Ć=r.zip ws /\
   ZG (f.map kV) r/\ZG (Ń kV) ws/\YE f=YE a/\R (.ok (.ret (.bool (Y4 f a)))) #[f5,p,tk]) _
  case turn =>
   rintro⟨y,x⟩ Ć b u ⟨v,rfl,r,ws,f,a,j,t,z,k,i⟩;cases f with
   | nil=>cases t;rw[rS,List.zip_nil_left,j]
   | Í T kr =>
    cases a with
    | nil=>cases k
    | Í V W =>
     cases t with
     | Í B I =>
      cases z with
      | Í C J =>
       rw[QaG]at j;injection j with D X;injection D with Y Z;subst Y Z;rw[Ut]at i;unfold YE at k;rw[Qj,Qj]at k;injection k with K s2;obtain e|he|L:=ZpG Ãy #[f5,p,tk] B C K;refine ah (he c w _ _ ?_);cases e with
       | true =>
        rw[Æ (L.mp rfl)]at i
        wp_walk
        exact(rfl,rfl,_,_,_,_,X,I,J,s2,i)
       | false =>
        rw[Ç (λq=>È (L.mpr q) Qu)]at i;have E:=ZqS Ãy #[f5,p,tk] B C K c w
        wp_walk using E
        exact(_,rfl,by simpa using i)
  case fin =>
   rintro⟨b1,b2⟩ u ⟨v,rfl,r,ws,f,a,j,t,z,k,i⟩;simp only at v;subst v;have hv:Y4 f a=decide (Ãx<o.size):=by
    rw[ē Á];cases f with
    | nil =>
     cases a with
     | nil=>rfl
     | Í _ _=>cases k
    | Í T kr =>
     cases a with
     | nil=>cases k
     | Í V W =>
      cases t with
      | Í B I =>
       cases z with
       | Í C J=>rw[QaG]at j;cases j
   rw[hv]at i
   wp_walk
   exact(_,rfl,by simpa [aT.Tuple.tupleCompareSizes] using i)
  case h=>exact(rfl,rfl,ÑL,o.toList,ks,m,rfl,F,G,H,h)
universe E
section
variable {ñ:ay} {w:aF} {A:aD} {E:aa->aj->Prop} {s:aj}
theorem ZlQ{l b:ae}{ő c:Á2}{ks a:ς}{Q:ð}(hl:Β Ê l ő)(hb:Β Ê b c)(k:ZG ÅL ÑL)(m:ZG (Ń kV) c.toList)(o:YE ks=YE a)
  (hu:ÂB<ÂC) (h:Q (.bool (Y4 ks a)) s):ar Ô A (Ì4 .Lt Ă ÂT) Q E s:=by
 obtain (cls|p|Ó|q)|d|e|n|f:=id hl;obtain (cls2|r|data2|t)|g|i|u|j:=id hb;simp only at e f i j;subst e f i j;exact richCompare_meets_room (op:=.Lt) (_,d,rfl) (_,g,rfl) PySem.F.slot_tuple_lt PySem.F.entry_tuple_lt (PySem.F.args_tuple_lt_2 _ _) (Zig l b ő c n u p r q t ks a k m o)
  (d,g,show Åc (Y4 ks a)≠aa.notImplemented/\Q (.bool (Y4 ks a)) s from((λx=>nomatch x),h)) hu
universe E
section
variable {ñ:ay} {w:aF}
theorem Zn3{A:aD}{a:Args}:(È7 (.builtin "min.loop" a)).units<=ÂB+1:=by show ÂB+(Code.builtin "min.loop" a).cUnits<=ÂB+1;first|exact Qg _|simp[Code.cUnits,Ðn,Ë3]
theorem P9{A:aD}{R:È6}{l I S:ae}{d:Xv}{sh:Çu}{h0:aI}{kw:Ãj}(D:Á4)(hu:#[h7,4])(E:h0.IsList l #[yG].toArray)
  (s:Âe I=af) (v:Âe S=af) (i:S≠I) (x:#[eW,d,h0]) (y:∀t∈d,YE t.2=sh) (z:aj)
  (q:∀ (h':aI) (t:ae×À Key),#[ft,o,Âe,ý]->t∈d->#[it,d]->R ÑM { z with Õ:=h' }) :
  ∀ (k j:Nat) (h:aI) (t:ae×À Key) (c:Nat),ů-j=k->j<=ů->#[ft,o,Âe,ß]->ÈZ I l j->ß S=U { cls:=.type "list",Ó:=.seq #[.ref t.1,.ref t.1] c }->t∈d ->
   (∀u∈d.take j,Y4 u.2 t.2=false)->bK Ô A Ö7 R { z with Õ:=h }
 | k,j,h,t,c,hk,hj,ą,N,G,B,H=>by
  rw[iF];refine ah (bi G rfl ?_);have O:h.IsList l #[yG].toArray:=by obtain o|m|r:=E;exact(o,ą _ _ m,r)
  by_cases C:j<ů
  ·have J:(#[yG].toArray)[j]? = U (à d[j].1):=by simp[C]
   refine ah (cT (ÏV N O J λg P Q=>?_));have K:#[eT,o,Âe,o,ÆB]:=λb o f=>by
    have n:b≠I:=λe=>by rw[e,s]at f;cases f
    rw[Q.2 b n];exact ą b o f
   have p:Ö8:=by rw[Q.2 S i];exact G
   rw[kP];have L:d[j]∈d:=Q9 C;obtain i1|W|X:=x _ L;obtain i2|Y|Z:=x _ B;have T:∀ {a:ae} {its:À aa},Β h0 a ģ->Β g a ģ:=λ⟨o,m,hc⟩=>(o,K _ _ m,hc);have Ee:YE d[j].2=YE t.2:=(y _ L).trans (y _ B).symm;refine ah (cT (aU (ah (ZlQ (T X) (T Z) #[d8,W] #[d8,Y] Ee (Qa5 Zn3 Á) (ah (aU (bp (ah ÌD))))))));cases f:Y4 d[j].2 t.2 with
   | true =>
    refine ah (ÅJ p rfl ?_ #[gE,2] #[gE,2]);refine ah (dC (av ÅH));refine P9 D hu E s v i x y z q (k-1) (j+1) _ d[j] c Á Á #[iz,b,o,M] ?_ ?_ L (λu hu'=>?_)
    ·have n:S≠b:=λe=>by rw[<- e,v]at M;cases M
     exact Qaa _ n (K b o M)
    ·rw[g9,o,m,r,P];exact(o,Qaa _ i m,r)
    ·have:=ÑN (c := "list") p (λ_=>#[.ref d[j].1,.ref d[j].1]);simpa using this
    ·rw[QH,Qb C]at hu';rcases í hu' with hu'|hu'
     ·have:=H u hu';cases hz:Y4 u.2 d[j].2 with
      | false=>rfl
      | true=>rw[S7 _ _ _ hz f]at this;cases this
     ·have:u=d[j]:=by simpa using hu'
      rw[this];exact S8 _
   | false =>
    refine ah (dC (av ÅH));refine P9 D hu E s v i x y z q (k-1) (j+1) g t c Á Á K P p B (λu hu'=>?_);rw[QH,Qb C]at hu';rcases í hu' with hu'|hu'
    ·exact H u hu'
    ·have:u=d[j]:=by simpa using hu'
     rw[this];exact f
  ·have J:(#[yG].toArray)[j]? = af:=by simp;lia
   refine ah (cT (ÏX D N O J λg V=>?_));have p:Ö8:=V S _ i G;refine ah (ÅJ p rfl ?_ #[gE,2] ÅK);refine ah ÌD;refine q _ t #[iz,b,o,f] B (λu hu'=>H u (by rw[Qx Á];exact hu'));have n:S≠b:=λe=>by rw[<- e,v]at f;cases f
   have nI:b≠I:=λe=>by rw[e,s]at f;cases f
   exact Qaa _ n (V b o nI (ą b o f))
termination_by k=>k
theorem ZnH{A:aD}{R:È6}{l I S:ae}{a:Xv}{sh:Çu}{h0 h:aI}{c:Nat}{kw:Ãj}(z:Á4)(hu:#[h7,4])(B:h0.IsList l (Üm).toArray)
  (j:Âe I=af) (C:Âe S=af) (k:S≠I) (K:#[eW,a,h0]) (L:∀t∈a,YE t.2=sh) (i:aj) (ą:#[eT,o,Âe,o,ß]) (D:ÈZ I l 0) (E:ß S=U { cls:=.type "list",Ó:=.seq #[] c })
  (M:a≠[]\/X3 λn d kr=>kw=(n,d,)::kr/\∀g:aI,#[ft,o,Âe,ÆB]->R (.ok (.ret d)) { i with Õ:=g })
  (q:∀ (g:aI) (t:ae×À Key),#[ft,o,Âe,ÆB]->t∈a->#[it,a]->R ÑM { i with Õ:=g }) :
  bK Ô A Ö7 R { i with Õ:=h }:=by
 rw[iF];refine ah (bi E rfl ?_);have G:h.IsList l (Üm).toArray:=by obtain o|m|r:=B;exact(o,ą _ _ m,r)
 cases a with
 | nil =>
  obtain n|d|kr|rfl|N:=M.resolve_left Ö;refine ah (cT (ÏX z D G Ö λp O=>?_));show ar _ _ (rule _ >>= _) _ _ _;refine ah (Ãg (av ?_));refine N _ λb o f=>?_;have P:b≠I:=λe=>by rw[e,j]at f;cases f
  exact O b o P (ą b o f)
 | Í t r =>
  refine ah (cT (ÏV D G (x:=.ref t.1) Ö λp Q H=>?_));have T:#[eT,o,Âe,o,p.get?]:=λb o f=>by
   have s:b≠I:=λe=>by rw[e,j]at f;cases f
   rw[H.2 b s];exact ą b o f
  have J:p.get? S=U { cls:=.type "list",Ó:=.seq #[] c }:=by rw[H.2 S k];exact E
  rw[kP];show ar _ _ (ÌX S _ >>= _) _ _ _;refine ah (ÅJ J rfl ?_ ÅK #[gE,2]);refine av ÅH;refine P9 z hu B j C k K L i q _ 1 _ t (c+1) rfl Ö #[iz,b,o,v] ?_ ?_ Ö (λu y=>?_)
  ·have s:S≠b:=λe=>by rw[<- e,C]at v;cases v
   exact Qaa _ s (T b o v)
  ·rw[g9,o,m,r,Q];exact(o,Qaa _ k m,r)
  ·have:=ÑN (c := "list") J (λ_=>#[.ref t.1,.ref t.1]);simpa using this
  ·have:u=t:=by simpa using y
   rw[this];exact S8 _
universe E
section
variable {X:Cx}
def Li(K:Ä):À V->Hp->VK->Prop:=λvs H Q=>X3 λ(p:ae) (a:Xv) (sh:À Ð)=>vs=Θ/\SqL K H p (YN a)/\AtT H a/\a≠[]/\(∀t∈a,YE t.2=sh) /\
 ∀t:ae×À Key,t∈a->#[it,a]->Q (.ref t.1) H
theorem ZpS{ñ:ay}{w:aF}{A:aD}{R:È6}{s:aj}{l:ae}{a:Xv}{sh:Çu}{kw:Ãj}{i:Ãj}(k:Á4)(hu:#[h7,4])(r:ÑO l (Üm).toArray)
  (v:(kw=[]/\i=[])\/∃d,kw=Ö9/\i=Ö9)
  (z:#[eW,a,Ê]) (B:∀t∈a,YE t.2=sh)
  (C:a≠[]\/X3 λn d kr=>i=(n,d,)::kr/\∀h':aI,ÑP->R (.ok (.ret d)) { s with Õ:=h' })
  (q:∀ (h':aI) (t:ae×À Key),ÑP->t∈a->#[it,a]->R ÑM { s with Õ:=h' }) :
  bK Ô A (.call ËU { pos:=Äx,kw:=kw }) R s:=by
 refine ÑQ rfl F.entry_min ?_;have D:É2 "min" { pos:=Äx,kw:=kw }=pure ():=by rcases v with⟨rfl,_⟩|⟨d,rfl,_⟩<;>rfl
 rw[D];refine av ?_;have go:∀ {m:aD},m.handled=af->ar Ô m (Ån Ă >>= λE=>Ìr [] >>= λb=>again (.builtin "min.loop" { pos:=[E,.none,b],kw:=i })) (λp j=>match p with
   | Fin.done f=>R (Except.ok f) j
   | Fin.again x=>x.quiet=true/\bK Ô A x R j) (λe j=>R (Except.error e) j) s:=λ{m} hA'=>by
  refine ah (cc r ?_);rw[lM];refine av ÅH;have y:∀b,Î<=b->é b=af:=λb G=>by
   cases e:é b with
   | none=>rfl
   | some o=>exact È (Qq e) (Qbh.mpr G)
  have g:(Àl { cls:=Â9 "list_iterator",Ó:=Data.fields #[à l,Â8 0 0] }).objs.size=Î+1:=ÑD _ _;refine ZnH (h0:=Ê) (c:=0) k hu r (y _ ë) (y _ #[fd,g,QV,_]) #[fd,g,Nat.succ_ne_self,_] z B s (λb o h=>Qc _ (Qc _ h)) (_,Qc _ ÉN,rfl,rfl) ÉN C q
 rcases v with⟨rfl,rfl⟩|⟨d,rfl,rfl⟩
 ·exact go k
 ·exact go k
theorem ZnJ(hc:ŕ)(hu:Ñp):YZ X ËU (Li X.K):=by
 rw[iw,ai,σ,vs];obtain p|ts|sh|rfl|b|c|d|e|q:=h;rw[eV,f];rw[fz,g,j,hz,b];have k:=Rc g;subst k;refine Äe (ZpS (sh:=sh) Á0 Á j.isList Ì7 (λt a=>?_) e (.inl d) λh' t l a m=>?_)
 ·obtain i|v|q|_:=#[sk,c,a];exact(i,v,q)
 ·exact(.ref t.1,H,Ãf (t':=Ŗ) l,rfl,q t a m)
theorem Lh(K:Ä){k:Nat}(hr:ι)(hc:ŕ:=by rfl)(h:X.K=K:=by rfl):YZ X ËU (Li K):=by subst h;exact ZnJ hc Ìl
universe E
section
variable {X:Cx}
def Lg(K:Ä):À V->Hp->VK->Prop:=λvs H Q=>X2 λ(p:ae) (ns:À Int)=>vs=Θ/\SqL K H p ξ/\Č<=1000/\(∀n∈ns,0<=n/\n<=10000000000000)/\Q (.int ns.sum) H
theorem ZnT(hc:ŕ):YZ X #[eM,"sum"] (Lg X.K):=by
 rw[iw,ai,σ,vs];rw[sR,p,a,o,hn,d];rw[eV,t];obtain its|v|w|_:=ÁZ o;have f:=Zl6 v;rw[ep,b,e,f.allInts.items];have g:a=b.toList.map õ:=by rw[<- f.numsOf,<- nums_intItems,<- e]
 have c:b.size=ļ:=by rw[g,Qa,QaA]
 have i:numAt b=λj=>Éx j 0:=by funext j;rw[numAt_eq,g]
 have k:=w.isList;rw[e]at k;have bound:∀n,n<=ļ->0<=(a.take n).sum/\(a.take n).sum<=10000000000000*n:=by
  intro n;induction n with
  | zero=>intro _;exact(by simp,by simp)
  | succ n l =>
   intro h;have l:=l Á;have x:=d a[n] (Q9 Á);have y:a.take (n+1)=a.take n++[a[n]]:=by rw[QH,Qb Á];rfl
   rw[y,QaN];have z:([a[n]]:À Int).sum=a[n]:=by simp
   rw[z];lia
 refine sum_intList Á0 k (λj hj=>?_) λh' tk A B=>(.int _,H,Ãf B,(A,rfl),?_)
 ·rw[i];have x:=d a[j] (Q9 Á);have m:Éx j 0=a[j]:=by rw[QP,Qb Á];rfl
  have hp:=bound (j+1) Á;refine((?_,?_),Ìp)
  ·show -(2 ^ 63)<=Éx j 0;rw[m];lia
  ·show Éx j 0<2 ^ 63;rw[m];lia
  ·rw[S9 a (j+1) Á];lia
  ·rw[S9 a (j+1) Á];lia
 ·rw[i,c,S9 a ļ ë,Qx ë];exact q
theorem P8(K:Ä)(hc:ŕ:=by rfl)(h:X.K=K:=by rfl):YZ X #[eM,"sum"] (Lg K):=by subst h;exact ZnT hc
universe E
universe E.L2
namespace Hf
open L2
abbrev PW:=À (Int×Nat)
def val(P:PW):Int:=(ÀX λp=>p.1*(p.2:Int)).sum
def ws(P:PW):À Int:=ÀX õ
def ds(P:PW):À Nat:=ÀX Ę
def zs(z:Nat):À Int:=ÁA z 0
def kr(w E:Nat)(D:Ş):Nat:=(D.map λd=>w ^ (E-d)).sum
inductive Hu (w:Nat):À Int->Nat->Int->Prop
 | stop {e:Int} {m:Nat}:Hu w [e] m 0
 | step {E L:À Int} {m:Nat} {C:Int}:1<Àv->E.Perm L->L.Pairwise (·<=·)->Hu w (L.drop m++[(L.take m).sum]) w C->Hu w E m (C+(L.take m).sum)
def Fit(w n m:Nat):Prop:=n=1\/∃t,n=m+t*(w-1)
structure Fits (w n m:Nat):Prop where
 w2:2<=w
 m2:2<=m
 mw:m<=w
 ok:Fit w n m
universe E.Hf
namespace L2
open PySem PySem.Spec PyProof.Rows
section
variable {ñ:ay} {w:aF} {A:aD} {R:Ég->aj->Prop} {s:aj}
theorem Zh5{c d b Ĳ:aK}{f:ı}{k:bj}{pos:Pos}{it:aa}{D:ae}{env:Env}{E:ð}(I:#[hn,Nat])
  (G:∀e s',E e s'->ĕ)
  (turn:∀n s,I n s->ar Ô A (Ãh it) (λr g=>match r with
   | none=>R Çg g
   | some v=>ar Ô A (dD b it v) (λ_ ÀQ=>ar Ô A (Âz b env v) (λ_ l =>
     ar Ô A (Rm f env) (λok i =>
      if ok=true then ar Ô A (ā c env) (λo p=>ar Ô A (ā d env) (λu y =>
       ar Ô A (dictSet D o u) (λ_ B=>∃m,m<n/\I m B) E y) E p) E i
      else ∃m,m<n/\I m i) E l) E ÀQ) E g) E s)
  (n:Nat) (h:I n s):bK Ô A (.compLoop #[hU,c,b,f,k] 0 it Ι env) R s:=by
 have go:ÕV:=
  λ{j t Q s} q=>ba q ÉD λe s' z=>(G e s' z).elim
 refine codeAny_loop rfl I #[iz,n,s,H] n h;show ar _ A ((compTurn #[hU,c,b,f,k] 0 it Ι env).onRaise (λx=>do Çh x env;ÕW x)) _ _ s;refine wpAny_noted ?_;rw[compTurn_dict];refine ah (bx (ah (thn (go (turn n s H)) λr g C=>?_)));cases r with
 | none=>exact av C
 | some v =>
  refine ah (thn (go C) λ_ ÀQ a=>ah (thn (go a) λ_ l J=>ah (thn (go J) λok i F=>?_)));cases ok with
  | false=>exact av (rfl,F)
  | true=>exact ah (ah (thn (go F) λo p K=>ah (aU (thn (go K) λu y L=>ah (bx (aU (thn (go L) λ_ B M=>av (rfl,M))))))))
universe E
section
variable {κ:Type} [ÈD κ]
def Y5(kvs:ÀF)(k:κ):Ã V:=(kvs.find? λa=>decide (a.1=k)).map Ę
def YX(kvs:ÀF)(k:κ)(v:V):À (κ×V) :=
 if Ì8=true then Ãz (λa=>if a.1=k then (a.1,v,) else a) else kvs++[(k,v,)]
def WO(kvs:ÀF)(k:κ):À (κ×V):=kvs.filter λa=>decide (a.1≠k)
theorem Us{p:κ×V}{r:ÀF}{k:κ}(e:p.1=k):Y5 (p::r) k=U p.2:=by simp[Y5,Ât,e]
theorem Ur{p:κ×V}{r:ÀF}{k:κ}(e:¬ p.1=k):Y5 (p::r) k=Y5 r k:=by simp[Y5,Ât,e]
theorem S5(k:κ):∀kvs:À (κ×V),Ì8=(Ía).isSome
 | []=>rfl
 | p::r=>by
  rw[Qa3];by_cases e:p.1=k
  ·simp only[Us e,Ĉ e,Bool.true_or,Option.isSome_some]
  ·rw[Ur e,ē e,Bool.false_or];exact S5 k r
theorem S4(kvs:ÀF)(k:κ)(v:V):(ÑT).length<=ø+1:=by
 unfold YX;split
 ·rw[Qa];lia
 ·rw[Qi,QA,ÅD];lia
theorem U1{kvs:ÀF}{k:κ}(v:V)(h:Y5 kvs k=af):YX kvs k v=kvs++[(k,v,)]:=by unfold YX;rw[S5,h];exact Ç Ë
theorem Yo.isSome_eq{o:Ã V}{u:Ã5}(r:Yo o u):Ì9=u.isSome:=by
 cases o with
 | none=>cases u with
  | none=>rfl
  | some _=>exact#[iM].elim
 | some _=>cases u with
  | none=>exact#[iM].elim
  | some _=>rfl
theorem Yo.getD{o:Ã V}{u:Ã5}{d:V}{d':aa}(r:Yo o u)(rd:ZE d d'):ZE (É3 d) (u.getD d'):=by
 cases o with
 | none=>cases u with
  | none=>exact rd
  | some _=>exact#[iM].elim
 | some _=>cases u with
  | none=>exact#[iM].elim
  | some _=>exact r
theorem KV.val{kvs:ÀF}{vs:Çw}(r:Äz)(k:κ):Yo Ía (ÄA vs k):=by
 unfold KV at r;induction r with
 | nil=>exact ŭ
 | @Í p q ps a h t f =>
  rw[ep,d,g,h];by_cases e:p.1=k
  ·have c:q.1=k:=d.symm.trans e;have b:ÄA (q::a) k=U q.2:=by simp[ÄA,Ât,c]
   rw[Us e,b];exact g
  ·have c:¬ q.1=k:=λz=>e (ÆH z);have b:ÄA (q::a) k=ÄA a k:=by simp[ÄA,Ât,c]
   rw[Ur e,b];exact f
theorem KV.any{kvs:ÀF}{vs:Çw}(r:Äz)(k:κ):Ì8=vs.any λa=>decide (a.1=k):=by
 unfold KV at r;induction r with
 | nil=>rfl
 | Í h t b=>rw[Qa3,Qa3,b,h.1]
theorem KV.repl{kvs:ÀF}{vs:Çw}(r:Äz)(k:κ){y:V}{u:aa}(c:ZE y u) :
  KV (Ãz λa=>if a.1=k then (a.1,y,) else a) (vs.map λa=>if a.1=k then (a.1,u,) else a):=by
 unfold KV at r ⊢;induction r with
 | nil=>exact .nil
 | @Í p q ps qs h t d =>
  rw[Qj,Qj];refine .cons ?_ d;rw[ep,b,f,h];by_cases e:p.1=k
  ·rw[Æ e,Æ (b.symm.trans e)];exact(b,c)
  ·rw[Ç e,Ç (λz=>e (b.trans z))];exact(b,f)
theorem KV.put{kvs:ÀF}{vs:Çw}(r:Äz)(k:κ){y:V}{u:aa}(a:ZE y u):KV (YX kvs k y) (É4 vs k u):=by
 unfold YX É4;rw[r.any k];by_cases e:(vs.any λb=>decide (b.1=k))=true
 ·rw[ip,e,e];exact r.repl k a
 ·rw[hD,e,e];exact Paired.snoc r (rfl,a)
theorem KV.drop{kvs:ÀF}{vs:Çw}(r:Äz)(k:κ):KV (WO kvs k) (without vs k):=by
 unfold KV at r ⊢;unfold WO without;induction r with
 | nil=>exact .nil
 | @Í p q ps qs h t d =>
  rw[ep,c,f,h];rw[Øa,Øa];by_cases e:p.1=k
  ·have a:¬ decide (p.1≠k)=true:=by simp[e]
   have b:¬ decide (q.1≠k)=true:=by simp[c.symm.trans e]
   rw[hD,a,b];exact d
  ·have g:¬ q.1=k:=λz=>e (c.trans z);have a:decide (p.1≠k)=true:=by simp[e]
   have b:decide (q.1≠k)=true:=by simp[g]
   rw[ip,a,b];exact .cons (c,f) d
theorem KV.length{kvs:ÀF}{vs:Çw}(r:Äz):ø=Ů:=Ïo r
theorem Zrl(kvs:ÀF)(k:κ):(WO kvs k).length<=ø:=QaR _ _
universe E
theorem WN{P:ay}{w:aF}{k:Key}{u:aa}(r:ZE (kV k) u):(ÆA).is k u=true:=by
 cases k with
 | inl i=>obtain t|e:=#[eB,t,Â8,i,r];subst e;exact Zlt P w i t
 | inr x=>obtain t|e:=#[eB,t,Áq,x,r];subst e;exact ZkJ P w x t
theorem Lf{P:ay}{w:aF}:∀ {ks:À Key} {us:À aa},ZG ÅL us->ItemsAre ÆA ks us
 | [],_,r=>by rw[QaZ]at r;cases r;exact .nil
 | k::ks,_,r=>by
  rw[Qj]at r;cases r with
  | Í h t=>exact .cons (WN h) (Lf t)
abbrev KT(H:Hp):À (À Key×V)->À (À Key×ae×aa)->Prop:=Åd λp q=>p.1=q.1/\H q.2.1=U #[iq,p.1.map]/\ZE p.2 q.2.2
theorem KT.val{H:Hp}{kvs:ÄB}{xs:Íb}(r:Íc)(k:ς):Yo Ía ((ÃA xs k).map Ę):=by
 induction r with
 | nil=>exact ŭ
 | @Í p q ps a h t f =>
  obtain d|_|g:=h;by_cases e:p.1=k
  ·have c:q.1=k:=d.symm.trans e;have b:ÃA (q::a) k=U q.2:=by simp[ÃA,Ât,c]
   rw[Us e,b];exact g
  ·have c:¬ q.1=k:=λz=>e (ÆH z);have b:ÃA (q::a) k=ÃA a k:=by simp[ÃA,Ât,c]
   rw[Ur e,b];exact f
theorem KT.repl{H:Hp}{kvs:ÄB}{xs:Íb}(r:Íc)(k:ς){y:V}{u:aa}(d:ZE y u) :
  KT H (Ãz λb=>if b.1=k then (b.1,y,) else b) (ÈE (putAt k u)):=by
 induction r with
 | nil=>exact .nil
 | @Í p q ps qs h t f =>
  rw[Qj,Qj];refine .cons ?_ f;rw[g9,a,c,g,h];unfold putAt;by_cases e:p.1=k
  ·rw[Æ e,Æ (a.symm.trans e)];exact(a,c,d)
  ·rw[Ç e,Ç (λz=>e (a.trans z))];exact(a,c,g)
theorem KT.put{H:Hp}{kvs:ÄB}{xs:Íb}(r:Íc)(k:ς){b:ae}{y:V}{u:aa}(hb:ÑR)(a:ZE y u) :
  KT H (YX kvs k y) (storedH xs k b u):=by
 have e:(kvs.any λc=>decide (c.1=k))=(ÃA xs k).isSome:=by rw[S5,(r.val k).isSome_eq,Øb]
 unfold YX storedH;rw[e];by_cases q:(ÃA xs k).isSome=true
 ·rw[ip,q,q];exact r.repl k a
 ·rw[hD,q,q];exact Paired.snoc r (rfl,hb,a)
theorem KT.keeps{H a:Hp}{kvs:ÄB}{xs:Íb}(r:Íc)(ht:#[yX,b,ys,a]):KT a kvs xs :=
 Ëw r λ_ _ z=>(z.1,ht _ _ z.2.1,z.2.2)
section
variable {P:ay} {w:aF} {H:Hp} {h:aI} {a:ae}
theorem Le{u:HO}(ok:À5)(e:Rd H a u):Z7 P w H h a u:=e.ok ok
theorem Wm{kvs:Œ}(ok:À5)(e:Rd H a ÁG):ø<=aq/\Ãa=false/\∃vs,KV kvs vs/\h.DictOf ÆA a vs :=
 show Z7 P w H h a ÁG from Le ok e
theorem S0{kvs:Œ}(ok:À5)(e:É5):ø<=aq/\Ãa=false/\∃vs,KV kvs vs/\h.DictOf ÆA a vs:=Wm ok (.inl e)
theorem VB{ks:ς}(ok:À5)(e:H a=U Ì0):(Ïq).is h ks a:=by obtain _|its|r|o|b|c|n|d:=(show Z7 P w H h a Ì0 from ok a _ e);exact(o,ģ,n,b,c,d,by simpa using Lf r)
theorem Wa{kvs:ÄB}(ok:À5)(e:Rd H a (.dT kvs)):ø<=aq/\Ãa=false /\
  ∃xs,KT H kvs xs/\h.DictOfH Ïq a xs:=by
 obtain z|y|xs|r|o|c|d|f|g|i|j|k:=(show Z7 P w H h a (.dT kvs) from Le ok e);refine(z,y,xs,r,o,c,d,f,g,i,j,λx hx=>?_,k);have all:∀ {l:À (À Key×V)} {m:À (À Key×ae×aa)},KT H l m->∀x∈m,(Ïq).is h x.1 x.2.1:=by
  intro l m q;induction q with
  | nil=>intro x hx;exact nomatch hx
  | @Í p q ps qs b t n =>
   intro x hx;rcases ĩ hx with e|hx
   ·subst e;exact VB ok #[eP,b.1,b.2.1]
   ·exact n x hx
 exact all r x hx
theorem Zvk{kvs:ÄB}(ok:À5)(e:ÑS):ø<=aq/\Ãa=false /\
  ∃xs,KT H kvs xs/\h.DictOfH Ïq a xs:=Wa ok (.inl e)
universe E
def Z9(H:Hp)(a:ae)(y:V)(r:Ã V):Prop :=
 (X2 λc k=>Rd H a (.dK c)/\y=kV k/\r=Y5 c k)\/X3 λc k b=>Rd H a (.dT c)/\y=.ref b/\H b=U #[iq,k.map]/\r=Y5 c k
def XH(H:Hp)(a:ae)(y v:V)(d:Hp):Prop :=
 (X2 λc k=>H a=U (.dK c)/\y=kV k/\ĵ<aq/\d=upd H a (.dK (YX c k v))) \/
 X3 λc k b=>H a=U (.dT c)/\y=.ref b/\H b=U #[iq,k.map]/\ĵ<aq/\d=upd H a (.dT (YX c k v))
theorem Z9.k{H:Hp}{a:ae}{kvs:Œ}{k:Key}(e:É5):Z9 H a (kV k) Ía:=.inl (kvs,k,.inl e,rfl,rfl)
theorem Z9.t{H:Hp}{a b:ae}{kvs:ÄB}{k:ς}(e:ÑS)(c:ÑR):Z9 H a ÂT Ía:=.inr (kvs,k,b,.inl e,rfl,c,rfl)
theorem XH.k{H:Hp}{a:ae}{kvs:Œ}{k:Key}{v:V}(e:É5)(hl:ø<aq):XH H a (kV k) v (upd H a (.dK ÑT)):=.inl (kvs,k,e,rfl,hl,rfl)
theorem XH.t{H:Hp}{a b:ae}{kvs:ÄB}{k:ς}{v:V}(e:ÑS)(c:ÑR)(hl:ø<aq) :
  XH H a ÂT v (upd H a (.dT ÑT)):=.inr (kvs,k,b,e,rfl,c,hl,rfl)
section
variable {X:Cx} {ai:À (ae×aN)} {σ:St} {H:Hp} {s:aj} {a:ae} {y v:V} {u r:aa} {o:Ã V} {A:aD} {E:aa->aj->Prop}
theorem Inv.big(I:ä):bC<Î:=by have h:#[s0,aL]:=#[yr].lt;exact Qbb Ë h
theorem Zow{Q:ð}(hu:#[h7,1])(I:ä)(g:Z9 H a y (U v))(n:ZE y u)(h:#[yU,d,H]) :
  ar Ĝ A (Ça Ħ u) Q E s:=by
 rcases g with⟨f,k,e,i,l⟩|⟨f,k,b,e,i,q,l⟩
 ·rw[g6,i,r,t,j];obtain d|hw|m:=È8 (v:=v) (o:=ÄA t k) #[fd,l,ÄC,k];exact Øc (WN n) j.mapOf hw (h d _ ÂA m)
 ·rw[eJ,i,n,r,w,j];obtain d|hw|m:=È8 (v:=v) (o:=(ÃA w k).map Ę) #[fd,l,ÄC,k];rw[sJ,p,x,B,Qbc.mp,hw];refine wpAny_getItem_heap (bV hu) (VB ê q) j x ?_;rw[(B)];exact h d _ ÂA m
theorem ZwQ{Q:ð}(hu:#[h7,1])(I:ä)(g:É6)(m:ZE y u)(h:∀s',Inv X ai σ H s'->Q (.bool Ì9) s') :
  ar Ĝ A (aR .In u Ħ) Q E s:=by
 rcases g with⟨d,k,e,f,l⟩|⟨d,k,b,e,f,n,l⟩
 ·rw[g6,f,i,vs,j];refine wpAny_in_of (WN m) i j.mapOf ?_;rw[oV]
 ·rw[eJ,f,m,i,xs,j];refine wpAny_in_heap (bV hu) (VB ê n) i j ?_;rw[iG]
theorem Zsv{Q:ð}(hu:#[h7,1])(I:ä)(g:É6)(m:ZE y u)(h:∀s',Inv X ai σ H s'->Q (.bool (!o.isSome)) s') :
  ar Ĝ A (aR .NotIn u Ħ) Q E s:=by
 rcases g with⟨d,k,e,f,l⟩|⟨d,k,b,e,f,n,l⟩
 ·rw[g6,f,i,vs,j];refine wpAny_notIn_of (WN m) i j.mapOf ?_;rw[oV]
 ·rw[eJ,f,m,i,xs,j];refine wpAny_notIn_heap (bV hu) (VB ê n) i j ?_;rw[iG]
theorem Uq{h':aI}{t':Nat}{ob:HO}(I:ä)(c:Mut (H a))(d:#[y0,a,Ê,h'])(he:∃q,ý a=U q)(new:Z7 ù X.w (upd H a ob) h' a ob) :
  Inv X ai σ (upd H a ob) { s with Õ:=h',ï:=t' } :=
 Ås (x:=a) (e:=a) c Ė (λb q f z=>(d.2 b f).trans z) he new
theorem Up{P:ay}{w:aF}{b:Hp}{h':aI}{kvs:Œ}{vs:À (Key×aa)}(z:ø<=aq)(hd:Ãa=false)(rel:Äz)(c:h'.DictOf ÆA a vs) :
  Z7 P w b h' a ÁG:=(z,hd,vs,rel,c)
theorem Zol{B:Hp}{Q:ÁX}(hu:#[h7,1])(I:ä)(g:XH H a y v B)(C:ZE y u)(D:ZE v r)(h:∀s',Inv X ai σ B s'->Q () s') :
  ar Ĝ A (setItem Ħ u r) Q E s:=by
 rcases g with⟨d,k,e,m,l,n⟩|⟨d,k,b,e,m,F,l,n⟩
 ·subst m n;rw[h9,o,K,f,p,S0];have t:K.length<=aq:=by rw[<- Ác];exact z
  have w:(YX d k v).length<=aq:=by have:=S4 d k v;lia
  refine wpAny_setItem_pairs (hsz:=t) (WN C) p λG i x=>h _ ?_;have L:∃q,G.get? a=U q:=let ⟨q,_,_,j,_⟩:=i;(q,j);exact Uq I Éb x L (Up w o (f.put k D) i)
 ·subst m n;cases (show u=à b from C);rw[h9,o,M,f,p,Zvk];have t:ÀG<=aq:=by rw[<- Ïo f];exact z
  have w:(YX d k v).length<=aq:=by have:=S4 d k v;lia
  refine wpAny_setItem_heap (hsz:=t) (bV hu) (VB ê F) p λG i x=>h _ ?_;obtain q|N|O|j|P|R|S|_|T:=i;refine Uq I Éb x (q,j) (w,o,_,(f.put k F D).keeps λc ys J=>?_,q,N,O,j,P,R,S,T);rw[Zc (RK J e Àn)];exact J
universe E
section
variable {X:Cx} {ai:À (ae×aN)} {σ:St} {H:Hp} {s:aj} {a:ae} {kvs:À (Key×V)} {k:Key} {u:aa} {A:aD} {E:aa->aj->Prop}
theorem Zvg{v:V}{ė:æ}{Q:ð}(I:ä)(e:É5)(d:ZE (kV k) u)(l:Y5 kvs k=U v)(hm:ė=[]\/∃x,ė=[x])
  (h:#[yU,c,Ød]):ar Ĝ A (Ĵ #[eM,"dict.pop"] (.ref a::u::ė)) Q E s:=by
 rw[h9,m,f,b,g,S0];obtain c|hw|n:=È8 (v:=v) (o:=ÄA f k) (by rw[<- l];exact b.val k);have p:(keyPart u).isSome=true:=by
  cases k with
  | inl i=>obtain t|q:=Ðm;subst q;rfl
  | inr x=>obtain t|q:=#[eB,t,Áq,x,d];subst q;rfl
 have r:argsOk "dict.pop" (.ref a::u::ė,[]):=by
  rcases hm with q|⟨x,q⟩
  ·subst q;exact PySem.F.args_dict_pop_2 _ _
  ·subst q;exact PySem.F.args_dict_pop_3 _ _ _
 refine ÅO QaS g.typeIs PySem.F.entry_dict_pop r (meets_dict_pop_there Âf a (WN d) ė hm p)
  (f,c,g,by rw[<- Ĥ];exact z,hw,λw j y=>h c _ ?_ n)
 have B:∃q,w.get? a=U q:=let ⟨q,_,_,C,_⟩:=j;(q,C);exact Uq I Éb y B (Up (Qk (Zrl kvs k) z) m (b.drop k) j)
theorem Zwa{Q:ð}(I:ä)(e:Rd H a ÁG)(h:∀t s',Inv X ai σ H s'->Q (.int ø t) s'):ar Ĝ A (Ĵ Çd η) Q E s:=by obtain z|c|vs|b|d:=Wm ê e;refine call_len_dict c d (by rw[<- Ĥ];rw[(aO)]at z;lia) ?_;rw[<- Ĥ];exact h _ _ ÂA
universe E
theorem ZkR{X:Cx}{f:ć}{h:St}{H:Hp}{s:aj}{a:ae}{y:V}{o:Ã V}(I:Inv X f h H s)(g:É6):Æ9 Ħ "dict":=by
 rcases g with⟨c,k,e,_,_⟩|⟨c,k,b,e,_,_,_⟩
 ·obtain _|_|vs|_|d:=Wm ê e;exact Ém
 ·obtain _|_|xs|_|d:=Wa ê e;exact Ém
theorem P7{P:ay}{w:aF}{H:Hp}(h:aI)(hb:bC<ĺ):Z7 P w H Üo ĺ ÄD :=
 (Qs _,Æy (Ás (Qz hb)),[],.nil,aI.DictOf.new h)
def ZuE:TE:=λ_ H Q=>∀p,H p=af->Q Ż (upd H p ÄD)
section
variable {X:Cx} {pos:Pos}
theorem P6:PE X (.Dict [] [] pos) ZuE:=λai s σ H Q I h =>
 ÖL (.ref Î,_,ÀU (a:=Éc) (o:=.dK []) (t':=Ŗ) Ér ë (P7 Ê I.big),rfl,h _ Ãm)
universe E
def P0:À (TE×TE)->St->Hp->(À (V×V)->Hp->Prop)->Prop
 | [],_,H,Q=>Q [] H
 | (tk,b,)::r,a,H,Q=>tk a H λx c=>b a c λy d=>P0 r a d λps e=>Q ((x,y,)::ps) e
abbrev VV:À (V×V)->À (aa×aa)->Prop:=Åd λp q=>ZE p.1 q.1/\ZE p.2 q.2
def PPs(X:Cx)(pos:Pos)(e:ÑU)(f:ı)(g:Íd):Prop :=
 ∀ (b:À (ae×aN)) (s:aj) (a:St) (H:Hp) (Q:À (V×V)->Hp->Prop),Inv X b a H s->P0 g a H Q ->
  ó (evalPairs (pairTrees e f Ì pos)) (λh i=>X2 λc d=>Inv X b a d i/\VV c h/\Q c d) è s
theorem Zsn{X:Cx}{pos:Pos}:PPs X pos [] [] []:=λai s σ H Q I h=>pairTrees_nil_walk ([],H,I,.nil,h)
theorem Ld{X:Cx}{pos:Pos}{k v:aK}{ks:ÑU}{vs:ı}{tk d:TE}{e:Íd}(hk:PE X k tk)(f:PE X v d)(hr:PPs X pos ks vs e) :
  PPs X pos (U k::ks) (v::vs) ((tk,d,)::e):=λa s b H Q I h =>
 pairTrees_cons_walk (thn #[eu,hk,a,b] λu g ⟨x,i,j,l,m⟩=>thn (f a g b i _ j m) λw2 n ⟨y,o,p,q,r⟩=>
  thn (hr a n b o _ p r) λws s3 ⟨t,w,z,c,A⟩=>((x,y,)::t,w,z,.cons (l,q) c,A))
def WA(kvs ė:Œ):À ÁH:=more.foldl (λb a=>YX b a.1 a.2) kvs
theorem KV.merge:∀ {ė:À (Key×V)} {a:À (Key×aa)} {kvs:À (Key×V)} {vs:À (Key×aa)},KV ė a->KV kvs vs->KV (WA kvs ė) (ÅP vs a):=by
 intro ė a kvs vs r;unfold KV at r;induction r generalizing kvs vs with
 | nil=>intro q;exact q
 | @Í p q ps qs h t b =>
  intro c;have e:KV ÑV (É4 vs q.1 q.2):=by have:=c.put p.1 h.2;rw[<- h.1];exact this
  exact b e
theorem PZ:∀ (ė kvs:À (Key×V)),(WA kvs ė).length<=ø+more.length
 | [],kvs=>by show ø<=ø+0;lia
 | p::r,kvs=>by have h1:=PZ r ÑV;have h2:=S4 kvs p.1 p.2;show (WA ÑV r).length<=_;rw[QA];lia
theorem Lb{P:ay}{w:aF}:∀ {kvs:À (Key×V)} {ws:À (aa×aa)},VV (Ãz λe=>(kV e.1,e.2,)) ws->∃d,Carries ÆA ws d/\KV kvs d
 | [],_,r=>by rw[QaZ]at r;cases r;exact([],ŭ,.nil)
 | p::kvs,_,r=>by
  rw[Qj]at r;cases r with
  | @Í a b as bs h t=>obtain d|c|q:=Lb (P:=P) (w:=w) t;rw[ep,b1,f,b];exact((p.1,f,)::d,(WN h.1,rfl,c),.cons (rfl,h.2) q)
def Zvv(c:Íd):TE:=λd H Q=>∀p,H p=af->P0 c d (upd H p ÄD) λps a=>a p=U ÄD/\∃kvs:À (Key×V),ps=Ãz (λb=>(kV b.1,b.2,))/\ø<=15/\Q Ż (upd a p (.dK (WA [] kvs)))
theorem ZsC{X:Cx}{pos:Pos}{b:ÑU}{f:ı}{i:Íd}(h:PPs X pos b f i)(l:b.all (·.isSome)=true)(hl:Ĥ=Ác)(h0:b≠[])
  (m:Ĥ<=15):PE X (.Dict b f pos) (Zvv i):=by
 intro n s p H Q I q;have r:=ÆG (Qg Î);have t:=ÀU (a:=Éc) (o:=.dK []) (h':=Àl { cls:=.type "dict",Ó:=.dict #[] }) (t':=Ŗ) Ér ë (P7 Ê I.big);refine wpAny_Dict_walk (knd:=Íe) l hl h0 m (thn (h n _ p _ _ t (q _ r)) ?_);rintro ws s2 ⟨ps,H2,j,g,e,d,u,lk,v⟩;subst u;obtain x|c|y:=Lb (P:=ù) (w:=X.w) g;obtain z|A|vs0|B|C:=S0 j.hok e;cases B;refine(x,c,C,λh' k D=>(.ref Î,_,?_,rfl,v));have E:(WA [] d).length<=aq:=by have F:=PZ d [];rw[ÅD]at F;rw[(aO)];lia
 have G:∃q,ý Î=U q:=let ⟨q,_,_,J,_⟩:=k;(q,J);exact Uq j Éb D G (Up E A (y.merge .nil) k)
structure M1 (X:Cx) (o:aK) (m:ak) (bu:Pos) (e:aK) (bq:Pos):Prop where
 Â:bE o m Ì #[fg,o]=ā o Ì
 few:((bn bq ÑW).all (λx=>!x.1)&&#[lF].all ÐF
  && decide (([e]:À aK).length+#[ui].length+ÐG<30))=true
 line:Ìh=true
 trees:bn bq ÑW=[Ée]
structure M2 (X:Cx) (o:aK) (m:ak) (bu:Pos) (e f:aK) (bq:Pos):Prop where
 Â:bE o m Ì #[fg,o]=ā o Ì
 few:((bn bq ÑX).all (λx=>!x.1)&&#[lF].all ÐF
  && decide (([e,f]:À aK).length+#[ui].length+ÐG<30))=true
 line:Ìh=true
 trees:bn bq ÑX=Øe
def IsD(H:Hp)(a:ae):Prop:=(∃kvs,Rd H a ÁG)\/∃kvs,Rd H a (.dT kvs)
theorem La{X:Cx}{j:ć}{k:St}{H:Hp}{s:aj}{a:ae}(I:Inv X j k H s)(d:IsD H a) :
  Æ9 Ħ "dict"/\(∀b,à a=.ref b->∃ob,é b=U ob/\ob.dict=af)/\Ãa=false:=by
 rcases d with⟨f,e⟩|⟨f,e⟩
 ·obtain _|g|vs|_|c:=Wm ê e;rw[dE]
 ·obtain _|g|xs|_|c:=Wa ê e;rw[dE]
section
variable {X:Cx} {ai:À (ae×aN)} {σ:St} {H:Hp} {s:aj} {a:ae} {y d:V} {u r:aa} {o:Ã V} {A:aD} {E:aa->aj->Prop}
theorem ZtN{Q:ð}(hu:#[h7,1])(I:ä)(g:É6)(m:ZE y u)(h:∀n s',Inv X ai σ H s'->ZE (É3 .non) n->Q n s') :
  ar Ĝ A (Ĵ #[eM,"dict.get"] [.ref a,u]) Q E s:=by
 rcases g with⟨f,k,e,i,l⟩|⟨f,k,b,e,i,p,l⟩
 ·rw[g6,i,j,vs,d];refine ÅO Qai Ém QaH Øf (meets_dict_get Âf a (WN m) j) (_,d.mapOf,h _ _ ÂA ?_);rw[l];exact(ÄC k).getD rfl
 ·rw[eJ,i,m,j,q,d];refine ÅO Qai Ém QaH Øf (meetsH_dict_get (ÑY Âf) a b j) (bV hu,k,q,VB ê p,d,h _ _ ÂA ?_);rw[l];exact(ÄC k).getD rfl
theorem Zul{Q:ð}(hu:#[h7,1])(I:ä)(g:É6)(n:ZE y u)(rd:ZE d r)(h:∀p s',Inv X ai σ H s'->ZE (É3 d) p->Q p s') :
  ar Ĝ A (Ĵ #[eM,"dict.get"] [.ref a,u,r]) Q E s:=by
 rcases g with⟨i,k,e,j,l⟩|⟨i,k,b,e,j,q,l⟩
 ·rw[g6,j,m,vs,f];refine ÅO Qai f.typeIs QaH Øg (meets_dict_get_default Âf a (WN n) m r) (_,f.mapOf,h _ _ ÂA ?_);rw[l];exact(ÄC k).getD rd
 ·rw[eJ,j,n,m,t,f];refine ÅO Qai f.typeIs QaH Øg (meetsH_dict_get_default (ÑY Âf) a b m r) (bV hu,k,t,VB ê q,f,h _ _ ÂA ?_);rw[l];exact(ÄC k).getD rd
universe E
def K9(e ty:TE):TE:=λb H Q=>e b H λx c=>∃a,x=.ref a/\IsD c a/\ty b c λy d=>∃o,Z9 d a y o/\Q (É3 .non) d
def K8(e ty f:TE):TE:=λb H Q=>e b H λx c=>∃a,x=.ref a/\IsD c a/\ty b c λy g=>f b g λz d=>∃o,Z9 d a y o/\Q (É3 z) d
section
variable {X:Cx} {o e f:aK} {bu bq:Pos} {td ty tx:TE}
theorem Zqz(hu:ÉV+1<ÂC)(i:PE X o td)(he:PE X e ty)(m:M1 X o "get" bu e bq):PE X (.Call #[r5,"get",bu] [e] [] bq) (K9 td ty):=by intro b s c H Q I h;refine Øh m.base m.few m.line Q5 Qai Øi #[ei,i,b,c];rintro u j ⟨x,k,f,l,a,ex,d,n⟩;subst ex;obtain rfl:u=à a:=l;obtain p|q|_:=La f d;refine(p,q,?_);rw[m.trees];refine Éq rfl (ÐH (ÆW (thn (he b j c k _ f n) λiv s2 ⟨y,r,t,v,ov,g,w⟩=>Ðo ?_)));exact ZtN hu t g v λw' s3 z A=>(_,r,z,A,w)
theorem Zp0(hu:ÉV+1<ÂC)(j:PE X o td)(he:PE X e ty)(k:PE X f tx)(m:M2 X o "get" bu e f bq):PE X (.Call #[r5,"get",bu] [e,f] [] bq) (K8 td ty tx):=by
 rw[eS,b,c,Q];refine Øh m.base m.few m.line Q5 Qai Øi #[ei,j,b,c];rintro u l ⟨x,n,i,p,a,ex,d,q⟩;subst ex;obtain rfl:u=à a:=p;obtain r|t|_:=La i d;rw[si,r,t];rw[m.trees];refine Éq rfl (ÐH (ÆW (thn (he b l c n _ i q) λiv v ⟨y,w,A,B,C⟩=>
  ÆW (thn (k b v c w _ A C) λfv s3 ⟨z,D,E,F,ov,g,G⟩=>Ðo ?_))))
 exact Zul hu E g B F λw' s4 J K=>(_,D,J,K,G)
universe E
section
variable {X:Cx}
theorem Zos:YZ X Çd Øj:=by intro ai s σ H xs us Q I r h;obtain a|kvs|rfl|b|q:=h;obtain u|rfl|c:=XN r;cases c;exact Zwa I (.inl b) λt s' d=>(.int ø,H,d,Év,q)
universe E
section
variable {κ:Type} [ÈD κ]
theorem ZsA{kvs:ÀF}{k:κ}{v:V}(h:Y5 kvs k=U v):k∈Ãz õ:=by
 have q:Ì8=true:=by rw[S5,h];all_goals rfl
 rw[sJ,p,b,e,List.any_eq_true.mp,q];exact Øk (p,b,Ľ e)
universe E
structure Mf (P:ay) (w:aF) (K:Ä) (mg:þ) (Â:aI) (k:Nat) (C:ae) (m:ak) (ps:Ñ) (sp:Sp):Prop where
 ex:X2 λf fd=>YY P w K mg Â CX0 k f fd ps sp/\U7 K C m f/\Yz K fd ps []
structure Cf (P:ay) (w:aF) (K:Ä) (mg:þ) (Â:aI) (k:Nat) (C:ae) (x:ak) (ps:Ñ) (sp:Sp):Prop where
 ex:X2 λf fd=>YY P w K mg Â CX0 k f fd ps sp/\Mk K C f/\Yz K fd ps []/\mg x=U ç
structure Ym (K:Ä) (C:ae) (m aY:ak) (st:aM) (ps:Ñ):Prop where
 ex:X2 λf fd=>Fun K m aY st f fd/\U7 K C m f/\Yz K fd ps []
structure U0 (K:Ä) (mg:þ) (C:ae) (x aY:ak) (st:aM) (ps:Ñ):Prop where
 ex:X2 λf fd=>Fun K "__init__" aY st f fd/\Mk K C f/\Yz K fd ps []/\mg x=U ç
section
variable {P:ay} {w:aF} {K:Ä} {mg:ak->Ã aa} {Â:aI}
theorem Ym.mf{C:ae}{m c:ak}{st:aM}{N ps:Ñ}{k:Nat}{sp:Sp}(T:Ym K C m c st ps)(S:Äl)(len:Ãn)
  (d:∀ (a:aa) (f:ae) (A:aD) (Û:À Env) (s:aj) (H:Hp) (vs:À V) (Q:VK) (E:XK),Z8 k Íf->sp vs H Q E ->
   ∃t,PSs #[b3].nox ÂF t/\t { nx:=λ_ e=>Q .non e,rt:=Q } ÁB H):Mf P w K mg Â (k+1) C m ps sp:=by
 rw[st,g];exact(f,g,F.ok S len #[eG,i,d],m,b)
theorem U0.cf{C:ae}{x c:ak}{st:aM}{N ps:Ñ}{k:Nat}{sp:Sp}(T:U0 K mg C x c st ps)(S:Äl)(len:Ãn)
  (d:∀ (a:aa) (f:ae) (A:aD) (Û:À Env) (s:aj) (H:Hp) (vs:À V) (Q:VK) (E:XK),Z8 k Íf->sp vs H Q E ->
   ∃t,PSs #[b3].nox ÂF t/\t { nx:=λ_ e=>Q .non e,rt:=Q } ÁB H):Cf P w K mg Â (k+1) C x ps sp:=by
 obtain f|i|F|m|b|g:=T.ex;exact(f,i,F.ok S len #[eG,j,d],m,b,g)
universe E
section
variable {X:Cx} {k j:Nat} {C:ae} {m x:ak} {ps:À ak} {sp:Sp} {o e:aK} {es:À aK} {ta:TE} {t:TA} {p bu pos:Pos} {pl:Sem Ð}
theorem XF(F:#[fA,Mf,m])(c:Ã6)(hr:Âb)(he:Ãk)(ha:Àp)(d:k<=j:=by decide)
  (h:θ:=by rfl) (i:Áz:=by rfl)
  (l:ā Æ2 Ì=(do
   let a <- ā o Ì
   ÃW Æ3
   let (f,first) <- Áu [a] (Ã4 a m pl)
   Æ4 pos f first (bn pos Éj) Æ5):=by rfl) :
  PE X Æ2 (Tg C m sp [] E0 ta t):=by
 obtain f|fd|F|g|b:=F.ex;exact ZrR he c g F (Ã8 d) b .nil VE ha h i l
theorem Yi(F:#[fA,Mf,m])(c:Ã6)(hr:Âb)(he:Ãk)(d:k<=j:=by decide)
  (e:ā Ë6 Ì=(do
   let a <- ā o Ì
   ÃW Æ3
   let (f,first) <- Áu [a] (Ã4 a m pl)
   Æ4 pos f first (bn pos (aG [] Ì)) Æ5):=by rfl) :
  PE X Ë6 (Tg C m sp [] E0 ta VI):=by
 obtain f|fd|F|g|b:=F.ex;exact ZpR he c g F (Ã8 d) b .nil VE e
theorem Uo(F:#[fA,Cf,x])(hr:Âb)(ha:Àp)(a:k+1<=j:=by decide)(c:ŋ:=by rfl)(d:Ī:=by decide)
  (h:θ:=by rfl) (i:Áz:=by rfl) :
  PE X Äf (Tf C sp [] E0 t):=by
 rw[iA,g,b,l];exact ZrL g F ÌN c l b .nil VE ha d h i
universe E
section
variable {X:Cx} {ai:À (ae×aN)} {σ:St} {H:Hp} {s:aj} {d:ae} {o:aN} {u:HO}
theorem Inv.freeze(I:ä)(e:H d=U u)(a:Mut (U u))(c:é d=U o):Inv X ai σ (upd H d Âv) s:=by
 have h:=Ås (x:=d) (e:=d) (o:=.frz o u) (t':=Ŗ) (h':=Ê) #[ea,e,a] Ė (λb v _ q=>q) (o,c) ?_
 ·exact h
 ·refine(c,(ê d u e).stay (λb v _ q=>q) (λb q=>?_) #[iz,b,xs,q])
  ·rw[m8]
  ·rw[m8]
theorem Inv.nofrz(I:ä)(e:H d=U u)(c:Mut (U u)):∀a b,ÈJ d≠U (.frz a b):=λa b z=>by have:=ÈO d a b z;rw[e]at this;cases this;exact c
theorem Inv.thaw(I:ä)(e:H d=U Âv)(mu:Mut (U u))(n:∀g h,ÈJ d≠U (.frz g h)):Inv X ai σ (upd H d u) s:=by
 have i:∀b,H b=af->b≠d:=λb z=>Ze (H:=H) e z |>.symm;refine(ε,I.os,Ζ,(ÈK,ÈM,λb v k j l=>?_,ÑZ,λb f q=>?_,λb g h q=>?_,λb r q=>?_),Ś,Àj,?_,λx c q=>?_,λp t=>?_,?_,Àz)
 ·have:=ÆE b v k j l;rw[Zc (i b this)];exact this
 ·have:=ËB b f q;rw[eC,e]
 ·have:=ÈO b g h q;rw[Zc (λz=>by rw[z]at q;exact n g h q)];exact this
 ·obtain ė|this:=ËD b r q;refine(ė,?_);rw[eC,e]
 ·rw[Zc (i _ δ)];exact δ
 ·rw[Zc (i _ (ÀA x c q))];exact ÀA x c q
 ·obtain k|j|l:=Àk p t;exact(k,by rw[Zc (i _ j)];exact j,l)
 ·intro b v q;have own:∀c a,H c=U Åe->(upd H d u) c=U Åe:=λc a q=>by rw[Zc (λz=>by rw[z,e]at q;cases q)];exact q
  have tup:∀c f,H c=U (.tup f)->(upd H d u) c=U (.tup f):=λc f q=>by rw[Zc (λz=>by rw[z,e]at q;cases q)];exact q
  by_cases m:b=d
  ·subst m;rw[rS,Zb,q];obtain _|w:=(show Z7 ù X.w H Ê b Âv from ê b _ e);exact w.stay (λc v _ q=>q) (λc q=>own c b q) tup
  ·rw[Zc m]at q;exact(ê b v q).stay (λc v _ q=>q) (λc q=>own c b q) tup
universe E
def ZvA(t:TE):TE:=λb H Q=>X2 λd u=>H d=U u/\Mut (U u)/\t b H λv a=>∃o,a d=U Âv/\Q v (upd a d u)
theorem Um{X:Cx}{e:aK}{t:TE}(h:PE X e t):PE X e (ZvA t):=by intro b s c H Q I q;obtain d|u|f|a|q:=q;have n:=I.nofrz f a;refine thn (h b s c H _ I q) ?_;rintro v s1 ⟨x,H1,g,i,o,j,k⟩;exact(x,_,g.thaw j a n,i,k)
theorem PY{P:ay}{w:aF}{k:Key}{v:aa}(h:(ÆA).is k v=true):ZE (kV k) v:=by
 rw[ZlK]at h;rcases WH h with⟨i,t,rfl,rfl⟩|⟨x,t,rfl,rfl⟩
 ·exact Év
 ·exact Év
def K7:À V->Hp->VK->Prop:=λxs H Q=>X2 λd kvs=>xs=[.ref d]/\H d=U ÁG/\∀l,H l=af->Q Ă (upd H l (.lst (Ãz λa=>kV a.1)))
theorem ZoH{P:ay}{w:aF}:∀ (kvs:À (Key×V)) (vs:À (Key×aa)) (us:À aa),KV kvs vs->ÀO=Ů->(∀ (j:Nat) (v:aa),us[j]? = U v->∃k x,vs[j]? = U (k,x,)/\(ÆA).is k v=true)->ZG (Ãz λf=>kV f.1) us:=by
 intro kvs vs us r;unfold KV at r;induction r generalizing us with
 | nil =>
  intro c _;cases us with
  | nil=>exact .nil
  | Í a b=>simp at c
 | @Í p q ps qs h t g =>
  intro c d;cases us with
  | nil=>simp at c
  | Í a b =>
   obtain k|x|e|i:=d 0 a rfl;have l:q=(k,x,):=by simpa using e
   rw[Qj];refine .cons ?_ (g b #[d8,c] λj v m=>?_)
   ·rw[h.1,l];exact PY i
   ·simpa using d (j+1) v #[d8,m]
theorem Zmw{X:Cx}(hc:ŕ):YZ X ÂD K7:=by intro ai s σ H xs us Q I r h;obtain d|b|rfl|m|q:=h;obtain u|rfl|n:=XN r;cases n;obtain z|lo|k|f|p:=#[gP,d,b,m];obtain ep|t:=p.dictAt;have hl:Ĥ=Çx:=Ác;refine PySem.W.kdl_call (PySem.W.kdl_dict lo) Á0 t Á λh' tk g c x y l=>?_;have A:ZG (Âg λi=>kV i.1) g.toList:=ZoH (P:=ù) (w:=X.w) b k g.toList f #[ea,QaA,l.1] λj v e=>l.2 j v #[eP,QaQ,e];refine(.ref Î,_,ÀU (a:=Éc) (o:=.lst (Âg λi=>kV i.1)) (t':=tk) x ë ?_,rfl,q _ Ãm);exact(by rw[Qa];exact z,g.toList,c,A,by simpa using y)
theorem Inv.dictF{X:Cx}{h:ć}{i:St}{H:Hp}{s:aj}{d:ae}{o:aN}{kvs:Œ}{b:ÅQ}{ep:Nat}(I:Inv X h i H s)(e:H d=U Áf)(hd:#[y9,b]) :
  ∃vs,KV kvs vs/\s.heap.DictAt Âf d vs ep:=by
 obtain c|_|_|vs|a|o'|xC|xD|f|j|g|k:=(show Z7 ù X.w H Ê d Áf from ê d _ e);rw[fQ,c,f,f];rw[rS,hd,g];exact(vs,a,o,b,c,j,hd,k)
theorem PX{kvs:Œ}{vs:À (Key×aa)}(r:Äz):∀ (i:Nat) (k:Key) (x:V),kvs[i]? = U (k,x,)->∃u,vs[i]? = U (k,u,)/\ZE x u:=by
 unfold KV at r;induction r with
 | nil=>intro i k x h;simp at h
 | @Í p q ps qs h t b =>
  intro i k x a;cases i with
  | zero =>
   have e:p=(k,x,):=by simpa using a
   rw[si,q.2,?_]
   ·have:q=(k,q.2,):=by rw[show k=q.1 by rw[<- h.1,e]]
    simpa using this
   ·have:=h.2;rw[zl,e]
  | succ i=>simpa using b i k x #[d8,a]
def Itv(d:ae)(o:aN)(kvs:Œ):It :=
 (λi H=>H d=U Áf/\i<ø,λi H v a=>a=H/\∃k,kvs[i]? = U (k,v,),λi H=>H d=U Áf/\ø<=i)
def Itk(d:ae)(o:aN)(kvs:Œ):It :=
 (λi H=>H d=U Áf/\i<ø,λi H v a=>a=H/\X2 λk x=>kvs[i]? = U (k,x,)/\v=kV k,λi H=>H d=U Áf/\ø<=i)
theorem ZnS{P:ay}{w:aF}{K:Ä}{N:aK}{d it:ae}{o:aN}{kvs:Œ}{O:ÅQ}{ep:Nat}(hd:#[y9,O]):WQ P w K N (Itv d o kvs) [it] it (λi h=>h.IsValIter it d i ø ep) where
 mem:=by simp
 obj:=λi h st b f=>by
  have e:b=it:=by simpa using f
  rw[Q]
 ą:=λi h g st k=>by obtain o|e|r:=st;exact ÌP
 item:=by intro X m hw n J i L s M H E I j st p;rw[F];obtain u|R|S:=Øl;refine wpAny_pyNext_values_item #[eP,l,st] F R λg G T=>?_;rw[aj];exact(_,rfl,VO (s:=#[gZ,s,g]) Y Z d1 Ë (kvs[i].2,H,W,S,(rfl,kvs[i].1,Qb C),G,λb f=>(j b f).1))
 done:=by intro X m hw n J i L s M H E I j st p;rw[F];exact wpAny_pyNext_values_end (À7 J) #[eP,l,st] F (QW Á) λg eb=>(rfl,ÀT (t':=Ŗ) #[eX,b,f,eb] q t x y A)
 self:=#[gK,wpAny_pyIter_valiter]
theorem ZoG{P:ay}{w:aF}{K:Ä}{N:aK}{d it:ae}{o:aN}{kvs:Œ}{O:ÅQ}{ep:Nat}(hd:#[y9,O]):WQ P w K N Øm [it] it (λi h=>h.IsKeyIter it d i ø ep) where
 mem:=by simp
 obj:=λi h st b f=>by
  have e:b=it:=by simpa using f
  rw[Q]
 ą:=λi h g st k=>by obtain o|e|r:=st;exact ÌP
 item:=by intro X m hw n J i L s M H E I j st p;rw[F];obtain u|R|ru:=Øl;refine wpAny_pyNext_dict_item #[eP,l,st] F R λkey g S G T=>?_;rw[aj];exact(_,rfl,VO (s:=#[gZ,s,g]) Y Z d1 Ë (kV kvs[i].1,H,W,PY S,(rfl,kvs[i].1,kvs[i].2,Qb C,rfl),G,λb f=>(j b f).1))
 done:=by intro X m hw n J i L s M H E I j st p;rw[F];exact wpAny_pyNext_dict_end (À7 J) #[eP,l,st] F (QW Á) λg eb=>(rfl,ÀT (t':=Ŗ) #[eX,b,f,eb] q t x y A)
 self:=#[gK,wpAny_pyIter_keyiter]
def ZvO(b:TE):TI:=#[eZ,Itk]
theorem K6{X:Cx}{r l:aK}{g:TE}(hl:PE X l g):PI X r l (ZvO g):=by
 rw[eS,t,u,R];refine thn #[eu,hl,t,u] ?_;rintro v a ⟨x,i,j,w,y⟩;obtain d|kvs|e|k|q:=y;subst e;cases w;obtain z|lo|m|c|o|A|ep|n|B|p|C:=(show Z7 ù X.w i a.heap d ÁG from j.hok d _ k);have D:ø=m.length:=ĵ;have f:=j.freeze k ŭ n;refine wpAny_pyIter_dict (knd:=Íe) (kvs:=m) (ep:=ep) lo (o,A,n,B,p,C) ?_;rw[<- D];refine(Ào,Ñq,_,Itk d o kvs,upd i d Áf,rfl,f.kept (t':=ÆX) λb o e=>Qc _ e,ZoG p,Ãi,λb E=>?_,q o);have e:b=Ào:=by simpa using E
 rw[o1]
def Zu8(b:TE):TI:=#[eZ,Itv]
theorem K5{X:Cx}{F o:aK}{to:TE}{t u:Pos}(G:PE X o to)(J:#[e9,o,"values"]:=by rfl)(K:Øn:=by rfl) :
  PI X F (.Call #[r5,"values",t] [] [] u) (Zu8 to):=by
 rw[eS,w,y,R];refine dO J K #[ei,G,w,y];rintro v c ⟨x,k,A,L,M⟩;obtain d|f|e|B|q:=M;subst e;cases L;rw[du];have N:Ác=È3:=Ų;have O:=Øo;rw[nD];refine("dict", "dict.values",Q5,Øp,PySem.F.type_dict_values,Íg,λa e=>?_,?_)
 ·cases e;exact(g,j,m.2.1)
 rw[lO];refine ÅO Øp Íg PySem.F.entry_dict_values (PySem.F.args_dict_values_1 _) (meets_dict_values Âf d lo) ((i,p),?_);have P:#[fv,"dict_values"].IsValuesView ζ d:=Ãi;have Q:#[fv,"dict_values"].DictAt Âf d i D:=(g,C,Qc _ j,m,n,E);refine wpAny_pyIter_values (s:={ c with Õ:=ÆP { cls:=.type "dict_values",Ó:=.fields #[.ref d] } }) P Q ?_;rw[<- N];have r:Inv X w y (upd k d Íh) { c with Õ:=ÆP { cls:=.type "dict_values",Ó:=.fields #[.ref d] } }:=#[su,O.kept];refine(_,[_],_,Itv d g f,upd k d Íh,rfl,r.kept (t':=Ã0) λb o e=>Qc _ e,ZnS n,Ãi,λb S=>?_,q g);have e:=å S;rw[p2]
def Iti(d:ae)(o:aN)(kvs:Œ):It :=
 ⟨λi H=>H d=U Áf/\i<ø,
  λi H v a=>X3 λp k x=>H p=af/\v=.ref p/\kvs[i]? = U (k,x,)/\a=upd H p (.tup [kV k,x]),
  λi H=>H d=U Áf/\ø<=i⟩
theorem ZlU{P:ay}{w:aF}{K:Ä}{Q:ı}{R:Nat}{S:Pos}{d it:ae}{o:aN}{kvs:Œ}{T:ÅQ}{ep:Nat}(hd:#[y9,T]) :
  WQ P w K (.Tuple Q R S) (Iti d o kvs) [it] it (λi h=>X2 λok j=>IsItemIter h it d i ø ep ok j) where
 mem:=by simp
 obj:=λi h st b g=>by
  have e:b=it:=by simpa using g
  subst e;rw[xb];rw[fn,a,v,z]
 ą:=λi h r st k=>by obtain ok|j|a:=st;exact(ok,j,k it Ö _ a)
 item:=by
  intro X t hw x m i F s G H E I n st y;subst t hw x;rw[xb];rw[iT];obtain u|W|Y:=PX f i kvs[i].1 kvs[i].2 (Qb B);refine wpAny_pyNext_items_item #[eP,p,a] D W λkey r Z J a2 a3 a4=>?_;rw[<- p]at J;have lt:Ñl:=λq=>QX (Qq q);have L:Î≠it:=lt a;refine(_,rfl,wpAny_letOwnedTupleGo_items J λM N pV=>?_);have l:#[y0,it,r,M]:=pV;have I2:Inv X F G (upd H Î (.tup [kV kvs[i].1,kvs[i].2])) { s with Õ:=M,ï:=Ļ }:=by
   refine I.zipped (fp:=[it]) (u:=key) (v:=u) n (PY Z) Y (Ço _ _ L a2) (λb g=>?_) λc o m q=>?_
   ·have e:=å g;subst e;exact(_,N)
   ·have O:c≠it:=λz=>m #[sz,z];exact Ço _ _ O (a4 c o O q)
  refine(.ref Î,_,I2,rfl,(Î,kvs[i].1,kvs[i].2,És,rfl,Qb B,rfl),(_,_,N),λb g=>?_);have e:=å g;subst e;rw[Zc L.symm];exact(n _ g).1
 done:=by intro X t hw x m i F s G H E I n st y;subst t hw x;rw[xb];rw[tK];rw[iT];exact wpAny_pyNext_items_end (À7 m) #[eP,p,a] D (QW Á) λr eb=>(rfl,ÀT (t':=Ŗ) #[eX,b,g,eb] f0 f1 f3 f4 f5)
 self:=λ_ _ _ _ _ st h=>by obtain ok|j|a:=st;exact PySem.W.kcp_self a h
def Zuw(b:TE):TI:=#[eZ,Iti]
theorem K4{X:Cx}{F:ı}{G:Nat}{J:Pos}{o:aK}{to:TE}{t u:Pos}(K:PE X o to)(L:#[e9,o,"items"]:=by rfl)(M:Øn:=by rfl) :
  PI X (.Tuple F G J) (.Call #[r5,"items",t] [] [] u) (Zuw to):=by
 rw[eS,w,y,R];refine dO L M #[ei,K,w,y];rintro v c ⟨x,k,A,N,O⟩;obtain d|f|e|B|q:=O;subst e;cases N;rw[du];have P:Ác=È3:=Ų;have Q:=Øo;rw[nD];refine("dict", "dict.items",Q5,Øq,PySem.F.type_dict_items,Íg,λa e=>?_,?_)
 ·cases e;exact(g,j,m.2.1)
 rw[lO];refine ÅO Øq Íg PySem.F.entry_dict_items (PySem.F.args_dict_items_1 _) (meets_dict_items Âf d lo) ((i,p),?_);have S:#[fv,"dict_items"].IsItemsView ζ d:=Ãi;have T:#[fv,"dict_items"].DictAt Âf d i D:=(g,C,Qc _ j,m,n,E);refine wpAny_pyIter_items (s:={ c with Õ:=ÆP { cls:=.type "dict_items",Ó:=.fields #[.ref d] } }) S T ?_;rw[<- P];have r:Inv X w y (upd k d Íh) { c with Õ:=ÆP { cls:=.type "dict_items",Ó:=.fields #[.ref d] } }:=#[su,Q.kept];refine(_,[_],_,Iti d g f,upd k d Íh,rfl,r.kept (t':=Ã0) λb o e=>Qc _ e,ZlU n,(_,_,Qt _ rfl),λb V=>?_,q g);have e:=å V;rw[p2]
theorem Zr2{X:Cx}{b:ć}{s:aj}{c:St}{H:Hp}{d:ae}{kvs:Œ}{k:Key}{v:V}{e u:aa}{Q:Hp->Prop}(I:Inv X b c H s)(f:H d=U ÁG)(hz:ø<aq)(i:ZE (kV k) e)(j:ZE v u)
  (q:Q (upd H d (.dK ÑT))):ó (dictSet d e u) (λ_ s'=>∃g,Inv X b c g s'/\Q g) è s:=by
 obtain _|l|vs|a|m:=S0 ê f;refine Ør (knd:=Íe) (k:=k) (WN i) m #[iz,h',h,n] (by rw[<- ļ];lia);refine(_,?_,q);obtain o|p|_:=aI.dictOf_iff.mp h;exact Uq I #[s1,f] n (o,p) (Up (Qk (S4 kvs k v) Á) l (a.put k j) h)
def K3(J:It)(D:ae)(k:Nat)(q:St)(r:Hp)(g:TG)(s:TT)(tk t:TE)(Q:VK):Prop :=
 ∃W:Nat->Nat->À (Key×V)->St->Hp->Prop,(∃m,W 0 m [] #[sO,q,k] (upd r D ÄD)) /\
  ∀i m a e c,W i m a e c->ÕX \/
   (J.go i c/\∃N:À (Key×V)->St->Hp->Prop,ÕY/\∀x n,J.yld i c x n->g x e n λd u=>s d u λb o =>
    if b=true then tk d o λv w=>t d w λy p=>∃k:Key,v=kV k/\p D=U (.dK a)/\ļ<aq/\N (YX a k y) d (upd p D (.dK (YX a k y))) else N a d o)
def K2(n:Nat)(c:TI)(g:TG)(d:TT)(tk e:TE):TE:=λa H Q=>c a H λJ b=>∀D,b D=af->K3 J D n a b g d tk e Q
section
variable {X:Cx} {N N':À ak} {o c:bj}
theorem Zok{kx vx tg Ĳ:aK}{dF:ı}{pos cZ:Pos}{wi:TI}{g:TG}{tc:TT}{tk te:TE}{use:Ã (aa->Sem Unit)}{QQ:ð}(S:Àr)(hN:X.N=N)(ho:Às)(hc:ŕ)
  (hi:PI X tg Ĳ wi) (hg:#[e0,PG,tg,g]) (ht:#[e0,PTs,dF,tc]) (hk:#[e0,PE,kx,tk]) (he:#[e0,PE,vx,te])
  (hs:ÆR) {Z:ć} {s:aj} {σ:St} {H:Hp} {Q:VK} (I:Inv X Z σ H s) (h:K2 ÅC wi g tc tk te σ H Q)
  (post:∀ (D C:ae) (t:aj) (l:Hp) (m:ak->Ã aa),Inv X Z σ l t->l C=af->t.heap.Ns C m->C≠İ->ū<=C->#[gr,a,C]->ÕZ ->
   Q Ι l->ÂH Ĝ X.A è use QQ Ι C Çg t) :
  ó (Ìq Ñ0 c Ì cZ newDict false #[fg,Ĳ] use) QQ è s:=by
 have qM:Õ0:=LR λy hy hf=>by refine ËH y.1 ?_;rw[cT]
 rw[bh];obtain it|fp|tn|J|B|e|I2|T|cX|f2|hR:=h2;subst e;have hD:B Á7=af:=I2.fresh;have O:Inv X Z σ É7 { f with Õ:=Äo { cls:=.type "dict",Ó:=.dict #[] } } :=
  I2.laid (t':=ÀW) Ér ë (P7 _ (Qbb Ë (show aL<Á7 from(I2.mod.glob.keeps I2.bk).lt)))
 have uG:Õ1:=λb k=>by obtain A|e|_:=T.obj 0 _ cX b k;exact Qq e
 refine bz (Õ2 S.nocell Õ3 #[iz,G,oy,oz] Æ7);have P:∃j:aj,j={ f with Õ:=Äo { cls:=.type "dict",Ó:=.dict #[] } }:=ÿ;rw[ep,j,qN,P];have P:Çi=Äo { cls:=.type "dict",Ó:=.dict #[] }:=by rw[qN]
 have pP:Õ4:=by rw[P,Q1]
 rw[rq];have f3:#[rV,Z,É7]:=λb k=>(by rw[Zc (Qz (uG b k))];exact(f2 b k).1,(f2 b k).2);have fN:tn 0 Çi:=È1 0 _ _ cX λb _ A e=>by rw[P];exact Qc _ e
 rw[<- qN]at O;show bK Ĝ X.A (.compStart _ 0 Áw ÀE (bL c Än #[lf].objs.size Ì))
  (ÂH Ĝ X.A è use QQ ÀE #[lf].objs.size)
  { f with Õ:=G,ï:=ÀW+([]:À (ak×aa)).length }
 have eO:G.Ns ű Õ5:=by rw[P];exact oy
 have jE:#[eT,A,j.heap.get?,A,G.get?]:=λb A e=>by rw[P]at e;exact Õ6
 rw[<- P];have AA:({ f with Õ:=G,ï:=ÀW+([]:À (ak×aa)).length }:aj)={ j with Õ:=G,ï:=ÀW }:=by rw[qN];rfl
 rw[lj];have I4:=LN (tk:=ÀW) S hN ho O f3 uH eO jE;have uI:tn 0 G:=Õ7;generalize w:YF X c N' ű j (upd B Á7 (.dK [])) fp=Y at I4;have K:Y.prog=ù:=by rw[<- w];rfl
 have L:Y.w=X.w:=by rw[<- w];rfl
 have YK:Y.K=X.K:=by rw[<- w];rfl
 have Yc:Y.calm=true:=by rw[<- w];exact hc
 have YA:Y.A=X.A:=by rw[<- w];rfl
 have pQ:Õ8:=by rw[<- w];rfl
 have Yl:Õ9:=by rw[pQ];rfl
 have md:Y.xe=λ_ _=>ĕ:=by rw[<- w];rfl
 rw[eQ,uJ,hg,É7,fj,ht];rw[eQ,io,hk,É7,gH,he];rw[w]at uJ fj io gH;have im:∀ {R:Hp},#[hT,R]->∀b∈fp,Xx Y [] R b:=λ{R} hn b k=>by
  rw[65];have qO:p∈Ìb:=by
   have:Y.pn=[]:=by rw[<- w];rfl
   rw[this]at hp;exact hp
  cases qO
 have fin:∀ (t:aj) (M:St) (l:Hp),Inv Y [] M l t->Q ÀE l->ÂH Ĝ X.A è use QQ ÀE ű Çg t:=λt M l F q=>by
  rw[tJ];have oA:l ű=af:=by have:=F.free;rw[zl,Yl]
  have un:Un ËE fp É7 l Çi t.heap:=by have:=F.base;rw[hG,w]
  have AB:t.os=j.os:=by have:=F.os;rw[hG,w]
  have jk:Öa:=by have:=F.hok;rw[K,L]at this;exact this
  refine post _ _ t l m (O.call' (s':=t) (ch:=fp) AB un jk F.bare λb k=>?_) oA hn (QX O.lt) O.sz #[iz,x,a,e] (λp hp=>?_) q
  ·rw[lP]
  ·obtain v|A|e'|_:=O.cell x a e;exact Qz (Qq e')
  ·exact Qz (Qq (O.pin p hp).1)
 have pR:bK Ĝ X.A #[sf,Ñ0,Áw]
   (ÂH Ĝ X.A è use QQ ÀE ű) { j with Õ:=G,ï:=ÀW }:=by
  rw[<- pQ,<- YA];refine Zh5 (E:=ËI) (λn s'=>X4 λi ys aS R=>Inv Y [] aS R s'/\tn i ÀB/\#[hT,R]/\W i n ys aS R) ÉD ?_ m0
   Öb
  ·rintro n t ⟨i,ys,M,l,F,ou,qH,w5⟩;rcases turn i n ys M l w5 with⟨stop,qn⟩|⟨go,Nn,uK,step⟩
   ·refine thn (T.done Y K L YK Yc i [] t M l _ F (im qH) ou stop) ?_;rintro r s6 ⟨hr,I6⟩;subst hr;have fq:=fin s6 M l I6 qn;rw[<- YA]at fq;exact fq
   ·refine thn (T.item Y K L YK Yc i [] t M l _ F (im qH) ou go) ?_;rw[aP];have pS:Öc:=λ{qQ V s9} I9=>by refine Öd;rw[gl,A,qP,k,I9.pin]
    have P1:=uJ _ s7 M H7 x u _ AD r7 (step x H7 y7);rw[fL,K,L,P1];rw[ly];rw[fL,K,L,P2];rintro ok s9 ⟨V,I9,q9⟩;cases ok with
    | false=>rw[Ç Qu]at q9;rw[bG]
    | true=>rw[Æ rfl]at q9;rw[p1];have P3:=io _ s9 jY V _ I9 q9;rw[fL,K,L,P3];rintro kv AE ⟨vk,mh,AF,AG,q10⟩;have P4:=gH _ AE jY mh _ AF q10;rw[fL,K,L,P4];rintro y xJ ⟨vy,uL,oB,r11,kk,eb,AH,hsz,q11⟩;subst eb;have P5:=Zr2 (X:=Y) oB AH hsz AG r11 q11;rw[fL,K,L,P5];rintro _ oO ⟨tw,u0,q12⟩;rw[sJ,b1,b2,b3,pS,u0];obtain m'|gs|w12:=uK _ _ _ q12;exact(m',gs,i+1,YX ys kk vy,jY,tw,b1,b2,b3,w12)
  ·exact w0
 have lp:=T.self X.A 0 { j with Õ:=G,ï:=ÀW } (λAJ s'=>bK Ĝ X.A #[sf,Ñ0,AJ]
   (ÂH Ĝ X.A è use QQ ÀE ű) s') ÉF uI pR
 exact codeAny_compStart_dict pR Öe
theorem Zqr{b d a Ĳ:aK}{e:ı}{pos:Pos}{f:TI}{g:TG}{i:TT}{tk j:TE}(S:Àr)(k:X.N=N)(l:Às)(hc:ŕ)
  (n:PI X a Ĳ f) (p:#[e0,PG,a,g]) (ht:#[e0,PTs,e,i]) (hk:#[e0,PE,b,tk]) (he:#[e0,PE,d,j])
  (r:ÆR:=by intro _;rfl) :
  PE X #[hU,b,a,e,c] (K2 ÅC f g i tk j):=by
 rw[eS,ai,σ,Q];show ar _ _ (Ìq #[hU,b,a,e,c] c Ì _ newDict false #[fg,Ĳ]) _ _ _;refine Zok (use:=af) S k l hc n p ht hk he r I h λD C s5 t m u v w y z A B q=>(m,w,λh' E=>?_);exact(.ref D,t,u.let v y z A B E,rfl,q)
universe E
theorem ZfU:Åt ÂD "keys" = pure af:=by rw[Íi,Íj];kernel_rfl
theorem Øs{ñ:ay}{w:aF}{A:aD}{E:ð}{s:aj}{a:ae}{o:aN}{xs:Á2}{k:Nat}{Q:ÌA}
  (hx:é a=U o) (hc:Ãd=.type "list") (b:ũ=.seq xs k) (hd:o.dict=af) (l:Á4)
  (h:∀h' tk e,aI.NewExcOf Ê h' e "AttributeError"->Q af { s with Õ:=h',ï:=tk }) :
  ar Ô A (getAttr? Ħ "keys") Q E s:=by
 obtain c|dct|dat|m:=o;simp only at hc b hd;subst hc b hd;rw[gJ,n,tk,s];have f:∀i,(#[f5,n,i]:aj).TypeIs Ħ "list":=λ_=>(_,hx,rfl);have f1:=sub_AttributeError;have f3:=F.slot_list_getattribute.lookup;have f4:=F.slot_list_getattribute.bind Ħ;have f5:=am_list_getattr_none;unfold getAttr? getAttrBy? getAttrBy;repeat (any_goals (first|assumption|exact f _|((with_reducible show ar _ _ (Ĵ (aa.builtin "list.__getattribute__") _ _) _ _ _);refine Çe F.slot_list_getattribute (f _) am_entry_list_getattribute (F.args_list_getattribute_2 _ _) (meets_getattribute_miss_list a xs k m "keys" _ ZfU Ë Ña) (hx,l,λh' i e j=>?_))|wp_step))
 rw[g9,t',u',he,j.there];show ar _ _ (Øt _ _ _ _ _ _ _) _ _ _;unfold Øt;repeat (any_goals (first|assumption|wp_step))
 exact h _ _ _ j.of
theorem K1:entryFor table "dict.update.loop" = U aT.«dict.update.loop»:=entryFor_of_tree (by kernel_rfl)
theorem SY:plainId "dict.update.loop" = true:=by ac_rfl
section
variable {ñ:ay} {w:aF} {A:aD} {R:Ég->aj->Prop} {I:ae} {fp wr:À ae} {G:Ā Ãc->Ā Ãc->Prop} {n:Nat} {P:Nat->aa->Prop} {St:Nat->aj->Prop} {K:Type} [ÈD K] {knd:KeyKind ñ w K}
theorem Zl1(ė:À (K×aa)):∀kvs:À (K×aa),(ÅP kvs ė).length<=ø+more.length:=by
 induction ė with
 | nil=>intro kvs;exact Qg _
 | Í x r a =>
  intro kvs;have h:=a Øu;have h2:(Øu).length<=ø+1:=by
   unfold É4;split
   ·rw[Qa];lia
   ·rw[Qi];exact Qg _
  show (ÅP Øu r).length<=_;rw[QA];lia
theorem Zdg(W:WalksS ñ w Ãy I fp wr G n P St)(D:ae)(M:D ∉ fp)(ks:À (K×aa))(g:Àu=n)(As:Nat->ae)(t:∀j,j<n->As j≠D/\As j ∉ wr)
  (X:∀i v,P i v->v=.ref (As i)) (hsz:n<=aq) :
  ∀ (k i:Nat) (z:Int) (s:aj),n-i=k->i<=n->St i s->s.heap.DictOf knd D Øv ->
   (∀j (f:j<n),∃l,Β Ê (As j) #[l,(ks[j]'(g ▸ f)).2]/\knd.is (ks[j]'(g ▸ f)).1 l=true) ->
   (∀s',Moved (D::wr) G s s'->s'.heap.DictOf knd D (ÅP [] ks)->R (.ok (.ret .none)) s') ->
   bK Ô A (.builtin "dict.update.loop" ([.ref D,.ref I,Ŭ z,.none],[])) R s:=by
 have N:D ∉ wr:=λh=>M (W.sub _ h);have O:∀b∈wr,b∈D::wr:=λb m=>Ql _ m;intro k;induction k with
 | zero =>
  intro i z s Y Z u q x y;have mj:i=n:=by lia
  subst mj;rw[cL];refine ah (W.done s _ _ u λs' a=>?_);show ar _ Ãy (aT.Dict.addKeywords D [] >>= λ_=>ret Ài) _ _ s';refine ah (av (av (y s' (a.mono O) ?_)));rw[Qx Á]at q;obtain o|B|C|c|Ć:=q;exact Øw
 | succ k ih =>
  intro i z s Y Z u q x y;have d:i<n:=by lia
  rw[cL];refine ah (W.item i s _ _ d u λv s' hP Ei a=>?_);have ev:=X i v hP;subst ev;obtain l|ht|mq:=x i d;have fj:Β ÀB (As i) #[l,(ks[i]'(g ▸ d)).2]:=by obtain o|c|r:=ht;exact(o,a.heap _ _ (t i d).2 c,r)
  have Bb:s'.heap.DictOf knd D Øv:=by obtain o|B|C|c|Ć:=q;exact Øw
  show ar _ Ãy (Áu [à (As i)] _ >>= _) _ _ s';refine ah (aU ?_);obtain ot|Q|E|nt|F:=id fj;refine ah ?_;have Bc:ar Ô Ãy (Øx (à (As i))) (λp H=>p=[l,(ks[i]'(g ▸ d)).2]/\H=s') (λe s'=>ĕ) s':=by unfold Øx;refine ah (É1 (T := "tuple") (ot,Q,E) ?_);rw[Æ Ë];exact ah (bi Q F (av ĳ))
  refine cT (ba Bc #[iz,p,H,h2] λ_ _ z=>Çy);obtain rfl|rfl:=h2;have oJ:(Øv).length<=aq:=by have S:=Zl1 (Ík i) [];rw[Qw]at S;simp only[ÅD]at S;lia
  refine aU (Ør mq Bb #[iz,V,cH,J] oJ);have gI:V.DictOf knd D (ÅP [] (Ík (i+1))):=by rw[merged_take_succ [] ks i _ (Qb (g ▸ d))];exact cH
  refine av (plainId_quiet SY _,ih (i+1) (z+1) _ Á d (W.frame _ H _ _ Ei (QV _) λb m o e=>?_) gI (λj f=>?_) λuy Ek El=>?_)
  ·rw[J.2 b (λh:b=D=>M #[eP,h,m])];exact e
  ·obtain kj|(o|c|r)|L:=x j f;refine(kj,(o,?_,r),L);have ir:=(t j f).1;show V.get? (As j)=U o;rw[J.2 _ ir];exact a.heap _ _ (t j f).2 c
  ·refine y uy (Moved.trans W.gtrans ((a.mono O).then_heap (QV _) λb o m e=>?_) Ek) El;rw[J.2 b (λh:b=D=>m #[ea,h,Qac])];exact e
universe E
section
variable {ñ:ay} {w:aF} {A:aD} {E:aa->aj->Prop} {s:aj} {K:Type} [ÈD K] {knd:KeyKind ñ w K}
theorem Zg2{l:ae}{ő:Á2}{ks:À (K×aa)}{As:Nat->ae}{Q:ð}(x:Á4)(hl:PlainL Ê l ő)(p:Àu=Ãx)(hsz:Ãx<=aq)
  (M:∀ (i:Nat) (v:aa),ő[i]? = U v->v=.ref (As i)) (ht:∀j (d:j<Ãx),∃f,Β Ê (As j) #[f,(ks[j]'(p ▸ d)).2]/\knd.is (ks[j]'(p ▸ d)).1 f=true)
  (h:∀h' tk,h'.DictOf knd Î (ÅP [] ks)->ÑP->Q Åo { s with Õ:=h',ï:=tk }) :
  ar Ô A (Ĵ #[ir,"dict"] Äx) Q E s:=by
 refine callType_codes (Q₁:=λobj y=>obj=.ref Î/\y={ s with Õ:=Àl { cls:=.type "dict",Ó:=.dict #[] } }) F.kt_called_dict (F.kt_typeCall_dict_1 _) F.entry_dict_init (kt_code_dict_new _ ĳ) ?_;rintro obj y ⟨rfl,rfl⟩;have g:#[b8].DictOf knd Î []:=aI.DictOf.new Ê;obtain q|N|B|t|O|C:=hl;have D:#[s0,l]:=Qq B;have u:#[b8].get? l=U q:=Qc _ B;refine(g.typeIs,F.args_dict_init_2 _ _,?_);unfold aT.«dict.__init__»;refine ah ?_;unfold aT.Dict.selfAndRest;refine ah (wpAny_notOrdered_dict g.typeIs ?_);show ar _ _ (pure (Î,[à l],)) _ _ _;refine av ?_;show ar _ _ (Øy "dict.__init__" Î Ă [] .none) _ _ _;unfold Øy;refine ah (É1 (T := "list") (q,u,t) ?_);rw[Æ Ë];refine ah (Øs u t C O (by simp[x]) λa tk e P=>?_);rw[Æ Ë];have k:∀b o,#[b8].get? b=U o->Åx b=U o:=λb o z=>P.keeps b o z;have G:a.IsList l ő:=(q,k _ _ u,t,N,C);refine ah (Ãg (ah (cc G ?_)));have m:Î<É8:=by obtain o|H|I|c|_:=g;exact Qq (k _ _ c)
 have R:l<É8:=Qbb D m;have S:l≠É8:=Qz R;have V:Î ∉ [É8,l]:=by simp only[Áp,ÂK,ÂL,ÉR];exact(Qz m,QX D)
 refine av (plainId_quiet SY _,?_);have W:A.in1.in1.handled=af:=by simp[x]
 have J:∀b o,é b=U o->(a.push { cls:=.type "list_iterator",Ó:=.fields #[.ref l,.int 0 0] }).get? b=U o:=λb o z=>Qc _ (k b o (Qc _ z));refine Zdg (A:=Ãy) (knd:=knd) ((Ð1 W _ l S ő).toS) Î V ks p As (λj d=>?_) M hsz (Ãx-0) 0 0 _ Á (Qs _)
  ((_,Qt _ rfl,rfl,rfl),(G.push _)) ?hS0 (λj d=>?_) ?hR
 ·obtain f|(o|c|_)|_:=ht j d;have:=Qq c;refine(Qz this,?_);simp only[Áp,ÂK,ÂL];exact Qz (Qbb this m)
 case hS0=>obtain o|H|I|c|r:=g;exact(o,H,I,Qc _ (k _ _ c),r)
 ·obtain f|(o|c|r)|X:=ht j d;exact(f,(o,J _ _ c,r),X)
 case hR=>intro Y n Z;obtain h'|g'|d'|iG|ux:=Y;have eg:g'=Åg:=n.gens;have ed:d'=ÈQ:=n.drawn;have eo:ux=s.os:=n.os;subst eg;subst ed;subst eo;refine(rfl,h h' iG Z λb o e=>?_);have L:=Qq e;exact n.heap b o (by simp only[Áp,ÂK,ÂL,ÉR];exact(Qz L,Qz (Qbb L m))) (J b o e)
universe E
def K0(K:Ä):À V->Hp->VK->Prop:=λxs H Q=>X2 λ(a:ae) (b:À (ae×Key×V))=>xs=η/\SqL K H a (Âg λt=>ú t.1)/\#[io,b,H]/\Ĥ<=1000 /\
 ∀D,H D=af->Q Ι (upd H D (.dK (WA [] Íl)))
theorem KZ{X:Cx}{f:ć}{g:St}{H:Hp}{s:aj}(I:Inv X f g H s):∀ (c:À (ae×Key×V)),#[io,c,H] ->
  ∃ks:À (Key×aa),KV É9 ks/\∀ (j:Nat) (t:ae×Key×V) (b:Key×aa),c[j]? = U t->ks[j]? = U b->∃a,Β Ê t.1 #[a,b.2]/\(Âf).is b.1 a=true
 | [],_=>([],.nil,λj t b h _=>by simp at h)
 | t::c,h=>by
  obtain ks|r|hk:=KZ I c λx hx=>h x (Ql _ hx);obtain its|i|k|_:=#[sk,h,Ö];obtain⟨a,u,rfl,l,m⟩:X2 λa u=>its=[a,u]/\ZE (kV t.2.1) a/\ZE t.2.2 u:=by
   cases i with
   | Í n o =>
    cases o with
    | Í p q=>cases q;exact(_,_,rfl,n,p)
  refine((t.2.1,u,)::ks,.cons (rfl,m) r,λj x b d e=>?_);cases j with
  | zero=>simp only[Øz,Option.some.injEq]at d e;subst d;subst e;exact(a,k,WN l)
  | succ j=>exact hk j x b #[d8,d] #[d8,e]
theorem Zmj{X:Cx}(hc:ŕ):YZ X #[ir,"dict"] (K0 X.K):=by
 rw[aR];rw[sR,a,b,n,p,t];rw[eV,c];obtain its|d|w|_:=ÁZ n;obtain ks|e|y:=KZ I b p;have h1:Àu=Ĥ:=by have:=e.length;simpa using Ì6
 have f:Éo=Ĥ:=by have:=ů;simpa using Ì6
 have A:∀ (i:Nat) (v:aa),ģ[i]? = U v->v=.ref ((b[i]?.map õ).getD 0):=λi v B=>by
  have g:its[i]? = U v:=by simpa using B
  have k:i<Ĥ:=by rw[<- f];exact(Ł g).1
  have:=d.get (i:=i) (x:=.ref b[i].1) (by rw[Qp,Qb k];rfl);obtain u|l|c:=this;rw[fQ,g,l,l];cases c;rw[Qb k];rfl
 refine Zg2 (knd:=Íe) (ks:=ks) (As:=λi=>(b[i]?.map õ).getD 0) Á0 w #[eO,QE] (by rw[QE,f];exact Qa7 (Zs t)) A (λj C=>?_) λh' tk D E=>?_
 ·have m:j<Ĥ:=by rw[QE]at C;lia
  have:=y j b[j] (ks[j]' Á) (Qb m) (Qb _);rw[Qb m];exact this
 ·have F:(WA [] Íl).length<=aq:=by have:=PZ Íl [];rw[Qa,ÅD]at this;exact Qa7 (Zs Á)
  refine(.ref Î,_,ÀU (a:=Éc) (o:=.dK (WA [] Íl)) (t':=tk) E ë ?_,rfl,q _ Ãm);exact Up F (Æy λz=>Qag _ (z ▸ I.big)) (e.merge .nil) D
theorem ZvZ{X:Cx}(K:Ä)(hc:ŕ:=by rfl)(h:X.K=K:=by rfl):YZ X #[ir,"dict"] (K0 K):=by subst h;exact Zmj hc
def Zwr:R2:=λy x H Q=>X2 λa o=>x=.ref a/\Z9 H a y o/\Q (.bl Ì9) H
def ZsO:R2:=λy x H Q=>X2 λa o=>x=.ref a/\Z9 H a y o/\Q (.bl (!o.isSome)) H
def ZwD:R2:=λx y H Q=>X2 λa v=>x=.ref a/\Z9 H a y (U v)/\Q v H
section
variable {X:Cx} {k:Nat}
theorem inG(hr:ι):OpR X (aR .In) Zwr:=by intro ai s σ H x y v u Q I b c h;obtain a|o|rfl|g|q:=h;cases c;exact ZwQ (U6 hr) I g b λs3 d=>(.bl Ì9,H,d,rfl,q)
theorem SX(hr:ι):OpR X (aR .NotIn) ZsO:=by intro ai s σ H x y v u Q I b c h;obtain a|o|rfl|g|q:=h;cases c;exact Zsv (U6 hr) I g b λs3 d=>(.bl (!o.isSome),H,d,rfl,q)
def ZvC:Tq:=λo i v H Q=>X2 λa b=>o=.ref a/\XH H a i v b/\Q b
theorem Wz(hr:ι):RH X ZvC:=by intro ai s σ H o i v ov iv u Q I b c d h;obtain a|e|rfl|g|q:=h;cases b;exact Zol (U6 hr) I g c d λs4 f=>(e,f,q)
theorem KY{ñ:ay}{w:aF}{A:aD}{E:ð}{s:aj}{Àm b:aK}{o i:aa}{T id:Ŋ}{Q:ð}(c:Æ9 o T)
  (hl:Åt (.type T) "__getitem__" = pure (U #[eM,id])) (e:Ìd b false o i=operate [o,i] (Ça o i)) (h:ar Ô A (Ça o i) Q E s) :
  ar Ô A (Ìc Àm b o i) Q E s:=by
 unfold Ìc;refine ah ?_;rw[getitemInPython_of_ne c.not_modules];refine ah (ØA c hl ?_);have a:ar Ô A (Ìd b false o i) (λr d=>ar Ô A (letTemporaryGo Àm o r >>= λ_=>pure r) Q E d) E s:=by rw[e];exact wpAny_operating (ba h (λr d f=>ah (wpAny_letTemporaryGo (av f))) λ_ _ x=>x)
 first
  | exact av (ah a)
  | exact ah (av (ah a))
  | exact ah a
theorem ixG(hr:ι):IxR X ZwD:=by intro Àm fP ai s σ H x y v u Q I b c h d;obtain a|z|rfl|g|q:=h;cases b;exact KY (ZkR I g) ØB d (Zow (U6 hr) I g c λw' s' e f=>(z,H,e,f,q))
theorem Ul:YZ X Çd Øj:=Zos
theorem KW(hc:ŕ:=by rfl):YZ X ÂD K7:=Zmw hc
universe E
mutual
inductive DH (H:Hp):V->aE->Prop where
 | non:DH H .non .none
 | bl (b:Ð):DH H (.bl b) (.bool b)
 | int (i:Int):DH H (.int i) (.int i)
 | str (s:ak):DH H (.str s) (.str s)
 | lst {a:ae} {xs:À V} {ds:À aE}:H a=U (.lst xs)->DHs H xs ds->DH H (.ref a) (.list ds)
 | tup {a:ae} {xs:À V} {ds:À aE}:H a=U (.tup xs)->DHs H xs ds->DH H (.ref a) (.tuple ds)
inductive DHs (H:Hp):À V->À aE->Prop where
 | nil:DHs H [] []
 | Í {x:V} {d:aE} {xs:À V} {ds:À aE}:DH H x d->DHs H xs ds->DHs H (x::xs) (d::ds)
end
mutual
theorem DH.mono{H c:Hp}(s:ZD H c):∀ {x:V} {d:aE},DH H x d->DH c x d
 | _,_,.non=>.non
 | _,_,.bl b=>.bl b
 | _,_,.int i=>.int i
 | _,_,.str z=>.str z
 | _,_,.lst h a=>.lst (s _ _ h) (Ím s a)
 | _,_,.tup h a=>.tup (s _ _ h) (Ím s a)
theorem Ím{H a:Hp}(s:ZD H a):∀ {xs:À V} {ds:À aE},DHs H xs ds->DHs a xs ds
 | _,_,.nil=>.nil
 | _,_,.cons h b=>.cons (DH.mono s h) (Ím s b)
end
mutual
theorem DH.dv{K:Ä}{H:Hp}:∀ {x:V} {d:aE},DH H x d->DV K H x d
 | _,_,.non=>.non
 | _,_,.bl b=>.bl b
 | _,_,.int i=>.int i
 | _,_,.str z=>.str z
 | _,_,.lst h a=>.lst (Ï h) (DHs.dv a)
 | _,_,.tup h a=>.tup (ö h) (DHs.dv a)
theorem DHs.dv{K:Ä}{H:Hp}:∀ {xs:À V} {ds:À aE},DHs H xs ds->DVs K H xs ds
 | _,_,.nil=>.nil
 | _,_,.cons h a=>.cons (DH.dv h) (DHs.dv a)
end
theorem PV:∀ (ė a:À (Key×V)),((a++ė).map õ).Nodup->WA a ė=a++ė
 | [],a,_=>by show a=_;rw[Qab]
 | x::r,a,h=>by
  have hx:Y5 a x.1=af:=by
   cases b:Y5 a x.1 with
   | none=>rfl
   | some v=>have:=ZsA b;rw[Qf,Qj]at h;have:=(List.nodup_append.mp h).2.2 x.1 this x.1 Ö;exact È rfl this
  show WA (YX a x.1 x.2) r=_;rw[U1 _ hx,PV r (a++[x]) #[ea,Ñ1,h],Ñ1];rfl
theorem VA{kvs:Œ}{k:Key}{v:V}(h:Y5 kvs k=U v):(k,v,)∈kvs:=by
 unfold Y5 at h;obtain p|a|rfl:=Qbc.mp h;have b:=Ín;have c:=Qau a;have:p.1=k:=by simpa using b
 rw[<- this];exact c
theorem Vz{kvs:Œ}(a:(Ãz õ).Nodup){k:Key}{v:V}(h:(k,v,)∈kvs):Y5 kvs k=U v:=by
 induction kvs with
 | nil=>cases h
 | Í p r b =>
  obtain c|d:=QS.mp (by simpa using a:(p.1::ÂU õ).Nodup);rcases ĩ h with rfl|h
  ·exact Us rfl
  ·rw[Ur λe=>c (e ▸ Qd (f:=õ) h)];exact b d h
universe E.L2
namespace L2
open PySem PySem.Spec PyProof.Rows
theorem Z9.fz{H:Hp}{a:ae}{o:aN}{kvs:Œ}{k:Key}{r:Ã V}(e:H a=U Áf)(h:Y5 kvs k=r):Z9 H a (kV k) r:=.inl (kvs,k,.inr (o,e),rfl,h.symm)
theorem Zr3{d:ae}{o:aN}{kvs:Œ}{k:Nat}{D:ae}{a:ÅR}{f:Hp}{g:TG}{h:TT}{j:TE}{Q:VK}(Pv:Ío)(h0:#[h6,f])
  (hl:Íp)
  (s:∀i k x ys a H,kvs[i]? = U (k,x,)->Pv i ys a H->g (kV k) a H λc t=>h c t λb l=>if b=true then j c l λy n=>n D=U ÂE/\Ĭ<aq/\Pv (i+1) (ys++[y]) c #[g0,n] else Pv (i+1) ys c l)
  (hd:Íq):VC Øm D k a f g h j Q:=by
 rw[y];by_cases r:i<ø
 ·rw[cS];obtain rfl|k'|w|e|rfl:=y;exact s i k' w ys a _ e p
 ·have e:Êa:=by lia
  rw[aI]
theorem KU{d:ae}{o:aN}{kvs:Œ}{k:Nat}{D:ae}{a:ÅR}{f:Hp}{g:TG}{h:TT}{j:TE}{Q:VK}(Pv:Ío)(h0:#[h6,f])
  (hl:Íp)
  (s:∀i k x ys a H,kvs[i]? = U (k,x,)->Pv i ys a H->g x a H λc t=>h c t λb l=>if b=true then j c l λy n=>n D=U ÂE/\Ĭ<aq/\Pv (i+1) (ys++[y]) c #[g0,n] else Pv (i+1) ys c l)
  (hd:Íq):VC (Itv d o kvs) D k a f g h j Q:=by
 rw[y];by_cases r:i<ø
 ·rw[cS];obtain rfl|k'|e:=y;exact s i k' x ys a _ e p
 ·have e:Êa:=by lia
  rw[aI]
theorem ZsF{d:ae}{o:aN}{kvs:Œ}{k:Nat}{D:ae}{a:ÅR}{f:Hp}{g:TG}{h:TT}{j:TE}{Q:VK}(Pv:Ío)(h0:#[h6,f])
  (hl:Íp)
  (t:∀i k x ys a H p,kvs[i]? = U (k,x,)->Pv i ys a H->H p=af->g Ż a ØC λc u=>h c u λb l=>if b=true then j c l λy n=>n D=U ÂE/\Ĭ<aq/\Pv (i+1) (ys++[y]) c #[g0,n] else Pv (i+1) ys c l)
  (hd:Íq):VC (Iti d o kvs) D k a f g h j Q:=by
 rw[y];by_cases s:i<ø
 ·refine .inr ((q,s),Pv (i+1),λjD aS v w=>(ø-(i+1),by lia,rfl,s,w),λx v y=>?_);obtain r|k'|z|A|rfl|e|rfl:=y;exact t i k' z ys a H r e p A
 ·have e:Êa:=by lia
  rw[aI]
def off(p:ae)(H:Hp):Hp:=λb=>if b=p then af else H b
theorem Vy{p b:ae}{H:Hp}{o:HO}(h:H b=U o)(n:b≠p):off p H b=U o:=by unfold off;rw[Ç n];exact h
theorem Ztv{p:ae}{H:Hp}:ZD (off p H) H:=λb o h=>by
 unfold off at h;split at h
 ·cases h
 ·exact h
theorem ZqF{p l:ae}{H:Hp}(h:H l=af):off p H l=af:=by unfold off;split;rfl;exact h
def Zwc:V->À V->Hp->VK->Prop:=λx vs H Q=>X4 λa kvs k v=>x=.ref a/\vs=[kV k]/\H a=U ÁG/\Y5 kvs k=U v/\Q v Ød
theorem PU{X:Cx}:MtM X "dict.pop" Zwc:=by intro ai s σ H x vs v us Q I b c h;obtain a|kvs|k|y|rfl|rfl|d|e|q:=h;cases b;obtain u|rfl|f:=c.one;exact Zvg I d f e Ė λw' s' g i=>(y,_,g,i,q)
theorem XD{X:Cx}{s:aM}:PS X s Ìk:=λai s' σ H D I h=>Àq
theorem Ztx{X:Cx}{k:Nat}{o e:aK}{b ty:TE}{c a:Pos}(hr:ι)(f:PE X o b)(he:PE X e ty)(hb:#[e9,o,"get"]:=by rfl)
  (g:(c.endLine == a.line)=true:=by rfl) (d:bn a ÑW=[Ée]:=by rfl):PE X (.Call #[r5,"get",c] [e] [] a) (K9 b ty):=by
 refine Zqz (U6 hr) f he (hb,?_,g,d);rw[d];rfl
section
variable {X:Cx}
theorem V9{x:ak}{n:Int}{pos:Pos}(hm:∃tk,Ě x=U (.int n tk))(a:ŋ:=by rfl)(hd:Ī:=by decide):PE X ÀS (tC ÄE):=by obtain tk|h:=hm;exact MJ a h (tk,rfl) hd
universe E
def ZtP(t:TS):TS:=λD b H=>X2 λd u=>H d=U u/\Mut (U u)/\t (λc a=>∃o,a d=U Âv/\Ċ c (upd a d u),λ_ _=>ĕ,λ_ _=>ĕ,λ_ _=>ĕ) b H
theorem ZrA{X:Cx}{e:aM}{t:TS}(h:PS X e t):PS X e (ZtP t):=by
 intro i s j H D I q;obtain d|u|k|g|q:=q;have n:=I.nofrz k g;refine thn (h i s j H _ I q) λf s1 z=>?_;cases f with
 | next=>obtain b|c|l|o|m|a:=z;exact(b,_,l.thaw m g n,a)
 | brk=>obtain b|c|_|a:=z;exact a.elim
 | Η=>obtain b|c|_|a:=z;exact a.elim
 | ret v=>obtain v'|b|c|_|_|a:=z;exact a.elim
def ZwI(t u:TS):TS:=λD c H=>∃M:St->Hp->Prop,t { D with nx:=M } c H/\∀a b,M a b->u D a b
theorem SW{X:Cx}{st:aM}{Ć:ź}{t u:TS}(h1:PS X st t)(h2:PSs X Ć u):PSs X (st::Ć) (ZwI t u):=by
 rw[eS,a,d,D];rw[g9,M,h,e,h];refine ÏN (thn (h1 a s d H { D with nx:=M } I h) λf g q=>?_);cases f with
 | next=>obtain b|c|i|q:=q;exact h2 a g b c D i (e b c q)
 | ret v=>exact q
 | brk=>exact q
 | Η=>exact q
theorem Zsp{d:ae}{o:aN}{kvs:Œ}{k:Nat}{D:ae}{a:ÅR}{f:Hp}{g:TG}{h:TT}{tk j:TE}{Q:VK}(Pv:Nat->À ÁH->ÅR->Hp->Prop)(h0:Pv 0 [] ØD (upd f D ÄD))
  (hl:Íp)
  (t:∀i k x ys a H p,kvs[i]? = U (k,x,)->Pv i ys a H->H p=af->g Ż a ØC λc u=>h c u λb l=>if b=true then tk c l λv w=>j c w λy n=>∃k:Key,v=kV k/\n D=U (.dK ys)/\Ĭ<aq/\Pv (i+1) (YX ys k y) c (upd n D (.dK (YX ys k y))) else Pv (i+1) ys c l)
  (hd:Íq):K3 (Iti d o kvs) D k a f g h tk j Q:=by
 rw[y];by_cases s:i<ø
 ·refine .inr ((q,s),Pv (i+1),λjD aS z A=>(ø-(i+1),by lia,rfl,s,A),λx z y=>?_);obtain r|k'|B|C|rfl|e|rfl:=y;exact t i k' B ys a H r e p C
 ·have e:Êa:=by lia
  rw[aI]
def apart:À Int->Ð
 | []=>true
 | x::r=>r.all (λy=>x != y)&&apart r
structure CompScC (N N':Ñ) (o c:bj):Prop where
 kind:c.kind=.function
 okind:o.kind=.function
 cel:∀y∈ÂG,y.2=.cell->Ţ y.1=U .cell
 loc:∀y∈ÂG,y.2=.local->Ţ y.1=U .local
 Δ:∀y∈ÂG,y.2=.free->Ţ y.1=U .free/\ÕS
 len:ğ<=Ìn
 same:∀i∈ÁC ğ,∀x∈N'[i]?,Ţ x=U .local\/Ţ x=U .free\/Ţ x=U .cell->Ţ x=U .free/\N[i]? = U x
 nd:N'.Nodup
universe E.L2
namespace L2
open PySem PySem.Spec PyProof.Rows
def Has(κ:ÂP)(p:ÁE):Prop:=∃a,Çr p.1=U a
def kyd(κ:ÂP)(p:ÁE):κ.α:=(Çr p.1).getD κ.dflt
section
variable {κ:Äu}
def kS(κ:ÂP)(l:Êb):Prop:=l.Pairwise λp q=>ÁF (kyd κ p) (kyd κ q)
def kLe(κ:ÂP)(l m:Êb):Prop:=∀x∈l,∀y∈m,ÁF (kyd κ x) (kyd κ y)
structure Mg (κ:ÂP) (all out l m:Êb):Prop where
 perm:(out++(l++m)).Perm all
 so:kS κ out
 sl:kS κ l
 sm:kS κ m
 ol:kLe κ out l
 om:kLe κ out m
structure Mh (κ:ÂP) (all l m out:Êb):Prop where
 perm:((l++m)++out).Perm all
 so:kS κ out
 sl:kS κ l
 sm:kS κ m
 lo:kLe κ l out
 mo:kLe κ m out
structure LoPre (κ:ÂP) (a b:Ãt):Prop where
 ha:∀p∈Ír,Has κ p
 hb:∀p∈Ì5,Has κ p
 sa:kS κ Ír
 sb:kS κ Ì5
 a0:0<a.size
 b0:0<b.size
 fst:∀i,i<a.size->ÁF (KK κ b 0) (KK κ a i)
 lst:∀i,i<b.size->ÁF (KK κ b i) (KK κ a (a.size-1))
def Lo(κ:ÂP)(a b out:Ãt)(c d:Nat):Prop:=Mg κ (Ír++Ì5) Ìs (a.toList.drop c) (b.toList.drop d)
variable {a b out:Ā ÁE} {ia ib:Nat}
variable {na nb:Nat}
universe E
def KS:Nat->À (À ÁE)->À (Nat×Nat)
 | _,[]=>[]
 | o,r::a=>(o,ÀV,)::KS (o+ÀV) a
def Zwu(p:Nat×Nat×Nat):Nat×Nat:=(p.1,p.2.1,)
section
variable {ñ:ay} {w:aF} {A:aD} {E:aa->aj->Prop} {s:aj} {κ:Äu} {k0:ÂO} {st:ž} {aX:Ā ÁE}
structure Rn (κ:ÂP) (k0:ÂO) (aX:Ãt) (st:ž) (rs:À (À ÁE)) (Ć:Êb):Prop where
 kind:μ st=k0
 failed:ÅG st=af
 arr:(Đ).toList=rs.flatten++Ć
 perm:(Đ).Perm aX
 srt:∀r∈rs,kS κ r
 ne:∀r∈rs,r≠[]
 pend:(Áe st).toList.map Zwu=KS 0 rs
universe E
section
variable {ñ:ay} {w:aF} {A:aD} {E:aa->aj->Prop} {s:aj} {κ:Äu} {k0:ÂO} {st xR:ž} {aX:Ā ÁE} {α:Type} {lo:Nat}
structure Ph (k0:ÂO) (aX:Ãt) (lo:Nat) (xR st:ž):Prop where
 kind:μ st=k0
 failed:ÅG st=af
 pend:Áe st=Áe xR
 perm:(Đ).Perm aX
 pre:∀k,k<lo->Đ[k]? = (ď xR)[k]?
universe E
universe E.L2
set_option maxHeartbeats 4000000
namespace L2
open PySem PySem.Spec PyProof.Rows
variable {X:Cx}
universe E.L2
set_option maxHeartbeats 4000000
namespace L2
open PySem PySem.Spec PyProof.Rows
@[reducible] def intKd:Äu where
 α:=Int
 blt a b:=decide (a<b)
 irrefl a:=by simp
 trans a b c h1 h2:=by simp only[Êc]at *;lia
 negTrans a b c h:=by
  simp only[Êc]at *
  lia
 total a b h1 h2:=by simp only[decide_eq_false_iff_not]at *;lia
 keyOf v:=match v with|.int x _=>U x|_=>af
 dflt:=0
def rSrtIA(K:Ä):À V->Hp->VK->Prop:=λxs H Q=>X2 λ(p:ae) (ns:À Int)=>xs=Θ/\SqL K H p ξ/\∀ (l:ae) (a:À Int),H l=af->a.Perm ns->a.Pairwise (·<=·)->Q Ă (upd H l (.lst (Ń ì)))
universe E.L2
set_option maxHeartbeats 4000000
namespace L2
open PySem PySem.Spec PyProof.Rows
def txt:aa->ak
 | .str x _=>x
 | _ => ""
section
variable {ñ:ay} {w:aF} {A:aD} {E:aa->aj->Prop} {s:aj}
def Zvc(w:aF)(a:Ñ2):Prop:=∀e∈Ír,X2 λx u=>e.2=.str x u/\e.1=MM w (.inr x)
def KR(a:Ñ2):À ak:=a.toList.map λe=>txt e.2
structure SetAt (w:aF) (L:Ð) (T:ak->Prop) (o:aN) (es:Ñ2) (ep:Nat) (t:SetTable):Prop where
 ex:o.ExactSet
 da:ũ=.set es ep t
 el:Zvc w es
 nd:(KR es).Nodup
 me:∀x,T x↔x∈KR es
 sz:es.size<scanBound
 ft:t.fits es.size=true
 ld:t.led=L
 pl:es.size≠0->t.plain=false
universe E
universe E.L2
set_option maxHeartbeats 4000000
namespace L2
open PySem PySem.Spec PyProof.Rows
universe E.L2
namespace L2
open PySem PyProof.Rows
section
variable {X:Cx} {xe:aa->aj->Prop}
theorem PSs.wish{st:ź}{t:TS}(h:PSs (X.wish xe) st t)(hx:∀e s,xe e s->è e s):PSs X st t:=λa s b H D I hw=>ba (h a s b H D (I.wish _) hw) (λ_ _ q=>q.unwish) hx
universe E
def PR(a:Š)(e:ae)(h h':aI):Prop:=(∀b o,ß b=U o->b≠e->b ∉ a->ý b=U o)/\∀b o,ß b=U o->b≠e->∃sl,ý b=U { o with ÁV:=sl }
def Xu(B:aI)(a:Š)(h:aI):Prop:=(∀b o,ÃB b=U o->b ∉ a->ß b=U o)/\∀b o,ÃB b=U o->∃sl,ß b=U { o with ÁV:=sl }
theorem Xu.keep{B:aI}{d:Š}{e:ae}{h h':aI}(a:Xu B d h)(he:ÃB e=af)(k:PR d e h h'):Xu B d h' :=
 (λb o c n=>k.1 b o (a.1 b o c n) (λz=>by rw[z,he]at c;cases c) n,λb o c=>by obtain sl|f:=a.2 b o c;obtain g|i:=k.2 b _ f (λz=>by rw[z,he]at c;cases c);exact(g,i))
structure Yr (NB:ÄF) (h:aI) (e:ae) (cls:aa) (dd:Ġ) (fl:aa):Prop where
 ex:X5 λoe vs T oT ts=>ß e=U oe/\oe.cls=cls/\oe.dict=dd/\oe.data=.fields vs/\vs[1]? = U (.ref T)/\T≠e/\ß T=U oT/\oT.data=.fields ts/\ts[3]? = U fl/\NB T
structure Uk (h:aI) (e:ae) (cls:aa) (dd:Ġ):Prop where
 ex:X2 λoe vs=>ß e=U oe/\oe.cls=cls/\oe.dict=dd/\oe.data=.fields vs/\vs[1]? = U .none
section
variable {M:ÀR} {A:aD} {E:aa->aj->Prop} {s:aj} {env:Env} {Û:À Env} {Â:aI} {L e:ae} {cls:aa} {dd:Ã ae} {Q:Unit->aj->Prop}
theorem ZhJ(o:aN)(f:Ā aa->Ā aa):(ÅS f o).dict=o.dict:=by unfold ÅS;split<;>rfl
theorem KQ{d:aN}{vs:Á2}{m:aa}{v:Ð}(w:Êd)(hl:Ñ3)(x:Çz)
  (he:é e=U d) (hd:d.data=.fields vs) (hsz:1<vs.size) (y:Ñ4)
  (h:∀h',PR ÅT e Ê h'->(∀NB:ae->Prop,(∀T,Î<=T->NB T)->Yr NB h' e d.cls d.dict (Ŭ L))->Q () { s with Õ:=h' }) :
  ar M A (do let a <- frameOf env;let g <- entryPlaceOf L v;let b <- ØE m a .none (Ŭ L) .none g;setField ŝ 1 b) Q E s:=by
 refine ah (wpAny_frameOf_fun w hl x λc i=>?_);refine ah (wpAny_entryPlaceOf λg n=>?_);unfold ØE newFields;refine ah (bz ?_ (n.sizeOk5 _ _ _ _ _));have p:c.get? e=U d:=(i.2.1 e y).trans he;have q:Ät≠e:=QX (Qq p);generalize r:({ cls:=.type "traceback",ο:=af,Ó:=.fields ([m,.ref L,.none,Ŭ L,.none]++(if g.isEmpty then ÁA 6 Ài else g)).toArray }:aN)=j;have t:(c.push j).get? e=U d:=Qc _ p;have u:=ÉL hd Ñ5;have z:=Q4 (ÅS Ñ5) t (Ð7 u);have k:∀b,b≠e->((c.push j).update e (ÅS Ñ5)).get? b=(c.push j).get? b:=#[sH,f];refine ÉK t hd hsz (h _ (λb o f l C=>?_,λb o f l=>?_) (λB D=>(_,_,Ät,j,_,z,Ös _ _,ZhJ _ _,u,by simp[hsz],q,(k _ q).trans (Qt c (by rw[<- r];rfl)),by rw[<- r],?_,?_)))
 ·rw[k b l];exact Qc _ ((i.2.1 b C).trans f)
 ·obtain F|G:=i.2.2 b o f;exact(F,by rw[k b l];exact Qc _ G)
 ·first|(simp;done)|(rcases n with rfl|⟨_,_,_,_,_,_,_,rfl⟩<;>simp)
 ·exact D _ (ËZ i.1.symm)
theorem Zpe{NB:ÄF}(g:ØF)(i:Êd)(hl:Ñ3)(c:Çz)(hx:Uk Ê e cls dd)
  (h:∀h',PR ÅT e Ê h'->Yr NB h' e cls dd (Ŭ L)->Q () { s with Õ:=h' }):ar M A Ís Q E s:=by
 obtain oe|j|a|rfl|rfl|b|d:=hx.ex;have l:Ñ4:=λm=>by obtain _|o|f|n:=hl.mem m;rw[fQ,a,f,f];exact n j b
 unfold Çh;simp only[c];refine ah (bg a b d ?_);rw[zf,Ë];exact KQ i hl c a b (Qar.mp d).1 l λh' k x=>h h' k (x NB g)
theorem ZsU{B:aI}{NB:ÄF}(F:ØF)(hB:∀T,NB T->ÃB T=af)(G:Êd)(hl:Ñ3)(q:Çz)(H:ÃB e=af)(r:Xu B ÅT Ê)(hx:Yr NB Ê e cls dd .none)
  (h:ØG):ar M A Ís Q E s:=by
 obtain oe|g|T|oT|I|i|rfl|rfl|j|t|u|d|l|v|J:=hx.ex;have K:=hB T J;have N:Ñ4:=λO=>by obtain _|o|w|c:=hl.mem O;rw[fQ,i,w,w];exact c g j
 unfold Çh;simp only[q];refine ah (bg i j t ?_);rw[Æ Ñ6];refine ah (bg d l v ?_);rw[Ç (show ¬ ((Ài == Ŭ L)=true) from by simp[Ŭ])];refine ah (ÉK d l (Qar.mp v).1 ?_);have f:∀b,b≠T->(Üp).get? b=é b:=#[sH,a];have y:ØH:=λb o a z=>by rw[z,K]at a;cases a
 have n:Xu B ÅT Üp:=(λb o a m=>(f b (y b o a)).trans (r.1 b o a m),λb o a=>by obtain C|p:=r.2 b o a;exact(C,(f b (y b o a)).trans p));have P:ØI:=λb o a c z=>by rw[z,d]at a;cases a;exact c I l
 have D:(Üp).FunFrames Â (env::Û):=hl.of_keeps λb o a c=>(o,(f b (P b o a c)).trans a,rfl);refine KQ (s:={ s with Õ:=Äk T (ÅS (·.setIfInBounds 3 Ài)) }) G D q ((f e ÌW).trans i) j (Qar.mp t).1 N λh' k x=>h h' (n.keep H k) ?_ (x NB λT d=>F T (by rw[ÌY]at d;exact d));exact D.of_keeps λb o a c=>by obtain C|p:=k.2 b o a (λz=>by rw[z]at a;rw[(f e ÌW).trans i]at a;cases a;exact c g j);exact(_,p,rfl)
theorem ZlN{NB:ÄF}(a:Çz)(hx:Yr NB Ê e cls dd (Ŭ L))(h:Q () s):ar M A Ís Q E s:=by obtain oe|vs|T|oT|ts|b|rfl|rfl|c|d|tz|f|g|i|xT:=hx.ex;unfold Çh;simp only[a];refine ah (bg b c d ?_);rw[Æ Ñ6];refine ah (bg f g i ?_);rw[Æ (show (Ŭ L == Ŭ L)=true from by simp)];exact av h
theorem Uj{B:aI}{NB:ÄF}(hB:∀T,NB T->ÃB T=af){k:Š}{y:aa}{F:Ġ}{l:ÁW}(hl:ÆF Â l)(n:Xu B k Ê)(hx:Yr NB Ê e cls dd y)
  (h:∀h',Xu B k h'->Ñ7 Â l->Yr NB h' e cls dd (F.elim .none λf=>Ŭ f)->Q () { s with Õ:=h' }):ar M A (Ñ8 ŝ F) Q E s:=by
 obtain C|g|T|oT|p|q|rfl|rfl|r|t|u|i|c|D|v:=hx.ex;have G:=hB T v;have w:3<p.size:=(Qar.mp D).1;have d:∀b,b≠T->(Äk T (ÅS (·.setIfInBounds 3 (F.elim Ài λf=>Ŭ f)))).get? b=é b:=#[sH,a];have x:ØH:=λb o a z=>by rw[z,G]at a;cases a
 have H:ØI:=λb o a j z=>by rw[z,i]at a;cases a;exact j p c
 unfold Ñ8;refine ah (bg q r t ?_);rw[Æ Ñ6];refine ÉK i c w (h _ (λb o a m=>(d b (x b o a)).trans (n.1 b o a m),λb o a=>?_) (hl.of_keeps λb o a j=>(o,(d b (H b o a j)).trans a,rfl)) (C,g,T,_,_,(d e ÌW).trans q,rfl,rfl,r,t,u,Q4 _ i (Ð7 (ÉL c _)),ÉL c _,by simp[w],v));obtain I|J:=n.2 b o a;exact(I,(d b (x b o a)).trans J)
universe E
structure Ui (B Â:aI) (NB:ÄF) (env:Env) (Û:ÁW) (L e:ae) (cls:aa) (dd:Ġ) (h:aI):Prop where
 st:Xu B ÅT h
 fun_:h.FunFrames Â (env::Û)
 new:ÃB e=af
 nb:∀T,ĺ<=T->NB T
 hB:∀T,NB T->ÃB T=af
 ex:Uk h e cls dd\/Yr NB h e cls dd .none\/Yr NB h e cls dd (Ŭ L)
section
variable {M:ÀR} {A:aD} {E:aa->aj->Prop} {s:aj} {env:Env} {Û:À Env} {B Â:aI} {NB:ae->Prop} {L e:ae} {cls:aa} {dd:Ã ae} {Q:Unit->aj->Prop}
theorem Ui.noted(hx:ØJ)(d:Êd)(a:Çz)
  (h:ØG):ar M A Ís Q E s:=by
 rcases hx.ex with x|x|x
 ·refine Zpe hx.nb d hx.fun_ a x λh' k f=>h h' (hx.st.keep hx.new k) ?_ f;obtain oe|g|i|_|_|j|_:=x.ex;refine hx.fun_.of_keeps λb o c l=>?_;obtain sl|m:=k.2 b o c (λz=>by rw[z,i]at c;cases c;exact l g j);exact(_,m,rfl)
 ·exact ZsU hx.nb hx.hB d hx.fun_ a hx.new hx.st x h
 ·exact ZlN a x (h Ê hx.st hx.fun_ x)
theorem Ui.leaves(hx:ØJ)(d:Êd)(f:Çz)
  (h:∀h',Xu B ÅT h'->Ñ7 Â (env::Û)->Yr NB h' e cls dd .none->Q () { s with Õ:=h' }):ar M A (leaving env ŝ) Q E s:=by
 unfold leaving;refine ah (hx.noted d f λg a b c=>?_);exact Uj hx.hB (s:=#[gZ,s,g]) (F:=af) b a c h
universe E
open PySem.W (hideAll hideAll_none hideAll_get hideAll_size of_hideAll)
def NB(lo:Nat)(H:Hp)(ps:Š)(T:ae):Prop:=lo<=T/\H T=af/\T ∉ ps
def CX1(P:ay)(w:aF):CXT:=λouter H s E c s'=>X4 λ(e:ae) (cls:aa) (b:Ã ae) (a:Hp)=>c=.ref e/\Î<=e/\a e=af/\Yr (NB Î a []) ÀB e cls b .none /\
 s'.os=s.os/\Ãb s'.gens/\Un (frs Û) [] H a Ê ÀB/\HOk P w a ÀB/\E cls b a
def XE(X:Cx)(E:St->XK):aa->aj->Prop:=λg s'=>X6 λ(e:ae) (cls:aa) (b:Ã ae) (d:À (ae×aN)) (f:St) (a:Hp)=>g=.ref e/\ū<=e/\e≠İ/\#[gr,c,e]/\a e=af/\Inv X d f a s'/\(∀p∈X.pn++d,p.1≠e) /\
 (Uk ÀB e cls b\/Yr ØK ÀB e cls b .none\/Yr ØK ÀB e cls b Ñ9)/\E f cls b a
section
variable {X:Cx} {ai:À (ae×aN)} {σ:St} {H:Hp} {s s':aj} {E:St->XK}
theorem Inv.refused(I:ä){u:aa}(h:CX1 ù X.w Ε H s (E σ) u s'):XE X E u s':=by
 obtain e|cls|A|w|rfl|y|B|C|os|f|un|j|q:=h;have i:ØL:=I.sz;have D:Inv X ai σ w s':=by obtain F|g|d|t|G:=s';obtain rfl:G=s.os:=os;exact I.call (h':=F) (g':=g) (d':=d) (t':=t) (ch:=[]) un j f (λb z=>È z Ö)
 have k:∀a o,é a=U o->a≠e:=λa o J z=>by have:=Qq J;rw[g1,z,y]
 refine(e,cls,A,ai,σ,w,rfl,Qk i y,λz=>?_,λx c K z=>?_,B,D,λp l z=>?_,.inr (.inl ?_),q)
 ·rw[ix,n,Ś,k]
 ·obtain v|o|n|_:=Àj x c K;exact k _ _ n z
 ·exact k _ _ (Àk p l).1 z
 ·obtain L|M|T|N|O|P|Q|R|S|V|W|Y|Z|a9|r:=C.ex;refine(L,M,T,N,O,P,Q,R,S,V,W,Y,Z,a9,Qk i r.1,r.2.1,λhm=>?_);rw[sJ,p,l,ep,Ğ,hm];have:=Qq (Àk p l).1;rw[g1,ep,r.1]
theorem Inv.fly{e:ae}{cls:aa}{g:Ġ}(I:ä)(C:Òa)(he:ū<=e)(Y:e≠İ)(Z:∀x c,γ x=U c->c≠e)(hn:H e=af)(hp:∀p∈X.pn++ai,p.1≠e)
  (hx:Uk Ê e cls g\/Yr ØM Ê e cls g .none\/Yr ØM Ê e cls g Ñ9) :
  X2 λ(B:aI) (M:ae->Prop)=>Ui B Ő M Ì Âw İ e cls g Ê/\(∀T,M T->NB ū H Êe T)/\∀h',Xu B ((Ì::Âw).filterMap (·.frame)) h'->Inv X ai σ H { s with Õ:=h' }:=by
 have D:ØL:=I.sz;obtain⟨ch,E,Es⟩:∃ch:À ae,(e∈ch/\∀T∈ch,T=e\/(NB ū H ((X.pn++ai).map (·.1)) T/\X2 λo h=>é T=U o/\ũ=.fields h)) /\
   (Uk Ê e cls g\/Yr ØN Ê e cls g .none\/Yr ØN Ê e cls g Ñ9):=by
  rcases hx with x|x|x
  ·exact([e],(List.mem_singleton.mpr rfl,λT d=>.inl (å d)),.inl x)
  ·rw[oK];refine([e,T],ØO,.inr (.inl ØP));rw[54];rcases d with z|z
   ·exact .inl z
   ·rw[z];exact .inr (n,i,j,k,l)
  ·rw[oK];refine([e,T],ØO,.inr (.inr ØP));rw[54];rcases d with z|z
   ·exact .inl z
   ·rw[z];exact .inr (n,i,j,k,l)
 have gq:∀T∈ch,H T=af:=λT d=>by
  rcases E.2 T d with z|z
  ·rw[z];exact hn
  ·exact z.1.2.1
 have big:∀T,Î<=T->NB ū H Êe T:=λT d=>by refine(Qk D d,ÆG d,λq=>?_);rw[sJ,p,Q,R,Ğ,q];have:=Qq (Àk p Q).1;rw[g1,R,d]
 refine(hideAll Ê ch,λT=>NB ū H Êe T/\(hideAll Ê ch).get? T=af,((λb o f _=>of_hideAll _ f,λb o f=>(ÈR,of_hideAll _ f)),?_,hideAll_none _ E.1,λT d=>(big T d,Ôx #[ea,hideAll_size,d]),λT d=>d.2,Es),λT d=>d.1,λh' A=>?_)
 ·rw[<- C.1];exact I.stack
 ·refine I.call' (s':=#[gZ,s,h']) (ch:=ch) rfl (λb o f _ S hc=>A.1 b o Òb ?_,λb o f _ _ hc=>A.2 b o Òb,λb o _ f _=>f,λb o f hc=>?_,λ_ _ z=>z,λ_ _ _ z=>z,λb ps z=>(#[],by rw[Array.append_empty];exact z)) ?_ Ζ λb f=>?_
  ·rw[C.1]at S;exact S
  ·obtain sl|h2:=A.2 b o Òb;exact(_,h2)
  ·intro a o r;refine(ê a o r).stay (λc u hc hu=>A.1 c u (hideAll_get _ hu λq=>?_) λq=>?_) (λ_ z=>z) λ_ _ z=>z
   ·have:=gq c q;rcases hc with rfl|hc
    ·rw[y3,r]
    ·rw[y3,hc]
   ·have:H c=af:=Ðp c #[ea,C.1,q];rcases hc with rfl|hc
    ·rw[y3,r]
    ·rw[y3,hc]
  ·rcases E.2 b f with rfl|⟨z,o,h,V,W⟩
   ·exact(.inr he,Y,Z,hp)
   ·refine(.inr z.1,λy=>?_,λx c hc y=>?_,λp Q y=>z.2.2 (Øk (p,Q,y)))
    ·obtain m|(o'|es|R|t|w|_)|_:=Ś;rw[<- y,V]at t;cases t;rw[fQ,W,w,w]
    ·obtain v|o'|t|w:=Àj x c hc;rw[eN,y,V,t];rw[fQ,W,w,w]
universe E
theorem Yr.mono{M N:ÄF}{h:aI}{e:ae}{cls:aa}{a:Ġ}{b:aa}(x:Yr M h e cls a b)(k:∀T,M T->N T):Yr N h e cls a b:=by obtain c|d|T|f|g|i|j|l|m|n|o|p|q|r|s:=x.ex;exact(c,d,T,f,g,i,j,l,m,n,o,p,q,r,k T s)
section
variable {X:Cx} {E:St->XK} {k:Nat} {f:ae} {fd:bA} {ps:À ak} {sp:Sp} {t:TA}
theorem KP{c:ć}{b:St}{H:Hp}{s:aj}{Q:VK}{us:æ}{vs:Ĕ}(F:ØQ)(hr:ι)(hb:Ít)(hx:#[fi,d])
  (I:Inv X c b H s) (r:ZG vs us) (h:sp vs H Q (E b)):ó (Ĵ č us) (EP X c b Q) è s:=by
 have g:ÀO=ÀD:=by rw[<- ÀV];exact Ã7 _ _ _ _ h
 have i:ÆY s fd Éi ÆZ:=by have:=hb s us ě #[ea,Qab,g];rwa [Qab]at this
 refine Äe (Æ1 (F.run X.A Ε s H Éi us vs Q (E b) hr I.env0 i r h) λr s' a=>?_);cases r with
 | error e=>exact hx e s' (I.refused a)
 | ok j =>
  cases j with
  | ret u=>exact I.after a
  | next=>exact Ãl
  | brk=>exact Ãl
  | Η=>exact Ãl
def KO(sp:Sp)(E:St->XK)(t:TA):TE:=λa H Q=>t a H λvs b=>sp vs b Q (E a)
universe E
section
variable {P:ay} {w:aF} {K:Ä} {mg:ak->Ã aa} {Â:aI}
theorem XE.leaves{N:Ñ}{d:ak}{g:bj}{f:ae}{i:aa}{A:aD}{Û:ÁW}{s:aj}{H:Hp}{E:XK}{j:aa}{s':aj}
  (h:XE #[hf,d,g,i] (λ_=>E) j s'):#[hf,d,g,i].xe j s':=by
 obtain e|cls|o|ai|σ|p|rfl|k|r|t|l|I|u|v|q:=h;obtain B|M|x|m|y:=I.fly ĳ k r t l u v;refine x.leaves Æ0 rfl λz a b c=>?_;have J:=y z a;exact(e,cls,o,p,rfl,k,l,c.mono λT n=>((m T n).1,(m T n).2.1,by simp),J.os,J.bare,J.base,J.hok,q)
theorem Fun.ok1{x b:ak}{st:aM}{f:ae}{c:bA}{N ps:Ñ}{k:Nat}{sp:Sp}(F:Fun K x b st f c)(S:Äl)(len:Ãn)
  (d:∀ (a:aa) (A:aD) (Û:À Env) (s:aj) (H:Hp) (vs:À V) (Q:VK) (E:XK),Z8 k #[fu,b]->sp vs H Q E ->
   ∃t,PSs ((Üq).wish (XE Üq (λ_=>E))) ÂF t/\t { nx:=λ_ g=>Q .non g,rt:=Q } ÁB H):YY P w K mg Â (CX1 P w) (k+1) f c ps sp:=by
 rw[y8,fh,pm,an,a,i];refine Ma lk i S len λA Û s H vs Q E j l=>?_;obtain t|h|q:=d a A Û s H vs Q E j l;exact(t,h.wish λe s h=>XE.leaves h,q)
universe E
section
variable {M:ÀR} {A:aD} {E:aa->aj->Prop} {h:aI} {g:Ā Ãc} {d:Åh} {t:Nat} {os:Êf}
variable {nm q:ak} {C N:ae} {bs bm:À aa} {cC:Ð} {sn:À ak} {sub:À aa} {ab:Ð} {bT:Ã Ð} {dd:Ã ae} {k0 k1 k2 k3 k5:Ã aa} {bH:Ŋ}
variable {gJ q':ak} {C' N':ae} {Et tE:À aa} {u9:Ð} {Eu:À ak} {zG:À aa} {Ev:Ð} {zH:Ã Ð} {i3:Ã ae} {Ew Ex Ey Ez EB:Ã aa} {sN:Ŋ}
theorem ZjN{e:ae}{a:aN}{b:Ð}{Q:É0}(c:ß C=U (Àw nm q C N bs bm cC sn sub ab bT dd k0 k1 k2 k3 k5 bH))(hB:ß C'=U (Àw gJ q' C' N' Et tE u9 Eu zG Ev zH i3 Ew Ex Ey Ez EB sN))
  (he:ß e=U a) (i:a.cls=.ref C) (j:tE.contains ÀH=true) (k:(à C::bm).contains (.ref C')=b) (hq:Q b τ):ar M A (Êg ŝ (.ref C')) Q E τ:=by
 have l:#[ih,C',tE]:=by rw[QN,j,Qaq]
 have f:=tc_notTuple;unfold Êg;repeat (first|(with_reducible refine Λ he ?_;rw[i])|with_reducible refine Λ hB ?_|(with_reducible refine Ág hB ?_;rw[l])|(with_reducible refine Ág c ?_;rw[k])|wp_step)
 cases b<;>(wp_walk;exact hq)
universe E
section
variable {X:Cx} {E:St->XK} {k:Nat} {f C:ae} {fd:bA} {ps:À ak} {sp:Sp} {x:ak} {p pos:Pos} {e:aK} {es:À aK} {t:TA}
theorem XE.unwish{xe:ð}{a:aa}{s:aj}(h:XE (X.wish xe) E a s):XE X E a s:=by obtain e|cls|b|c|d|f|g|i|j|k|l|I|m|n|o:=h;exact(e,cls,b,c,d,f,g,i,j,k,l,I.unwish,m,n,o)
theorem ZqY(F:ØQ)(hr:ι)(d:ŋ)(hm:Ðq)(hk:Ðr)(hb:Ít)(hx:#[fi,b])
  (ha:Àp) (g:Ī:=by decide) (he:θ:=by rfl) (i:Áz:=by rfl) :
  PE X Äf (KO sp E t):=by
 rw[gV,j,l,d,g];refine Qae (h₀:=Ő) Äg hk (thn #[f4,j,l] λus s1 a=>?_) he i;obtain vs|H1|c|r|q:=a;exact(c.kIn,KP F hr hb hx c r q)
universe E
abbrev Cx.pnd(X:Cx)(a:ć):Cx:={ X with pn:=X.pn++a }
abbrev Cx.mkd(X:Cx)(e:ae):Cx:={ X with A:=X.A.mark (U (.ref e)),calm:=false,xe:=λ_ _=>ĕ }
section
variable {X:Cx} {ai iV:À (ae×aN)} {σ:St} {H:Hp} {s:aj}
theorem Cx.Ok.pnd(ok:X.Ok)(ai:ć):(Òc).Ok :=
 ËK
theorem Cx.Ok.unpnd{ai:ć}(ok:(Òc).Ok):X.Ok :=
 ËK
theorem Inv.pnd(I:ä):Inv Òc [] σ H s:=(I.ok.pnd ai,I.os,Ζ,Åi,Ś,Àj,δ,ÀA,λp hp=>Àk p #[d8,hp],ê,Àz)
theorem Inv.unpnd(I:Inv Òc iV σ H s):Inv X ai σ H s:=(I.ok.unpnd,I.os,Ζ,Åi,Ś,Àj,δ,ÀA,λp hp=>Àk p (QU _ hp),ê,Àz)
theorem SP.unpnd{D:Ya}{f:Flow}{s':aj}(h:SP Òc iV D f s'):SP X ai D f s':=by
 cases f with
 | next=>obtain a|b|I|q:=h;exact Òd
 | brk=>obtain a|b|I|q:=h;exact Òd
 | Η=>obtain a|b|I|q:=h;exact Òd
 | ret u=>obtain v|a|b|I|r|q:=h;exact(v,a,b,I.unpnd,r,q)
theorem Inv.mkd(I:ä)(e:ae):Inv (ÅU e) ai σ H s :=
 ((Ëz,Ár,ÐY,I.ok.blt,ÈL,I.ok.inj,ËH,I.ok.cab,(λh=>by cases h),Æ0,I.ok.stk,I.ok.exf,I.ok.bs,ÈN,ÆD,ÏC,I.ok.funs,I.ok.frf),I.os,Ζ,Åi,Ś,Àj,δ,ÀA,Àk,ê,Àz)
theorem Inv.unmkd{e:ae}(I:Inv (ÅU e) ai σ H s)(ok:X.Ok):Inv X ai σ H s:=(ok,I.os,Ζ,Åi,Ś,Àj,δ,ÀA,Àk,ê,Àz)
universe E
def WZ(K:Ä)(C:ae)(a:æ):Prop:=X16 λ(nm q:ak) (N:ae) (bs:À aa) (b:Ð) (c:À ak) (sub:À aa) (d:Ð) (e:Ã Ð) (f:Ã ae) (g h i j k:Ã aa) (l:Ŋ) =>
 ĥ C=U (Àw nm q C N bs a b c sub d e f g h i j k l)
open Builtin Builtin.ObjectAttr
section
variable {ñ:ay} {w:aF} {A:aD} {E:aa->aj->Prop} {h:aI} {g:Ā Ãc} {d:Åh} {t:Nat} {os:Êf} {K:Ä}
variable {nm q:ak} {C N x:ae} {bs bm:À aa} {sn:À ak} {sub:À aa} {ab:Ð} {bT:Ã Ð} {dd:Ã ae} {k0 k1 k2 k3 k5:Ã aa} {bH:Ŋ}
 {mA:þ} {name:ak} {v:aa}
theorem ZlE{tk:Tok}{Q:#[hn,Fin]}{ns:Ñ}(X:Ū h)(hm:ØR)
  (T:ØS) (ha:Ï6) (ED:x≠C) (I:h.Inst x C mA)
  (hq:∀h' V,h'.Inst x C Ða ->
   (∀b o,b≠x->ØT->ß b=U o->ý b=U o) ->
   (∀a,ß x=U a->∃j,ý x=U j/\j.cls=a.cls/\j.data=a.data/\j.slots=Ëy/\(∀dx,Êh=U dx->j.dict=U dx)/\(Êh=af->j.dict=U ĺ))->Q (.done (.ret .none)) #[f5,h',V]) (hw:Within mA ns) (hsz:ËW) :
  ar Ô A (aT.«object.__setattr__» ([.ref x,.str name tk,v],[])) Q E τ:=by
 obtain o|i|p|r|W:=I;have Y:=hm ÀP;have L:=Qax (M:=ax ñ w) X ha;unfold aT.«object.__setattr__»;repeat (first|rw[refuse_eq]|(rw[refuseLoop_ref,Y])|(with_reducible refine Λ i ?_;rw[p])|with_reducible refine wpAny_mroOf_exc T ?_|(with_reducible refine ah (L.at ?_))|wp_step)
 rcases W with⟨P,s⟩|⟨dx,m,u,Z⟩
 ·
  rw[P,Ç (by simp[typeHasDict])];split
  ·rename_i z;cases z
  split
  ·rename_i c z;exact È z (r c)
  ·have R:(Üo).get? x=U o:=Qc _ i;have B:x≠ĺ:=Qz (Qq i);refine ah (wpAny_alloc' ?_);refine ah (wpAny_update' R ?_);refine av ?_;have D:#[c9].get? ĺ
     = U { cls:=.type "dict",Ó:=.dict #[] } :=
    (Qa2 _ _ _ _ ÇA).trans (ØU rfl rfl)
   have ir:#[c9].Ns ĺ (λ_=>af) :=
    (_,#[],_,D,rfl,λe he=>È he Ö,λ_=>rfl)
   show ar _ _ (Íu ĺ (.str name tk) name v) _ _ _;unfold Íu newKeyGuard;refine ah (av (ah (Ðc (Õa ir) λh' l k=>?_)));obtain oD|DN|DO|F|G|H:=l.count (Within.cons name v Within.nil);refine ah (Ðd F (by rw[G];exact Ðe (Qk H (by rw[QA,ÅD,aO];lia))) ?_)
   wp_walk
   have S:ý x=U { cls:=Ãd,ο:=U ĺ,Ó:=ũ,ÁV:=ÈR }:=?_;refine hq h' _ ({ cls:=Ãd,ο:=U ĺ,Ó:=ũ,ÁV:=ÈR },S,p,r,.inr (ĺ,rfl,ÇA,?_)) (λb ob J _ n=>?_)
    (λa f=>by obtain rfl:o=a:=Qv (i.symm.trans f);exact(_,S,rfl,rfl,rfl,λdx e=>(by rw[P]at e;cases e),λ_=>rfl))
   ·obtain o'|es|ep|e1|e2|e3|eu|e4:=l;exact(o',es,ep,e1,e2,e3,eu,λy=>by rw[e4 y];by_cases hy:y=name<;>simp[hy,s])
   ·exact(k.2 b (Qz (Qq n))).trans ((Qa2 _ _ _ _ J).trans (Qc _ n))
   ·refine(k.2 x B).trans (Q4 _ R ?_);have eT:=(aI.get?_some_iff.mp i).2;obtain oc|od|O|l7:=o;cases O<;>first|rfl|exact eT
 ·
  rw[m];refine av ?_;show ar _ _ (Íu dx (.str name tk) name v) _ _ _;unfold Íu newKeyGuard;refine ah (av (ah (Ðc Z λh' l k=>?_)));obtain oD|DN|DO|F|G|H:=l.count (Within.cons name v hw);refine ah (Ðd F (by rw[G];exact Ðe (Qk H #[eO,QA])) ?_)
  wp_walk
  refine hq h' _ (o,(k.2 x u.symm).trans i,p,r,.inr (dx,m,u,l)) (λb ob _ xV n=>?_)
   (λa f=>(a,(k.2 x u.symm).trans f,rfl,rfl,rfl,λ_ e=>e,λe=>by obtain rfl:o=a:=Qv (i.symm.trans f);rw[m]at e;cases e))
  exact(k.2 b (xV o dx i m)).trans n
theorem KN{Q:ÁX}{ns:Ñ}(X:Ū h)(hm:ØR)(m:Òe Ív=true)
  (j:ØS) (n:#[f1,ç]) (ha:Ï6) (p:x≠C) (I:h.Inst x C mA)
  (hq:∀h' i,h'.Inst x C Ða ->
   (∀b o,b≠x->ØT->ß b=U o->ý b=U o) ->
   (∀a,ß x=U a->∃c,ý x=U c/\c.cls=a.cls/\c.data=a.data/\c.slots=Ëy/\(∀dx,Êh=U dx->c.dict=U dx)/\(Êh=af->c.dict=U ĺ))->Q () #[f5,h',i]) (hw:Within mA ns) (hsz:ËW) :
  ar Ô A (È5 ÀP name v) Q E τ:=by
 have f:=PySem.F.store_object;obtain o|r|s|xU|hd:=id I;have l:PySem.W.Looks Ô h (typeOf ÀP) ç:=s ▸ (PySem.W.Looks.ld r).andThen .now;refine ah (wpAny_mkText (ah (ah (ah (l _ _ _ _ ËF (Qax X n _ _ _ _ ËF (aU ?_)))))));rw[PySem.F.store_object.slot.bind];have u:(à C::bm).contains Ív=true:=by rw[QN,m,Qaq]
 refine ah (av (ah (Äe (ØV f.slot.plain f.entry (@PySem.W.check_slot Ô _ _ (h,g,d,t+1,os) "object.__setattr__" "object" "__setattr__" ÀP [.str name t,v] [] _ f.kind f.split (l.andThen ?_) (f.args ÀP (.str name t) v) (ZlE X hm j ha p I (λh' i z B D=>av (av (hq h' i z B D))) hw hsz))))));intro A' Q' E' F k G;obtain h2|g2|d2|t2|os2:=F;refine Ág (k _ _ j) ?_;rw[u];exact G
universe E
abbrev Yv:À aa:=[.type "ValueError",.type "Exception",.type "BaseException",.type "object"]
structure XC (K:Ä) (C B:ae):Prop where
 obj:X15 λ(nm q:ak) (N:ae) (bs:À aa) (sn:À ak) (sub:À aa) (ab:Ð) (bT:Ã Ð) (dd:Ã ae) (k0 k1 k2 k3 k5:Ã aa) (bH:Ŋ) =>
  ĥ C=U (Àw nm q C N bs Êi true sn sub ab bT dd k0 k1 k2 k3 k5 bH)
 sa:ī K ç "__setattr__" = U È9
theorem XC.cls{K:Ä}{C B:ae}(c:XC K C B):WZ K C Êi:=by obtain a|q|N|bs|b|sub|d|e|f|g|i|j|k|l|m|h:=c.obj;exact(a,q,N,bs,true,b,sub,d,e,f,g,i,j,k,l,m,h)
abbrev exN(e C:ae)(a:Ġ):HO:=.ext λh=>∃T,ß e=U { cls:=.ref C,ο:=a,Ó:=.fields Âh }
abbrev xdO(dx:ae)(fs:À Á3):HO:=.ext λh=>∃mA,h.Ns1 dx mA/\#[zg,mA]/\ÈF mA Ëv
section
variable {X:Cx} {ai:À (ae×aN)} {σ:St} {H:Hp} {s:aj} {A:aD} {E:aa->aj->Prop} {C B e dx:ae} {f:ak} {fs:À (ak×V)}
theorem KL(B:ae)(self:aa):refuseLoop self "__setattr__" Êi=pure ():=by rw[refuseLoop_ref];exact PySem.F.store_ValueError.passes self
theorem SV{P:ay}{w:aF}{H:Hp}{h:aI}{a:Ġ}{T:ae}(he:ß e=U { cls:=.ref C,ο:=a,Ó:=.fields Âh }):Z7 P w H h e (exN e C a) :=
 ((T,he),(_,he),λh1 h2 z k=>by obtain b|z:=z;exact(b,k _ z))
theorem KJ{P:ay}{w:aF}{H:Hp}{h:aI}{mA:þ}(a:h.Ns1 dx mA)(r:∀f,Yo Ïr (mA f))(b:ÈF mA Ëv):Z7 P w H h dx (xdO dx fs) :=
 ((mA,a,r,b),let ⟨o,_,_,c,_⟩:=a;(o,c),λh1 h2 z k=>by obtain m|d|e:=z;exact(m,d.at λo q=>k o q,e))
theorem ZvB{y:V}{u:aa}{Q:ÁX}(I:ä)(c:XC X.K C B)(n:ÆU)(he:H e=U ÇB)(J:ZE y u)
  (h:∀dx s',H dx=af->dx≠e->Inv X ai σ (upd #[iC,H,dx] dx (xdO dx [(f,y,)])) s'->Q () s'):ar Ĝ A (È5 ŝ f u) Q E s:=by
 obtain nm|q|N|bs|sn|sub|ab|bT|dd|k0|k1|k2|k3|k5|bH|K:=c.obj;rw[uR];have v:=ě _ _ K;have L:e≠C:=λz=>by subst z;have:=v.symm.trans j;cases this
 rw[gJ,i,t,s];refine KN (mA:=λ_=>af) (ns:=[]) ě (KL B) rfl v c.sa n L (_,j,rfl,ÇC,.inl (rfl,λ_=>rfl)) (λh' p M O P=>?_) (λy R=>È rfl R) (Qs _);obtain S|r|w|D|F|_|W:=P _ j;obtain cl|di|da|sl:=S;have G:=W rfl;dsimp only at w D F G r;subst w D F G;have Y:H ÃC=af:=ÐI;have Z:e<ÃC:=Qq j;have ne:ÃC≠e:=QX Z;obtain o2|e2|_|_|hd:=M;obtain rfl:_=o2:=Qv (r.symm.trans e2);obtain(⟨tF,_⟩|⟨dx,j4,_,eO⟩):=hd
 ·cases tF
 cases j4;refine h ÃC _ Y ne ?_;have I1:Inv X ai σ #[iC,H,ÃC] (i.update e λo=>{ o with ο:=U ÃC },g,d,p,os):=by have m:ØW:=Q4 _ j rfl;exact Ås (x:=e) (e:=e) (t':=p) #[s1,he] Ė (λb u k q=>(Qa2 _ _ _ _ k).trans q) (_,m) (SV m)
 have m:ØW:=Q4 _ j rfl;refine I1.laid (a:=ÃC) (h':=h') (t':=p) #[iz,b,u,q] (ËZ (ÌY _ _ _)) (KJ eO (λl=>?_) λl hg=>?_)
 ·by_cases k:b=e
  ·subst k;rw[fQ,m,q,q];exact r
  ·exact O b u k (λcJ dx a b'=>by rw[j]at a;cases a;cases b') ((Qa2 _ _ _ _ k).symm.trans q)
 ·show Yo (À8 l [(f,y,)]) (if l=f then U u else af);by_cases z:l=f
  ·subst z;rw[p1];simp only[À8,ÐW];exact J
  ·rw[zf,z];simp only[À8,Æy z];exact ŭ
 ·by_cases z:l=f
  ·subst z;simp
  ·exact È (Ç z) hg
theorem ZvD{y:V}{u:aa}{Q:ÁX}(I:ä)(c:XC X.K C B)(n:ÆU)(he:H e=U (exN e C (U dx)))(l:H dx=U (xdO dx fs))(K:dx≠e)(hl:ÃR<1000)(L:ZE y u)
  (h:∀s',Inv X ai σ (upd H dx (xdO dx Ðg)) s'->Q () s'):ar Ĝ A (È5 ŝ f u) Q E s:=by
 obtain nm|q|N|bs|sn|sub|ab|bT|dd|k0|k1|k2|k3|k5|bH|M:=c.obj;rw[uR];obtain (mA|O|r|m)|_|_:=ê dx _ l;have p:=ě _ _ M;have P:e≠C:=λz=>by subst z;have:=p.symm.trans j;cases this
 rw[gJ,R,t,s];refine KN (mA:=mA) (ns:=fs.map õ) ě (KL B) rfl p c.sa n P (_,j,rfl,ÇC,.inr (dx,rfl,K,O)) (λh' S W Y Z=>?_) m #[sq,Qa,aO];obtain o1|k|v|w|D|dn|_:=Z _ j;obtain cl|di|da|sl:=o1;have F:=dn dx rfl;dsimp only at v w D F k;subst v w D F;obtain o2|e2|_|_|hd:=W;obtain rfl:_=o2:=Qv (k.symm.trans e2);obtain(⟨tF,_⟩|⟨uw,EE,_,G⟩):=hd
 ·cases tF
 cases EE;refine h _ (Ås (x:=dx) (e:=dx) (h':=h') (t':=S) #[s1,l] Ė (λb u hb q=>?_) (let ⟨o,_,_,e',_⟩:=G;(o,e')) (KJ G (λi=>?_) λi hg=>?_))
 ·by_cases J:b=e
  ·subst J;rw[show R.get? b=_ from j]at q;cases q;exact k
  ·exact Y b u J (λcJ uw a b'=>by rw[j]at a;cases a;cases b';exact hb) q
 ·show Yo ((Ðg).lookup i) (if i=f then U u else mA i);rw[Zq];by_cases q:i=f
  ·rw[ip,q,q];exact L
  ·rw[hD,q,q];exact r i
 ·by_cases q:i=f
  ·rw[q];exact#[yj].1
  ·refine#[yj].2 i (m i λz=>hg ?_);show (if i=f then U u else mA i)=af;rw[zf,q];exact z
universe E
def sX0(K:Ä)(C B:ae)(c d:TE)(f:ak):TS:=λD a H=>d a H λy g=>c a g λx b=>∃e,x=.ref e/\b e=U ÇB/\∀dx,b dx=af->dx≠e->Ċ a (upd #[iC,b,dx] dx (xdO dx [(f,y,)]))
def sX1(K:Ä)(C B:ae)(c d:TE)(f:ak):TS:=λD a H=>d a H λy g=>c a g λx b=>X3 λe dx fs=>x=.ref e/\b e=U (exN e C (U dx))/\b dx=U (xdO dx fs)/\dx≠e/\ÃR<1000/\Ċ a (upd b dx (xdO dx Ðg))
section
variable {X:Cx} {C B:ae} {f:ak} {o Àm:aK} {ta tv:TE} {pos cZ:Pos}
theorem KI(c:XC X.K C B)(n:ÆU)(ha:Ãk)(d:Ë0)(g:Ðj):PS X Ðk (sX0 X.K C B ta tv f):=by intro a s b H D I h;refine Ðl #[gm,d,a,l,m] g;rintro p s2 ⟨x,H2,r,t,e,ex,v,q⟩;subst ex;obtain rfl:p=à e:=t;exact ZvB r c n v l λw s' z ne A=>(_,_,A,q w z ne)
theorem ZvE(c:XC X.K C B)(n:ÆU)(ha:Ãk)(d:Ë0)(g:Ðj):PS X Ðk (sX1 X.K C B ta tv f):=by intro a s b H D I h;refine Ðl #[gm,d,a,l,m] g;rintro p s2 ⟨x,H2,r,t,e,dx,fs,ex,v,w,ne,z,q⟩;subst ex;obtain rfl:p=à e:=t;exact ZvD r c n v w ne z l λs' A=>(_,_,A,q)
universe E
abbrev FV:ExcBaseFacts "ValueError" "ValueError.__new__" "ValueError.__init__" Yv:=PySem.F.excBase_ValueError
section
variable {ñ:ay} {w:aF} {A:aD} {E:aa->aj->Prop} {h:aI} {g:Ā Ãc} {d:Åh} {t:Nat} {os:Êf} {K:Ä}
variable {nm q:ak} {C N B:ae} {bs:À aa} {cC:Ð} {sn:À ak} {sub:À aa} {ab:Ð} {bT:Ã Ð} {dd:Ã ae} {k0 k1 k2 k3 k5:Ã aa}
theorem mvV(C B:ae):(à C::.ref B::Yv).contains Âi=true:=by rw[QN,QN,FV.hasB];simp
theorem KH{M:ÀR}{Ć:æ}{Q:ÁX}(a:ÅV)(hq:Q () τ):ar M A (É2 "ValueError.__new__" (.ref C::Ć,[])) Q E τ:=by
 have b:=mvV C B;have hstar:=FV.noStar;simp only[É2,FV.newKind,FV.newSplit,FV.newRow];repeat (first|refine Λ a ?_|(refine Ág a ?_;rw[b])|refine wpAny_staticBase_exc a ?_|refine Òf a ?_|simp only[bne_self_eq_false,ÉC,Åw]|wp_step)
 exact hq
theorem KG{b c j:Ŋ}{a k:æ}(F:ExcBaseFacts b c j k)(l:Òg (.type b)=true)(m:Òg #[ir,"AttributeError"]=false)(n:Òg #[ir,"NameError"]=false){R:È6}{Ć:æ}(e:ß C=U (Àw nm q C N bs a cC sn sub ab bT dd k0 k1 k2 k3 k5 c))
  (hq:R (.ok (.ret ÇD)) ⟨(Çp { cls:=.type "tuple",Ó:=.seq rest.toArray }).push
   { cls:=.ref C,Ó:=.fields Òh },g,d,t,os⟩) (jI:Òi) :
  bK Ô A (.builtin c (.ref C::Ć,[])) R τ:=by
 have hends:=F.ends;have o:#[ox].contains (.type b)=true:=by rw[QN,l,Qaq]
 have f:#[ox].contains #[ir,"AttributeError"]=false:=by rw[QN,m];rfl
 have i:#[ox].contains #[ir,"NameError"]=false:=by rw[QN,n];rfl
 refine codeAny_builtinAt F.entry ?_;unfold aT.«BaseException.__new__»;refine ØX ?_;show PySem.wpAt _ _ _ (stack >>= _) _ _ _;refine ØX (PySem.wpAt_stack λp below=>ØY ?_)
 wp_walk
 refine ØY ?_;rw[F.owner];repeat (first|with_reducible refine wpAny_madeHere_exc F.canon e ?_|with_reducible refine Λ e ?_|(with_reducible refine Ág e ?_;first|rw[o]|rw[f]|rw[i])|wp_step)
 show R _ _;rw[Q1];exact hq
theorem Zmu{Ć:æ}{e:ae}{Q:#[hn,Fin]}(X:Ū h)(a:ÅV)(m:#[fl,ç,ŝ])(n:År K ŝ=true)
  (hq:∀h' T,Íw->ý ÃD=U { cls:=.ref C,Ó:=.fields Âh }->ar Ô A (Ĵ ŝ (.ref ÃD::Ć)) (λr s'=>r=.none/\Q (.done (.ret ÇD)) s') E #[f5,h',t]) (p:Òi) :
  ar Ô A (aT.«type.__call__» (.ref C::Ć,[])) Q E τ:=by
 repeat (first|with_reducible refine Λ a ?_|with_reducible refine Òf a ?_|wp_step)
 refine ØZ Ø0 (KH a ?_);refine KG FV Ø1 Ø2 Ø3 a ?_ p;show ar _ _ _ _ _ _;generalize j:Çp { cls:=.type "tuple",Ó:=.seq rest.toArray }=f;have s:ÄG=ĺ+1:=by rw[<- j];exact Q1 _ _
 have k1:#[rU,f.get?]:=λb o i=>by rw[<- j];exact Qc _ i
 generalize k:f.push { cls:=.ref C,Ó:=.fields #[.ref ĺ,.none,.none,.none,.bool false,.none] }=c;have k2:#[rU,c.get?]:=λb o i=>by rw[<- k];exact Qc _ (k1 b o i)
 have l:c.get? ÃD=U { cls:=.ref C,Ó:=.fields Òh }:=by rw[<- k,<- s];exact Ø4
 have u:=k2 _ _ a;have X2:Ū c:=X.keeps k2;have v:Ø5:=by simp
 unfold Ñh;repeat (first|with_reducible refine Λ l ?_|(with_reducible refine Ág u ?_;rw[v])|wp_step)
 rw[li];refine aU (ah ?_);refine(Ô7 X2 ÇD (Ï8 n)).at ?_;refine ah (ba (hq c ĺ k2 l) #[iz,r,s',y] λ_ _ x=>x);obtain rfl|z:=y
 wp_walk
 exact z
theorem Zv5{Ć:æ}{c:ae}{Q:ð}(X:Ū h)(a:ÅV)(e:ī K ç "__init__" = U (U ÅW))(f:År K ÅW=true)
  (hq:∀h' T,Íw->ý ÃD=U { cls:=.ref C,Ó:=.fields Âh }->ar Ô (È7 (.builtin "type.__call__" (.ref C::Ć,[]))) (Ĵ ÅW (.ref ÃD::Ć)) (λr s'=>r=.none/\Q ÇD s') E #[f5,h',t]) (i:Òi) :
  ar Ô A (Ĵ ç Ć) Q E τ:=by
 rw[ae];repeat (any_goals (first|assumption|with_reducible refine Λ a ?_|wp_step))
 refine(rfl,ÑQ Ø6 entry_typeCall (Ø7 a (Zmu X a e f (λh' T k j=>hq h' T k j) i)))
theorem Zkd{M:ÀR}{e:ae}{c:aN}{Ć:æ}{Q:ÁX}(f:ÅV)(he:ß e=U c)(i:c.cls=.ref C)(hq:Q () τ) :
  ar M A (É2 "ValueError.__init__" (.ref e::Ć,[])) Q E τ:=by
 have j:=mvV C B;have hshort:=FV.noStar;simp only[É2,FV.initKind,FV.initSplit,FV.initRow];repeat (first|(with_reducible refine Λ he ?_;rw[i])|with_reducible refine Λ f ?_|(with_reducible refine Ág f ?_;rw[j])|wp_step)
 refine Òj ?_;rw[show ∀ (a b:Ŋ) (n:Nat),Bind.check (.positional, "*", "ValueError",.self,[("args",.varPos,false)]) a b n (List.map (λx=>x.fst) ({ pos:=à e::Ć }:Args).kw)=pure () from
  λa b n=>check_star_args _ _ _ _ _ _]
 exact av hq
theorem KC{e T:ae}{u:aa}{c:Ġ}{Q:ð}(f:ÅV)(he:ß e=U { cls:=.ref C,ο:=c,Ó:=.fields Âh })
  (i:∀a,(∀b o,b≠e->ß b=U o->Åx b=U o)->(∃j,Åx e=U { cls:=.ref C,ο:=c,Ó:=.fields #[.ref j,.none,.none,.none,.bool false,.none] })->Q .none #[f5,a,t]) :
  ar Ô A (Ĵ ÄH [.ref e,u]) Q E τ:=by
 refine Äe (ØV FV.init.plain FV.initEntry (Zkd f he rfl ?_))
 wp_walk
 refine i _ (λb o k l=>?_) (ĺ,?_)
 ·rw[Qah _ _ (Ás k)];exact Qc _ l
 ·rw[Q4 _ (Qc _ he) rfl];rfl
universe E
abbrev TJ:=ak->St->Hp->VK->Prop
def PJ(X:Cx)(c:ı)(t:TJ):Prop :=
 ∀ (b:À (ae×aN)) (s:aj) (a:St) (H:Hp) (out:ak) (Q:VK),Inv X b a H s->t out a H Q->ó (joinParts out (evalEach c Ì)) (EP X b a Q) è s
def Zwl:TJ:=λout _ H Q=>out.length<=aq/\Q (.str out) H
def Zvs(b:TE)(t:TJ):TJ:=λout a H Q=>b a H λv c=>∃y,v=.str y/\(out++y).length<=aq/\t (out++y) a c Q
def Zwe(a:TE):TE:=λb H Q=>a b H λv c=>∃i:Int,v=.int i/\i.natAbs.log2<1920/\Q (.str Íx) c
section
variable {X:Cx} {e e1 e2:aK} {es:À aK} {te:TE} {t:TJ} {pos:Pos}
theorem UZ:PJ X [] Zwl:=λ_ _ _ H out _ I h=>joinParts_nil #[ge,out,h.2] h.1
theorem Ye(he:Ål)(hr:PJ X es t):PJ X (e::es) (Zvs te t):=by intro b s c H out Q I h;refine joinParts_cons #[zm,b,c,d];obtain v|f|g|r|y|rfl|i|q:=a;obtain tk|rfl:=#[eB,tk,Áq,y,r];exact(i,hr b d c f _ Q g q)
theorem V8(h:PJ X (e1::e2::es) t):PE X (.JoinedStr (e1::e2::es) pos) (t Áy):=λa s b H Q I q=>JoinedStr_many (h a s b H _ Q I q)
theorem Uh(he:Ål):PE X Ø8 (Zwe te):=by intro b s c H Q I h;refine Ø9 #[zm,b,c,s1];obtain v|d|f|r|i|rfl|g|q:=a;obtain tk|rfl:=#[eB,tk,Â8,i,r];exact formatField_int_small g (.str Íx,d,f.tok _,ÿ,q)
universe E
structure XB (K:Ä) (B:ae):Prop where
 sp:Éa K (.ref B) "__getattribute__" = U Ùa
 rd:Ùb K B Êj=true
 fi:Ùc K (.ref B) Êj "__init__" = U (.val ÄH)
def tXI(C:ae)(t:TA):TE:=λb H Q=>t b H λvs a=>X3 λe x c=>vs=[.ref e,.str x]/\a e=U (exN e C c)/\Q .non a
structure XM (K:Ä) (C B f:ae):Prop where
 obj:X14 λ(nm q:ak) (N:ae) (bs:À aa) (sn:À ak) (sub:À aa) (ab:Ð) (bT:Ã Ð) (dd:Ã ae) (k0 k1 k2 k3 k5:Ã aa) =>
  ĥ C=U Ùd
 init:ī K ç "__init__" = U ÀC
 fn:År K č=true
 kp:À9 K ç=true
 sa:ī K ç "__setattr__" = U È9
theorem XM.xc{K:Ä}{C B f:ae}(c:XM K C B f):XC K C B:=by obtain a|q|N|bs|b|sub|d|e|g|i|j|k|l|m|h:=c.obj;exact((a,q,N,bs,b,sub,d,e,g,i,j,k,l,m,_,h),c.sa)
section
variable {X:Cx} {C B f:ae} {x:ak} {p bu pos bq:Pos} {e:aK} {es:À aK} {t:TA}
theorem KA{pl:Sem Ð}(c:XM X.K C B f)(b:XB X.K B)(D:ŋ)(hm:Ě x=U (.ref B))(ha:Àp)(E:Ī:=by decide)
  (F:θ:=by rfl) (G:Áz:=by rfl)
  (J:ā Ùe Ì=(do
   let v <- ā (.Name x p) Ì
   ÃW Æ3
   let (f,first) <- Áu [v] (Ã4 v "__init__" pl)
   Æ4 pos f first (bn pos Éj) Æ5):=by rfl) :
  PE X Ùe (tXI C t):=by
 rw[eS,K,L,Q];refine QaO (pl:=pl) (Xe I D hm ?_ E) J;refine PySem.W.method_cls ě b.sp (PySem.W.cls_value ě b.rd b.fi rfl ?_);refine Õy (thn (ha pos K _ L H _ ÂA h) λus M a=>?_) F G;obtain vs|l|m|r|i|y|w|rfl|n|q:=a;obtain nm|q'|N|bs|sn|sub|ab|bT|dq|k0|k1|k2|k3|k5|O:=c.obj;obtain (T|P)|_|_:=m.hok i _ n;cases r with
 | Í R r =>
  cases r with
  | Í r2 r =>
   cases r;obtain rfl:=R;rw[gJ,hh,tk,M];refine KC (m.kIn _ _ O) P λh' k j=>?_;rw[ep,T',j,j];have A:=m.write (x:=i) (e:=i) (o:=exN i C w) (h':=h') (t':=tk) #[s1,n] Ė (λb u S z=>k b u S z) (_,j) (SV j);have V:upd l i (exN i C w)=l:=by
    funext b;by_cases z:b=i
    ·rw[z,Zb,n]
    ·rw[Zc z]
   rw[V]at A;exact(.non,l,A,rfl,q)
universe E
section
variable {X:Cx} {ai:À (ae×aN)} {σ:St} {H:Hp} {s:aj}
theorem Inv.untrack{e:ae}{f:aI->Prop}(I:ä)(hx:H e=U (.ext f)):Inv X ai σ (off e H) s:=by
 have nn:∀ {b:ae},H b=af->off e H b=af:=λh=>ZqF h;have ne:∀ {b:ae} {o:HO},H b=U o->o≠.ext f->b≠e:=λh n z=>by rw[z,hx]at h;cases h;exact n rfl
 refine(ε,I.os,Ζ,(ÈK,ÈM,λb o d n x=>nn (ÆE b o d n x),ÑZ,λb g h=>?_,λb o u h=>?_,λb i h=>?_),Ś,Àj,nn δ,λx c j=>nn (ÀA x c j),λp k=>?_,λa u l=>?_,Àz)
 ·have:=ËB b g h;exact Vy this Òk
 ·have:=ÈO b o u h;exact Vy this Òk
 ·obtain ė|this:=ËD b i h;exact(ė,Vy this Òk)
 ·obtain m|r|t:=Àk p k;exact(m,nn r,t)
 ·exact(ê a u (Ztv a u l)).stay (λ_ _ _ q=>q) (λb d=>Vy d (ne d Âj)) λb g d=>Vy d (ne d Âj)
universe E
section
variable {M:ÀR} {A:aD} {E:aa->aj->Prop} {env:Env}
theorem Kz{s:aj}{x:Sem aa}{Q:#[hn,Flow]}(w:Á4)
  (h:ar M A x (λv a=>∃ (e C T:ae) (c:Ã ae) (nm q:ak) (N:ae) (bs b:À aa) (f:Ð) (i:À ak) (sub:À aa) (j:Ð) (k:Ã Ð) (l:Ã ae) (m n o p r:Ã aa) (t:Ŋ),
   v=.ref e/\a.heap.get? C=U (Àw nm q C N bs b f i sub j k l m n o p r t)/\b.contains ÀH=true/\a.heap.get? e=U { cls:=.ref C,ο:=c,Ó:=.fields Âh }/\E ŝ a) E s) :
  ar M A (raiseStmt env (U x) af) Q E s:=by
 unfold raiseStmt;refine ah (ba h #[iz,v,a,y] λ_ _ x=>x);obtain e|C|T|c|nm|q|N|bs|b|f|i|sub|j|k|l|m|n|o|p|r|t|rfl|u|z|B|D:=y;rw[gJ,hp,tk,a];have F:#[ih,C,b]:=by rw[QN,z,Qaq]
 repeat (first|with_reducible refine Λ B ?_|with_reducible refine Λ u ?_|(with_reducible refine Ág u ?_;rw[(F)])|wp_step)
 exact wpAny_raiseNew_none w D
universe E
def Ky(C:ae)(sp:Sp)(E:St->XK)(t:TA):TS:=λ_ a H=>t a H λvs b=>∀e,b e=af ->
 sp (.ref e::vs) (upd b e ÇB) (λv c=>v=.non/\∃d,c e=U (exN e C d)/\E a ç d (off e c)) λ_ _ _=>ĕ
section
variable {X:Cx} {E:St->XK} {k:Nat} {f C B:ae} {fd:bA} {ps:À ak} {sp:Sp} {x:ak} {p pos bq:Pos} {e:aK} {es:À aK} {t:TA}
theorem ZvX{m:ć}{n:St}{H:Hp}{s:aj}{us:æ}{vs:Ĕ}{Q:Hp->Ã ae->ae->Prop}(M:XM X.K C B f)(F:Ùf)(hr:Ék)(hb:Ít)(jq:Òl)
  (I:Inv X m n H s) (r:ZG vs us) (h:∀e,H e=af->sp (.ref e::vs) (upd H e ÇB) (λv i=>v=.non/\∃c,i e=U (exN e C c)/\Q i c e) λ_ _ _=>ĕ) :
  ó (Ĵ ç us) (λu s'=>X3 λe c i=>u=.ref e/\Î<=e/\Inv X m n i s'/\i e=U (exN e C c)/\Q i c e) è s:=by
 have p:=h š Ë7;obtain nm|q'|N|bs|sn|sub|ab|bT|dq|k0|k1|k2|k3|k5|x:=M.obj;have q:ZG (ú š::vs) Õs:=.cons rfl r;have t:(Õs).length=ÀD:=by have e:=q.length;rw[Ã7 _ _ _ _ p]at e;exact ÃU
 rw[gJ,j,tk,s];refine Zv5 ě (ě _ _ x) M.init M.fn (λh' T y A=>?_) (by rw[QA]at t;rw[(aO)];lia);have o:Inv X m n (upd H Êk (exN Êk C af)) #[f5,h',tk]:=ÀU (a:=j.objs.size+1) (h':=h') (t':=tk) (λb u z=>y b u z) (QV _) (SV A);have w:=hb _ (à Êk::us) o.kIn #[ea,Qab,t];rw[Qab]at w;refine Äe (Æ1 (F.run _ Ε _ _ (à Êk::us,[]) (à Êk::us) _ _ Ìk (hr.make C us [])
  (o.env0.make C us []) w q p) λr s' l=>?_)
 cases r with
 | error e=>exact Íy
 | ok D =>
  cases D with
  | ret u=>obtain v|E|G|J|K|c|L|O:=o.after l;subst K;exact(J,_,c,E,rfl,QV _,G,L,O)
  | next=>exact Íy
  | brk=>exact Íy
  | Η=>exact Íy
theorem ZnE(M:XM X.K C B f)(F:Ùf)(hr:Ék)(hg:ŋ)(hm:Ë8)(hb:Ít)(jq:Òl)(hx:#[fi,Z])
  (ha:Àp) (cy:Ī:=by decide) (he:θ:=by rfl) (cK:Ìi:=by rfl) :
  PS X Òm (Ky C sp E t):=by
 rw[eS,ai,l,D];rw[oI];refine ah (ba (Q:=λv i=>∃ (b n T:ae) (di:Ã ae) (w q:ak) (N:ae) (bs bm:À aa) (cC:Ð) (A:À ak) (sub:À aa) (G:Ð) (J:Ã Ð) (d:Ã ae) (K L O P R:Ã aa) (bH:Ŋ),
   v=.ref b/\Òn n=U (Àw w q n N bs bm cC A sub G J d K L O P R bH)/\Òe ÀH=true/\Òn b=U { cls:=.ref n,ο:=di,Ó:=.fields Âh }/\è ÂT i) (bh (Xe I hg hm ?_ cy)) Ùg λ_ _ x=>x)
 refine Qae (h₀:=Ő) Äg M.kp (thn (ha bq ai s l H _ I h) λus i a=>?_) he cK;obtain vs|H1|g|r|q:=a;refine(g.kIn,thn (ZvX (Q:=λS d e=>E l ç d (off e S)) M F hr hb jq g r q) λu s2 z=>?_);obtain b|d|S|rfl|j|V|rg|q2:=z;obtain w|q'|N|bs|A|sub|G|J|dq|K|L|O|P|R|lC:=M.obj;obtain (T|ho)|_|_:=V.hok b _ rg;have W:∀a o,Òn a=U o->a≠b:=λa o ha z=>by have:=Qq ha;rw[g1,z,j]
 refine(b,C,T,d,w,q',N,bs,.ref B::Yv,true,A,sub,G,J,dq,K,L,O,P,R, "ValueError.__new__",rfl,V.kIn _ _ lC,by rw[QN,FV.hasBase,Qaq],ho,hx _ _ ?_);refine(b,.ref C,d,ai,l,off b S,rfl,Qk g.sz j,λz=>?_,λy c hc z=>?_,by unfold off;rw[Æ rfl],V.untrack rg,λp hp z=>?_,.inl (_,_,ho,rfl,rfl,rfl,rfl),q2)
 ·rw[ix,Y,g.loc,W]
 ·obtain v|o|Y|_:=g.cell y c hc;exact W _ _ Y z
 ·exact W _ _ (g.pin p hp).1 z
universe E
structure XG (K:Ä) (C:ae):Prop where
 ga:ī K ç "__getattribute__" = U Ùh
 gh:ī K ç "__getattr__" = U af
 sb:Êl K ç ÀH=U true
 hd:Ðf K C=true
 ca:ī K ç "__class__" = U (U ÇE)
 hm:PySem.W.mroIn K C Ív=U true
universe E.L2
namespace L2
open PySem PySem.Spec PyProof.Rows
section
variable {X:Cx} {ai:À (ae×aN)} {σ:St} {H:Hp} {s:aj} {e C:ae} {dd:Ã ae}
theorem UY{x:ak}{pos:Pos}{C:ae}(hm:Ë8)(a:ŋ:=by rfl)(b:Ī:=by decide):PE X ÀS (tC ç) :=
 λ_ _ _ H _ I h=>Xe I a hm (.ref C,H,I,rfl,h) b
universe E
structure D1f (P:ay) (w:aF) (K:Ä) (mg:þ) (Â:aI) (k:Nat) (x:ak) (ps:Ñ) (sp:Sp):Prop where
 ex:X2 λf fd=>YY P w K mg Â (CX1 P w) k f fd ps sp/\mg x=U č/\À9 K č=true/\Yz K fd ps []
structure C1f (P:ay) (w:aF) (K:Ä) (mg:þ) (Â:aI) (k:Nat) (C:ae) (x:ak) (ps:Ñ) (sp:Sp):Prop where
 ex:X2 λf fd=>YY P w K mg Â (CX1 P w) k f fd ps sp/\Mk K C f/\Yz K fd ps []/\mg x=U ç
structure Xf (P:ay) (w:aF) (K:Ä) (mg:þ) (Â:aI) (k:Nat) (C B:ae) (x:ak) (ps:Ñ) (sp:Sp):Prop where
 ex:X2 λf fd=>YY P w K mg Â CX0 k f fd ps sp/\XM K C B f/\Yz K fd ps []/\mg x=U ç
structure UX (K:Ä) (mg:þ) (C B:ae) (x aY:ak) (st:aM) (ps:Ñ):Prop where
 ex:X2 λf fd=>Fun K "__init__" aY st f fd/\XM K C B f/\Yz K fd ps []/\mg x=U ç
section
variable {P:ay} {w:aF} {K:Ä} {mg:ak->Ã aa} {Â:aI}
theorem UX.xf{C B:ae}{x c:ak}{st:aM}{N ps:Ñ}{k:Nat}{sp:Sp}(T:UX K mg C B x c st ps)(S:Äl)(len:Ãn)
  (d:∀ (a:aa) (f:ae) (A:aD) (Û:À Env) (s:aj) (H:Hp) (vs:À V) (Q:VK) (E:XK),Z8 k Íf->XM K C B f->sp vs H Q E ->
   ∃t,PSs #[b3].nox ÂF t/\t { nx:=λ_ e=>Q .non e,rt:=Q } ÁB H):Xf P w K mg Â (k+1) C B x ps sp:=by
 obtain f|i|F|m|b|g:=T.ex;exact(f,i,F.ok S len (λa A Û s H vs Q E j h=>d a f A Û s H vs Q E j m h),m,b,g)
theorem UX.cls{C B:ae}{x a:ak}{st:aM}{ps:Ñ}(T:UX K mg C B x a st ps):WZ K C Êi:=by obtain f|fd|F|m|b|g:=T.ex;exact m.xc.cls
abbrev cx1(P:ay)(w:aF)(K:Ä)(mg:þ)(Â:aI)(N:Ñ)(a:ak)(b:bj)(f:ae)(c:aa)(A:aD)(Û:ÁW)(s:aj)(H:Hp)(E:XK):Cx :=
 (XJ (CX1 P w) P w K mg Â N a b f c A Û s H E).wish (XE #[hf,a,b,c] (λ_=>E))
theorem Top.df1{x:ak}{st:aM}{N ps:Ñ}{k:Nat}{sp:Sp}(T:Top K mg x st ps)(S:Äl)(len:Ãn)
  (c:∀ (a:aa) (f:ae) (A:aD) (Û:À Env) (s:aj) (H:Hp) (vs:À V) (Q:VK) (E:XK),Z8 k #[fu,x]->sp vs H Q E ->
   ∃t,PSs (cx1 P w K mg Â N x (Zh st) f a A Û s H E) ÂF t/\t { nx:=λ_ d=>Q .non d,rt:=Q } ÁB H):D1f P w K mg Â (k+1) x ps sp:=by
 rw[st,e];exact(f,e,F.ok1 S len #[eG,g,c],m,F.kp,b)
universe E
section
variable {X:Cx} {E:St->XK} {k j:Nat} {C B:ae} {x:ak} {ps:À ak} {sp:Sp} {e:aK} {es:À aK} {t:TA} {p pos bq:Pos}
theorem SU(F:#[im,D1f])(hx:#[fi,a])(hr:Âb)(ha:Àp)(c:k<=j:=by decide)(d:ŋ:=by rfl)(g:Ī:=by decide)
  (h:θ:=by rfl) (i:Áz:=by rfl) :
  PE X Äf (KO sp E t):=by
 rw[iA,m,l,b];exact ZqY F (Ã8 c) d m l b hx ha g h i
theorem Zvu(F:Xf ù X.w X.K Ě Ő k C B x ps sp)(hx:#[fi,a])(hr:Âb)(ha:Àp)(c:Òl:=by decide)(d:k+1<=j:=by decide)(h:ŋ:=by rfl)(i:Ī:=by decide)
  (l:θ:=by rfl) (m:Ìi:=by rfl) :
  PS X Òm (Ky C sp E t):=by
 rw[iA,g,b,n];exact ZnE g F (Ã8 d) h n b c hx ha i l m
universe E
section
variable {K:Ä} {C D:ae}
theorem SS:Ď K ç ç=U true:=by unfold Ď;rw[Æ Ö]
theorem SR(h1:#[f0,D])(h2:#[rs,Ι])(a:#[gu,ç,D]):Ď K ç Ι=U true:=by
 unfold Ď;split
 ·rfl
 ·unfold Òo;have b:Ùi:=h1;dsimp only;rw[b,h2,Æ É];exact a
theorem WY(h1:#[f0,D])(h2:#[rs,Ι])(a:Êl K ç Ι=U false)(b:#[ez,ç,ç]):Ď K ç Ι=U false:=by
 have ne:C≠D:=λz=>by subst z;rw[fQ,a,b,b]
 unfold Ď;rw[Ç (by simp[ne])];unfold Òo;have c:Ùi:=h1;dsimp only;rw[c,h2,Æ É];exact a
theorem SQ(h:#[ez,ç,Âi]):Ď K ç Âi=U true:=by unfold Ď;rw[Ç (λz=>by cases z)];unfold Òo;dsimp only;rw[Æ û];exact h
universe E
universe E.L2
namespace L2
open PySem PyProof.Rows
section
variable {ñ:ay} {w:aF} {A:aD} {E:aa->aj->Prop} {h:aI} {g:Ā Ãc} {d:Åh} {t:Nat} {os:Êf} {K:Ä}
variable {nm q:ak} {C N B:ae} {bs:À aa} {cC:Ð} {sn:À ak} {sub:À aa} {ab:Ð} {bT:Ã Ð} {dd:Ã ae} {k0 k1 k2 k3 k5:Ã aa}
theorem Zl3{u:aa}{Q:#[hn,Fin]}(X:Ū h)(c:ÅV)(m:#[fl,ç,ÄH])
  (hq:∀h' T,Íw->ý ÃD=U { cls:=.ref C,Ó:=.fields Âh }->Q (.done (.ret ÇD)) #[f5,h',t]) :
  ar Ô A (aT.«type.__call__» ([.ref C,u],[])) Q E τ:=by
 repeat (first|with_reducible refine Λ c ?_|with_reducible refine Òf c ?_|wp_step)
 refine ØZ Ø0 (KH c ?_);refine KG FV Ø1 Ø2 Ø3 c ?_ #[gE,1];show ar _ _ _ _ _ _;generalize i:Çp { cls:=.type "tuple",Ó:=.seq [u].toArray }=e;have n:e.objs.size=ĺ+1:=by rw[<- i];exact Q1 _ _
 have k1:#[rU,e.get?]:=λb o a=>by rw[<- i];exact Qc _ a
 generalize j:e.push { cls:=.ref C,Ó:=.fields #[.ref ĺ,.none,.none,.none,.bool false,.none] }=f;have k2:#[rU,f.get?]:=λb o a=>by rw[<- j];exact Qc _ (k1 b o a)
 have k:f.get? ÃD=U { cls:=.ref C,Ó:=.fields Òh }:=by rw[<- j,<- n];exact Ø4
 have l:=k2 _ _ c;have X2:Ū f:=X.keeps k2;have p:Ø5:=by simp
 unfold Ñh;repeat (first|with_reducible refine Λ k ?_|(with_reducible refine Ág l ?_;rw[p])|wp_step)
 rw[li];refine aU (ah (wpAny_of_eq (FV.init.bind _) ?_));refine ah (KC l k ?_);rintro h' r ⟨s,v⟩
 wp_walk
 exact hq h' s (λb o a=>r b o (λz=>by have:=Qq a;rw[z]at this;exact Ùj) (k2 b o a)) v
theorem Zu1{u:aa}{Q:ð}(X:Ū h)(a:ÅV)(c:#[fl,ç,ÄH])
  (hq:∀h' T,Íw->ý ÃD=U { cls:=.ref C,Ó:=.fields Âh }->Q ÇD #[f5,h',t]) :
  ar Ô A (Ĵ ç [u]) Q E τ:=by
 rw[ae];repeat (any_goals (first|assumption|with_reducible refine Λ a ?_|wp_step))
 refine(rfl,ÑQ Ø6 entry_typeCall (Ø7 a (Zl3 X a c λh' T k e=>hq h' T k e)))
universe E
structure XW (K:Ä) (mg:þ) (C B:ae) (x:ak):Prop where
 obj:X14 λ(nm q:ak) (N:ae) (bs:À aa) (sn:À ak) (sub:À aa) (ab:Ð) (bT:Ã Ð) (dd:Ã ae) (k0 k1 k2 k3 k5:Ã aa) =>
  ĥ C=U Ùd
 init:ī K ç "__init__" = U (U ÄH)
 kp:À9 K ç=true
 m:mg x=U ç
theorem XW.cls{K:Ä}{mg:þ}{C B:ae}{x:ak}(c:XW K mg C B x):WZ K C Êi:=by obtain a|q|N|bs|b|sub|d|e|f|g|i|j|k|l|h:=c.obj;exact(a,q,N,bs,_,b,sub,d,e,f,g,i,j,k,l,_,h)
def Zr7(C:ae)(E:St->XK)(t:TA):TS:=λ_ a H=>t a H λvs b=>∃x,vs=[.str x]/\E a ç af b
section
variable {X:Cx} {E:St->XK} {k j:Nat} {C B:ae} {x m:ak} {ps:À ak} {sp:Sp} {p bu pos bq:Pos} {e o:aK} {es:À aK} {ta:TE} {t:TA}
theorem Kx(M:XW X.K Ě C B x)(hx:#[fi,ev])(hr:Âb)(ha:Àp)(hg:ŋ:=by rfl)(cy:Ī:=by decide)
  (he:θ:=by rfl) (cK:Ìi:=by rfl) :
  PS X Òm (Zr7 C E t):=by
 rw[eS,n,w,D];rw[oI];refine ah (ba (Q:=λv k=>∃ (A F T:ae) (di:Ã ae) (G q:ak) (N:ae) (bs bm:À aa) (cC:Ð) (J:À ak) (sub:À aa) (K:Ð) (L:Ã Ð) (dd:Ã ae) (O P R S V:Ã aa) (bH:Ŋ),
   v=.ref A/\k.heap.get? F=U (Àw G q F N bs bm cC J sub K L dd O P R S V bH)/\Òe ÀH=true/\k.heap.get? A=U { cls:=.ref F,ο:=di,Ó:=.fields Âh }/\è (.ref A) k) (bh (Xe I hg M.m ?_ cy)) Ùg λ_ _ x=>x)
 refine Qae (h₀:=Ő) Äg M.kp (thn (ha bq n s w H _ I h) λus k a=>?_) he cK;obtain vs|l|i|r|y|rfl|q:=a;obtain u|rfl|ru:=r.one;obtain G|q'|N|bs|J|sub|K|L|dq|O|P|R|S|V|lC:=M.obj;rw[gJ,f,tk,k];refine(i.kIn,Zu1 i.kIn (i.kIn _ _ lC) M.init λh' T kp W=>?_);have hn:l Íz=af:=i.hok.fresh (QV _);have I2:Inv X n w Ùk #[f5,h',tk]:=i.laid (a:=ÄG+1) (h':=h') (t':=tk) (λb u z=>kp b u z) (QV _) (SV W);have I3:=I2.untrack (e:=ÄG+1) Zb;have eH:off Íz Ùk=l:=by
  funext b;unfold off;by_cases z:b=ÄG+1
  ·rw[Æ z,z,hn]
  ·rw[Ç z,Zc z]
 rw[eH]at I3;have Y:∀a o,f.get? a=U o->a≠ÄG+1:=λa o ha z=>by have:=Qq ha;rw[z]at this;exact Ùj
 refine(ÄG+1,C,T,af,G,q',N,bs,.ref B::Yv,true,J,sub,K,L,dq,O,P,R,S,V, "ValueError.__new__",rfl,kp _ _ (i.kIn _ _ lC),by rw[QN,FV.hasBase,Qaq],W,hx _ _ ?_);refine(ÄG+1,.ref C,af,n,w,l,rfl,Qk i.sz (QV _),λz=>?_,λy c hc z=>?_,hn,I3,λp hp z=>?_,.inl (_,_,W,rfl,rfl,rfl,rfl),q)
 ·rw[ix,Z,i.loc,Y]
 ·obtain v|o|Z|_:=i.cell y c hc;exact Y _ _ Z z
 ·exact Y _ _ (i.pin p hp).1 z
structure M1f (P:ay) (w:aF) (K:Ä) (mg:þ) (Â:aI) (k:Nat) (C:ae) (m:ak) (ps:Ñ) (sp:Sp):Prop where
 ex:X2 λf fd=>YY P w K mg Â (CX1 P w) k f fd ps sp/\U7 K C m f/\Yz K fd ps []
def ZtQ(C:ae)(m:ak)(sp:Sp)(E:St->XK)(ta:TE)(t:TA):TE:=λa H Q=>ta a H λx b=>RMt C m x b (t a b λvs c=>sp (x::vs) c Q (E a))
theorem UW{pl:Sem Ð}(F:#[fA,M1f,m])(c:Ã6)(hx:#[fi,d])(hr:Âb)(he:Ãk)(ha:Àp)(y:k<=j:=by decide)
  (z:θ:=by rfl) (A:Áz:=by rfl)
  (B:ā Æ2 Ì=(do
   let g <- ā o Ì
   ÃW Æ3
   let (f,first) <- Áu [g] (Ã4 g m pl)
   Æ4 pos f first (bn pos Éj) Æ5):=by rfl) :
  PE X Æ2 (ZtQ C m sp E ta t):=by
 obtain f|fd|F|i|b:=F.ex;rw[rL,n,p,B];rw[gy,D,G,v,J,K];refine Ru v K c i l ?_;refine Qae (first:=η) (h₀:=Ő) Äg i.kp (thn (ha pos n D p G _ v q) λus s2 ⟨vs,H2,w,r,L⟩=>(w.kIn,?_)) z A;exact KP (us:=.ref a::us) (vs:=.ref a::vs) F (Ã8 y) b hx w (.cons rfl r) L
universe E
theorem Ym.mf1{P:ay}{w:aF}{K:Ä}{mg:þ}{Â:aI}{C:ae}{m c:ak}{st:aM}{N ps:Ñ}{k:Nat}{sp:Sp}(T:Ym K C m c st ps)(S:Äl)(len:Ãn)
  (d:∀ (a:aa) (f:ae) (A:aD) (Û:À Env) (s:aj) (H:Hp) (vs:À V) (Q:VK) (E:XK),Z8 k Íf->sp vs H Q E ->
   ∃t,PSs (cx1 P w K mg Â N c (Zh st) f a A Û s H E) ÂF t/\t { nx:=λ_ e=>Q .non e,rt:=Q } ÁB H):M1f P w K mg Â (k+1) C m ps sp:=by
 rw[st,g];exact(f,g,F.ok1 S len #[eG,i,d],m,b)
def ZvH(i j l:Nat)(b:TA):TS:=λD a H=>b a H λvs c=>X3 λv w z=>vs=[v,w,z]/\Ċ (((a.set l (U z)).set j (U w)).set i (U v)) c
theorem ZrI{X:Cx}{pos:Pos}{i j l:Nat}{x y z:ak}{a b c:aK}{C:TA}{m n r pt:Pos}{kt t A}(hc:ŕ)(B:ÃV)(J:Ây)(K:X.N[j]? = U y)(hl:X.N[l]? = U z)
  (hx:#[fH,x]) (hy:#[fH,y]) (hz:#[fH,z]) (ha:PA X [a,b,c] C)
  (hw:ÏQ Òp Òq Ì=pure (U [x,y,z]))
  (L:ÏP Òp Òq ÆN Ì=pure false:=by rfl) :
  PS X (.Assign Òp Òq pos) (ZvH i j l C):=by
 rw[eS,E,F,D];rw[vP];rw[L];rw[kP];rw[zf,Ë];refine ah (Tuple_ (thn (ha _ E s F H _ I h) λM d a=>?_));obtain vs|G|N|O|v|w|u|P|Q:=a;subst P;obtain⟨f,g,k,rfl,R,S,T⟩:X3 λf g k=>M=[f,g,k]/\ZE v f/\ZE w g/\ZE u k:=by
  cases O with
  | Í p q =>
   cases q with
   | Í V W =>
    cases W with
    | Í Y Z=>cases Z;exact(_,_,_,rfl,p,V,Y)
 refine bz ?_ υ;have I2:Inv X E F G { d with Õ:=d.heap.push { cls:=.type "tuple",Ó:=.seq [f,g,k].toArray } }:=N.kept (t':=d.toks) λb o e=>Qc _ e;rw[hw];rw[kP];show ó (do rule "assign.swapped-stores";let ő <- ËN (.ref d.heap.objs.size) 3 af;ÈV Ùl items.reverse;pure ËO) _ _ _;refine ah (Ãg (ah (ÔO (ő:=#[f,g,k]) Á0 (ÏT d.heap _) λh' bS=>?_)));have I3:=I2.kept (h':=h') (t':=d.toks) λb o e=>bS b o ÆO e;show ar _ _ (ÈV Ùl [k,g,f] >>= λ_=>pure ËO) _ _ _;refine ah (Åm (ÈY (Wf I3 B hl (.inl hz) T (λs2 I4=>?_) (.inr hz))));refine Åm (ÈY (Wf I4 B K (.inl hy) S (λs3 I5=>?_) (.inr hy)));refine Åm (ÈY (Wf I5 B J (.inl hx) R (λs4 I6=>ËM (av ?_)) (.inr hx)));exact(_,G,I6,Q)
universe E.L2
namespace L2
open PySem PySem.Builtin PySem.Builtin.Str PyProof.Rows
def ZuW:V->À V->Hp->VK->Prop:=λx vs H Q=>X2 λz y:ak=>x=.str z/\vs=[.str y]/\(ſ == 0)=false/\ŗ<=aq/\(Âk z y).length<=aq/\∀a,H a=af->Q Ħ (upd H a (.lst Òr))
section
variable {X:Cx}
theorem Kw(k:Nat):∀ys:À ak,ZG ÉG ((numbered k ys).map λp=>Áq p.1 p.2)
 | []=>.nil
 | y::r=>by show ZG (Å y::ÂU Å) (Áq y k::(numbered (k+1) r).map λp=>Áq p.1 p.2);exact .cons ÿ (Kw (k+1) r)
theorem Kv:MtR X "str.split" ZuW:=by
 intro n s p H x vs v us Q I r w h;obtain z|y|rfl|rfl|i|d|j|q:=h;rw[sZ,r];obtain u|rfl|A:=w.one;rw[eA,f,A];have one:∀ (k:Nat),[z]=Âk z y->X2 λl m=>Inv X n p m { s with ï:=k,Õ:=Àl { cls:=.type "list",Ó:=.seq #[.str z t] } }/\ZE l Åo/\Q l m:=λk e=>by refine(.ref Î,_,ÀU (t':=k) (o:=.lst Òr) #[ie,b,o,g] ë ?_,rfl,q _ Ãm);rw[<- e];exact(by show 1<=aq;decide,[.str z t],_,.cons ÿ .nil,Qt _ rfl)
 cases a:(decide (ŗ<ſ)||decide (strKind z<strKind y))
 ·cases c:(ÍA z y 0 ŗ (ŗ+1)).isEmpty
  ·have e:Âk z y=Òs z (ÍA z y 0 ŗ (ŗ+1)) ſ:=#[qR].trans (Ç (Ùm c));refine Çe Òt Òu Òv Òw (meets_str_split_sep z y t f a i c d #[eP,e,j]) ?_;refine(.ref Î,_,ÀU (t':=Ļ+(Ùn).length) (h':=Àl { cls:=.type "list",Ó:=.seq (strsFrom Ļ Ùn).toArray }) (o:=.lst Òr) #[ie,b,o,g] ë ?_,rfl,q _ Ãm);refine(by rw[Qa];exact j,strsFrom Ļ Ùn,_,?_,Qt _ rfl);rw[strsFrom_eq,e];exact Kw _ _
  ·exact Çe Òt Òu Òv Òw (meets_str_split_not_found z y t f a i c) (one _ (#[qR].trans (Æ c)).symm)
 ·exact Çe Òt Òu Òv Òw (meets_str_split_cannot_occur z y t f a) (one _ (Æ a).symm)
universe E
def gl(c:Nat):À (À Nat)->À Nat
 | []=>[]
 | [a]=>a
 | a::b::r=>a++c::gl c (b::r)
theorem Ku{c:Nat}:∀ {xs ys:À (À Nat)},xs≠[]->ys≠[]->(∀a∈xs,c ∉ a)->(∀a∈ys,c ∉ a)->gl c xs=gl c ys->xs=ys
 | [],_,h,_,_,_,_=>È rfl h
 | _,[],_,h,_,_,_=>È rfl h
 | [a],[b],_,_,_,_,e=>by rw[show a=b from e]
 | [a],b::b2::r,_,_,ha,_,e=>by have e':a=b++c::gl c (b2::r):=e;exact È #[sz,e'] (ha a Ö)
 | a::g::q,[b],_,_,_,f,e=>by have e':a++c::gl c (g::q)=b:=e;exact È (by rw[<- e'];simp) (f b Ö)
 | a::g::q,b::b2::r,_,_,ha,f,e=>by
  have e':a++c::gl c (g::q)=b++c::gl c (b2::r):=e;have cut:∀ (x y u v:À Nat),c ∉ x->c ∉ y->x++c::u=y++c::v->x=y/\u=v:=λx=>by
   induction x with
   | nil =>
    intro y u v _ i h;cases y with
    | nil=>exact(rfl,by injection h)
    | Í z y=>injection h with d _;exact È #[sz,d] i
   | Í w x l =>
    intro y u v k i h;cases y with
    | nil=>injection h with d _;exact È (by rw[<- d];simp) k
    | Í z y=>injection h with d n;obtain o|p:=l y u v (λm=>k (Ql _ m)) (λm=>i (Ql _ m)) n;exact(by rw[d,o],p)
  obtain s|t:=cut _ _ _ _ (ha a Ö) (f b Ö) e';rw[s,Ku Ö Ö (λz j=>ha z (Ql _ j)) (λz j=>f z (Ql _ j)) t]
theorem PQ(c:Nat):∀ws:À ak,(Òy).cps.toList=gl c (Âl λw=>ÇF)
 | []=>rfl
 | [a]=>by simp[χ,gl]
 | a::b::r=>by
  have ih:=PQ c (b::r);have e:(χ Ű (a::b::r)).cps.toList=Òx++c::(χ Ű (b::r)).cps.toList:=by show ((a++(Ű:ak))++χ Ű (b::r)).cps.toList=_;show ((a.cps++#[c])++(χ Ű (b::r)).cps).toList=_;simp
  rw[e,ih];rfl
theorem Kt{c:Nat}{ws:Ñ}(h0:ws≠[])(h:∀w∈ws,c ∉ ÇF):Âk (Áh Ű ws) Ű=ws:=by
 have e:Áh Ű ws=χ Ű ws:=by simpa using Êm Ű ws
 rw[e];have d:=StrLaws.join_split Òy Ű;have f:=StrLaws.split_free Òy c;have g:Âk Òy Ű≠[]:=λz=>by
  unfold Âk at z;split at z
  ·cases z
  ·split at z
   ·cases z
   ·unfold Òs at z;revert z;cases ÍA (χ ⟨#[c]⟩ ws) ⟨#[c]⟩ 0 (χ ⟨#[c]⟩ ws).length ((χ ⟨#[c]⟩ ws).length+1)<;>simp
 generalize Âk (χ ⟨#[c]⟩ ws) ⟨#[c]⟩=zs at d f g;have i:=ł (λx:ak=>ÉZ) d;simp only[PQ]at i;have:=Ku (c:=c) (xs:=zs.map λw=>ÇF) (ys:=Âl λw=>ÇF) #[d8,g] #[d8,h0] (λa b=>by obtain w|hw|rfl:=Ğ b;exact f w hw) (λa b=>by obtain w|hw|rfl:=Ğ b;exact h w hw) i;have inj:∀ (xs ys:À ak),ÈE (λw=>ÇF)=ys.map (λw=>ÇF)->xs=ys:=λxs=>by
  induction xs with
  | nil=>intro ys h;cases ys with
   | nil=>rfl
   | Í=>cases h
  | Í x r j =>
   intro ys h;cases ys with
   | nil=>cases h
   | Í y q=>injection h with k l;rw[j q l,show x=y from by obtain⟨x⟩:=x;obtain⟨y⟩:=y;exact ł ak.mk (ÖY k)]
 exact inj _ _ this
structure KD (K:Ä) (w:aF) (a:ae):Prop where
 at':X2 λ(es:Ā ÐP) (n:Nat)=>ĥ a=U #[hg,es,n]/\ÍB Ên es.toList
 lo:Ãa=false
def Zu9(K:Ä)(w:aF):R2:=λx y H Q=>X4 λa s v u=>x=.ref a/\y=.str s/\KD K w a/\Ņ K a s=U (U u)/\ZE v u/\Q v H
def Zv6(K:Ä)(w:aF)(b:Ð):R2:=λy x H Q=>X3 λa s r=>x=.ref a/\y=.str s/\KD K w a/\Ņ K a s=U r/\Q (.bl (if b then !r.isSome else r.isSome)) H
section
variable {X:Cx} {K:Ä} {w:aF}
theorem PP(d:X.K=K:=by rfl)(hw:X.w=w:=by rfl):IxR X (Zu9 K w):=by subst d;subst hw;intro Àm fP ai s σ H x y v u Q I f g h i;obtain a|z|j|u'|rfl|rfl|D|e|r|q:=h;cases f;obtain t|rfl:=g;obtain es|n|b|k:=ħ;have c:=Ùo (ñ:=ù) ě b k;exact KY Ìy ØB i (Øc Ùp c (PySem.W.find_K b e) (j,H,ś _,r,q))
theorem ZsY(c:X.K=K:=by rfl)(hw:X.w=w:=by rfl):OpR X (aR .NotIn) (Zv6 K w true):=by subst c;subst hw;intro ai s σ H x y v u Q I d f h;obtain a|z|r|rfl|rfl|D|e|q:=h;cases f;obtain t|rfl:=d;obtain es|n|b|g:=ħ;exact wpAny_notIn_of Ùp D.lo (Ùo (ñ:=ù) ě b g) (by rw[PySem.W.find_K b e];exact(.bl (!r.isSome),H,ś _,rfl,q))
universe E
structure Fv (P:ay) (w:aF) (K:Ä) (mg:þ) (Â:aI) (k:Nat) (f:ae) (sp:Sp):Prop where
 ex:X2 λfd ps=>YY P w K mg Â CX0 k f fd ps sp/\À9 K č=true/\Yz K fd ps []
def Zug(P:ay)(w:aF)(K:Ä)(mg:þ)(Â:aI)(k:Nat)(b:TE)(t:TA):TE:=λa H Q=>b a H λv c=>X2 λf sp=>v=.ref f/\Fv P w K mg Â k f sp/\t a c λvs d=>sp vs d Q λ_ _ _=>ĕ
theorem Zo0{X:Cx}{k j:Nat}{x:ak}{p pos:Pos}{e:aK}{c:ı}{d:TE}{t:TA}(n:PE X (.Name x p) d)(hr:Âb)(ha:PA X (e::c) t)(o:k<=j:=by decide)
  (u:aG (e::c) Ì=Ée::aG c Ì:=by rfl) (w:(bn pos (aG c Ì)).any õ=false:=by rfl) :
  PE X (.Call (.Name x p) (e::c) [] pos) (Zug ù X.w X.K Ě Ő k d t):=by
 rw[eS,g,i,Q];refine bh (thn #[eu,n,g,i] λv z a=>?_);obtain y|A|l|B|f|sp|rfl|F|q:=a;cases B;obtain fd|ps|F|C|b:=F.ex;refine Qae (h₀:=Ő) l.ok.mod.kin C (thn (ha pos g z i A _ l q) λus s2 ⟨vs,H2,m,r,q⟩=>(m.kIn,?_)) u w;exact Uw (dvs:=[]) F (Ã8 o) b .nil VE m r #[ea,Qab,q]
universe E.L2
namespace L2
open PySem PyProof.Rows
section
variable {ñ:ay} {w:aF} {A:aD} {E:aa->aj->Prop} {s:aj} {env:Env}
theorem Ks{e:ae}{t:aK}{a:aM}{d:ź}{pos:Pos}{Ć:À ExceptHandler}{Q:#[hn,Flow]}
  (h:ar Ô ÍC (ā t env) (λc g=>ar Ô ÍC (Êg ŝ c) (λb i=>b=true /\
   ar Ô ÍC (Ñ8 ŝ af) (λ_ j=>ar Ô ÍC (execs (a::d) env) (λf k=>Q f k)
    (λ_ _=>ĕ) j) ÉF i) ÉF g) ÉF s) :
  ar Ô A (handleBy ŝ env (.ExceptHandler (U t) af (a::d) pos::Ć)) Q E s:=by
 refine wpAny_handleBy_cons (codeAny_handlers_test (ba h (λc g l=>ba l #[iz,b,i,m] λ_ _ x=>x.elim) λ_ _ x=>x.elim)) (by intro q;cases q);obtain rfl|n:=m;exact codeAny_handlers_suite (ba n (λ_ j o=>ba o (λf k p=>p) λ_ _ x=>x.elim) λ_ _ x=>x.elim)
universe E
def Kq(K:Ä)(b:ae)(c:TS)(D:Ya):St->XK:=λd cls dd H=>X2 λC a=>cls=.ref C/\WZ K C a/\#[ox].contains ÂT=true/\c { nx:=Ċ,rt:=D.rt } d H
def Zu7(K:Ä)(a:ae)(b:ÍD)(c:TS):TS:=λD d H=>b (Kq K a c D) D d H
section
variable {X:Cx}
theorem Zss{x:ak}{np iR pos:Pos}{K:ź}{L:aM}{O:ź}{j:ae}{P:æ}{Q:ÍD}{l:TS}
  (hb:∀ (d:À (ae×aN)) (E:St->XK),PSs Ùq K (Q E)) (Bk:∀e,PSs (ÅU e) (L::O) l)
  (m:Òa) (hg:ŋ) (hm:Ě x=U (.ref j)) (n:WZ X.K j P) (fQ:P.contains ÀH=true) (cy:Ī:=by decide) :
  PS X (.Try K [.ExceptHandler (U (.Name x np)) af (L::O) iR] [] [] pos) (Zu7 X.K j Q l):=by
 rw[eS,d,σ,D];refine Ùr (ba (hb d (Kq X.K j l D) [] s σ H D (I.pnd.wish _) h) #[iz,f,g,o] λev g o=>?_)
 ·have i:SP X d D f g:=o.unwish.unpnd;cases f with
  | next=>exact ÆM i
  | brk=>exact i
  | Η=>exact i
  | ret u=>exact i
 obtain e|cls|dd|iV|R|S|rfl|he|oQ|rf|hn|I'|hp|hx|C|bm|rfl|hC|jp|bM:=o;obtain B|M|p|hM|V:=I'.fly m he oQ rf hn hp hx;have eT:Ùs:=by rw[<- m.1];exact Æ0
 refine p.noted eT m.2 λi a b c=>?_;refine Uj p.hB (s:=#[gZ,g,i]) (F:=af) b a c λr W b3 Y=>?_;have t:#[hu,d,R,S,g,r]:=(V r W).unpnd;refine Ks ?_;refine Xe (X:=ÅU e) (t.mkd e) hg hm ?_ cy;obtain oe|vs|T|oT|c9|ix|oH|gM|_:=Y.ex;obtain nm|q|N|bs|cC|sn|sub|ab|bT|dq|k0|k1|k2|k3|k5|bH|lC:=hC;obtain gJ|q'|N'|Et|u9|Eu|zG|Ev|zH|dq'|Ew|Ex|Ey|Ez|EB|sN|w:=n;refine ZjN (t.kIn _ _ lC) (t.kIn _ _ w) ix oH fQ jp ÅH;refine Uj p.hB (s:=#[gZ,g,r]) (F:=af) b3 W Y λZ a4 b4 c4=>?_;have I4:#[hu,d,R,S,g,Z]:=(V Z a4).unpnd;refine ba Ùt #[iz,f,s6,k] λ_ _ z=>z;cases f with
 | next=>obtain y|A|G|J:=k;exact(y,A,G.unmkd ε,J)
 | brk=>obtain _|_|_|z:=k;exact Çy
 | Η=>obtain _|_|_|z:=k;exact Çy
 | ret u=>obtain v|y|A|G|r7|J:=k;exact(v,y,A,G.unmkd ε,r7,J)
universe E
theorem Yr.keep{NB:ÄF}{h h':aI}{e:ae}{cls a:aa}{d:Ġ}(c:Yr NB h e cls d a)(k:#[rU,ý]):Yr NB h' e cls d a:=by obtain f|g|T|i|j|l|m|n|p|q|r|s|t:=c.ex;exact(f,g,T,i,j,k _ _ l,m,n,p,q,r,k _ _ s,t)
theorem Xu.more{B:aI}{d:Š}{h h':aI}(a:Xu B d h)(k:#[rU,ý]):Xu B d h' :=
 (λb o c n=>k _ _ (a.1 b o c n),λb o c=>let ⟨e,z⟩:=a.2 b o c;(e,k _ _ z))
def SO(h:aI)(C:ae)(a:æ):Prop:=X16 λ(nm q:ak) (N:ae) (bs:À aa) (b:Ð) (c:À ak) (sub:À aa) (d:Ð) (e:Ã Ð) (f:Ã ae) (g i j k l:Ã aa) (m:Ŋ) =>
 ß C=U (Àw nm q C N bs a b c sub d e f g i j k l m)
theorem WZ.at'{K:Ä}{C:ae}{a:æ}{h:aI}(c:WZ K C a)(X:Ū h):SO h C a:=by obtain b|q|N|bs|d|e|sub|f|g|i|j|k|m|n|o|p|l:=c;exact(b,q,N,bs,d,e,sub,f,g,i,j,k,m,n,o,p,X _ _ l)
section
variable {M:ÀR} {A:aD} {E:aa->aj->Prop} {h:aI} {g:Ā Ãc} {d:Åh} {t:Nat} {os:Êf}
theorem Zk2{C a b l e:ae}{f i j:æ}{m:aN}{k b2:Ð}{Q:É0}(c:SO h C f)(h1:SO h a i)(h2:SO h b j)(ht:Β h l #[.ref a,.ref b])
  (he:ß e=U m) (s:m.cls=.ref C) (u:i.contains ÀH=true) (v:j.contains ÀH=true) (w:(à C::f).contains Ħ=k) (p:(à C::f).contains ÂT=b2) (hq:Q (k||b2) τ):ar M A (Êg ŝ Ă) Q E τ:=by
 obtain nm|q|N|bs|cC|sn|sub|ab|bT|dq|k0|k1|k2|k3|k5|bH|c:=c;obtain nm1|q1|N1|bs1|hdct1|sn1|sub1|ab1|col1|dq1|k01|xX|k21|k31|k51|newId1|h1:=h1;obtain nm2|q2|N2|bs2|hdct2|sn2|sub2|ab2|col2|dq2|vf|xY|k22|k32|k52|newId2|h2:=h2;have x:#[ih,a,i]:=by rw[QN,u,Qaq]
 have y:#[ih,b,j]:=by rw[QN,v,Qaq]
 obtain o|r|z|n|B:=ht;unfold Êg;refine ah (ÖC (o,r,z) isSubtype_tuple_tuple ?_);dsimp only;rw[p1];refine ah (bi r B ?_);dsimp only[Option.getD_some,Option.getD];repeat (first|(with_reducible refine Λ he ?_;rw[s])|with_reducible refine Λ h1 ?_|with_reducible refine Λ h2 ?_|(with_reducible refine Ág h1 ?_;rw[x])|(with_reducible refine Ág h2 ?_;rw[(y)])|(with_reducible refine Ág c ?_;first|rw[w]|rw[p])|wp_step)
 cases k with
 | true=>wp_walk;exact hq
 | false =>
  repeat (first|(with_reducible refine Ág c ?_;rw[p])|wp_step)
  cases b2<;>(wp_walk;exact hq)
universe E
def Kp(K:Ä)(b c:ae)(d:TS)(D:Ya):St->XK:=λe cls dd H=>X2 λC a=>cls=.ref C/\WZ K C a/\(#[ox].contains ÂT||(à C::a).contains ÅW)=true/\d { nx:=Ċ,rt:=D.rt } e H
def ZvL(K:Ä)(a b:ae)(c:ÍD)(d:TS):TS:=λD e H=>c (Kp K a b d D) D e H
section
variable {X:Cx}
theorem Zr9{l m:ak}{r t np iR pos:Pos}{kt}{Z:ź}{jW:aM}{iy:ź}{g i:ae}{tG tH:æ}{tb:ÍD}{w:TS}
  (hb:∀ (d:À (ae×aN)) (E:St->XK),PSs Ùq Z (tb E)) (Bk:∀e,PSs (ÅU e) (jW::iy) w)
  (x:Gl X l) (e7:Ě l=U (.ref g)) (y:Gl X m) (dG:Ě m=U (.ref i)) (jr:(l == ("__debug__" : ak))=false) (gI:(m == ("__debug__" : ak))=false) (A:aG [.Name l r,.Name m t] Ì=[(false,ā (.Name l r) Ì,),(false,ā (.Name m t) Ì,)])
  (G:Òa) (J:WZ X.K g tG) (K:WZ X.K i tH) (x5:tG.contains ÀH=true) (x6:tH.contains ÀH=true) :
  PS X (.Try Z [.ExceptHandler (U (.Tuple [.Name l r,.Name m t] kt np)) af (jW::iy) iR] [] [] pos) (ZvL X.K g i tb w):=by
 rw[eS,d,σ,D];refine Ùr (ba (hb d (Kp X.K g i w D) [] s σ H D (I.pnd.wish _) h) #[iz,f,k,L] λev k L=>?_)
 ·have n:SP X d D f k:=L.unwish.unpnd;cases f with
  | next=>exact ÆM n
  | brk=>exact n
  | Η=>exact n
  | ret u=>exact n
 obtain e|cls|dd|iV|N|O|rfl|he|oQ|rf|hn|I'|hp|hx|C|bm|rfl|hC|jp|bM:=L;obtain B|M|P|hM|Q:=I'.fly G he oQ rf hn hp hx;have eT:Ùs:=by rw[<- G.1];exact Æ0
 refine P.noted eT G.2 λn a b c=>?_;refine Uj P.hB (s:=#[gZ,k,n]) (F:=af) b a c λj a3 b3 c3=>?_;have I3:#[hu,d,N,O,k,j]:=(Q j a3).unpnd;refine Ks ?_;refine Tuple_ ?_;rw[A];refine ÆW (Xe (X:=ÅU e) (I3.mkd e) x e7 ?_ jr);refine ÆW (Xe (X:=ÅU e) (I3.mkd e) y dG ?_ gI);refine av ?_;refine bz ?_ Á1;have p:∀b o,j.get? b=U o->(j.push { cls:=.type "tuple",Ó:=.seq [à g,.ref i].toArray }).get? b=U o:=λb o hb=>Qc _ hb;have c5:=c3.keep p;have a5:=a3.more p;have b5:=b3.of_keeps (h':=j.push { cls:=.type "tuple",Ó:=.seq [à g,.ref i].toArray }) λb o hb _=>(o,p b o hb,rfl);obtain oe|vs|T|oT|c9|ix|oH|gM|_:=c3.ex;have I5:Inv X d N O { k with Õ:=j.push { cls:=.type "tuple",Ó:=.seq [à g,.ref i].toArray } }:=(Q _ a5).unpnd;have R:=I5.kIn;refine Zk2 (hC.at' R) (J.at' R) (K.at' R) (ÏT j _) (p _ _ ix) oH x5 x6 rfl rfl (jp,?_);refine Uj P.hB (s:={ k with Õ:=j.push { cls:=.type "tuple",Ó:=.seq [à g,.ref i].toArray } }) (F:=af) b5 a5 c5 λh4 a4 b4 c4=>?_;have I4:#[hu,d,N,O,k,h4]:=(Q h4 a4).unpnd;refine ba Ùt #[iz,f,s6,q] λ_ _ z=>z;cases f with
 | next=>obtain S|V|W|Y:=q;exact(S,V,W.unmkd ε,Y)
 | brk=>obtain _|_|_|z:=q;exact Çy
 | Η=>obtain _|_|_|z:=q;exact Çy
 | ret u=>obtain v|S|V|W|r7|Y:=q;exact(v,S,V,W.unmkd ε,r7,Y)
universe E
def Zu6(a:TE):TE:=λb H Q=>a b H λv c=>∃x,v=.str x/\ċ<=aq/\Q Åk c
theorem PN{X:Cx}{e:aK}{b:TE}{pos:Pos}(he:PE X e b):PE X Ø8 (Zu6 b):=by intro c s d H Q I h;refine Ø9 #[zm,c,d,s1];obtain v|f|g|r|x|rfl|i|q:=a;obtain tk|rfl:=#[eB,tk,Áq,x,r];exact formatField_str (λt' tk=>(.str x,f,g.tok _,ÿ,q)) i
section
variable {ñ:ay} {w:aF} {A:aD} {E:aa->aj->Prop} {s:aj}
theorem Zoq{l:ae}{ő:Á2}{Q:À aa->aj->Prop}(hl:ÑO l ő)(p:Á4)(hn:0<Ãx)(hz:Ãx<=16384)
  (h:∀ (a:aI) (tk:Nat),#[ft,o,é,Åx]->Q (ÍE 1++[.ref É8]++[]) { s with Õ:=a.push { cls:=.type "list",Ó:=.seq (ÍF 1).toArray },ï:=tk }) :
  ar Ô A (ËN Ă 2 (U 1)) Q E s:=by
 have c:l≠Î:=by obtain o|q|_:=hl;exact Qz (Qq q)
 unfold ËN;refine ah ?_;unfold notIterableAtAll;refine ah (ØA hl.typeIs slot_list_iter.lookup ?_);refine av ?_;simp only[ÉC,Åw];refine ah (aU (cc hl ?_));refine ah (aU (PySem.W.kun_draw c 1 0 _ _ Ãi (hl.push _) Á λi f m=>?_));have n:i.IsList l ő:=(hl.push _).extBut ÉU c;rw[Nat.zero_add]at f;have r:=f;obtain oi|g|_:=r;have t:=n;obtain ol|v|_:=t;rw[List.drop_zero];have x:(ÍE 1).length=1:=by rw[Qw,QaA];lia
 rw[Ç (show ¬ ((ÍE 1).length<1) by rw[x];lia)];refine ah (aU (PySem.W.kun_collect (s:=#[gZ,s,i]) (T := "list_iterator") (.inr ÇG) (Ð1 (A:=Ãy) p Î l c ő) (λj u st=>st.1.typeIs) (k:=1) Á (f,n) (Qq g) (Qq v) #[iz,a,tk,y] #[eO,aO]));have z:#[86].length=Ãx-1:=by rw[QZ,QaA]
 show ar _ _ (if #[86].length<2-1-1 then _ else _) _ _ _;rw[zf,Á];show ar _ _ (Ìr (#[86].take ÍG) >>= λd=>pure (ÍE 1++[d]++#[86].drop ÍG)) _ _ _;have B:#[86].take ÍG=ÍF 1:=Qx ë;have C:#[86].drop ÍG=[]:=List.drop_of_length_le ë;rw[B,C];have D:#[eT,o,é,o,Åx]:=λb o e=>y b o ÆO (ÉU b o ÆO (Qc _ e));exact ah (bz (av (h a tk D)) (by show (ÍF 1).length<=aq;rw[z,aO];lia))
universe E
def Zvj(K:Ä)(t:TGs):TG:=λv a H Q=>X3 λp x xs=>v=.ref p/\SqL K H p (x::xs)/\ã<16384/\∀l,H l=af->t [x,.ref l] a #[ha,H,l,xs] Q
section
variable {X:Cx}
theorem Zq8{e:aK}{p:Pos}{t:TG}(h1:PG X e t)(a:(bX [.Starred e p] Ì).map Ę=[Âz e Ì]:=by rfl):PGs X [.Starred e p] (MH t MI):=by
 rw[iw,b,c,vs];obtain v|vr|d|h:=h;subst d;cases r with
 | Í r f=>rw[a];refine Åm (thn (h1 b s c H _ _ _ I r h) ?_);rintro _ s1 ⟨g,i,j,k⟩;rw[ep,l,m,k];subst l;cases f;exact ËM (g,i,j,m)
theorem ZsM{d:ı}{k:Nat}{pos:Pos}{t:TGs}{K:Ä}(h:PGs X d t)(p:X.K=K:=by rfl)(hc:ŕ:=by rfl)(q:#[yZ,d].length=2:=by rfl)(w:#[yZ,d].findIdx? õ=U 1:=by rfl):PG X (.Tuple d k pos) (Zvj K t):=by
 subst p;intro f s g H v u Q I r hw;obtain a|x|i|y|z|hl|hw:=hw;subst y;cases r;rw[fz,j,A,hz,z];have l:=Åp;rw[assign_Tuple];refine ah (bx ?_);unfold unpack;rw[q,w];rw[QA]at l;have hsz:Åu=È3+1:=by simpa using l.symm
 refine ah (aU (Zoq A.isList Á0 Á Á λc tk B=>?_));cases j with
 | Í C D=>rename_i u m;have n:Inv X f g H { s with Õ:=c,ï:=tk }:=Ãf (t':=tk) λb o e=>B b o e;have E:H Ät=af:=n.hok.fresh ë;have F:Inv X f g #[ha,H,Ät,i] { s with Õ:=c.push { cls:=.type "list",Ó:=.seq ((u::m).toArray.toList.drop 1).toArray },ï:=tk }:=n.laid (t':=tk) #[ie,b,o,e] ë (by rw[(aO)];lia,m,_,D,Qt _ rfl);exact h f _ g _ [x,.ref Ät] [u,.ref Ät] Q F (.cons C Ðt) (hw _ E)
universe E
theorem ZlV:Åt ÁD "__int__" = pure af:=by rw[Íi,Íj];kernel_rfl
theorem Zj5:Åt ÁD "__index__" = pure af:=by rw[Íi,Íj];kernel_rfl
theorem ZjF:Åt ÁD "__trunc__" = pure af:=by rw[Íi,Íj];kernel_rfl
theorem ZvY{α:Type}{M:ÀR}{A:aD}{t t':Sem α}{Q:α->aj->Prop}{E:ð}{s:aj}(h:t=t')(hq:ar M A t' Q E s):ar M A t Q E s:=h ▸ hq
theorem ZjU(n:Nat)(hn:n<10)(t:Tok):Meets (aT.«int.__new__» ([.type "int",.str ÇH t],[])) (Made.int (n:Int)).spec :=
 Meets.of_wp λprog w A R s a=>by
  rw[gJ,b,tk,s];have f1:=F.conv_sub_int;have f2:=F.madeHere_int;have hT:(#[f5,b,tk]:aj).TypeIs (.str ÇH t) "str":=rfl;have f3:=ZlV;have f4:=Zj5;have f5:=ZjF;repeat (any_goals (first|assumption|wp_step))
  refine ZvY (t':=mkInt (n:Int)) (by rcases(show n=0\/n=1\/n=2\/n=3\/n=4\/n=5\/n=6\/n=7\/n=8\/n=9 by lia) with rfl|rfl|rfl|rfl|rfl|rfl|rfl|rfl|rfl|rfl<;>kernel_rfl) ?_;repeat (any_goals (first|assumption|wp_step))
  all_goals exact(_,rfl,a)
def Zvq:À V->Hp->VK->Prop:=λvs H Q=>∃n:Nat,vs=[.str ÇH]/\n<10/\Q (.int (n:Int)) H
theorem ZnB{ñ:ay}{w:aF}{A:aD}{E:ð}{s:aj}{n:Nat}{t:Tok}{Q:ð}(a:n<10)(h:Q (.int (n:Int) Ļ) { s with ï:=Ļ+1 }):ar Ô A (Ĵ Ã3 [.str ÇH t]) Q E s :=
 call_int_1 (ZjU n a t) (show (Made.int (n:Int)).post _ s from(rfl,h))
theorem ZwA{X:Cx}:YZ X Ã3 Zvq:=by intro ai s σ H xs us Q I r h;obtain n|rfl|a|q:=h;obtain u|rfl|t|rfl:=XN r;exact ZnB a (.int (n:Int),H,ś _,ÿ,q)
theorem Zuj{X:Cx}{k j:Nat}{C:ae}{x:ak}{ps:Ñ}{sp:Sp}{p pos:Pos}(F:#[fA,Cf,x])(hr:Âb)(a:k+1<=j:=by decide)(c:ŋ:=by rfl)(d:Ī:=by decide) :
  PE X Ë5 (Tf C sp [] E0 VI):=by
 rw[iA,g,b,e];exact ZpW g F ÌN c e b .nil VE d
universe E.L2
namespace L2
open PySem PySem.Spec PyProof.Rows
section
variable {X:Cx}
theorem WM{x z:ak}{pos:Pos}(hm:∃tk,Ě x=U (.str z tk))(a:ŋ:=by rfl)(hd:Ī:=by decide):PE X ÀS (tC (.str z)):=by obtain tk|h:=hm;exact MJ a h (tk,rfl) hd
universe E
theorem W8{K:Ä}{t:ae}{a:Ġ}{its:Á2}{n:Nat}{sl:ν}{xs:Ĕ}(h:ĥ t=U (.type "tuple",a,.seq its n,sl))(b:its.size<=100)(v:ZG xs ÈU):∀H,SqT K H t xs :=
 λ_=>.inr (_,its,n,h,rfl,rfl,Qk b Ñr,v)
def ZwS(t u:TE):TE:=λa H Q=>t a H Q\/u a H Q
theorem Ko{X:Cx}{e:aK}{t u:TE}(h1:PE X e t)(h2:PE X e u):PE X e (ZwS t u):=λa s b H Q I h=>Or.elim h (h1 a s b H Q I) (h2 a s b H Q I)
theorem WL(K:Ä){X:Cx}{e:aK}{f:ak}{pos:Pos}{a:TE}(he:PE X e a)(hb:#[e9,e,f])(b:X.K=K:=by rfl):PE X Ði (Mm K a f):=by subst b;exact ZH he hb
section
variable {X:Cx}
theorem Zn1:OpR X (aR .LtE) (λx y H Q=>X2 λi j=>x=.str i/\y=.str j/\Q (.bl (!decide ÖK)) H):=by intro ai s σ H x y v u Q I a b h;obtain i|j|rfl|rfl|q:=h;obtain t|rfl:=a;obtain t'|rfl:=b;exact PySem.P.le_str (ZW I q rfl)
universe E
theorem Zq7{d:ae}{o:aN}{kvs:Œ}{g:TG}{j:TS}{D:Ya}{a:St}{H:Hp}(Pv:ÆS)(h0:Pv 0 a H)(hl:∀i a H,Pv i a H->H d=U Áf)
  (r:∀i k x a H,kvs[i]? = U (k,x,)->Pv i a H->g (kV k) a H λc f=>j { D with nx:=Pv (i+1),ct:=Pv (i+1),bk:=Ċ } c f) (hd:#[hN,a,ø]) :
  ∃W:Nat->Nat->St->Hp->Prop,#[sa,a]/\∀i m a H,W i m a H ->
   ((Øm).stop i H/\Ċ a H)\/((Øm).go i H/\∃N:St->Hp->Prop,#[e3,h,b,l]/\∀x b,(Øm).yld i H x b->g x a b λc f=>j { D with nx:=N,ct:=N,bk:=Ċ } c f):=by
 rw[ey,ø];have n:=hl i a H p;by_cases q:i<ø
 ·refine .inr ((n,q),Pv (i+1),λh b s=>(ø-(i+1),by lia,rfl,q,s),λx b y=>?_);obtain rfl|k'|t|e|rfl:=y;exact r i k' t a _ e p
 ·have e:Êa:=by lia
  exact .inl ((n,by lia),hd a H (e ▸ p))
theorem Zrx{X:Cx}{k:Nat}{o e f:aK}{b ty c:TE}{d a:Pos}(hr:ι)(h:PE X o b)(he:PE X e ty)(i:PE X f c)(hb:#[e9,o,"get"]:=by rfl)
  (j:(d.endLine == a.line)=true:=by rfl) (g:bn a ÑX=Øe:=by rfl):PE X (.Call #[r5,"get",d] [e,f] [] a) (K8 b ty c):=by
 refine Zp0 (U6 hr) h he i (hb,?_,j,g);rw[g];rfl
universe E.L2
set_option maxHeartbeats 9000000
namespace My
open PySem L2 PyProof.Rows
abbrev YS:=@List.tail aM
abbrev YW(x:ź):=YS (YS x)
abbrev YM(x:ź):=YW (YW x)
abbrev YO(x:ź):=YM (YM x)
abbrev œ(x:ź):=YO (YO x)
abbrev Ŧ(x:ź):=œ (œ x)
abbrev Zt64(x:ź):=Ŧ (Ŧ x)
local macro_rules|`(‹$i:num›)=>`(@pv _ $i _ _ (by rfl) (Or.inl rfl) (by decide) (by decide))
local macro_rules|`(tactic|trivial)=>`(tactic|first|exact .inl rfl|exact .inr rfl|decide|exact Nat.le_refl _|lia)
def hdS:À aM->aM
 | a::_=>a
 | []=>.Pass (0,0,0,0)
abbrev ZJ:À aM:=PySem.Challenge.pw_mergetree_k52_deeds_refused_at_a_desk.main.body
abbrev Zii:aM:=hdS ÍH
abbrev ZlB:aM:=hdS Êo
abbrev SN:aM:=hdS (œ Êo)
abbrev Xt:aM:=hdS (œ ÅX)
abbrev ZrY:aM:=#[rG,YS,ZJ]
abbrev PM:aM:=hdS (YO ZJ)
abbrev PL:aM:=hdS (YO (YS ZJ))
abbrev PH:aM:=hdS (YO ÂV)
abbrev PF:aM:=hdS (YO (YM ZJ))
abbrev PD:aM:=hdS (YO ÍH)
abbrev PB:aM:=hdS (YO Êo)
abbrev Pz:aM:=hdS (YO ÅX)
abbrev Py:aM:=hdS (œ ZJ)
abbrev Px:aM:=hdS (œ (YW ZJ))
abbrev Pw:aM:=hdS (œ ÂV)
abbrev Pu:aM:=hdS (œ (YO ZJ))
abbrev Pt:aM:=hdS (œ (YO (YS ZJ)))
abbrev Ps:aM:=#[y1,ÂV]
abbrev Pr:aM:=hdS (Ŧ (œ (YM ZJ)))
abbrev Pq:aM:=#[y1,ÍH]
abbrev Pp:aM:=#[y1,Êo]
abbrev Po:aM:=#[y1,ÅX]
abbrev Pn:aM:=hdS (Ŧ (œ (YO ZJ)))
abbrev Pm:aM:=hdS (Ŧ (œ (YO (YS ZJ))))
abbrev Pk:aM:=hdS (Ŧ (œ (YO (YW ZJ))))
abbrev Pj:aM:=#[rG,YW,ZJ]
abbrev Pg:aM:=hdS (Zt64 ÂV)
abbrev Ug:aM:=#[rG,YM,ZJ]
abbrev Pf:aM:=#[gp,YM,YS]
abbrev Pe:aM:=#[gp,YM,YW]
abbrev Pd:aM:=hdS (Zt64 ÅX)
abbrev Pc:aM:=#[rG,YO,ZJ]
abbrev Pb:aM:=#[gp,YO,YW]
abbrev Pa:aM:=#[rG,YO,ÂV]
abbrev O9:aM:=#[fG,YO,YM,YS]
abbrev SM:aM:=#[gp,œ,YW]
abbrev Uf:aM:=#[rG,œ,ÂV]
abbrev O8:aM:=#[fG,œ,YM,YW]
abbrev O7:aM:=#[rG,œ,ÅX]
abbrev O6:aM:=#[gp,œ,YO]
abbrev SK:aM:=#[fG,œ,YO,YS]
abbrev SJ:aM:=#[fG,œ,YO,YW]
abbrev O5:aM:=#[yV,ÂV]
abbrev O4:aM:=#[fG,œ,YO,YM]
abbrev SI:aM:=#[yV,ÍH]
abbrev O3:aM:=#[yV,Êo]
abbrev SH:aM:=#[yV,ÅX]
abbrev O2:aM:=#[rG,Ŧ,ZJ]
abbrev O1:aM:=#[gp,Ŧ,YS]
abbrev O0:aM:=#[gp,Ŧ,YW]
abbrev OZ:aM:=#[rG,Ŧ,ÂV]
abbrev OY:aM:=#[gp,Ŧ,YM]
abbrev UV:aM:=#[fG,Ŧ,YM,YS]
abbrev SG:aM:=#[fG,Ŧ,YM,YW]
abbrev OX:aM:=#[rG,Ŧ,ÅX]
abbrev Ue:aM:=#[gp,Ŧ,YO]
abbrev OW:aM:=#[fG,Ŧ,YO,YS]
abbrev OV:aM:=#[fG,Ŧ,YO,YW]
abbrev SE:aM:=hdS (Zt64 (Ŧ (YO ÂV)))
abbrev Vx:aM:=#[fG,Ŧ,YO,YM]
abbrev Z3:aM:=Yn Zii 0
abbrev Ud:aM:=Yn ZlB 0
abbrev OU:aM:=Yn SN 0
abbrev OT:aM:=Yn SN 2
abbrev OR:aM:=Yn SN 3
abbrev OQ:aM:=Yn SN 4
abbrev OP:aM:=Yn Xt 0
abbrev OO:aM:=Yn Xt 1
abbrev ON:aM:=Yn Xt 2
abbrev OM:aM:=Yn Xt 3
abbrev SD:aM:=Yn Xt 4
abbrev SA:aM:=Yn Xt 5
abbrev OL:aM:=Yn Xt 9
abbrev OK:aM:=Yn Xt 10
abbrev OJ:aM:=Yn Xt 11
abbrev OI:aM:=Yn Xt 12
abbrev OH:aM:=Yn Xt 13
abbrev OG:aM:=Yn Xt 14
abbrev OF:aM:=Yn Xt 15
abbrev OE:aM:=Yn Xt 16
abbrev OD:aM:=Yn Xt 17
abbrev OC:aM:=Yn ZrY 0
theorem Kn:Zl ["_law_cell", "_law_k", "_law_m"] ÍI (Zh O8):=Ü
theorem Km:Zl ["_law_script", "_law_k", "_law_cell"] ÍJ (Zh O7):=Ü
theorem Kl:Zl ["_law_left_here", "_law_many", "_law_digit"] Òz (Zh O6):=Ü
theorem Kk:Zl Ùu ÅY (Zh SK):=Ü
theorem Kj:Zl Ùv ÍK (Zh SJ):=Ü
theorem OB:Zl Ùw ÄI (Zh Pz):=Ü
theorem Zpo:Zl ÂW ÂW (Zh PF):=Ü
theorem Ki:Zl ÇI ÇI (Zh SI):=Ü
theorem Uc:Zl ["_law_left_here", "_law_stems_here", "_law_most", "_law_found", "_law_k", "_law_key_here"] ÃE (Zh O5):=Ü
theorem Sz:Zl ["row", "told", "place", "key"] ["row"] (Zh Pw):=Ü
theorem Zls:Zl Êp Êp (Zh Py):=Ü
theorem Zpw:Zl ÂW ÂW (Zh PD):=Ü
theorem Kh:Zl Ùw ÄI (Zh PB):=Ü
theorem Kg:Zl ["keys", "place"] ["keys"] (Zh Px):=Ü
theorem Kf:Zl ["numbers", "middle"] ["numbers"] (Zh PM):=Ü
theorem Zjy:Zl ĉ ĉ (Zh OT):=Ü
theorem Zk9:Zl ĉ ĉ (Zh OR):=Ü
theorem ZkK:Zl ÂX ÂX (Zh OU):=Ü
theorem Zfc:Zl ÇJ ÇJ (Zh Z3):=Ü
theorem ZgG:Zl Êq Êq (Zh Ud):=Ü
theorem Vw:Zl ["numbers", "n", "others", "side", "first", "rest"] ÄJ (Zh PL):=Ü
theorem Ke:Zl ["thing", "sign"] ["thing"] (Zh PH):=Ü
theorem ZgE:Zl ÂX ÂX (Zh OQ):=Ü
theorem OA:Zl ["self", "rows", "number", "keys"] ÍL (Zh OP):=Ü
theorem Kd:Zl ÄK ĉ (Zh OO):=Ü
theorem Kc:Zl #[fJ,"thing"] ĉ (Zh ON):=Ü
theorem Kb:Zl ["self", "many", "things"] ÍM (Zh OM):=Ü
theorem Zh6:Zl ĉ ĉ (Zh SD):=Ü
theorem Zhm:Zl ĉ ĉ (Zh SA):=Ü
theorem Sy:Zl ["self", "row", "number"] ÄK (Zh OL):=Ü
theorem Sx:Zl ["self", "n", "many"] ÁI (Zh OK):=Ü
theorem Ub:Zl ["self", "n", "keys", "row", "sent_nothing"] ÇK (Zh OJ):=Ü
theorem Ka:Zl ÁI ÁI (Zh OI):=Ü
theorem Zfv:Zl ĉ ĉ (Zh OH):=Ü
theorem Wl:Zl ["self", "numbers", "first_side", "other_side", "one", "other", "winner", "loser", "far"] ÍN (Zh OG):=Ü
theorem Ua:Zl ["self", "number", "row", "comer", "meeting"] ÍO (Zh OF):=Ü
theorem T9:Zl ["self", "meeting", "comer", "stayer", "winner", "loser", "far"] ÍP (Zh OE):=Ü
theorem Sw:Zl ["self", "one", "other", "far", "order", "alike_far", "seen"] ÍQ (Zh OD):=Ü
theorem Sv:Zl ["number", "keys", "place"] Êr (Zh Pu):=Ü
theorem Vv:Zl ["numbers", "n", "matches", "least", "greatest", "others"] ÄJ (Zh Pt):=Ü
theorem Oz:Zl ["kind", "word", "least", "most"] ÍR (Zh Ps):=Ü
theorem Zjn:Zl Âm Âm (Zh Pr):=Ü
theorem Zk4:Zl Âm Âm (Zh Pq):=Ü
theorem J9:Zl ["word", "least", "most", "number"] ÍS (Zh Pp):=Ü
theorem J8:Zl ["word", "sign"] Âm (Zh Po):=Ü
theorem ZhF:Zl ["key"] ["key"] (Zh Pn):=Ü
theorem Zgf:Zl Ês Ês (Zh Pm):=Ü
theorem ZgZ:Zl ["words"] ["words"] (Zh Pk):=Ü
theorem ZjH:Zl ĉ ĉ (Zh OC):=Ü
theorem V7:Zl ["text", "orders", "desk", "answers", "word", "singles", "further", "deed"] ["text"] (Zh Pj):=Ü
theorem T8:Zl ["text", "orders", "line", "row", "order"] ["text"] (Zh Pg):=Ü
theorem V6:Zl ÒA ["row"] (Zh Ug):=Ü
theorem Zfw:Zl Êt Êt (Zh Pf):=Ü
theorem J7:Zl Ùx ÄL (Zh Pe):=Ü
theorem J6:Zl Ùx ÄL (Zh Pd):=Ü
theorem J5:Zl ["desk", "singles", "further", "name"] Α (Zh Pc):=Ü
theorem Zlm:Zl Α Α (Zh Pb):=Ü
theorem J4:Zl ÒB ÒC (Zh Uf):=Ü
theorem ZpP:Zl ÃE ÃE (Zh O4):=Ü
theorem Zh8:Zl ÍT ÍT (Zh O0):=Ü
theorem Oy:Zl ["_law_left_here", "_law_some", "_law_first"] ÅY (Zh OX):=Ü
theorem Zmy:Zl ÅZ ÅZ (Zh Ue):=Ü
theorem Zil:Zl Êu Êu (Zh SE):=Ü
theorem Zlq:Zl Α Α (Zh Pa):=Ü
theorem Zln:Zl Α Α (Zh O9):=Ü
theorem ZfF:Zl ÇL ÇL (Zh SM):=Ü
theorem ZlX:Zl [] [] (Zh O3):=Ü
theorem Zia:Zl Êv Êv (Zh SH):=Ü
theorem T7:Zl ["_law_desk", "_law_word", "_law_name", "_law_keys_here", "_law_rows", "_law_n", "_law_old", "_law_out"] ÍU (Zh O2):=Ü
theorem UU:Zl ["_law_desk", "_law_found", "_law_name", "_law_n", "_law_keys_here", "_law_out"] ÁJ (Zh O1):=Ü
theorem T6:Zl ["_law_desk", "_law_heads_here", "_law_key_here", "_law_n", "_law_name"] ÁJ (Zh OZ):=Ü
theorem V5:Zl ["_law_desk", "_law_many", "_law_found", "_law_turn", "_law_heads_here", "_law_name", "_law_n", "_law_keys_here", "_law_out"] ÍV (Zh OY):=Ü
theorem Ox:Zl ÍW ÁJ (Zh UV):=Ü
theorem Su:Zl ["_law_left_here", "_law_names_here", "_law_stems_here", "_law_word", "_law_name", "_law_keys_here"] ÒD (Zh OW):=Ü
theorem Vu:Zl ["_law_left_here", "_law_rows", "_law_due", "_law_desk", "_law_n", "_law_name", "_law_gone", "_law_word", "_law_keys_here"] ÒE (Zh OV):=Ü
theorem WK:Zl ["_law_script", "_law_left_here", "_law_names_here", "_law_stems_here", "_law_desk", "_law_rows", "_law_due", "_law_k", "_law_word", "_law_name", "_law_keys_here"] ÍX (Zh Vx):=Ü
theorem Zjv:Zl Êw Êw (Zh SG):=Ü
abbrev zsc(l:#[hz,aV]):bj:={ kind:=.function,Á6:=l,isGenerator:=false,isCoroutine:=false,ė:=[] }
def ZsL:bj:=zsc [Μ,#[eD,"_law_k"],#[fM,"_law_pick"],Ùy,("_law_some",.free,)]
theorem T5:ZX Ùu ["_law_left_here", "_law_some", "_law_k"] (Zh SK) ZsL:=Ν
def Zrn:bj:=zsc [Μ,#[eD,"_law_k"],#[fM,"_law_pick"],Ùy]
theorem Ss:ZX Ùv ["_law_left_here", "_law_stems_here", "_law_tail", "_law_k"] (Zh SJ) Zrn:=Ν
def Zrv:bj:=zsc [Μ,#[eD,"_law_one"],#[eD,"_law_other"],#[fM,"_law_same"]]
theorem UT:ZX ÇI ["_law_found", "_law_due", "_law_one", "_law_other"] (Zh SI) Zrv:=Ν
def Zr0:bj:=zsc [Μ,ÍY]
theorem Ow:ZX ĉ ÄK (Zh SD) Zr0:=Ν
def ZrJ:bj:=zsc [Μ,#[eD,"number"],ÍY]
theorem T4:ZX ĉ ["self", "number", "row"] (Zh SA) ZrJ:=Ν
def Zrw:bj:=zsc [Μ,#[eD,"kind"],#[eD,"word"],#[fM,"read_word"]]
theorem US:ZX ÒA ["row", "first", "others", "single_kinds", "further_kind", "many", "singles", "further", "kind", "word"] (Zh Ug) Zrw:=Ν
def ZsK:bj:=zsc [Μ,#[eD,"word"],#[fM,"read_word"],("further_kind",.free,)]
theorem T3:ZX ÒA ["row", "first", "others", "single_kinds", "further_kind", "many", "singles", "further", "word"] (Zh Ug) ZsK:=Ν
def ZrC:bj:=zsc [Μ,#[eD,"name"],#[eD,"number"]]
theorem T2:ZX ÒB ["desk", "heads", "names", "name", "number"] (Zh Uf) ZrC:=Ν
def ZsV:bj:=zsc [Μ,ÍY,#[eD,"key"],#[fM,"written_thing"],("names",.free,)]
theorem Vt:ZX ÒB ["desk", "heads", "names", "row", "key"] (Zh Uf) ZsV:=Ν
def Zrz:bj:=zsc [Μ,#[eD,"_law_part"],#[fM,"str"]]
theorem Ov:ZX ÅZ ["_law_word", "_law_parts", "_law_keys_here", "_law_part"] (Zh Ue) Zrz:=Ν
def ZqQ:bj:=zsc [Μ,#[eD,"_law_key_here"],#[fM,"_law_key_text"]]
theorem Sr:ZX ÅZ ["_law_word", "_law_parts", "_law_keys_here", "_law_key_here"] (Zh Ue) ZqQ:=Ν
def Zp6:bj:=zsc [Μ,#[eD,"_law_row_here"],#[fM,"len"]]
theorem Sq:ZX Êu ["_law_rows", "_law_row_here"] (Zh SE) Zp6:=Ν
def Zo4:bj:=zsc [Μ,ÍY,#[eD,"place"],#[eD,"key"]]
theorem UR:ZX ÇL ["desk", "things", "row", "place", "key"] (Zh SM) Zo4:=Ν
def ZpU:bj:=zsc [Μ,#[eD,"_law_one"],#[eD,"_law_other"]]
theorem T1:ZX Êv ["_law_keys_here", "_law_one", "_law_other"] (Zh SH) ZpU:=Ν
def ZpL:bj:=zsc [Μ,ÒF,("_law_desk",.free,)]
theorem T0:ZX ÍW ["_law_desk", "_law_rows", "_law_heads_here", "_law_name"] (Zh UV) ZpL:=Ν
def ZpY:bj:=zsc [Μ,#[eD,"_law_key_here"],ÒG,ÒF,#[fM,"_law_key_text"]]
theorem Vs:ZX ÍW ["_law_desk", "_law_rows", "_law_heads_here", "_law_key_here", "_law_n", "_law_name"] (Zh UV) ZpY:=Ν
def Zqq:bj:=zsc [Μ,ÒG,ÒF,("_law_heads_here",.free,)]
theorem UQ:ZX ÍW ["_law_desk", "_law_rows", "_law_heads_here", "_law_n", "_law_name"] (Zh UV) Zqq:=Ν
def Zpa:bj:=zsc [Μ,ÒG,#[eD,"_law_keys_here"],#[eD,"_law_out"],#[fM,"len"]]
theorem Vr:ZX Êw ["_law_desk", "_law_word", "_law_many", "_law_n", "_law_keys_here", "_law_out"] (Zh SG) Zpa:=Ν
structure Bt (mg:þ):Prop where
 n_abs:mg "abs" = af
 n_all:mg "all" = af
 n_bool:mg "bool" = af
 n_dict:mg "dict" = af
 n_enumerate:mg "enumerate" = af
 n_int:mg "int" = af
 n_isinstance:mg "isinstance" = af
 n_len:mg "len" = af
 n_list:mg "list" = af
 n_max:mg "max" = af
 n_min:mg "min" = af
 n_range:mg "range" = af
 n_sorted:mg "sorted" = af
 n_str:mg "str" = af
 n_sum:mg "sum" = af
 n_tuple:mg "tuple" = af
 n_zip:mg "zip" = af
structure ZM (K:Ä) (mg:þ) (aw:ae) (am:ae) (aB:ae) (ap:ae) (aJ:ae) (aA:ae) (ao:ae) (au:ae):Prop where
 b:Bt mg
 t_halves:Top K mg "halves" PM ["numbers"]
 t_way_up:Top K mg "way_up" PL ÄJ
 t_is_key:Top K mg "is_key" PH ["thing"]
 t_alike:Top K mg "alike" PF ÂW
 t_liken:Top K mg "liken" PD ÂW
 t_liken_from:Top K mg "liken_from" PB ÄI
 t_alike_from:Top K mg "alike_from" Pz ÄI
 t_order_at:Top K mg "order_at" Py Êp
 t_first_break:Top K mg "first_break" Px ["keys"]
 t_alikes:Top K mg "alikes" Pw ["row"]
 t_refuse_break:Top K mg "refuse_break" Pu Êr
 t_matches_up:Top K mg "matches_up" Pt ÄJ
 t_read_word:Top K mg "read_word" Ps ÍR
 t_read_name:Top K mg "read_name" Pr Âm
 t_read_key:Top K mg "read_key" Pq Âm
 t_read_number:Top K mg "read_number" Pp ÍS
 t_are_figures:Top K mg "are_figures" Po Âm
 t_written_key:Top K mg "written_key" Pn ["key"]
 t_written_thing:Top K mg "written_thing" Pm Ês
 t_with_blanks:Top K mg "with_blanks" Pk ["words"]
 t_run:Top K mg "run" Pj ["text"]
 t_orders_in:Top K mg "orders_in" Pg ["text"]
 t_order_in:Top K mg "order_in" Ug ["row"]
 t_may_be_further:Top K mg "may_be_further" Pf Êt
 t_do_row:Top K mg "do_row" Pe ÄL
 t_do_grow:Top K mg "do_grow" Pd ÄL
 t_do_drop:Top K mg "do_drop" Pc Α
 t_ask_take:Top K mg "ask_take" Pb Α
 t_ask_left:Top K mg "ask_left" Pa Α
 t_ask_rows:Top K mg "ask_rows" O9 Α
 t_written_things:Top K mg "written_things" SM ÇL
 t_written_heads:Top K mg "written_heads" Uf ÒC
 t_l_mix:Top K mg "_law_mix" O8 ÍI
 t_l_left:Top K mg "_law_left" O7 ÍJ
 t_l_pick:Top K mg "_law_pick" O6 Òz
 t_l_stems:Top K mg "_law_stems" SK ÅY
 t_l_key:Top K mg "_law_key" SJ ÍK
 t_l_keys:Top K mg "_law_keys" O5 ÃE
 t_l_row:Top K mg "_law_row" O4 ÃE
 t_l_same:Top K mg "_law_same" SI ÇI
 t_l_begun:Top K mg "_law_begun" O3 []
 t_l_in_order:Top K mg "_law_in_order" SH Êv
 t_l_deed_due:Top K mg "_law_deed_due" O2 ÍU
 t_l_heads:Top K mg "_law_heads" O1 ÁJ
 t_l_key_text:Top K mg "_law_key_text" O0 ÍT
 t_l_coming:Top K mg "_law_coming" OZ ÁJ
 t_l_taken:Top K mg "_law_taken" OY ÍV
 t_l_rows_text:Top K mg "_law_rows_text" UV ÁJ
 t_l_ask_due:Top K mg "_law_ask_due" SG Êw
 t_l_names:Top K mg "_law_names" OX ÅY
 t_l_words:Top K mg "_law_words" Ue ÅZ
 t_l_deed:Top K mg "_law_deed" OW ÒD
 t_l_full:Top K mg "_law_full" OV ÒE
 t_l_is_short:Top K mg "_law_is_short" SE Êu
 t_OutOfOrder_init:UX K mg ao ap "OutOfOrder" "OutOfOrder.__init__" Z3 ÇJ
 t_BadLine_init:UX K mg au ap "BadLine" "BadLine.__init__" Ud Êq
 t_Row_init:U0 K mg aw "Row" "Row.__init__" OU ÂX
 t_Row_to_go:Ym K aw "to_go" "Row.to_go" OT ĉ
 t_Row_head:Ym K aw "head" "Row.head" OR ĉ
 t_Row_lengthen:Ym K aw "lengthen" "Row.lengthen" OQ ÂX
 t_Merge_init:U0 K mg am "Merge" "Merge.__init__" OP ÍL
 t_Merge_coming:Ym K am "coming" "Merge.coming" OO ĉ
 t_Merge_take:Ym K am "take" "Merge.take" ON ĉ
 t_Merge_take_few:Ym K am "take_few" "Merge.take_few" OM ÍM
 t_Merge_left:Ym K am "left" "Merge.left" SD ĉ
 t_Merge_heads:Ym K am "heads" "Merge.heads" SA ĉ
 t_Merge_add_row:Ym K am "add_row" "Merge.add_row" OL ÄK
 t_Merge_drop_row:Ym K am "drop_row" "Merge.drop_row" OK ÁI
 t_Merge_grow:Ym K am "grow" "Merge.grow" OJ ÇK
 t_Merge_row_of:Ym K am "row_of" "Merge.row_of" OI ÁI
 t_Merge_play_all:Ym K am "play_all" "Merge.play_all" OH ĉ
 t_Merge_play:Ym K am "play" "Merge.play" OG ÍN
 t_Merge_send_out:Ym K am "send_out" "Merge.send_out" OF ÍO
 t_Merge_play_again:Ym K am "play_again" "Merge.play_again" OE ÍP
 t_Merge_meet:Ym K am "meet" "Merge.meet" OD ÍQ
 t_Desk_init:U0 K mg aB "Desk" "Desk.__init__" OC ĉ
 cl_Row:Cls K aw
 na_Row_all_keys:Yu K aw "all_keys"
 na_Row_fars:Yu K aw "fars"
 na_Row_gone:Yu K aw "gone"
 cl_Merge:Cls K am
 na_Merge_best:Yu K am "best"
 na_Merge_likened:Yu K am "likened"
 na_Merge_looked:Yu K am "looked"
 na_Merge_next_number:Yu K am "next_number"
 na_Merge_rows:Yu K am "rows"
 na_Merge_stays:Yu K am "stays"
 cl_Desk:Cls K aB
 na_Desk_merge:Yu K aB "merge"
 na_Desk_numbers:Yu K aB "numbers"
 g_DONE:∃tk,mg "DONE" = U (.str "done" tk)
 g_MOST_FIGURES:∃tk,mg "MOST_FIGURES" = U (.int 9 tk)
 g_MOST_KEY:∃tk,mg "MOST_KEY" = U (.int 40 tk)
 g_MOST_NAME:∃tk,mg "MOST_NAME" = U (.int 8 tk)
 g_MOST_ROWS:∃tk,mg "MOST_ROWS" = U (.int 16 tk)
 g_MOST_SIZES:∃tk,mg "MOST_SIZES" = U (.int 12 tk)
 g_NOTHING:∃tk,mg "NOTHING" = U (.str "-" tk)
 g_REFUSED:∃tk,mg "REFUSED" = U (.str "refused" tk)
 m_MergeError:mg "MergeError" = U ÄM
 m_Full:mg "Full" = U Ŀ
 m_NoRow:mg "NoRow" = U ŀ
 m_OutOfOrder:mg "OutOfOrder" = U ĭ
 m_BadLine:mg "BadLine" = U Ķ
 x_Full:WZ K aJ ÇM
 x_OutOfOrder:WZ K ao ÇM
 xb_MergeError:XB K ap
 na_OutOfOrder_row:Yu K ao "row"
 na_OutOfOrder_place:Yu K ao "place"
 na_BadLine_line:Yu K au "line"
 xw_Full:XW K mg aJ ap "Full"
 xw_NoRow:XW K mg aA ap "NoRow"
 xg_Full:XG K aJ
 ki_Full_MergeError:Ď K Ŀ ÄM=U true
 ki_Full_Full:Ď K Ŀ Ŀ=U true
 ki_Full_NoRow:Ď K Ŀ ŀ=U false
 ki_Full_OutOfOrder:Ď K Ŀ ĭ=U false
 ki_Full_BadLine:Ď K Ŀ Ķ=U false
 ki_Full_V:Ď K Ŀ Âi=U true
 xg_NoRow:XG K aA
 ki_NoRow_MergeError:Ď K ŀ ÄM=U true
 ki_NoRow_Full:Ď K ŀ Ŀ=U false
 ki_NoRow_NoRow:Ď K ŀ ŀ=U true
 ki_NoRow_OutOfOrder:Ď K ŀ ĭ=U false
 ki_NoRow_BadLine:Ď K ŀ Ķ=U false
 ki_NoRow_V:Ď K ŀ Âi=U true
 xg_OutOfOrder:XG K ao
 ki_OutOfOrder_MergeError:Ď K ĭ ÄM=U true
 ki_OutOfOrder_Full:Ď K ĭ Ŀ=U false
 ki_OutOfOrder_NoRow:Ď K ĭ ŀ=U false
 ki_OutOfOrder_OutOfOrder:Ď K ĭ ĭ=U true
 ki_OutOfOrder_BadLine:Ď K ĭ Ķ=U false
 ki_OutOfOrder_V:Ď K ĭ Âi=U true
 xg_BadLine:XG K au
 ki_BadLine_MergeError:Ď K Ķ ÄM=U true
 ki_BadLine_Full:Ď K Ķ Ŀ=U false
 ki_BadLine_NoRow:Ď K Ķ ŀ=U false
 ki_BadLine_OutOfOrder:Ď K Ķ ĭ=U false
 ki_BadLine_BadLine:Ď K Ķ Ķ=U true
 ki_BadLine_V:Ď K Ķ Âi=U true
 kg:Éa K ÇE "__get__" = U (U #[eM,"getset_descriptor.__get__"])
 kt:Ùz K ÇE=U true
structure Vq (K:Ä) (w:aF) (mg:þ) (bQ:ae) (br:ae) (bv:ae):Prop where
 m_BOUNDS:mg "BOUNDS" = U (.ref bQ)
 kd_BOUNDS:KD K w bQ
 d_BOUNDS_many:∃dL:ae,Ņ K bQ "many" = U (U (.ref dL))/\(∀H,SqT K H dL #[gQ,0,1000000])
 m_DEEDS:mg "DEEDS" = U (.ref br)
 kd_DEEDS:KD K w br
 d_DEEDS_row:∀f,mg "do_row" = U č->Ņ K br "row" = U ÀC
 d_DEEDS_grow:∀f,mg "do_grow" = U č->Ņ K br "grow" = U ÀC
 d_DEEDS_drop:∀f,mg "do_drop" = U č->Ņ K br "drop" = U ÀC
 d_DEEDS_take:∀f,mg "ask_take" = U č->Ņ K br "take" = U ÀC
 d_DEEDS_left:∀f,mg "ask_left" = U č->Ņ K br "left" = U ÀC
 d_DEEDS_rows:∀f,mg "ask_rows" = U č->Ņ K br "rows" = U ÀC
 m_FORMS:mg "FORMS" = U (.ref bv)
 kd_FORMS:KD K w bv
 d_FORMS_row:X2 λdM e9:ae=>Ņ K bv "row" = U (U (.ref e9))/\#[sc,dM]/\(∀H,SqT K H e9 [.ref dM,.str "key"])
 d_FORMS_grow:X2 λdh er:ae=>Ņ K bv "grow" = U (U (.ref er))/\#[sc,dh]/\(∀H,SqT K H er [.ref dh,.str "key"])
 d_FORMS_drop:X2 λdj eA:ae=>Ņ K bv "drop" = U (U (.ref eA))/\#[sc,dj]/\#[rH,eA,dj]
 d_FORMS_take:X2 λdk eB:ae=>Ņ K bv "take" = U (U (.ref eB))/\(∀H,SqT K H dk [.str "many"])/\#[rH,eB,dk]
 d_FORMS_left:X2 λdr eD:ae=>Ņ K bv "left" = U (U (.ref eD))/\(∀H,SqT K H dr [])/\#[rH,eD,dr]
 d_FORMS_rows:X2 λdu eE:ae=>Ņ K bv "rows" = U (U (.ref eE))/\(∀H,SqT K H du [])/\#[rH,eE,du]
def Y9(H:Hp)(p:ae)(c:Int):Prop:=X2 λa b:Int=>H p=U (.lst [.int a,.int b,.int c])/\0<=c
def But(p:ae)(H a:Hp):Prop:=#[e5,o,H,p,a]
theorem ÍZ{p:ae}{H d e:Hp}(a:But p H d)(b:But p d e):But p H e:=λc o h n=>b c o (a c o h n) n
theorem But.same{p:ae}{H b:Hp}(a:ZD H b):But p H b:=λc o h _=>a c o h
theorem Zi{H:Hp}{p:ae}(h:H p=af)(o:HO):ZD H (upd H p o):=λb u q=>by rw[Zc (Ze q h)];exact q
theorem Ĩ{n:Nat}(h:n<=1000):n<=aq:=Qa7 (Zs h)
def Ou:Sp:=λvs H Q _=>X2 λa k:Int=>vs=#[gQ,a,k] /\ -(2 ^ 62)<k/\k<2 ^ 62/\∀r:Int,0<=r->r<2000000000->Q (.int r) H
def J3(K:Ä):Sp:=λvs H Q _=>X3 λ(a:ae) (ns:À Int) (k:Int)=>vs=#[r2,a,k]/\SqL K H a ξ/\Č<=63/\0<=k/\k<100 /\
 ∀ (p:ae) (b:Hp),H p=af->Y9 b p 0->ZD H b->Q Ż b
def V4:Sp:=λvs H Q _=>X3 λ(p:ae) (c m:Int)=>vs=#[r2,p,m]/\Y9 H p c/\c<2 ^ 60/\0<m/\m<1000000 /\
 ∀ (r:Int) (a:Hp),0<=r->r<m->Y9 a p (c+1)->But p H a->Q (.int r) a
theorem Zuz{ns:Ø}{k:Int}(h0:0<=k)(h:k<(Č:Int)):∃v:Int,atI ξ k=U (.int v):=by
 have a:Ão<Č:=by lia
 have b:k=ÇN:=by lia
 have q:atI ξ ÇN=U (.int ns[Ão]):=XZ #[iu,a];rw[<- b]at q;exact(_,q)
theorem Ot{ss:Ñ}{k:Int}(h0:0<=k)(h:k<ÒH):∃s∈ss,atI Ád k=U (.str s):=by
 have a:Ão<ń:=by lia
 have b:k=ÇN:=by lia
 have q:atI Ád ÇN=U (.str ss[Ão]):=XZ #[iu,a];rw[<- b]at q;exact(_,Q9 a,q)
theorem J2(b:Ð):-(2 ^ 64)<ÙA/\ÙA<2 ^ 64:=by cases b<;>decide
theorem TZ{z:ak}{k:Int}(h0:0<=k)(h:k<(ŗ:Int)):∃c:Nat,Á5[Ão]? = U c/\atI Á5 k=U c:=by
 have hl:ÕD:=by simp[Én]
 have a:Ão<ÙB:=by lia
 have b:k=ÇN:=by lia
 have q:atI Á5 ÇN=U Á5[Ão]:=XZ (Qb a);rw[<- b]at q;exact(_,Qb a,q)
theorem J1(sep:ak)(ys:Ñ):(Öj).length<=#[x1].sum+Ĭ*Ìt:=by
 have e:Áh sep ys=χ sep ys:=by simpa using Êm sep ys
 rw[e];exact StrLaws.join_length_le sep ys
theorem J0:∀ss:À ak,#[s2,ss,1]->(ss.map Ân).sum<=ń
 | [],_=>Qg _
 | s::r,h=>by have h1:=h s Qac;have h2:=#[sD,J0,x,a];rw[Qj,QR,QA];lia
def lcp:À Nat->À Nat->Nat
 | a::r,b::s=>if a=b then lcp r s+1 else 0
 | _,_=>0
theorem TY:∀ (x y:À Nat),lcp x y<=ċ/\lcp x y<=ſ
 | [],_=>(Qs _,Qs _)
 | _::_,[]=>(Qs _,Qs _)
 | a::r,b::s=>by
  have h:=TY r s;unfold lcp;split
  ·exact(ÒI h.1,ÒI h.2)
  ·exact(Qs _,Qs _)
theorem Vp:∀ (x y:À Nat),lcp x y=lcp y x
 | [],[]=>rfl
 | [],_::_=>rfl
 | _::_,[]=>rfl
 | a::r,b::s=>by
  unfold lcp;by_cases h:a=b
  ·rw[Æ h,Æ h.symm,Vp r s]
  ·rw[Ç h,Ç λe=>h ÃU]
theorem JZ:∀x:À Nat,lcp x x=ċ
 | []=>rfl
 | a::r=>by unfold lcp;rw[Æ rfl,JZ r];rfl
theorem UP(x:Ş):lcp x []=0:=by cases x<;>rfl
theorem Êx(x:Ş):lcp [] x=0:=by cases x<;>rfl
theorem JY:∀ (x y:À Nat) (k:Nat),k<=lcp x y->∀a,x[k]? = U a->y[k]? = U a->k+1<=lcp x y
 | [],_,k,_,a,h,_=>by simp at h
 | _::_,[],k,_,a,_,h=>by simp at h
 | a::r,b::s,0,_,c,h1,h2=>by simp at h1 h2;unfold lcp;rw[Æ (by rw[h1,h2])];lia
 | a::r,b::s,k+1,h,c,h1,h2=>by
  unfold lcp at h ⊢;by_cases e:a=b
  ·rw[Æ e]at h ⊢;have:=JY r s k Á c #[d8,h1] #[d8,h2];lia
  ·rw[w8];lia
theorem JX:∀ (x y:À Nat) (k:Nat),k<lcp x y->x[k]? = y[k]?
 | [],_,k,h=>by unfold lcp at h;lia
 | _::_,[],k,h=>by unfold lcp at h;lia
 | a::r,b::s,0,h=>by
  unfold lcp at h;by_cases e:a=b
  ·simp[e]
  ·rw[w8];lia
 | a::r,b::s,k+1,h=>by
  unfold lcp at h;by_cases e:a=b
  ·rw[sC,e,h];simpa using JX r s k Á
  ·rw[w8];lia
theorem Oq(x y:Ş)(k:Nat)(h:k<=lcp x y)(n:ċ<=k\/ſ<=k\/X2 λa b=>x[k]? = U a/\y[k]? = U b/\a≠b):lcp x y=k:=by
 have l:=TY x y;rcases n with n|n|⟨a,b,c,d,ne⟩
 ·lia
 ·lia
 ·by_cases q:k<lcp x y
  ·have:=JX x y k q;rw[c,d]at this;exact È (Qv this) ne
  ·lia
theorem Op:∀ (x y z:À Nat),#[zc,y,x,z,y]\/#[zc,y,y,z,x]\/#[zc,z,x,y,y]
 | [],y,z=>.inr (.inl #[sK,Êx,Êx])
 | x,[],z=>.inl #[sK,UP,Êx]
 | x,y,[]=>.inr (.inr #[sK,UP,UP])
 | a::r,b::s,c::t=>by
  have ih:=Op r s t;unfold lcp;by_cases f:a=b
  ·by_cases d:b=c
   ·rw[Æ f,Æ d,Æ (f.trans d)];lia
   ·rw[Æ f,Ç d,Ç λe=>d ÑG];lia
  ·rw[zf,f];by_cases d:b=c
   ·rw[Æ d,Ç λe=>f ÑH];lia
   ·rw[zf,d];lia
abbrev cds(z:ak):À Nat:=Á5
def AZ(z:ak):Prop:=∀c∈cds z,97<=c/\c<=122
theorem JW(x y:ak):cds (x++y)=cds x++cds y:=by show (x++y).cps.toList=_;rw[PySem.Str.cps_append];simp
theorem AZ.app{x y:ak}(a:AZ x)(b:AZ y):AZ (x++y):=λc h=>by rw[JW]at h;exact(í h).elim (a c) (b c)
theorem AZ.nil:AZ "":=by unfold AZ cds;ac_rfl
theorem AZ.join:∀ys:À ak,(∀s∈ys,AZ s)->AZ (χ "" ys)
 | [],_=>λc h=>by cases (show c∈([]:À Nat) from h)
 | [x],h=>h x Ö
 | x::y::r,h=>((h x Ö).app AZ.nil).app (AZ.join (y::r) λs a=>h s (Ql _ a))
theorem AZ.joinT(ys:Ñ)(h:∀s∈ys,AZ s):AZ (Áh "" ys):=by
 have e:Áh "" ys=χ "" ys:=by simpa using Êm "" ys
 rw[e];exact AZ.join ys h
theorem AZ.one{z:ak}(a:AZ z){k:Nat}{c:Nat}(h:Á5[k]? = U c):AZ Ű:=λd hd=>by
 have e:d=c:=by simpa using hd
 rw[e];exact a c (Qr h)
theorem AZ.ok{z:ak}(a:AZ z):Í0 z=true:=by unfold Í0;rw[ÑJ];intro i hi;have:=a Á9[i] Ö;exact ÑF
theorem ZuI:AZ "ababcz":=by unfold AZ cds;ac_rfl
def So:Sp:=λvs H Q _=>X2 λx y:ak=>vs=[.str x,.str y]/\ċ<=1000/\ſ<=1000/\Q #[sj,lcp] H
def Sn:Sp:=λvs H Q _=>X3 λ(x y:ak) (a:Nat)=>vs=#[za,a]/\ċ<=1000/\ſ<=1000/\a<=lcp ü đ/\Q #[sj,lcp] H
def IsD(H:Hp):Nat->V->V->Prop
 | 0,_,_=>ĕ
 | n+1,x,y=>(x=y/\(x=.non\/(∃b,x=.bl b)\/(∃i,x=.int i)\/∃s,x=.str s)) \/
   (X4 λ(p q:ae) (xs ys:À V)=>x=.ref p/\y=.ref q/\((H p=U À6/\H q=U ÂE)\/(H p=U Γ/\H q=U (.tup ys)))/\ã=Ĭ/\ã<=1000/\∀ (i:Nat) (x y:V),xs[i]? = U x->ys[i]? = U y->IsD H n x y)
theorem IsD.mono{H c:Hp}(s:ZD H c):∀ {n:Nat} {x y:V},IsD H n x y->IsD c n x y
 | 0,_,_,h=>Àq
 | n+1,x,y,h=>by
  rcases h with h|⟨p,q,xs,ys,d,e,h,hl,hz,f⟩
  ·exact .inl h
  ·refine .inr (p,q,xs,ys,d,e,?_,hl,hz,λi x y a b=>(f i x y a b).mono s);rcases h with⟨a,b⟩|⟨a,b⟩
   ·exact .inl (s _ _ a,s _ _ b)
   ·exact .inr (s _ _ a,s _ _ b)
def JV(n:Nat):Sp:=λvs H Q _=>X2 λx y:V=>vs=[x,y]/\IsD H n x y/\∀a,ZD H a->Q ÆL a
section
variable (K:Ä)
open PySem.W
theorem ZoI:ÁK K Ã3 ÇO=U false:=by unfold ÁK ķ ψ;rfl
theorem Zo2:ÁK K Êy ÇO=U false:=by unfold ÁK ķ ψ;rfl
theorem ZoL:ÁK K ÁD ÇO=U false:=by unfold ÁK ķ ψ;rfl
theorem ZnY:ÁK K #[ir,"NoneType"] ÇO=U false:=by unfold ÁK ķ ψ;rfl
theorem ZnW:ÁK K ÂD ÇO=U true:=by unfold ÁK ķ ψ;rfl
theorem Zoc:ÁK K Êz ÇO=U true:=by unfold ÁK ķ ψ;rfl
theorem JU:ķ K ÂD ÂD=U true:=by unfold ķ ψ;rfl
theorem JT:ķ K ÂD Êz=U false:=by unfold ķ ψ;rfl
theorem JS:ķ K Êz ÂD=U false:=by unfold ķ ψ;rfl
theorem JR:ķ K Êz Êz=U true:=by unfold ķ ψ;rfl
theorem ZnA:ķ K Ã3 ÁD=U false:=by unfold ķ ψ;rfl
theorem JQ:ķ K Ã3 Êy=U false:=by unfold ķ ψ;rfl
theorem Zn0:ķ K Ã3 Ã3=U true:=by unfold ķ ψ;rfl
theorem Sl:ķ K ÁD ÁD=U true:=by unfold ķ ψ;rfl
theorem JP:ķ K #[ir,"NoneType"] ÁD=U false:=by unfold ķ ψ;rfl
theorem Zrb:ķ K Êy ÁD=U false:=by unfold ķ ψ;rfl
theorem JO:ķ K Êy Êy=U true:=by unfold ķ ψ;rfl
universe E
section
variable {P:ay} {w:aF} {K:Ä} {mg:ak->Ã aa} {Â:aI} {aw am aB ap aJ aA ao au bQ br bv:ae}
theorem Zus(T:Ù):Df P w K mg Â 1 "_law_mix" ÍI Ou:=by
 rw[d4,T.t_l_mix.df,Kn,b,hr];rw[f8,a,k,k1,k2];refine(_,#[Zf,#[Zx,2,Kn.nd,á,#[ZR,UA,#[ZR,Va,#[ZR,Xb,#[ZR,Xb,#[rJ,UA,0],#[ZR,Va,#[sL,Va,1,1],Þ]],Þ],Þ],Þ]],#[Zg,#[Zm,#[ZR,UA,#[sL,Va,2,2],Þ]]]],_,rfl,_,_,rfl,rfl,ÒJ,_,rfl,_,rfl,_,_,rfl,rfl,.inl Ãv,_,_,rfl,rfl,.inr Í1,_,_,rfl,rfl,_,_,rfl,rfl,_,_,rfl,rfl,.inr Í1,_,_,rfl,rfl,ÒJ,?_);have m0:=ÒK ÙC (show (2147483647:Int)≠0 by decide);have m1:=Qa6 ÙC (show (0:Int)<2147483647 by decide);refine(_,rfl,_,rfl,_,_,rfl,rfl,.inl Ãv,_,_,rfl,rfl,ÒJ,?_);exact q _ (ÒK _ Ë) (Int.lt_trans (Qa6 _ Ë) Ë)
theorem Zsz(T:Ù):Df P w K mg Â 1 "_law_left" ÍJ (J3 K):=by
 rw[d4,T.t_l_left.df,Km,i,hr];obtain a|ns|k|rfl|d|Bp|j|k1|q:=h;refine(_,#[Zf,#[Zx,2,Km.nd,á,#[Z0,#[eo,WG,1,ÇP],#[rA,ω,0,1],Þ]],#[Zg,#[Zm,#[ZT,#[Zd,#[ZR,Va,ÙD,#[W9,Rv,ÊA,ÊB,#[Zd,#[X1,RA,ÙD,#[ZR,ZtX,Þ,Þ],ă]]]],#[ZR,Xb,‹2›,#[ZR,Va,Þ,‹1›]],Þ]]]]],?_);have l:(ξ).length=Č:=Qa _;have e:MA 10 18:=(by decide,by decide,by decide);refine(_,rfl,_,rfl,a,_,rfl,.inl d,_,_,rfl,rfl,_,rfl,?_);rw[f2,c]
 ·have g:k<ÙE:=Ľ c;rw[l]at g;obtain v|m:=Zuz (ns:=ns) j g;refine(_,rfl,_,rfl,a,_,_,_,rfl,rfl,d,m,_,rfl,_,rfl,_,rfl,_,rfl,_,_,rfl,rfl,e,_,_,rfl,rfl,.inr ÙF);exact ÙG
 ·refine(_,rfl,_,rfl,_,rfl,_,rfl,_,_,rfl,rfl,e,_,_,rfl,rfl,.inr ÙF);exact ÙG
theorem Zr8(T:Ù)(j:ÙH):Df P w K mg Â 2 "_law_pick" Òz V4:=by
 rw[d4,T.t_l_pick.df,Kl,t,k];obtain p|c|m|rfl|(a|b|l|c0)|c1|i|m1|q:=h;refine(_,#[Zf,#[YB,#[ZR,Xb,Å0,Þ],#[Xo,‹0›,Þ,LX]],#[Zf,#[ZN,#[ry,WF,Å0],#[Zf,#[Zx,2,Kl.nd,á,#[ZR,UA,Å0,‹1›]],#[Zf,#[YB,#[ZR,RB,Å0,‹1›],#[Xo,‹0›,Þ,LX]],ÄN]],ò],#[Zg,#[Zm,#[ZR,UA,#[ZR,RB,#[ZA,j,k,#[Zd,#[ZA,j,k,#[Zd,Å0,Å0],É],#[ZR,Xb,Å0,Þ]],É],Þ],‹1›]]]]],?_);rw[rt,g,H,p,Ür];refine(_,rfl,p,_,_,_,rfl,rfl,Ï l,rfl,_,_,rfl,rfl,_,rfl,p,_,_,2,rfl,rfl,l,rfl,_,rfl,p,_,_,_,rfl,rfl,Ï g,rfl,_,_,rfl,rfl,_,rfl,?_);refine Y0 ų ų
 ·refine(_,rfl,p,_,_,_,rfl,rfl,Ï g,rfl,_,rfl,_,_,rfl,rfl,i,_,rfl,p,_,_,_,rfl,rfl,Ï g,rfl,_,rfl,_,_,rfl,rfl,(i,by lia),_,rfl,p,_,_,0,rfl,rfl,g,rfl,_,rfl,?_);refine q _ _ ÙI (Qa6 _ i) (a / m,b,Zb,by lia) λe o h n=>?_;rw[Zc n,Zc n];exact h
 ·refine(_,rfl,p,_,_,_,rfl,rfl,Ï g,rfl,_,rfl,p,_,_,_,rfl,rfl,Ï g,rfl,_,_,rfl,by lia,by lia,λr r0 r1=>?_);refine(_,rfl,p,_,_,_,rfl,rfl,Ï g,rfl,_,_,rfl,rfl,_,_,rfl,by lia,by lia,λr' tI jH=>?_);refine(_,_,rfl,rfl,Í1,_,rfl,_,_,rfl,rfl,i,?_);refine q _ _ ÙI (Qa6 _ i) (a,b,Zb,by lia) λe o h n=>?_;rw[Zc n];exact h
def Wy:À ak:=["", "a", "ab", "aba", "abab", "b", "zebra", "aaaaaaaa", "knowswho", "z", "abababababab",Çk "a" 24]
theorem Zkk:∀s∈Wy,ŧ<=24:=by ac_rfl
theorem Zmg:∀s∈Wy,AZ s:=by unfold AZ cds;ac_rfl
def JN:Sp:=λvs H Q _=>X2 λ(p:ae) (c:Int)=>vs=Θ/\Y9 H p c/\c<2 ^ 50 /\
 ∀ (l:ae) (a:À ak) (d:Int) (b:Hp),H l=af->b l=U #[ef,Ń]->1<=ļ->ļ<=4->#[fc,a,24]->Y9 b p d->c<=d->d<=c+5->But p H b->Q Ă b
def Oo:Sp:=λvs H Q _=>X4 λ(p l:ae) (c:Int) (ss:À ak)=>vs=#[rI,p,l]/\Y9 H p c/\c<2 ^ 50/\H l=U ÃF/\1<=ń/\ń<=4/\ÊC /\
 ∀ (z:ak) (a:Int) (b:Hp),ŗ<=28->AZ z->Y9 b p a->c<=a->a<=c+6->But p H b->Q (.str z) b
theorem ZqZ(T:Ù)(aZ:Å1):Df P w K mg Â 3 "_law_stems" ÅY JN:=by
 rw[hi,T.t_l_stems.df,Kk];rw[f8,p,c,G,c1];refine(_,#[Zf,#[Zx,1,Kk.nd,Éy,#[ZT,#[Za,Ý,#[Za,Ý,#[Za,Ý,#[Za,Ý,#[Za,Ý,#[Za,Ý,#[Za,Ý,#[Zd,Ý,Ý,Ý,Ý,#[ZR,LH,Ý,Þ]]]]]]]]]]],#[Zg,#[Zm,#[XS,T5,#[VN,Å2,#[Zd,#[ZR,Xb,Þ,#[ZA,aZ,hr,#[Zd,#[hw,0],Þ],É]]]],#[gA,2,T5],Ξ,(λ_ _ _ _=>#[ZC,ω,#[cv,1,T5],#[ZA,aZ,hr,#[Zd,#[cv,0,T5],Þ],#[hp,T5]]])]]]],?_);refine(_,_,rfl,rfl,by decide,by decide,by decide,#[eE,12,aq],λl hl=>?_);have I:p≠l:=by obtain a|b|d|_:=G;exact Ze d hl
 have J:Y9 Í2 p c:=by obtain a|b|d|y:=G;exact#[fN,I,d,y]
 refine#[ff,_,J,H1,L1,z];refine(_,_,rfl,rfl,_,rfl,by lia,by lia,λD j=>?_);have y:0<=c:=by obtain a|b|d|y:=G;exact y
 have x9:H1 l=U Í3:=z l _ Zb I.symm;have m:p≠D:=by obtain a|b|d|_:=L1;exact Ze d j
 have B:l≠D:=Ze x9 j;refine LC (λi C L k=>X3 λ(ss:À ak) (v:Ã V) (g:Int)=>L=[U Ż,U Ă,v]/\C=ss.map Å/\ń=i/\ÊC/\Y9 k p g/\c+1<=g/\g<=c+1+i /\
   k l=U Í3/\k D=U (.lst C)/\But p H k) ?_ ?_ ?_
 ·refine([],af,c+1,rfl,rfl,rfl,#[ex,s,t],?_,by lia,by lia,?_,Zb,?_)
  ·rw[fX,d,M,L1,m]
  ·rw[Zc B];exact x9
  ·intro b o e n;have e1:Í2 b=U o:=by rw[Zc (Ze e hl)];exact e
   have F:=z b o e1 n;rw[Zc (Ze F j)];exact F
 ·rintro i C L k hi ⟨ss,v,g,rfl,rfl,N,t,O,b1,b2,bN,R,S⟩;refine(_,rfl,_,rfl,p,g,_,rfl,O,by lia,by decide,by decide,λr' H3 tI jH L3 W=>?_);obtain s|fT|iC:=Ot (ss:=Wy) tI jH;have my:H3 D=U ÃF:=W D _ R m.symm;have fD:H3 l=U Í3:=W l _ bN I.symm;refine(l,_,_,_,rfl,rfl,Ï fD,iC,my,#[er,N],ss++[s],_,g+1,rfl,?_,?_,?_,?_,by lia,by lia,?_,Zb,?_)
  ·rw[Qf];rfl
  ·rw[Qi,N];rfl
  ·intro x hx;rcases í hx with hx|hx
   ·exact t x hx
   ·rw[å hx];exact(Zkk s fT,Zmg s fT)
  ·rw[fX,d,M,L3,m]
  ·rw[Zc B];exact fD
  ·intro b o e n;have F:=W b o (S b o e n) n;have X:H D=af:=by
    cases Y:H D with
    | none=>rfl
    | some u =>
     have Z:D≠p:=m.symm;have z1:Í2 D=U u:=by rw[Zc ÇA];exact Y
     rw[z D u z1 Z]at j;cases j
   rw[Zc (Ze e X)];exact F
 ·rintro C L k ⟨ss,v,g,rfl,rfl,N,t,O,b1,b2,bN,R,S⟩;have X:H D=af:=by
   cases Y:H D with
   | none=>rfl
   | some u =>
    have z1:Í2 D=U u:=by rw[Zc ÇA];exact Y
    rw[z D u z1 m.symm]at j;cases j
  exact q D ss g k X R Á Á t O Á Á S
theorem Zts(T:Ù)(G:Å1):Df P w K mg Â 3 "_law_key" ÍK Oo:=by
 refine T.t_l_key.df Kj ÂY Í4;obtain p|l|c|ss|rfl|J|c1|L|n1|n4|qd|q:=h;refine(_,#[Zf,#[Zx,2,Kj.nd,á,#[YQ,Q0,Qaj,Qak,(U3 K),Ý,#[Zd,#[XS,Ss,#[VN,Å2,#[Zd,#[ZA,G,I,#[Zd,#[hw,0],Þ],É]]],#[gA,3,Ss],Ξ,(λ_ _ _ _=>#[ZC,Wd,Ý,#[ZA,G,I,#[Zd,#[cv,0,Ss],Þ],#[hp,Ss]]])]]]],#[Zg,#[Zm,#[ZR,U8,#[ZC,ω,‹1›,#[ZA,G,I,#[Zd,#[hw,0],ÊD],É]],‹2›]]]],?_);have c0:0<=c:=by obtain a|b|j|c0:=J;exact c0
 have M:p≠l:=by
  obtain a|b|j|_:=J;refine RK j L λe=>?_;have e1:=ł ÒL Í5;cases ss with
  | nil=>cases e1
  | Í x r=>exact È Í5 Âj
 refine(rfl,_,rfl,p,c,_,rfl,J,by lia,by decide,by decide,λr H1 r0 r1 L1 N=>?_);refine(_,rfl,by lia,by lia,λD y=>?_);have B:p≠D:=by obtain a|b|j|_:=L1;exact Ze j y
 have x9:=N l _ L M.symm;have vi:l≠D:=Ze x9 y;have EF:H D=af:=by
  cases w':H D with
  | none=>rfl
  | some u=>rw[N D u w' ÇA]at y;cases y
 refine LC (λi C O m=>X3 λ(d:À ak) (v:Ã V) (g:Int)=>O=[U Ż,U Ă,af,v]/\C=Âd Å/\ů=i/\#[fc,d,1]/\Y9 m p g/\c+1<=g/\g<=c+1+i /\
   m D=U (.lst C)/\But p H m) ?_ ?_ ?_
 ·refine([],af,c+1,rfl,rfl,rfl,#[ex,s,k],?_,by lia,by lia,Zb,?_)
  ·rw[fX,j,R,L1,B]
  ·intro b o e n;rw[Zc (Ze e EF)];exact N b o e n
 ·rintro i C O m hi ⟨d,v,g,rfl,rfl,S,k,W,b1,b2,X,F⟩;refine(_,rfl,p,g,_,rfl,W,by lia,by decide,by decide,λr' Y Z jH L3 t=>?_);obtain ch|hcm|jh:=TZ (z := "ababcz") Z jH;have my:Y D=U Í6:=t D _ X ÇA;refine(_,_,_,rfl,rfl,û,jh,my,#[er,S],d++[⟨#[ch]⟩],_,g+1,rfl,?_,?_,?_,?_,by lia,by lia,Zb,?_)
  ·rw[Qf];rfl
  ·rw[Qi,S];rfl
  ·intro x hx;rcases í hx with hx|hx
   ·exact k x hx
   ·rw[å hx];exact(Qg 1,ZuI.one hcm)
  ·rw[fX,j,R,L3,B]
  ·intro b o e n;rw[Zc (Ze e EF)];exact t b o (F b o e n) n
 ·rintro C O m ⟨d,v,g,rfl,rfl,S,k,W,b1,b2,X,F⟩;have qe:=J0 d λs h=>(k s h).1;have vj:=J1 "" d;have e0:#[fr,"",0]:=by ac_rfl
  rw[e0]at vj;have bN:=F l _ L M.symm;refine(_,D,d,rfl,rfl,Ï X,#[eO,e0],?_);have aW:(((Ád).length:Nat):Int)=ÒH:=by rw[Qa]
  refine(_,rfl,_,rfl,_,rfl,l,_,rfl,.inl (Ï bN),p,g,_,rfl,W,by lia,by lia,by lia,λr' Y Z jH L3 t=>?_);obtain st|fT|iC:=Ot (ss:=ss) Z Á;have bD:=(qd st fT).1;refine(l,_,_,_,rfl,rfl,Ï (t l _ bN M.symm),iC,_,rfl,_,_,rfl,rfl,Ĩ Á,?_);refine q _ (g+1) Y ?_ ((qd st fT).2.app (AZ.joinT d λs h=>(k s h).2)) L3 Á Á (F.trans t);rw[QM];lia
theorem Zih(T:Ù):Df P w K mg Â 1 "alike_from" ÄI Sn:=by
 rw[d4,T.t_alike_from.df,OB,F,hr];obtain x|y|c|rfl|r|t|G|q:=h;refine(_,#[Zf,#[sl,OB.nd,2],#[Zf,(@RF _ _ _ _ _ _ Ο (@Ź _ _ _ #[Xc,#[eo,WG,3,ÇQ],#[Xc,#[gF,WG,3],#[W4,#[Zn,YT,#[rA,Wd,0,3],#[rA,Wd,1,3],ă]]]]) #[Zg,(@ZtH _ _ 3 _ _ _ _ _ _ OB.nd rfl á Þ ZuQ ÊE)]),#[fe,3]]],_,rfl,?_);have lx:(ü).length=ċ:=by simp[Én]
 have ly:(đ).length=ſ:=by simp[Én]
 have ll:=TY ü đ;refine(λm u g=>∃k:Nat,u=[U Åk,U (.str y),U (.int c),U (.int k)]/\g=H/\k<=lcp ü đ/\m=lcp ü đ-k,(_,c,rfl,rfl,G,rfl),?_);rintro m u g ⟨k,rfl,rfl,d,rfl⟩;refine(_,rfl,_,rfl,x,rfl,Ĩ r,_,_,rfl,rfl,_,rfl,?_);rw[f2,i]
 ·have v:(k:Int)<ÒM:=Ľ i;refine(_,rfl,_,rfl,y,rfl,Ĩ t,_,_,rfl,rfl,_,rfl,?_);rw[f2,j]
  ·have B:(k:Int)<(ſ:Int):=Ľ j;obtain a|l|I:=TZ (z:=x) (k:=k) Á v;obtain b|n|J:=TZ (z:=y) (k:=k) Á B;rw[ÉJ]at l n;refine(_,rfl,_,rfl,x,_,a,rfl,rfl,Ĩ r,I,_,rfl,_,rfl,y,_,b,rfl,rfl,Ĩ t,J,rfl,_,rfl,?_);rw[f2,o]
   ·have p:a=b:=by have:=Ľ o;injection this with e;injection e with e;simpa using e
    subst p;have:=JY _ _ k d a l n;refine(λC D=>C=[U Åk,U (.str y),U (.int c),U Í7]/\D=g,λC D ⟨L,M⟩=>(_,?_,k+1,L,M,this,rfl),?_)
    ·lia
    ·exact(_,rfl,_,_,rfl,rfl,rfl,rfl)
   ·refine ÊF;have e:=Oq _ _ k d (.inr (.inr (a,b,l,n,λe=>o (by subst e;exact Í8))));rw[e]at q;exact q
  ·refine Y7 ÊF;have B:¬ (k:Int)<(ſ:Int):=ÂR (ÒN j);have e:=Oq _ _ k d #[sd,Á];rw[e]at q;exact q
 ·refine Y7 ÊF;have v:¬ (k:Int)<ÒM:=ÂR (ÒN i);have e:=Oq _ _ k d (.inl Á);rw[e]at q;exact q
theorem Zo8(T:Ù)(a:ÒO):Df P w K mg Â 2 "alike" ÂW So:=by
 rw[d4,T.t_alike.df,Zpo,b,c];rw[f8,x,y,d,e];refine(_,#[Zg,#[Zm,#[hj,a,c,0,1]]],?_);exact(_,rfl,_,rfl,x,y,0,rfl,d,e,Qs _,q)
theorem Y2{c A B:Prop}[Éz c](hc:c)(h:A):if decide c=true then A else B:=by rw[Æ (Ĉ hc)];exact h
theorem YR{c A B:Prop}[Éz c](hc:¬ c)(h:B):if decide c=true then A else B:=by rw[Ç (by rw[ē hc];exact Qu)];exact h
theorem JM(T:Ù):∀n:Nat,Df P w K mg Â (n+1) "_law_same" ÇI (JV n)
 | 0=>by
  rw[vQ]
  ·obtain x|y|rfl|_:=h;rfl
  obtain x|y|rfl|h|_:=h;exact Àq
 | n+1=>by
  have jK:=JM T n;rw[vQ]
  ·obtain x|y|rfl|_:=h;rfl
  rw[sS,x,y,t];refine(_,#[Zf,#[ZN,#[Xd,#[Zp,(Zvd K),É,ÊG,ÊH,#[Zd,‹1›,#[YG,#[Zd,#[XI,ÊI,ÊJ],#[XI,ÒP,ÒQ]]]]]],#[Zf,#[ZN,(@Ź _ _ _ #[WR,#[Zn,VM,#[em,0,ÊI,ÊJ],#[em,1,ÊI,ÊJ],ă],#[WS,#[Zn,VM,#[em,0,ÒP,ÒQ],#[em,1,ÒP,ÒQ],ă]]]),ÒR,ò],#[Zg,#[Zm,(@UC _ _ _ _ _ _ _ #[X1,YT,ÇP,ÊD,ă] (@UD _ _ _ _ _ #[Zp,(LD K),É,T.b.n_all,boot_all,#[Zd,#[XS,UT,#[iZ,K,ÒS,#[e2,0,1]],#[el,2,UT,3],Ξ,(λ_ _ _ _=>#[ZA,jK,hr,#[Zd,#[cw,2,UT],#[cw,3,UT]],#[hp,UT]])]]]))]]],ò],#[Zf,#[ZN,(@Ź _ _ _ #[WR,#[hh,1],#[WS,#[Xd,ÙJ]]]),#[Zg,#[Zm,(@UC _ _ _ _ _ _ _ ÒT (@UD _ _ _ _ _ #[X1,YT,ÙK,ÙJ,ă]))]],ò],#[Zf,#[ZN,#[Xd,#[em,1,T.b.n_bool,boot_bool]],#[Zg,#[Zm,(@UC _ _ _ _ _ _ _ ÙL (@UD _ _ _ _ _ ÒT))]],ò],#[Zg,#[Zm,(@UC _ _ _ _ _ _ _ #[em,0,ÊA,ÊB] (@UC _ _ _ _ _ _ _ (@ZuH _ _ _ _ ÙL) (@UD _ _ _ _ _ ÒT)))]]]]],?_);refine(_,rfl,Á1,λc u=>?_);have O:ZD H ÇR:=Zi u _;rcases t with⟨rfl,rfl|⟨b,rfl⟩|⟨i,rfl⟩|⟨z,rfl⟩⟩|⟨p,m,xs,ys,rfl,rfl,⟨v,B⟩|⟨v,B⟩,hl,hz,hi⟩
  ·refine(_,c,ÇS,_,_,rfl,Zb,.non,ZnY K,_,rfl,Y7 ?_);refine(_,rfl,rfl,_,rfl,Y2 rfl (YJ ?_));refine ÙM;exact(_,rfl,_, "str",_,_,rfl,.non,JP K,_,rfl,_, "str",_,_,rfl,.non,JP K,rfl,q _ O)
  ·refine(_,c,ÇS,_,_,rfl,Zb,.bl b,Zo2 K,_,rfl,Y7 ?_);refine Í9;refine(_,rfl,_, "str",_,_,rfl,.bl b,Zrb K,_,rfl,Y7 ?_);refine ÙN;refine ÙN;refine ÙO;have e:decide (V.bl b=V.bl b)=true:=Í8;rw[e];exact q _ O
  ·refine(_,c,ÇS,_,_,rfl,Zb,.int i,ZoI K,_,rfl,Y7 ?_);refine Í9;rw[rW,"str",ZnA,Y7];rw[rW,"bool",JQ,Y7];rw[rW,"int",Zn0,YJ];refine(_,rfl,_, "bool",_,_,rfl,.int i,JQ K,_,rfl,_,rfl,YJ ?_);refine ÙO;have e:decide (ì i=ì i)=true:=Í8;rw[e];exact q _ O
  ·refine(_,c,ÇS,_,_,rfl,Zb,.str z,ZoL K,_,rfl,Y7 ?_);refine Í9;refine(_,rfl,_, "str",_,_,rfl,.str z,Sl K,_,rfl,YJ ?_);refine ÙM;exact(_,rfl,_, "str",_,_,rfl,.str z,Sl K,_,rfl,_, "str",_,_,rfl,.str z,Sl K,rfl,q _ O)
  ·have j:ÇR p=U À6:=by rw[Zc (Ze v u)];exact v
   have g:ÇR m=U ÂE:=by rw[Zc (Ze B u)];exact B
   refine(_,c,ÇS,_,_,rfl,Zb,.lst g,ZnW K,_,rfl,YJ ?_);refine(_,rfl,_, "list",_,_,rfl,.lst j,JU K,_,rfl,_, "list",_,_,rfl,.lst g,JU K,rfl,_,rfl,U5 rfl ?_);refine(_,rfl,_, "tuple",_,_,rfl,.lst j,JT K,_,rfl,_, "tuple",_,_,rfl,.lst g,JT K,rfl,_,rfl,U5 rfl ?_);refine(_,rfl,p,xs,rfl,.inl (Ï j),_,rfl,m,ys,rfl,.inl (Ï g),rfl,_,rfl,Y2 (by rw[hl]) ?_);refine(_,rfl,_,rfl,.l p,.l m,xs,ys,rfl,Ï j,Ï g,λD t=>?_);rw[48]
   ·exact ÙP
   ·rintro i zs k a ⟨_,_,d,_⟩;exact(Ï (d _ _ v),Ï (d _ _ B))
   ·rw[B]
    ·rw[ÙQ]
    ·rw[ca]
   ·rw[ak];have e:ÙR:=by rw[Qal];rw[pU]
    rw[e];exact q a d
  ·have j:ÇR p=U Γ:=by rw[Zc (Ze v u)];exact v
   have g:ÇR m=U (.tup ys):=by rw[Zc (Ze B u)];exact B
   refine(_,c,ÇS,_,_,rfl,Zb,.tup g,Zoc K,_,rfl,YJ ?_);refine(_,rfl,_, "list",_,_,rfl,.tup j,JS K,_,rfl,_, "list",_,_,rfl,.tup g,JS K,rfl,_,rfl,U5 rfl ?_);refine(_,rfl,_, "tuple",_,_,rfl,.tup j,JR K,_,rfl,_, "tuple",_,_,rfl,.tup g,JR K,rfl,_,rfl,U5 rfl ?_);refine(_,rfl,p,xs,rfl,.inr (ö j),_,rfl,m,ys,rfl,.inr (ö g),rfl,_,rfl,Y2 (by rw[hl]) ?_);refine(_,rfl,_,rfl,.t p,.t m,xs,ys,rfl,ö j,ö g,λD t=>?_);rw[48]
   ·exact ÙP
   ·rintro i zs k a ⟨_,_,d,_⟩;exact(ö (d _ _ v),ö (d _ _ B))
   ·rw[B]
    ·rw[ÙQ]
    ·rw[ca]
   ·rw[ak];have e:ÙR:=by rw[Qal];rw[pU]
    rw[e];exact q a d
theorem Y9.new{H:Hp}{p l:ae}{c:Int}{o:HO}(h:Y9 H p c)(n:H l=af):Y9 (upd H l o) p c:=by obtain a|b|d|e:=h;exact(a,b,by rw[Zc (Ze d n)];exact d,e)
theorem Y9.ge{H:Hp}{p:ae}{c:Int}(h:Y9 H p c):0<=c:=by obtain a|b|hp|c0:=h;exact c0
theorem Y9.here{H:Hp}{p:ae}{c:Int}(h:Y9 H p c):∃o,H p=U o:=by obtain a|b|hp|c0:=h;exact(_,hp)
theorem Y9.at{H:Hp}{p l:ae}{c:Int}{o:HO}(h:Y9 H p c)(n:p≠l):Y9 (upd H l o) p c:=by obtain a|b|d|e:=h;exact#[fN,n,d,e]
theorem JL:∀ss:À ak,(∀s∈ss,AZ s)->Âo ÇT=true
 | [],_=>rfl
 | x::r,h=>by simp[Âo,ÁL,(h x Ö).ok,JL r λs a=>h s ÙS]
theorem Om:∀ss:À ak,ÁM ÇT=0
 | []=>rfl
 | _::r=>by simp[ÁM,Âp,Om r]
theorem Zle(ss:Ñ)(h:∀s∈ss,AZ s):ÂM (.list ÇT)=true:=by simp[ÂM,ÁL,Âp,JL ss h,Om]
theorem Sk{K:Ä}{H:Hp}:∀ss:À ak,DVs K H Ád ÇT
 | []=>.nil
 | s::r=>.cons (.str s) (Sk r)
def Sj:Sp:=λvs H Q _=>X5 λ(p l:ae) (c a:Int) (ss:À ak)=>vs=[.ref p,.ref l,.int a]/\Y9 H p c/\c<2 ^ 40/\0<=a/\a<=60/\H l=U ÃF/\1<=ń/\ń<=4/\ÊC /\
 ∀ (r:ae) (d:À ak) (e:Int) (b:Hp),H r=af->b r=U Í6->(ů:Int)<=a->#[fc,d,28]->Y9 b p e->c<=e->e<=c+600->But p H b->Q Ái b
theorem Zsc(T:Ù)(X:Å1)(lu:ÙT):Df P w K mg Â 4 "_law_keys" ÃE Sj:=by
 rw[d4,T.t_l_keys.df,Uc,vs,C];obtain p|l|c|N|ss|rfl|O|c1|m0|m1|Y|n1|n4|qd|q:=h;refine(_,#[Zf,#[gR,3,Uc.nd],#[Zf,#[XT,Ο,#[VN,Å2,#[Zd,#[ZA,X,C,#[Zd,‹0›,#[rJ,Xb,2]],É]]],#[rT,4,Uc.nd],#[Zf,#[Zx,5,Uc.nd,á,#[rX,lu,C,0,1]],#[Zf,#[ZN,(@Ź _ _ _ #[Xc,#[fD,neD,C,3],#[W4,#[Zn,YT,#[y4,X,C],Þ,ă]]]),#[Zg,#[Zx,5,Uc.nd,á,#[ZC,ω,‹3›,#[ZA,X,C,#[Zd,‹0›,ÒU],É]]]],ò],#[Zg,#[fY,3,5]]]]],#[fe,3]]],?_);have c0:=O.ge;rw[y7,Ŵ,r,u];have D:p≠r:=by obtain o|ho:=O.here;exact Ze ho u
 have Br:l≠r:=Ze Y u;have ln:p≠l:=by
  obtain a|b|hp|_:=O;refine RK hp Y λe=>?_;cases ss with
  | nil=>exact È (ł ÒL Í5) Ö
  | Í x r=>exact È Í5 Âj
 refine(_,rfl,_,rfl,_,_,rfl,rfl,p,c,_,rfl,O.new u,by lia,by lia,by lia,λn H1 w0 w1 L1 B1=>?_);refine(_,rfl,by lia,by lia,?_);have i5:H1 r=U ÁN:=B1 r _ Zb D.symm;have Z:But p H H1:=#[sP,u].trans B1;refine UB (λi σ v=>X4 λ(g:À ak) (F G:Ã V) (j:Int)=>σ=ÙU/\v r=U #[ef,ÄO]/\g.length=i/\#[fc,g,28]/\Y9 v p j/\c+1<=j/\j<=c+1+8*i/\#[ew,o,p,v]) ([],af,af,c+1,rfl,i5,rfl,#[ex,s,hs],L1,by lia,by lia,Z) ?_ ?_
 ·rintro i σ v hi ⟨g,F,G,j,rfl,fm,hn,I,L2,a1,a2,R⟩;have hi60:(i:Int)<61:=by lia
  have bN:=R l _ Y ln.symm;refine(_,rfl,_,rfl,p,l,j,ss,rfl,L2,by lia,bN,n1,n4,qd,λkey c3 H3 iQ zK L3 a3 a4 B3=>?_);have gX:=B3 r _ fm D.symm;have m:∀ (k:ak) (J:Int) (t:Hp),Çx<=28/\AZ k->Y9 t p J->j<=J->J<=j+8->t r=U #[ef,ÄO]->#[ew,o,p,t] ->
    X4 λ(c9:À ak) (F G:Ã V) (c5:Int)=>[U (ú p),U (ú l),U (ì N),U (ú r),U (ì (0+(i:Int))),U (Å k)]=ÙU /\
     (upd t r ÒV) r=U #[ef,c9.map]/\c9.length=i+1/\#[fc,c9,28]/\Y9 (upd t r ÒV) p c5/\c+1<=c5/\c5<=c+1+8*#[fI,i] /\
     (∀b o,H b=U o->b≠p->(upd t r ÒV) b=U o):=λk J t hk L4 b1 b2 Bs B4=>by
   refine(g++[k],_,_,J,rfl,?_,by rw[Qi,hn];rfl,?_,L4.at D,by lia,by lia,λb o e n=>?_)
   ·rw[Zb,Qf];rfl
   ·intro x hx;rcases í hx with hx|hx
    ·exact I x hx
    ·rw[å hx];exact hk
   ·rw[Zc (Ze e u)];exact B4 b o e n
  have bf:#[sV,ÄO,Å]:=by rw[Qa,hn];exact ÀY
  refine(_,rfl,Ŵ,λe S=>?_);have L:#[e8,H3,e] r=U #[ef,ÄO]:=by rw[Zc (Ze gX S)];exact gX
  refine(.list (ÄO Å3),.list [],.lst (Ï L) (Sk g),.lst ÊK .nil,Zle g (λs h=>(I s h).2),û,_,rfl,?_);have Bu:∀b o,H b=U o->b≠p->#[e8,H3,e] b=U o:=λb o z n=>Zi S _ b o (B3 b o (R b o z n) n);cases g with
  | nil =>
   have ev:(if true=true then !aE.eqv ÙV ÇU else ÂN ÙV ÇU)=false:=by ac_rfl
   rw[ev];refine Y7 (Y7 ?_);refine(_,rfl,.inl #[es,L],_,rfl,r,_,_,rfl,rfl,L,bf,?_);exact m key c3 _ (iQ,zK) (L3.new S) Á Á L Bu
  | Í y B =>
   have ev:(if true=true then !aE.eqv ÙW ÇU else ÂN ÙW ÇU)=true:=by simp[ÂN,ÊL]
   rw[ev];refine YJ (_,rfl,p,c3,_,rfl,L3.new S,by lia,by decide,by decide,λd H5 d0 d1 L5 B5=>?_);have M:=B5 r _ L D.symm;refine(rfl,_,rfl,Y0 Å4 Å4)
   ·have aW:((((y::B).map Å).length:Nat):Int)=((y::B).length:Int):=by rw[Qa]
    have iR:(0:Int)<((y::B).length:Int):=by simp
    refine(_,rfl,_,rfl,_,rfl,r,_,rfl,.inl (Ï M),p,c3+1,_,rfl,L5,by lia,by lia,by lia,λd' H6 d0' ya L6 B6=>?_);obtain st|fT|iC:=Ot (ss:=y::B) d0' Á;have W:=B6 r _ M D.symm;refine(r,_,_,_,rfl,rfl,Ï W,iC,_,rfl,.inl #[es,W],_,rfl,r,_,_,rfl,rfl,W,bf,?_);exact m st _ _ (I st fT) L6 Á Á W λb o z n=>B6 b o (B5 b o (Bu b o z n) n) n
   ·refine(_,rfl,.inl #[es,M],_,rfl,r,_,_,rfl,rfl,M,bf,?_);exact m key _ _ (iQ,zK) L5 Á Á M λb o z n=>B5 b o (Bu b o z n) n
 ·rintro σ v ⟨g,F,G,j,rfl,fm,hn,I,L2,a1,a2,R⟩;exact(_,rfl,q r g j v u fm Á I L2 Á Á R)
def W7(ss:Ñ)(i:Nat):Int:=if i=0 then 0 else (lcp (cds (ss.getD (i-1) "")) (cds (ss.getD i "")):Nat)
def Si(K:Ä):Sp:=λvs H Q _=>X2 λ(a:ae) (ss:À ak)=>vs=η/\SqL K H a Ád/\ń<=200/\ÊM /\
 ∀ (r:ae) (b:Hp),H r=af->b r=U ÙX->ZD H b->Q Ái b
theorem Zob(T:Ù)(O:ÒW):Df P w K mg Â 3 "alikes" ["row"] (Si K):=by
 rw[d4,T.t_alikes.df,Sz,R,S];rw[sR,a,c,v,hn,G];refine(_,#[Zf,#[gR,1,Sz.nd],#[Zf,#[XT,Ο,#[iE,K,ÒX,ÊN],#[rR,Sz.nd],#[Zg,#[ZI,#[YQ,QB,QC,QD,ZY,‹1›,#[Zd,#[Z0,#[eo,YT,2,Þ],Þ,#[ZA,O,S,#[Zd,#[ZC,ω,‹0›,#[rJ,Vb,2]],‹3›],É]]]]]]],#[fe,1]]],Ŵ,λr B=>?_);have I:ZD H #[e8,H,r]:=Zi B _;refine(_,rfl,a,Ř Å,rfl,I.seq v,?_);refine Ri (K:=K) (a:=a) (xs:=Ř Å) (λi C d=>(X2 λg k:Ã V=>C=[U Ħ,U Ái,g,k])/\d r=U (.lst ÒY)/\ZD H d/\i<=ĵ) ((af,af,rfl),Zb,I,Qs _) (λ_ _ _ W=>by obtain _|_|l|_:=W;exact l.seq v) ?_ ?_
 ·rintro i x C d p m ⟨⟨g,k,rfl⟩,n,l,X⟩ J;rw[Qp]at m;cases t:c[i]? with
  | none=>rw[t]at m;cases m
  | some y =>
   rw[en,t,m,Y,ĵ];have Z:r≠p:=Ze n J;have L:ZD H Îa:=l.trans (Zi J _);have D:Îa r=U (.lst ÒY):=by rw[Zc Z];exact n
   have M:((ÁC i).map λj=>ì (W7 c j)).length<aq:=by rw[Qa,List.length_range];exact ÀY
   have u:∀z:Int,z=W7 c i->(X2 λg k:Ã V=>[U (ú a),U (ú r),U (ì i),U (Å y)]=[U Ħ,U Ái,g,k]) /\
     (upd Îa r ÙY) r=U (.lst ((ÁC (i+1)).map λj=>.int (W7 c j))) /\
     ZD H (upd Îa r ÙY)/\i+1<=ĵ:=λz e=>by
    refine((_,_,rfl),?_,λb o h=>?_,Y)
    ·rw[Zb,ÙZ,Qf,e];rfl
    ·rw[s3,h,B,L,b,o]
   refine(p,_,rfl,ö Zb,rfl,_,_,rfl,_,_,rfl,rfl,_,rfl,.inl #[es,D],_,rfl,rfl,_,rfl,?_);by_cases N:i=0
   ·subst N;exact Y2 rfl (r,_,_,rfl,rfl,D,M,u 0 rfl)
   ·have F:i-1<ĵ:=by lia
    have ei:((i:Int)-1)=((i-1:Nat):Int):=by lia
    have bO:atI (Ř Å) ((i:Int)-1)=U (.str c[i-1]):=by rw[ei];exact XZ #[iu,F]
    refine YR (λz=>by injection z with z;lia) (_,rfl,_,rfl,_,_,rfl,rfl,a,_,_,_,rfl,rfl,L.seq v,bO,_,rfl,c[i-1],y,rfl,G _ (Q9 F),G _ (Qr t),r,_,_,rfl,rfl,D,M,u _ ?_);unfold W7;rw[Ç N,QP,QP,Qb F,t];rfl
 ·rintro C d ⟨⟨g,k,rfl⟩,n,l,X⟩;rw[Qa]at n;exact(_,rfl,q r d B n l)
def ZQ:À Nat->À Nat->Int
 | [],[]=>0
 | [],_::_ =>-1
 | _::_,[]=>1
 | a::r,b::s=>if a=b then ZQ r s else if a<b then -1 else 1
theorem JK:∀ (x y:À Nat),ÄP y x=false->ZQ x y<=0
 | [],[],_=>by unfold ZQ;lia
 | [],_::_,_=>by unfold ZQ;lia
 | _::_,[],h=>by unfold ÄP at h;cases h
 | a::r,b::s,h=>by
  have ih:=JK r s;unfold ÄP at h;unfold ZQ;rw[Bool.or_eq_false_iff,Bool.and_eq_false_iff]at h;rw[ep,c,d,h];have xW:¬ b<a:=ÂR c;by_cases e:a=b
  ·rw[Æ e];rcases d with z|z
   ·rw[e]at z;simp at z
   ·exact ih z
  ·rw[Ç e,Æ Á];lia
theorem Sh:∀ (x y z:À Nat),ZQ x y<=0->ZQ y z<=0->ZQ x z<=0
 | [],_,[],_,_=>by unfold ZQ;lia
 | [],_,_::_,_,_=>by unfold ZQ;lia
 | _::_,[],_,h,_=>by unfold ZQ at h;lia
 | _::_,_::_,[],_,h=>by unfold ZQ at h;lia
 | a::r,b::s,c::t,h1,h2=>by
  unfold ZQ at h1 h2 ⊢;have ih:=Sh r s t;by_cases f:a=b
  ·rw[sC,f,h1];by_cases d:b=c
   ·rw[mD]
   ·rw[hy,d,h2];rw[Ç (λe=>d ÑG)];split at h2
    ·rw[Æ Á];lia
    ·lia
  ·rw[hy,f,h1];split at h1
   ·by_cases d:b=c
    ·rw[Ç (λe=>f ÑH),Æ Á];lia
    ·rw[hy,d,h2];split at h2
     ·rw[Ç Á,Æ Á];lia
     ·lia
   ·lia
theorem JJ:∀ (ss:À ak) (p:ak),ÇV p ss=true->∀ (k:Nat) (x y:ak),(p::ss)[k]? = U x->ss[k]? = U y->ZQ ü đ<=0
 | [],p,_,k,x,y,_,h=>by simp at h
 | z::r,p,h,0,x,y,h1,h2=>by unfold ÇV at h;rw[Q3]at h;simp at h1 h2;subst h1 h2;exact JK _ _ #[d8,h.1]
 | z::r,p,h,k+1,x,y,h1,h2=>by unfold ÇV at h;rw[Q3]at h;exact JJ r z h.2 k x y #[d8,h1] #[d8,h2]
theorem JI{ss:Ñ}(h:#[sY,ss])(k:Nat)(x y:ak)(h1:ss[k]? = U x)(h2:ss[k+1]? = U y):ZQ ü đ<=0:=by
 cases ss with
 | nil=>simp at h1
 | Í p r=>exact JJ r p h k x y h1 #[d8,h2]
theorem JH{ss:Ñ}{k:Nat}(h:k<ń):atI Ád (k:Int)=U (.str ss[k]):=XZ #[iu,h]
theorem Y9.same{H a:Hp}{p:ae}{c:Int}(h:Y9 H p c)(s:ZD H a):Y9 a p c:=by obtain b|b2|hb|c0:=h;exact(b,b2,s _ _ hb,c0)
def mid(ns:Ø):Nat:=(Č+1) / 2
def XA(ns:Ø):À Int:=ÉW (mid ns)
def Wx(ns:Ø):À Int:=ns.drop (mid ns)
theorem ZsG(ns:Ø):(ÙE+1) / 2=((mid ns:Nat):Int):=by rw[Qa];unfold mid;lia
theorem ZtF(ns:Ø)(m:Nat)(h:m<=Č):Xm ξ af Å5=(ÉW m).map ì:=by
 unfold Xm;have e:Ž (ξ).length (ξ).length Å5=m:=by unfold Ž;rw[jM];lia
 have a:Ž (ξ).length 0 af=0:=rfl;rw[n0]
theorem Zqd(ns:Ø)(m:Nat)(h:m<=Č):Xm ξ Å5 af=(ns.drop m).map ì:=by
 unfold Xm;have e:Ž (ξ).length 0 Å5=m:=by unfold Ž;rw[jM];lia
 have a:Ž (ξ).length (ξ).length af=(ξ).length:=rfl;rw[e,a,List.map_drop,Qx #[sq,QZ,Qa]]
theorem JG(z:ak):(cds z).length=ŗ:=by simp[Én]
theorem JF:∀ (x y:À Nat),(lcp x y=ċ->lcp x y=ſ->ZQ x y=0)/\(lcp x y=ċ->lcp x y≠ſ->ZQ x y = -1)/\(lcp x y≠ċ->lcp x y=ſ->ZQ x y=1) /\
  ∀a b,x[lcp x y]? = U a->y[lcp x y]? = U b->ZQ x y=if a<b then -1 else 1
 | [],[]=>(λ_ _=>rfl,λ_ h=>È rfl h,λh _=>È rfl h,λa b h _=>by simp at h)
 | [],_::_=>(λ_ h=>by unfold lcp at h;simp at h,λ_ _=>rfl,λh _=>È rfl h,λa b h _=>by simp at h)
 | _::_,[]=>(λh _=>by unfold lcp at h;simp at h,λh _=>by unfold lcp at h;simp at h,λ_ _=>rfl,λa b _ h=>by simp at h)
 | a::r,b::s=>by
  obtain h1|h2|f|g:=JF r s;unfold lcp ZQ;by_cases e:a=b
  ·rw[ip,e,e];simp only[Ës,List.getElem?_cons_succ];exact(λp q=>h1 Á Á,λp q=>h2 Á Á,λp q=>f Á Á,g)
  ·rw[hD,e,e];simp only[Ës,Øz];refine(λp=>by lia,λp=>by lia,λ_ p=>by lia,λc d p q=>?_);cases p;cases q;rfl
theorem V3:∀ (x y:À Nat),ZQ y x =-ZQ x y
 | [],[]=>rfl
 | [],_::_=>rfl
 | _::_,[]=>rfl
 | a::r,b::s=>by
  have ih:=V3 r s;unfold ZQ;by_cases e:a=b
  ·rw[Æ e,Æ ÃU,ih]
  ·rw[Ç e,Ç λz=>e Ãs];by_cases l:a<b
   ·rw[Æ l,Ç Á];rfl
   ·rw[Ç l,Æ Á]
theorem TX(a b:Nat):decide ((⟨#[a]⟩:ak).cps.toList<(⟨#[b]⟩:ak).cps.toList)=decide (a<b):=by
 have e:([a]:À Nat)<[b]↔a<b:=by
  constructor
  ·intro h;cases h with
   | rel h=>exact h
   | Í h=>cases h
  ·exact λh=>List.Lex.rel h
 exact ÅM e
theorem JE:∀x:À Nat,ZQ x x=0
 | []=>rfl
 | a::r=>by unfold ZQ;rw[p1];exact JE r
theorem Ol:∀ (x y:À Nat),ZQ x y=0->x=y
 | [],[],_=>rfl
 | [],_::_,h=>by unfold ZQ at h;lia
 | _::_,[],h=>by unfold ZQ at h;lia
 | a::r,b::s,h=>by
  unfold ZQ at h;by_cases e:a=b
  ·rw[sC,e,h];rw[e,Ol r s h]
  ·rw[w8];split at h<;>lia
def Oj:Sp:=λvs H Q _=>X2 λx y:ak=>vs=[.str x,.str y]/\ċ<=1000/\ſ<=1000/\Q #[sj,ZQ] H
def Sg:Sp:=λvs H Q _=>X2 λx y:ak=>vs=#[za,ÀI]/\ċ<=1000/\ſ<=1000/\Q #[sj,ZQ] H
theorem ZpZ(T:Ù):Df P w K mg Â 1 "order_at" Êp Sg:=by
 rw[d4,T.t_order_at.df,Zls,r,hr];rw[f8,x,y,g,i];refine(_,#[Zf,#[ZN,(@Ź _ _ _ #[Xc,#[eo,YT,2,ÇQ],#[W4,#[gF,YT,2]]]),#[g7,Þ],ò],#[Zf,#[ZN,#[eo,YT,2,ÇQ],#[Zg,#[Zm,Îb]],ò],#[Zf,#[ZN,#[gF,YT,2],#[g7,Þ],ò],#[Zg,#[Zm,#[Z0,#[Zn,Rz,#[rA,Wd,0,2],#[rA,Wd,1,2],ă],Îb,Þ]]]]]],?_);obtain t|u|v|B:=JF ü đ;have ll:=TY ü đ;have lx:=JG x;have ly:=JG y;have inj:∀ {m n:Nat},ì (m:Int)=ì (n:Int)->m=n:=λ{m n} e=>by injection e with e;lia
 refine(_,rfl,_,rfl,x,rfl,Ĩ g,rfl,_,rfl,Y0 ų ų)
 ·have j:=inj (Ľ d);refine Ù0
  ·have l:=Ù1;rw[t Á Á]at q;exact q
  ·have l:Ù2:=λe=>c ÒZ;refine(_,rfl,_,rfl,x,rfl,Ĩ g,rfl,_,rfl,Y2 (by rw[j]) ?_);rw[u Á Á]at q;exact Çv
 ·have j:¬ lcp ü đ=ċ:=λe=>d ÒZ;refine Y7 (_,rfl,_,rfl,x,rfl,Ĩ g,rfl,_,rfl,YR (λe=>j (inj e)) ?_);refine Ù0
  ·have l:=Ù1;rw[v Á Á]at q;exact q
  ·have l:Ù2:=λe=>c ÒZ;obtain a|o|C:=TZ (z:=x) (k:=ÀI) Á Á;obtain b|p|D:=TZ (z:=y) (k:=ÀI) Á Á;rw[ÉJ]at o p;refine(_,rfl,_,rfl,x,_,a,rfl,rfl,Ĩ g,C,_,rfl,_,rfl,y,_,b,rfl,rfl,Ĩ i,D,_,_,rfl,rfl,_,rfl,?_);rw[TX];rw[B a b o p]at q;rw[f2,e]
   ·rw[Æ (Ľ e)]at q;exact Çv
   ·rw[Ç (λz=>e ÇW)]at q;exact q
theorem ZpJ(T:Ù)(d:ÒW)(e:Ò0):Df P w K mg Â 3 "liken" ÂW Oj:=by
 rw[d4,T.t_liken.df,Zpw,g,a];rw[f8,x,y,b,c];refine(_,#[Zg,#[Zm,#[ZA,e,a,#[Zd,‹0›,‹1›,#[rX,d,a,0,1]],É]]],?_);exact(_,rfl,_,rfl,_,rfl,_,rfl,x,y,rfl,b,c,x,y,rfl,b,c,q)
theorem JD{c A B:Prop}[Éz c](hc:¬ c)(h:A):if (!decide c)=true then A else B:=by rw[Æ (by rw[ē hc];rfl)];exact h
def Oi:Sp:=λvs H Q _=>X3 λ(x y:ak) (a:Nat)=>vs=#[za,a]/\ċ<=1000/\ſ<=1000/\a<=lcp ü đ /\
 ∀t,H t=af->Q ÁO (upd H t (.tup [.int (ZQ ü đ),.int ÀI,.int (ÀI-(a:Int)+1)]))
theorem Zib(T:Ù)(e:ÒO)(g:Ò0):Df P w K mg Â 2 "liken_from" ÄI Oi:=by
 rw[d4,T.t_liken_from.df,Kh,i,a];obtain x|y|b|rfl|c|d|j|q:=h;refine(_,#[Zf,#[Zx,3,Kh.nd,á,#[gb,e,a,0,1,2]],#[Zg,#[Zm,#[YG,#[Zd,#[gb,g,a,0,1,3],‹3›,#[ZR,Xb,#[sL,Vb,3,2],Þ]]]]]],_,rfl,_,rfl,_,rfl,x,y,b,rfl,c,d,j,_,rfl,_,rfl,_,rfl,x,y,rfl,c,d,_,rfl,_,rfl,_,rfl,_,_,rfl,rfl,_,_,rfl,rfl,υ,λt k=>?_);exact q t k
def WX(ss:Ñ)(v:V):Prop :=
 (v=.non/\∀i x y,ss[i+1]? = U x->ss[i]? = U y->0<=ZQ ü đ) \/
 ∃k:Nat,v=.int #[fI,k]/\k+1<ń/\(∀x y,ss[k+1]? = U x->ss[k]? = U y->ZQ ü đ<0)/\∀i,i<k->∀x y,ss[i+1]? = U x->ss[i]? = U y->0<=ZQ ü đ
theorem Oh{ss:Ñ}{v g:V}(h:WX ss v)(h':WX ss g):v=g:=by
 rcases h with⟨rfl,a⟩|⟨k,rfl,l,b,c⟩
 ·rcases h' with⟨rfl,_⟩|⟨k',rfl,d,f,_⟩
  ·rfl
  ·have:=a k' _ _ (Qb d) ÄQ;have:=f _ _ (Qb d) ÄQ;lia
 ·rcases h' with⟨rfl,a⟩|⟨k',rfl,d,f,i⟩
  ·have:=a k _ _ (Qb l) ÄQ;have:=b _ _ (Qb l) ÄQ;lia
  ·have e:k=k':=by
    rcases Nat.lt_trichotomy k k' with h|h|h
    ·have:=i k h _ _ (Qb l) ÄQ;have:=b _ _ (Qb l) ÄQ;lia
    ·exact h
    ·have:=c k' h _ _ (Qb d) ÄQ;have:=f _ _ (Qb d) ÄQ;lia
   rw[e]
def Sf(K:Ä):Sp:=λvs H Q _=>X2 λ(a:ae) (ss:À ak)=>vs=η/\SqL K H a Ád/\ń<=400/\ÊM/\∀ (v:V) (b:Hp),WX ss v->ZD H b->Q v b
theorem ZoQ(T:Ù)(t:Ù3):Df P w K mg Â 4 "first_break" ["keys"] (Sf K):=by
 rw[d4,T.t_first_break.df,Kg,u,B];rw[sR,a,b,n,hn,p];refine(_,#[Zf,#[XT,Ο,(@MC _ _ _ _ _ _ _ rfl Å2 #[Zd,Þ,ÇP] É É),#[rT,1,Kg.nd],#[Zg,#[ZN,#[Zn,WG,#[ZA,t,B,#[Zd,#[rA,ω,0,1],#[ZC,ω,‹0›,#[rJ,Vb,1]]],É],Þ,ă],#[fe,1],ò]]],ÇX],?_);have hl:#[ii,Âg,Å]=(Ĥ:Int):=by rw[Qa]
 refine(_,rfl,a,_,rfl,.inl n,_,_,rfl,(by lia,by lia,by lia,by lia),?_);refine UB (λi o k=>(∃v:Ã V,o=[U Ħ,v])/\ZD H k/\∀j,j<i->∀x y,b[j+1]? = U x->b[j]? = U y->0<=ZQ ü đ) ((af,rfl),ÉA H,λj h=>by lia) ?_ ?_
 ·rintro i o k hi ⟨⟨v,rfl⟩,g,m⟩;have l:i+1<Ĥ:=by lia
  have r:(1+(i:Int))=#[fI,i]:=by lia
  have C:(1+(i:Int)-1)=#[hS,i]:=by lia
  refine(_,rfl,_,rfl,a,_,_,_,rfl,rfl,g.seq n,#[fd,r,JH,l],_,rfl,_,rfl,_,_,rfl,rfl,a,_,_,_,rfl,rfl,g.seq n,#[fd,C,JH,Á],b[i+1],b[i],rfl,p _ (Q9 l),p _ (Q9 Á),_,_,rfl,rfl,_,rfl,?_);refine Y0 ų ų
  ·have D:ZQ (cds b[i+1]) (cds b[i])<0:=ÃG;refine(_,rfl,q _ k (.inr (i,by rw[r],l,λx y c e=>?_,m)) g);rw[p3];lia
  ·have D:¬ ZQ (cds b[i+1]) (cds b[i])<0:=Îc;refine((_,rfl),g,λj hj x y c e=>?_);by_cases F:j=i
   ·subst F;rw[p3];lia
   ·exact m j Á x y c e
 ·rintro o k ⟨⟨v,rfl⟩,g,m⟩;refine q _ k (.inl (rfl,λj x y c e=>?_)) g;have:=(Ł c).1;exact m j Á x y c e
def Se(K:Ä)(tup:Ð):Sp:=λvs H Q _=>X2 λ(a:ae) (ns:À Int)=>vs=η/\SqL K H a ξ/\Č<=200 /\
 ∀ (t f r:ae) (b:Hp),H t=af->H f=af->H r=af->f≠r->b t=U (if tup=true then .tup #[rI,f,r] else .lst #[rI,f,r])->b f=U (.lst ((XA ns).map ì))->b r=U (.lst ((Wx ns).map ì))->ZD H b->t≠f->t≠r->Q ÁO b
theorem Zrh{H:Hp}{f r t:ae}{A B T:HO}(h:H f=af)(hr:(upd H f A) r=af)(ht:Ò1 t=af) :
  H r=af/\H t=af/\f≠r/\t≠f/\t≠r/\Ò2 f=U A/\Ò2 r=U B/\ZD H Ò2:=by
 have a:f≠r:=Ze (H:=upd H f A) (o:=A) Zb hr;have b:Ò1 f=U A:=by rw[Zc a];exact Zb
 have c:f≠t:=Ze b ht;have d:r≠t:=Ze (H:=upd (upd H f A) r B) (o:=B) Zb ht;have e:ZD H (upd H f A):=Zi h _;have g:=e.trans (Zi hr B);have i:=g.trans (Zi ht T);exact(e.free hr,g.free ht,a,c.symm,d.symm,by rw[Zc c];exact b,by rw[Zc d];exact Zb,i)
theorem ZnF(T:Ù):Df P w K mg Â 1 "halves" ["numbers"] (Se K true):=by
 rw[d4,T.t_halves.df,Kf,j,hr];rw[f8,a,b,c,hn];refine(_,#[Zf,#[Zx,1,Kf.nd,á,#[ZR,RB,#[ZR,Xb,ÇP,Þ],Þ]],#[Zg,#[Zm,#[YG,#[Zd,#[Wo,(slL K),‹0›,(@VG _),(@VF _ _ _ ‹1›)],#[g2,0,1]]]]]],_,rfl,a,_,rfl,.inl c,_,_,rfl,rfl,_,_,rfl,rfl,Í1,?_);have k:mid b<=Ĥ\/b=[]:=by
  cases b with
  | nil=>exact Át
  | Í x r=>left;unfold mid;rw[QA];lia
 have g:mid b<=Ĥ:=by
  rcases k with h|h
  ·exact h
  ·subst h;decide
 have m:=ZsG b;simp only[m];refine(_,rfl,_,rfl,_,rfl,a,_,rfl,c,λl d=>?_);refine(_,rfl,_,rfl,_,rfl,a,_,rfl,(Zi d _).seq c,λr i=>(Á1,λt e=>?_));rw[ZtF b _ g]at i e ⊢;rw[Zqd b _ g]at e ⊢;obtain n|o|p|u|v|y|z|B:=Zrh (T:=.tup #[rI,l,r]) d i e;exact q t l r _ o d n p Zb y z B u v
theorem V2(f:ak)(v:V):∀fs:À (ak×V),#[uk].length<=ÃR+1
 | []=>Qg _
 | p::r=>by
  unfold Zv;split
  ·exact QV _
  ·exact ÒI (V2 f v r)
def YV(k f:ae)(g:Int):À Á3:=Zv "gone" (.int g) (Zv "fars" č Ù4)
theorem nGF:¬ #[hx,"fars","gone"]:=by ac_rfl
theorem nGK:¬ #[hx,"all_keys","gone"]:=by ac_rfl
theorem nFK:¬ #[hx,"all_keys","fars"]:=by ac_rfl
theorem Vo(k f:ae)(g:Int):(Îd).lookup ("all_keys" : ak)=U (.ref k):=by unfold YV;rw[Zq,Ç nGK,Zq,Ç nFK,Zq,Æ rfl]
theorem TW(k f:ae)(g:Int):(Îd).lookup ("gone" : ak)=U (.int g):=by unfold YV;rw[Zq,Æ rfl]
theorem TV(k f:ae)(g:Int){m:ak}(h1:¬ m = "gone")(h2:¬ m = "fars")(a:¬ m = "all_keys"):(Îd).lookup m=af:=by unfold YV;rw[Zq,Ç h1,Zq,Ç h2,Zq,Ç a];rfl
structure Vn (C:ae) (H:Hp) (p k f:ae) (ss:Ñ) (g:Nat):Prop where
 ob:∃dx,H p=U (.ins C dx Îd)
 ks:H k=U ÃF
 fs:H f=U ÙX
def TU(C:ae):Sp:=λvs H Q _=>X5 λ(p k f:ae) (ss:À ak) (g:Nat)=>vs=Θ/\Vn C H p k f ss g/\Q (.int (ÒH-(g:Int))) H
theorem ZrW(T:Ù):Mf P w K mg Â 1 aw "to_go" ĉ (TU aw):=by
 rw[d4,T.t_Row_to_go.mf,Zjy,c,hr];obtain p|k|f|d|g|rfl|R|q:=h;refine(_,#[Zg,#[Zm,#[ZR,Vb,#[Zp,(Yj K),É,ÁP,Qy,#[Zd,ġ]],ġ]]],?_);obtain (a|b)|e|hf:=R;refine(_,rfl,p,aw,a,_,_,rfl,b,ņ,ÄR,Vo _ _ _,k,_,rfl,.inl (Ï e),_,rfl,p,aw,a,_,_,rfl,b,ņ,ÇY,TW _ _ _,_,_,rfl,rfl,?_);rw[Qa];exact q
def WW(ss:Ñ)(g:Nat):V:=match ss[g]? with
 | some z=>.str z
 | none=>.non
def Vm(C:ae):Sp:=λvs H Q _=>X5 λ(p k f:ae) (ss:À ak) (g:Nat)=>vs=Θ/\Vn C H p k f ss g/\Q (WW ss g) H
theorem Zru(T:Ù)(i:Îe):Mf P w K mg Â 2 aw "head" ĉ (Vm aw):=by
 rw[d4,T.t_Row_head.mf,Zk9,j,l];obtain p|k|f|a|g|rfl|R|q:=h;refine(_,#[Zg,#[Zm,#[Z0,#[Zn,WF,#[sW,i,l,0],Þ,ă],#[ZC,ω,ġ,ġ],ř]]],?_);obtain (b|c)|m|hf:=id R;refine(_,rfl,p,b,_,rfl,c,TV _ _ _ û û û,p,k,f,a,g,rfl,R,_,_,rfl,rfl,_,rfl,?_);refine Y0 ų ų
 ·have n:(0:Int)<ÂI-(g:Int):=ÃG;have e:g<ļ:=by lia
  refine(_,rfl,p,aw,b,_,_,rfl,c,ņ,ÄR,Vo _ _ _,_,rfl,p,aw,b,_,_,rfl,c,ņ,ÇY,TW _ _ _,k,_,_,_,rfl,rfl,Ï m,XZ #[iu,e],?_);unfold WW at q;rw[Qb e]at q;exact q
 ·have n:¬ (0:Int)<ÂI-(g:Int):=Îc;unfold WW at q;rw[QW Á]at q;exact q
def Og(C:ae):Sp:=λvs H Q _=>X4 λ(p dx a:ae) (ss:À ak)=>vs=#[rI,p,a]/\H p=U (.ins C dx [])/\H a=U ÃF/\ń<=200/\ÊM /\
 ∀ (k f:ae) (c:Hp),H k=af->H f=af->k≠f->Vn C c p k f ss 0->#[ew,o,p,c]->Q .non c
theorem Zmq(T:Ù)(B:Ò3):Cf P w K mg Â 4 aw "Row" ÂX (Og aw):=by
 rw[d4,T.t_Row_init.cf,ZkK,C,D];obtain p|c|a|d|rfl|m|i|F|G|q:=h;refine(_,#[Zf,#[X0,‹0›,#[W9,(Zvx K),ÊI,ÊJ,Áj]],#[Zf,#[X0,‹0›,#[sm,B,D]],#[Zg,Ò4]]],_,rfl,a,_,rfl,.inl (Ï i),λk j=>?_);have l:p≠k:=Ze m j;have I:a≠p:=λe=>by rw[e,m]at i;cases i
 have r:a≠k:=Ze i j;refine(_,rfl,p,aw,c,[],rfl,#[hP,l,m],ņ,ÄR,#[hB,0,1000],?_);have J:Îf a=U Í6:=by rw[Zc I,Zc r];exact i
 have t:Îf p=U (.ins aw c Ù4):=Zb;have x:Îf k=U Í6:=by rw[Zc l.symm];exact Zb
 have y:#[e5,o,H,p,Îf]:=λb o h n=>by rw[Zc n,Zc (Ze h j)];exact h
 refine(_,rfl,a,d,rfl,Ï J,F,G,λf H3 g L v=>?_);have M:H f=af:=by
  cases N:H f with
  | none=>rfl
  | some u =>
   by_cases e:f=p
   ·rw[eN,e,t,g]
   ·rw[y f u N e]at g;cases g
 have O:k≠f:=Ze x g;have z:p≠f:=Ze t g;refine(_,rfl,p,aw,c,_,rfl,v _ _ t,ņ,Ò5,#[hB,1,1000],_,rfl,p,aw,c,_,rfl,Zb,ņ,ÇY,?_,?_)
 ·have h1:=V2 "all_keys" (ú k) [];have h2:=V2 "fars" (ú f) (Zv "all_keys" (ú k) []);have h3:Ù5:=rfl;lia
 ·refine q k f _ j M O ((c,Zb),?_,?_) λb o h n=>?_
  ·rw[Zc l.symm,Zc l.symm];exact v _ _ x
  ·rw[Zc Ãs,Zc Ãs];exact L
  ·rw[Zc n,Zc n];exact v _ _ (y b o h n)
theorem V1{K:Ä}{a:ae}{xs:Ĕ}{k:Nat}{D:ae}{b:ÅR}{d:Hp}{g:TG}{f:TE}{Q:VK}(Pv:Ío)(h0:Pv 0 [] #[sO,b,k] #[e8,d,D])
  (hl:∀i ys b H,Pv i ys b H->SqL K H a xs)
  (n:∀i x ys b H,xs[i]? = U x->Pv i ys b H->g x b H λh o=>f h o λy j=>j D=U ÂE/\Ĭ<aq/\Pv (i+1) (ys++[y]) h #[g0,j])
  (hd:∀ys b H,Pv ã ys b H->Q Ι H):VC ÏU D k b d g VD f Q:=by
 refine(λi m ys b H=>m=ã-i/\i<=ã/\Pv i ys b H,(ã,by simp,Qs _,h0),?_);rintro i m ys b H ⟨rfl,hi,p⟩;have c:=hl i ys b H p;by_cases l:i<ã
 ·refine .inr ((xs,xs[i],c,Qb l),Pv (i+1),λjD aS q r=>(ã-(i+1),by lia,rfl,l,r),λx q y=>?_);obtain rfl|e:=y;rw[qI];exact n i x ys b _ (e xs c) p
 ·have e:ËQ:=by lia
  exact .inl ((xs,c,by lia),hd ys b H (e ▸ p))
theorem Of:∀x y:À Nat,x<y↔ZQ x y<0
 | [],[]=>by unfold ZQ;exact(λh=>È h Ö,λh=>È h Á)
 | [],_::_=>by unfold ZQ;exact(λ_=>by lia,λ_=>List.nil_lt_cons _ _)
 | _::_,[]=>by unfold ZQ;exact(λh=>È h (List.not_lt_nil _),λh=>È h Á)
 | a::r,b::s=>by
  have ih:=Of r s;unfold ZQ;rw[Ù6];by_cases e:a=b
  ·rw[Æ e,<- ih];exact(λh=>Àq (λz=>by lia) (λz=>z.2),λh=>.inr (e,h))
  ·rw[zf,e];by_cases l:a<b
   ·rw[Æ l];exact(λ_=>by lia,λ_=>.inl l)
   ·rw[zf,l];exact(λh=>Àq (λz=>È z l) (λz=>È z.1 e),λh=>È h Á)
theorem JC{H:Hp}{D:ae}{ys:Ĕ}(h:H D=U ÂE)(o:HO):∀a xs,H a=U Γ->(upd H D o) a=U Γ:=λa xs e=>by
 have b:a≠D:=by intro z;rw[ss,h,e]
 rw[Zc b];exact e
abbrev Hd:=Int->Ã (À Nat)
def Btr(x:Ş)(a:Int)(y:Ş)(b:Int):Prop:=ZQ x y<0\/Ò6
def Win(hd:Hd)(N:Ø):Ã Int->Prop
 | none=>∀n∈N,hd n=af
 | some a=>a∈N/\∃x,hd a=U x/\∀b∈N,∀y,hd b=U y->b=a\/Btr x a y b
theorem Btr.asym{x y:Ş}{a b:Int}(h:Btr x a y b)(g:Btr y b x a):ĕ:=by have e:=V3 x y;rcases h with h|⟨h,h2⟩<;>rcases g with g|⟨g,g2⟩<;>lia
theorem ÇZ{x y:Ş}{a b:Int}(h:a≠b):Btr x a y b\/Btr y b x a:=by have e:=V3 x y;unfold Btr;lia
theorem Btr.trans{x y z:Ş}{a b c:Int}(h:Btr x a y b)(g:Btr y b z c):Btr x a z c:=by
 have t1:=Sh x y z;have t2:=Sh z x y;have t3:=Sh y z x;have e1:=V3 x y;have e2:=V3 y z;have e3:=V3 x z;unfold Btr at *
 lia
theorem Win.one{hd:Hd}{N:Ø}{v w:ż}(h:Win hd N v)(g:Win hd N w):v=w:=by
 cases v with
 | none =>
  cases w with
  | none=>rfl
  | some b=>obtain d|y|c|_:=g;rw[h b d]at c;cases c
 | some a =>
  obtain i|x|f|j:=h;cases w with
  | none=>rw[g a i]at f;cases f
  | some b =>
   obtain d|y|c|k:=g;rcases j b d y c with e|e
   ·rw[e]
   ·rcases k a i x f with e'|e'
    ·rw[e']
    ·exact(e.asym e').elim
theorem Win.nil(hd:Hd):Win hd [] af:=λn h=>by cases h
theorem Îg{hd:Hd}{n:Int}:Win hd [n] Ù7:=by
 cases h:hd n with
 | none=>intro m a;rw[å a];exact h
 | some x=>exact(by simp,x,h,λb c y hy=>.inl (å c))
theorem Ç0{hd:Hd}{A B:Ø}{a b:Int}{x y:Ş}(ha:Win hd A (U a))(hb:Win hd B (U b))(hx:hd a=U x)(hy:hd b=U y)(h:Btr x a y b):Win hd (A++B) (U a):=by
 obtain i|x'|f|j:=ha;obtain b1|y'|g|k:=hb;rw[rS,hx,f];rw[rS,hy,g];refine(QU _ i,x,hx,λc hc z d=>?_);rcases í hc with hc|hc
 ·exact j c hc z d
 ·rcases k c hc z d with e|e
  ·subst e;rw[rS,hy,d];exact .inr h
  ·exact .inr (h.trans e)
theorem ÊO{hd:Hd}{A B:Ø}{a b:Int}{x y:Ş}(ha:Win hd A (U a))(hb:Win hd B (U b))(hx:hd a=U x)(hy:hd b=U y)(h:Btr y b x a):Win hd (A++B) (U b):=by have:=Ç0 hb ha hy hx h;obtain d|z|e|f:=this;exact(by rcases í d with h|h<;>simp[h],z,e,λc g=>f c (by rcases í g with h|h<;>simp[h]))
theorem Îh{hd:Hd}{A B:Ø}{w:ż}(ha:Win hd A w)(hb:Win hd B af):Win hd (A++B) w:=by
 cases w with
 | none=>intro n d;rcases í d with h|h;exact ha n h;exact hb n h
 | some a =>
  obtain e|x|f|g:=ha;refine(QU _ e,x,f,λc hc z b=>?_);rcases í hc with hc|hc
  ·exact g c hc z b
  ·rw[hb c hc]at b;cases b
theorem Îi{hd:Hd}{A B:Ø}{w:ż}(ha:Win hd A af)(hb:Win hd B w):Win hd (A++B) w:=by
 cases w with
 | none=>intro n d;rcases í d with h|h;exact ha n h;exact hb n h
 | some a =>
  obtain e|x|f|g:=hb;refine(QF _ e,x,f,λc hc z b=>?_);rcases í hc with hc|hc
  ·rw[ha c hc]at b;cases b
  ·exact g c hc z b
theorem Win.ex(hd:Hd):∀N:À Int,ËG->∃w,Win hd N w
 | [],_=>(af,Win.nil hd)
 | n::N,d=>by
  obtain f|g:=QS.mp d;obtain w|hw:=Win.ex hd N g;have a:Win hd [n] Ù7:=Îg;cases h:hd n with
  | none=>rw[h]at a;exact(w,Îi (A:=[n]) a hw)
  | some x =>
   rw[h]at a;cases w with
   | none=>exact(U n,Îh (A:=[n]) a hw)
   | some b =>
    obtain i|y|c|b2:=id hw;have j:n≠b:=λe=>f (e ▸ i);rcases ÇZ (x:=x) (y:=y) j with e|e
    ·exact(U n,Ç0 (A:=[n]) a hw h c e)
    ·exact(U b,ÊO (A:=[n]) a hw h c e)
theorem ÊP{hd c:Hd}{N:Ø}(h:∀n∈N,c n=hd n){w:ż}(hw:Win hd N w):Win c N w:=by
 cases w with
 | none=>intro n d;rw[h n d];exact hw n d
 | some a=>obtain e|x|g|i:=hw;exact(e,x,by rw[h a e];exact g,λb f y j=>i b f y #[s4,h,b,f,j])
def lo(N:Ø):À Int:=N.take (mid N)
def up(N:Ø):À Int:=N.drop (mid N)
theorem Xs(N:Ø):lo N++up N=N:=Ù8 _ _
theorem V0{N:Ø}(h:Å6):(lo N).length<ğ/\1<=(lo N).length:=by unfold lo mid;rw[Qw];lia
theorem Vl{N:Ø}(h:Å6):(up N).length<ğ/\1<=(up N).length:=by unfold up mid;rw[QZ];lia
def ZV(N:Ø):Int×Int:=(Ç1 0,Ç2 0,)
abbrev StL:=À ((Int×Int)×Ã Ò7)
def stV:Ã Ò7->V
 | none=>.non
 | some t=>.ref t.1
def kvS(s:StL):À (À Key×V):=s.map λe=>([.inl e.1.1,.inl e.1.2],stV e.2,)
def AtS(H:Hp)(s:StL):Prop:=∀e∈s,∀t,e.2=U t->H t.1=U #[hX,t.2.1,t.2.2]
def Z1(s:StL)(k:ō):Ã (Ã Ò7):=(s.find? λe=>decide (e.1=k)).map Ę
def Yf(s:StL)(k:ō)(v:ÃH):StL:=if s.any Îj then s.map Ù9 else s++[(k,v,)]
theorem AtS.mono{H b:Hp}{s:StL}(h:AtS H s)(k:∀a xs,H a=U Γ->b a=U Γ):AtS b s:=λe he t ht=>k _ _ (h e he t ht)
theorem Oe{a b:ō}(h:([.inl a.1,.inl a.2]:À Key)=[.inl b.1,.inl b.2]):a=b:=by obtain a1|a2:=a;obtain b1|b2:=b;injection h with f c;injection c with c _;have d:=ÃQ f;have e:=ÃQ c;simp only at d e;rw[d,e]
theorem JB(k:ō):∀s:StL,Y5 (kvS s) Ò8=(Z1 s k).map stV
 | []=>rfl
 | e::s=>by
  have ih:=JB k s;by_cases h:e.1=k
  ·unfold kvS Z1;rw[Qj,Us ÊQ];simp[Ât,h]
  ·unfold kvS at ih ⊢;rw[Qj,Ur Ò9,ih];unfold Z1;simp[Ât,h]
theorem ZsE(k:ō)(s:StL):((kvS s).any λa=>decide (a.1=(Ò8:À Key)))=s.any λe=>decide (e.1=k):=by
 unfold kvS;rw[List.any_map];congr 1;funext e;rw[73];by_cases h:e.1=k
 ·rw[Ĉ h,Ĉ ÊQ]
 ·rw[ē h,ē Ò9]
theorem Sd(s:StL)(k:ō)(v:ÃH):YX (kvS s) Ò8 (stV v)=kvS ÊR:=by
 unfold YX Yf;rw[ZsE];split
 ·unfold kvS;rw[Qo,Qo];congr 1;funext e;rw[73];by_cases h:e.1=k
  ·rw[Æ h,Æ ÊQ]
  ·rw[Ç h,Ç Ò9]
 ·unfold kvS;rw[Qf];rfl
theorem Zo7(s:StL)(k:ō)(v:ÃH):(ÊR).length<=ŧ+1:=by
 unfold Yf;split
 ·rw[Qa];lia
 ·rw[Qi];exact Qg _
theorem Ww(s:StL)(k j:ō)(v:ÃH):Z1 ÊR j=if j=k then U v else Z1 s j:=by
 unfold Yf;split
 ·rename_i h;induction s with
  | nil=>simp at h
  | Í e s f =>
   unfold Z1 at f ⊢;by_cases b:e.1=k
   ·by_cases a:j=k
    ·subst a;simp[Ât,b]
    ·have c:¬ k=j:=λz=>a Ãs;rw[Qj,Æ b,QaI (by simp[b,c]),QaI (by simp[b,c]),Ç a];by_cases d:s.any Îj=true
     ·have:=f d;rw[Ç a]at this;exact this
     ·have:s.map Ù9=s:=by
       rw[List.map_eq_iff];intro i;cases l:s[i]? with
       | none=>rfl
       | some x=>have g:¬ x.1=k:=λz=>d (Ç3 (x,Qr l,by simpa using z));simp[g]
      rw[this]
   ·have d:s.any Îj=true:=by simpa [b] using h
    rw[Qj,Ç b];by_cases a:e.1=j
    ·have:¬ j=k:=λz=>b (a.trans z);rw[Úa #[d8,a],Úa #[d8,a],Ç this]
    ·rw[QaI #[d8,a],QaI #[d8,a]];exact f d
 ·rename_i h;unfold Z1;rw[List.find?_append];by_cases a:j=k
  ·subst a;have:s.find? (λe=>decide (e.1=j))=af:=by rw[List.find?_eq_none];intro x g z;exact h (Ç3 (x,g,z))
   rw[this];simp
  ·have c:¬ k=j:=λz=>a Ãs;rw[zf,a];simp[c]
theorem AtS.put{H:Hp}{s:StL}{k:ō}{v:ÃH}(h:AtS H s)(b:Úb):AtS H ÊR:=by
 unfold Yf;split
 ·intro e he t a;rw[ed,x,c,he];split at a
  ·exact b t a
  ·exact h x c t a
 ·intro e he t a;rcases í he with he|he
  ·exact h e he t a
  ·rw[å he]at a;exact b t a
theorem JA{s:StL}{k:ō}{v:ÃH}(h:Z1 s k=U v):(k,v,)∈s:=by
 unfold Z1 at h;obtain e|a|rfl:=Qbc.mp h;have b:=Ín;have:e.1=k:=by simpa using b
 rw[<- this];exact Qau a
def ZwR(hd:Hd)(s:StL)(N:Ø):Prop :=
 (∀a b x y,Win hd (lo N) (U a)->Win hd (up N) (U b)->hd a=U x->hd b=U y->∃t,Z1 s (ZV N)=U (U (t,if ZQ x y<0\/Ò6 then b else a,#[gB,x,y],))) /\
 ((Win hd (lo N) af\/Win hd (up N) af)->Z1 s (ZV N)=af\/Z1 s (ZV N)=U af)
def XV(hd:Hd)(s:StL):Nat->À Int->Prop
 | 0,_=>Àx
 | n+1,N=>2<=ğ->XV hd s n (lo N)/\XV hd s n (up N)/\ZwR hd s N
def Xk:Nat->À Int->Int×Int->Prop
 | 0,_,_=>ĕ
 | n+1,N,k=>2<=ğ/\(Xk n (lo N) k\/Xk n (up N) k\/k=ZV N)
abbrev Yq(N:Ø):Prop:=N.Pairwise (·<·)
theorem Sc{N:Ø}(h:Yq N):Yq (lo N):=h.sublist Õw
theorem Sb{N:Ø}(h:Yq N):Yq (up N):=h.sublist (List.drop_sublist _ _)
theorem Sa{N:Ø}(h:Yq N):ËG:=h.imp λ{a b} eQ e=>by lia
theorem ZP{N:Ø}(h:Yq N){a b:Int}(ha:a∈lo N)(hb:b∈up N):a<b:=by
 have:Yq (lo N++up N):=by rw[Xs];exact h
 exact(List.pairwise_append.mp this).2.2 a ha b hb
theorem UO{N:Ø}(h:N≠[]):Ç1 0∈N:=by
 cases N with
 | nil=>exact È rfl h
 | Í a r=>simp
theorem UN{N:Ø}(h:N≠[]):Ç2 0∈N:=by rw[Qav,Qa4 h];exact List.getLast_mem h
theorem Xr{N:Ø}(h:1<=ğ):N≠[]:=λz=>by rw[z]at h;simp at h
theorem Oc{N:Ø}(h:Å6):(ZV N).2=(up N).getLastD 0:=by
 have a:=Xr (Vl h).2;show Ç2 0=_;rw[Qav,Qav]
 conv=>lhs;rw[<- Xs N]
 rw[List.getLast?_append,Qa4 a];rfl
theorem Ob{N:Ø}(h:Å6):(ZV N).1=(lo N).headD 0:=by
 have b:=Xr (V0 h).2;show Ç1 0=_
 conv=>lhs;rw[<- Xs N]
 cases c:lo N with
 | nil=>exact È c b
 | Í a r=>rfl
theorem UM:∀ (n:Nat) (N:À Int) (k:Int×Int),Xk n N k->k.1∈N/\k.2∈N
 | 0,_,_,h=>Àq
 | n+1,N,k,⟨h2,h⟩=>by
  rcases h with h|h|rfl
  ·have:=UM n _ k h;rw[<- Xs N];exact(QU _ this.1,QU _ this.2)
  ·have:=UM n _ k h;rw[<- Xs N];exact(QF _ this.1,QF _ this.2)
  ·have a:N≠[]:=Xr Á;exact(UO a,UN a)
theorem Oa{N:Ø}(hr:Yq N)(h2:Å6){n:Nat}{k:ō}(h:Xk n (lo N) k):k≠ZV N/\∀m,¬ Xk m (up N) k:=by
 rw[o7]
 ·rw[zd,b,Oc];have:=ZP hr this.2 (UN (Xr (Vl h2).2));lia
 ·have:=ZP hr this.1 (UM m _ k a).1;lia
theorem N9{N:Ø}(hr:Yq N)(h2:Å6){n:Nat}{k:ō}(h:Xk n (up N) k):k≠ZV N/\∀m,¬ Xk m (lo N) k:=by
 rw[o7]
 ·rw[zd,b,Ob];have:=ZP hr (UO (Xr (V0 h2).2)) this.1;lia
 ·have:=ZP hr (UM m _ k a).1 this.1;lia
theorem XV.congr{hd d:Hd}{s s':StL}:∀ (n:Nat) (N:À Int),(∀m∈N,d m=hd m)->(∀k,Xk n N k->Z1 s' k=Z1 s k)->XV hd s n N->XV d s' n N
 | 0,_,_,_,_=>ŭ
 | n+1,N,j,hk,h=>λh2=>by
  obtain a|b|q|r:=h h2;have f:∀m∈lo N,d m=hd m:=λm c=>j m (by rw[<- Xs N];exact QU _ c);have g:∀m∈up N,d m=hd m:=λm c=>j m (by rw[<- Xs N];exact QF _ c);have l:∀m∈lo N,hd m=d m:=λm c=>(f m c).symm;have e:∀m∈up N,hd m=d m:=λm c=>(g m c).symm;refine(XV.congr n _ f (λk i=>hk k (h2,.inl i)) a,XV.congr n _ g (λk i=>hk k (h2,.inr Åa)) b,λa b x y o p t u=>?_,λhw=>?_)
  ·rw[hk _ (h2,.inr Ãp)];exact q a b x y (ÊP l o) (ÊP e p) #[s4,f,a,o.1,t] #[s4,g,b,p.1,u]
  ·rw[hk _ (h2,.inr Ãp)];refine r ?_;rcases hw with hw|hw
   ·exact .inl (ÊP l hw)
   ·exact .inr (ÊP e hw)
inductive YD (hd:Hd):Nat->À Int->Int->Int->Prop
 | few {n:Nat} {N:À Int}:ğ<2->YD hd n N 0 0
 | none {n:Nat} {N:À Int} {k l k' l':Int}:2<=ğ->YD hd n (lo N) k l->YD hd n (up N) k' l'->(Win hd (lo N) af\/Win hd (up N) af)->YD hd (n+1) N (k+k') (l+l')
 | both {n:Nat} {N:À Int} {k l k' l':Int} {a b:Int} {x y:À Nat}:2<=ğ->YD hd n (lo N) k l->YD hd n (up N) k' l'->Win hd (lo N) (U a)->Win hd (up N) (U b)->hd a=U x->hd b=U y->YD hd (n+1) N (k+k'+1) (l+l'+(lcp x y:Nat)+1)
theorem ÊS{hd:Hd}:∀ {n m:Nat} {N:À Int} {k l k' j:Int},YD hd n N k l->YD hd m N k' j->k=k'/\l=j
 | _,_,_,_,_,_,_,.few h,p=>by
  cases p with
  | few _=>exact ĳ
  | none h2 _ _ _=>lia
  | both h2 _ _ _ _ _ _=>lia
 | _,_,_,_,_,_,_,.none h2 a b hw,p=>by
  cases p with
  | few h=>lia
  | none _ c d _=>obtain t|u:=ÊS a c;obtain v|w:=ÊS b d;exact Ãv
  | both _ c d e f o q =>
   rcases hw with hw|hw
   ·exact nomatch hw.one e
   ·exact nomatch hw.one f
 | _,_,_,_,_,_,_,.both h2 a b e f o q,p=>by
  cases p with
  | few h=>lia
  | none _ c d hw =>
   rcases hw with hw|hw
   ·exact nomatch hw.one e
   ·exact nomatch hw.one f
  | both _ c d g i r s=>obtain t|u:=ÊS a c;obtain v|w:=ÊS b d;have x:=Qv (e.one g);have y:=Qv (f.one i);subst x y;rw[fQ,o,r,r];rw[fQ,q,s,s];exact Ãv
def kk(e:ak×Int):À Key:=[.inr e.1,.inl e.2]
def oV:Ã ak->V
 | none=>.non
 | some s=>.str s
def Yy:Ã Int->V
 | none=>.non
 | some a=>.int a
def kvH(E:ÊT):À ÁH:=E.map λe=>(.inl e.1,oV e.2,)
def lk(E:ÊT)(n:Int):Ã ak:=(E.find? λe=>decide (e.1=n)).bind Ę
theorem ZrU{x y:ak}(h:cds x=cds y):x=y:=by obtain⟨⟨a⟩⟩:=x;obtain⟨⟨b⟩⟩:=y;have:a=b:=h;rw[this]
def VZ:Key->aE
 | .inl i=>.int i
 | .inr s=>.str s
def tD(k:ς):aE:=.tuple (k.map VZ)
theorem N8{K:Ä}{H:Hp}:∀ks:À Key,DVs K H ÅL (ť VZ)
 | []=>.nil
 | .inl i::r=>.cons Åj (N8 r)
 | .inr s::r=>.cons (.str s) (N8 r)
theorem R9{K:Ä}{H:Hp}:∀a:Xv,AtT H a->DVs K H (YN a) (Ń λt=>tD t.2)
 | [],_=>.nil
 | t::r,h=>.cons (.tup (ö (h t Ö)) (N8 t.2)) (R9 r λx hx=>h x (Ql _ hx))
structure Hds (H:Hp) (D:ae) (E:ÊT):Prop where
 at':H D=U (.dK (kvH E))
 nd:(E.map õ).Nodup
 ok:∀e∈E,∀s,e.2=U s->ŧ<=1000/\AZ s
theorem Ztp(N:Ø):XA N=lo N:=rfl
theorem ZtU(N:Ø):Wx N=up N:=rfl
abbrev Yd:=Int×ae×À ak×Nat
def kvR(L:À Yd):À ÁH:=ŵ λe=>(.inl e.1,.ref e.2.1,)
def kvG(L:À Yd):À ÁH:=ŵ λe=>(.inl e.1,.int (e.2.2.2:Int),)
def Zwt(ra ga:ae)(nb li lo:Int):À ÁH:=[(.inr "rows",.ref ra,),(.inr "gone",.ref ga,),(.inr "number",.int nb,),(.inr "likenings",.int li,),(.inr "looks",.int lo,)]
structure Own (H:Hp) (o ra ga:ae) (L:À Yd) (nb li lo:Int):Prop where
 at':H o=U (.dK (Zwt ra ga nb li lo))
 Ρ:H ra=U (.dK (kvR L))
 gone:H ga=U (.dK (kvG L))
 nd:(Óa).Nodup
 few:Àv<=60
 lst:∀e∈L,H e.2.1=U #[ef,e.2.2.1.map]/\e.2.2.1.length<=200/\e.2.2.2<=e.2.2.1.length/\∀s∈e.2.2.1,ŧ<=1000/\AZ s
theorem Jz{ns:Ø}(h:ns.Nodup):(Åy (Âu:Int->Key)).Nodup:=Qbd _ (λa b c z=>c Îk) h
theorem Ģ{H:Hp}{a:ae}{kvs:Œ}{k:Key}{r:Ã V}(e:É5)(h:Y5 kvs k=r):Z9 H a (kV k) r:=by rw[<- h];exact Z9.k e
structure HdOf (L:À Yd) (E:ÊT):Prop where
 per:(E.map õ).Perm Óa
 up:(E.map õ).Pairwise (·<·)
 hd:∀e∈L,(e.1,e.2.2.1[e.2.2.2]?,)∈E
def hdL(L:À Yd):Hd:=λn=>((L.find? λe=>decide (e.1=n)).bind λe=>e.2.2.1[e.2.2.2]?).map cds
theorem N7:∀ {L:À Yd},(Óa).Nodup->∀ {e:Yd},e∈L->hdL L e.1=(e.2.2.1[e.2.2.2]?).map cds
 | [],_,_,h=>by cases h
 | x::r,nd,e,h=>by
  rw[Qj,QS]at nd;unfold hdL;rw[Qaw];rcases ĩ h with rfl|h
  ·rw[Ĉ rfl];rfl
  ·rw[ē (λz:x.1=e.1=>nd.1 (by rw[z];exact Qd (f:=λx:Yd=>x.1) h))];exact N7 nd.2 h
theorem Win.perm{hd:Hd}{N M:Ø}{v:ż}(h:Win hd N v)(p:N.Perm M):Win hd M v:=by
 cases v with
 | none=>exact λn d=>h n (p.mem_iff.mpr d)
 | some a=>obtain e|x|f|g:=h;exact(p.mem_iff.mp e,x,f,λb c=>g b (p.mem_iff.mpr c))
def Zvz(L:À Yd)(H:Hp)(x:V):Prop:=(x=.non/\Win (hdL L) Óa af)\/X3 λ(t:ae) (e:Yd) (z:ak)=>x=.ref t/\e∈L/\e.2.2.1[e.2.2.2]? = U z/\H t=U #[fy,e.1,e.2.2.2,z]/\Win (hdL L) Óa (U e.1)
def Wv(L:À Yd):À Int:=ŵ λe=>(e.2.2.1.length:Int)-(e.2.2.2:Int)
structure ZtZ (H:Hp) (r:ae) (rs:À (ae×À ak)):Prop where
 at':H r=U #[hQ,rs.map,x,x.1]
 few:rs.length<=60
 lst:∀x∈rs,H x.1=U #[ef,x.2.map]/\x.2.length<=200/\∀s∈x.2,ŧ<=1000/\AZ s
theorem ZpM(n:Nat):(Wn 0 n).Pairwise (·<·):=by unfold Wn;exact Qbd _ (λa b h=>by lia) (List.pairwise_lt_range)
def N6:Sp:=λvs H Q _=>X5 λ(p l:ae) (c a:Int) (ss:À ak)=>vs=[.ref p,.ref l,.int a]/\Y9 H p c/\c<2 ^ 40/\0<=a/\a<=60/\H l=U ÃF/\1<=ń/\ń<=4/\ÊC /\
 ∀ (r:ae) (b:À ak) (e:Int) (d:Hp),H r=af->d r=U #[ef,Âg]->(Ĥ:Int)<=a->ĝ b=true->#[fc,b,28]->Y9 d p e->c<=e->e<=c+600->But p H d->Q Ái d
theorem ZrF(T:Ù)(n:Ób):Df P w K mg Â 5 "_law_row" ÃE N6:=by
 rw[d4,T.t_l_row.df,ZpP,o,t];obtain p|l|c|d|g|rfl|i|u|v|y|B|C|D|F|q:=h;refine(_,#[Zg,#[Zm,#[Zp,(ZwE K),É,T.b.n_sorted,boot_sorted,#[Zd,#[gb,n,t,0,1,2]]]]],_,rfl,_,rfl,_,rfl,p,l,c,d,g,rfl,i,u,v,y,B,C,D,F,λr G I H1 dA J L M j N O k=>?_);refine(r,G,rfl,Ï J,by lia,λb R a m S=>?_);rw[ep,ob,xI,i.here];have V:H b=af:=by
  cases e:H b with
  | none=>rfl
  | some x =>
   by_cases z:b=p
   ·rw[ep,o1,W,j.here];rw[ss,W,a]
   ·have:=k b x e z;rw[y3,a]
 exact q b R I _ V Zb #[ea,m.length_eq,L] S (λs X=>M s (m.mem_iff.mp X)) (j.new a) N O (k.trans #[sP,a])
def TR(K:Ä):Sp:=λvs H Q _=>X3 λ(n:Int) (a:ae) (ss:À ak)=>vs=[.int n,.ref a]/\SqL K H a Ád/\ń<=400/\ÊM/\WX ss .non/\∀b,ZD H b->Q .non b
theorem ZoJ(T:Ù)(c:Óc):Df P w K mg Â 5 "refuse_break" Êr (TR K):=by
 rw[d4,T.t_refuse_break.df,Sv,d,g];obtain n|a|b|rfl|i|j|k|l|q:=h;refine(_,#[Zf,#[Zx,2,Sv.nd,á,#[sm,c,g]],#[Zg,#[ZN,#[eo,Tj,2,ř],Îl,ò]]],_,rfl,a,b,rfl,i,j,k,λv m o p=>?_);have e:=Oh o l;subst e;exact(_,rfl,rfl,_,rfl,Y7 (q m p))
structure Zz where
 n:Int
 p:ae
 k:ae
 f:ae
 ss:À ak
 g:Nat
def toL(e:Zz):Yd:=(e.n,e.p,Ò,e.g,)
def hdM(L:ô):Hd:=hdL ÄS
def ZB(L:ô):À Int:=ŵ (·.n)
theorem R8(L:ô):(ÄS).map õ=ZB L:=by rw[Qo];rfl
def kvM(L:ô):À ÁH:=ŵ λe=>(.inl e.n,.ref e.p,)
theorem Vk{L:ô}(nd:ÊU){e:Zz}(he:e∈L):hdM L e.n=(Ò[e.g]?).map cds :=
 N7 (L:=ŵ toL) #[ea,R8,nd] (Qd (f:=toL) he)
theorem Zqk(L:ô):(kvM L).map õ=(į).map (Âu:Int->Key):=by unfold kvM ZB;rw[Qo,Qo];rfl
theorem Wu{L:ô}(nd:ÊU){e:Zz}(he:e∈L):Y5 (kvM L) (.inl e.n)=U (.ref e.p):=Vz #[fd,Zqk,Jz,nd] (Qd (f:=λe:Zz=>((.inl e.n:Key),ú e.p,)) he)
theorem TQ{L:ô}{n:Int}(h:n∈ZB L):∃e∈L,e.n=n:=Ğ h
def mgF(rd:ae)(nb li lo:Int)(sd:ae)(a:V):À Á3:=[("rows",.ref rd,),("next_number",.int nb,),("likened",.int li,),("looked",.int lo,),("stays",.ref sd,),("best",a,)]
theorem N5:¬ #[hx,"rows","next_number"]:=by ac_rfl
theorem N4:¬ #[hx,"rows","likened"]:=by ac_rfl
theorem N3:¬ #[hx,"rows","looked"]:=by ac_rfl
theorem N0:¬ #[hx,"rows","stays"]:=by ac_rfl
theorem NZ:¬ #[hx,"rows","best"]:=by ac_rfl
theorem NY:¬ #[hx,"next_number","likened"]:=by ac_rfl
theorem NX:¬ #[hx,"next_number","looked"]:=by ac_rfl
theorem NW:¬ #[hx,"next_number","stays"]:=by ac_rfl
theorem NV:¬ #[hx,"next_number","best"]:=by ac_rfl
theorem NU:¬ #[hx,"likened","looked"]:=by ac_rfl
theorem NT:¬ #[hx,"likened","stays"]:=by ac_rfl
theorem NS:¬ #[hx,"likened","best"]:=by ac_rfl
theorem NR:¬ #[hx,"looked","stays"]:=by ac_rfl
theorem NQ:¬ #[hx,"looked","best"]:=by ac_rfl
theorem NP:¬ #[hx,"stays","best"]:=by ac_rfl
theorem VY(f:ak)(v x:V)(r:À Á3):Zv f v ((f,x,)::r)=(f,v,)::r:=by unfold Zv;rw[Æ rfl]
theorem Zw{f g:ak}(h:¬ g=f)(v x:V)(r:À Á3):Zv f v ((g,x,)::r)=(g,x,)::Zv f v r:=by show (if g=f then (g,v,)::r else (g,x,)::Zv f v r)=_;rw[Ç h]
theorem Xj(f:ak)(v:V):Zv f v []=[(f,v,)]:=rfl
theorem VX(rd:ae)(nb li lo:Int)(sd:ae)(a:V):mgF rd nb li lo sd a=Zv "best" a (Zv "stays" (.ref sd) (Zv "looked" (.int lo) (Zv "likened" (.int li) (Zv "next_number" (.int nb) (Zv "rows" (.ref rd) []))))):=by rw[Xj,Zw N5,Xj,Zw N4,Zw NY,Xj,Zw N3,Zw NX,Zw NU,Xj,Zw N0,Zw NW,Zw NT,Zw NR,Xj,Zw NZ,Zw NV,Zw NS,Zw NQ,Zw NP,Xj];rfl
section
variable (rd:ae) (nb li lo:Int) (sd:ae) (aH:V)
theorem Z4:(Ç4).lookup ("rows" : ak)=U (.ref rd):=by rw[VX,Zq,Ç NZ,Zq,Ç N0,Zq,Ç N3,Zq,Ç N4,Zq,Ç N5,Zq,Æ rfl]
theorem NO:(Ç4).lookup ("next_number" : ak)=U (.int nb):=by rw[VX,Zq,Ç NV,Zq,Ç NW,Zq,Ç NX,Zq,Ç NY,Zq,Æ rfl]
theorem Jy:(Ç4).lookup ("likened" : ak)=U (.int li):=by rw[VX,Zq,Ç NS,Zq,Ç NT,Zq,Ç NU,Zq,Æ rfl]
theorem ZlS:(Ç4).lookup ("looked" : ak)=U (.int lo):=by rw[VX,Zq,Ç NQ,Zq,Ç NR,Zq,Æ rfl]
theorem TN:(Ç4).lookup ("stays" : ak)=U (.ref sd):=by rw[VX,Zq,Ç NP,Zq,Æ rfl]
theorem TM:(Ç4).lookup ("best" : ak)=U aH:=by rw[VX,Zq,Æ rfl]
theorem Xq{m:ak}(h1:¬ m = "rows")(h2:¬ m = "next_number")(a:¬ m = "likened")(b:¬ m = "looked")(c:¬ m = "stays")(d:¬ m = "best"):(Ç4).lookup m=af:=by rw[VX,Zq,Ç d,Zq,Ç c,Zq,Ç b,Zq,Ç a,Zq,Ç h2,Zq,Ç h1];rfl
theorem Zhd(v:Int):Zv "next_number" (.int v) Ç4=mgF rd v li lo sd aH:=by unfold mgF;rw[Zw N5,VY]
theorem Jx(v:Int):Zv "likened" (.int v) Ç4=mgF rd nb v lo sd aH:=by unfold mgF;rw[Zw N4,Zw NY,VY]
theorem Zhl(v:Int):Zv "looked" (.int v) Ç4=mgF rd nb li v sd aH:=by unfold mgF;rw[Zw N3,Zw NX,Zw NU,VY]
theorem Zij(x:ae):Zv "stays" ÀP Ç4=mgF rd nb li lo x aH:=by unfold mgF;rw[Zw N0,Zw NW,Zw NT,Zw NR,VY]
theorem R7(x:V):Zv "best" x Ç4=mgF rd nb li lo sd x:=by unfold mgF;rw[Zw NZ,Zw NV,Zw NS,Zw NQ,Zw NP,VY]
theorem Wk:(Ç4).length<1000:=by show 6<1000;decide
universe E
structure WV (C:ae) (H:Hp) (e:Zz):Prop where
 at':Vn C H e.p e.k e.f Ò e.g
 le:e.g<=Į
 len:Į<=200
 srt:ĝ Ò=true
 str:∀s∈Ò,ŧ<=1000/\AZ s
structure ZO (cR cM:ae) (H:Hp) (m rd sd:ae) (L:ô) (s:StL) (nb li lo:Int) (aH:V):Prop where
 ob:∃dx,H m=U (.ins cM dx Ç4)
 Ρ:H rd=U Å7
 stays:H sd=U (.dT (kvS s))
 ats:AtS H s
 each:∀e∈L,WV cR H e
 up:Yq į
 pd:#[yp].Nodup
 few:Àv<=60
 sfew:ŧ<=200
def Fp(m rd sd:ae)(L:ô)(b:ae):Prop:=b=m\/b=rd\/b=sd\/∃e∈L,b=e.p\/b=e.k\/b=e.f
theorem WV.keep{C:ae}{H a:Hp}{e:Zz}(h:WV C H e)(hp:a e.p=H e.p)(hk:a e.k=H e.k)(b:a e.f=H e.f):WV C a e :=
 ((by rw[hp];exact h.at'.ob,by rw[hk];exact h.at'.ks,by rw[b];exact h.at'.fs),h.le,ÀJ,h.srt,h.str)
section
variable {cR cM:ae} {H H':Hp} {m rd sd:ae} {L:À Zz} {s:StL} {nb li lo:Int} {aH:V}
theorem ZO.nd(h:ÄT):(į).Nodup:=Sa h.up
theorem ZO.keep(h:ÄT)(k:∀b o,H b=U o->Fp m rd sd L b\/Ód->H' b=U o):ZO cR cM H' m rd sd L s nb li lo aH:=by
 refine(?_,k _ _ Ç5 (.inl ÇG),k _ _ Ç6 (.inl (.inr ÇG)),λe a t f=>k _ _ (h.ats e a t f) (.inr ÿ),λe a=>?_,h.up,h.pd,ÁQ,h.sfew)
 ·rw[ep,c,d,h.ob];exact(c,k _ _ d (.inl Ė))
 ·have r:=h.each e a;rw[ep,c,d,r.at'.ob];exact(((c,k _ _ d (.inl (.inr (.inr (.inr (e,a,.inl rfl)))))),k _ _ Îm (.inl (.inr (.inr (.inr (e,a,.inr Ė))))),k _ _ În (.inl (.inr (.inr (.inr (e,a,.inr Ãp)))))),r.le,r.len,r.srt,r.str)
theorem ZO.same(h:ÄT)(k:ZD H H'):ZO cR cM H' m rd sd L s nb li lo aH:=h.keep λb o hb _=>k b o hb
theorem ZO.ne_p(h:ÄT){e:Zz}(he:e∈L):m≠e.p/\m≠e.k/\m≠e.f:=by
 rw[ep,dx,b,h.ob];rw[qL];refine Úc
 ·rw[z,c]at b;injection b with b;injection b with _ _ b;have a:=Vo e.k e.f (e.g:Int);rw[b,Xq _ _ _ _ _ _ û û û û û û]at a;cases a
 ·rw[ss,Îm,b]
 ·rw[ss,În,b]
theorem ZO.ne_m(h:ÄT):m≠rd/\m≠sd/\rd≠sd:=by
 rw[ep,dx,a,h.ob];refine Úc
 ·rw[ss,Ç5,a]
 ·rw[ss,Ç6,a]
 ·have:=Ç5;rw[gC,Ç6]
theorem ZO.ne_sd(h:ÄT){e:Zz}(he:e∈L):sd≠e.p/\sd≠e.k/\sd≠e.f/\rd≠e.p/\rd≠e.k/\rd≠e.f:=by
 rw[qL];have a:=Ç6;have b:=Ç5;refine(λz=>?_,λz=>?_,λz=>?_,λz=>?_,λz=>?_,λz=>?_)
 ·rw[ss,c,a]
 ·rw[ss,Îm,a]
 ·rw[ss,În,a]
 ·rw[ss,c,b]
 ·rw[ss,Îm,b]
 ·rw[ss,În,b]
theorem ZO.obj(h:ÄT){nb' li' lo':Int}{Å8:V}{dx:ae}:ZO cR cM (upd H m (.ins cM dx (mgF rd nb' li' lo' sd Å8))) m rd sd L s nb' li' lo' Å8:=by
 rw[g9,f,g,n3,h.ne_m];rw[ep,dy,i,h.ob];refine((dx,Zb),by rw[Zc f.symm];exact Ç5,by rw[Zc g.symm];exact Ç6,λe d t j=>?_,λe d=>?_,h.up,h.pd,ÁQ,h.sfew)
 ·have:=h.ats e d t j;rw[eC,i]
 ·rw[sJ,a,b,c,h.ne_p,d];rw[fZ,h.each,d]
theorem ZO.put(h:ÄT){k:ō}{v:ÃH}(i:Úb)(j:(ÊR).length<=200):ZO cR cM Úd m rd sd L ÊR nb li lo aH:=by
 rw[g9,n1,l,n,h.ne_m];rw[ep,o,p,h.ob];have tup:#[yX,a,d,Úd]:=λa d f=>by rw[Zc (λz=>by rw[z,Ç6]at f;cases f)];exact f
 refine((o,by rw[Zc l];exact p),by rw[Zc n];exact Ç5,Zb,(h.ats.put i).mono tup,λe g=>?_,h.up,h.pd,ÁQ,j);obtain a|b|c|_:=h.ne_sd g;rw[fZ,h.each,g]
universe E
def NN(g h:ae):Sp:=λvs H Q _=>X14 λ(m rd sd:ae) (L:À Zz) (s:StL) (nb li lo:Int) (i:V) (a b:Zz) (x y:ak) (d:Nat)=>vs=[.ref m,.int a.n,.int b.n,.int (d:Int)]/\ZO g h H m rd sd L s nb li lo i/\a∈L/\b∈L/\a.ss[a.g]? = U x/\b.ss[b.g]? = U y/\d<=lcp ü đ /\
 ∀ (t:ae) (e f:Int) (c:Hp),(Btr ü a.n đ b.n/\e=a.n/\f=b.n\/¬ Btr ü a.n đ b.n/\e=b.n/\f=a.n)->H t=af->c t=U (.tup [.int e,.int f,.int (ÀI:Int)]) ->
  ZO g h c m rd sd L s nb (li+1) (lo+(ÀI-(d:Int)+1)) i->#[ew,o,m,c]->Q ÁO c
theorem TK{ss:Ñ}{g:Nat}{x:ak}(h:ss[g]? = U x):WW ss g=.str x:=by unfold WW;rw[h]
theorem Vj(k f:ae)(g:Int):(Îd).lookup ("head" : ak)=af:=Îo
theorem Zrs(T:Ù)(be:Ç7)(gu:Úe):Mf P w K mg Â 3 am "meet" ÍQ (NN aw am):=by
 rw[d4,T.t_Merge_meet.mf,Sw,vs,D];obtain m|j|C|L|s|l|p|lo|r|a|b|x|y|u|rfl|M|ha|B|hx|hy|hf|q:=h;refine(_,#[Zf,#[YB,#[ZA,gu,D,#[Zd,#[Yi,be,ņ,D,#[ib,D,1]],#[Yi,be,ņ,D,#[ib,D,2]],‹3›],É],#[d6,4,Sw.nd,5,6]],#[Zf,Óe,#[Zf,#[VJ,‹0›,‹6›,Ux],#[Zf,#[ZN,(@Ź _ _ _ #[WR,#[eo,WG,4,Þ],#[WS,(@Ź _ _ _ #[Xc,#[eo,YT,4,Þ],#[W4,#[Zn,WG,‹1›,‹2›,ă]]])]]),#[Zg,#[Zm,#[YG,#[fq,1,2,5]]]],ò],#[Zg,#[Zm,#[YG,#[fq,2,1,5]]]]]]]],?_);rw[gg,dx,N];have O:=ÀZ a ha;have R:=ÀZ b B;rw[ep,da,S,O.at'.ob];rw[ep,db,V,ÊV];have lx:=(O.str x (Qr hx)).1;have ly:=(R.str y (Qr hy)).1;refine(_,rfl,m,am,dx,_,_,rfl,N,â,ş,Z4 ..,_,rfl,j,_,rfl,Ģ (k:=.inl a.n) Ň (Wu Ũ ha),a.p,da,_,rfl,S,Vj ..,a.p,a.k,a.f,a.ss,a.g,rfl,O.at',_,rfl,m,am,dx,_,_,rfl,N,â,ş,Z4 ..,_,rfl,j,_,rfl,Ģ (k:=.inl b.n) Ň (Wu Ũ B),b.p,db,_,rfl,V,Vj ..,b.p,b.k,b.f,b.ss,b.g,rfl,R.at',?_);rw[TK hx,TK hy];refine(_,rfl,x,y,u,rfl,lx,ly,hf,λt ht=>?_);have I:=Zi ht Úf;rw[eH,j7,H,t,Úf];generalize upd H t (.tup [.int (ZQ (cds x) (cds y)),.int (lcp (cds x) (cds y):Nat),.int ((lcp (cds x) (cds y):Nat)-(u:Int)+1)])=W at I j7 ⊢;have M1:=ÃI I;rw[fm,t,j7];have e7:=I _ _ N;rw[f6,e7,Óf,Jy,Jx];have M2:=M1.obj (nb':=l) (li':=p+1) (lo':=lo) (Å8:=r) (dx:=dx);have k2:#[rx,H,m,W,Úg]:=λb o B n=>by rw[Zc n];exact I b o B
 rw[rt,X,W,m,Úg];generalize upd W m (.ins am dx (mgF j l (p+1) lo C r))=H2 at M2 k2 X ⊢;refine(_,rfl,m,am,dx,_,_,rfl,X,â,Úh,ZlS ..,_,rfl,_,_,rfl,rfl,dx,_,X,Wk ..,?_);rw[Zhl];have Y:=M2.obj (nb':=l) (li':=p+1) (lo':=lo+(ÀI-(u:Int)+1)) (Å8:=r) (dx:=dx);have Z:∀b o,H b=U o->b≠m->(upd H2 m (.ins am dx (mgF j l (p+1) (lo+(ÀI-(u:Int)+1)) C r))) b=U o:=λb o B n=>by rw[Zc n];exact k2 b o B n
 generalize upd H2 m (.ins am dx (mgF j l (p+1) (lo+((lcp (cds x) (cds y):Nat)-(u:Int)+1)) C r))=H3 at Y Z ⊢;have v:∀F G:Int,(Btr ü a.n đ b.n/\F=a.n/\G=b.n\/¬ Btr ü a.n đ b.n/\F=b.n/\G=a.n)->∀c,H3 c=af->Q ÅW (upd H3 c (.tup [.int F,.int G,.int (ÀI:Int)])):=λF G hw c i=>by
  have gq:H c=af:=by
   cases e:H c with
   | none=>rfl
   | some o =>
    by_cases z:c=m
    ·rw[ep,dz,hz,Y.ob];rw[ss,hz,i]
    ·rw[Z c o e z]at i;cases i
  exact q c F G _ hw gq Zb (Y.same (Zi i _)) (λb o B n=>Zi i _ _ _ (Z b o B n))
 have J:3<=aq:=by decide
 refine(_,rfl,_,_,rfl,rfl,_,rfl,Y0 ų ų)
 ·have d':ZQ ü đ<0:=ÃG;exact YJ (_,rfl,_,rfl,_,rfl,J,λc i=>v _ _ (.inl (.inl d',rfl,rfl)) c i)
 have d1:¬ ZQ ü đ<0:=Îc;refine(_,rfl,rfl,_,rfl,Y0 (λe=>?_) (λe=>?_))
 ·have e':ZQ ü đ=0:=by have:=Ľ e;rw[xJ]
  refine(_,rfl,_,rfl,_,_,rfl,rfl,_,rfl,Y0 (λg=>?_) (λg=>?_))
  ·have g':a.n<b.n:=Ľ g;exact(_,rfl,_,rfl,_,rfl,J,λc i=>v _ _ (.inl (.inr (e',g'),rfl,rfl)) c i)
  ·have g':¬ a.n<b.n:=λz=>g ÇW;exact(_,rfl,_,rfl,_,rfl,J,λc i=>v _ _ (.inr (λz=>by rcases z with z|z;exact d1 z;exact g' z.2,rfl,rfl)) c i)
 ·have e':ZQ ü đ≠0:=λz=>e (Ĉ (by rw[z]));exact Y7 (_,rfl,_,rfl,_,rfl,J,λc i=>v _ _ (.inr (λz=>by rcases z with z|z;exact d1 z;exact e' z.1,rfl,rfl)) c i)
theorem ZO.cast{a b:ae}{H:Hp}{m rd sd:ae}{L:ô}{s:StL}{nb li lo li' lo':Int}{c:V}(h:#[fs,a,b,c])(d:li=li')(e:lo=lo'):ZO a b H m rd sd L s nb li' lo' c:=by subst d;subst e;exact h
theorem Jw{N:Ø}(h:N≠[]):atI ÊW (-1)=U (.int (Ç2 0)):=by
 have e:N=N.dropLast++[N.getLast h]:=(List.dropLast_concat_getLast h).symm;have:=Zq5 (N.dropLast.map ì) (ì (N.getLast h));rw[Qav,Qa4 h]
 conv=>lhs;rw[e,Qf]
 exact this
theorem Jv{N:Ø}(h:N≠[]):atI ÊW 0=U (.int (Ç1 0)):=by
 cases N with
 | nil=>exact È rfl h
 | Í a r=>exact XZ (j:=0) rfl
theorem NM(rd:ae)(nb li lo:Int)(sd:ae)(a:V):#[26].lookup ("play" : ak)=af:=À0
theorem Ju(rd:ae)(nb li lo:Int)(sd:ae)(a:V):#[26].lookup ("meet" : ak)=af:=À0
def Jt(K:Ä)(d e:ae)(n:Nat):Sp:=λvs H Q _=>X11 λ(m rd sd:ae) (L:À Zz) (s:StL) (nb li lo:Int) (f:V) (l:ae) (N:À Int)=>vs=#[rI,m,l]/\ZO d e H m rd sd L s nb li lo f/\H l=U (.lst ÊW)/\1<=ğ/\ğ<=60/\0<n/\ğ<=2 ^ (n-1)/\(∀x∈N,x∈ZB L)/\Yq N/\(∀k,Xk n N k->Z1 s k=af)/\ŧ+ğ<=200 /\
 ∀ (w:Ã Int) (a:StL) (k q:Int) (c:Hp),Win Ą N w->XV Ą a n N->YD Ą n N k q->(∀j,¬ Xk n N j->Z1 a j=Z1 s j)->ļ+1<=ŧ+ğ->ZO d e c m rd sd L a nb (li+k) (lo+q) f->#[e4,H,sd,c]->Q (Yy w) c
theorem Js(T:Ù)(be:Ç7)(eU:Óg)(cx:Úi) :
  ∀n:Nat,Mf P w K mg Â (n+4) am "play" ÍN (Jt K aw am n)
 | 0=>by
  rw[tc]
  ·rw[oJ];rfl
  obtain m|rd|sd|L|s|nb|li|lo|S|l|N|rfl|_|_|_|_|z|_:=h;exact È z Á
 | n+1=>by
  have cV:=Js T be eU cx n;rw[tc]
  ·rw[oJ];rfl
  obtain m|rd|sd|L|s|nb|li|lo'|S|l|N|rfl|M|B|h1|rA|_|js|lA|C|gq|hsz|q:=h;rw[QaJ]at js;refine(_,#[Zf,#[ZN,#[ry,YT,ÊD],#[Zg,#[Zm,#[Z0,#[Zn,Xa,#[Yi,be,ņ,hr,#[ZC,(ixG hr),ġ,Å9]],ř,ă],ř,Å9]]],ò],#[Zf,#[YB,#[sm,eU,hr],#[rR,Wl.nd]],#[Zf,#[Zx,4,Wl.nd,á,#[sw,cV,hr,ÄU]],#[Zf,#[Zx,5,Wl.nd,á,#[sw,cV,hr,ÊX]],#[Zf,#[ZN,#[hh,4],#[fe,5],ò],#[Zf,#[ZN,#[hh,5],#[fe,4],ò],#[Zf,#[YB,#[XF,cx,â,hr,‹0›,#[hR,4,5]],#[d6,6,Wl.nd,7,8]],#[Zf,#[YB,#[YG,#[e2,7,8]],#[Xo,ġ,#[YG,#[Zd,Å9,#[ZC,ω,‹1›,Îb]]],(Wz hr)]],#[fe,6]]]]]]]]],?_);rw[uC];have hN:N≠[]:=Xr h1;have EI:l≠m:=λz=>by rw[z,hm]at B;cases B
  have nsl:l≠sd:=λz=>by rw[z,Ç8]at B;cases B
  have p9:#[ii,N.map,ì]=(ğ:Int):=by rw[Qa]
  refine(_,rfl,l,_,rfl,.inl (Ï B),rfl,_,rfl,Y0 ų ų)
  ·have EJ:ğ=1:=by have:=ÃG;injection this with this;rw[p9]at this;lia
   obtain⟨n0,rfl⟩:∃n0,N=[n0]:=QaK.mp EJ;obtain e|he|rfl:=TQ (lA n0 Ö);rw[sI,R,he,dp,hp,ÊV];have bO:atI (([e.n]:À Int).map ì) 0=U (.int e.n):=XZ (j:=0) rfl;refine(_,rfl,m,am,dx,_,_,rfl,hm,â,ş,Z4 ..,_,rfl,l,_,_,_,rfl,rfl,Ï B,bO,rd,_,rfl,Ģ (k:=Æa) Ň (Wu Ũ he),e.p,dp,_,rfl,hp,Vj ..,e.p,e.k,e.f,Ò,e.g,rfl,R.at',rfl,_,rfl,?_);have bD:XV Ą s (n+1) [e.n]:=λh2=>by simp at h2
   have cK:YD Ą (n+1) [e.n] 0 0:=.few #[hB,1,2];have W:=Îg (hd:=hdM L) (n:=e.n);have hd:=Vk Ũ he;have M':=M.cast (li':=li+0) (lo':=lo'+0) Á Á;cases g:Ò[e.g]? with
   | none=>rw[show WW Ò e.g=.non by unfold WW;rw[g]];rw[hd,g]at W;exact Y2 rfl (q af s 0 0 H W bD cK ÄV ë M' Óh)
   | some x=>rw[TK g];rw[hd,g]at W;exact YR Àn (_,rfl,l,_,_,_,rfl,rfl,Ï B,bO,q (U e.n) s 0 0 H W bD cK ÄV ë M' Óh)
  have c:Å6:=by have:¬ ((ğ:Int)=1):=λz=>d (Ĉ (by rw[p9,z]));lia
  have iF:1<=n:=by
   cases n with
   | zero=>simp at js;lia
   | succ m=>lia
  have hpow:2 ^ n=2*2 ^ (n-1):=by obtain⟨m,rfl⟩:∃m,n=m+1:=(n-1,by lia);rw[Îp,QaJ];lia
  have ma:(lo N).length<=2 ^ (n-1)/\(lo N).length<=60:=by unfold lo mid;rw[Qw];lia
  have zM:(up N).length<=2 ^ (n-1)/\(up N).length<=60:=by unfold up mid;rw[QZ];lia
  have qe:(lo N).length+(up N).length=ğ:=by rw[<- Qi,Xs]
  have zN:∀x∈lo N,x∈ZB L:=λx g=>lA x (Qay g);have zO:∀x∈up N,x∈ZB L:=λx g=>lA x (QaY g);refine(_,rfl,l,N,rfl,Ï B,by lia,λt f r H2 ht hf EK Bz ck mz fm s2 ntf ntr=>?_);rw[Æ rfl]at ck;rw[Ztp]at mz;rw[ZtU]at fm;rw[hs,t,ck];have M2:=ÃI s2;have dG:=s2 _ _ hm;have BA:r≠m:=(Ze hm EK).symm;have nfs:r≠sd:=(Ze Ç8 EK).symm;refine(_,rfl,m,dx,_,rfl,dG,NM ..,_,rfl,m,rd,sd,L,s,nb,li,lo',S,f,lo N,rfl,M2,mz,(V0 c).2,ma.2,iF,ma.1,zN,Sc C,λk u=>gq k (c,.inl u),by lia,λw1 s1 k1 q1 H3 i S1 P1 o1 l1 M3 b3=>?_);have gX:=b3 _ _ fm BA nfs;rw[ep,dx3,hm3,M3.ob];refine(_,rfl,m,dx3,_,rfl,hm3,NM ..,_,rfl,m,rd,sd,L,s1,nb,_,_,S,r,up N,rfl,M3,gX,(Vl c).2,zM.2,iF,zM.1,zO,Sb C,λk u=>?_,by lia,λw2 G k2 q2 H4 p S2 P2 o2 l2 M4 b4=>?_)
  ·rw[o1 k ((N9 C c u).2 n)];exact gq k (c,.inr (.inl u))
  have vq:¬ Xk n (lo N) (ZV N)/\¬ Xk n (up N) (ZV N):=(λz=>(Oa C c z).1 rfl,λz=>(N9 C c z).1 rfl);have EL:XV Ą G n (lo N):=S1.congr n _ ÄV (λk u=>o2 k ((Oa C c u).2 n));have ic:Z1 G (ZV N)=af:=by rw[o2 _ vq.2,o1 _ vq.1];exact gq _ (c,.inr Ãp)
  have Z:∀j,¬ Xk (n+1) N j->Z1 G j=Z1 s j:=λj hj=>by rw[o2 j (λz=>hj (c,.inr (.inl z))),o1 j (λz=>hj (c,.inl z))]
  have BB:#[sA,m,sd,H4]:=λb o hb n1 n2=>b4 b o (b3 b o (s2 b o hb) n1 n2) n1 n2;have vt:∀wn,Win Ą N wn->(Win Ą (lo N) af\/Win Ą (up N) af)->Q (Yy wn) H4:=λwn hw iI=>by
   refine q wn G (k1+k2) (q1+q2) H4 hw (λ_=>(EL,S2,λa b x y wa wb _ _=>?_,λ_=>.inl ic)) (.none c P1 P2 iI) Z Á (M4.cast Á Á) BB;rcases iI with z|z
   ·rw[gL,wa]
   ·rw[gL,wb]
  cases w1 with
  | none=>exact(_,rfl,rfl,_,rfl,Y2 rfl (_,rfl,vt w2 (by have:=Îi i p;rwa [Xs]at this) Åa))
  | some a =>
  rw[a9];cases w2 with
  | none=>exact(_,rfl,rfl,_,rfl,Y2 rfl (_,rfl,vt (U a) (by have:=Îh i p;rwa [Xs]at this) (.inr p)))
  | some b =>
  rw[a9];obtain I|ye|Au:=TQ (zN a i.1);obtain J|yf|eb':=TQ (zO b p.1);subst Au;subst eb';have X:=Vk Ũ ye;have Y:=Vk Ũ yf;cases g:I.ss[I.g]? with
  | none=>obtain _|z|hz|_:=i;rw[eN,X,g,hz]
  | some x =>
  cases hy:J.ss[J.g]? with
  | none=>obtain _|z|hz|_:=p;rw[eN,Y,hy,hz]
  | some y =>
  rw[g]at X;rw[hy]at Y;rw[ep,BC,vw,M4.ob];refine(_,rfl,m,BC,_,rfl,vw,Ju ..,_,rfl,_,rfl,m,rd,sd,L,G,nb,_,_,S,I,J,x,y,0,rfl,M4,ye,yf,g,hy,Qs _,λt5 wi D H5 hw BD vz M5 b5=>?_);rw[fm,t5,vz];have vA:2<=aq:=by decide
  refine(_,rfl,_,rfl,vA,λF oY=>?_);have s6:=Zi oY Új;rw[rt,qh,H5,F,Új];have M6:=M5.same s6;generalize upd H5 F (.tup [.int D,.int ((lcp (cds x) (cds y):Nat):Int)])=H6 at s6 qh M6 ⊢;rw[ep,BE,BF,M6.ob];have qi:H6 l=U (.lst ÊW):=s6 _ _ (b5 _ _ (BB _ _ B EI nsl) EI);refine(_,rfl,m,am,BE,_,_,rfl,BF,â,Æb,TN ..,_,rfl,l,_,_,_,rfl,rfl,Ï qi,Jv hN,_,rfl,_,rfl,l,_,_,_,rfl,rfl,Ï qi,Jw hN,vA,λt7 tM=>?_);have s7:=Zi tM Úk;have zP:(upd H6 t7 Úk) t7=U (.tup ((Üs).map kV)):=Zb;have M7:=M6.same s7;generalize upd H6 t7 (.tup [.int (Ç1 0),.int (Ç2 0)])=H7 at s7 zP M7 ⊢;have fU:#[sV,kvS,G]:=by unfold kvS;rw[mQ]
  refine(sd,_,rfl,XH.t (k:=Üs) M7.stays zP fU,?_);rw[show ú F=stV (U Îq) from rfl,Sd];have cK:=Zo7 G (ZV N) (U Îq);have l1':=(V0 c).2;have M8:=M7.put (k:=ZV N) (v:=U Îq) (λt ht=>by injection ht with ht;rw[<- ht];exact s7 _ _ qh) Á;have cQ:I.n≠J.n:=λz=>by have:=ZP C i.1 p.1;lia
  have b08:∀b o,H b=U o->b≠m->b≠sd->(upd H7 sd (.dT (kvS (Yf G (ZV N) (U Îq))))) b=U o:=λb o hb n1 n2=>by rw[Zc n2];exact s7 _ _ (s6 _ _ (b5 _ _ (BB _ _ hb n1 n2) n1))
  have W:Win Ą N (U wi):=by
   rcases hw with⟨O,rfl,_⟩|⟨O,rfl,_⟩
   ·have:=Ç0 i p X Y O;rwa [Xs]at this
   ·have:=ÊO i p X Y ((ÇZ cQ).resolve_left O);rwa [Xs]at this
  have hlz:D=if ZQ ü đ<0\/Ói then J.n else I.n:=by
   rcases hw with⟨O,_,rfl⟩|⟨O,_,rfl⟩
   ·exact(Æ (show ZQ ü đ<0\/Ói from O)).symm
   ·exact(Ç (show ¬ (ZQ ü đ<0\/Ói) from O)).symm
  refine(_,rfl,q (U wi) _ (k1+k2+1) (q1+q2+ÀI+1) _ W (λ_=>(?_,?_,?_,λiI=>?_)) (.both c P1 P2 i p X Y) (λj hj=>?_) Á (M8.cast Á Á) b08)
  ·exact EL.congr n _ ÄV (λk u=>by rw[Ww,Ç (Oa C c u).1])
  ·exact S2.congr n _ ÄV (λk u=>by rw[Ww,Ç (N9 C c u).1])
  ·intro a' b' x' y' wa wb rC rD;have e1:=Qv (wa.one i);have e2:=Qv (wb.one p);subst e1;subst e2;have e3:=Qv (rC.symm.trans X);have e4:=Qv (rD.symm.trans Y);subst e3;subst e4;exact(F,by rw[Ww,Æ rfl,hlz])
  ·rcases iI with z|z
   ·rw[gL,i]
   ·rw[gL,p]
  ·rw[Ww,Ç (λz=>hj (c,.inr (.inr z)))];exact Z j hj
theorem WV.mono{C:ae}{H a:Hp}{e:Zz}(h:WV C H e)(k:∀b o,H b=U o->b=e.p\/b=e.k\/b=e.f->a b=U o):WV C a e:=by obtain c|d:=h.at'.ob;exact(((c,k _ _ d Ė),k _ _ h.at'.ks ÇG,k _ _ h.at'.fs (.inr Ãp)),h.le,ÀJ,h.srt,h.str)
theorem Jr(L:ô):(kvM L).map (λa=>kV a.1)=(į).map ì:=by unfold kvM ZB;rw[Qo,Qo];rfl
theorem ZqM{n:Nat}{N:Ø}{k:ō}(_:Xk n N k):Z1 [] k=af:=rfl
def TH(c d:ae):Sp:=λvs H Q _=>X9 λ(m rd sd:ae) (L:À Zz) (s:StL) (nb li lo:Int) (g:V)=>vs=[.ref m]/\ZO c d H m rd sd L s nb li lo g /\
 ∀ (e:ae) (f:StL) (w:Ã Int) (k q:Int) (a:Hp),H e=af->Win Ą į w->XV Ą f 8 į->YD Ą 8 į k q->ZO c d a m rd e L f nb (li+k) (lo+q) (Yy w)->#[ew,o,m,a]->Q .non a
theorem ZkH(T:Ù)(cV:Mf P w K mg Â 12 am "play" ÍN (Jt K aw am 8)):Mf P w K mg Â 13 am "play_all" ĉ (TH aw am):=by
 rw[hi,T.t_Merge_play_all.mf,Zfv];obtain m|j|sd|L|s|p|t|i|u|rfl|M|q:=h;refine(_,#[Zf,#[sg,Lv],#[Zg,#[X0,‹0›,#[Z0,#[ry,WF,Ój],#[XF,cV,â,hr,‹0›,#[Zd,Úl]],ř]]]],?_);refine λg v=>?_;rw[gg,z,N];have B:=Zi v (.dT []);have O:(upd H g (.dT [])) g=U (.dT (kvS [])):=Zb;have M1:=ÃI B;have R:=B _ _ N;have tN:m≠g:=Ze N v;have EM:j≠g:=Ze Ň v;generalize upd H g (.dT [])=G at B O M1 R ⊢;refine(_,rfl,m,am,z,_,rfl,R,â,Æb,Wk ..,?_);rw[Zij];rw[g9,n1,n2,n3,M.ne_m];have M2:ZO aw am Úm m j g L [] p t i u:=by refine((z,Zb),by rw[Zc n1.symm];exact ÊY,by rw[Zc Îr];exact O,#[ex,e,C],λe C=>?_,M.up,M.pd,Âq,by decide);rw[sJ,a,b,c,M1.ne_p,C];rw[fZ,Îs,C]
 have I:#[yY,o,m,Úm]:=λb o y n=>by rw[Zc n];exact B b o y
 generalize upd G m (.ins am z (mgF j p t i g u))=X at M2 I ⊢;rw[ep,D,F,M2.ob];have aW:Ók:=by unfold kvM;rw[Qa]
 have rE:(į).length=Àv:=by unfold ZB;rw[Qa]
 have lf:=Âq;refine(_,rfl,m,am,D,_,_,rfl,F,â,ş,Z4 ..,j,_,rfl,M2.rows,_,_,rfl,rfl,_,rfl,Y0 ų ų)
 ·have iR:0<Àv:=by have:(0:Int)<ÊZ:=ÃG;lia
  refine(_,rfl,m,D,_,rfl,F,NM ..,_,rfl,m,am,D,_,_,rfl,F,â,ş,Z4 ..,j,_,rfl,M2.rows,λl hl=>?_);rw[Jr];have J:=Zi hl Ê0;rw[eH,Y,X,l,Ê0];have Z:=M2.same J;generalize upd X l (.lst ((ZB L).map ì))=H3 at J Y Z ⊢;refine(m,j,g,L,[],p,t,i,u,l,ZB L,rfl,Z,Y,by lia,by lia,by decide,Qk (by lia:(į).length<=60) Ë,λx hx=>hx,M.up,λk hk=>ZqM hk,by show 0+_<=_;lia,λw1 s' k q' H4 W S Pl _ _ M4 b4=>?_);rw[ep,BC,vw,M4.ob];rw[fP,BC,vw];exact q g s' w1 k q' _ v W S Pl M4.obj (λb o y n=>by rw[Zc n];exact b4 b o (J b o (I b o y n)) n (Ze y v))
 ·have EN:L=[]:=by
   cases L with
   | nil=>rfl
   | Í e r=>exact È (Ĉ (show (0:Int)<(((kvM (e::r)).length:Nat):Int) by rw[aW];simp only[Ës];lia)) d
  subst EN;rw[fP,D,F];exact q g [] af 0 0 _ v (Win.nil _) (λh2=>È h2 Ë) (.few Ë) (M2.obj.cast Á Á) (λb o y n=>by rw[Zc n];exact I b o y n)
def Jq(L:ô)(a:À (ae×À ak)):Prop:=ZB L=Wn 0 ļ/\ŵ (λe=>(Ò,e.g,))=Ń λx=>(x.2,0,)
def Jp(g d:ae):Sp:=λvs H Q _=>X4 λ(m dx r:ae) (a:À (ae×À ak))=>vs=#[rI,m,r]/\H m=U (.ins d dx [])/\ZtZ H r a/\(∀x∈a,ĝ x.2=true) /\
 ∀ (e f:ae) (L:À Zz) (s:StL) (w:Ã Int) (k q:Int) (c:Hp),ZO g d c m e f L s ÂI k q (Yy w)->Jq L a->Win Ą į w->XV Ą s 8 į->YD Ą 8 į k q->(∀b,Fp m e f L b->b=m\/H b=af)->#[ew,o,m,c]->Q .non c
theorem R6(rd:ae)(nb li lo:Int)(sd:ae)(a:V):#[26].lookup ("play_all" : ak)=af:=À0
theorem R5{ss:Ñ}(h:#[sY,ss]):WX ss .non:=by refine .inl (rfl,λi x y a b=>?_);have:=JI h i y x b a;have:=V3 đ ü;lia
theorem Zh3(T:Ù)(bG:Ît)(dU:Ún)(bb:Îu):Cf P w K mg Â 14 am "Merge" ÍL (Jp aw am):=by
 rw[hi,T.t_Merge_init.cf,OA];obtain m|g|r|l|rfl|hm|X|jv|q:=h;refine(_,#[Zf,#[sg,P6],#[Zf,#[XT,Ο,#[iE,K,ÒX,Áj],#[rR,OA.nd],#[Zf,#[ZI,#[rX,bG,hr,2,3]],#[Zg,#[YB,#[Uo,dU,hr,ÊX],#[iD,2,hr]]]]],#[Zf,#[X0,‹0›,ÊD],#[Zf,Ò4,#[Zf,Ò4,#[Zf,#[sg,Lv],#[Zf,#[X0,‹0›,ř],#[Zg,#[hH,bb,hr]]]]]]]]],?_);refine λc ox=>?_;have BG:m≠c:=Ze hm ox;have s1:=Zi ox ÄD;have i5:(upd H c ÄD) c=U (.dK (kvM [])):=Zb;have e7:=s1 _ _ hm;generalize upd H c (.dK [])=H1 at s1 i5 e7 ⊢;refine(_,rfl,m,am,g,_,rfl,e7,â,ş,#[hB,0,1000],?_);have vB:r≠m:=λz=>by have:=X.at';rw[gC,hm]
 have k2:#[rx,H,m,H1,Îv]:=λb o d n=>by rw[Zc n];exact s1 b o d
 rw[rt,dG,H1,m,Îv];have fm:(upd H1 m Îv) c=U (.dK (kvM [])):=by rw[Zc BG.symm];exact i5
 generalize upd H1 m (.ins am g (Zv "rows" (.ref c) []))=H2 at k2 dG fm ⊢;have lf:=X.few;have lkr:(Îx).lookup ("rows" : ak)=U (ú c):=by rw[Zq,Æ rfl]
 refine(_,rfl,r,_,rfl,Ï (k2 _ _ X.at' vB),?_);refine Ri (K:=K) (a:=r) (xs:=ÂS λx=>ú x.1) (λi σ t=>X3 λ(L:À Zz) (v2 v3:Ã V)=>σ=[U Æc,U Ái,v2,v3]/\t m=U Îv/\t c=U Å7/\(∀e∈L,WV aw t e)/\Jq L (l.take i)/\#[yp].Nodup/\(∀e∈L,H e.p=af/\H e.k=af/\H e.f=af)/\#[ew,o,m,t]) ([],_,_,rfl,dG,fm,#[ex,e,h],ĳ,List.nodup_nil,#[ex,e,h],k2) (λi σ t hq=>by obtain _|_|_|_|_|_|_|_|_|_|I:=hq;exact Ï (I _ _ X.at' vB)) ?_ ?_
 ·rintro i y σ t p hy ⟨L,v2,v3,rfl,J,F,C,⟨n1,n2⟩,pd,eT,I⟩ hp;rw[Qp]at hy;cases hz:l[i]? with
  | none=>rw[hz]at hy;cases hy
  | some x =>
  rw[en,hz,hy,b9,Ų];have BH:=Qr hz;obtain lx|qj|rF:=X.lst x BH;have nxm:x.1≠m:=λz=>by rw[z,hm]at lx;cases lx
  have hLl:Àv=i:=by have:=#[et,n1];unfold ZB at this;rw[Qa,Lu,Qw]at this;lia
  have bf:∀e∈L,e.n≠(i:Int):=λe he z=>by
   have h1:e.n∈Wn 0 (l.take i).length:=by rw[<- n1];exact Qd (f:=λe:Zz=>e.n) he
   unfold Wn at h1;rw[sJ,j,hj,ej,Ğ,h1];have:=Öi hj;rw[Qw]at this;lia
  have sp:=Zi hp Úo;rw[rt,EO,t,p,Úo];generalize upd t p (.tup [.int (i:Int),.ref x.1])=H6 at sp EO ⊢;rw[hs,p,EO];have EQ:H6 x.1=U #[ef,x.2.map]:=sp _ _ (I _ _ lx nxm);refine(_,rfl,_,rfl,(i:Int),x.1,x.2,rfl,Ï EQ,by lia,λs hs=>(rF s hs).1,R5 (jv x BH),λH7 s7=>?_);have ER:=sp.trans s7;refine(_,rfl,λu G hu qk ndu=>?_);have Y:t u=af:=ER.free hu;have ES:Ól x.1=U #[ef,x.2.map]:=by have:=s7 _ _ EQ;rw[i1]
  have s8:#[eT,o,t,o,Ól]:=λb o d=>by have:=ER _ _ d;rw[i1]
  have vC:Ól u=U (.ins aw G []):=Zb;generalize upd (upd H7 G (.own u)) u (.ins aw G [])=Z at ES s8 vC ⊢;refine(u,G,x.1,x.2,rfl,vC,ES,qj,λs hs=>(rF s hs).1,λk f H9 hk D Bx R M=>(rfl,?_));have s9:#[eT,o,t,o,H9]:=λb o d=>M b o (s8 b o d) (Ze d Y);have jM:∀b,Z b=af->t b=af:=λb d=>by
   cases e:t b with
   | none=>rfl
   | some o=>rw[s8 b o e]at d;cases d
  have lB:∀b,b≠m->t b=af->H b=af:=λb nb d=>by
   cases e:H b with
   | none=>rfl
   | some o=>rw[I b o e nb]at d;cases d
  have num:u≠m:=λz=>by rw[z,J]at Y;cases Y
  have nkm:k≠m:=λz=>by have:=jM k hk;rw[gC,J]
  have BA:f≠m:=λz=>by have:=jM f D;rw[gC,J]
  have mB:c≠u/\c≠k/\c≠f:=(Ze F Y,Ze F (jM k hk),Ze F (jM f D));have hsz:#[sV,kvM,L]:=by unfold kvM;rw[mQ]
  have iF:Y5 (kvM L) (.inl (i:Int))=af:=by
   cases hv:Y5 (kvM L) (.inl (i:Int)) with
   | none=>rfl
   | some v=>obtain e|he|z:=Ğ (VA hv);injection z with z _;exact È Îk (bf e he)
  refine(_,rfl,m,am,g,_,_,rfl,s9 _ _ J,â,ş,lkr,_,rfl,c,_,rfl,XH.k (k:=.inl (i:Int)) (s9 _ _ F) hsz,?_);rw[U1 _ iF,show kvM L++[((.inl (i:Int):Key),ú u,)]=kvM (L++[((i:Int),u,k,f,x.2,0)]) by unfold kvM;rw[Qf];rfl];refine(L++[((i:Int),u,k,f,x.2,0)],_,_,rfl,by rw[Zc BG];exact s9 _ _ J,Zb,λe he=>?_,Ìp,?_,λe he=>?_,λb o d n=>?_)
  ·rcases í he with he|he
   ·rw[uT];refine N.mono λb o d dJ=>?_;have nb:b≠c:=λz=>by
     rw[z,F]at d;injection d with d;subst d;rcases dJ with z2|z2|z2
     ·rw[<- z2,z,F]at gk;cases gk
     ·rw[fo,N.at'.ks,z2,F]
     ·rw[fo,N.at'.fs,z2,F]
    rw[Zc nb];exact s9 b o d
   ·rw[å he];refine WV.keep (H:=H9) (R,Qs _,qj,jv x BH,rF) (Zc mB.1.symm) (Zc mB.2.1.symm) (Zc mB.2.2.symm)
  ·unfold ZB at n1 ⊢;rw[Qf,n1,Qw,Qw,Úp Á,Úp Á];unfold Wn;rw[ÙZ,Qf];simp
  ·rw[Qf,n2,QH,hz,Qf];rfl
  ·rw[e1,pd,ha,d,e,he];have:b=u:=by simpa using d
   rw[this];obtain de|gk:=(C e he).at'.ob;exact Ze gk Y
  ·rcases í he with he|he
   ·exact eT e he
   ·rw[å he];exact(lB u num Y,lB k nkm (jM k hk),lB f BA (jM f D))
  ·rw[Zc (Ze d ox)];exact s9 b o (I b o d n)
 ·rintro σ t ⟨L,v2,v3,rfl,J,F,C,iw,pd,eT,I⟩;rw[Qa,Qx ë]at iw;have p1:=V2 "rows" (ú c) [];have p2:=V2 "next_number" (ì Îw) Îx;have p3:=V2 "likened" (ì 0) (Zv "next_number" (.int Îw) Îx);have p4:=V2 "looked" (ì 0) Ç9;have p0:Ù5:=rfl;refine(_,rfl,r,_,rfl,.inl (Ï (I _ _ X.at' vB)),_,rfl,m,am,g,_,rfl,J,â,Îy,by lia,?_);rw[Qa];refine(_,rfl,m,am,g,_,rfl,Zb,â,Óf,by lia,_,rfl,m,am,g,_,rfl,Zb,â,Úh,by lia,?_);have k8:∀b,b≠m->Úq b=t b:=λb n=>by rw[Zc n,Zc n,Zc n]
  have BI:Úq m=U (.ins am g Úr):=Zb;generalize (upd (upd (upd t m (.ins am g (Zv "next_number" (.int (Ų:Int)) (Zv "rows" (.ref c) [])))) m (.ins am g (Zv "likened" (.int 0) (Zv "next_number" (.int (Ų:Int)) (Zv "rows" (.ref c) []))))) m (.ins am g (Zv "looked" (.int 0) (Zv "likened" (.int 0) (Zv "next_number" (.int (Ų:Int)) (Zv "rows" (.ref c) []))))))=Z at k8 BI ⊢;refine λB fF=>?_;have tN:m≠B:=Ze BI fF;have p5:=V2 "stays" (ú B) Úr;refine(_,rfl,m,am,g,_,rfl,by rw[Zc tN];exact BI,â,Æb,by lia,_,rfl,m,am,g,_,rfl,Zb,â,ÂZ,by lia,?_);have ET:t B=af:=by rw[<- k8 B Îr];exact fF
  have rG:Óm m=U (.ins am g (mgF c Îw 0 0 B .non)):=by rw[VX];exact Zb
  have EU:Óm B=U (.dT (kvS [])):=by rw[Zc Îr,Zc Îr];exact Zb
  have M:#[e5,o,t,m,Óm]:=λb o d n=>by rw[Zc n,Zc n,Zc (Ze d ET),k8 b n];exact d
  generalize (upd (upd (upd Z B (.dT [])) m (.ins am g (Zv "stays" (.ref B) (Zv "looked" (.int 0) (Zv "likened" (.int 0) (Zv "next_number" (.int (Ų:Int)) (Zv "rows" (.ref c) []))))))) m (.ins am g (Zv "best" .non (Zv "stays" (.ref B) (Zv "looked" (.int 0) (Zv "likened" (.int 0) (Zv "next_number" (.int (Ų:Int)) (Zv "rows" (.ref c) []))))))))=H9 at rG EU M ⊢;have hLl:Àv=Ų:=by have:=#[et,iw.1];unfold ZB at this;rw[Qa,Lu]at this;exact this
  have M9:ZO aw am H9 m c B L [] Îw 0 0 .non:=by
   refine((g,rG),M _ _ F BG.symm,EU,#[ex,e,he],λe he=>?_,by rw[iw.1];exact ZpM _,pd,by lia,by decide);rw[uT];refine N.mono λb o d dJ=>M b o d λz=>?_;have D:=eT e he;have O:=hm;rw[<- z]at O;rcases dJ with z2|z2|z2
   ·rw[eN,z2,D.1,O]
   ·rw[eN,z2,D.2.1,O]
   ·rw[eN,z2,D.2.2,O]
  refine(_,rfl,m,g,_,rfl,rG,R6 ..,m,c,B,L,[],_,0,0,.non,rfl,M9,λbB s' w1 k q' mh hV W S Pl ql b10=>?_);have lB:∀b,b≠m->H9 b=af->H b=af:=λb nb d=>by
   cases e:H b with
   | none=>rfl
   | some o=>rw[M b o (I b o e nb) nb]at d;cases d
  refine q c bB L s' w1 k q' mh (ql.cast Á Á) iw W S Pl (λb d=>?_) (λb o d n=>b10 b o (M b o (I b o d n) n) n);rcases d with rfl|rfl|rfl|⟨e,he,d⟩
  ·exact ÁY
  ·exact .inr ox
  ·exact .inr (lB _ (λz=>by rw[z,rG]at hV;cases hV) hV)
  ·have D:=eT e he;rcases d with rfl|rfl|rfl
   ·exact .inr D.1
   ·exact .inr D.2.1
   ·exact .inr D.2.2
def Jo(b c:ae):Sp:=λvs H Q _=>X9 λ(m rd sd:ae) (L:À Zz) (s:StL) (nb li lo:Int) (w:Ã Int)=>vs=[.ref m]/\ZO b c H m rd sd L s nb li lo (Yy w)/\Win Ą į w/\∀ (x:V) (a:Hp),Zvz ÄS a x->ZD H a->Q x a
theorem Zot(T:Ù)(r:Ç7):Mf P w K mg Â 3 am "coming" ĉ (Jo aw am):=by
 rw[d4,T.t_Merge_coming.mf,Kd,u,i];obtain m|j|v|L|s|y|B|lo|w|rfl|M|W|q:=h;refine(_,#[Zf,#[ZN,#[Zn,Xa,ġ,ř,ă],ÇX,ò],#[Zf,#[Zx,1,Kd.nd,á,#[ZC,(ixG i),ġ,ġ]],#[Zg,#[Zm,#[YG,#[Zd,ġ,#[ZH,‹1›],#[sW,r,i,1]]]]]]],?_);rw[gg,b,c];refine(_,rfl,m,am,b,_,_,rfl,c,â,ÂZ,TM ..,rfl,_,rfl,?_);have l:Win (hdL ÄS) ((ÄS).map õ) w:=by rw[R8];exact W
 cases w with
 | none=>exact Y2 rfl (q _ H (.inl (rfl,l)) ÄW)
 | some a =>
  obtain e|d|rfl:=TQ W.1;rw[sI,R,d,n,o,ÊV];have C:=Vk Ũ d;cases g:Ò[e.g]? with
  | none=>obtain _|z|p|_:=W;rw[eN,C,g,p]
  | some x =>
  refine YR Àn ?_;refine(_,rfl,m,am,b,_,_,rfl,c,â,ş,Z4 ..,_,rfl,m,am,b,_,_,rfl,c,â,ÂZ,TM ..,j,_,rfl,Ģ (k:=Æa) Ň (Wu Ũ d),_,rfl,m,am,b,_,_,rfl,c,â,ÂZ,TM ..,_,rfl,e.p,aw,n,_,_,rfl,o,ņ,ÇY,TW ..,_,rfl,e.p,n,_,rfl,o,Vj ..,e.p,e.k,e.f,Ò,e.g,rfl,R.at',υ,λt D=>?_);rw[TK g];exact q _ _ (.inr (t,toL e,x,rfl,Qd d,g,Zb,l)) (Zi D _)
def Jn(b c:ae):Sp:=λvs H Q _=>X9 λ(m rd sd:ae) (L:À Zz) (s:StL) (nb li lo:Int) (d:V)=>vs=[.ref m]/\ZO b c H m rd sd L s nb li lo d/\∀a:Hp,ZD H a->Q (.int (Wv ÄS).sum) a
theorem ZjK(k f:ae)(g:Int):(Îd).lookup ("to_go" : ak)=af:=Îo
theorem ZqJ(T:Ù)(N:Îe):Mf P w K mg Â 2 am "left" ĉ (Jn aw am):=by
 rw[d4,T.t_Merge_left.mf,Zh6,O,S];obtain m|a|W|L|s|X|Y|lo|Z|rfl|M|q:=h;refine(_,#[Zg,#[Zm,#[Zp,(P8 K),É,Ón,boot_sum,#[Zd,(@Um _ _ _ #[XS,Ow,(@K5 _ _ _ _ _ _ ġ É É),#[gA,1,Ow],Ξ,(λ_ _ _ _=>#[Yi,N,ņ,S,#[cw,1,Ow]])])]]]],?_);rw[uC];have lf:=Âq;refine(a,_,Ň,ŭ,_,rfl,m,am,dx,_,_,rfl,hm,â,ş,Z4 ..,a,_,rfl,Ň,λj B t=>?_);have u:Ús a=U (.frz j Å7):=Zb;have D:#[yY,x,a,Ús]:=λb x h n=>by rw[Zc n];exact h
 generalize upd H a (.frz j (.dK (kvM L)))=H1 at u D t ⊢;refine KU (d:=a) (o:=j) (kvs:=kvM L) (λi zs F c=>(∃v:Ã V,F=[U Æc,v])/\zs=(Wv ((L.take i).map toL)).map ì/\i<=Àv/\c B=U π/\ZD H1 c) ?_ #[hC,u] ?_ ?_
 ·exact#[gn,t]
 ·rintro i k x zs F c l ⟨⟨v,rfl⟩,rfl,hi,y,p⟩;rw[hY,kvM,l];cases r:L[i]? with
  | none=>rw[r]at l;cases l
  | some e =>
  rw[en,r,l,b9,Àv];have C:=Qr r;have R:=ÀZ e C;obtain _|_|_|n1|n2|n3:=Èa C;have R2:WV aw c e:=R.mono λb o g dJ=>p _ _ (D b o g Út);rw[ep,dp,hp,R2.at'.ob];refine(_,rfl,e.p,dp,_,rfl,hp,ZjK ..,e.p,e.k,e.f,Ò,e.g,rfl,R2.at',y,(by unfold Wv;rw[Qa,Qa,Qa,Qw];exact ÀY),ÿ,?_,b9,Zb,λb x g=>?_)
  ·rw[QH,r,Qf];unfold Wv;rw[Qf,Qf];rfl
  ·rw[s3,g,t,p,b,x]
 rw[sE,F,c,v,y,p];have iJ:Úu:=by unfold kvM;rw[Qa]
 rw[iJ,Qx ë]at y;refine(j,p _ _ u,?_);have G:(upd c a Å7) B=U (.lst ((Wv ÄS).map ì)):=by rw[Zc (Ze u t).symm];exact y
 have I:ZD H (upd c a Å7):=λb x g=>by
  by_cases e:b=a
  ·rw[e,Ň]at g;rw[e,Zb];exact g
  ·rw[Zc e];exact p _ _ (D b x g e)
 generalize upd c a (.dK (kvM L))=H3 at G I ⊢;refine(B,Wv ÄS,rfl,Ï G,(by unfold Wv;rw[Qa,Qa];lia),λn J=>?_,q H3 I);unfold Wv at J;rw[ed,e',gH,J];rw[ed,e,C,gH];have R:=ÀZ e C;have a1:=R.le;have a2:=R.len;show 0<=Óo/\Óo<=_;lia
def UL(L:À Yd):À (Int×Ã ak):=ŵ λe=>(e.1,e.2.2.1[e.2.2.2]?,)
def ZvP(H:Hp)(l:ae)(E:ÊT):Prop:=∃a:À (ae×Int×Ã ak),Ń Ę=E/\H l=U #[hQ,Ń,t,t.1]/\∀t∈a,H t.1=U Úv
theorem Jm(ss:Ñ)(g:Nat):WW ss g=oV ss[g]?:=by unfold WW oV;cases ss[g]?<;>rfl
def Jl(b c:ae):Sp:=λvs H Q _=>X9 λ(m rd sd:ae) (L:À Zz) (s:StL) (nb li lo:Int) (d:V)=>vs=[.ref m]/\ZO b c H m rd sd L s nb li lo d/\∀ (l:ae) (a:Hp),H l=af->ZvP a l (UL ÄS)->ZD H a->Q Ă a
theorem ZnZ(T:Ù)(be:Ç7):Mf P w K mg Â 3 am "heads" ĉ (Jl aw am):=by
 rw[hi,T.t_Merge_heads.mf,Zhm];obtain m|a|sd|L|s|nb|li|lo|aH|rfl|M|q:=h;refine(_,#[Zg,#[Zm,(@Um _ _ _ #[XS,T4,Úw,#[el,1,T4,2],Ξ,(λ_ _ _ _=>#[YG,#[Zd,#[cw,1,T4],#[Yi,be,ņ,hr,#[cw,2,T4]]]])])]],?_);rw[uC];have lf:=Âq;refine(a,_,Ň,ŭ,_,rfl,m,am,dx,_,_,rfl,hm,â,ş,Z4 ..,a,_,rfl,Ň,λg B c=>?_);rw[rt,F,H,a,Îz];have J:∀b x,H b=U x->b≠a->(upd H a Îz) b=U x:=λb x h n=>by rw[Zc n];exact h
 have N:H B=af:=by
  cases e:H B with
  | none=>rfl
  | some o =>
   by_cases z:B=a
   ·rw[z]at c;rw[show (upd H a Îz) a=U Îz from Zb]at c;cases c
   ·rw[J B o e z]at c;cases c
 generalize upd H a (.frz g (.dK (kvM L)))=H1 at F J c ⊢;refine ZsF (d:=a) (o:=g) (kvs:=kvM L) (λi zs O r=>(X2 λS W:Ã V=>O=[U Æc,S,W])/\(∃j:À (ae×Int×Ã ak),j.map Ę=UL ((L.take i).map toL)/\zs=(j.map λt=>ú t.1)/\∀t∈j,r t.1=U Úv/\t.1≠B/\t.1≠a)/\i<=Àv/\r B=U π/\ZD H1 r) ?_ #[hC,F] ?_ ?_
 ·exact((af,af,rfl),([],rfl,rfl,#[ex,t,h]),Qs _,Zb,Zi c _)
 ·rintro i k x zs O r p v ⟨⟨S,W,rfl⟩,⟨j,G,rfl,X⟩,hi,Y,y⟩ vD;rw[hY,kvM,v];cases I:L[i]? with
  | none=>rw[I]at v;cases v
  | some e =>
  rw[en,I,v,b9,Àv];have he:=Qr I;have R:=ÀZ e he;obtain _|_|_|n1|n2|n3:=Èa he;have C:=Zi vD Úx;have tP:(upd r p Úx) p=U (.tup [.int e.n,.ref e.p]):=Zb;generalize upd r p (.tup [kV (.inl e.n),.ref e.p])=H3 at C tP ⊢;have R2:WV aw H3 e:=R.mono λb o l dJ=>C _ _ (y _ _ (J b o l Út));rw[ep,dp,hp,R2.at'.ob];have ie:=C _ _ Y;have vm:=C _ _ (y _ _ F);have aW:Åp=i:=by have:=#[et,G];unfold UL at this;rw[Qa,Qa,Qa,Qw]at this;lia
  refine(p,_,rfl,ö tP,rfl,_,_,rfl,_,_,rfl,rfl,_,rfl,_,rfl,e.p,dp,_,rfl,hp,Vj ..,e.p,e.k,e.f,Ò,e.g,rfl,R2.at',Á1,λt D=>?_);rw[Jm];have Z:B≠t:=Ze ie D;have tQ:a≠t:=Ze vm D;refine(by rw[Zc Z];exact ie,Óp,Èb,(j++[(t,e.n,Ò[e.g]?,)],?_,by rw[Qf];rfl,λu hu'=>?_),b9,Zb,λb x l=>?_)
  ·rw[Qf,G,QH,I,Qf];unfold UL;rw[Qf];rfl
  ·rcases í hu' with hu'|hu'
   ·obtain g1|g2|g3:=X u hu';have:=C _ _ g1;exact(by rw[Zc g2,Zc (Ze this D)];exact this,g2,g3)
   ·rw[å hu'];exact(by rw[Zc Z.symm];exact Zb,Z.symm,tQ.symm)
  ·have:=C b x (y b x l);rw[Zc (Ze l c),Zc (Ze this D)];exact this
 rintro zs O r ⟨⟨S,W,rfl⟩,⟨j,G,rfl,X⟩,_,Y,y⟩;have iJ:Úu:=by unfold kvM;rw[Qa]
 rw[iJ,Qx ë]at G;refine(g,y _ _ F,?_);have nBr:B≠a:=(Ze F c).symm;refine q B _ N (j,G,by rw[Zc nBr];exact Y,λt D=>?_) #[iz,b,x,l]
 ·obtain g1|g2|g3:=X t D;rw[Zc g3];exact g1
 ·by_cases e:b=a
  ·rw[e,Ň]at l;rw[e,Zb];exact l
  ·rw[Zc e];exact y _ _ (J b x l e)
def Agr(Lo:À Yd)(L:ô):Prop:=Lo.map Óq=ŵ ÎA
theorem Jk:∀ (A B:À Yd),A.map Óq=B.map Óq->hdL A=hdL B
 | [],[],_=>rfl
 | [],_::_,h=>by cases h
 | _::_,[],h=>by cases h
 | a::A,b::B,h=>by
  rw[Qj,Qj]at h;injection h with h1 h2;injection h1 with d f;have ih:=Jk A B h2;funext n;rw[mE];split
  ·simp only[Úy];rw[f]
  ·exact c
theorem XR{α a:Type}:∀ {P:À (α×a)},(ÀX õ).Nodup->∀ {p q:α×a},p∈P->q∈P->p.1=q.1->p=q
 | [],_,_,_,h,_,_=>by cases h
 | x::r,nd,p,q,hp,hq,e=>by
  rw[Qj,QS]at nd;rcases ĩ hp with h1|h1
  ·rcases ĩ hq with h2|h2
   ·rw[h1,h2]
   ·exact È (show x.1∈ÂU õ by rw[<- h1,e];exact #[y5,x.1,h2]) nd.1
  ·rcases ĩ hq with h2|h2
   ·exact È (show x.1∈ÂU õ by rw[<- h2,<- e];exact #[y5,x.1,h1]) nd.1
   ·exact XR nd.2 h1 h2 e
def Zvm(x:V):Prop:=x=.non\/(∃b,x=.bl b)\/(∃i,x=.int i)\/∃s,x=.str s
structure F2 (R:V->V->Prop) (xs ys:Ĕ):Prop where
 len:ã=Ĭ
 at':∀ (i:Nat) (x y:V),xs[i]? = U x->ys[i]? = U y->R x y
theorem F2.nil{R:V->V->Prop}:F2 R [] []:=(rfl,λi x y h=>by simp at h)
theorem F2.cons{R:V->V->Prop}{x y:V}{xs ys:Ĕ}(h:R x y)(t:F2 R xs ys):F2 R (x::xs) (y::ys):=by
 refine(by rw[QA,QA,t.len],λi a b c d=>?_);cases i with
 | zero=>simp at c d;rw[<- c,<- d];exact h
 | succ i=>exact t.at' i a b #[d8,c] #[d8,d]
theorem ZpV{H:Hp}{n:Nat}{x:V}(h:Zvm x):IsD H (n+1) x x:=.inl (rfl,h)
theorem ZsJ{H:Hp}{n:Nat}{p q:ae}{xs ys:Ĕ}(hp:H p=U À6)(hq:H q=U ÂE)(h:ã<=1000)(f:F2 (IsD H n) xs ys):IsD H (n+1) Ż (.ref q):=.inr (p,q,xs,ys,rfl,rfl,.inl (hp,hq),f.len,h,f.at')
theorem ZjA(rd:ae)(nb li lo:Int)(sd:ae)(a:V):#[26].lookup ("coming" : ak)=af:=À0
theorem ZlR(rd:ae)(nb li lo:Int)(sd:ae)(a:V):#[26].lookup ("left" : ak)=af:=À0
theorem Zke(rd:ae)(nb li lo:Int)(sd:ae)(a:V):#[26].lookup ("heads" : ak)=af:=À0
def Zt(M:Ø)(n:Int):À Int:=if n∈lo M then lo M else up M
def Y8(M:Ø)(n:Int):À Int:=if n∈lo M then up M else lo M
def Z5:Nat->À Int->Int->À Èc
 | 0,_,_=>[]
 | k+1,M,n=>if 2<=ÀG then Z5 k Ŷ n++[M] else []
inductive Sub (N:Ø):À Int->Prop
 | top:Sub N N
 | lo {M:À Int}:Sub N M->2<=ÀG->Sub N (lo M)
 | up {M:À Int}:Sub N M->2<=ÀG->Sub N (up M)
theorem Sub.trans{A B C:Ø}(h:Sub A B)(k:Sub B C):Sub A C:=by
 induction k with
 | top=>exact h
 | lo _ a b=>exact b.lo a
 | up _ a b=>exact b.up a
theorem Sub.rise{N M:Ø}(h:Sub N M)(r:Yq N):Yq M:=by
 induction h with
 | top=>exact r
 | lo _ _ a=>exact Sc a
 | up _ _ a=>exact Sb a
theorem Sub.mem{N M:Ø}(h:Sub N M){x:Int}(hx:x∈M):x∈N:=by
 induction h with
 | top=>exact hx
 | lo _ _ a=>exact a (Qay hx)
 | up _ _ a=>exact a (QaY hx)
theorem Jj{M:Ø}(h:ÃJ)(n:Int):Sub M Ŷ:=by
 unfold Zt;split
 ·exact Sub.top.lo h
 ·exact Sub.top.up h
theorem TF{M:Ø}{n:Int}(h:n∈M):n∈Zt M n:=by
 unfold Zt;split
 ·assumption
 ·rename_i a;rw[<- Xs M]at h;exact(í h).resolve_left a
theorem NL{M:Ø}(r:Yq M){n:Int}(hn:n∈Zt M n):n ∉ Y8 M n:=by
 intro h;unfold Y8 Zt at *
 split at h
 ·rename_i a;have:=ZP r a h;lia
 ·rename_i a;exact a h
theorem NK(M:Ø)(n:Int):(Zt M n++Y8 M n).Perm M:=by
 unfold Zt Y8;split
 ·rw[Xs]
 ·exact List.perm_append_comm.trans (by rw[Xs])
def Kys(M:Ø)(k:ō):Prop:=∃a,Sub M a/\2<=ļ/\k=ZV a
theorem R4{M:Ø}{k:ō}(h:Kys M k):k.1∈M/\k.2∈M:=by obtain b|s|h2|rfl:=h;have a:b≠[]:=Xr Á;exact(s.mem (UO a),s.mem (UN a))
theorem Ji{M:Ø}(r:Yq M)(h2:ÃJ){k:ō}(h:Kys (lo M) k):k≠ZV M/\¬ Kys (up M) k:=by
 rw[va]
 ·rw[zd,a,Oc];have:=ZP r this.2 (UN (Xr (Vl h2).2));lia
 ·have:=ZP r this.1 (R4 m).1;lia
theorem Jh{M:Ø}(r:Yq M)(h2:ÃJ){k:ō}(h:Kys (up M) k):k≠ZV M/\¬ Kys (lo M) k:=by
 rw[va]
 ·rw[zd,a,Ob];have:=ZP r (UO (Xr (V0 h2).2)) this.1;lia
 ·have:=ZP r (R4 m).1 this.1;lia
theorem Jg{M:Ø}(r:Yq M)(h2:ÃJ){n:Int}{k:ō}(h:Kys Ŷ k):k≠ZV M/\¬ Kys Ák k:=by
 unfold Zt at h;unfold Y8;split
 ·rename_i a;rw[sC,a,h];exact Ji r h2 h
 ·rename_i a;rw[hy,a,h];exact Jh r h2 h
theorem Jf{M:Ø}(r:Yq M)(h2:ÃJ){n:Int}{k:ō}(h:Kys Ák k):k≠ZV M/\¬ Kys Ŷ k:=by
 unfold Y8 at h;unfold Zt;split
 ·rename_i a;rw[sC,a,h];exact Jh r h2 h
 ·rename_i a;rw[hy,a,h];exact Ji r h2 h
theorem NJ{M c:Ø}(h:Sub M c):c=M\/(2<=ÀG/\(Sub (lo M) c\/Sub (up M) c)):=by
 induction h with
 | top=>exact ÁY
 | lo h a b =>
  rcases b with rfl|⟨g,b⟩
  ·exact .inr (a,.inl .top)
  ·exact .inr (g,b.imp (λz=>z.lo a) (λz=>z.lo a))
 | up h a b =>
  rcases b with rfl|⟨g,b⟩
  ·exact .inr (a,.inr .top)
  ·exact .inr (g,b.imp (λz=>z.up a) (λz=>z.up a))
theorem Zq4{M a:Ø}(n:Int)(h:Sub M a):a=M\/(2<=ÀG/\(Sub Ŷ a\/Sub Ák a)):=by
 rcases NJ h with h|⟨g,h⟩
 ·exact .inl h
 ·refine .inr (g,?_);unfold Zt Y8;split
  ·exact h
  ·exact h.symm
def Wt(hd:Hd)(s:StL)(A B:Ø)(k:ō):Prop :=
 (∀a b x y,Win hd A (U a)->Win hd B (U b)->hd a=U x->hd b=U y->X2 λt c=>Z1 s k=U (U (t,c,#[gB,x,y],))/\((Btr x a y b/\c=b)\/(Btr y b x a/\c=a))) /\
 ((Win hd A af\/Win hd B af)->Z1 s k=af\/Z1 s k=U af)
theorem Wt.swap{hd:Hd}{s:StL}{A B:Ø}{k:ō}(h:Wt hd s A B k):Wt hd s B A k:=by refine(λa b x y c d f g=>?_,λhw=>h.2 hw.symm);obtain t|i|e|o:=h.1 b a y x d c g f;exact(t,i,by rw[Vp x y];exact e,o.symm)
def Z2(hd:Hd)(s:StL)(N:Ø):Prop:=∀M,Sub N M->2<=ÀG->Wt hd s (lo M) (up M) (ZV M)
theorem Z2.sub{hd:Hd}{s:StL}{N M:Ø}(h:Z2 hd s N)(k:Sub N M):Z2 hd s M:=λa h' h2=>h a (k.trans h') h2
theorem Z2.at_side{hd:Hd}{s:StL}{M:Ø}(h:Z2 hd s M)(h2:ÃJ)(n:Int):Wt hd s Ŷ Ák (ZV M):=by
 have:=h M .top h2;unfold Zt Y8;split
 ·exact this
 ·exact this.swap
theorem UK:∀ (n:Nat) (hd:Hd) (s:StL) (N:À Int),Yq N->ğ<=2 ^ (n-1)->0<n->XV hd s n N->Z2 hd s N
 | 0,_,_,_,_,_,h,_=>È h Á
 | n+1,hd,s,N,r,hl,_,h=>λM hM h2=>by
  rw[QaJ]at hl;rcases NJ hM with rfl|⟨g,hM⟩
  ·obtain _|_|j|k:=h h2;refine(λa b x y d f l o=>?_,k);obtain t|e:=j a b x y d f l o;have eQ:=ZP r d.1 f.1;by_cases c:ZQ x y<0\/Ò6
   ·rw[sC,c,e];exact(t,b,e,.inl (c,rfl))
   ·rw[hy,c,e];exact(t,a,e,.inr ((ÇZ (show a≠b by lia)).resolve_left c,rfl))
  ·obtain p|q|_:=h g;have i:1<=n:=by
    cases n with
    | zero=>simp at hl;lia
    | succ m=>lia
   have hp:2 ^ n=2*2 ^ (n-1):=by obtain⟨m,rfl⟩:∃m,n=m+1:=(n-1,by lia);rw[Îp,QaJ];lia
   rcases hM with hM|hM
   ·exact UK n hd s (lo N) (Sc r) (by unfold lo mid;rw[Qw];lia) i p M hM h2
   ·exact UK n hd s (up N) (Sb r) (by unfold up mid;rw[QZ];lia) i q M hM h2
theorem Wt.congr{hd d:Hd}{s s':StL}{A B:Ø}{k:ō}(h:Wt hd s A B k)(ha:∀m∈A,d m=hd m)(hb:∀m∈B,d m=hd m)(hk:Z1 s' k=Z1 s k):Wt d s' A B k:=by
 refine(λa b x y e f g i=>?_,λhw=>?_)
 ·rw[hk];exact h.1 a b x y (e.congr λm c=>(ha m c).symm) (f.congr λm c=>(hb m c).symm) #[s4,ha,a,e.1,g] #[s4,hb,b,f.1,i]
 ·rw[hk];exact h.2 (hw.imp (λw=>w.congr λm c=>(ha m c).symm) (λw=>w.congr λm c=>(hb m c).symm))
theorem Z2.congr{hd b:Hd}{s s':StL}{M:Ø}(h:Z2 hd s M)(c:∀m∈M,b m=hd m)(hk:∀k,Kys M k->Z1 s' k=Z1 s k):Z2 b s' M:=λd hM h2 =>
 (h d hM h2).congr (λm a=>c m (Ê1 (Qay a))) (λm a=>c m (Ê1 (QaY a))) (hk _ (d,hM,h2,rfl))
theorem ZnN{hd:Hd}{s:StL}{M:Ø}{n:Int}(h1:Z2 hd s Ŷ)(b:Z2 hd s Ák)(h:Wt hd s Ŷ Ák (ZV M)):Z2 hd s M:=λa hM h2=>by
 rcases Zq4 n hM with rfl|⟨g,hM|hM⟩
 ·unfold Zt Y8 at h;split at h
  ·exact h
  ·exact h.swap
 ·exact h1 a hM h2
 ·exact b a hM h2
def low(n:Int)(C:À Èc):Nat->À Int
 | 0=>[n]
 | i+1=>C.getD i []
theorem NI:∀ (k:Nat) (M:À Int) (n:Int),n∈M->ÀG<=2 ^ k->(∀i X,Ór[i]? = U X->Sub M X/\2<=X.length/\n∈X/\Zt X n=low n Ór i)/\low n Ór (Ór).length=M/\(Ór).length<=k
 | 0,M,n,d,hl=>by
  refine(λi X h=>by unfold Z5 at h;simp at h,?_,Qg _);have h1:ÀG=1:=by have:=Qbe d;simp at hl;lia
  obtain x|rfl:=QaK.mp h1;have:n=x:=by simpa using d
  rw[this];rfl
 | k+1,M,n,d,hl=>by
  unfold Z5;by_cases e:2<=ÀG
  ·rw[Æ e];have g:(Ŷ).length<=2 ^ k:=by
    rw[Îp]at hl;unfold Zt;split
    ·unfold lo mid;rw[Qw];lia
    ·unfold up mid;rw[QZ];lia
   obtain a|b|c:=NI k Ŷ n (TF d) g;refine(λi X h=>?_,?_,by rw[Qi,QI];lia)
   ·have f:∀j,j<=(Üt).length->low n (Z5 k Ŷ n++[M]) j=low n Üt j:=λj hj=>by
     cases j with
     | zero=>rfl
     | succ j=>show (Z5 k Ŷ n++[M]).getD j []=(Üt).getD j [];rw[QP,QP,QT Á]
    by_cases l:i<(Üt).length
    ·rw[QT l]at h;obtain m|o|p|q:=a i X h;exact((Jj e n).trans m,o,p,by rw[f i Á];exact q)
    ·have r:i=(Üt).length:=by have:=(Ł h).1;rw[Qi,QI]at this;lia
     subst r;rw[Q6 ë,Ós]at h;cases h;exact(.top,e,d,by rw[f _ ë,b])
   ·rw[Qi,QI];show (Z5 k Ŷ n++[M]).getD _ []=M;rw[QP,Q6 ë,Ós];rfl
  ·rw[zf,e];refine(λi X h=>by simp at h,?_,Qs _);have h1:ÀG=1:=by have:=Qbe d;lia
   obtain x|rfl:=QaK.mp h1;have:n=x:=by simpa using d
   rw[this];rfl
structure Tk (hd cH:Hd) (N:Ø) (n:Int) (z:Ş):Prop where
 win:Win hd N (U n)
 key:hd n=U z
 oth:∀b,b≠n->cH b=hd b
 nxt:∀x,cH n=U x->ZQ z x<=0
 up:Yq N
theorem Tk.ge{hd a:Hd}{N:Ø}{n:Int}{z:Ş}(h:Tk hd a N n z){b:Int}(hb:b∈N){y:Ş}(hy:a b=U y):ZQ z y<=0:=by
 by_cases e:b=n
 ·exact h.nxt y #[eP,e,hy]
 ·obtain _|x|c|hw:=h.win;rw[rS,ÄX,c];rw[h.oth b e]at hy;rcases hw b hb y hy with z|z
  ·exact È z e
  ·rcases z with z|z<;>lia
inductive Ag (hd:Hd) (z:Ş):À (À Int×À Int)->Int->Int->Prop
 | nil:Ag hd z [] 0 0
 | no {C:À (À Int×À Int)} {A B:À Int} {k q:Int}:Ag hd z C k q->(Win hd A af\/Win hd B af)->Ag hd z (C++[(A,B,)]) k q
 | eq {C:À (À Int×À Int)} {A B:À Int} {k q:Int} {a b:Int} {x y:À Nat}:Ag hd z C k q->Win hd A (U a)->Win hd B (U b)->hd a=U x->hd b=U y->lcp x z=lcp y z->Ag hd z (C++[(A,B,)]) (k+1) (q+((lcp x y:Nat)-(lcp x z:Nat)+1))
 | ne {C:À (À Int×À Int)} {A B:À Int} {k q:Int} {a b:Int} {x y:À Nat}:Ag hd z C k q->Win hd A (U a)->Win hd B (U b)->hd a=U x->hd b=U y->lcp x z≠lcp y z->Ag hd z (C++[(A,B,)]) (k+1) q
theorem Je{α:Type}{C D:À α}{c d:α}(h:C++[c]=D++[d]):C=D/\c=d:=by have:=List.append_inj' h rfl;exact(this.1,by simpa using this.2)
theorem Jd:∀ (x z y:À Nat),lcp z y<lcp x z->ZQ x y=ZQ z y
 | [],z,y,h=>by rw[Êx]at h;lia
 | _::_,[],y,h=>by rw[UP]at h;lia
 | a::x,b::z,[],h=>by unfold ZQ;rfl
 | a::x,b::z,c::y,h=>by
  unfold lcp at h;by_cases e:a=b
  ·subst e;rw[Æ rfl]at h;by_cases d:a=c
   ·subst d;rw[Æ rfl]at h;unfold ZQ;rw[Æ rfl,Æ rfl];exact Jd x z y Á
   ·unfold ZQ;rw[hD,d,d]
  ·rw[w8];lia
theorem Zsr{x z y:Ş}(h:lcp z y<lcp x z):lcp x y=lcp z y:=by have:=Op x y z;rw[Vp y z]at this;lia
theorem Zux{x z y:Ş}(h:lcp x z=lcp y z):lcp x z<=lcp x y:=by have:=Op x y z;lia
theorem Jc{x z y:Ş}{a b:Int}(h:lcp y z<lcp x z)(hz:ZQ z y<=0):Btr x a y b/\lcp x y=lcp y z:=by
 rw[Vp y z]at h ⊢;refine(.inl ?_,Zsr h);rw[Jd x z y h];rcases Int.lt_or_eq_of_le hz with g|g
 ·exact g
 ·have e:=Ol _ _ g;subst e;rw[JZ]at h;have:=(TY x z).2;lia
abbrev Com:=Ã (Int×Int)
def TC(hd:Hd)(z:Ş)(M:Ø)(c:Com):Prop:=Win hd M (Ř õ)/\∀p,c=U p->∃x,hd p.1=U x/\p.2=#[gB,x,z]
theorem Zpu{hd c:Hd}{N M:Ø}{n:Int}{z:Ş}{s:StL}(T:Tk hd c N n z)(hM:Sub N M)(h2:ÃJ)(p:n∈M)(ok:Z2 hd s N) :
  (Win c Ák af/\Úz)\/X3 λt b y=>Win c Ák (U b)/\c b=U y/\b∈N/\Z1 s (ZV M)=U (U (t,b,#[gB,y,z],)):=by
 have r:=hM.rise T.up;have nd:=Sa r;have q:=NL r (TF p);have u:=(ok.sub hM).at_side h2 n;have g:#[s9,Y8]:=λb d=>(NK M n).mem_iff.mp (QF _ d);have h:#[s9,Zt]:=λb d=>(NK M n).mem_iff.mp (QU _ d);have A:Win hd Ŷ (U n):=by obtain _|x|f|hw:=T.win;exact(TF p,x,f,λb d y a=>hw b (Ê1 (h b d)) y a)
 have i:∀m∈Y8 M n,c m=hd m:=λm B=>T.oth m λe=>q (e ▸ B);have j:(Ák).Nodup:=by unfold Y8;split;exact Sa (Sb r);exact Sa (Sc r)
 obtain w|hw:=Win.ex hd Ák j;cases w with
 | none=>exact .inl (hw.congr i,u.2 (.inr hw))
 | some b =>
  obtain⟨y,a⟩:∃y,hd b=U y:=by obtain _|y|a|_:=hw;exact(y,a)
  obtain t|k|e|o:=u.1 n b z y A hw T.key a;have v:=g b hw.1;have C:b≠n:=λz=>q (z ▸ hw.1);have D:Btr z n y b:=by obtain _|x|f|l:=T.win;rw[rS,T.key,f];exact(l b (Ê1 v) y a).resolve_left C
  have E:k=b:=by
   rcases o with⟨_,e⟩|⟨e,_⟩
   ·exact e
   ·exact(D.asym e).elim
  subst E;exact .inr (t,k,y,hw.congr i,by rw[i k hw.1];exact a,Ê1 v,by rw[Vp y z];exact e)
theorem Jb(ns:Ø):(XA ns).length=(Č+1) / 2:=by unfold XA mid;rw[Qw];lia
theorem Ja(ns:Ø):(Wx ns).length=Č / 2:=by unfold Wx mid;rw[QZ];lia
def Ws:Nat->À Int->Int->À Èc
 | 0,_,_=>[]
 | f+1,ns,n=>if Č<=1 then [] else if n∈XA ns then Wx ns::Ws f (XA ns) n else XA ns::Ws f (Wx ns) n
def Xz(ns:Ø)(n:Int):À Int:=if n∈XA ns then XA ns else Wx ns
def Wj(ns:Ø)(n:Int):À Int:=if n∈XA ns then Wx ns else XA ns
theorem RZ{ns:Ø}{n:Int}(h:ÎB):(Xz ns n).length<Č:=by
 unfold Xz;split
 ·rw[Jb];lia
 ·rw[Ja];lia
theorem ZoZ{ns:Ø}{n:Int}(h:ÎB):0<(Xz ns n).length:=by
 unfold Xz;split
 ·rw[Jb];lia
 ·rw[Ja];lia
theorem NH{f:Nat}{ns:Ø}{n:Int}(h:ÎB):Ws (f+1) ns n=Wj ns n::Ws f (Xz ns n) n:=by
 conv=>lhs;unfold Ws
 rw[zf,Á];unfold Wj Xz;split<;>rfl
theorem Vi{f:Nat}{ns:Ø}{n:Int}(h:Č<=1):Ws f ns n=[]:=by
 cases f with
 | zero=>rfl
 | succ f=>unfold Ws;rw[Æ h]
theorem I0:∀ (f g:Nat) (ns:À Int) (n:Int),Č<=f+1->Č<=g+1->Ws f ns n=Ws g ns n
 | 0,g,ns,n,h,_=>by rw[Vi Á,Vi Á]
 | f+1,0,ns,n,_,h=>by rw[Vi Á,Vi Á]
 | f+1,g+1,ns,n,h1,h2=>by
  by_cases h:1<Č
  ·have:=RZ (n:=n) h;rw[NH h,NH h,I0 f g _ n Á Á]
  ·rw[Vi Á,Vi Á]
def way(ns:Ø)(n:Int):À Èc:=Ws Č ns n
theorem IZ{ns:Ø}{n:Int}(h:ÎB):way ns n=Wj ns n::way (Xz ns n) n:=by
 unfold way;cases e:Č with
 | zero=>lia
 | succ f=>have:=RZ (n:=n) h;rw[NH h,I0 f (Xz ns n).length _ n Á Á]
theorem NG{ns:Ø}{n:Int}(h:Č<=1):way ns n=[]:=Vi h
theorem IY(n:Int):∀ns:À Int,inV ÄE ξ=decide (n∈ns)
 | []=>rfl
 | m::r=>by
  have ih:=IY n r;unfold inV at ih ⊢;rw[Qj,Qa3,ih];by_cases h:m=n
  ·subst h;simp[eqV]
  ·have:(m == n)=false:=by simpa using h
   simp[eqV,this,Áp,Ás h]
theorem IX:∀ns:À Int,(ξ).all Xl=true
 | []=>rfl
 | _::r=>by rw[Qj,ÐE,IX r];rfl
def Rd(H:Hp):À ae->À Èc->Prop
 | [],[]=>Àx
 | l::a,d::ds=>H l=U (.lst (Âd ì))/\Rd H a ds
 | _,_=>ĕ
theorem Rd.len{H:Hp}:∀ {a:À ae} {ds:À (À Int)},Rd H a ds->ļ=ds.length
 | [],[],_=>rfl
 | [],_::_,h=>Àq
 | _::_,[],h=>Àq
 | _::a,_::ds,h=>by rw[QA,QA,Rd.len h.2]
theorem ÎC{H b:Hp}:∀ {a:À ae} {ds:À (À Int)},(∀l∈a,∀o,H l=U o->b l=U o)->Rd H a ds->Rd b a ds
 | [],[],_,_=>trivial
 | [],_::_,_,h=>Àq
 | _::_,[],_,h=>Àq
 | l::a,_::ds,k,h=>(k l Ö _ h.1,ÎC (λx hx=>k x (Ql _ hx)) h.2)
theorem Rd.app{H:Hp}:∀ {a:À ae} {ds:À (À Int)} {b:À ae} {c:À (À Int)},Rd H a ds->Rd H b c->Rd H (a++b) (ds++c)
 | [],[],_,_,_,h=>h
 | [],_::_,_,_,h,_=>Àq
 | _::_,[],_,_,h,_=>Àq
 | _::a,_::ds,_,_,h,g=>(h.1,Rd.app h.2 g)
theorem Rd.rev{H:Hp}:∀ {a:À ae} {ds:À (À Int)},Rd H a ds->Rd H a.reverse ds.reverse
 | [],[],h=>h
 | [],_::_,h=>Àq
 | _::_,[],h=>Àq
 | l::a,d::ds,h=>by rw[QaT,QaT];exact Rd.app (Rd.rev h.2) (h.1,trivial)
def NF:Sp:=λvs H Q _=>X3 λ(a:ae) (ns:À Int) (n:Int)=>vs=#[r2,a,n]/\H a=U (.lst ξ)/\1<=Č/\Č<=200 /\
 ∀ (r:ae) (b:À ae) (c:Hp),H r=af->c r=U (.lst (Âg ú))->r ∉ b->(∀l∈b,H l=af)->Rd c b (way ns n).reverse->ZD H c->Q Ái c
def Dn(H:Hp)(a o:ae)(ns:Ø)(n:Int)(b:ae)(c:Ø)(d:Š)(e:Hp):Prop :=
 ∃done:À (À Int),e b=U (.lst (Ř ì))/\b≠o/\1<=ĵ/\ĵ<=200/\way ns n=done++way c n/\Rd e d done/\e o=U (.lst (Âd ú))/\ZD H e/\(∀l∈d,H l=af)/\o ∉ d/\ů+ĵ<=200
theorem Dn.step{H:Hp}{a o:ae}{ns:Ø}{n:Int}{b:ae}{d:Ø}{h:Š}{i f:Hp}(D:Dn H a o ns n b d h i)(v:H o=af)(h1:1<ů)(s:ZD i f){x y:ae}(hx:f x=U #[zn,Xz,d])(hy:f y=U #[zn,Wj,d])(nx:i x=af)(j:i y=af) :
  Dn H a o ns n x (Xz d n) (h++[y]) ÚA:=by
 obtain done|d1|d2|d3|d4|w|z|m|p|A|q|d11:=D;have r:x≠o:=(Ze m nx).symm;have t:y≠o:=(Ze m j).symm;have sl:=RZ (n:=n) h1;have k:∀l,l≠o->∀u,f l=U u->ÚA l=U u:=λl hl u g=>by rw[Zc hl];exact g
 refine(done++[Wj d n],k x r _ hx,r,ZoZ h1,by lia,by rw[w,IZ h1,Ñ1];rfl,?_,?_,λc u g=>?_,?_,?_,?_)
 ·refine Rd.app (ÎC (λl hl u g=>k l (λe=>q (e ▸ hl)) u (s _ _ g)) z) (k y t _ hy,trivial)
 ·rw[Zb,Qf];rfl
 ·rw[Zc (Ze g v)];exact s _ _ (p _ _ g)
 ·intro l hl;rcases í hl with hl|hl
  ·exact A l hl
  ·rw[å hl];exact p.free j
 ·intro B;rcases í B with hl|hl
  ·exact q hl
  ·exact t (å hl).symm
 ·rw[Qi,QI];lia
theorem Zuc(T:Ù)(eU:Óg):Df P w K mg Â 2 "way_up" ÄJ NF:=by
 rw[hi,T.t_way_up.df,Vw];obtain a|p|n|rfl|O|h1|R|q:=h;refine(_,#[Zf,#[gR,2,Vw.nd],#[Zf,#[sl,Vw.nd,0],#[Zf,(@RF _ _ _ _ _ _ Ο #[ry,WF,ÒU] #[Zf,#[YB,#[ZA,eU,hr,ÊX,É],#[gT,K,2,#[d7,4,Vw.nd,5]]],#[Zg,#[ZN,#[Zn,(inQ K),‹1›,‹4›,Áa],#[Zf,#[fY,2,5],#[Zg,#[sl,Vw.nd,4]]],#[Zf,#[fY,2,4],#[Zg,#[sl,Vw.nd,5]]]]]]),#[Zf,#[ZI,(@ZuO _ _ _ _ _ _ _ _ _ QB PySem.F.slot_list_reverse PySem.F.type_list_reverse Zlw ‹2› É É)],ÄN]]]],Ŵ,λo g=>?_);have S:a≠o:=Ze O g;refine(_,rfl,λm W X=>X5 λ(b:ae) (d:À Int) (i:À ae) (Y Z:Ã V)=>W=[U Ħ,U ÄE,U (.ref o),U ÂT,Y,Z]/\Dn H a o p n b d i X/\m=ů,(_,a,p,[],af,af,rfl,([],?_,S,h1,R,rfl,trivial,Zb,Zi g _,#[ex,l,j],(λB=>by cases B),by simpa using R),rfl),?_)
 ·rw[Zc S];exact O
 rintro m W X ⟨b,d,i,Y,Z,rfl,D,rfl⟩;obtain done|d1|d2|d3|d4|d5|d6|C|d8|d9|pU|d11:=id D;have hlc:Ót=(ů:Int):=by rw[Qa]
 refine(_,rfl,b,_,rfl,.inl (Ï d1),_,_,rfl,rfl,_,rfl,?_);rw[f2,F]
 ·have G:(1:Int)<Ót:=Ľ F;have I:1<ů:=by lia
  refine ÚB;refine(_,rfl,b,d,rfl,Ï d1,d4,λt x y H3 ht hx hy nxy et ex ey J ntx nty=>?_);rw[hs,t,et];have r:=J _ _ C;have bf:#[sV,i.map,ú]:=by rw[Qa];exact ÀY
  have sl:=RZ (n:=n) I;refine(_,rfl,_,rfl,x,_,rfl,.inl (Ï ex),rfl,IX _,_,rfl,?_);show if inV (ì n) ((XA d).map ì)=true then _ else _
  rw[IY];rw[f2,L]
  ·have k:n∈XA d:=Ľ L;have M:Xz d n=XA d:=by unfold Xz;rw[Æ k]
   have N:Wj d n=Wx d:=by unfold Wj;rw[Æ k]
   refine(_,rfl,.inl #[es,r],_,rfl,o,_,_,rfl,rfl,r,bf,_,rfl,_,?_,x,Xz d n,i++[y],_,_,rfl,D.step g I J #[ea,M,ex] #[ea,N,ey] hx hy,rfl);exact sl
  ·have k:¬ n∈XA d:=λz=>L ÇW;have M:Xz d n=Wx d:=by unfold Xz;rw[zf,k]
   have N:Wj d n=XA d:=by unfold Wj;rw[zf,k]
   refine(_,rfl,.inl #[es,r],_,rfl,o,_,_,rfl,rfl,r,bf,_,rfl,_,?_,y,Xz d n,i++[x],_,_,rfl,D.step g I J #[ea,M,ey] #[ea,N,ex] hy hx,rfl);exact sl
 ·have G:¬ (1:Int)<Ót:=λz=>F ÇW;have e:way p n=done:=by rw[d5,NG Á,Qab]
  refine(_,rfl,.inl #[es,C],o,_,rfl,rfl,C,_,rfl,q o i.reverse _ g (by rw[Zb,List.map_reverse]) (λB=>pU (ÚC B)) (λl j=>d9 l ÚD) ?_ λc u v=>?_)
  ·rw[e];refine ÎC (λl j u v=>?_) d6.rev;rw[Zc (λz=>by subst z;exact pU ÚD)];exact v
  ·rw[Zc (Ze v g)];exact d8 _ _ v
theorem IW:∀ (k:Nat) (M:À Int) (n:Int),ÀG<=2 ^ k->(way M n).reverse=(Ór).map (λX=>Y8 X n)
 | 0,M,n,h=>by rw[NG #[d8,h]];rfl
 | k+1,M,n,h=>by
  unfold Z5;by_cases h2:2<=ÀG
  ·rw[Æ h2,IZ Á,QaT,Qf];have a:(Ŷ).length<=2 ^ k:=by
    rw[Îp]at h;unfold Zt;split
    ·unfold lo mid;rw[Qw];lia
    ·unfold up mid;rw[QZ];lia
   have e:=IW k Ŷ n a;rw[<- e];rfl
  ·rw[Ç h2,NG Á];rfl
theorem Zp2{M:Ø}(h:ÃJ)(n:Int):Y8 M n≠[]:=by
 unfold Y8;split
 ·exact Xr (Vl h).2
 ·exact Xr (V0 h).2
theorem Zmh{M:Ø}(r:Yq M)(h:ÃJ)(n:Int):ZV M=(if (Ák).headD 0<(Ŷ).headD 0 then (Y8 M n).headD 0 else (Zt M n).headD 0,if (Ák).getLastD 0>(Ŷ).getLastD 0 then (Y8 M n).getLastD 0 else (Zt M n).getLastD 0,):=by have a:=Ob h;have b:=Oc h;have e:=UO (Xr (V0 h).2);have f:=UN (Xr (V0 h).2);have g:=UO (Xr (Vl h).2);have i:=UN (Xr (Vl h).2);have c:=ZP r e g;have d:=ZP r f i;unfold Zt Y8;split<;>(refine Prod.ext ?_ ?_<;>dsimp only<;>first|lia|(split<;>lia))
theorem Rd.get{H:Hp}:∀ {c:À ae} {ds:À (À Int)},Rd H c ds->∀ {i:Nat} {l:ae} {d:À Int},c[i]? = U l->ds[i]? = U d->H l=U (.lst (Âd ì))
 | [],[],_,i,l,d,h,_=>by simp at h
 | l::c,d::ds,(h1,h2),0,a,b,e,f=>by simp at e f;rw[<- e,<- f];exact h1
 | l::c,d::ds,(h1,h2),i+1,a,b,e,f=>Rd.get h2 #[d8,e] #[d8,f]
def IV:Sp:=λvs H Q _=>X3 λ(a:ae) (N:À Int) (n:Int)=>vs=#[r2,a,n]/\H a=U (.lst ÊW)/\n∈N/\ğ<=60/\Yq N /\
 ∀ (r:ae) (c:À ae) (b:Hp),H r=af->b r=U (.lst (Ř ú))->ĵ=(Ê2).length->(∀ (i:Nat) (t:ae) (X:À Int),c[i]? = U t->Ê2[i]? = U X->b t=U #[gv,X])->ZD H b->Q Ái b
theorem Zlv(T:Ù)(jN:ÚE):Df P w K mg Â 3 "matches_up" ÄJ IV:=by
 rw[hi,T.t_matches_up.df,Vv];obtain a|N|n|rfl|ha|hn|rA|gj|q:=h;refine(_,#[Zf,#[gR,2,Vv.nd],#[Zf,#[sl,Vv.nd,1],#[Zf,#[Zx,4,Vv.nd,á,‹1›],#[Zf,#[XT,Ο,#[iL,K,#[rX,jN,hr,0,1]],#[rT,5,Vv.nd],#[Zf,#[Zx,3,Vv.nd,á,#[Zp,(Mq rfl),É,ÎD,ÎE,#[Zd,‹3›,#[ZC,ω,‹5›,Þ]]]],#[Zf,#[Zx,4,Vv.nd,á,#[Zp,(Rw rfl),É,Óu,boot_max,#[Zd,‹4›,#[ZC,ω,‹5›,Îb]]]],#[Zg,#[ZI,#[YQ,QB,QC,QD,ZY,‹2›,#[Zd,#[YG,#[e2,3,4]]]]]]]]],ÄN]]]],?_);have iR:=Qbe hn;have yh:ğ<=2 ^ 8:=Qk rA Ë;obtain BK|zR|EW:=NI 8 N n hn yh;rw[y7,Ŵ,r,I];rw[rC,J,I,k,H,r];generalize upd H r (.lst [])=H1 at J k ⊢;refine(_,rfl,_,rfl,_,rfl,_,rfl,a,N,n,rfl,J _ _ ha,iR,by lia,λwy x H2 EX zS hnot eT L M=>?_);rw[IW 8 N n yh]at L;have p9:=L.len;rw[Qa]at p9;have O:=J.trans M;refine(wy,rfl,#[ho,zS],?_);refine RE (K:=K) (a:=wy) (xs:=x.map ú) (λi B d=>X2 λ(R:Ã V) (c:À ae)=>B=[U Ħ,U ÄE,U Ái,U (.int (#[lp].headD 0)),U (.int (#[lp].getLastD 0)),R]/\i<=ċ/\ĵ=i/\d r=U (.lst (Ř ú))/\(∀ (j:Nat) (t:ae) (X:À Int),c[j]? = U t->Ê2[j]? = U X->d t=U #[gv,X])/\(∀t∈c,t≠r/\∃xs,d t=U Γ)/\(∀b o,H2 b=U o->b≠r->d b=U o)) (_,[],rfl,Qs _,rfl,M _ _ k,(λj t X h=>by simp at h),#[ex,t,h],λb o h _=>h) (λi B d _ hq=>by obtain _|_|_|_|_|_|_|_|e:=hq;exact Ï #[sX,e,zS,k,EX]) ?_ ?_
 ·rintro i y B d m ⟨R,c,rfl,hi,S,g,W,yi,e⟩;rw[Qp]at m;cases p:x[i]? with
  | none=>rw[p]at m;cases m
  | some l =>
  rw[en,p,m,b9,ċ];cases v:(Z5 8 N n)[i]? with
  | none=>rw[Qa1]at v;lia
  | some X =>
  obtain x1|x2|x3|x4:=BK i X v;have Z:H2 l=U #[zn,Y8,X]:=L.get p (by rw[Qp,v];rfl);have Br:l≠r:=λz=>by rw[z]at Z;rw[M _ _ k]at Z;have:=eT l (Qr p);rw[gC,k]
  have fD:=e _ _ Z Br;have cQ:=Zp2 x2 n;have C:=Zmh (x1.rise gj) x2 n;rw[x4]at C;have e3:low n Ê2 (i+1)=X:=by show (Z5 8 N n).getD i []=X;rw[QP,v];rfl
  refine(_,rfl,_,rfl,l,_,_,_,rfl,rfl,Ï fD,Jv cQ,_,_,rfl,_,rfl,_,rfl,_,rfl,l,_,_,_,rfl,rfl,Ï fD,Jw cQ,_,_,rfl,_,rfl,.inl #[es,g],_,rfl,_,rfl,Á1,λt D=>?_);have F:r≠t:=Ze g D;refine(r,_,_,rfl,rfl,by rw[Zc F];exact g,Óp,U Ă,c++[t],?_,b9,by rw[Qi,QI];lia,by rw[Zb,Qf];rfl,λj u Y hu hY=>?_,λu hu=>?_,λb o G nb=>?_)
  ·rw[e3];have h1:=ł Prod.fst C;have h2:=ł Prod.snd C;simp only at h1 h2;rw[show X.headD 0=(ZV X).1 from rfl,show X.getLastD 0=(ZV X).2 from rfl,h1,h2];rfl
  ·have yj:∀ (u:ae) (xs:À V),d u=U Γ->(upd (upd d t (.tup [.int (if (Y8 X n).headD 0<#[lp].headD 0 then (Y8 X n).headD 0 else (low n Ê2 i).headD 0),.int (if (Y8 X n).getLastD 0>#[lp].getLastD 0 then (Y8 X n).getLastD 0 else (low n Ê2 i).getLastD 0)])) r (.lst (Ř ú++[.ref t]))) u=U Γ:=λu xs hu=>by rw[Zc (λz=>by rw[z,g]at hu;cases hu),Zc (Ze hu D)];exact hu
   by_cases hj:j<ĵ
   ·rw[QT hj]at hu;exact yj u _ (W j u Y hu hY)
   ·have ej:j=ĵ:=by have:=(Ł hu).1;rw[Qi,QI]at this;lia
    subst ej;rw[Q6 ë,Ós]at hu;cases hu;rw[eN,S,v,hY];rw[Zc F.symm,Zb,C]
  ·rcases í hu with hu|hu
   ·obtain g1|xs|g2:=yi u hu;exact(g1,xs,by rw[Zc g1,Zc (Ze g2 D)];exact g2)
   ·rw[å hu];exact(F.symm,_,by rw[Zc F.symm];exact Zb)
  ·have:=e b o G nb;rw[Zc nb,Zc (Ze this D)];exact this
 ·rintro B d ⟨R,c,rfl,_,S,g,W,_,e⟩;rw[Qa]at S;exact(_,rfl,q r c d I g Á W (λb o G=>e b o (O b o G) (Ze G I)))
def CV(H:Hp)(v:V)(c:Com):Prop:=(c=af/\v=.non)\/X2 λ(t:ae) (p:Int×Int)=>c=U p/\v=.ref t/\H t=U #[hX,p.1,p.2]
theorem CV.keep{H a:Hp}{v:V}{c:Com}(h:CV H v c)(k:∀t xs,H t=U Γ->a t=U Γ):CV a v c:=by
 rcases h with h|⟨t,p,b,d,e⟩
 ·exact .inl h
 ·exact .inr (t,p,b,d,k _ _ e)
theorem Zpy{s:StL}{k:ō}{a:ÃH}(h:Z1 s k=U a):s.any Îj=true:=Ç3 (_,JA h,Ĉ rfl)
theorem NE{s:StL}{k:ō}{a v:ÃH}(h:Z1 s k=U a):(ÊR).length=ŧ:=by unfold Yf;rw[Æ (Zpy h),Qa]
def AgS(hd:Hd)(z:Ş)(A B:Ø)(k q:Int):Prop:=∀C a b,Ag hd z C a b->Ag hd z (C++[(A,B,)]) (a+k) (b+q)
def IU(e f:ae):Sp:=λvs H Q _=>X15 λ(m rd sd:ae) (L:À Zz) (s:StL) (nb li lo:Int) (g:V) (h:ae) (v:V) (c:Com) (z:À Nat) (M:À Int) (n:Int)=>vs=[.ref m,.ref h,v]/\ZO e f H m rd sd L s nb li lo g/\H h=U #[gv,M]/\CV H v c/\TC Ą z Ŷ c /\
 ((Win Ą Ák af/\Úz)\/X3 λt b y=>Win Ą Ák (U b)/\hdM L b=U y/\Z1 s (ZV M)=U (U (t,b,#[gB,y,z],))) /\
 (∀b∈M,∀y,hdM L b=U y->ZQ z y<=0)/\Yq M/\(∀b∈M,b∈ZB L)/\2<=ÀG/\n∈M /\
 ∀ (i:V) (l:Com) (d:StL) (k q:Int) (a:Hp),CV a i l->TC Ą z M l->Wt Ą d Ŷ Ák (ZV M)->(∀j,j≠ZV M->Z1 d j=Z1 s j)->AgS Ą z Ŷ Ák k q ->
  ZO e f a m rd sd L d nb (li+k) (lo+q) g->#[e4,H,sd,a]->Q i a
theorem IT{L:ô}(nd:ÊU){b:Int}(hb:b∈ZB L){y:Ş}(hy:hdM L b=U y):∃e∈L,e.n=b/\∃x,Ò[e.g]? = U x/\y=cds x:=by
 obtain e|c|rfl:=TQ hb;rw[Vk nd c]at hy;cases a:Ò[e.g]? with
 | none=>rw[a]at hy;cases hy
 | some x=>rw[a]at hy;cases hy;exact(e,c,rfl,x,a,rfl)
theorem Zo6(T:Ù)(cx:Úi):Mf P w K mg Â 4 am "play_again" ÍP (IU aw am):=by
 rw[hi,T.t_Merge_play_again.mf,T9];obtain m|rd|I|L|s|nb|li|lo'|aH|tm|v|c|z|M|n|rfl|Mg|mn|yk|(wS|EY)|bD|fS|gj|mj|h2|hn|q:=h;refine(_,#[Zf,#[Zx,3,T9.nd,á,(@Ztx _ _ _ _ _ _ _ _ hr ġ ‹1› É É É)],#[Zf,#[ZN,#[hh,3],ÄN,ò],#[Zf,#[ZN,#[hh,2],#[Zf,#[YB,ř,#[iD,1,hr]],#[fe,3]],ò],#[Zf,#[ZN,#[Zn,YT,Ê3,ÎF,ă],#[Zf,#[YB,#[XF,cx,â,hr,‹0›,#[Zd,Ê3,ÎF,Ê3]],#[d6,4,T9.nd,5,6]],#[Zf,#[YB,#[YG,#[e2,5,6]],#[iD,1,hr]],#[Zg,#[Zm,#[YG,#[Zd,‹4›,Ê3]]]]]],ò],#[Zf,Óe,#[Zf,#[ZN,#[Zn,WF,Ê3,ÎF,ă],ÄN,ò],#[Zf,#[YB,‹2›,#[iD,1,hr]],#[fe,3]]]]]]]],?_);rw[ep,dx,N,Mg.ob];have sO:#[h8,H]:=mn;have Z:=NK M n;have dg:=Z9.t (k:=Ê4) Ê5 sO;rw[JB]at dg;have sA:#[s9,Zt]:=λb r=>Z.mem_iff.mp (QU _ r);have sB:#[s9,Y8]:=λb r=>Z.mem_iff.mp (QF _ r);have iI:=NL gj (TF hn);have dis:∀a b,a∈Zt M n->b∈Y8 M n->a≠b:=λa b ha r e=>by
  subst e;unfold Zt Y8 at *
  split at ha
  ·rename_i hl;rw[sC,hl,r];have:=ZP gj ha r;lia
  ·rename_i hl;rw[hy,hl,r];have:=ZP gj r ha;lia
 refine(_,rfl,m,am,dx,_,_,rfl,N,â,Æb,TN ..,I,rfl,.inr (_,.inl Ê5),_,rfl,_,dg,?_);rcases bD with⟨u,W⟩|⟨t,b,y,u,D,W⟩
 ·have ev:#[yD].getD .non=.non:=by rcases W with e|e<;>rw[e]<;>rfl
  rw[ev];refine(_,rfl,rfl,_,rfl,Y2 rfl (_,rfl,q v c s 0 0 H yk ((Îh wS u).perm Z,EY) ((λa b x y _ wb _ _=>nomatch u.one wb),λ_=>W) ÄV (λC k0 q0 g=>by rw[QaL,QaL];exact .no g (.inr u)) (Mg.cast Á Á) Óh))
 have bO:=Mg.ats _ (JA W) _ rfl;have e1:#[yD].getD .non=.ref t:=by rw[W];rfl
 rw[e1];have BL:=Mg.sfew;have fU:#[sV,kvS,s]:=by unfold kvS;rw[mQ]
 rw[a9];have vF:=sB b u.1;rcases yk with⟨rfl,rfl⟩|⟨F,p,rfl,rfl,J⟩
 ·refine Óv;refine(_,rfl,m,am,dx,_,_,rfl,N,â,Æb,TN ..,_,rfl,I,_,rfl,XH.t (k:=Ê4) Ê5 sO fU,?_);rw[show V.non=stV af from rfl,Sd];have cB:(Yf s (ZV M) af).length<=200:=by rw[NE W];exact BL
  have M2:=Mg.put (k:=ZV M) (v:=af) #[ex,t,X] cB;have B:Win Ą Ŷ af:=wS;refine(_,rfl,q ÁO (U (b,#[gB,y,z],)) _ 0 0 _ #[se,t,?_] ((Îi B u).perm Z,λp hp=>?_) ((λa b x y wa _ _ _=>nomatch B.one wa),λ_=>.inr ?_) (λj hj=>?_) (λC k0 q0 g=>?_) (M2.cast Á Á) (λb o r _ n2=>by rw[Zc n2];exact r))
  ·rw[rN,Zc,z,Ê5,bO]
  ·cases hp;exact(y,D,rfl)
  ·rw[Ww,Æ rfl]
  ·rw[Ww,Ç hj]
  ·rw[QaL,QaL];exact .no g (.inl B)
 rw[ep,a,fa,p];obtain x|G|EZ:=EY _ rfl;simp only at G EZ;subst EZ;have B:Win Ą Ŷ (U a):=wS;have E1:=sA a B.1;have eQ:=dis a b B.1 u.1;obtain O|ye|rfl|i|hzx|rfl:=IT Mg.nd (mj a E1) G;obtain eb|yf|rfl|l|hzy|rfl:=IT Mg.nd (mj b vF) D;rw[hk,c0,O.n,Â0,0,O.n];rw[hk,c1,O.n,Â0,1,Â0];rw[hk,d0,eb.n,Èd,0,eb.n];rw[hk,d1,eb.n,Èd,1,Èd];rw[a9];refine(_,rfl,F,_,_,_,rfl,rfl,ö J,c1,_,rfl,t,_,_,_,rfl,rfl,ö bO,d1,rfl,_,rfl,Y0 ų ų)
 ·have ef:lcp (cds i) z=lcp (cds l) z:=by have:=ÃG;injection this with this;lia
  have oJ:=Zux ef;refine(_,rfl,m,dx,_,rfl,N,Ju ..,_,rfl,F,_,_,_,rfl,rfl,ö J,c0,_,rfl,t,_,_,_,rfl,rfl,ö bO,d0,_,rfl,F,_,_,_,rfl,rfl,ö J,c1,m,rd,I,L,s,nb,li,lo',aH,O,eb,i,l,lcp (cds i) z,rfl,Mg,ye,yf,hzx,hzy,oJ,λt5 wi R H5 hw BD vz M5 b5=>?_);rw[fm,t5,vz];have vA:2<=aq:=by decide
  refine(_,rfl,_,rfl,vA,λS oY=>?_);have s6:=Zi oY #[hX,R,Èe];have qh:(upd H5 S #[hX,R,Èe]) S=U #[hX,R,Èe]:=Zb;have M6:=M5.same s6;generalize upd H5 S (.tup [.int R,.int ((lcp (cds i) (cds l):Nat):Int)])=H6 at s6 qh M6 ⊢;rw[ep,BE,BF,M6.ob];have BM:tm≠m:=λz=>by rw[z,N]at mn;cases mn
  have BN:F≠m:=λz=>by rw[z,N]at J;cases J
  have E3:#[h8,H6]:=s6 _ _ (b5 _ _ sO BM);refine(_,rfl,m,am,BE,_,_,rfl,BF,â,Æb,TN ..,_,rfl,I,_,rfl,XH.t (k:=Ê4) M6.stays E3 fU,?_);rw[show ú S=stV (U (S,R,Èe,)) from rfl,Sd];have cB:(Üu).length<=200:=by rw[NE W];exact BL
  have M7:=M6.put (k:=ZV M) (v:=U (S,R,Èe,)) (λt X=>by injection X with X;rw[<- X];exact qh) cB;have b7:∀b o,H b=U o->b≠m->b≠I->(upd H6 I (.dT (kvS Üu))) b=U o:=λb o r n1 n2=>by rw[Zc n2];exact s6 _ _ (b5 b o r n1)
  have E4:F≠I:=λz=>by rw[z,Ê5]at J;cases J
  generalize upd H6 I (.dT (kvS (Yf s (ZV M) (U (S,R,((lcp (cds i) (cds l):Nat):Int),)))))=H7 at M7 b7 ⊢;refine(_,rfl,_,rfl,F,_,_,_,rfl,rfl,ö (b7 _ _ J BN E4),c1,vA,λt8 E5=>?_);have wn:Win Ą M (U wi):=by
   rcases hw with⟨Y,rfl,_⟩|⟨Y,rfl,_⟩
   ·exact(Ç0 B u G D Y).perm Z
   ·exact(ÊO B u G D ((ÇZ eQ).resolve_left Y)).perm Z
  refine q (.ref t8) (U (wi,Â0,)) _ 1 ((lcp (cds i) (cds l):Nat)-(lcp (cds i) z:Nat)+1) _ #[se,t8,Zb] (wn,λp hp=>?_) (λa b x' y' wa wb rC rD=>?_,λiI=>?_) ÚF (λC k0 q0 g=>.eq g B u G D ef) ((M7.same (Zi E5 _)).cast rfl rfl) (λb o r n1 n2=>Zi E5 _ _ _ (b7 b o r n1 n2))
  ·cases hp;rcases hw with⟨Y,rfl,_⟩|⟨Y,rfl,_⟩
   ·exact(_,G,rfl)
   ·exact(_,D,by simp only;rw[ef])
  ·rw[17];refine(S,R,by rw[Ww,Æ rfl],?_);rcases hw with⟨Y,_,rfl⟩|⟨Y,_,rfl⟩
   ·exact .inl (Y,rfl)
   ·exact .inr ((ÇZ eQ).resolve_left Y,rfl)
  ·rcases iI with z|z
   ·rw[gL,B]
   ·rw[gL,u]
 have E6:lcp (cds i) z≠lcp (cds l) z:=λe=>d (Ĉ (by rw[e]));rw[f6,N,Óf,Jy,Jx];have M2:=Mg.obj (nb':=nb) (li':=li+1) (lo':=lo') (Å8:=aH) (dx:=dx);have k2:∀b o,H b=U o->b≠m->(upd H m (.ins am dx (mgF rd nb (li+1) lo' I aH))) b=U o:=λb o r n=>by rw[Zc n];exact r
 have BN:F≠m:=λz=>by rw[z,N]at J;cases J
 have ntt:t≠m:=λz=>by rw[z,N]at bO;cases bO
 have BM:tm≠m:=λz=>by rw[z,N]at mn;cases mn
 generalize upd H m (.ins am dx (mgF rd nb (li+1) lo' I aH))=H2 at M2 k2 ⊢;have vH:=k2 _ _ J BN;have jX:=k2 _ _ bO ntt;refine(_,rfl,F,_,_,_,rfl,rfl,ö vH,c1,_,rfl,t,_,_,_,rfl,rfl,ö jX,d1,_,_,rfl,rfl,_,rfl,Y0 (λg=>?_) (λg=>?_))
 ·have hgt:lcp (cds l) z<lcp (cds i) z:=by have:Èd<Â0:=Ľ g;lia
  obtain bt|el:=Jc (a:=O.n) (b:=eb.n) hgt (fS _ vF _ D);refine(_,rfl,q (.ref F) (U (O.n,Â0,)) s 1 0 H2 #[se,F,vH] ((Ç0 B u G D bt).perm Z,λp hp=>by cases hp;exact(_,G,rfl)) (λa b x' y' wa wb rC rD=>?_,λiI=>?_) ÄV (λC k0 q0 g=>by rw[QaL];exact .ne g B u G D E6) (M2.cast rfl Á) (λb o r n1 _=>k2 b o r n1))
  ·rw[17];exact(t,_,by rw[el];exact W,.inl (bt,rfl))
  ·rcases iI with z|z
   ·rw[gL,B]
   ·rw[gL,u]
 ·have bf:lcp (cds i) z<lcp (cds l) z:=by have:¬ Èd<Â0:=λe=>g (Ĉ e);lia
  obtain bt|el:=Jc (a:=eb.n) (b:=O.n) bf (fS _ E1 _ G);rw[ny];have E7:#[h8,H2]:=k2 _ _ sO BM;refine(_,rfl,_,rfl,m,am,jL,_,_,rfl,dG,â,Æb,TN ..,_,rfl,I,_,rfl,XH.t (k:=Ê4) M2.stays E7 fU,?_);rw[show ú F=stV (U (F,O.n,Â0,)) from rfl,Sd];have cB:(Yf s (ZV M) (U (F,O.n,Â0,))).length<=200:=by rw[NE W];exact BL
  have M3:=M2.put (k:=ZV M) (v:=U (F,O.n,Â0,)) (λt X=>by injection X with X;rw[<- X];exact vH) cB;refine(_,rfl,q ÁO (U (eb.n,Èd,)) _ 1 0 _ #[se,t,?_] ((ÊO B u G D bt).perm Z,λp hp=>by cases hp;exact(_,D,rfl)) (λa b x' y' wa wb rC rD=>?_,λiI=>?_) ÚF (λC k0 q0 g=>by rw[QaL];exact .ne g B u G D E6) (M3.cast rfl Á) (λb o r n1 n2=>by rw[Zc n2];exact k2 b o r n1))
  ·rw[rN,Zc,z,M2.stays,jX]
  ·rw[17];exact(F,_,by rw[Ww,Æ rfl,Vp (cds i) (cds l),el],.inr (bt,rfl))
  ·rcases iI with z|z
   ·rw[gL,B]
   ·rw[gL,u]
def W6(n:Int)(e:Zz):Zz:=if e.n=n then (e.n,e.p,e.k,e.f,Ò,e.g+1) else e
def ÀK(L:ô)(n:Int):À Zz:=ŵ (W6 n)
theorem Vh(n:Int)(e:Zz):(W6 n e).n=e.n/\(W6 n e).p=e.p/\(W6 n e).k=e.k/\(W6 n e).f=e.f/\(W6 n e).ss=Ò:=by unfold W6;split<;>exact ÎG
theorem RY{n:Int}{e:Zz}(h:e.n=n):W6 n e=(e.n,e.p,e.k,e.f,Ò,e.g+1):=Æ h
theorem ND{n:Int}{e:Zz}(h:¬ e.n=n):W6 n e=e:=Ç h
theorem UJ(L:ô)(n:Int):ZB Èf=ZB L:=by unfold ZB ÀK;rw[Qo];exact QJ λe _=>(Vh n e).1
theorem ZrT(L:ô)(n:Int):(Èf).map (·.p)=ŵ (·.p):=by unfold ÀK;rw[Qo];exact QJ λe _=>(Vh n e).2.1
theorem Zpl(L:ô)(n:Int):kvM Èf=kvM L:=by unfold kvM ÀK;rw[Qo];refine QJ λe _=>?_;simp only[ÎH];rw[(Vh n e).1,(Vh n e).2.1]
theorem Zso{m rd sd:ae}{L:ô}{n:Int}{b:ae}(h:Fp m rd sd Èf b):Fp m rd sd L b:=by
 rcases h with h|h|h|⟨e',a,h⟩
 ·exact .inl h
 ·exact .inr (.inl h)
 ·exact .inr #[sd,h]
 ·rw[ed,e,c,a];obtain _|d|f|g|_:=Vh n e;rw[d,f,g]at h;exact .inr (.inr (.inr (e,c,h)))
theorem Fp_bump'{m rd sd:ae}{L:ô}{n:Int}{b:ae}(h:Fp m rd sd L b):Fp m rd sd Èf b:=by
 rcases h with h|h|h|⟨e,a,h⟩
 ·exact .inl h
 ·exact .inr (.inl h)
 ·exact .inr #[sd,h]
 ·obtain _|c|d|f|_:=Vh n e;refine .inr (.inr (.inr (W6 n e,Qd a,?_)));rw[c,d,f];exact h
theorem IS{n b:Int}(h:b≠n):∀L:À Zz,hdM Èf b=hdM L b
 | []=>rfl
 | e::L=>by
  have ih:=IS h L;unfold hdM hdL ÀK at ih ⊢;rw[Qj,Qj,Qj,Qaw,Qaw];have c:(toL (W6 n e)).1=e.n:=(Vh n e).1;rw[c];by_cases a:e.n=b
  ·rw[Ĉ a,Ĉ (show (toL e).1=b from a),ND (λz=>h (a.symm.trans z))]
  ·rw[ē a,ē (show ¬ (toL e).1=b from a)];exact ih
theorem IR{L:ô}(nd:ÊU){e:Zz}(he:e∈L):hdM Èg e.n=(Ò[e.g+1]?).map cds:=by have a:W6 e.n e∈ÀK L e.n:=Qd he;rw[RY rfl]at a;exact Vk (L:=ÀK L e.n) #[ea,UJ,nd] a
theorem NC(k f:ae)(g:Int):YV k f g=ÚG:=by unfold YV;rw[Xj,Zw nFK,Xj,Zw nGK,Zw nGF,Xj]
theorem Zh9(k f:ae)(g v:Int):Zv "gone" (.int v) Îd=YV k f v:=by rw[NC,NC,Zw nGK,Zw nGF,VY]
theorem Nz(k f:ae)(g:Int):(Îd).length<1000:=by rw[NC];show 3<1000;decide
theorem ZnO(k f:ae)(g:Int):(Îd).lookup ("fars" : ak)=U č:=by unfold YV;rw[Zq,Ç nGF,Zq,Æ rfl]
theorem IQ{L:ô}(pd:#[yp].Nodup){e e':Zz}(he:e∈L)(a:e'∈L)(h:e.p=e'.p):e=e':=by
 have b:((ŵ λx=>(x.p,x,)).map õ).Nodup:=by rw[Qo];exact pd
 have:=XR b #[sB,x.p,he] #[sB,x.p,a] h;rw[xJ]
theorem ZO.bump{b i:ae}{H:Hp}{m rd sd:ae}{L:ô}{s:StL}{nb li lo:Int}{j:V}(M:#[fs,b,i,j]){e:Zz}(he:e∈L)(o:e.g<Į){dp:ae} :
  ZO b i (upd H e.p (.ins b dp (YV e.k e.f #[fI,e.g]))) m rd sd (My.bump L e.n) s nb li lo j:=by
 rw[gg,p,q];obtain dq|c:=Ów;obtain r|_|_:=M.ne_p he;obtain d|_|_|u|_|_:=Èa he;refine((p,by rw[Zc r];exact q),by rw[Zc u,Zpl];exact Ň,by rw[Zc d];exact Ç8,λx a t v=>?_,λe' w=>?_,by rw[UJ];exact M.up,by rw[ZrT];exact M.pd,by unfold My.bump;rw[Qa];exact Âq,M.sfew)
 ·have:=M.ats x a t v;rw[eC,c]
 ·rw[ed,x,a,w];have R:=ÀZ x a;have g:∀ {y:Zz},y∈L->y.k≠e.p/\y.f≠e.p:=λ{y} A=>by have k:=ÀZ y A;exact((λz=>by have:=k.at'.ks;rw[z,c]at this;cases this),(λz=>by have:=k.at'.fs;rw[z,c]at this;cases this))
  obtain l|n:=g a;by_cases h:x.n=e.n
  ·have ex:x=e:=by
    have d:((ŵ λx=>(x.n,x,)).map õ).Nodup:=by rw[Qo];exact Ũ
    have:=XR d #[sB,x.n,a] #[sB,x.n,he] h;rw[xJ]
   subst ex;rw[RY rfl];exact(((dp,Zb),by show (upd H x.p _) x.k=_;rw[Zc l];exact R.at'.ks,by show (upd H x.p _) x.f=_;rw[Zc n];exact R.at'.fs),o,R.len,R.srt,R.str)
  ·rw[ND h];exact R.keep (Zc (λz=>h (by rw[IQ M.pd a he z]))) (Zc l) (Zc n)
theorem ZvW{L:ô}{e:Zz}{x:ak}(nd:ÊU)(up:Yq į)(he:e∈L)(hx:Ò[e.g]? = U x)(srt:#[sY,Ò])(W:ÚH):Tk Ą ÃK į e.n ü:=by
 refine(W,by rw[Vk nd he,hx];rfl,λb d=>IS d L,λy a=>?_,up);rw[IR nd he]at a;cases c:Ò[e.g+1]? with
 | none=>rw[c]at a;cases a
 | some f=>rw[c]at a;cases a;exact JI srt e.g x f hx c
theorem Ny{c:Ð}{b d:VK->Prop}{Q:VK}(P:V->Hp->Prop)(h1:c=true->∀a:VK,(∀v H,P v H->a v H)->b a)(h2:c=false->∀a:VK,(∀v H,P v H->a v H)->d a)(q:∀v H,P v H->Q v H):if c=true then b Q else d Q:=by
 cases c with
 | true=>rw[Æ rfl];exact h1 rfl Q q
 | false=>rw[Ç Ë];exact h2 rfl Q q
def TB(n:Int)(C:À Èc):À (À Int×À Int):=C.map λX=>(Zt X n,Y8 X n,)
theorem Zlo(rd:ae)(nb li lo:Int)(sd:ae)(a:V):#[26].lookup ("play_again" : ak)=af:=À0
def IP(c d:ae):Sp:=λvs H Q _=>X11 λ(m rd sd:ae) (L:À Zz) (s:StL) (nb li lo:Int) (h:V) (e:Zz) (x:ak)=>vs=#[r2,m,e.n]/\ZO c d H m rd sd L s nb li lo h/\e∈L/\Ò[e.g]? = U x/\Win Ą į (U e.n)/\Z2 Ą s į /\
 ∀ (f:StL) (g:Ã Int) (k q:Int) (a:Hp),ZO c d a m rd sd Èg f nb (li+k) (lo+q) (Yy g)->Win ÃK į g->Z2 ÃK f į->Ag ÃK ü (TB e.n ÎI) k q->#[gN,rd,sd,a]->Q .non a
theorem Zry(T:Ù)(be:Ç7)(gv:#[ee,3,"matches_up",ÄJ,IV])(dH:Mf P w K mg Â 4 am "play_again" ÍP (IU aw am)):Mf P w K mg Â 5 am "send_out" ÍO (IP aw am):=by
 rw[hi,T.t_Merge_send_out.mf,Ua];obtain m|O|G|L|s|nb|li|lo'|aH|e|x|rfl|M|S|hx|W|ok|q:=h;refine(_,#[Zf,#[Zx,2,Ua.nd,á,#[ib,hr,1]],#[Zf,#[VJ,‹2›,Þ,Ux],#[Zf,#[Zx,3,Ua.nd,á,#[Z0,#[Zn,Xa,#[sW,be,hr,2],ř,ă],ř,#[YG,#[Zd,‹1›,#[ZC,ω,#[ZH,‹2›],#[ZH,‹2›]]]]]],#[Zf,#[XT,Ο,#[iL,K,#[ZA,gv,hr,#[Zd,Úl,‹1›],É]],#[rT,4,Ua.nd],#[Zg,#[Zx,3,Ua.nd,á,#[XF,dH,â,hr,‹0›,#[e2,4,3]]]]],#[Zg,#[X0,‹0›,#[Z0,#[hh,3],ř,ÎF]]]]]]],?_);rw[uC];rw[sI,R,S,dp,hp,ÊV];have hg:e.g<Į:=(Ł hx).1;have tk:=ZvW Ũ M.up S hx R.srt W;refine(_,rfl,m,am,dx,_,_,rfl,hm,â,ş,Z4 ..,_,rfl,O,_,rfl,Ģ (k:=Æa) Ň (Wu Ũ S),_,rfl,e.p,aw,dp,_,_,rfl,hp,ņ,ÇY,TW ..,_,_,rfl,rfl,dp,_,hp,Nz ..,?_);rw[Zh9,show ((e.g:Int)+1)=#[fI,e.g] by lia];have M1:=M.bump S hg (dp:=dp);rw[eH,qm,H,e.p,ÚI];have k1:#[rx,H,e.p,H,ÚI]:=λb o B n=>by rw[Zc n];exact B
 generalize upd H e.p (.ins aw dp (YV e.k e.f ((e.g+1:Nat):Int)))=H1 at M1 qm k1 ⊢;have gs:((e.n,e.p,e.k,e.f,Ò,e.g+1):Zz)∈ÀK L e.n:=by have:W6 e.n e∈ÀK L e.n:=Qd S;rwa [RY rfl]at this
 have R1:=Îs _ gs;have cj:∀ {C:Hp},#[e4,H1,G,C]->∀b o,H b=U o->¬ Fp m O G L b->C b=U o:=λ{C} k b o B nf =>
  k b o (k1 b o B λz=>nf #[fS,e,S]) #[gq,nf] (λz=>nf (.inr Âr))
 have iR:e.n∈ZB L:=W.1;have rA:(į).length<=60:=by unfold ZB;rw[Qa];exact Âq
 have yh:(į).length<=2 ^ 8:=Qk rA Ë;obtain BK|zR|EW:=NI 8 į e.n iR yh;have BO:hdM Èg e.n=(Ò[e.g+1]?).map cds:=IR Ũ S;have gM:∀ (c:Com),(c=af/\Ò[e.g+1]? = af)\/(∃y,Ò[e.g+1]? = U y/\c=U (e.n,ÎJ,))->TC ÃK ü [e.n] c:=λc hc=>by
  have hw:=Îg (hd:=hdM Èg) (n:=e.n);rcases hc with⟨rfl,hn⟩|⟨y,u,rfl⟩
  ·rw[BO,hn]at hw;exact(hw,λp hp=>by cases hp)
  ·rw[BO,u]at hw;exact(hw,λp hp=>by cases hp;exact(cds y,by rw[BO,u];rfl,rfl))
 refine(_,rfl,e.p,dp,_,rfl,qm,Vj ..,e.p,e.k,e.f,Ò,e.g+1,rfl,R1.at',rfl,_,rfl,?_);rw[Jm];refine Ny (λv C=>ZD H1 C/\∃c,CV C v c/\TC ÃK ü [e.n] c) #[iz,d,Q',Z] #[iz,d,Q',Z] (λv C ⟨s2,c,yk,hok⟩=>?_)
 ·have hn:Ò[e.g+1]? = af:=by
   have:=ÃG;cases u:Ò[e.g+1]? with
   | none=>rfl
   | some y=>rw[u]at this;cases this
  exact Z _ _ (ÉA _,af,.inl ĳ,gM af (.inl (rfl,hn)))
 ·obtain⟨y,u⟩:∃y,Ò[e.g+1]? = U y:=by
   cases u:Ò[e.g+1]? with
   | none=>rw[u]at d;exact È rfl (ÂR d)
   | some y=>exact(y,rfl)
  have hyl:e.g+1<Į:=(Ł u).1;have xL:W7 Ò (e.g+1)=ÎJ:=by unfold W7;rw[Ç Á,QaJ,QP,QP,hx,u,Vp];rfl
  have bO:atI ((ÁC Į).map λj=>ì (W7 Ò j)) #[fI,e.g]=U (.int ÎJ):=XZ (by rw[Qp,ÚJ hyl,<- xL];rfl);refine(_,rfl,_,rfl,e.p,aw,dp,_,_,rfl,qm,ņ,Ò5,ZnO ..,_,rfl,e.p,aw,dp,_,_,rfl,qm,ņ,ÇY,TW ..,e.f,_,_,_,rfl,rfl,Ï R1.at'.fs,bO,Á1,λtc jO=>?_);exact Z _ _ (Zi jO _,U (e.n,ÎJ,),.inr (tc,_,rfl,rfl,Zb),gM _ (.inr (y,u,rfl)))
 have M2:=M1.same s2;rw[ny];refine(_,rfl,m,am,jL,_,_,rfl,dG,â,ş,Z4 ..,O,_,rfl,M2.rows,λl hl=>?_);rw[Jr,UJ];have s3:=s2.trans (Zi hl Ê0);rw[eH,fD,C,l,Ê0];have zT:CV (upd C l Ê0) v c:=yk.keep λt xs ht=>Zi hl _ _ _ ht;generalize upd C l (.lst ((ZB L).map ì))=H3 at s3 fD zT ⊢;refine(_,rfl,l,ZB L,e.n,rfl,fD,iR,rA,M.up,λr ts H4 dA Bs oZ bM s4=>?_);have vI:=s3.trans s4;have M4:=M1.same vI;have E8:CV H4 v c:=zT.keep λt xs ht=>s4 _ _ ht;refine(r,rfl,#[ho,Bs],?_);rw[ep,dm4,vw,M4.ob];rw[ep,dm1,e7,M1.ob];have vB:r≠m:=(Ze (s3 _ _ e7) dA).symm;have EM:r≠G:=(Ze (s3 _ _ M1.stays) dA).symm;refine RE (K:=K) (a:=r) (xs:=ts.map ú) (λi σ I=>X6 λ(v':V) (c':Com) (J:StL) (k q':Int) (v4:Ã V)=>σ=[U Æc,U (.int e.n),U (.ref e.p),U v',v4]/\i<=Óx/\CV I v' c'/\TC ÃK ü Óy c'/\ZO aw am I m O G Èg J nb (li+k) (lo'+q') aH/\Z2 ÃK J Óy/\(∀j,¬ Kys Óy j->Z1 J j=Z1 s j)/\Ag ÃK ü (TB e.n ((ÎI).take i)) k q'/\#[e4,H4,G,I]) ?_ (λi σ I _ Z=>by obtain _|_|_|_|_|_|_|_|_|_|_|_|_|_|k5:=Z;exact Ï (k5 _ _ Bs vB EM)) ?_ ?_
 ·refine(v,c,s,0,0,_,rfl,Qs _,E8,hok,M4.cast Á Á,λX F h2=>?_,λ_ _=>rfl,.nil,λb o h _ _=>h);have:=NJ F;rcases this with rfl|⟨g,_⟩
  ·exact È h2 ÚK
  ·exact È g ÚK
 ·rintro i y σ I u ⟨v',c',J,k,q',v4,rfl,hi,vJ,jk,M5,vK,i6,ag,k5⟩;rw[Qp]at u;cases hz:ts[i]? with
  | none=>rw[hz]at u;cases u
  | some t =>
  rw[en,hz,u,b9,Óx];cases F:(Z5 8 (ZB L) e.n)[i]? with
  | none=>rw[Qa1]at F;lia
  | some X =>
  obtain x1|D|x3|x4:=BK i X F;have gj:=x1.rise M.up;have e3:low e.n ÎI (i+1)=X:=by show (Z5 8 į e.n).getD i []=X;rw[QP,F];rfl
  have BD:I t=U #[gv,X]:=k5 _ _ (bM i t X hz F) (λz=>by have:=bM i t X hz F;rw[z,vw]at this;cases this) (λz=>by have:=bM i t X hz F;rw[z,M4.stays]at this;cases this);rw[ep,vL,j8,M5.ob];rw[<- x4]at jk vK i6;have was:=Zpu tk x1 D x3 ok;have iQ:Z1 J (ZV X)=Z1 s (ZV X):=i6 _ λz=>(Jg gj D z).1 rfl;refine(_,rfl,m,vL,_,rfl,j8,Zlo ..,_,rfl,_,rfl,m,O,G,ÀK L e.n,J,nb,_,_,aH,t,v',c',cds x,X,e.n,rfl,M5,BD,vJ,jk,?_,λb B y u=>tk.ge (x1.mem B) u,gj,λb B=>by rw[UJ];exact x1.mem B,D,x3,λv6 c6 s6 k6 q6 H6 E9 Fa Fb rH Fc M6 k6'=>?_)
  ·rw[iQ];rcases was with w|⟨t',b,y,w1,w2,_,w4⟩
   ·exact .inl w
   ·exact .inr (t',b,y,w1,w2,w4)
  ·refine(v6,c6,s6,k+k6,q'+q6,_,rfl,b9,E9,by rw[e3];exact Fa,M6.cast Á Á,?_,λj N=>?_,?_,λb o B n1 n2=>k6' b o (k5 b o B n1 n2) n1 n2)
   ·rw[e3];refine ZnN (n:=e.n) (vK.congr ÄV λj N=>rH j (Jg gj D N).1) ?_ Fb;have iI:=NL gj (TF x3);have so:Sub X (Y8 X e.n):=by unfold Y8;split;exact Sub.top.up D;exact Sub.top.lo D
    refine(ok.sub (x1.trans so)).congr (λb B=>tk.oth b λz=>iI (z ▸ B)) λj N=>?_;rw[rH j (Jf gj D N).1,i6 j (Jf gj D N).2]
   ·rw[e3]at N;rw[rH j (λz=>N (X,.top,D,z)),i6 j (λZ=>by obtain Y|y1|y2|y3:=Z;exact N (Y,(Jj D e.n).trans y1,y2,y3))]
   ·have:=Fc _ _ _ ag;unfold TB at this ⊢;rw[QH,F,Qf];exact this
 ·rintro σ I ⟨v',c',J,k,q',v4,rfl,_,vJ,jk,M5,vK,i6,ag,k5⟩;rw[Qa,oZ,zR]at jk vK;rw[Qa,oZ,Qx ë]at ag;rw[ep,vL,j8,M5.ob];have fin:∀w':Ã Int,w'=c'.map õ->Q .non (upd I m (.ins am vL (mgF O nb (li+k) (lo'+q') G (Yy w')))):=λw' ew=>by subst ew;refine q J _ k q' _ M5.obj jk.1 vK ag λb o B nf=>?_;rw[Zc #[gq,nf]];exact cj (λb o B n1 n2=>k5 b o (vI b o B) n1 n2) b o B nf
  rcases vJ with⟨rfl,rfl⟩|⟨t,p,rfl,rfl,ht⟩
  ·refine Óv;rw[fP,vL,j8];exact fin af rfl
  ·rw[a9];refine(_,rfl,t,_,_,_,rfl,rfl,ö ht,(show atI [ì p.1,ì p.2] 0=U (.int p.1) from XZ (j:=0) rfl),_,rfl,m,am,vL,_,rfl,j8,â,ÂZ,Wk ..,?_);rw[R7];exact fin (U p.1) rfl
def RX(L:ô)(w:ż)(x:V)(a:ô)(k q:Int)(b:Hp):Prop :=
 (w=af/\x=.non/\a=L/\k=0/\q=0)\/X3 λ(e:Zz) (t:ae) (z:ak)=>e∈L/\w=U e.n/\x=.ref t/\Ò[e.g]? = U z/\b t=U #[fy,e.n,e.g,z]/\a=ÀK L e.n/\Ag (hdM a) (cds z) (TB e.n ÎI) k q
theorem Zl5(rd:ae)(nb li lo:Int)(sd:ae)(a:V):#[26].lookup ("send_out" : ak)=af:=À0
theorem Zl0(rd:ae)(nb li lo:Int)(sd:ae)(a:V):#[26].lookup ("take" : ak)=af:=À0
def IN(d e:ae):Sp:=λvs H Q _=>X9 λ(m rd sd:ae) (L:À Zz) (s:StL) (nb li lo:Int) (w:Ã Int)=>vs=[.ref m]/\ZO d e H m rd sd L s nb li lo (Yy w)/\Win Ą į w/\Z2 Ą s į /\
 ∀ (x:V) (a:À Zz) (f:StL) (g:Ã Int) (k q:Int) (c:Hp),RX L w x a k q c->ZO d e c m rd sd a f nb (li+k) (lo+q) (Yy g)->Win (hdM a) (ZB a) g->Z2 (hdM a) f (ZB a)->#[gN,rd,sd,c]->Q x c
theorem Zse(T:Ù)(J:#[eR,3,"coming",ĉ,Jo])(N:Mf P w K mg Â 5 am "send_out" ÍO (IP aw am)):Mf P w K mg Â 6 am "take" ĉ (IN aw am):=by
 rw[d4,T.t_Merge_take.mf,Kc,O,v];obtain m|d|g|L|s|i|j|c|w|rfl|M|W|ok|q:=h;refine(_,#[Zf,#[Zx,1,Kc.nd,á,#[gs,J,v]],#[Zf,#[ZN,#[eo,Tj,1,ř],#[Zg,#[ZI,#[XF,N,â,v,‹0›,#[Zd,ġ]]]],ò],#[fe,1]]],?_);rw[gg,S,V];refine(_,rfl,m,S,_,rfl,V,ZjA ..,m,d,g,L,s,i,j,c,w,rfl,M,W,λx X Y l=>?_);have M1:=ÃI l;rcases Y with⟨rfl,hw⟩|⟨t,e',z,rfl,Z,B,C,hw⟩
 ·have n:Win Ą į af:=by rw[R8]at hw;exact hw
  have p:=W.one n;subst p;exact(_,rfl,rfl,_,rfl,U5 rfl (_,rfl,q .non L s af 0 0 X (.inl ÎG) (M1.cast Á Á) W ok (λb o r _=>l b o r)))
 ·rw[ed,e,D,Z];have n:ÚH:=by rw[R8]at hw;exact hw
  have p:=W.one n;subst p;rw[ep,F,u,M1.ob];refine(_,rfl,rfl,_,rfl,JD Àn ?_);refine(_,rfl,m,F,_,rfl,u,Zl5 ..,_,rfl,m,am,F,_,_,rfl,u,â,ÂZ,TM ..,m,d,g,L,s,i,j,c,_,e,z,rfl,M1,D,B,W,ok,λs' w' k q' G M2 W2 ym ag I=>?_);have ck:G t=U #[fy,e.n,e.g,z]:=I _ _ C λhf=>by
   have a:=C;rcases hf with h|h|h|⟨y,hy,h⟩
   ·rw[eN,h,u,a]
   ·rw[eN,h,ÊY,a]
   ·rw[eN,h,M1.stays,a]
   ·have R:=(Îs y hy).at';rw[ep,dy,qk,R.ob];rcases h with h|h|h
    ·rw[eN,h,qk,a]
    ·rw[eN,h,R.ks,a]
    ·rw[eN,h,R.fs,a]
  exact(_,rfl,q ÁO Èg s' w' k q' G (.inr (e,t,z,D,rfl,rfl,B,ck,rfl,ag)) M2 #[ea,UJ,W2] #[ea,UJ,ym] (λb o r nf=>I b o (l b o r) nf))
abbrev ZL:=Int×À ak×Nat
def ZS(L:ô):À ZL:=ŵ λe=>(e.n,(Ò,e.g,),)
def hdP(P:ĸ):Hd:=hdL (ÀX λx=>(x.1,0,x.2,))
def Z6(P:ĸ):À Int:=ÀX õ
def Wi(n:Int)(x:ZL):ZL:=if x.1=n then (x.1,x.2.1,x.2.2+1,) else x
def Xi(P:ĸ)(n:Int):À ZL:=ÀX (Wi n)
theorem Vg(L:ô):hdM L=hdP (ZS L):=Jk _ _ (by unfold ZS;rw[Qo,Qo,Qo];rfl)
theorem Xp(L:ô):ZB L=Z6 (ZS L):=by unfold Z6 ZS ZB;rw[Qo];rfl
theorem IM(L:ô)(n:Int):ZS Èf=Xi (ZS L) n:=by
 unfold ZS ÀK Xi;rw[Qo,Qo];refine QJ λe _=>?_;rw[73];unfold Wi;by_cases h:e.n=n
 ·rw[RY h,Æ h]
 ·rw[ND h,Ç h]
theorem IL(P:ĸ)(n:Int):Z6 (Xi P n)=Z6 P:=by unfold Z6 Xi;rw[Qo];refine QJ λx _=>?_;simp only[ÎH];unfold Wi;split<;>rfl
theorem Nx{P:ĸ}(nd:ÄY){x:ZL}(h:x∈P):hdP P x.1=(x.2.1[x.2.2]?).map cds :=
 N7 (L:=ÀX λx:ZL=>((x.1,0,x.2,):Yd)) (e:=(x.1,0,x.2,)) ÎK (Qd (f:=λx:ZL=>((x.1,0,x.2,):Yd)) h)
def Nw(P:ĸ)(x:ZL)(z:ak)(k q:Int):Prop:=x∈P/\x.2.1[x.2.2]? = U z/\Win (hdP P) (Z6 P) (U x.1)/\Ag (hdP (Xi P x.1)) (cds z) (TB x.1 (Z5 8 (Z6 P) x.1)) k q
abbrev Yk:=Int×Nat×ak
inductive XU (P:ĸ):À Yk->À ZL->Int->Int->Prop
 | nil:XU P [] P 0 0
 | Ŕ {ts:À Yk} {P1:À ZL} {x:ZL} {z:ak} {k q k1 q1:Int}:XU P ts P1 k q->Nw P1 x z k1 q1->XU P (ts++[(x.1,x.2.2,z,)]) (Xi P1 x.1) (k+k1) (q+q1)
inductive Ya:À ZL->Int->Int->Prop
 | stop {P:À ZL}:Win (hdP P) (Z6 P) af->Ya P 0 0
 | go {P:À ZL} {x:ZL} {z:ak} {k q k1 q1:Int}:Nw P x z k1 q1->Ya (Xi P x.1) k q->Ya P (k1+k) (q1+q)
theorem XU.num{P a:ĸ}{b:Â1}{k q:Int}(h:XU P b a k q):Z6 a=Z6 P:=by
 induction h with
 | nil=>rfl
 | Ŕ _ _ c=>rw[IL,c]
def YL(P:ĸ):Nat:=(ÀX λx=>x.2.1.length-x.2.2).sum
theorem RW:∀ (P:À ZL),(Z6 P).Nodup->∀ {x:ZL},x∈P->x.2.2<x.2.1.length->YL (Xi P x.1)+1=YL P
 | [],_,_,h,_=>by cases h
 | y::P,nd,x,h,a=>by
  unfold Z6 at nd;rw[Qj,QS]at nd;unfold YL Xi;rw[Qj,Qj,Qj,QR,QR];rcases ĩ h with rfl|h
  ·have e:ÀX (Wi x.1)=P:=by
    conv=>rhs;rw[<- List.map_id P]
    refine QJ λu b=>?_;unfold Wi;rw[Ç (λz:u.1=x.1=>nd.1 (z ▸ Qd (f:=Æd) b))];rfl
   rw[e];unfold Wi;rw[p1];show x.2.1.length-(x.2.2+1)+_+1=_;lia
  ·have c:=RW P nd.2 h a;unfold YL Xi at c;have e:Wi x.1 y=y:=Ç (λz:y.1=x.1=>nd.1 (z ▸ Qd (f:=Æd) h));rw[e];lia
theorem XU.left{P a:ĸ}{b:Â1}{k q:Int}(h:XU P b a k q)(nd:ÄY):YL a+Ĥ=YL P:=by
 induction h with
 | nil=>rfl
 | Ŕ h s ih=>have:=ÚL;rw[Qi,QI];lia
theorem Zoh{L a:ô}{w:ż}{x:V}{k q:Int}{H:Hp}(W:Win Ą į w)(h:RX L w x a k q H):(Win (hdP (ZS L)) (Z6 (ZS L)) af/\x=.non/\a=L/\k=0/\q=0)\/X3 λ(y:ZL) (z:ak) (t:ae)=>Nw (ZS L) y z k q/\ZS a=Xi (ZS L) y.1/\x=.ref t/\H t=U #[fy,y.1,y.2.2,z]:=by
 rw[Vg,Xp]at W;rcases h with⟨rfl,c,d,g,i⟩|⟨e,t,z,j,rfl,rfl,l,m,rfl,b⟩
 ·exact .inl (W,c,d,g,i)
 ·refine .inr (ÄZ,z,t,(Qd (f:=Ê6) j,l,W,?_),IM L e.n,rfl,m);rw[Vg,IM,Xp]at b;exact b
def IK(K:Ä)(f g:ae):Sp:=λvs H Q _=>X10 λ(m rd sd:ae) (L:À Zz) (s:StL) (nb li lo:Int) (w:Ã Int) (ÀL:Int)=>vs=#[r2,m,ÀL]/\ZO f g H m rd sd L s nb li lo (Yy w)/\Win Ą į w/\Z2 Ą s į/\YL (ZS L)<=100000 /\
 ∀ (r:ae) (c:À (ae×Yk)) (a:À Zz) (h:StL) (e:Ã Int) (k q:Int) (d:Hp),H r=af->d r=U Óz->(∀u∈c,d u.1=U ÚM)->XU (ZS L) É9 (ZS a) k q->(Ä0<ÀL->e=af)->(c≠[]->Ä0<=ÀL)->ZO f g d m rd sd a h nb (li+k) (lo+q) (Yy e)->Win (hdM a) (ZB a) e->Z2 (hdM a) h (ZB a)->(∀b,Fp m rd sd a b↔Fp m rd sd L b)->#[gN,rd,sd,d]->Q Ái d
theorem RX.fp{L a:ô}{w:ż}{x:V}{k q:Int}{H:Hp}(h:RX L w x a k q H){m rd sd b:ae}:Fp m rd sd a b↔Fp m rd sd L b:=by
 rcases h with⟨_,_,rfl,_⟩|⟨e,t,z,_,_,_,_,_,rfl,_⟩
 ·exact Iff.rfl
 ·exact(Zso,Fp_bump')
theorem ZO.fp_live{c d:ae}{H:Hp}{m rd sd:ae}{L:ô}{s:StL}{nb li lo:Int}{f:V}(M:#[fs,c,d,f]){b:ae}(h:Fp m rd sd L b):∃o,H b=U o/\∀xs,o≠.tup xs:=by
 rcases h with rfl|rfl|rfl|⟨e,g,h⟩
 ·rw[gg,i,a];rw[fn,a,xs,z]
 ·rw[fn,Ň,xs,z]
 ·rw[fn,Ç8,xs,z]
 ·have R:=(ÀZ e g).at';rw[ep,i,a,R.ob];rcases h with rfl|rfl|rfl
  ·rw[fn,a,xs,z]
  ·rw[fn,R.ks,xs,z]
  ·rw[fn,R.fs,xs,z]
theorem ZO.fp_fresh{c d:ae}{H:Hp}{m rd sd:ae}{L:ô}{s:StL}{nb li lo:Int}{e:V}(M:#[fs,c,d,e]){b:ae}(h:H b=af):¬ Fp m rd sd L b:=λz=>by obtain o|a|_:=M.fp_live z;rw[h]at a;cases a
theorem ZO.fp_tup{c d:ae}{H:Hp}{m rd sd:ae}{L:ô}{s:StL}{nb li lo:Int}{e:V}(M:#[fs,c,d,e]){b:ae}{xs:Ĕ}(h:H b=U Γ):¬ Fp m rd sd L b:=λz=>by obtain o|a|f:=M.fp_live z;rw[h]at a;cases a;exact f xs rfl
theorem Zud(T:Ù)(gw:#[eR,6,"take",ĉ,IN]):Mf P w K mg Â 7 am "take_few" ÍM (IK K aw am):=by
 rw[hi,T.t_Merge_take_few.mf,Kb];obtain m|j|l|L|s|F|Z|G|w|ÀL|rfl|M|W|ok|hleft|q:=h;refine(_,#[Zf,#[gR,2,Kb.nd],#[Zf,(@RF _ _ _ _ _ _ Ο (@Ź _ _ _ #[Xc,#[Zn,WG,ÎL,‹1›,ă],#[W4,#[Zn,Tj,ġ,ř,ă]]]) #[Zg,#[ZI,#[YQ,QB,QC,QD,ZY,‹2›,#[Zd,#[gs,gw,hr]]]]]),ÄN]],?_);have nd:(Z6 (ZS L)).Nodup:=by rw[<- Xp];exact Ũ
 rw[y7,Ŵ,r,n];have Bz:=M.fp_fresh n;refine(λmm σ i=>X6 λ(c:À (ae×Yk)) (d:À Zz) (s':StL) (w':Ã Int) (k p:Int)=>σ=[U Æc,U (.int ÀL),U Ái]/\i r=U Óz/\(∀u∈c,u.1≠r/\i u.1=U ÚM)/\XU (ZS L) É9 (ZS d) k p/\(c≠[]->Ä0<=ÀL)/\ZO aw am i m j l d s' F (Z+k) (G+p) (Yy w')/\Win (hdM d) (ZB d) w'/\Z2 (hdM d) s' (ZB d)/\(∀b,Fp m j l d b↔Fp m j l L b)/\#[gN,j,l,i]/\mm=YL (ZS d),(_,[],L,s,w,0,0,rfl,Zb,#[ex,u,h],.nil,(λh=>È rfl h),(ÃI (Zi n _)).cast Á Á,W,ok,λ_=>Iff.rfl,λb o g _=>Zi n _ _ _ g,rfl),?_);rintro mm σ i ⟨c,L1,s1,I,k,p,rfl,C,l9,D,o5,M2,v,ym,B,k2,rfl⟩;have yn:ÚN=Ä0:=by rw[Qa]
 have J:=D.left nd;rw[Qa]at J;rw[ny];have done:(Ä0<ÀL->I=af)->Q Ái i:=λhd=>q r c L1 s1 I k p i n C (λu hu=>(l9 u hu).2) D hd o5 M2 v ym B k2;refine(_,rfl,r,_,rfl,.inl (Ï C),_,rfl,_,_,rfl,rfl,_,rfl,Y0 (λN=>?_) (λN=>?_))
 ·have ya:Ä0<ÀL:=by have:=Ľ N;lia
  refine(_,rfl,m,am,jL,_,_,rfl,dG,â,ÂZ,TM ..,rfl,_,rfl,?_);cases I with
  | none=>exact U5 rfl (_,rfl,done λ_=>rfl)
  | some a =>
  refine JD Àn ?_;refine ÚB;refine(_,rfl,.inl #[es,C],_,rfl,m,jL,_,rfl,dG,Zl0 ..,m,j,l,L1,s1,F,_,_,U a,rfl,M2,v,ym,λx L3 s3 w3 k3 q3 H3 O M3 W3 vN R=>?_);have S:H3 r=U Óz:=R _ _ C (λz=>Bz ((B r).mp z));rcases Zoh v O with⟨w0,_⟩|⟨y,z,t,X,eL,rfl,Y⟩
  ·rw[Vg,Xp]at v;exact nomatch w0.one v
  have pX:=RW _ #[ea,D.num,nd] X.1 (Ł X.2.1).1;have yi:t≠r:=λe=>by rw[e,S]at Y;cases Y
  refine(r,_,_,rfl,rfl,S,#[sq,Qa,aO],YL (ZS L3),by rw[eL];lia,c++[(t,(y.1,y.2.2,z,),)],L3,s3,w3,k+k3,p+q3,rfl,by rw[Zb,Qf];rfl,λu hu=>?_,?_,λ_=>by rw[Qi,QI];lia,?_,W3,vN,λb=>(O.fp).trans (B b),λb o g nf=>?_,rfl)
  ·rcases í hu with hu|hu
   ·obtain g2|g3:=l9 u hu;exact(g2,by rw[Zc g2];exact R _ _ g3 (M2.fp_tup g3))
   ·rw[å hu];exact(yi,by rw[Zc yi];exact Y)
  ·rw[Qf,eL];exact .snoc D X
  ·refine ZO.cast (M3.keep λb o g dJ=>?_) Á Á;rw[Zc (λe=>?_)]
   ·exact g
   ·subst e;rcases dJ with hf|⟨xs,rfl⟩
    ·exact Bz ((B b).mp (O.fp.mp hf))
    ·rw[fQ,S,g,g]
  ·rw[Zc (Ze g n)];exact R b o (k2 b o g nf) (λz=>nf ((B b).mp z))
 ·refine Y7 (_,rfl,done λh=>?_);have:¬ (ÚN<ÀL):=λz=>N ÇW;lia
structure MS where
 m:ae
 rd:ae
 sd:ae
 L:À Zz
 s:StL
 nb:Int
 li:Int
 lo:Int
 w:Ã Int
structure OS where
 o:ae
 ra:ae
 ga:ae
 Lo:À Yd
 nb:Int
def Zwi(Y:OS)(b:ae):Prop:=b=Y.o\/b=Y.ra\/b=Y.ga\/∃e∈Y.Lo,b=e.2.1
def MFp(X:MS)(b:ae):Prop:=Fp X.m ň Àa X.L b
structure MOk (cR cM:ae) (H:Hp) (X:MS):Prop where
 M:ZO cR cM H X.m ň Àa X.L X.s Ē Ŏ ŏ (Yy X.w)
 W:Win (hdM X.L) (ZB X.L) X.w
 ok:Z2 (hdM X.L) X.s (ZB X.L)
structure Pair (cR cM:ae) (H:Hp) (X:MS) (Y:OS):Prop where
 mg:MOk cR cM H X
 ow:Own H Y.o Y.ra Y.ga Y.Lo Y.nb Ŏ ŏ
 ag:Agr Y.Lo X.L
 sep:∀b,MFp X b->¬ Zwi Y b
theorem MOk.same{a b:ae}{H c:Hp}{X:MS}(h:MOk a b H X)(s:ZD H c):MOk a b c X:=(h.M.same s,h.W,h.ok)
theorem MOk.keep{a c:ae}{H d:Hp}{X:MS}(h:MOk a c H X)(k:∀b o,H b=U o->MFp X b\/Ód->d b=U o):MOk a c d X:=(h.M.keep k,h.W,h.ok)
theorem Zov{P:ĸ}(nd:ÄY)(h:Win (hdP P) (Z6 P) af)(ok:∀x∈P,x.2.2<=x.2.1.length):YL P=0:=by
 unfold YL;have:∀l:À Nat,(∀a∈l,a=0)->l.sum=0:=λl e=>by
  induction l with
  | nil=>rfl
  | Í b r j=>rw[QR,e b Ö,j λa c=>e a (Ql _ c)]
 refine this _ λa c=>?_;rw[ed,x,g,c];have d:=h x.1 (Qd (f:=Æd) g);rw[Nx nd g]at d;cases i:x.2.1[x.2.2]? with
 | none=>rw[Qa1]at i;show x.2.1.length-x.2.2=0;lia
 | some y=>rw[i]at d;cases d
theorem ZrZ{a b:ae}{H:Hp}{X:MS}(h:MOk a b H X):(Z6 Ál).Nodup:=by rw[<- Xp];exact h.M.nd
def IJ(K:Ä)(c d:ae):Sp:=λvs H Q _=>X11 λ(m rd sd:ae) (L:À Zz) (s:StL) (nb li lo:Int) (h:V) (r:ae) (ss:À ak)=>vs=#[rI,m,r]/\ZO c d H m rd sd L s nb li lo h/\(∀e∈L,e.n<nb)/\Àv<16/\H r=U ÃF/\ń<=200/\(∀x∈ss,ċ<=1000/\AZ x)/\ĝ ss=true /\
 ∀ (e:Zz) (f:ae) (g:StL) (w:Ã Int) (k q:Int) (a:Hp),e.n=nb->Ò=ss->e.g=0->H e.p=af->H e.k=af->H e.f=af->H f=af->Win ÓA (ZB (L++[e])) w->XV ÓA g 8 (ZB (L++[e]))->YD ÓA 8 (ZB (L++[e])) k q->ZO c d a m rd f (L++[e]) g (nb+1) (li+k) (lo+q) (Yy w)->#[e4,H,rd,a]->Q (.int nb) a
theorem ZlD(T:Ù)(bG:Ît)(dU:Ún)(bb:Îu):Mf P w K mg Â 14 am "add_row" ÄK (IJ K aw am):=by
 refine T.t_Merge_add_row.mf Sy ÂY Í4;obtain m|g|B|L|s|i|C|lo'|D|r|l|rfl|M|bf|lD|dA|qj|Z|jv|q:=h;refine(_,#[Zf,ÚO,#[Zf,#[ZI,#[rX,bG,I,2,1]],#[Zf,#[ZN,ÚP,Îl,ò],#[Zf,#[YB,#[Uo,dU,I,Áj],#[iD,2,I]],#[Zf,Óe,#[Zf,#[hH,bb,I],ÄN]]]]]],?_);rw[gg,dx,J];refine(_,rfl,m,am,dx,_,_,rfl,J,â,Îy,NO ..,_,rfl,_,rfl,i,r,l,rfl,Ï dA,by lia,λx F=>(Z x F).1,R5 jv,λH1 N=>?_);have M1:=ÃI N;have e7:=N _ _ J;have iJ:Ók:=by unfold kvM;rw[Qa]
 refine(_,rfl,m,am,dx,_,_,rfl,e7,â,ş,Z4 ..,g,_,rfl,ÊY,_,_,rfl,rfl,_,rfl,Y0 ų ų)
 ·have:(16:Int)<=ÊZ:=ÃG;exact È this Á
 refine(_,rfl,λu p hu qk ndu=>?_);have O:H u=af:=N.free hu;have S:∀b o,H b=U o->#[eI,H1,p,u,aw] b=U o:=λb o c=>by have:=N _ _ c;rw[i1]
 have vC:#[eI,H1,p,u,aw] u=U (.ins aw p []):=Zb;generalize upd (upd H1 p (.own u)) u (.ins aw p [])=H8 at S vC ⊢;refine(u,p,r,l,rfl,vC,S _ _ dA,qj,λx F=>(Z x F).1,λk f G hk hf Bx R k9=>(rfl,?_));have s9:ZD H G:=λb o c=>k9 b o (S b o c) (Ze c O);have Δ:∀b,H8 b=af->H b=af:=λb c=>by
  cases e:H b with
  | none=>rfl
  | some o=>rw[S b o e]at c;cases c
 have yq:=Δ k hk;have Fe:=Δ f hf;have j:=ÃI s9;have rG:=s9 _ _ J;have mB:g≠u/\g≠k/\g≠f:=(Ze Ň O,Ze Ň yq,Ze Ň Fe);have hsz:#[sV,kvM,L]:=by unfold kvM;rw[mQ]
 have iF:Y5 (kvM L) Åa=af:=by
  cases hv:Y5 (kvM L) (.inl i) with
  | none=>rfl
  | some v=>obtain e|he|z:=Ğ (VA hv);injection z with z _;have:=bf e he;have:=ÃQ z;lia
 refine(_,rfl,m,am,dx,_,_,rfl,rG,â,ş,Z4 ..,_,rfl,g,_,rfl,XH.k (k:=.inl i) ÁR hsz,?_);rw[U1 _ iF,show kvM L++[((.inl i:Key),ú u,)]=kvM ÓB by unfold kvM;rw[Qf];rfl];rw[g9,n1,n2,n3,j.ne_m];have ql:ZO aw am ÚQ m g B ÓB s i C lo' D:=by
  refine((dx,by rw[Zc n1];exact rG),Zb,?_,?_,λe he=>?_,?_,?_,by rw[Qi,QI];lia,M.sfew)
  ·rw[Zc (λz=>by have:=j.stays;rw[z,ÁR]at this;cases this)];exact j.stays
  ·intro e he t ht;have c:=j.ats e he t ht;rw[rN,Zc,z,ÁR,c]
  ·rcases í he with he|he
   ·have W:=j.each e he;rw[ep,de,X,W.at'.ob];refine W.mono λb o c dJ=>?_;have nb':b≠g:=λz=>by
     rw[z,ÁR]at c;injection c with c;subst c;rcases dJ with z2|z2|z2
     ·rw[<- z2,z,ÁR]at X;cases X
     ·rw[fo,W.at'.ks,z2,ÁR]
     ·rw[fo,W.at'.fs,z2,ÁR]
    rw[Zc nb'];exact c
   ·rw[å he];refine WV.keep (H:=G) (R,Qs _,qj,jv,Z) (Zc mB.1.symm) (Zc mB.2.1.symm) (Zc mB.2.2.symm)
  ·unfold ZB;rw[Qf];refine ÚR (M.up,QaE ..,λx F y hy=>?_);rw[ed,e,he,F];have:y=i:=by simpa using hy
   rw[this];exact bf e he
  ·rw[e1,M.pd,ha,c,e,he];have:b=u:=by simpa using c
   rw[this];obtain de|X:=Ów;exact Ze X O
 have tR:#[yY,o,g,ÚQ]:=λb o c n=>by rw[Zc n];exact s9 b o c
 generalize upd G g (.dK (kvM (L++[⟨i,u,k,f,l,0⟩])))=mh at ql tR ⊢;have sP:=tR _ _ J n1;rw[f6,sP,Îy,NO,Zhd];have Y:=ql.obj (nb':=i+1) (li':=C) (lo':=lo') (Å8:=D) (dx:=dx);have xX:∀b o,H b=U o->b≠m->b≠g->(upd mh m (.ins am dx (mgF g (i+1) C lo' B D))) b=U o:=λb o c n n'=>by rw[Zc n];exact tR b o c n'
 generalize upd mh m (.ins am dx (mgF g (i+1) C lo' B D))=uL at Y xX ⊢;rw[ep,Ff,zU,Y.ob];have yt:∀b,uL b=af->H b=af:=λb c=>by
  cases e:H b with
  | none=>rfl
  | some o =>
   by_cases z:b=m
   ·rw[ss,zU,c]
   ·by_cases z':b=g
    ·rw[eN,z',Y.rows,c]
    ·rw[xX b o e z z']at c;cases c
 refine(_,rfl,m,Ff,_,rfl,zU,R6 ..,m,g,B,_,s,_,_,_,_,rfl,Y,λbB s' w0 k0 q0 tw hV BR BS BU BV xY=>(_,rfl,?_));exact q (i,u,k,f,l,0) bB s' w0 k0 q0 tw rfl rfl rfl O yq Fe (yt bB hV) BR BS BU BV (λb o c n n'=>xY b o (xX b o c n n') n)
theorem Zo9{b:ô}{P:ĸ}{a:Â1}{k q:Int}{c:ż}{ÀL:Nat}(nd:ÄY)(h:XU P a (ZS b) k q)(h1:ÂI<(ÀL:Int)->c=af)(h2:a≠[]->ÂI<=(ÀL:Int))(W:Win (hdM b) (ZB b) c)(ok:∀x∈ZS b,x.2.2<=x.2.1.length):ļ=min ÀL (YL P):=by
 have hl:=h.left nd;by_cases d:ÂI<(ÀL:Int)
 ·have e:=h1 d;subst e;rw[Vg,Xp]at W;have hz:=Zov #[ea,Â2,nd] W ok;lia
 ·by_cases f:a=[]
  ·subst f;simp only[ÅD]at d ⊢;lia
  ·have:=h2 f;lia
theorem II(rd:ae)(nb li lo:Int)(sd:ae)(a:V):#[26].lookup ("add_row" : ak)=af:=À0
theorem Zn9(rd:ae)(nb li lo:Int)(sd:ae)(a:V):#[26].lookup ("take_few" : ak)=af:=À0
theorem Tz(rd:ae)(nb li lo:Int)(sd:ae)(a:V):#[26].lookup ("row_of" : ak)=af:=À0
theorem Zlh(k f:ae)(g:Int):(Îd).lookup ("to_go" : ak)=af:=Îo
theorem ZgI(k f:ae)(g:Int):(Îd).lookup ("lengthen" : ak)=af:=Îo
def RV(a b:ae):Sp:=λvs H Q _=>X10 λ(m rd sd:ae) (L:À Zz) (s:StL) (nb li lo:Int) (c:V) (e:Zz)=>vs=#[r2,m,e.n]/\ZO a b H m rd sd L s nb li lo c/\e∈L/\Q (.ref e.p) H
theorem ZnV(T:Ù):Mf P w K mg Â 1 am "row_of" ÁI (RV aw am):=by
 rw[d4,T.t_Merge_row_of.mf,Ka,i,b];obtain m|a|j|L|s|l|n|lo|o|e|rfl|M|c|q:=h;refine(_,#[Zf,#[ZN,#[Zn,(SX b),‹1›,ġ,Áa],Îl,ò],#[Zg,#[Zm,#[ib,b,1]]]],?_);rw[gg,d,g];refine(_,rfl,_,rfl,m,am,d,_,_,rfl,g,â,ş,Z4 ..,a,_,rfl,Ģ (k:=Æa) Ň (Wu Ũ c),_,rfl,Y7 ?_);exact(_,rfl,m,am,d,_,_,rfl,g,â,ş,Z4 ..,_,rfl,a,_,rfl,Ģ (k:=Æa) Ň (Wu Ũ c),q)
def YU(L:ô)(n:Int):À Zz:=L.filter λe=>decide (e.n≠n)
theorem ZoN(L:ô)(n:Int):WO (kvM L) (.inl n)=kvM (YU L n):=by unfold WO kvM YU;rw[Qan];congr 1;refine QaV λe _=>?_;exact ÅM #[rz,Âu,e.n,Îk]
theorem ZO.drop{f g:ae}{H:Hp}{m rd sd:ae}{L:ô}{s:StL}{nb li lo:Int}{h:V}(M:#[fs,f,g,h])(n:Int):ZO f g (upd H rd (.dK (kvM (YU L n)))) m rd sd (YU L n) s nb li lo h:=by
 rw[g9,j,n2,k,M.ne_m];rw[gg,l,o];refine((l,by rw[Zc j];exact o),Zb,by rw[Zc k.symm];exact Ç8,λe d t p=>?_,λe d=>?_,?_,?_,Qk (QaR ..) Âq,M.sfew)
 ·have:=M.ats e d t p;rw[eC,Ň]
 ·have i:=(ÃS d).1;obtain _|_|_|a|b|c:=Èa i;rw[fZ,ÀZ,i]
 ·exact M.up.sublist ÎM
 ·exact M.pd.sublist ÎM
def IH(c d:ae):Sp:=λvs H Q _=>X10 λ(m rd sd:ae) (L:À Zz) (s:StL) (nb li lo:Int) (h:V) (e:Zz)=>vs=#[r2,m,e.n]/\ZO c d H m rd sd L s nb li lo h/\e∈L /\
 ∀ (f:ae) (g:StL) (w:Ã Int) (k q:Int) (a:Hp),H f=af->Win (hdM Ä1) (ZB Ä1) w->XV (hdM Ä1) g 8 (ZB Ä1)->YD (hdM Ä1) 8 (ZB Ä1) k q->ZO c d a m rd f Ä1 g nb (li+k) (lo+q) (Yy w)->#[e4,H,rd,a]->Q (.int Óo) a
theorem Zka(T:Ù)(y:Îe)(B:ÚS)(C:Îu):Mf P w K mg Â 14 am "drop_row" ÁI (IH aw am):=by
 rw[d4,T.t_Merge_drop_row.mf,Sx,D,d];obtain m|a|g|L|s|l|p|i|r|e|rfl|M|j|q:=h;refine(_,#[Zf,#[Zx,2,Sx.nd,á,#[Yi,y,ņ,d,#[sw,B,d,Áj]]],#[Zf,#[ZI,#[YQ,Q5,QaS,ÓC,PU,ġ,Áj]],#[Zf,#[hH,C,d],ÄN]]],?_);rw[gg,t,u];rw[sI,Re,j,F,G,ÓD];refine(_,rfl,m,t,_,rfl,u,Tz ..,_,rfl,m,a,g,L,s,l,p,i,r,e,rfl,M,j,e.p,F,_,rfl,G,Zlh ..,e.p,e.k,e.f,Ò,e.g,rfl,Re.at',_,rfl,m,am,t,_,_,rfl,u,â,ş,Z4 ..,.inr #[rD,Ň],_,rfl,a,_,.inl e.n,_,rfl,rfl,Ň,Wu Ũ j,?_);rw[ZoN];have k:=M.drop e.n;have v:#[yY,o,a,ÚT]:=λb o c n=>by rw[Zc n];exact c
 have Δ:∀b,ÚT b=af->H b=af:=λb c=>by
  by_cases z:b=a
  ·rw[ss,Zb,c]
  ·rw[Zc z]at c;exact c
 generalize upd H a (.dK (kvM (YU L e.n)))=mh at k v Δ ⊢;rw[ep,I,J,k.ob];refine(_,rfl,m,I,_,rfl,J,R6 ..,m,a,g,_,s,_,_,_,_,rfl,k,λx N O R S V W X Y Z BV xY=>(_,rfl,?_));exact q x N O R S V (Δ x W) X Y Z BV (λb o c n n'=>xY b o (v b o c n') n)
theorem RU(k f:ae)(g:Int):YV k f g=ÚG:=by unfold YV;rw[Xj,Zw nFK,Xj,Zw nGK,Zw nGF,Xj]
theorem Zic(k f:ae)(g:Int)(k':ae):Zv "all_keys" (.ref k') Îd=YV k' f g:=by rw[RU,RU,VY]
theorem Zie(k f:ae)(g:Int)(a:ae):Zv "fars" Ħ Îd=YV k a g:=by rw[RU,RU,Zw nFK,VY]
def IG(C:ae):Sp:=λvs H Q _=>X7 λ(p k f a:ae) (ss ks:À ak) (g:Nat)=>vs=#[rI,p,a]/\Vn C H p k f ss g/\H a=U À1/\(ss++ks).length<=200/\(∀x∈ss++ks,ċ<=1000) /\
 ∀ (k' d:ae) (c:Hp),H k'=af->H d=af->Vn C c p k' d (ss++ks) g->#[ew,o,p,c]->Q .non c
theorem Zld(T:Ù)(C:Ò3):Mf P w K mg Â 4 aw "lengthen" ÂX (IG aw):=by
 refine T.t_Row_lengthen.mf ZgE ÂY (λaP fa A Û s H D Q E F h=>?_);obtain p|k|f|a|i|ks|g|rfl|R|G|B|I|q:=h;refine(_,#[Zf,#[X0,‹0›,#[ZR,Wc,ġ,‹1›]],#[Zg,#[X0,‹0›,#[ZA,C,F,#[Zd,ġ],É]]]],?_);obtain (d|r)|J|hf:=R;refine(_,rfl,p,aw,d,_,_,rfl,r,ņ,ÄR,Vo _ _ _,_,rfl,k,a,_,_,rfl,rfl,J,G,(by rw[Qa,Qa];rw[Qi]at B;exact Ĩ Á),λc t=>?_);rw[<- Qf];have v:p≠c:=Ze r t;refine(_,rfl,p,aw,d,_,rfl,#[hP,v,r],ņ,ÄR,Nz ..,?_);rw[Zic];have l:ÓE p=U (.ins aw d (YV c f g)):=Zb;have x:ÓE c=U (.lst ((i++ks).map Å)):=by rw[Zc v.symm];exact Zb
 have y:#[e5,o,H,p,ÓE]:=λb o h n=>by rw[Zc n,Zc (Ze h t)];exact h
 generalize upd (upd H c (.lst ((i++ks).map Å))) p (.ins aw d (YV c f g))=H2 at l x y ⊢;refine(_,rfl,p,aw,d,_,_,rfl,l,ņ,ÄR,Vo _ _ _,c,i++ks,rfl,Ï x,B,I,λj H3 m L z=>?_);have M:H j=af:=by
  cases N:H j with
  | none=>rfl
  | some u =>
   by_cases e:j=p
   ·rw[eN,e,l,m]
   ·rw[y j u N e]at m;cases m
 have O:p≠j:=Ze l m;refine(_,rfl,p,aw,d,_,rfl,z _ _ l,ņ,Ò5,Nz ..,?_);rw[Zie];refine q c j _ t M ((d,Zb),?_,?_) λb o h n=>?_
 ·rw[Zc v.symm];exact z _ _ x
 ·rw[Zc O.symm];exact L
 ·rw[Zc n];exact z _ _ (y b o h n)
def Xy(n:Int)(ks:Ñ)(k f:ae)(x:Zz):Zz:=if x.n=n then (x.n,x.p,k,f,x.ss++ks,x.g) else x
def YC(L:ô)(n:Int)(ks:Ñ)(k f:ae):À Zz:=ŵ (Xy n ks k f)
theorem Nv(n:Int)(ks:Ñ)(k f:ae)(x:Zz):#[kI].n=x.n/\#[kI].p=x.p/\#[kI].g=x.g:=by unfold Xy;split<;>exact Ñs
theorem Tx(L:ô)(n:Int)(ks:Ñ)(k f:ae):ZB ÓF=ZB L:=by unfold ZB YC;rw[Qo];exact QJ λe _=>(Nv n ks k f e).1
theorem ZoW(L:ô)(n:Int)(ks:Ñ)(k f:ae):kvM ÓF=kvM L:=by unfold kvM YC;rw[Qo];refine QJ λe _=>?_;obtain a|b|_:=Nv n ks k f e;simp only[ÎH,a,b]
theorem IF:∀ (A B:À Yd),A.map ÚU=B.map ÚU->hdL A=hdL B
 | [],[],_=>rfl
 | [],_::_,h=>by cases h
 | _::_,[],h=>by cases h
 | a::A,b::B,h=>by
  rw[Qj,Qj]at h;injection h with h1 h2;injection h1 with d f;have ih:=IF A B h2;funext n;rw[mE];split
  ·simp only[Úy];rw[f]
  ·exact c
theorem Zpj{L:ô}{n:Int}{ks:Ñ}(h:∀x∈L,x.n=n->x.g<x.ss.length\/ks=[])(k f:ae):hdM ÓF=hdM L:=by
 refine IF _ _ ?_;unfold YC;rw[Qo,Qo,Qo];refine QJ λx a=>?_;show (#[kI].n,#[kI].ss[#[kI].g]?,)=(x.n,x.ss[x.g]?,);unfold Xy;split
 ·rename_i e;rcases h x a e with z|z
  ·exact ł (Prod.mk x.n) (QT z)
  ·rw[z,Qab]
 ·rfl
theorem Nu:∀ {P:À Zz},(ÀX (·.n)).Nodup->∀ {p q:Zz},p∈P->q∈P->p.n=q.n->p=q
 | [],_,_,_,h,_,_=>by cases h
 | x::r,nd,p,q,hp,hq,e=>by
  rw[Qj,QS]at nd;rcases ĩ hp with h1|h1
  ·rcases ĩ hq with h2|h2
   ·rw[h1,h2]
   ·exact È (show x.n∈ÂU (·.n) by rw[<- h1,e];exact Qd (f:=λx:Zz=>x.n) h2) nd.1
  ·rcases ĩ hq with h2|h2
   ·exact È (show x.n∈ÂU (·.n) by rw[<- h2,<- e];exact Qd (f:=λx:Zz=>x.n) h1) nd.1
   ·exact Nu nd.2 h1 h2 e
theorem ZO.grow{f n:ae}{H g:Hp}{m rd sd:ae}{L:ô}{s:StL}{nb li lo:Int}{p:V}(M:#[fs,f,n,p]){e:Zz}(he:e∈L){ks:Ñ}{k' c:ae}(R:Vn f g e.p k' c Èh e.g)(hl:(Èh).length<=200)(q:#[sY,Èh])(hz:∀x∈Ò++ks,ċ<=1000/\AZ x)
  (k:#[e5,o,H,e.p,g]):ZO f n g m rd sd (YC L e.n ks k' c) s nb li lo p:=by
 rw[gg,r,u];obtain de|i:=Ów;refine((r,k _ _ u (M.ne_p he).1),by rw[ZoW];exact k _ _ Ň (Èa he).2.2.2.1,k _ _ Ç8 (Èa he).1,λx j t v=>?_,λx j=>?_,by rw[Tx];exact M.up,?_,by unfold YC;rw[Qa];exact Âq,M.sfew)
 ·have h:=M.ats x j t v;exact k _ _ h (λz=>by rw[z,i]at h;cases h)
 ·rw[ed,y,d,j];by_cases l:y.n=e.n
  ·have w:y=e:=by have nd:=Ũ;unfold ZB at nd;exact Nu nd d he l
   subst w;rw[show Xy y.n ks k' c y=(y.n,y.p,k',c,y.ss++ks,y.g) by unfold Xy;rw[Æ rfl]];exact(R,by show y.g<=(y.ss++ks).length;rw[Qi];have:=(ÀZ y d).le;lia,hl,q,hz)
  ·rw[show Xy e.n ks k' c y=y by unfold Xy;rw[Ç l]];have a:=ÀZ y d;have np:y.p≠e.p:=λz=>l (by have:=IQ M.pd d he z;rw[this]);rw[ep,A,B,a.at'.ob];have C:y.k≠e.p:=λz=>by have:=a.at'.ks;rw[gC,i]
   have D:y.f≠e.p:=λz=>by have:=a.at'.fs;rw[gC,i]
   exact(((A,k _ _ B np),k _ _ a.at'.ks C,k _ _ a.at'.fs D),a.le,a.len,a.srt,a.str)
 ·have:(YC L e.n ks k' c).map (·.p)=ŵ (·.p):=by unfold YC;rw[Qo];exact QJ λx _=>(Nv _ _ _ _ x).2.1
  rw[this];exact M.pd
def IE(f g:ae):Sp:=λvs H Q _=>X12 λ(m rd sd:ae) (L:À Zz) (s:StL) (nb li lo:Int) (w:Ã Int) (e:Zz) (r:ae) (ks:À ak)=>vs=[.ref m,.int e.n,.ref r]/\ZO f g H m rd sd L s nb li lo (Yy w)/\Win Ą į w/\Z2 Ą s į/\e∈L/\H r=U À1/\r≠e.p/\(Èh).length<=200/\ĝ Èh=true/\(∀x∈Ò++ks,ċ<=1000/\AZ x) /\
 ∀ (k' a c:ae) (h:StL) (i:Ã Int) (k q:Int) (d:Hp),H k'=af->H a=af->((ÓG/\c=sd/\k=0/\q=0)\/(e.g=Į/\ks≠[]/\H c=af/\YD (hdM ÎN) 8 į k q))->Win (hdM ÎN) į i->Z2 (hdM ÎN) h į->ZO f g d m rd c ÎN h nb (li+k) (lo+q) (Yy i)->#[e4,H,e.p,d]->Q .non d
theorem Zsi(T:Ù)(cm:ÚS)(bG:Ît)(be:Ç7)(fA:Mf P w K mg Â 4 aw "lengthen" ÂX (IG aw))(bb:Îu):Mf P w K mg Â 14 am "grow" ÇK (IE aw am):=by
 refine T.t_Merge_grow.mf Ub ÂY (λaP fa A Û s H vs Q E f h=>?_);obtain m|C|p|L|s|X|Y|D|w0|e|r|ks|rfl|M|W|ok|g|F|G|t|Z|I|q:=h;refine(_,#[Zf,#[Zx,3,Ub.nd,á,#[sw,cm,f,Áj]],#[Zf,#[ZI,#[ZA,bG,f,ÚV,É]],#[Zf,#[Zx,4,Ub.nd,á,#[X1,Xa,#[sW,be,f,3],ř,ă]],#[Zf,#[ZI,#[XF,fA,ņ,f,‹3›,ÄU]],#[Zg,#[ZN,(@Ź _ _ _ #[Xc,#[Xd,‹4›],#[W4,#[ry,WF,ÎL]]]),#[Zg,#[hH,bb,f]],ò]]]]]],?_);rw[uC];rw[sI,Re,g,de,gk,ÓD];have p9:Į+Àu<=200:=by rw[Qi]at t;exact t
 refine(_,rfl,m,dx,_,rfl,hm,Tz ..,_,rfl,m,C,p,L,s,X,Y,D,_,e,rfl,M,g,_,rfl,_,rfl,e.p,aw,de,_,_,rfl,gk,ņ,ÄR,Vo _ _ _,_,rfl,e.k,r,_,_,rfl,rfl,Re.at'.ks,F,(by rw[Qa,Qa];exact Ĩ Á),λc hc=>?_);rw[<- Qf];refine(e.n,c,Ò++ks,rfl,Ï Zb,by lia,λx i=>(I x i).1,R5 Z,λH1 J=>?_);have a:ZD H H1:=(Zi hc _).trans J;have M1:=ÃI a;have N:=Îs e g;rw[ep,Fh,zV,N.at'.ob];refine(_,rfl,e.p,Fh,_,rfl,zV,Vj ..,e.p,e.k,e.f,Ò,e.g,rfl,N.at',rfl,_,rfl,e.p,Fh,_,rfl,zV,ZgI ..,_,rfl,e.p,e.k,e.f,r,Ò,ks,e.g,rfl,N.at',a _ _ F,t,λx i=>(I x i).1,λk' j O io Fi R2 k2=>?_);have M2:=M1.grow g R2 t Z I k2;have v:#[e5,o,H,e.p,O]:=λb o k n=>k2 b o (a b o k) n;have fm:=v _ _ F G;have vO:ÓG->Q .non O:=λdJ=>by have eh:hdM (YC L e.n ks k' j)=hdM L:=Zpj (λx i hn=>by rw[Nu Ũ i g hn];exact dJ) k' j;refine q k' j p s w0 0 0 O (a.free io) (a.free Fi) (.inl (dJ,rfl,rfl,rfl)) #[ea,eh,W] #[ea,eh,ok] (by rw[QaL,QaL];exact M2) (λb o k n R=>v b o k R)
 refine(_,rfl,_,rfl,?_);by_cases hg:e.g<Į
 ·have S:WW Ò e.g=.str Ò[e.g]:=TK (Qb hg);rw[S];exact YR Âj (vO (.inl hg))
 ·have S:WW Ò e.g=.non:=by unfold WW;rw[QW Á]
  rw[S];refine Y2 rfl ?_;refine(_,rfl,r,_,rfl,.inl (Ï fm),_,_,rfl,rfl,_,rfl,Y0 ų ų)
  ·have l:(0:Int)<((Ûv).length:Int):=ÃG;rw[Qa]at l;have cu:ks≠[]:=λz=>by rw[z]at l;exact È l Ë
   rw[ny];refine(_,rfl,m,jL,_,rfl,dG,R6 ..,m,C,p,_,s,_,_,_,_,rfl,M2,λy s' w1 k1 q1 H3 B W3 S3 P3 M3 k3=>?_);rw[Tx]at W3 S3 P3;have vN:=UK 8 (hdM (YC L e.n ks k' j)) s' į M.up (Qk (show (ZB L).length<=60 by unfold ZB;rw[Qa];exact Âq) Ë) Ë S3;have le:=Re.le;have Fj:H y=af:=by
    cases w':H y with
    | none=>rfl
    | some u =>
     by_cases z:y=e.p
     ·rw[ep,d2,gI,R2.ob];rw[ss,gI,B]
     ·rw[v _ _ w' z]at B;cases B
   exact q k' j y s' w1 k1 q1 H3 (a.free io) (a.free Fi) (.inr (by lia,cu,Fj,P3)) W3 vN M3 (λb o k n R=>k3 b o (v b o k R) n)
  ·have l:¬ (0:Int)<((Ûv).length:Int):=Îc;rw[Qa]at l;exact vO (.inr (Ê7 Á))
theorem RT(ss:Ñ)(m:Nat)(h:m<=ń):Xm Ád af Å5=(ss.take m).map Å/\Xm Ád Å5 af=(ss.drop m).map Å:=by
 have e:∀d:Nat,Ž (Ád).length d Å5=m:=λd=>by unfold Ž;rw[jM];lia
 have a:∀d:Nat,Ž (Ád).length d af=d:=λd=>rfl;constructor
 ·unfold Xm;rw[n0]
 ·unfold Xm;rw[e,a,<- List.map_drop,<- List.map_take,Qx #[sq,QZ,Qa]]
theorem Nt{a:Int}(h0:0<=a)(h:a<1000000):ÓH<1920:=by
 by_cases z:ÎO=0
 ·rw[z];decide
 ·have b:ÎO<2 ^ 20:=by lia
  exact QG (#[w1].mpr b) Ë
theorem Tw{a:Int}(h:ÓH<1920):(Èi (toString a)).length<=1921:=by have e:=int_text_length_le (k:=1920) Ë h;rw[ÚW];lia
def xfs(r p:Int):À Á3:=[("row",.int r,),("place",.int p,)]
def ID(C:ae):Sp:=λvs H Q _=>X3 λ(e:ae) (r p:Int)=>vs=[.ref e,.int r,.int p]/\H e=U ÇB/\0<=r/\r<1000000/\0<=p/\p<1000000 /\
 ∀a,H a=af->a≠e->Q .non (upd #[iC,H,a] a (xdO a (xfs r p)))
theorem ZqV(T:Ù):Xf P w K mg Â 1 ao ap "OutOfOrder" ÇJ (ID ao):=by
 refine T.t_OutOfOrder_init.xf Zfc ÂY (λaP f A Û s H B Q E hr d h=>?_);obtain e|r|p|rfl|g|C|D|F|G|q:=h;refine(_,#[Zf,#[ZI,(@KA _ _ _ _ _ _ _ _ _ _ _ _ d ÚX rfl T.m_MergeError #[Zd,‹0›,#[V8,#[Ye,Ý,#[Ye,#[ht,Uh,1],#[Ye,Ý,#[hI,Uh,2]]]]]] Ë É É É)],#[Zf,#[rP,KI,T.na_OutOfOrder_row,1],#[Zg,#[rP,ZvE,T.na_OutOfOrder_place,2]]]],?_);have i:=Nt C D;have j:=Nt F G;have I:=Tw i;have J:=Tw j;have z:ÎP:=λa b c=>by rw[ÎQ];lia
 have y:ÎR:=λh=>by rw[(aO)];lia
 rw[gM,k,"row ",4,l,I];rw[ik,o,l,": the key at place ",19];have t:=z o J Ë;rw[ik,u,t," is less than the one ahead",27];refine(_,rfl,_,rfl,y (Qk k Ë),_,rfl,_,rfl,i,_,rfl,y (Qk l Ë),_,rfl,y (Qk o Ë),_,rfl,_,rfl,j,_,rfl,y (Qk t Ë),_,rfl,y (Qk u Ë),y (Qk u Ë),e,_,af,rfl,g,_,rfl,_,rfl,e,rfl,g,λv L ne=>?_);refine(_,rfl,_,rfl,e,v,_,rfl,by rw[Zc ne.symm];exact Zb,Zb,ne,by show 1<1000;decide,?_);rw[Zr6];exact q v L ne
def IC(b:ae)(H:Hp)(n j:Int)(E:XK):Prop:=∀ (dx:ae) (a:Hp),ZD H a->H dx=af->a dx=U (xdO dx (xfs n j))->E ÂT (U dx) a
def Nr(K:Ä)(c:ae):Sp:=λvs H Q E=>X3 λ(n:Int) (a:ae) (ss:À ak)=>vs=[.int n,.ref a]/\SqL K H a Ád/\ń<=400/\ÊM /\
 ((WX ss .non/\∀b,ZD H b->Q .non b)\/∃j:Int,WX ss (.int j)/\0<=n/\n<1000000/\IC c H n j E)
theorem Zlz(T:Ù)(B:Óc)(C:Xf P w K mg Â 1 ao ap "OutOfOrder" ÇJ (ID ao)) :
  D1f P w K mg Â 5 "refuse_break" Êr (Nr K ao):=by
 rw[d4,T.t_refuse_break.df1,Sv,D,m];obtain n|a|p|rfl|F|G|I|J:=h;refine(_,#[Zf,#[Zx,2,Sv.nd,á,#[sm,B,m]],#[Zg,#[ZN,#[eo,Tj,2,ř],#[Zg,(@Zvu _ _ _ _ _ _ _ _ _ _ _ _ _ _ _ C ÃL m #[e2,0,2] Ë ÊE É Ë É É)],ò]]],?_);refine(_,rfl,a,p,rfl,F,G,I,λv r c d=>?_);rcases J with⟨L,q⟩|⟨j,t,M,N,q⟩
 ·have e:=Oh c L;subst e;exact(_,rfl,rfl,_,rfl,Y7 (q r d))
 have e:=Oh c t;subst e;have u:0<=j/\j<1000000:=by
  rcases t with⟨z,_⟩|⟨k,z,hk,_⟩
  ·cases z
  ·cases z;lia
 refine(_,rfl,rfl,_,rfl,YJ ?_);refine(_,rfl,_,rfl,λe O=>(e,n,j,rfl,Zb,M,N,u.1,u.2,λg x ne=>(rfl,U g,by rw[Zc ne.symm];exact Zb,?_)));have y:r g=af:=by rw[Zc ne]at x;exact x
 refine q g _ #[iz,b,o,c] (d.free y) (Vy Zb ne);have i:=d b o c;have l:b≠e:=Ze i O;exact Vy (by rw[Zc (Ze i y),Zc l,Zc l];exact i) l
theorem IB{a:Int}(h:ÎO<2 ^ 21):ÓH<1920:=by
 by_cases z:ÎO=0
 ·rw[z];decide
 ·exact QG (#[w1].mpr h) Ë
theorem ZqK{L:ô}{n:Int}(a:n ∉ ZB L):Y5 (kvM L) (.inl n)=af:=by
 cases b:Y5 (kvM L) (.inl n) with
 | none=>rfl
 | some v=>obtain e|c|z:=Ğ (VA b);injection z with z _;injection z with z;exact È (show n∈ZB L by rw[<- z];exact Qd (f:=λe:Zz=>e.n) c) a
def RS(ks:Ñ):Prop:=Àu<=200/\∀x∈ks,ċ<=1000/\AZ x
def Zwy(n:Int):À Á3:=[("line",.int n,)]
def Zsa(C:ae):Sp:=λvs H Q _=>X2 λ(e:ae) (r:Int)=>vs=#[r2,e,r]/\H e=U ÇB/\0<=r/\r<1000000 /\
 ∀a,H a=af->a≠e->Q .non (upd #[iC,H,a] a (xdO a (Zwy r)))
theorem Zqp(T:Ù):Xf P w K mg Â 1 au ap "BadLine" Êq (Zsa au):=by
 refine T.t_BadLine_init.xf ZgG ÂY (λaP f A Û s H o Q E hr d h=>?_);rw[sR,e,r,g,p,t];refine(_,#[Zf,#[ZI,(@KA _ _ _ _ _ _ _ _ _ _ _ _ d ÚX rfl T.m_MergeError #[Zd,‹0›,#[V8,#[Ye,Ý,#[hI,Uh,1]]]] Ë É É É)],#[Zg,#[rP,KI,T.na_BadLine_line,1]]],?_);have i:=Nt p t;have u:=Tw i;have z:ÎP:=λa b c=>by rw[ÎQ];lia
 have y:ÎR:=λh=>by rw[(aO)];lia
 rw[gM,j,"line ",5,k,u];rw[ik,l,k," of the sheet is not so written",31];refine(_,rfl,_,rfl,y (Qk j Ë),_,rfl,_,rfl,i,_,rfl,y (Qk k Ë),_,rfl,y (Qk l Ë),y (Qk l Ë),e,_,af,rfl,g,?_);exact(_,rfl,_,rfl,e,rfl,g,λv B ne=>q v B ne)
def IA(a b c:ae):Sp:=λvs H _ E=>X10 λ(m rd sd:ae) (L:À Zz) (s:StL) (nb li lo:Int) (d:V) (n:Int)=>vs=#[r2,m,n]/\ZO a b H m rd sd L s nb li lo d/\n ∉ ZB L/\n.natAbs<2 ^ 21/\E ÅW af H
def Nq(a b c:ae):Sp:=λvs H Q E=>IA a b c vs H Q E\/RV a b vs H Q E
theorem Zmf(T:Ù):M1f P w K mg Â 1 am "row_of" ÁI (Nq aw am aA):=by
 refine T.t_Merge_row_of.mf1 Ka #[iv,C] #[d5,C,j]
 ·rcases h with⟨m,d,l,L,s,o,p,lo,r,n,rfl,_⟩|⟨m,d,l,L,s,o,p,lo,r,n,rfl,_⟩<;>rfl
 refine(_,#[Zf,#[ZN,#[Zn,(SX j),‹1›,ġ,Áa],#[Zg,(@Kx _ _ _ _ _ _ _ _ _ _ _ _ T.xw_NoRow ÃL j #[Zd,#[V8,#[Ye,Ý,#[Ye,#[ht,Uh,1],(@UZ _)]]]] É Ë É É)],ò],#[Zg,#[Zm,#[ib,j,1]]]],?_);rcases h with h|⟨m,d,l,L,s,o,p,lo,r,e,rfl,M,t,q⟩
 rotate_left
 ·rw[gg,g,i];refine(_,rfl,_,rfl,m,am,g,_,_,rfl,i,â,ş,Z4 ..,d,_,rfl,Ģ (k:=Æa) Ň (Wu Ũ t),_,rfl,Y7 ?_);exact(_,rfl,m,am,g,_,_,rfl,i,â,ş,Z4 ..,_,rfl,d,_,rfl,Ģ (k:=Æa) Ň (Wu Ũ t),q)
 obtain m|d|l|L|s|o|p|lo|r|n|rfl|M|D|F|q:=h;rw[gg,g,i];refine(_,rfl,_,rfl,m,am,g,_,_,rfl,i,â,ş,Z4 ..,d,_,rfl,Ģ (k:=.inl n) Ň (ZqK D),_,rfl,YJ ?_);have u:=IB F;have G:=Tw u;have z:ÎP:=λa b c=>by rw[ÎQ];lia
 have y:ÎR:=λh=>by rw[(aO)];lia
 rw[gM,v,"there is no row ",16,B,G];exact(_,rfl,y (Qk v Ë),_,rfl,_,rfl,u,_,rfl,y (Qk B Ë),y (Qk B Ë),_,rfl,q)
theorem Zjr(T:Ù)(i:Îe)(j:ÚY):M1f P w K mg Â 14 am "drop_row" ÁI (IA aw am aA):=by
 rw[d4,T.t_Merge_drop_row.mf1,Sx,k,a];obtain m|b|c|L|s|d|e|lo|g|n|rfl|M|l|o|q:=h;refine(_,#[Zf,#[Zx,2,Sx.nd,á,#[Yi,i,ņ,a,#[UW,j,â,ÃL,a,‹0›,Áj]]],ÓI],?_);rw[gg,p,r];exact(_,rfl,m,p,_,rfl,r,Tz ..,_,rfl,.inl (m,b,c,L,s,d,e,lo,g,n,rfl,M,l,o,q))
def Rf(L:ĸ)(nb:Int)(H:Hp)(ask:ak)(g m:V):Ã (Ã (Int×Int))->Prop
 | none=>((ask = "drop"/\m=.non)\/(ask = "grow"/\∃k,m=.ref k))/\∃n,g=.int n/\n ∉ Z6 L/\n.natAbs<2 ^ 21
 | some af=>ask = "add"/\m=.non/\X2 λk ks=>g=.ref k/\H k=U À1/\RS ks/\ĝ ks=true/\16<=Àv
 | some (U a)=>(ask = "add"/\m=.non/\a.1=nb/\X2 λk ks=>g=.ref k/\H k=U À1/\RS ks/\WX ks (.int a.2)) \/
  (ask = "grow"/\∃e∈L,a.1=e.1/\g=.int e.1/\X2 λk ks=>m=.ref k/\H k=U À1/\RS ks/\WX (e.2.1++ks) (.int a.2))
def RfE(c d e:ae)(H:Hp)(E:XK):Ã (Ã (Int×Int))->Prop
 | none=>∀a,ZD H a->E ÅW af a
 | some af=>∀a,ZD H a->E Τ af a
 | some (U b)=>IC e H b.1 b.2 E
def Iz(a b c d e:ae):Sp:=λvs H _ E=>X11 λ(m rd sd:ae) (L:À Zz) (s:StL) (nb li lo:Int) (f g:V) (o:Ã (Ã (Int×Int)))=>vs=[.ref m,g]/\ZO a b H m rd sd L s nb li lo f/\0<=nb/\nb<1000000/\Rf (ZS L) nb H "add" g .non o/\RfE c d e H E o
theorem Np(o:ak)(h:o = "drop"\/o = "grow"):("add" : ak)≠o:=by rcases h with rfl|rfl<;>ac_rfl
theorem ZrO(T:Ù)(O:ÚZ):M1f P w K mg Â 14 am "add_row" ÄK (Iz aw am aA aJ ao):=by
 rw[d4,T.t_Merge_add_row.mf1,Sy,R,C];obtain m|i|S|L|s|D|V|lo|W|g|o|rfl|M|l|nb1|p|q:=h;refine(_,#[Zf,ÚO,#[Zf,#[ZI,#[SU,O,ÃL,C,#[e2,2,1]]],#[Zf,#[ZN,ÚP,#[Zg,(@Kx _ _ _ _ _ _ _ _ _ _ _ _ T.xw_Full ÃL C #[Zd,#[V8,#[Ye,(@Uh _ _ _ _ Ój),#[Ye,Ý,(@UZ _)]]]] É Ë É É)],ò],#[Zf,Ê8,ÓI]]]],?_);rw[gg,r,F];refine(_,rfl,m,am,r,_,_,rfl,F,â,Îy,NO ..,?_);cases o with
 | none =>
  rcases p.1 with⟨h,_⟩|⟨h,_⟩
  ·exact È h (Np _ Ė)
  ·exact È h (Np _ Ãp)
 | some o =>
 cases o with
 | some X =>
  rw[ep,n,j,X];rcases p with⟨_,_,rfl,k,ks,rfl,t,e,Y⟩|⟨h,_⟩
  ·exact(_,rfl,_,rfl,n,k,ks,rfl,Ï t,by have:=e.1;lia,λx u=>(e.2 x u).1,.inr (j,Y,l,nb1,q))
  ·exact È h (Np _ Ãp)
 | none =>
  obtain _|_|k|ks|rfl|t|e|Z|v:=p;refine(_,rfl,_,rfl,D,k,ks,rfl,Ï t,by have:=e.1;lia,λx u=>(e.2 x u).1,.inl (R5 Z,λH1 B=>?_));have G:=B _ _ F;have M1:=ÃI B;have iJ:Ók:=by unfold kvM;rw[Qa]
  have lf:=Âq;have h16':16<=Àv:=by unfold ZS at v;rw[Qa]at v;exact v
  refine(_,rfl,m,am,r,_,_,rfl,G,â,ş,Z4 ..,i,_,rfl,ÊY,_,_,rfl,rfl,_,rfl,Y0 Å4 (λd=>È (Ĉ (show (16:Int)<=ÊZ by lia)) d));have I:(ÊZ).natAbs.log2<1920:=IB Á;have tr:=Tw I;have z:ÎP:=λa b c=>by rw[ÎQ];lia
  have y:ÎR:=λh=>by rw[(aO)];lia
  have J:(Áy++Èi (toString ÊZ)).length<=0+1921:=z Ë tr Ë;rw[ik,N,J," rows are there",15];exact(_,rfl,m,am,r,_,_,rfl,G,â,ş,Z4 ..,i,_,rfl,ÊY,_,rfl,I,_,rfl,y (Qk J Ë),_,rfl,y (Qk N Ë),y (Qk N Ë),_,rfl,q H1 B)
def Iy(a b c d f:ae):Sp:=λvs H _ E=>X12 λ(m rd sd:ae) (L:À Zz) (s:StL) (nb li lo:Int) (h g k:V) (o:Ã (Ã (Int×Int)))=>vs=[.ref m,g,k]/\ZO a b H m rd sd L s nb li lo h/\(∀e∈L,0<=e.n/\e.n<1000000)/\Rf (ZS L) nb H "grow" g k o/\RfE c d f H E o
theorem ZoR(T:Ù)(J:ÚZ)(N:ÚY):M1f P w K mg Â 14 am "grow" ÇK (Iy aw am aA aJ ao):=by
 rw[d4,T.t_Merge_grow.mf1,Ub,O,z];obtain m|i|l|L|s|p|r|lo|t|g|k|o|rfl|M|B|u|q:=h;refine(_,#[Zf,#[Zx,3,Ub.nd,á,#[UW,N,â,ÃL,z,‹0›,Áj]],#[Zf,#[ZI,#[SU,J,ÃL,z,ÚV]],ÓI]],?_);rw[gg,C,D];have F:("grow" : ak) ≠ "add":=by ac_rfl
 cases o with
 | none=>obtain _|n|rfl|G|R:=u;rw[<- Xp]at G;exact(_,rfl,m,C,_,rfl,D,Tz ..,_,rfl,.inl (m,i,l,L,s,p,r,lo,t,n,rfl,M,G,R,q H ÄW))
 | some o =>
 cases o with
 | none=>exact È u.1 F
 | some S =>
  rw[ep,n,j,S];rcases u with⟨h,_⟩|⟨_,x,hx,rfl,rfl,V,ks,rfl,W,v,y⟩
  ·exact È h F
  rw[ed,e,a,hx];rw[sI,Re,a,X,Y,ÓD];refine(_,rfl,m,C,_,rfl,D,Tz ..,_,rfl,.inr (m,i,l,L,s,p,r,lo,t,e,rfl,M,a,?_));refine(_,rfl,_,rfl,e.p,aw,X,_,_,rfl,Y,ņ,ÄR,Vo _ _ _,_,rfl,e.k,V,_,_,rfl,rfl,Re.at'.ks,W,(by rw[Qa,Qa];have:=v.1;have:=Re.len;exact Ĩ Á),λc I=>?_);rw[<- Qf];refine(e.n,c,Ò++ks,rfl,Ï Zb,(by rw[Qi];have:=v.1;have:=Re.len;lia),(λx hx=>?_),.inr (j,y,(B e a).1,(B e a).2,λd Z s' hd h'=>q d Z (λb o y=>s' b o (Zi I _ b o y)) ((Zi I _).free hd) h'));rcases í hx with hx|hx
  ·exact(Re.str x hx).1
  ·exact(v.2 x hx).1
theorem No:∀a b:À Nat,ÄP a b=true↔a<b
 | [],[]=>by simp[ÄP]
 | [],y::s=>by simp[ÄP]
 | x::r,[]=>by simp[ÄP]
 | x::r,y::s=>by have ih:=No r s;rw[Ù6];simp[ÄP,ih]
def LeS(a b:ak):Prop:=¬ b.cps.toList<Òx
theorem LeS.trans{a b c:ak}(h:LeS a b)(k:LeS b c):LeS a c:=List.not_lt.mpr (List.le_trans (List.not_lt.mp h) (List.not_lt.mp k))
theorem Ix:∀ (r:À ak) (x:ak),ÇV x r=true↔(x::r).Pairwise LeS
 | [],x=>by simp[ÇV]
 | y::r,x=>by
  have ih:=Ix r y;rw[Ú0];unfold ÇV;rw[Q3,Bool.not_eq_true'];constructor
  ·rintro⟨a,c⟩;have p:=ih.mp c;have d:LeS x y:=λz=>by rw[(No _ _).mpr z]at a;cases a
   refine(λb hb=>?_,p);rcases ĩ hb with rfl|hb
   ·exact d
   ·exact ÆH ((ÓJ p).1 b hb)
  ·rintro⟨a,c⟩;exact(ÒN λz=>a y Ö ((No _ _).mp z),ih.mpr c)
theorem Iw(ss:Ñ):ĝ ss=true↔ÓK LeS:=by
 cases ss with
 | nil=>simp[ĝ]
 | Í x r=>exact Ix r x
theorem ZuN{L:ô}(h:∀e∈L,e.g<=Į):(Wv ÄS).sum=((YL (ZS L):Nat):Int):=by
 induction L with
 | nil=>rfl
 | Í e r a=>have i:=#[gf,a,x,b];have g:=h e Ö;unfold Wv YL ZS at i ⊢;rw[Qj,Qj,Qj,Qj,QR,QR,i,Int.natCast_add];congr 1;show (Į:Int)-(e.g:Int)=((Į-e.g:Nat):Int);lia
def Nm:Sp:=λvs H Q _=>∃z:ak,vs=[.str z]/\AZ z/\Q ÆL H
theorem Zp3(T:Ù):Df P w K mg Â 1 "is_key" ["thing"] Nm:=by
 rw[d4,T.t_is_key.df,Ke,d,hr];obtain z|rfl|e|q:=h;refine(_,#[Zf,#[ZN,(@Tr _ _ _ _ #[Xd,ÙK]),ÒR,ò],#[Zf,#[XT,Ο,#[ht,LA,0],#[rT,1,Ke.nd],Ú1],ÒR]],_,rfl,_, "str",_,_,rfl,.str z,Sl K,_,rfl,Y7 ?_);refine(_,rfl,z,rfl,?_);refine Lz (λi a b=>(∃v:Ã V,a=[U (.str z),v])/\b=H) #[sx,af] ?_ ?_
 ·rintro i c a b g ⟨⟨v,rfl⟩,rfl⟩;have j:#[fK,"a",97]:=by ac_rfl
  have k:#[fK,"z",122]:=by ac_rfl
  have hcz:=e c (Qr (i:=i) #[ea,QaQ,g]);refine ÎS;rw[r8,j];refine Y7 ÎS;rw[r8,k];exact Y7 #[sx,_]
 ·rintro a b ⟨⟨v,rfl⟩,rfl⟩;exact q
def Iv:Sp:=λvs H Q _=>∃z:ak,vs=[.str z]/\AZ z/\1<=ŗ/\ŗ<=8/\Q (.str z) H
theorem ZnM(T:Ù)(a:Ú2):Df P w K mg Â 2 "read_name" Âm Iv:=by
 rw[d4,T.t_read_name.df,Zjn,b,c];obtain z|rfl|d|h1|h8|q:=h;refine(_,#[Zg,#[Zm,#[Z0,(@Ź _ _ _ #[Xc,#[Xd,#[sy,a,c]],#[W4,(@Rx _ _ _ _ _ _ _ _ _ _ _ _ We We Þ ÇQ #[V9,T.g_MOST_NAME] Áa)]]),‹0›,ř]]],_,rfl,z,rfl,d,_,rfl,YJ ?_);refine(_,rfl,z,rfl,Ĩ Á,_,_,rfl,rfl,_,rfl,Y2 Á (_,_,rfl,rfl,_,rfl,Y2 Á ?_));exact Çv
def kT0(k:ak):ak:=if k = "" then "-" else k
def Iu:Sp:=λvs H Q _=>∃k:ak,vs=[.str (kT0 k)]/\AZ k/\Çx<=40/\Q (.str k) H
theorem Zsb{k:ak}(h:AZ k):¬ Å k=Å "-":=λz=>by injection z with z;have:=h 45 (by rw[z];ac_rfl);lia
theorem Zqw(T:Ù)(c:Ú2):Df P w K mg Â 2 "read_key" Âm Iu:=by
 rw[d4,T.t_read_key.df,Zk4,d,e];obtain k|rfl|b|Fm|q:=h;refine(_,#[Zf,#[ZN,#[Zn,YT,‹0›,ÓL,ă],Èj,ò],#[Zg,#[Zm,#[Z0,(@Ź _ _ _ #[Xc,#[Xd,#[sy,c,e]],#[W4,(@Rx _ _ _ _ _ _ _ _ _ _ _ _ We We Þ ÇQ #[V9,T.g_MOST_KEY] Áa)]]),‹0›,ř]]]],_,rfl,rfl,_,rfl,?_);by_cases a:k = ""
 ·subst a;exact YJ q
 ·have g:kT0 k=k:=by unfold kT0;rw[zf,a]
  rw[g,ē (Zsb b)];have h1:1<=Çx:=by
   cases i:Çx with
   | zero=>exact È (by obtain⟨⟨l⟩⟩:=k;have:Ų=0:=i;rw[Ê7 this];rfl) a
   | succ n=>lia
  refine Y7 (_,rfl,k,rfl,b,_,rfl,YJ ?_);exact(_,rfl,k,rfl,Ĩ Á,_,_,rfl,rfl,_,rfl,Y2 Á (_,_,rfl,rfl,_,rfl,Y2 Á (_,rfl,q)))
def Xh(n:Nat):ak:=ÇH
def Ir:Sp:=λvs H Q _=>∃n:Nat,vs=[.str (Xh n)]/\n<10/\Q ÆL H
theorem ZtM(n:Nat):¬ Å (Xh n)=Å "":=λz=>by injection z with z;have:=ł (λs:ak=>s.cps.size) z;exact È this (by show ¬ (1=_);ac_rfl)
theorem ZrB(T:Ù):Df P w K mg Â 1 "are_figures" Âm Ir:=by
 rw[d4,T.t_are_figures.df,J8,d,hr];obtain n|rfl|hn|q:=h;refine(_,#[Zf,#[XT,Ο,#[ht,LA,0],#[rT,1,J8.nd],Ú1],#[Zg,#[Zm,#[r6,VM,0]]]],_,rfl,Xh n,rfl,?_);refine Lz (λi b a=>(∃v:Ã V,b=[U (.str (Xh n)),v])/\a=H) #[sx,af] ?_ ?_
 ·rintro i c b a e ⟨⟨v,rfl⟩,rfl⟩;have g:#[fK,"0",48]:=by ac_rfl
  have j:#[fK,"9",57]:=by ac_rfl
  have hcz:c=48+n:=by have k:c∈cds (Xh n):=Qr (i:=i) #[ea,QaQ,e];simpa [cds,Xh] using k
  refine ÎS;rw[r8,g];refine Y7 ÎS;rw[r8,j];exact Y7 #[sx,_]
 ·rintro b a ⟨⟨v,rfl⟩,rfl⟩;refine(_,rfl,rfl,?_);show Q (.bl (!decide (Å (Xh n)=Å ""))) a;rw[ē (ZtM n)];exact q
def Iq:Sp:=λvs H Q _=>X3 λ(n:Nat) (a b:Int)=>vs=[.str (Xh n),.int a,.int b]/\n<10/\a<=n/\(n:Int)<=b/\Q ÄE H
theorem Zqf(T:Ù)(m:#[g3,1,"are_figures","word",Ir]):Df P w K mg Â 2 "read_number" ÍS Iq:=by
 rw[d4,T.t_read_number.df,J9,o,p];obtain n|a|b|rfl|g|i|j|q:=h;refine(_,#[Zf,#[ZN,(@Ź _ _ _ #[WR,(@Tr _ _ _ _ #[Xd,#[sy,m,p]]),#[WS,#[Zn,WF,ÇQ,#[V9,T.g_MOST_FIGURES],ă]]]),ÇX,ò],#[Zf,#[ZN,(@Ź _ _ _ #[Xc,#[Zn,YT,#[ZC,Wd,‹0›,Þ],Ý,ă],#[W4,#[eo,VM,0,Ý]]]),ÇX,ò],#[Zf,#[Zx,3,J9.nd,á,#[W9,ZwA,ÊA,ÊB,ÊN]],#[Zg,#[Zm,#[Z0,(@Rx _ _ _ _ _ _ _ _ _ _ _ _ We We ‹1› ‹3› ‹2› Áa),‹3›,ř]]]]]],?_);have k:(Xh n).length=1:=rfl;have fin:∀ (c:VK),c ÄE H->(if decide (a<=(n:Int))=true then (if decide ((n:Int)<=b)=true then c ÄE H else c .non H) else c .non H):=λc h=>by rw[Ĉ i,Ĉ j];exact h
 refine(_,rfl,n,rfl,g,_,rfl,Y7 ?_);refine(_,rfl,Xh n,rfl,Ĩ ÓM,_,_,rfl,rfl,_,rfl,?_);rw[ē ÓM];refine Y7 ?_;have r:atI (Xh n).cps.toList 0=U (48+n):=rfl;refine(_,rfl,_,_,_,rfl,rfl,Ĩ ÓM,r,rfl,_,rfl,?_);have l:#[fK,"0",48]:=by ac_rfl
 by_cases t:n=0
 ·subst t;have e:Å (Xh 0)=Å "0":=by rw[l];rfl
  refine Y0 Å4 (λd=>È (Ĉ e) d);refine ÓN;rw[Ĉ e];refine Y7 (_,rfl,0,rfl,g,?_);exact Ú3
 ·have e:¬ Å ÇH=Å "0":=λz=>by injection z with z;rw[l]at z;have:=ł (λs:ak=>s.cps[0]?) z;have:U (48+n)=U 48:=this;rw[xJ];lia
  refine Y0 (λd=>È (Ľ d) e) (λ_=>Y7 ?_);refine(_,rfl,n,rfl,g,?_);exact Ú3
def NmS(s:ak):Prop:=AZ s/\1<=ŧ/\ŧ<=8
def RdW(k a:ak)(v:V):Prop:=(k = "name"/\v=.str a/\NmS a)\/(k = "key"/\∃x,a=kT0 x/\v=.str x/\AZ x/\ċ<=40)\/(k = "many"/\∃n:Nat,a=Xh n/\v=.int n/\n<10)
def Ip:Sp:=λvs H Q _=>X3 λ(k a:ak) (v:V)=>vs=[.str k,.str a]/\RdW k a v/\Q v H
theorem Znz(T:Ù)(a:Æe)(e:#[g3,2,"read_name","word",Iv])(g:#[g3,2,"read_key","word",Iu])(i:Df P w K mg Â 2 "read_number" ÍS Iq):Df P w K mg Â 3 "read_word" ÍR Ip:=by
 rw[d4,T.t_read_word.df,Oz,j,b];refine(_,#[Zf,#[ZN,ÓO,#[Zg,#[Zm,#[sm,e,b]]],ò],#[Zf,#[ZN,ÓO,#[Zg,#[Zm,#[sm,g,b]]],ò],#[Zf,#[YB,#[ZC,PP,#[UY,a.m_BOUNDS],‹0›],#[rR,Oz.nd]],#[Zg,#[Zm,#[gb,i,b,1,2,3]]]]]],?_);obtain k|z|v|rfl|l|q:=h;rcases l with⟨rfl,rfl,c,m,o⟩|⟨rfl,k,rfl,rfl,c,p⟩|⟨rfl,n,rfl,rfl,r⟩
 ·exact(_,rfl,rfl,_,rfl,YJ (_,rfl,z,rfl,c,m,o,q))
 ·refine ÓP;exact(_,rfl,rfl,_,rfl,YJ (_,rfl,k,rfl,c,p,q))
 ·refine ÓP;refine ÓP;rw[g9,t,u,x,a.d_BOUNDS_many];refine(_,rfl,bQ, "many",.ref t,_,rfl,rfl,a.kd_BOUNDS,u,rfl,t,_,rfl,x H,rfl,_,_,rfl,_,_,rfl,rfl,?_);exact(_,rfl,_,rfl,_,rfl,n,0,1000000,rfl,r,by lia,by lia,q)
theorem Io{k:ak}(h:¬ k = ""):¬ Å k=Å "":=λz=>by injection z with z;exact h z
def Im:Sp:=λvs H Q _=>X2 λ(k:V) (m:Int)=>vs=[k,.int m]/\((k=.non/\m=0)\/k=.str "key")/\Q ÆL H
theorem ZtC(T:Ù):Df P w K mg Â 1 "may_be_further" Êt Im:=by
 rw[d4,T.t_may_be_further.df,Zfw,a,hr];refine(_,#[Zf,#[ZN,#[hh,0],#[Zg,#[Zm,#[X1,YT,‹1›,Þ,ă]]],ò],#[Zg,#[Zm,(@Zvt _ _ _ _ _ _ _ #[r6,VM,0] (@UD _ _ _ _ _ (@ZqR _ _ _ _ _ _ _ _ _ _ _ _ We We Þ ‹1› #[V9,T.g_MOST_SIZES] Áa)))]]],?_);rw[sS,k,m,b];rcases b with⟨rfl,rfl⟩|rfl
 ·exact(_,rfl,rfl,_,rfl,Y0 (λ_=>(_,rfl,rfl,q)) (λd=>È ÎT d))
 ·refine Ú4;refine ÓN;rw[show (!decide (Å "key" = Å "size"))=true by ac_rfl];exact YJ q
def UI:Sp:=λvs H Q _=>∃k:ak,vs=[.str k]/\Q (.str (kT0 k)) H
theorem ZsQ(T:Ù):Df P w K mg Â 1 "written_key" ["key"] UI:=by
 rw[d4,T.t_written_key.df,ZhF,b,hr];obtain k|rfl|q:=h;refine(_,#[Zg,#[Zm,#[Z0,#[eo,VM,0,Ý],‹0›,ÓL]]],_,rfl,rfl,_,rfl,?_);unfold kT0 at q;by_cases a:k = ""
 ·rw[rp];rw[Ĉ rfl];exact Y7 q
 ·rw[tI];exact YJ Çv
theorem ZtK(T:Ù):Df P w K mg Â 1 "_law_key_text" ÍT UI:=by
 rw[d4,T.t_l_key_text.df,Zh8,b,hr];obtain k|rfl|q:=h;refine(_,#[Zg,#[Zm,#[Z0,ÓO,Ý,‹0›]]],_,rfl,rfl,_,rfl,?_);unfold kT0 at q;by_cases a:k = ""
 ·rw[rp];exact YJ q
 ·rw[tI];exact Y7 Çv
theorem Tv(k:ak):(kT0 k).length<=Çx+1:=by
 unfold kT0;split
 ·exact Qk (by decide:("-" : ak).length<=1) Á
 ·lia
theorem Il(x:ak):Áy++x=x:=by obtain⟨l⟩:=x;show (⟨#[]++l⟩:ak)=⟨l⟩;simp
def thT(nm k:ak):ak:=nm ++ ":"++kT0 k
def thO(nm:ak):Ã ak->ak
 | none=>nm ++ ":."
 | some k=>thT nm k
def Ik:Sp:=λvs H Q _=>X2 λ(nm:ak) (k:Ã ak)=>vs=[.str nm,oV k]/\ÎU<=90/\(∀x,k=U x->ċ<=1000)/\Q (.str (thO nm k)) H
theorem ZnX(T:Ù)(i:#[g3,1,"written_key","key",UI]):Df P w K mg Â 2 "written_thing" Ês Ik:=by
 rw[d4,T.t_written_thing.df,Zgf,j,l];rw[f8,b,k,hn,m];refine(_,#[Zg,#[Zm,#[Z0,#[hh,1],#[V8,#[hI,PN,0]],#[V8,#[Ye,#[ht,PN,0],#[Ye,Ý,#[Ye,(@PN _ _ _ _ #[sm,i,l]),(@UZ _)]]]]]]],?_);have a0:ak.empty.length=0:=rfl;have l0:(Áy++b).length<=90:=by rw[QM];lia
 have a:∀ {n:Nat},n<=1102->n<=aq:=λh=>Qk h Ñr;cases k with
 | none =>
  have e2:#[fr,":.",2]:=by ac_rfl
  have e:(Áy++b ++ ":.").length<=101:=by rw[QM];lia
  refine(_,rfl,rfl,_,rfl,Y0 Å4 (λd=>È ÎT d));refine(_,rfl,_,rfl,Ĩ Á,_,rfl,a Á,_,rfl,a Á,?_);have c:Q (.str (b ++ ":.")) H:=q;rw[Il]at e ⊢;exact(a Á,c)
 | some k =>
  have io:=m k rfl;refine Ú4;have jE:=Tv k;have e1:Èk:=by ac_rfl
  have e:(Áy++b ++ ":").length<=101:=by rw[QM];lia
  have g:(Áy++b ++ ":"++kT0 k).length<=1102:=by rw[QM];lia
  refine(_,rfl,_,rfl,Ĩ Á,_,rfl,a Á,_,rfl,a Á,_,rfl,k,rfl,_,rfl,a Á,_,rfl,a Á,?_);have c:Q (.str (b ++ ":"++kT0 k)) H:=q;rw[Il]at g ⊢;exact(a g,c)
def Nl(K:Ä):Sp:=λvs H Q _=>X2 λ(l:ae) (ws:À ak)=>vs=Äx/\SqL K H l (Âl Å)/\(Âl Ân).sum+Àb<=1000000/\Q (.str (if ws=[] then "-" else Áh " " ws)) H
theorem Zoj(T:Ù):Df P w K mg Â 1 "with_blanks" ["words"] (Nl K):=by
 rw[d4,T.t_with_blanks.df,ZgZ,c,hr];rw[f8,l,ws,b,hs];refine(_,#[Zg,#[Zm,#[Z0,#[ry,WF,ÇP],#[yW,ÊN],ÓL]]],_,rfl,l,_,rfl,.inl b,_,_,rfl,rfl,_,rfl,?_);rw[Qa];by_cases a:ws=[]
 ·rw[rp];exact Y7 q
 ·rw[hy,a,q];have hp:0<Àb:=List.length_pos_iff.mpr a;refine Y2 Á (rfl,_,rfl,_,l,ws,rfl,rfl,b,?_,q);have d:Ê9:=by ac_rfl
  rw[d];lia
theorem ZsW{x:ak}(a:AZ x)(h:ċ<=1000):ÅE Åk=true:=by unfold ÅE;rw[Q3,Q3];refine((by simp[ÁL,a.ok],by simp[Âp]),Ĉ ?_);have e:x.cps.size=ċ:=rfl;show x.cps.size<=2 ^ 20;rw[e];exact Qk h Ë
def Ij:Sp:=λvs H Q _=>X5 λ(a b:ae) (c:ak) (ps ks:À ak)=>vs=[.str c,.ref a,.ref b]/\H a=U #[ef,ps.map]/\H b=U À1/\ÀD<=10/\Àu<=90/\ĵ<=10/\#[fc,ps,20]/\#[fc,ks,90] /\
 ∀d,ZD H d->Q (.str (Áh " " (c::ps++ť kT0))) d
theorem Zn6(T:Ù)(bP:ÓQ):Df P w K mg Â 2 "_law_words" ÅZ Ij:=by
 rw[d4,T.t_l_words.df,Zmy,vs,W];obtain a|b|d|e|ks|rfl|ha|hb|p10|k100|w10|J|cu|q:=h;refine(_,#[Zg,#[Zm,#[YQ,Q0,Qaj,Qak,(U3 K),Ý,#[Zd,#[ZR,Wc,#[ZR,Wc,#[ZT,ÊN],#[XS,Ov,Ëa,#[gA,3,Ov],Ξ,(λ_ _ _ _=>#[W9,(Rh K W),Ëb,Ëc,#[Zd,#[cw,3,Ov]]])]],#[XS,Sr,#[iL,K,‹2›],#[gA,3,Sr],Ξ,(λ_ _ _ _=>#[ZA,bP,W,#[Zd,#[cw,3,Sr]],#[hp,Sr]])]]]]]],?_);refine(rfl,_,rfl,Æf,λc hc=>?_);have z:=Zi hc #[gt,d];have X:(upd H c #[gt,d]) c=U #[gt,d]:=Zb;have L:=z _ _ ha;have Y:=z _ _ hb;generalize upd H c (.lst [.str d])=H1 at z X L Y ⊢;refine#[ze,a,L,D,Z];refine V1 (K:=K) (a:=a) (xs:=e.map Å) (λi zs n p=>(∃v:Ã V,n=Ú5)/\zs=(e.take i).map Å/\i<=e.length/\p D=U π/\ZD H1 p) ?_ #[eF,L] ?_ ?_
 ·exact#[gn,Z]
 ·rintro i y zs n p g ⟨⟨v,rfl⟩,rfl,hi,B,r⟩;rw[Qp]at g;cases j:e[i]? with
  | none=>rw[j]at g;cases g
  | some x =>
  rw[en,j,g,M,e.length];have az:=(J x (Qr j)).2;refine(_,rfl,_,.str x,rfl,.str x,ZsW az (Qk (J x (Qr j)).1 Ë),rfl,rfl,B,(by rw[Qa,Qw,aO];lia),ÿ,?_,M,Zb,λN o t=>?_)
  ·rw[QH,j,Qf];rfl
  ·rw[s3,t,Z,r,N,o]
 rw[sE,n,p,v,B,r];rw[Qa,Qx ë]at B;refine(c,D,_,_,rfl,rfl,r _ _ X,B,(by show 1+_<=_;rw[Qa,aO];lia),λC ix=>?_);have O:=Zi ix Ú6;have zX:(upd p C Ú6) C=U (.lst ((d::e).map Å)):=Zb;have R:=O _ _ (r _ _ Y);have Fn:=(z.trans r).trans O;generalize upd p C (.lst ([.str d]++e.map Å))=H3 at O zX R Fn ⊢;refine#[ze,b,R,D',tK];refine V1 (K:=K) (a:=b) (xs:=ť Å) (λi zs n F=>(∃v:Ã V,n=Ú5)/\zs=((Ík i).map kT0).map Å/\i<=Àu/\F D'=U π/\ZD H3 F) ?_ #[eF,R] ?_ ?_
 ·exact#[gn,tK]
 ·rintro i y zs n F g ⟨⟨v,rfl⟩,rfl,hi,G,I⟩;rw[Qp]at g;cases j:ks[i]? with
  | none=>rw[j]at g;cases g
  | some x =>
  rw[en,j,g,M,Àu];refine(_,rfl,x,rfl,G,(by rw[Qa,Qa,Qw,aO];lia),ÿ,?_,M,Zb,λN o t=>?_)
  ·rw[QH,j,Qf,Qf];rfl
  ·rw[s3,t,tK,I,N,o]
 rw[sE,n,F,v,G,I];rw[Qa,Qx ë]at G;refine(C,D',_,_,rfl,rfl,I _ _ zX,G,(by rw[Qa,Qa,Qa,QA,aO];lia),λe2 j3=>?_);rw[<- Qf];have sQ:∀ (m:Nat) (l:À ak),#[s2,l,m]->(ÂS Ân).sum<=Ų*m:=λm l=>by
  induction l with
  | nil=>intro _;simp
  | Í a l ih=>intro h;rw[hl,h1,h2,ih,s,u];rw[Qj,QR,QA,Ð4];lia
 have t1:=sQ 20 e λs u=>(J s u).1;have t2:=sQ 101 Ú7 λs u=>by obtain k|hk|rfl:=Ğ u;have:=(cu k hk).1;have:=Tv k;lia
 rw[Qa]at t2;have qe:((d::e++ť kT0).map Ân).sum+(d::e++ť kT0).length<=100000:=by rw[List.cons_append,Qj,QR,Qf,QaN,QA,Qi,Qa];lia
 have S:Ê9:=by ac_rfl
 exact(_,e2,_,rfl,rfl,Ï Zb,#[sq,S,Nat.mul_one],q _ ((Fn.trans I).trans (Zi j3 _)))
structure DS where
 P:À ZL
 nb:Int
 li:Int
 lo:Int
 nm:À (ak×Int)
inductive Od where
 | row (s:ak) (ks:À ak)
 | Υ (s:ak) (ks:À ak)
 | Φ (s:ak)
 | Χ (n:Nat)
 | left
 | Ρ
def Yt(nm:ŷ)(n:Int):ak:=((nm.find? λe=>decide (e.2=n)).map õ).getD ""
def blT(ws:Ñ):ak:=if ws=[] then "-" else Áh " " ws
def Wr(P:ĸ)(nm:ŷ):À ak:=ÀX λx=>thO (Yt nm x.1) x.2.1[x.2.2]?
def Nk(i:Int):ak:=Èi Íx
def Wh(P:ĸ)(n:Int)(ks:Ñ):À ZL:=ÀX λx=>if x.1=n then (x.1,x.2.1++ks,x.2.2,) else x
def UH(P:ĸ)(n:Int):À ZL:=P.filter λx=>decide (x.1≠n)
structure SOk (S:DS):Prop where
 num:ÎV Ę=Z6 S.P
 nd:(ÎV õ).Nodup
 ndP:(Z6 S.P).Nodup
inductive Yh:DS->Od->ak->DS->Prop
 | row {P:À ZL} {nb li lo:Int} {nm:À (ak×Int)} {s:ak} {ks:À ak} {k q:Int}:(∀e∈nm,e.1≠s)->ĝ ks=true->Æ6<16->YD (hdP (P++[(nb,ks,0,)])) 8 (Z6 (P++[(nb,ks,0,)])) k q->Yh (P,nb,li,lo,nm) (.row s ks) "done" (P++[(nb,ks,0,)],nb+1,li+k,lo+q,nm++[(s,nb,)])
 | Æg {S:DS} {s:ak} {ks:À ak}:((∃e∈Àc,e.1=s)\/ĝ ks=false\/16<=ÎW)->Yh S (.row s ks) "refused" S
 | Υ {P:À ZL} {nb li lo:Int} {nm:À (ak×Int)} {s:ak} {ks:À ak} {x:ZL} {k q:Int}:(s,x.1,)∈nm->x∈P->ĝ (x.2.1++ks)=true->((x.2.2<x.2.1.length\/ks=[])/\k=0/\q=0\/x.2.2=x.2.1.length/\ks≠[]/\YD (hdP (Wh P x.1 ks)) 8 (Z6 P) k q)->Yh (P,nb,li,lo,nm) (.grow s ks) "done" (Wh P x.1 ks,nb,li+k,lo+q,nm)
 | Æh {S:DS} {s:ak} {ks:À ak}:((∀e∈Àc,e.1≠s)\/∃x∈S.P,(s,x.1,)∈Àc/\ĝ (x.2.1++ks)=false)->Yh S (.grow s ks) "refused" S
 | Φ {P:À ZL} {nb li lo:Int} {nm:À (ak×Int)} {s:ak} {n k q:Int}:(s,n,)∈nm->YD (hdP (UH P n)) 8 (Z6 (UH P n)) k q->Yh (P,nb,li,lo,nm) (.drop s) "done" (UH P n,nb,li+k,lo+q,Ëd λe=>decide (e.1≠s))
 | Æi {S:DS} {s:ak}:(∀e∈Àc,e.1≠s)->Yh S (.drop s) "refused" S
 | Χ {P P':À ZL} {nb li lo:Int} {nm:À (ak×Int)} {n:Nat} {ts:À Yk} {k q:Int}:XU P ts P' k q->Óx=min n (YL P)->Yh (P,nb,li,lo,nm) (.take n) (blT (ts.map λt=>thT (Yt nm t.1) t.2.2)) (P',nb,li+k,lo+q,nm)
 | left {S:DS}:Yh S .left (Nk (YL S.P:Nat)) S
 | Ρ {S:DS}:Yh S .rows (blT (Wr S.P Àc)) S
theorem UG{α a:Type}:∀ {P:À (α×a)},(ÀX Ę).Nodup->∀ {p q:α×a},p∈P->q∈P->p.2=q.2->p=q
 | [],_,_,_,h,_,_=>by cases h
 | x::r,nd,p,q,hp,hq,e=>by
  rw[Qj,QS]at nd;rcases ĩ hp with h1|h1
  ·rcases ĩ hq with h2|h2
   ·rw[h1,h2]
   ·exact È (show x.2∈ÂU Ę by rw[<- h1,e];exact #[y5,x.2,h2]) nd.1
  ·rcases ĩ hq with h2|h2
   ·exact È (show x.2∈ÂU Ę by rw[<- h2,<- e];exact #[y5,x.2,h1]) nd.1
   ·exact UG nd.2 h1 h2 e
theorem SOk.ndN{S:DS}(h:SOk S):(ÎV Ę).Nodup:=by rw[Â2];exact h.ndP
theorem SOk.row1{S:DS}(h:SOk S){s:ak}{x y:ZL}(hx:x∈S.P)(hy:y∈S.P)(a:(s,x.1,)∈Àc)(b:(s,y.1,)∈Àc):x=y:=by have e:=XR h.nd a b rfl;injection e with _ e;exact XR h.ndP hx hy e
theorem SOk.has{S:DS}(h:SOk S){x:ZL}(hx:x∈S.P):∃s,(s,x.1,)∈Àc:=by
 have:x.1∈ÎV Ę:=by rw[Â2];exact Qd (f:=Æd) hx
 rw[sF,e,a,z];exact(e.1,by rw[<- z];exact a)
theorem SOk.at'{S:DS}(h:SOk S){s:ak}{n:Int}(hx:(s,n,)∈Àc):∃x∈S.P,x.1=n:=by
 have:n∈Z6 S.P:=by rw[<- Â2];exact Qd (f:=λe:ak×Int=>e.2) hx
 exact Ğ this
structure SBd (S:DS):Prop where
 few:ÎW<=16
 nb0:0<=S.nb
 nb1:S.nb<=200
 lt:∀x∈S.P,0<=x.1/\x.1<S.nb
 len:∀x∈S.P,x.2.1.length<=180
 nmz:∀e∈Àc,AZ e.1/\e.1.length<=8
inductive VW (S:DS):À Od->À ak->DS->Prop
 | nil:VW S [] [] S
 | Ŕ {os:À Od} {as:À ak} {S1 S2:DS} {o:Od} {a:ak}:VW S os as S1->SOk S1->SBd S1->Yh S1 o a S2->VW S (os++[o]) (as++[a]) S2
theorem VW.len{S:DS}{os:Â3}{a:Ñ}{S1:DS}(h:VW S os a S1):ļ=ÀM:=by
 induction h with
 | nil=>rfl
 | Ŕ _ _ _ _ b=>rw[Qi,Qi,b];rfl
theorem Ii:∀ss:À ak,(∀i x y,ss[i+1]? = U x->ss[i]? = U y->0<=ZQ ü đ)->ÓK LeS
 | [],_=>.nil
 | [x],_=>QaE ..
 | x::y::r,h=>by
  have ih:=Ii (y::r) λi a b h1 h2=>h (i+1) a b h1 h2;have c:LeS x y:=λz=>by have:=(Of _ _).mp z;have:=h 0 y x rfl rfl;unfold cds at this;lia
  refine List.pairwise_cons.mpr (λb hb=>?_,ih);rcases ĩ hb with rfl|hb
  ·exact c
  ·exact c.trans ((ÓJ ih).1 b hb)
theorem ZtV(ss:Ñ):ĝ ss=true\/∃k:Nat,WX ss Í7:=by
 have h:∀n:Nat,(∀i,i<n->∀x y,ss[i+1]? = U x->ss[i]? = U y->0<=ZQ ü đ)\/∃k:Nat,WX ss Í7:=λn=>by
  induction n with
  | zero=>exact .inl λi g=>È g (Ú8 i)
  | succ n ih =>
   rcases ih with ih|ih
   ·cases f:ss[n+1]? with
    | none =>
     refine .inl λi g x y c d=>?_;by_cases e:i=n
     ·rw[eN,e,f,c]
     ·exact ih i Á x y c d
    | some x =>
     have l:=(Ł f).1;have j:ss[n]? = U (ss[n]' Á):=Qb Á;by_cases m:ZQ ü (cds (ss[n]' Á))<0
     ·refine .inr (n,.inr (n,rfl,l,λa b c d=>?_,ih));rw[f]at c;rw[fQ,j,d,c];cases d;exact m
     ·refine .inl λi g a b c d=>?_;by_cases e:i=n
      ·subst e;rw[f]at c;rw[fQ,j,d,c];cases d;lia
      ·exact ih i Á a b c d
   ·exact .inr ih
 rcases h ń with h|h
 ·refine .inl ((Iw ss).mpr (Ii ss λi x y c d=>h i ?_ x y c d));exact(Ł d).1
 ·exact .inr h
def kvN(nm:ŷ):À ÁH:=Ä2 λe=>(.inr e.1,.int e.2,)
def kvI(nm:ŷ):À ÁH:=Ä2 λe=>(.inl e.2,.str e.1,)
theorem Zp1(nm:ŷ):(Èl).map õ=(Ä2 õ).map (β:ak->Key):=by unfold kvN;rw[Qo,Qo];rfl
theorem Nj{nm:ŷ}(nd:(Ä2 õ).Nodup){s:ak}{n:Int}(h:(s,n,)∈nm):Y5 Èl (.inr s)=U ÄE :=
 Vz (by rw[Zp1];exact Ú9) (Qd (f:=λe:ak×Int=>((.inr e.1:Key),ì e.2,)) h)
theorem Ni{nm:ŷ}{s:ak}(h:∀e∈nm,e.1≠s):Y5 Èl (.inr s)=af:=by
 cases a:Y5 (kvN nm) (.inr s) with
 | none=>rfl
 | some v=>obtain e|b|z:=Ğ (VA a);injection z with z _;exact È Æj (h e b)
theorem ZqO(nm:ŷ)(s:ak):WO Èl (.inr s)=kvN Èm:=by unfold WO kvN;rw[Qan];congr 1;exact QaV λe _=>ÅM #[rz,β,e.1,Æj]
theorem Nh(nm:ŷ)(s:ak):(∀e∈nm,e.1≠s)\/∃n,(s,n,)∈nm:=by
 by_cases h:∃e∈nm,e.1=s
 ·obtain e|a|rfl:=h;exact .inr (e.2,a)
 ·exact Ûa
def dsO(X:MS)(nm:ŷ):DS:=(ZS X.L,Ē,Ŏ,ŏ,nm)
structure DOk (cR cM:ae) (H:Hp) (X:MS) (nd:ae) (nm:ŷ):Prop where
 mg:MOk cR cM H X
 at':H nd=U (.dK Èl)
 sep:¬ MFp X nd
 ok:SOk ÀN
section
variable {cR cM:ae} {H H':Hp} {X:MS} {nd:ae} {nm:À (ak×Int)}
theorem DOk.same(D:Ám)(s:ZD H H'):DOk cR cM H' X nd nm:=(D.mg.same s,s _ _ ħ,Àd,D.ok)
theorem DOk.keep(D:Ám)(k:∀b o,H b=U o->MFp X b\/b=nd\/Ód->H' b=U o):DOk cR cM H' X nd nm :=
 (D.mg.keep λb o a h=>k b o a (Àq .inl λz=>.inr (.inr z)),k _ _ ħ ÇG,Àd,D.ok)
theorem DOk.rows{s:ak}{n:Int}(D:Ám)(h:(s,n,)∈nm):∃e∈X.L,e.n=n:=by obtain x|a|rfl:=D.ok.at' h;obtain e|b|rfl:=Ğ a;exact(e,b,rfl)
structure DTo (cR cM:ae) (H H':Hp) (X X':MS) (nd:ae) (nm gJ:ŷ) (o:Od) (a:ak):Prop where
 st:Yh ÀN o a (dsO X' gJ)
 D:DOk cR cM H' X' nd gJ
 m:X'.m=X.m
 fp:∀b,MFp X' b->MFp X b\/H b=af
 k:∀b u,H b=U u->¬ MFp X b->b≠nd->H' b=U u
theorem DOk.stay{o:Od}{a:ak}(D:Ám)(st:Yh ÀN o a ÀN)(s:ZD H H'):DTo cR cM H H' X X nd nm nm o a:=(st,Æk s,rfl,λ_ h=>.inl h,λb u hb _ _=>s b u hb)
theorem DTo.same{c:Hp}{e:MS}{f:ŷ}{o:Od}{a:ak}(d:DTo cR cM H H' X e nd nm f o a)(s:ZD H' c):DTo cR cM H c X e nd nm f o a:=(d.st,d.D.same s,d.m,d.fp,λb u hb g h=>s _ _ (d.k b u hb g h))
theorem Ng{m rd sd:ae}{L:ô}{s:StL}{nb li lo:Int}{a:V}(M:#[fs,cR,cM,a]):(į).length<=2 ^ (8-1):=Qk (show (ZB L).length<=60 by unfold ZB;rw[Qa];exact Âq) Ë
theorem DOk.add{s:ak}{ks:Ñ}{e:Zz}{f:ae}{s':StL}{w:ż}{k q:Int}(D:Ám)(B:SBd ÀN)(i:∀e∈nm,e.1≠s)(srt:#[sY,ks])(p:ÓR<16)
  (r:e.n=Ē) (t:Ò=ks) (v:e.g=0) (hp:H e.p=af) (hk:H e.k=af) (A:H e.f=af) (j:H f=af) (W:Win (hdM Â4) (ZB Â4) w) (St:XV (hdM Â4) s' 8 (ZB Â4)) (l:YD (hdM Â4) 8 (ZB Â4) k q)
  (M:ZO cR cM H' X.m ň f Â4 s' (Ē+1) (Ŏ+k) (ŏ+q) (Yy w)) (kp:#[sA,X.m,ň,H']) :
  ∃C,DTo cR cM H (upd H' nd (.dK (kvN Ûb))) X C nd nm Ûb (.row s ks) "done":=by
 have g:ZS Â4=ZS X.L++[(Ē,ks,0,)]:=by unfold ZS;rw[Qf,Ûc,r,t,v]
 have m:¬ MFp Ûd nd:=λz=>by
  have d:=ħ;rcases z with z|z|z|⟨x,hx,z⟩
  ·exact ÓS
  ·exact Àd Âr
  ·rw[iy,f,j,d]
  ·rcases í hx with hx|hx
   ·exact Àd #[ic,x,hx]
   ·rw[å hx]at z;rcases z with z|z|z
    ·rw[ss,hp,d]
    ·rw[ss,hk,d]
    ·rw[ss,A,d]
 have E:=kp _ _ ħ ÎX ÓT;have Mk:MOk cR cM H' Ûd:=(M,W,UK 8 _ s' _ M.up (Ng M) Ë St);rw[Vg,Xp,g]at l;refine(_,(?_,(Mk.keep λb o c F=>?_,Zb,m,?_),rfl,λb c=>?_,λb u c n G=>?_))
 ·have:=Yh.row (nb:=Ē) (li:=Ŏ) (lo:=ŏ) i srt (show (ZS X.L).length<16 by unfold ZS;rw[Qa];exact p) l;rw[hG,g]
 ·rw[Zc (λz=>by
   rcases F with y|⟨xs,rfl⟩
   ·exact m #[eP,z,y]
   ·rw[z,E]at c;cases c)]
  exact c
 ·have h:=D.ok;rw[si,?_,?_]
  ·show (nm++[(s,Ē,)]).map Ę=Z6 (ZS Â4);rw[g,Qf];unfold Z6;rw[Qf];exact ł (·++[Ē]) Â2
  ·show ((Ûb).map õ).Nodup;rw[e1,h.nd,I,c,y,J];have:b=s:=by simpa using c
   rw[this];exact i y J
  ·rw[rQ,Â4]
 ·rcases c with z|z|z|⟨x,hx,z⟩
  ·exact .inl (.inl z)
  ·exact .inl Âr
  ·rw[fR,f,j]
  ·rcases í hx with hx|hx
   ·exact .inl #[ic,x,hx]
   ·rw[å hx]at z;exact .inr (by rcases z with z|z|z<;>rw[z]<;>assumption)
 ·rw[Zc G];exact kp b u c #[gq,n] (λz=>n Âr)
theorem DOk.drop{s:ak}{e:Zz}{c:ae}{s':StL}{w:ż}{k q:Int}(D:Ám)(d:ÎY)(he:e∈X.L)(l:H c=af)(W:Win Èn Èo w)(St:XV Èn s' 8 Èo)(m:YD Èn 8 Èo k q)
  (M:#[g4,H',c,Æl]) (v:H' nd=U (.dK (kvN Èm))) (kp:∀b o,H b=U o->b≠X.m->b≠ň->b≠nd->H' b=U o) :
  ∃A,DTo cR cM H H' X A nd nm Èm (.drop s) "done":=by
 have f:ZS Æl=UH Ál e.n:=by unfold ZS YU UH;rw[Qan];rfl
 have h:=D.ok;rw[Vg,Xp,f]at m;have B:¬ MFp (X.m,ň,c,YU X.L e.n,s',Ē,Ŏ+k,ŏ+q,w) nd:=λz=>by
  have p:=ħ;rcases z with z|z|z|⟨x,g,z⟩
  ·exact ÓS
  ·exact Àd Âr
  ·rw[iy,c,l,p]
  ·exact Àd Ûe
 refine((X.m,ň,c,YU X.L e.n,s',Ē,Ŏ+k,ŏ+q,w),(?_,((M,W,UK 8 _ s' _ M.up (Ng M) Ë St),v,B,?_),rfl,λb i=>?_,λb u i r C=>kp b u i #[gq,r] (λz=>r Âr) C))
 ·have:=Yh.drop (nb:=Ē) (li:=Ŏ) (lo:=ŏ) d m;rw[hG,f]
 ·rw[si,?_,?_]
  ·show (Ëd λe=>decide (e.1≠s)).map Ę=Z6 (ZS Æl);rw[f];have E:(Ëd λy=>decide (y.1≠s))=Ëd λy=>decide (y.2≠e.n):=by
    refine QaV λy t=>ÅM Ûf
    ·have:=UG h.ndN t d z;rw[this]
    ·have:=XR h.nd t d z;rw[this]
   rw[E];have j:=ł (ÓU λn:Int=>decide (n≠e.n)) Â2;unfold Z6 at j;rw[Qan,Qan]at j;exact j
  ·exact h.nd.sublist ÎM
  ·rw[rQ,Æl]
 ·rcases i with z|z|z|⟨x,g,z⟩
  ·exact .inl (.inl z)
  ·exact .inl Âr
  ·rw[fR,c,l]
  ·exact .inl Ûe
theorem DOk.grow{s:ak}{ks:Ñ}{e:Zz}{k' a c:ae}{s':StL}{w:ż}{k q:Int}(D:Ám)(B:ÎY)(he:e∈X.L)(srt:#[sY,Èh])(hk:H k'=af)(t:H a=af)
  (n:(ÓG/\c=Àa/\k=0/\q=0)\/(e.g=Į/\ks≠[]/\H c=af/\YD (hdM ÃM) 8 (ZB X.L) k q)) (W:Win (hdM ÃM) (ZB X.L) w) (ok:Z2 (hdM ÃM) s' (ZB X.L))
  (M:#[g4,H',c,ÃM]) (kp:#[sA,X.m,e.p,H']) :
  ∃C,DTo cR cM H H' X C nd nm nm (.grow s ks) "done":=by
 have v:ZS ÃM=Wh Ál e.n ks:=by unfold ZS YC Wh;rw[Qo,Qo];refine QJ λy _=>?_;rw[73];unfold Xy;split<;>rfl
 have h:=D.ok;have E:¬ MFp (X.m,ň,c,YC X.L e.n ks k' a,s',Ē,Ŏ+k,ŏ+q,w) nd:=λz=>by
  have d:=ħ;rcases z with z|z|z|⟨x,g,z⟩
  ·exact ÓS
  ·exact Àd Âr
  ·rcases n with⟨_,i,_⟩|⟨_,_,j,_⟩
   ·exact Àd Ûg
   ·rw[iy,c,j,d]
  ·rw[ed,y,l,g];unfold Xy at z;split at z
   ·rcases z with z|z|z
    ·exact Àd #[fS,y,l]
    ·rw[iy,k',hk,d]
    ·rw[iy,a,t,d]
   ·exact Àd #[ic,y,l]
 have g:ÄZ∈ZS X.L:=Qd (f:=Ê6) he;refine((X.m,ň,c,YC X.L e.n ks k' a,s',Ē,Ŏ+k,ŏ+q,w),(?_,((M,by rw[Tx];exact W,by rw[Tx];exact ok),kp _ _ ħ ÎX (λz=>Àd #[fS,e,he]),E,?_),rfl,λb p=>?_,λb u p A n2=>kp b u p #[gq,A] (λz=>A #[fS,e,he])))
 ·have:=Yh.grow (nb:=Ē) (li:=Ŏ) (lo:=ŏ) (k:=k) (q:=q) (ks:=ks) B g srt (by
   rcases n with⟨r,_,j,m⟩|⟨r,i,_,m⟩
   ·exact .inl (r,j,m)
   ·rw[Vg,Xp,v]at m;exact .inr (r,i,m))
  have F:Wh Ál e.n ks=ZS ÃM:=v.symm;show Yh ÀN (.grow s ks) "done" (ZS ÃM,Ē,Ŏ+k,ŏ+q,nm);rw[<- F];exact this
 ·rw[si,?_,h.nd]
  ·show Ä2 Ę=Z6 (ZS ÃM);rw[<- Xp,Tx,Xp];exact Â2
  ·rw[rQ,ÃM]
 ·rcases p with z|z|z|⟨x,g,z⟩
  ·exact .inl (.inl z)
  ·exact .inl Âr
  ·rcases n with⟨_,i,_⟩|⟨_,_,j,_⟩
   ·exact .inl Ûg
   ·rw[fR,c,j]
  ·rw[ed,y,l,g];unfold Xy at z;split at z
   ·rcases z with z|z|z
    ·exact .inl #[fS,y,l]
    ·rw[fR,k',hk]
    ·rw[fR,a,t]
   ·exact .inl #[ic,y,l]
universe E
def Wg(a s:ak)(ks:Ñ)(o:Od):Prop:=(a = "row"/\o=.row s ks)\/(a = "grow"/\o=.grow s ks)\/(a = "drop"/\o=.drop s)
def KsS(ks:Ñ):Prop:=Àu<=5/\∀x∈ks,ċ<=40/\AZ x
section
variable {cR cM cN cF cO:ae} {H:Hp} {X:MS} {nd ka:ae} {nm:À (ak×Int)} {s:ak} {ks:À ak}
theorem KsS.ok(h:KsS ks):RS ks:=(Qk h.1 Ë,λx hx=>(Qk (h.2 x hx).1 Ë,(h.2 x hx).2))
theorem Ih{ss:Ñ}(h:ĝ ss=false):∃k:Nat,WX ss Í7:=(ZtV ss).elim (λz=>by rw[h]at z;cases z) id
theorem ZqG(nm:ŷ)(s:ak)(n:Int):kvN nm++[((.inr s:Key),ì n,)]=kvN (nm++[(s,n,)]):=by unfold kvN;rw[Qf];rfl
theorem DOk.nmlen(D:Ám):ÎU=(Ál).length:=by have:=#[et,D.ok.num];unfold Z6 at this;rw[Qa,Qa]at this;exact this
theorem DOk.small(D:Ám)(B:SBd ÀN):(Èl).length<aq:=by have h:(Ál).length<=16:=Â5;unfold kvN;rw[Qa,D.nmlen];exact ÀY
theorem DOk.num(D:Ám)(B:SBd ÀN){e:Zz}(he:e∈X.L):0<=e.n/\e.n<Ē:=B.lt _ (Qd (f:=Ê6) he)
theorem DOk.nb1(B:SBd ÀN):Ē<1000000:=by have:=B.nb1;unfold dsO at this;dsimp only at this;lia
theorem Zp8(X:MS)(nm:ŷ)(s:ak)(b:H ka=U À1)(c:KsS ks):(∃o,Rf Ál Ē H "add" (.ref ka) .non (U o)/\Yh ÀN (.row s ks) "refused" ÀN)\/(ĝ ks=true/\ÓR<16):=by
 cases a:ĝ ks with
 | false=>obtain k|e:=Ih a;exact .inl (U (Ē,#[fI,k],),.inl (rfl,rfl,rfl,ka,ks,rfl,b,c.ok,e),.noRow #[sd,a])
 | true =>
  by_cases f:ÓR<16
  ·exact .inr (rfl,f)
  ·have d:16<=(Ál).length:=by unfold ZS;rw[Qa];lia
   exact .inl (af,(rfl,rfl,ka,ks,rfl,b,c.ok,a,d),.noRow (.inr (.inr d)))
theorem Zoy(nb:Int){e:Zz}(he:e∈X.L)(c:ÎY)(d:H ka=U À1)(g:KsS ks):(∃h,Rf Ál nb H "grow" (.int e.n) (.ref ka) (U (U h))/\Yh ÀN (.grow s ks) "refused" ÀN)\/ĝ Èh=true:=by
 have b:(ÄZ:ZL)∈ZS X.L:=Qd (f:=Ê6) he;cases a:ĝ (Ò++ks) with
 | false=>obtain k|i:=Ih a;exact .inl ((e.n,#[fI,k],),.inr (rfl,_,b,rfl,rfl,ka,ks,rfl,d,g.ok,i),.noGrow (.inr (_,b,c,a)))
 | true=>exact Át
theorem ZqX(D:Ám)(B:SBd ÀN){e:Zz}(he:e∈X.L)(a:H ka=U À1)(b:KsS ks):ka≠e.p/\(Èh).length<=200/\∀x∈Ò++ks,ċ<=1000/\AZ x:=by
 have R:=Ëe e he;refine(λz=>(by obtain de|c:=ÊV;rw[z,c]at a;cases a),?_,λx hx=>?_)
 ·have h1:Į<=180:=Æm _ (Qd (f:=Ê6) he);have h2:=b.1;rw[Qi];lia
 ·rcases í hx with hx|hx
  ·exact R.str x hx
  ·exact b.ok.2 x hx
theorem DOk.cut(D:Ám)(a:ŷ):ZO cR cM #[gw,H,nd,kvN,a] X.m ň Àa X.L X.s Ē Ŏ ŏ (Yy X.w):=D.mg.M.keep λb o hb c=>by
 rw[Zc (λz=>by
  rcases c with y|⟨xs,rfl⟩
  ·exact Àd #[eP,z,y]
  ·rw[z,ħ]at hb;cases hb)]
 exact hb
theorem Zqx{c:Hp}(D:Ám){e:Zz}(he:e∈X.L)(f:ÎY){d:ae}{s':StL}{w:ż}{k q:Int}(a:#[gw,H,nd,kvN,Èm] d=af)(W:Win Èn Èo w)(St:XV Èn s' 8 Èo)(g:YD Èn 8 Èo k q)
  (M:#[g4,c,d,Æl]) (kp:∀b o,#[gw,H,nd,kvN,Èm] b=U o->b≠X.m->b≠ň->c b=U o):∃h,DTo cR cM H c X h nd nm Èm (.drop s) "done":=by
 refine D.drop f he ?_ W St g M (kp _ _ Zb ÎX ÓT) λb o i j l m=>kp b o #[hP,m,i] j l;by_cases z:d=nd
 ·rw[ss,Zb,a]
 ·rw[Zc z]at a;exact a
universe E
theorem ZlH(rd:ae)(nb li lo:Int)(sd:ae)(a:V):#[26].lookup ("drop_row" : ak)=af:=À0
theorem Ig(rd:ae)(nb li lo:Int)(sd:ae)(a:V):#[26].lookup ("grow" : ak)=af:=À0
def Od.first:Od->ak
 | .row _ _ => "row"
 | .grow _ _ => "grow"
 | .drop _ => "drop"
 | .take _ => "take"
 | .left => "left"
 | .rows => "rows"
def Od.sing:Od->À V
 | .row s _=>[.str s]
 | .grow s _=>[.str s]
 | .drop s=>[.str s]
 | .take n=>[.int (n:Int)]
 | .left=>[]
 | .rows=>[]
def Od.furt:Od->À V
 | .row _ ks=>ť Å
 | .grow _ ks=>ť Å
 | _=>[]
def OdW:Od->Prop
 | .row s ks=>NmS s/\KsS ks
 | .grow s ks=>NmS s/\KsS ks
 | .drop s=>NmS s
 | .take n=>n<10
 | .left=>Àx
 | .rows=>Àx
def dkF(m nd:ae):À Á3:=[("merge",.ref m,),("numbers",.ref nd,)]
theorem VU(m nd:ae):(dkF m nd).lookup ("merge" : ak)=U Æc:=by unfold dkF;exact Ûh
theorem WJ(m nd:ae):(dkF m nd).lookup ("numbers" : ak)=U (.ref nd):=by unfold dkF;rw[QaC,show (("numbers" : ak) == "merge")=false from by ac_rfl];exact Ûh
def Yg(g b c:ae)(p:Od->Prop):Sp:=λvs H Q _=>X8 λ(d sl e h:ae) (X:MS) (nd:ae) (nm:À (ak×Int)) (o:Od)=>vs=[.ref d,.ref sl,.ref e]/\H d=U #[zo,g,h,X.m]/\¬ MFp X d/\DOk b c H X nd nm/\SBd ÀN/\H sl=U (.lst Èp)/\H e=U (.lst Èq)/\OdW o/\p o/\∀ (i:MS) (j:À (ak×Int)) (a:ak) (f:Hp),DTo b c H f X i nd nm j o a->Q (.str a) f
theorem ZpE(T:Ù)(Z:Mf P w K mg Â 14 am "add_row" ÄK (IJ K aw am))(eI:M1f P w K mg Â 14 am "add_row" ÄK (Iz aw am aA aJ ao)) :
  Df P w K mg Â 15 "do_row" ÄL Ûi:=by
 rw[d4,T.t_do_row.df,J7,vs,r];obtain d|u|x|c|X|nd|j|o|rfl|l|I|D|B|fU|J|hw|(i|ks|rfl)|q:=h;refine(_,#[Zf,#[Zx,3,J7.nd,á,Å9],#[Zf,#[rY,inG,r,Ä3],#[Zf,(@Zr9 _ _ _ _ _ _ _ _ _ _ _ _ _ _ _ _ _ _ (λai E=>#[Zg,#[YB,(@Ko _ _ _ _ #[UW,eI,â,ÃL,r,Ä3,ÄU] #[XF,Z,â,r,Ä3,ÄU]),#[Xo,Ä3,‹3›,(Wz r)]]]) (λe=>ÓV) rfl T.m_OutOfOrder rfl T.m_Full Ë Ë rfl ĳ T.x_OutOfOrder T.x_Full rfl rfl),ÓW]]],?_);rw[sb,L,N];have y:#[sV,kvN,j]:=D.small B;have C:KsS ks:=hw.2;have b:∀ {v:V} {O:Hp} {R:MS} {gJ:À (ak×Int)} {a:ak},v=.str a->DTo aw am H O X R nd j gJ (.row i ks) a->Q v O:=λe d=>by subst e;exact q _ _ _ _ d
 refine#[il,u,fU];rcases Nh j i with m|⟨n,m⟩
 ·have t:=Ni m;rw[eb,c,l,i,t,Y7];rcases Zp8 X j i J C with⟨o,hR,st⟩|⟨p,S⟩
  ·refine .inl (_,rfl,d,aB,c,_,_,rfl,l,Àe,ÃN,VU ..,X.m,L,_,rfl,N,II ..,_,rfl,X.m,ň,Àa,X.L,X.s,Ē,Ŏ,ŏ,Yy X.w,.ref x,U o,rfl,Æn,B.nb0,DOk.nb1 B,hR,?_);cases o with
   | none=>exact λY F=>(aJ,_,rfl,T.xw_Full.cls,by simp,b rfl (Ä4 st F))
   | some nj=>exact λ_ Y F _ _=>(ao,_,rfl,Ûj,by simp,b rfl (Ä4 st F))
  ·refine .inr (_,rfl,d,aB,c,_,_,rfl,l,Àe,ÃN,VU ..,X.m,L,_,rfl,N,II ..,_,rfl,X.m,ň,Àa,X.L,X.s,Ē,Ŏ,ŏ,Yy X.w,x,ks,rfl,Æn,λe he=>(D.num B he).2,S,J,C.ok.1,C.ok.2,p,λe bB u w k q' Y en BY eg hp hk hf fF W St Pl M G=>?_);obtain R|g:=D.add B m p S en BY eg hp hk hf fF W St Pl M G;have jr:=G _ _ l #[gq,I] (λz=>I Âr);refine(_,rfl,d,aB,c,_,_,rfl,jr,Àe,Ä5,WJ ..,_,rfl,nd,_,rfl,XH.k (k:=.inr i) (G _ _ ħ ÎX ÓT) y,?_);rw[U1 _ t,ZqG];exact b rfl g
 ·have t:=Nj ÎZ m;rw[eb,c,l,i,t,YJ];exact b rfl (Ä4 (.noRow (.inl (_,m,rfl))) ÄW)
theorem ZnG(T:Ù)(J:#[eR,14,"grow",ÇK,IE])(L:M1f P w K mg Â 14 am "grow" ÇK (Iy aw am aA aJ ao)) :
  Df P w K mg Â 15 "do_grow" ÄL Ûk:=by
 rw[d4,T.t_do_grow.df,J6,N,p];obtain d|t|u|b|X|nd|x|o|rfl|j|jw|D|B|O|y|hw|(l|ks|rfl)|q:=h;refine(_,#[Zf,#[Zx,3,J6.nd,á,Å9],#[Zf,#[rY,SX,p,Ä3],#[Zf,(@Zss _ _ _ _ _ _ _ _ _ _ _ _ (λai E=>#[Zg,#[ZI,(@Ko _ _ _ _ #[UW,L,â,ÃL,p,Ä3,Ûl] #[XF,J,â,p,Ä3,Ûl])]]) (λe=>ÓV) ĳ rfl T.m_OutOfOrder T.x_OutOfOrder rfl Ë),ÓW]]],?_);rw[sb,z,C];have F:KsS ks:=hw.2;have c:∀ {v:V} {G:Hp} {I:MS} {R:À (ak×Int)} {a:ak},v=.str a->DTo aw am H G X I nd x R (.grow l ks) a->Q v G:=λe d=>by subst e;exact q _ _ _ _ d
 refine#[il,t,O];rcases Nh x l with i|⟨n,i⟩
 ·have r:=Ni i;rw[eb,b,j,l,r,YJ];exact c rfl (Ä4 (.noGrow Åa) ÄW)
 ·have r:=Nj ÎZ i;obtain e|m|rfl:=Ÿ i;rw[eb,b,j,l,r,Y7];rcases Zoy Ē m i y F with⟨S,Y,st⟩|hsr
  ·refine .inl (_,rfl,d,aB,b,_,_,rfl,j,Àe,ÃN,VU ..,X.m,z,_,rfl,C,Ig ..,_,rfl,d,aB,b,_,_,rfl,j,Àe,Ä5,WJ ..,_,rfl,nd,_,rfl,Ģ (k:=.inr l) ħ r,_,rfl,X.m,ň,Àa,X.L,X.s,Ē,Ŏ,ŏ,Yy X.w,.int e.n,.ref u,U (U S),rfl,Æn,(λe m=>by have:=D.num B m;have:=DOk.nb1 B;lia),Y,?_);exact λ_ Z s1 _ _=>(ao,_,rfl,Ûj,by simp,c rfl (Ä4 st s1))
  ·obtain g1|g2|g3:=ZqX D B m y F;refine .inr (_,rfl,d,aB,b,_,_,rfl,j,Àe,ÃN,VU ..,X.m,z,_,rfl,C,Ig ..,_,rfl,d,aB,b,_,_,rfl,j,Àe,Ä5,WJ ..,_,rfl,nd,_,rfl,Ģ (k:=.inr l) ħ r,_,rfl,X.m,ň,Àa,X.L,X.s,Ē,Ŏ,ŏ,X.w,e,u,ks,rfl,Æn,D.mg.W,D.mg.ok,m,y,g1,g2,hsr,g3,λk' f' bB t w k q' Z hk hf vQ W ok M kp=>?_);obtain I|g:=D.grow i m hsr hk hf vQ W ok M kp;exact c rfl g
theorem ZoK(T:Ù)(z:#[eR,14,"drop_row",ÁI,IH]) :
  Df P w K mg Â 15 "do_drop" Α (Yg aB aw am λo=>∃s,o=.drop s):=by
 rw[d4,T.t_do_drop.df,J5,C,t];obtain d|p|F|c|X|nd|r|o|rfl|l|jw|D|B|G|j5|hw|(i|rfl)|q:=h;refine(_,#[Zf,#[Zx,3,J5.nd,á,Å9],#[Zf,#[rY,SX,t,ġ],#[Zf,#[ZI,#[XF,z,â,t,ġ,#[Zd,#[YQ,Q5,QaS,ÓC,PU,ġ,ÊX]]]],ÓW]]],?_);rw[sb,I,J];have j:∀ {v:V} {u:Hp} {x:MS} {L:À (ak×Int)} {a:ak},v=.str a->DTo aw am H u X x nd r L (.drop i) a->Q v u:=λe d=>by subst e;exact q _ _ _ _ d
 refine#[il,p,G];rcases Nh r i with b|⟨n,b⟩
 ·have m:=Ni b;rw[eb,c,l,i,m,YJ];exact j rfl (Ä4 (.noDrop b) ÄW)
 ·have m:=Nj ÎZ b;obtain e|y|rfl:=Ÿ b;rw[eb,c,l,i,m,Y7];refine(_,rfl,d,aB,c,_,_,rfl,l,Àe,ÃN,VU ..,X.m,I,_,rfl,J,ZlH ..,_,rfl,d,aB,c,_,_,rfl,l,Àe,Ä5,WJ ..,.inr #[rD,ħ],_,rfl,nd,_,.inr i,_,rfl,rfl,ħ,m,?_);rw[ZqO];refine(X.m,ň,Àa,X.L,X.s,Ē,Ŏ,ŏ,Yy X.w,e,rfl,D.cut _,y,λbB p w k q' H1 N W St O M R=>?_);obtain x|g:=Zqx D y b N W St O M R;exact j rfl g
theorem Ie{i:Int}(h:i.natAbs<=100000000):ÅE Åj=true/\(aE.int i).intsShort 13=true/\(aE.int i).showable=true/\(Nk i).length<=13:=by
 have hl:i.natAbs.log2<30:=by
  by_cases z:i.natAbs=0
  ·rw[z];decide
  ·exact QG (#[w1].mpr (Qa5 h (show 100000000<2 ^ 27 by decide))) Ë
 have a:(Èi Íx).length<=13:=by rw[ÚW];exact Qk (int_text_length_le10 (k:=10) Ë Á) Ë
 refine(?_,by simp only[aE.intsShort,Êc];exact a,?_,a)
 ·simp only[ÅE,ÁL,Âp,Ôm,Êc];refine((trivial,rfl),?_);simp only[aE.weight];split<;>lia
 ·simp only[aE.showable,Êc];lia
theorem Nf{nm:ŷ}(nd:#[nj].Nodup){s:ak}{n:Int}(h:(s,n,)∈nm):Yt nm n=s:=by
 unfold Yt;cases a:nm.find? λx=>decide (x.2=n) with
 | none=>exact È ÎT (Ûm a _ h)
 | some y =>
  have b:=Qau a;have c:y.2=n:=by have:=Ín;simpa using this
  rw[UG nd b h c];rfl
theorem inl_nd'{nm:ŷ}(nd:#[nj].Nodup):(Ä2 (õ ∘ λe:ak×Int=>((.inl e.2:Key),Å e.1,))).Nodup:=by have:=Jz nd;rw[Qo]at this;exact this
def Nd(K:Ä)(c:ae):Sp:=λvs H Q _=>X7 λ(d f m nd hl:ae) (nm:À (ak×Int)) (a:À (ae×Int×Ã ak))=>vs=#[rI,d,hl]/\H d=U #[zo,c,f,m]/\H nd=U (.dK Èl)/\ÎU<=20/\#[nj].Nodup/\Ûn/\H hl=U #[hQ,Ń,h,h.1]/\(∀h∈a,H h.1=U (.tup [.int h.2.1,oV h.2.2]))/\ļ<=1000/\(∀h∈a,(∃s,(s,h.2.1,)∈nm)/\∀x,h.2.2=U x->ċ<=1000) /\
 ∀l b,H l=af->b l=U (.lst (Ń λh=>Å Ûo))->ZD H b->Q Ă b
theorem ZoB(T:Ù)(eW:Df P w K mg Â 2 "written_thing" Ês Ik):Df P w K mg Â 3 "written_heads" ÒC (Nd K aB):=by
 rw[hi,T.t_written_heads.df,J4];obtain d|dd|m|nd|M|c|I|rfl|hd|Y|vR|Z|BZ|Fo|hht|fU|fT|q:=h;refine(_,#[Zf,#[Zx,2,J4.nd,Éy,(@Um _ _ _ (@Zqr _ _ _ _ _ _ _ _ _ _ _ _ _ _ _ _ T2 rfl rfl rfl Úw #[el,3,T2,4] Ξ (λ_ _ _ _=>#[cw,4,T2]) (λ_ _ _ _=>#[cw,3,T2]) (by intro _;rfl)))],#[Zg,#[Zm,#[XS,Vt,Ëa,#[el,3,Vt,4],Ξ,(λ_ _ _ _=>#[ZA,eW,hr,#[Zd,#[ZC,(ixG hr),#[cv,2,Vt],#[cw,3,Vt]],#[cw,4,Vt]],#[hp,Vt]])]]]],?_);refine(nd,.dK (kvN c),Y,ŭ,_,rfl,d,aB,dd,_,_,rfl,hd,Àe,Ä5,WJ ..,nd,_,rfl,Y,λo D R=>?_);have S:D≠nd:=λz=>by rw[z,Zb]at R;cases R
 have Fq:H D=af:=by rw[Zc S]at R;exact R
 refine Zsp (λi W t r=>(X2 λB C:Ã V=>t=[U Τ,U (.ref M),af,B,C])/\W=kvI (c.take i)/\i<=ĵ/\r D=U (.dK W)/\r nd=U (.frz o (.dK (kvN c)))/\∀b u,H b=U u->b≠nd->r b=U u) ((af,af,rfl),rfl,Qs _,Zb,#[hP,S.symm,Zb],λb u g n=>(by rw[Zc (Ze g Fq),Zc n];exact g)) (λ_ _ _ _ h=>h.2.2.2.2.1) ?_ ?_
 ·rintro i k x W t r p J ⟨⟨B,C,rfl⟩,rfl,hi,F,ji,k2⟩ hp;rw[hY,kvN,J];cases l:c[i]? with
  | none=>rw[l]at J;cases J
  | some e =>
  rw[en,l,J,b9,ĵ];have kp:∀b u,r b=U u->(upd r p (.tup [.str e.1,.int e.2])) b=U u:=λb u g=>by rw[Zc (Ze g hp)];exact g
  have hv:Y5 (kvI (c.take i)) (.inl e.2)=af:=by
   cases hv:Y5 (kvI (c.take i)) (.inl e.2) with
   | none=>rfl
   | some v =>
    obtain y|G|z:=Ğ (VA hv);injection z with z _;rw[sJ,j,hj,ej,Öh,G];rw[Qw]at hj;rw[List.getElem_take]at ej;have h1:É9[j]? = U e.2:=by rw[Qp,Qb Á,ej];exact ł U Îk
    have h2:É9[i]? = U e.2:=by rw[Qp,l];rfl
    have:=(List.getElem?_inj ÅN Z).mp (h1.trans h2.symm);lia
  refine(p,_,rfl,ö Zb,rfl,_,_,rfl,_,_,rfl,rfl,_,rfl,_,rfl,.inl e.2,rfl,kp _ _ F,(by unfold kvI;rw[Qa,Qw];exact ÀY),Èb,?_,b9,Zb,?_,λb u g n=>?_)
  ·rw[U1 _ hv,QH,l];unfold kvI;rw[Qf];rfl
  ·rw[Zc S.symm];exact kp _ _ ji
  ·rw[Zc (Ze g Fq)];exact kp _ _ (k2 b u g n)
 ·rintro W t r ⟨⟨B,C,rfl⟩,rfl,hi,F,ji,k2⟩;rw[si,o,ji];have L:ZD H #[gw,r,nd,kvN,c]:=λb u g=>by
   by_cases z:b=nd
   ·rw[z]at g ⊢;rw[fQ,Y,g,g];exact Zb
   ·rw[Zc z];exact k2 b u g z
  have my:#[gw,r,nd,kvN,c] D=U (.dK (kvI c)):=by rw[Zc S,F];unfold kvN;rw[Qa,Qx ë]
  generalize upd r nd (.dK (kvN c))=H3 at L my ⊢;refine(_,rfl,M,rfl,(_,Ï (L _ _ Fo)),λD2 F=>?_);refine V1 (K:=K) (a:=M) (xs:=I.map λh=>ú h.1) (λi zs t N=>(X2 λB C:Ã V=>t=[U Τ,U (.ref M),U Ι,B,C])/\zs=(I.take i).map (λh=>Å (thO (Yt c h.2.1) h.2.2))/\i<=I.length/\N D2=U π/\ZD H3 N) #[hW,F] (λ_ _ _ _ h=>Ï (h.2.2.2.2 _ _ (L _ _ Fo))) ?_ ?_
  ·rintro i y zs t N G ⟨⟨B,C,rfl⟩,rfl,hi,X,O⟩;rw[Qp]at G;cases l:I[i]? with
   | none=>rw[l]at G;cases G
   | some x =>
   rw[en,l,G,b9,I.length];have hx:=Qr l;obtain (s|vS)|jE:=fT x hx;have mE:Yt c x.2.1=s:=Nf Z vS;have hvI:Y5 (kvI c) (.inl x.2.1)=U (.str s):=Vz (by unfold kvI;rw[Qo];exact inl_nd' Z) (Qd (f:=λe:ak×Int=>((.inl e.2:Key),Å e.1,)) vS);refine(x.1,_,rfl,ö (O _ _ (L _ _ (hht x hx))),rfl,_,_,rfl,_,_,rfl,rfl,_,rfl,_,rfl,D,_,rfl,Ģ (k:=.inl x.2.1) (O _ _ my) hvI,_,rfl,s,x.2.2,rfl,(by have h8:Î0:=BZ _ vS;lia),jE,X,(by rw[Qa,Qw,aO];lia),Èb,?_,b9,Zb,λb u g=>?_)
   ·rw[QH,l,Qf];show _=_++[Å (thO (Yt c x.2.1) x.2.2)];rw[(mE)]
   ·rw[s3,g,F,O,b,u]
  ·rintro zs t N ⟨⟨B,C,rfl⟩,rfl,_,X,O⟩;rw[Qa,Qx ë]at X;exact q D2 N (L.free F) X (L.trans O)
def Ic(K:Ä)(f:ae):Sp:=λvs H Q _=>X7 λ(d g m nd c:ae) (nm:À (ak×Int)) (a:À (ae×Yk))=>vs=#[rI,d,c]/\H d=U #[zo,f,g,m]/\H nd=U (.dK Èl)/\ÎU<=20/\#[nj].Nodup/\Ûn/\H c=U #[hQ,Ń,t,t.1]/\(∀t∈a,H t.1=U #[fy,t.2.1,t.2.2.1,t.2.2.2])/\ļ<=1000/\(∀t∈a,(∃s,(s,t.2.1,)∈nm)/\t.2.2.2.length<=1000) /\
 ∀l b,H l=af->b l=U (.lst (Ń λt=>Å (thT (Yt nm t.2.1) t.2.2.2)))->ZD H b->Q Ă b
theorem Zl7(T:Ù)(Z:Ûp):Df P w K mg Â 4 "written_things" ÇL (Ic K aB):=by
 rw[hi,T.t_written_things.df,ZfF];obtain d|M|m|nd|v|C|j|rfl|hd|ir|vR|qo|BZ|N|ig|htz|O|q:=h;refine(_,#[Zg,#[Zm,#[ZA,Z,hr,#[Zd,‹0›,#[XS,UR,Ëa,#[fF,2,UR,3,4],Ξ,(λ_ _ _ _=>#[YG,#[Zd,#[cw,2,UR],#[cw,4,UR]]])]],É]]],?_);refine(_,rfl,_,rfl,v,rfl,#[ho,N],λD R=>?_);refine V1 (K:=K) (a:=v) (xs:=j.map λt=>ú t.1) (λi zs F o=>(X3 λG I J:Ã V=>F=[U Τ,U (.ref v),G,I,J])/\(∃c:À (ae×Int×Ã ak),zs=Ř (λu=>ú u.1)/\Ř Ę=(j.take i).map Ûq/\∀u∈c,u.1≠D/\o u.1=U (.tup [.int u.2.1,oV u.2.2]))/\i<=Åp/\o D=U π/\ZD H o) ((af,af,af,rfl),([],rfl,rfl,λu hu=>by cases hu),Qs _,Zb,Zi R _) #[eF,N] ?_ ?_
 ·rintro i y zs F o p ⟨⟨G,I,J,rfl⟩,⟨c,rfl,k,L⟩,hi,B,n⟩;rw[Qp]at p;cases r:j[i]? with
  | none=>rw[r]at p;cases p
  | some x =>
  rw[en,r,p,b9,Åp];have S:ĵ=i:=by have:=#[et,k];rw[Qa,Qa,Qw]at this;lia
  refine(x.1,_,rfl,ö (n _ _ (ig x (Qr r))),rfl,_,_,rfl,_,_,rfl,_,_,rfl,rfl,_,rfl,_,rfl,Á1,λt g=>?_);have W:t≠D:=λz=>by rw[z,B]at g;cases g
  refine(Zi g _ _ _ B,#[er,S],Î1,(c++[(t,x.2.1,U x.2.2.2,)],by rw[Qf];rfl,?_,λu hu=>?_),b9,Zb,λb u X=>?_)
  ·rw[QH,r,Qf,Qf,k];rfl
  ·rcases í hu with hu|hu
   ·obtain Y|g2:=L u hu;exact(Y,by rw[Zc Y];exact Zi g _ _ _ g2)
   ·rw[å hu];exact(W,by rw[Zc W];exact Zb)
  ·rw[Zc (Ze X R)];exact Zi g _ _ _ (n b u X)
 ·rintro zs F o ⟨⟨G,I,J,rfl⟩,⟨c,rfl,k,L⟩,_,B,n⟩;rw[Qa,Qx ë]at k;have lA:∀u∈c,∃t∈j,t.2.1=u.2.1/\U t.2.2.2=u.2.2:=λu hu=>by
   have:u.2∈j.map Ûq:=by rw[<- k];exact Qd (f:=Ûr) hu
   rw[sF,t,g,e];exact(t,g,by rw[<- e],by rw[<- e])
  have S:ĵ=Åp:=by have:=#[et,k];rw[pS]
  refine(d,M,m,nd,D,C,c,rfl,n _ _ hd,n _ _ ir,vR,qo,BZ,B,λu hu=>(L u hu).2,by lia,λu hu=>?_,λl H5 hl h5 s5=>?_)
  ·obtain t|g|e1|e2:=lA u hu;rw[<- e1,<- e2];exact((O t g).1,λx hx=>by cases hx;exact(O t g).2)
  ·refine q l H5 (n.free hl) ?_ (n.trans s5);rw[h5];have:=ł (List.map λy:Int×Ã ak=>Å (thO (Yt C y.1) y.2)) k;rw[Qo,Qo]at this;exact ł (λz=>U (HO.lst z)) this
theorem Nc{P:ĸ}(h1:Æ6<=16)(h2:∀x∈P,x.2.1.length<=180):YL P<=2880:=by
 unfold YL;have:∀l:À ZL,(∀x∈l,x.2.1.length<=180)->(ÂS λx=>x.2.1.length-x.2.2).sum<=180*Ų:=λl=>by
  induction l with
  | nil=>intro _;exact Qg _
  | Í a r b=>intro h;rw[hl,h1,h2,b,x,c];rw[Qj,QR,QA];lia
 have:=this P h2;lia
theorem XU.rowOf{P b:ĸ}{c:Â1}{k q:Int}(h:XU P c b k q):∀x∈b,∃y∈P,y.2.1=x.2.1:=by
 induction h with
 | nil=>intro x a;exact(x,a,rfl)
 | Ŕ _ _ d=>intro x a;rw[ed,w,hw,a];obtain y|f|e:=d w hw;rw[si,y,f];unfold Wi;split<;>exact e
theorem XU.key{P b:ĸ}{a:Â1}{k q:Int}(h:XU P a b k q):∀t∈a,t.1∈Z6 P/\∃x∈P,t.2.2∈x.2.1:=by
 induction h with
 | nil=>intro t ht;cases ht
 | Ŕ h s c =>
  rename_i a P1 x z k q k1 q1;intro t ht;rcases í ht with ht|ht
  ·exact c t ht
  ·rw[å ht];obtain y|d|e:=h.rowOf x s.1;exact(by rw[<- Â2];exact Qd (f:=Æd) s.1,y,d,by rw[e];exact Qr s.2.1)
theorem DOk.took{g h:ae}{H i:Hp}{X:MS}{nd:ae}{nm:ŷ}(D:DOk g h H X nd nm){n:Nat}{c:Â1}{a:ô}{s':StL}{d:ż}{k q:Int}(f:XU Ál c (ZS a) k q)(h1:Ä0<(n:Int)->d=af)(h2:c≠[]->Ä0<=(n:Int))
  (M:ZO g h i X.m ň Àa a s' Ē (Ŏ+k) (ŏ+q) (Yy d)) (W:Win (hdM a) (ZB a) d) (ok:Z2 (hdM a) s' (ZB a)) (fp:∀b,Fp X.m ň Àa a b↔Fp X.m ň Àa X.L b) (kp:∀b o,H b=U o->¬ Fp X.m ň Àa X.L b->i b=U o) :
  ∃l,DTo g h H i X l nd nm nm (.take n) (blT (Ř λt=>thT (Yt nm t.1) t.2.2)):=by
 have m:=Zo9 (ZrZ D.mg) f h1 h2 W (λx p=>by obtain e|r|rfl:=Ğ p;exact(ÀZ e r).le);refine((X.m,ň,Àa,a,s',Ē,Ŏ+k,ŏ+q,d),.take f m,((M,W,ok),kp _ _ ħ Àd,λz=>Àd ((fp nd).mp z),(?_,ÎZ,?_)),rfl,λb j=>.inl ((fp b).mp j),λb u j s _=>kp b u j s)
 ·show Ä2 Ę=Z6 (ZS a);rw[f.num];exact D.ok.num
 ·show (Z6 (ZS a)).Nodup;rw[f.num];exact D.ok.ndP
theorem ZlG(T:Ù)(S:Mf P w K mg Â 7 am "take_few" ÍM (IK K aw am))(Y:Df P w K mg Â 4 "written_things" ÇL (Ic K aB))(Z:Ûs) :
  Df P w K mg Â 15 "ask_take" Α (Yg aB aw am λo=>∃n,o=.take n):=by
 rw[d4,T.t_ask_take.df,Zlm,vs,j];obtain d|v|fl|m|X|nd|nm|o|rfl|C|jw|D|B|fU|j5|hw|(n|rfl)|q:=h;refine(_,#[Zg,#[Zm,#[ZA,Z,j,#[Zd,#[ZA,Y,j,#[Zd,‹0›,#[XF,S,â,j,ġ,#[Zd,Å9]]],É]],É]]],?_);rw[sb,dx,hm];have vT:=Nc Â5 Æm;refine(_,rfl,_,rfl,d,aB,m,_,_,rfl,C,Àe,ÃN,VU ..,X.m,dx,_,rfl,hm,Zn9 ..,_,rfl,v,_,_,_,rfl,rfl,Ï fU,rfl,X.m,ň,Àa,X.L,X.s,Ē,Ŏ,ŏ,X.w,(n:Int),rfl,Æn,D.mg.W,D.mg.ok,Qk vT Ë,λrr b L' s' w' k q' H1 hrr Ft l9 F Fu G M W ok fp I=>?_);obtain X'|g:=D.took F #[ea,Qa,Fu] (by rw[Qa];exact λz=>G λy=>z #[zj,y]) M W ok fp I;have jr:=I _ _ C jw;have yn:Ĥ<10:=by
  have yl:n<10:=hw;by_cases z:b=[]
  ·rw[z];decide
  ·have:=G z;lia
 have J:Ût:=λe he=>(Æo e he).2;have L:∀u∈b,ÓX/\u.2.2.2.length<=1000:=λu p=>by obtain g1|x|hx|g2:=F.key u.2 (Qd (f:=λu:ae×Yk=>u.2) p);rw[sJ,y,hy,e,Ğ,g1];obtain s|i:=D.ok.has (show y∈(ÀN).P from hy);rw[ed,z,hz,hx];exact((s,by rw[<- e];exact i),((Ëe z hz).str _ g2).1)
 refine(d,m,X.m,nd,rr,nm,b,rfl,jr,g.D.at',(by rw[D.nmlen];exact Qk Â5 Ë),Î2,J,Ft,l9,Á,L,λl N hl h2 s2=>?_);have O:(Íl).map (λt:Yk=>thT (Yt nm t.1) t.2.2)=Âg λu=>thT (Yt nm u.2.1) u.2.2.2:=by rw[Qo];rfl
 rw[O]at g;have c:=q X' nm _ N (g.same s2);clear q;generalize R:(Âg λu=>thT (Yt nm u.2.1) u.2.2.2)=ws at c g O;have uN:N l=U #[ef,Âl]:=by rw[<- R,Qo];exact h2
 refine(l,ws,rfl,Ï uN,?_,c);rw[<- R];have e1:Èk:=by ac_rfl
 have:∀l:À (ae×Yk),(∀u∈l,ÓX/\u.2.2.2.length<=1000)->((ÂS λu=>thT (Yt nm u.2.1) u.2.2.2).map Ân).sum<=1010*Ų:=λl=>by
  induction l with
  | nil=>intro _;exact Qg _
  | Í a r ih =>
   intro h;obtain (s|i)|h3:=h a Ö;have B8:=#[gf,ih,u,p];have h8:Î0:=J _ i;have h4:=Tv a.2.2.2;have h5:(thT (Yt nm a.2.1) a.2.2.2).length<=1010:=by rw[Nf (nm:=nm) Î2 i];unfold thT;rw[QM,QM];lia
   rw[Qj,Qj,QR,QA];lia
 have:=this b L;rw[Qa];lia
theorem Zml(T:Ù)(g:#[eR,2,"left",ĉ,Jn]):Df P w K mg Â 15 "ask_left" Α (Yg aB aw am λo=>o=.left):=by
 rw[d4,T.t_ask_left.df,Zlq,j,a];obtain d|k|l|b|X|nd|c|o|rfl|m|jw|D|B|fU|j5|hw|rfl|q:=h;refine(_,#[Zg,#[Zm,#[W9,(Rh K a),Ëb,Ëc,#[Zd,#[Yi,g,â,a,ġ]]]]],?_);rw[sb,n,p];have vT:YL Ál<=2880:=Nc Â5 Æm;obtain r|t|u|g4:=Ie (i:=((YL Ál:Nat):Int)) Á;refine(_,rfl,d,aB,b,_,_,rfl,m,Àe,ÃN,VU ..,X.m,n,_,rfl,p,ZlR ..,X.m,ň,Àa,X.L,X.s,Ē,Ŏ,ŏ,_,rfl,Æn,λv x=>?_);rw[ZuN λe y=>(Ëe e y).le];exact(_,.int _,rfl,.int _,r,t,u,q X c _ v (Ä4 .left x))
theorem Zmb(T:Ù)(L:#[eR,3,"heads",ĉ,Jl])(M:Ûp)(N:Ûs):Df P w K mg Â 15 "ask_rows" Α (Yg aB aw am λo=>o=.rows):=by
 rw[d4,T.t_ask_rows.df,Zln,O,k];obtain d|R|S|m|X|nd|nm|o|rfl|v|jw|D|B|fU|j5|hw|rfl|q:=h;refine(_,#[Zg,#[Zm,#[ZA,N,k,#[Zd,#[ZA,M,k,#[Zd,‹0›,#[Yi,L,â,k,ġ]],É]],É]]],?_);rw[sb,W,Y];refine(_,rfl,_,rfl,d,aB,m,_,_,rfl,v,Àe,ÃN,VU ..,X.m,W,_,rfl,Y,Zke ..,X.m,ň,Àa,X.L,X.s,Ē,Ŏ,ŏ,_,rfl,Æn,λl H1 hl Z n=>?_);obtain c|i|ck|mF:=Z;have e0:UL (X.L.map toL)=(Ál).map λx:ZL=>(x.1,x.2.1[x.2.2]?,):=by unfold UL ZS;rw[Qo,Qo];rfl
 rw[e0]at i;have C:Ût:=λe he=>(Æo e he).2;have oJ:ĵ=(Ál).length:=by have:=#[et,i];rw[pS]
 have lf:(Ál).length<=16:=Â5;have lA:∀u∈c,∃x∈ZS X.L,x.1=u.2.1/\x.2.1[x.2.2]? = u.2.2:=λu g=>by
  have:u.2∈(Ál).map λx:ZL=>(x.1,x.2.1[x.2.2]?,):=by rw[<- i];exact Qd (f:=Ûr) g
  rw[sF,x,b,e];exact(x,b,by rw[<- e],by rw[<- e])
 have hk:∀u∈c,ÓX/\∀x,u.2.2=U x->ċ<=1000:=λu g=>by obtain x|b|F|G:=lA u g;rw[nC];refine((s,by rw[<- F];exact j),λy I=>?_);rw[I]at G;rw[ed,z,p,b];exact((Ëe z p).str _ (Qr G)).1
 have e3:Ř (λh=>Å Ûo)=(Wr Ál nm).map Å:=by have:=ł (List.map λy:Int×Ã ak=>Å (thO (Yt nm y.1) y.2)) i;rw[Qo,Qo]at this;unfold Wr;rw[Qo];exact this
 refine(d,m,X.m,nd,l,nm,c,rfl,n _ _ v,n _ _ ħ,#[eO,D.nmlen],Î2,C,ck,mF,Á,hk,λl2 H2 bN J s2=>?_);rw[e3]at J;have F:Èk:=by ac_rfl
 have uE:#[fr,":.",2]:=by ac_rfl
 have t:=q X nm _ H2 (Ä4 .rows (n.trans s2));have qe:((Wr Ál nm).map Ân).sum<=1010*(Ál).length:=by
  have:∀P:À ZL,(∀x∈P,(thO (Yt nm x.1) x.2.1[x.2.2]?).length<=1010)->((Wr P nm).map Ân).sum<=1010*Æ6:=λP=>by
   induction P with
   | nil=>intro _;exact Qg _
   | Í a r ih=>intro h;rw[hl,h5,h6,ih,u,g];unfold Wr at h6 ⊢;rw[Qj,Qj,QR,QA];lia
  refine this _ λx b=>?_;rw[nC];have h8:Î0:=C _ j;rw[Nf (nm:=nm) Î2 j];cases hg:x.2.1[x.2.2]? with
  | none=>show (s ++ ":.").length<=1010;rw[QM];lia
  | some y=>obtain z|p|rfl:=Ğ b;have I:=((Ëe z p).str _ (Qr hg)).1;have h4:=Tv y;show (thT s y).length<=1010;unfold thT;rw[QM,QM];lia
 have jJ:(Wr Ál nm).length=(Ál).length:=by unfold Wr;rw[Qa]
 exact(l2,Wr Ál nm,rfl,Ï J,by rw[jJ];lia,t)def Od.kinds:Od->À ak
 | .row _ _=>["name"]
 | .grow _ _=>["name"]
 | .drop _=>["name"]
 | .take _=>["many"]
 | .left=>[]
 | .rows=>[]
def Od.fk:Od->V
 | .row _ _=>.str "key"
 | .grow _ _=>.str "key"
 | _=>.non
def Od.sw:Od->À ak
 | .row s _=>[s]
 | .grow s _=>[s]
 | .drop s=>[s]
 | .take n=>[Xh n]
 | .left=>[]
 | .rows=>[]
def Od.fw:Od->À ak
 | .row _ ks=>ť kT0
 | .grow _ ks=>ť kT0
 | _=>[]
def Æp(o:Od):À ak:=ÁS::Ûu
def Àf(o:Od):ak:=Áh " " o.ws
structure Zwo (o:Od):Prop where
 l1:o.kinds.length=ÃO
 l2:o.sing.length=ÃO
 l3:o.furt.length=Ëf
 s:∀ (i:Nat) (k wd:ak) (v:V),o.kinds[i]? = U k->o.sw[i]? = U wd->Èp[i]? = U v->RdW k wd v
 f:o.fw=[]/\o.fk=.non\/(o.fk=.str "key"/\∀ (i:Nat) (wd:ak) (v:V),o.fw[i]? = U wd->Èq[i]? = U v->RdW "key" wd v)
 few:Ëf<=10
theorem Ib{o:Od}(h:OdW o):Zwo o:=by
 have one:∀ {q:Type} {a x:q} {i:Nat},[a][i]? = U x->a=x:=λ{q a x i} h=>å (Qr h) |>.symm;have e:∀ks:À ak,KsS ks->(∀ (i:Nat) (c:ak) (v:V),Ú7[i]? = U c->Ûv[i]? = U v->RdW "key" c v)/\(Ú7).length<=10/\(Ûv).length=(Ú7).length:=λks r=>by
  refine(λi c v b d=>?_,by rw[Qa];exact Qk r.1 Ë,by rw[Qa,Qa]);rw[Qp]at b d;cases f:ks[i]? with
  | none=>rw[f]at b;cases b
  | some x=>rw[f]at b d;cases b;cases d;obtain t|u:=r.2 x (Qr f);exact .inr (.inl (rfl,x,rfl,rfl,u,t))
 have g:∀s:ak,NmS s->∀ (i:Nat) (k c:ak) (v:V),(["name"]:À ak)[i]? = U k->[s][i]? = U c->[Å s][i]? = U v->RdW k c v:=λs w i k c v b d j=>by have l:=one b;rw[nE];exact .inl (rfl,rfl,w)
 cases o with
 | row s ks=>exact Ûw
 | Υ s ks=>exact Ûw
 | Φ s=>exact(rfl,rfl,rfl,g s h,.inl ĳ,Qs _)
 | Χ n=>refine(rfl,rfl,rfl,λi k c v b d j=>?_,.inl ĳ,Qs _);have l:=one b;rw[nE];exact .inr (.inr (rfl,n,rfl,rfl,h))
 | left=>exact Ûx
 | Ρ=>exact Ûx
theorem Zrp(d:Æe)(o:Od):X2 λt g:ae=>Ņ K bv ÁS=U (U ÁO)/\(∀H,SqT K H g Üv)/\∀H,SqT K H t [.ref g,o.fk]:=by
 cases o with
 | row s ks=>obtain a|b|c|e|f:=d.d_FORMS_row;exact Èr
 | Υ s ks=>obtain a|b|c|e|f:=d.d_FORMS_grow;exact Èr
 | Φ s=>obtain a|b|c|e|f:=d.d_FORMS_drop;exact Èr
 | Χ n=>obtain a|b|c|e|f:=d.d_FORMS_take;exact Èr
 | left=>obtain a|b|c|e|f:=d.d_FORMS_left;exact Èr
 | Ρ=>obtain a|b|c|e|f:=d.d_FORMS_rows;exact Èr
theorem RR(o:Od):ÁS∈(["row", "grow", "drop", "take", "left", "rows"]:À ak):=by cases o;exact .head _;exact .tail _ (.head _);exact .tail _ (.tail _ (.head _));exact .tail _ ÓY;exact .tail _ (.tail _ ÓY);exact .tail _ (.tail _ (.tail _ ÓY))
theorem RQ{c:Nat}{z:ak}(h:AZ z)(hc:c<97):c ∉ Á5:=λm=>by have:=h c m;lia
theorem Ztu{c:Nat}{k:ak}(h:AZ k)(hc:c<97)(a:c≠45):c ∉ (kT0 k).cps.toList:=by
 unfold kT0;split
 ·show c ∉ ("-" : ak).cps.toList;rw[show ("-" : ak).cps.toList=[45] from by ac_rfl];intro m;exact a (å m)
 ·exact RQ h hc
theorem Ia{o:Od}(h:OdW o){c:Nat}(hc:c<45):∀z∈o.ws,c ∉ Á5:=by
 have first:∀o:Od,c ∉ o.first.cps.toList:=λo m=>by
  have:∀z∈(["row", "grow", "drop", "take", "left", "rows"]:À ak),Ûy (λx=>decide (97<=x))=true:=by ac_rfl
  have:=Qal.mp (this _ (RR o)) c m;have:=Ľ this;lia
 have a:∀ks:À ak,KsS ks->∀z∈ť kT0,c ∉ Á5:=λks b z hz=>by obtain x|d|rfl:=Ğ hz;exact Ztu (b.2 x d).2 Á Á
 intro z hz;unfold Æp at hz;rcases ĩ hz with rfl|hz
 ·exact first o
 rcases í hz with hz|hz
 ·cases o with
  | row s ks=>rw[å hz];exact RQ h.1.1 Á
  | Υ s ks=>rw[å hz];exact RQ h.1.1 Á
  | Φ s=>rw[å hz];exact RQ #[qi].1 Á
  | Χ n=>rw[å hz];intro m;have:c∈[48+n]:=m;have:=Ëg;lia
  | left=>cases hz
  | Ρ=>cases hz
 ·cases o with
  | row s ks=>exact Ès
  | Υ s ks=>exact Ès
  | Φ s=>cases hz
  | Χ n=>cases hz
  | left=>cases hz
  | Ρ=>cases hz
theorem Nb(sep:ak)(ws:Ñ)(m n:Nat)(h:∀s∈ws,ŧ<=m)(b:Àb<=n)(h1:Ìt=1):(Áh sep ws).length<=n*(m+1):=by
 have j:=J1 sep ws;have:∀l:À ak,#[s2,l,m]->(ÂS Ân).sum<=Ų*m:=λl=>by
  induction l with
  | nil=>intro _;simp
  | Í a l c=>intro h;rw[hl,h1,d,c,s,e];rw[Qj,QR,QA,Ð4];lia
 have d:=this ws h;have h3:Àb*m+Àb*1<=n*(m+1):=by rw[<- Nat.mul_add];exact Nat.mul_le_mul_right _ b
 rw[h1]at j;lia
theorem WI(ks:Ñ):inV .non Ûv=false/\(Ûv).all Xl=true:=by
 induction ks with
 | nil=>exact ĳ
 | Í a r b =>
  refine Ìp
  ·show (eqV (Å a) .non||inV .non (ÂU Å))=false;rw[b.1];rfl
  ·show (Xl (Å a)&&(ÂU Å).all Xl)=true;rw[b.2];rfl
theorem Zr5(o:Od):(inV .non Èp=false/\o.sing.all Xl=true)/\inV .non Èq=false/\o.furt.all Xl=true:=by
 cases o with
 | row s ks=>exact(WI [s],WI ks)
 | Υ s ks=>exact(WI [s],WI ks)
 | Φ s=>exact(WI [s],WI [])
 | Χ n=>exact((rfl,rfl),WI [])
 | left=>exact(WI [],WI [])
 | Ρ=>exact(WI [],WI [])
theorem Na{o:Od}(h:OdW o):Âk Àg " " = o.ws:=by
 have e:#[fK," ",32]:=by ac_rfl
 unfold Àf;rw[e];exact Kt (by unfold Æp;simp) (Ia h Á)
theorem M0{o:Od}(h:OdW o):o.ws.length<=12/\∀z∈o.ws,ŗ<=50:=by
 have first:o.first.length<=50:=(by ac_rfl:∀z∈(["row", "grow", "drop", "take", "left", "rows"]:À ak),ŗ<=50) _ (RR o)
 have a:∀ks:À ak,KsS ks->∀z∈ť kT0,ŗ<=50:=λks b z hz=>by obtain x|c|rfl:=Ğ hz;have:=(b.2 x c).1;have:=Tv x;lia
 have R:=Ib h;have l1:=R.few;have ls:ÃO<=1:=by cases o<;>first|exact Qg _|exact Qs _
 refine(by unfold Æp;rw[QA,Qi];lia,λz hz=>?_);unfold Æp at hz;rcases ĩ hz with rfl|hz
 ·exact first
 rcases í hz with hz|hz
 ·cases o with
  | row s ks=>rw[å hz];exact Qk h.1.2.2 Ë
  | Υ s ks=>rw[å hz];exact Qk h.1.2.2 Ë
  | Φ s=>rw[å hz];exact Qk #[qi].2.2 Ë
  | Χ n=>rw[å hz];exact(by decide:1<=50)
  | left=>cases hz
  | Ρ=>cases hz
 ·cases o with
  | row s ks=>exact Ès
  | Υ s ks=>exact Ès
  | Φ s=>cases hz
  | Χ n=>cases hz
  | left=>cases hz
  | Ρ=>cases hz
structure Vf (H:Hp) (x:ae×ae×ae) (o:Od):Prop where
 t:H x.1=U (.tup [.str ÁS,.ref x.2.1,.ref x.2.2])
 s:H x.2.1=U (.lst Èp)
 f:H x.2.2=U (.lst Èq)
theorem Vf.same{H a:Hp}{x:ae×ae×ae}{o:Od}(h:Vf H x o)(s:ZD H a):Vf a x o:=(s _ _ h.t,s _ _ h.s,s _ _ h.f)
def H0:Sp:=λvs H Q _=>∃o:Od,vs=[.str Àg]/\OdW o/\∀ (x:ae×ae×ae) a,ZD H a->H x.1=af->H x.2.1=af->H x.2.2=af->Vf a x o->Q (.ref x.1) a
theorem Zme(T:Ù)(v:Æe)(fH:Df P w K mg Â 3 "read_word" ÍR Ip)(eN:Df P w K mg Â 1 "may_be_further" Êt Im):Df P w K mg Â 4 "order_in" ["row"] H0:=by
 rw[hi,T.t_order_in.df,V6];obtain o|rfl|hw|q:=h;refine(_,#[Zf,#[YB,Ûz,(@ZsM _ _ _ _ _ K #[Zo,#[rT,1,Æq],(@Zq8 _ _ _ _ #[rT,2,Æq] É)] É É É É)],#[Zf,#[ZN,#[Zn,ZsY,‹1›,#[UY,v.m_FORMS],Áa],ÇX,ò],#[Zf,#[YB,#[ZC,PP,#[UY,v.m_FORMS],‹1›],#[gT,K,2,#[Zo,#[rT,3,Æq],#[Zo,#[Zu,4,Æq,Éy],Èt]]]],#[Zf,#[Zx,5,Æq,á,ÒU],#[Zf,#[ZN,(@Ź _ _ _ #[WR,#[Zn,WG,ÎL,‹5›,ă],#[WS,(@Tr _ _ _ _ #[Xd,#[ZA,eN,hr,#[Zd,#[hw,4],#[ZR,Vb,ÎL,‹5›]],É]])]]),ÇX,ò],#[Zf,#[Td,6,Æq,US,#[iZ,K,ÒS,#[e2,3,2]],#[el,8,US,9],Ξ,(λ_ _ _ _=>#[ZA,fH,hr,#[Zd,#[cw,8,US],#[cw,9,US]],#[hp,US]])],#[Zf,#[Td,7,Æq,T3,#[iL,K,#[g2,2,5]],#[gA,8,T3],Ξ,(λ_ _ _ _=>#[ZA,fH,hr,#[Zd,#[cv,4,T3],#[cw,8,T3]],#[hp,T3]])],#[Zg,#[Zm,#[Z0,(@Ź _ _ _ #[WR,#[Zn,(inQ K),ř,‹6›,Áa],#[WS,#[Zn,(inQ K),ř,‹7›,Áa]]]),ř,#[YG,#[fq,1,6,7]]]]]]]]]]]],?_);have R:=Ib hw;obtain tj|hwz:=M0 hw;obtain t|I|eO|B9|ht:=Zrp v o;have DW:ÃO<=1:=by cases o<;>first|exact Qg _|exact Qs _
 have e1:Ê9:=by ac_rfl
 have vU:o.txt.length<=aq:=Qk (Nb " " o.ws 50 12 hwz tj e1) Ë;refine(_,rfl,rfl,Àg, " ",rfl,rfl,û,vU,(by rw[Na hw];exact Ĩ Á),λa ha=>?_);rw[Na hw];refine(a,.str ÁS,(Ûu).map Å,rfl,Ï Zb,(by rw[Qa,Qi];have:=R.few;lia),λl hl=>?_);have J:=(Zi ha #[ef,o.ws.map]).trans (Zi hl (.lst Î3));have n:(upd (upd H a #[ef,o.ws.map]) l (.lst Î3)) l=U (.lst Î3):=Zb;generalize upd (upd H a (.lst (o.ws.map Å))) l (.lst ((o.sw++o.fw).map Å))=L at J n ⊢;refine(_,_,rfl,_,_,rfl,rfl,_,rfl,bv,ÁS,_,rfl,rfl,v.kd_FORMS,eO,_,rfl,Y7 ?_);refine(_,rfl,bv,ÁS,.ref t,_,rfl,rfl,v.kd_FORMS,eO,rfl,t,_,rfl,ht L,rfl,_,_,rfl,_,_,rfl,rfl,_,rfl,I,_,rfl,.inr (B9 L),?_);have ek:((Üv).length:Int)=Ëh:=by rw[Qa,R.l1]
 have el:((Î3).length:Int)=Ëh+(Ëf:Int):=by rw[Qa,Qi];lia
 rw[ek];refine(_,rfl,l,_,rfl,.inl (Ï n),_,rfl,_,_,rfl,rfl,_,rfl,?_);rw[el];refine YR Á ?_;refine(_,rfl,_,rfl,l,_,rfl,.inl (Ï n),_,rfl,_,_,rfl,rfl,?_);rw[el];refine(o.fk,_,rfl,?_,_,rfl,Y7 ?_)
 ·rcases R.f with⟨h1,h2⟩|⟨h1,_⟩
  ·exact .inl (h2,by rw[h1];show (ÃO:Int)+0-_=0;lia)
  ·exact .inr h1
 refine(_,rfl,_,rfl,.t I,.l l,o.kinds.map Å,(Ûu).map Å,rfl,B9 L,Ï n,λD hD=>?_);refine Tb (λi zs j d=>(X2 λm v2:Ã V=>j=[U (.str Àg),U (.str ÁS),U Ă,U (.ref I),U o.fk,U (.int Ëh),af,af,m,v2])/\zs=o.sing.take i/\i<=ÃO/\d D=U π/\ZD L d) #[hW,hD] (λ_ _ _ _ h=>(B9 _,Ï (h.2.2.2.2 _ _ n))) ?_ ?_
 ·rintro i zs j d x y p z c ⟨⟨m,v2,rfl⟩,rfl,hi,M,B⟩ hp;rw[Qp]at z c;cases N:o.kinds[i]? with
  | none=>rw[N]at z;cases z
  | some k =>
  rw[fQ,N,z,z];have e:i<ÃO:=by rw[<- R.l1];exact(Ł N).1
  rw[QT e]at c;cases g:o.sw[i]? with
  | none=>rw[g]at c;cases c
  | some r =>
  rw[fQ,g,c,c];have C:Èp[i]? = U (Èp[i]'#[ea,R.l2,e]):=Qb _;have kp:ZD d (upd d p (.tup [Å k,.str r])):=Zi hp _;refine(p,_,rfl,ö Zb,rfl,_,_,rfl,_,_,rfl,rfl,_,rfl,_,rfl,k,r,_,rfl,R.s i k r _ N g C,kp _ _ M,#[ea,Qw,ÀY],Èb,?_,e,Zb,λb u F=>?_)
  ·rw[QH,C];rfl
  ·rw[sh,F,hD,kp,B,b]
 rintro zs j d ⟨⟨m,v2,rfl⟩,rfl,_,M,B⟩;have Fx:min (Üv).length (Î3).length=o.sing.length:=by rw[Qa,Qa,Qi,R.l1,R.l2];lia
 rw[Fx,Qx ë]at M;have vV:Xm Î3 (U Ëh) af=Î4 Å:=by rw[(RT Ûu ÃO #[eO,Qi]).2,List.drop_left]
 refine(_,rfl,_,rfl,_,rfl,l,_,rfl,Ï (B _ _ n),λp hp=>?_);rw[vV];have O:=Zi hp ÓZ;have tP:(upd d p ÓZ) p=U ÓZ:=Zb;have my:=O _ _ M;generalize upd d p (.lst (Î4 Å))=H3 at O tP my ⊢;refine(p,rfl,#[ho,tP],λS W=>?_);have nDD:D≠S:=Ze my W;refine V1 (K:=K) (a:=p) (xs:=Î4 Å) (λi zs j X=>(∃m:Ã V,j=[U (.str Àg),U (.str ÁS),U Ă,U (.ref I),U o.fk,U (.int Ëh),U Ι,af,m])/\zs=o.furt.take i/\i<=Ëf/\X S=U π/\ZD H3 X) #[gn,W] #[eF,tP] ?_ ?_
 ·rintro i y zs j X c ⟨⟨m,rfl⟩,rfl,hi,G,Y⟩;rw[Qp]at c;cases g:o.fw[i]? with
  | none=>rw[g]at c;cases c
  | some r =>
  rw[en,g,c,e,Ëf];rcases R.f with⟨h0,_⟩|⟨hfk,hf⟩
  ·rw[h0]at e;exact È e (Ú8 _)
  have C:Èq[i]? = U (Èq[i]'#[ea,R.l3,e]):=Qb _;refine(_,rfl,_,rfl, "key",r,_,#[zj,hfk],hf i r _ g C,G,(by rw[Qw];have:=R.few;exact ÀY),ÿ,?_,e,Zb,λb u F=>?_)
  ·rw[QH,C];rfl
  ·rw[s3,F,W,Y,b,u]
 rw[sE,j,X,m,G,Y];rw[Qa,<- R.l3,Qx ë]at G;obtain (b1|b2)|b3|b4:=Zr5 o;have qZ:=Y _ _ my;refine(_,rfl,D,_,rfl,.inl (Ï qZ),rfl,b2,_,rfl,?_);rw[Ç Qu,b1];refine Y7 (_,rfl,S,_,rfl,.inl (Ï G),rfl,b4,_,rfl,?_);rw[Ç Qu,b3];refine Y7 (_,rfl,_,rfl,_,rfl,υ,λtt Z=>?_);have rK:=((J.trans B).trans O).trans Y;exact q (tt,D,S,) _ (rK.trans (Zi Z _)) (rK.free Z) (J.free hD) (((J.trans B).trans O).free W) (Zb,Zi Z _ _ _ qZ,Zi Z _ _ _ G)
theorem HZ{c s:Nat}:∀xs:À (À Nat),c∈gl s xs->c=s\/∃x∈xs,c∈x
 | [],h=>by cases h
 | [a],h=>.inr (a,by simp,h)
 | a::b::r,h=>by
  have h':c∈a++s::gl s (b::r):=h;rcases í h' with h'|h'
  ·exact .inr (a,by simp,h')
  ·rcases ĩ h' with h'|h'
   ·exact .inl h'
   ·rcases HZ (b::r) h' with z|⟨x,d,z⟩
    ·exact .inl z
    ·exact .inr (x,Ql _ d,z)
theorem Zsq{o:Od}(h:OdW o):10 ∉ o.txt.cps.toList:=λm=>by
 have e:#[fK," ",32]:=by ac_rfl
 have a:Àg=χ ⟨[32].toArray⟩ o.ws:=by unfold Àf;rw[e];simpa using Êm (⟨[32].toArray⟩:ak) o.ws
 rw[a,PQ]at m;rcases HZ _ m with z|⟨x,b,z⟩
 ·exact È z Ë
 ·rw[ed,w,hw,b];exact Ia h Ë w hw z
theorem ZoC{o:Od}(h:OdW o):¬ Å Àg=Å "":=λz=>by
 injection z with z;have e:=Na h;rw[z]at e;have a:Âk ("" : ak) " " = [("" : ak)]:=by ac_rfl
 rw[a]at e;unfold Æp at e;injection e with e _;exact È ((by ac_rfl:∀z∈(["row", "grow", "drop", "take", "left", "rows"]:À ak),z ≠ "") _ (RR o)) (λf=>f ÃU)
theorem MZ{o:Od}(h:OdW o):o.txt.length<=612:=Nb " " o.ws 50 12 (M0 h).2 (M0 h).1 û
def ShT(os:Â3):ak:=Áh "\n" Î5
theorem HY{os:Â3}(h0:os≠[])(h:Ó0):Âk (ShT os) "\n" = Án Àf:=by
 have e:#[fK,"\n",10]:=by ac_rfl
 unfold ShT;rw[e];exact Kt #[d8,h0] λz a=>by obtain o|b|rfl:=Ğ a;exact Zsq (h o b)
def HX(H:Hp)(l:ae)(xs:À (ae×ae×ae))(os:Â3):Prop:=H l=U #[hQ,ÈE,x,x.1]/\ã=ÀM/\∀ (i:Nat) x o,xs[i]? = U x->os[i]? = U o->Vf H x o
def HW:Sp:=λvs H Q _=>∃os:À Od,vs=[.str (ShT os)]/\os≠[]/\(∀o∈os,OdW o)/\ÀM<=90/\∀ (l:ae) (xs:À (ae×ae×ae)) (a:Hp),ZD H a->H l=af->HX a l xs os->Q Ă a
theorem Zop(T:Ù)(iA:#[g3,4,"order_in","row",H0]):Df P w K mg Â 5 "orders_in" ["text"] HW:=by
 rw[hi,T.t_orders_in.df,T8];obtain os|rfl|Y|hw|Z|q:=h;refine(_,#[Zf,#[gR,1,T8.nd],#[Zf,#[XT,Ο,#[iE,K,ÒX,#[Zd,Ûz]],#[rR,T8.nd],#[Zg,#[ZN,#[eo,VM,3,Ý],#[Zf,#[Zx,4,T8.nd,á,#[ZA,iA,hr,ÊX,É]],#[Zf,#[ZN,#[hh,4],Îl,ò],#[Zg,#[fY,1,4]]]],ò]]],#[fe,1]]],?_);have e1:#[fr,"\n",1]:=by ac_rfl
 have vU:(ShT os).length<=aq:=Qk (Nb "\n" Î5 612 90 (λz g=>by obtain o|t|rfl:=Ğ g;exact MZ (hw o t)) #[ea,Qa,Z] e1) Ë;rw[y7,Ŵ,l,F];rw[rC,s1,F,G,H,l];generalize upd H l (.lst [])=H1 at s1 G ⊢;refine(_,rfl,rfl,ShT os, "\n",rfl,rfl,û,vU,(by rw[HY Y hw,Qa];exact Qk Z Ë),λa ha=>?_);rw[HY Y hw];have I:=Zi ha Ó1;rw[rt,J,H1,a,Ó1];have bN:=I _ _ G;generalize upd H1 a (.lst ((Án Àf).map Å))=H2 at I J bN ⊢;have L:a≠l:=(Ze G ha).symm;refine(a,_,rfl,Ï J,?_);refine Ri (λi M k=>(X3 λN O R:Ã V=>M=[U (.str (ShT os)),U Ă,N,O,R])/\i<=ÀM/\k a=U Ó1/\#[ft,u,H,k]/\∃d,HX k l d Èu/\∀x∈d,x.1≠l/\x.2.1≠l/\x.2.2≠l) ((_,_,_,rfl),Qs _,J,s1.trans I,[],(bN,rfl,λi x o h=>by simp at h),λx h=>by cases h) (λ_ _ _ h=>Ï h.2.2.1) ?_ ?_
 ·rintro i y M k p n ⟨⟨N,O,R,rfl⟩,hi,vX,S,d,⟨v,yv,lm⟩,W⟩ hp;rw[Qp,Qp]at n;cases g:os[i]? with
  | none=>rw[g]at n;cases n
  | some o =>
  rw[en,g,n,b9,ÀM];have t:=hw o (Qr g);have B:=Zi hp (.tup [.int (i:Int),.str Àg]);refine(p,_,rfl,ö Zb,rfl,_,_,rfl,_,_,rfl,rfl,_,rfl,rfl,_,rfl,?_);rw[ē (ZoC t)];refine YJ (_,rfl,o,rfl,t,λx H4 s4 f1 f2 f3 hx=>?_);refine Í9;have C:=B.trans s4;have jx:=C _ _ v;have g1:x.1≠l:=λz=>by rw[z,B _ _ v]at f1;cases f1
  have g2:x.2.1≠l:=λz=>by rw[z,B _ _ v]at f2;cases f2
  have g3:x.2.2≠l:=λz=>by rw[z,B _ _ v]at f3;cases f3
  have Fy:ů=i:=by rw[yv,Qw];lia
  refine(_,rfl,.inl #[es,jx],_,rfl,l,_,_,rfl,rfl,jx,#[er,Fy],Î1,b9,?_,λb u hb=>?_,d++[x],(?_,?_,λj e D m r=>?_),λe bS=>?_)
  ·rw[Zc L];exact C _ _ vX
  ·rw[sh,hb,F,C,S,b]
  ·rw[Zb,Qf];rfl
  ·rw[Qi,Fy,Qw];simp;lia
  ·have ą:Vf H4 e D->e.1≠l->e.2.1≠l->e.2.2≠l->Vf (upd H4 l (.lst (Âd (λx=>ú x.1)++[.ref x.1]))) e D:=λh a b c=>(by rw[Zc a];exact h.t,by rw[Zc b];exact h.s,by rw[Zc c];exact h.f);by_cases hj:j<ů
   ·rw[QT hj]at m;have uN:Èu[j]? = U D:=by rw[ÛA]at r ⊢;rw[Æ Á]at r ⊢;exact r
    obtain a1|a2|a3:=W e (Qr m);exact ą ((lm j e D m uN).same C) a1 a2 a3
   ·have hj2:j<ů+1:=by have:=(Ł m).1;rwa [Qi]at this
    have X:j=i:=by lia
    subst X;rw[Q6 Á,show j-ů=0 by lia]at m;cases m;rw[ÛA,Æ Á,g]at r;cases r;exact ą hx g1 g2 g3
  ·rcases í bS with h|h
   ·exact W e h
   ·rw[å h];exact(g1,g2,g3)
 ·rintro M k ⟨⟨N,O,R,rfl⟩,hi,vX,S,d,sS,W⟩;rw[Qa,Qa,Qx ë]at sS;exact(_,rfl,q l d k S F sS)
def HV(c f g:ae):Sp:=λvs H Q _=>X2 λd e:ae=>vs=[.ref d]/\H d=U (.ins c e [])/\∀ (X:MS) (nd:ae) (a:Hp),a d=U #[zo,c,e,X.m]->¬ MFp X d->DOk f g a X nd []->dsO X []=([],0,0,0,[])->(∀b,MFp X b->H b=af)->H nd=af->#[ew,u,d,a]->Q .non a
theorem Zqh(T:Ù)(gz:Cf P w K mg Â 14 am "Merge" ÍL (Jp aw am)):Cf P w K mg Â 16 aB "Desk" ĉ (HV aB aw am):=by
 rw[d4,T.t_Desk_init.cf,ZjH,vs,v];rw[sS,d,c,B];refine(_,#[Zf,#[X0,‹0›,#[Uo,gz,v,#[Zd,Â6]]],#[Zg,#[sg,P6]]],Ŵ,λr v=>λm i k R nmd=>?_);have j:=Zi v ÁN;have S:#[e8,H,r] r=U (.lst (([]:À (ae×À ak)).map λx=>ú x.1)):=Zb;have yx:∀b,#[e8,H,r] b=af->H b=af:=λb=>j.free;generalize upd H r (.lst [])=l at j S yx k R ⊢;have p:ZD l #[eI,l,i,m,am]:=λb o a=>by rw[Zc (Ze a k),Zc (Ze a R)];exact a
 have W:#[eI,l,i,m,am] m=U (.ins am i []):=Zb;generalize upd (upd l i (.own m)) m (.ins am i [])=H2 at p W ⊢;refine(m,i,r,[],rfl,W,(p _ _ S,Qs _,λx h=>by cases h),#[ex,x,h],λC D L st w0 k2 q2 g t iw W3 S3 P3 F k3=>(rfl,?_));have hL:L=[]:=by have:=#[et,iw.1];unfold ZB Wn at this;rw[Qa]at this;exact Ê7 this
 subst hL;obtain ek|eq:=P3.one (m:=8) (.few #[hB,0,2]);subst ek;subst eq;have G:ZD H g:=λb o a=>k3 b o (p b o (j b o a)) (Ze (j b o a) k);have X:=G _ _ B;have Y:∀b,Fp m C D ([]:À Zz) b->H b=af:=λb a=>by
  rcases F b a with z|z
  ·rw[z];exact j.free k
  ·exact j.free (p.free z)
 have Z:¬ Fp m C D ([]:À Zz) d:=λz=>by have:=Y d z;rw[(B)]at this;cases this
 have vN:=UK 8 _ st _ t.up (Ng t) Ë S3;refine(_,rfl,d,aB,c,_,rfl,X,Àe,ÃN,#[hB,0,1000],?_);rw[Xj];rw[eH,vY,g,d,Ó2];have k4:#[rx,g,d,g,Ó2]:=λb o a n=>by rw[Zc n];exact a
 have I:∀b,(upd g d Ó2) b=af->g b=af:=λb a=>by
  by_cases z:b=d
  ·rw[ss,Zb,a]
  ·rw[Zc z]at a;exact a
 generalize upd g d (.ins aB c [("merge",.ref m,)])=H4 at vY k4 I ⊢;rw[gO,e,J,M,vZ,H4];have N:H e=af:=G.free (I e J);have lE:=M _ _ vY;generalize upd H4 e (.dK [])=H5 at M vZ lE ⊢;refine(_,rfl,d,aB,c,_,rfl,lE,Àe,Ä5,#[hB,1,1000],?_);have eF:Zv "numbers" ŝ [("merge",ú m,)]=dkF m e:=by rw[Zw û,Xj];rfl
 rw[eF];have O:e≠d:=λz=>by rw[z,B]at N;cases N
 have k5:∀b o,g b=U o->b≠d->(upd H5 d (.ins aB c (dkF m e))) b=U o:=λb o a n=>by rw[Zc n];exact M _ _ (k4 b o a n)
 refine q (m,C,D,[],st,0,0,0,w0) e _ Zb Z (?_,#[hP,O,vZ],(λz=>by have h3:=t.fp_fresh (I e J);exact h3 z),(rfl,.nil,.nil)) rfl Y N (λb u a n=>k5 b u (G b u a) n);refine MOk.keep (H:=g) (t,W3,vN) λb o a dJ=>k5 b o a λz=>?_;rcases dJ with y|⟨xs,rfl⟩
 ·exact Z #[eP,z,y]
 ·rw[ss,X,a]
theorem Zst(a:Æe)(c:ÛB)(e:ÛC)(g:ÛD)(h:ÛE)(i:ÛF)(j:ÛG)(o:Od) :
  ∃f,Ņ K br ÁS=U ÀC/\Fv P w K mg Â 17 f (Yg aB aw am λx=>x=o):=by
 have go:∀ {x y:ak} {k:À ak} {p:Od->Prop},Df P w K mg Â 15 x k (Yg aB aw am p)->(∀f,mg x=U č->Ņ K br y=U ÀC)->p o->∃f,Ņ K br y=U ÀC/\Fv P w K mg Â 17 f (Yg aB aw am λx=>x=o):=λF l m=>by obtain f|q|F|r|t|u:=F.ex;exact(f,l f r,q,_,(F.imp λvs H Q E ⟨d,v,z,A,X,nd,B,C,D,G,I,J,L,M,N,O,R,b⟩=>(d,v,z,A,X,nd,B,C,D,G,I,J,L,M,N,O,#[ea,R,m],b)).mono Ë,t,u)
 cases o with
 | row s ks=>exact go c a.d_DEEDS_row (s,ks,rfl)
 | Υ s ks=>exact go e a.d_DEEDS_grow (s,ks,rfl)
 | Φ s=>exact go g a.d_DEEDS_drop (s,rfl)
 | Χ n=>exact go h a.d_DEEDS_take (n,rfl)
 | left=>exact go i a.d_DEEDS_left rfl
 | Ρ=>exact go j a.d_DEEDS_rows rfl
structure Bd (S:DS) (d i:Nat):Prop where
 few:ÎW<=16
 nb0:0<=S.nb
 nb1:S.nb<=(d:Int)
 lt:∀x∈S.P,0<=x.1/\x.1<S.nb
 len:∀x∈S.P,x.2.1.length<=5*d
 nmz:∀e∈Àc,AZ e.1/\e.1.length<=8
def Od.deed:Od->Nat
 | .row _ _=>1
 | .grow _ _=>1
 | .drop _=>1
 | _=>0
def dds(os:Â3):Nat:=(Án Od.deed).sum
theorem Bd.sbd{S:DS}{d i:Nat}(h:Bd S d i)(hd:d<=36)(hi:i<=90):SBd S:=(ÁQ,h.nb0,by have:=h.nb1;lia,h.lt,λx hx=>by have:=ÀJ x hx;lia,ÁT)
theorem Bd.up{S:DS}{d i:Nat}(h:Bd S d i)(d':Nat):Bd S (d+d') (i+1):=(ÁQ,h.nb0,by have:=h.nb1;lia,h.lt,λx hx=>by have:=ÀJ x hx;lia,ÁT)
theorem Bd.step{S t:DS}{o:Od}{a:ak}{d i:Nat}(h:Bd S d i)(hw:OdW o)(g:Yh S o a t):Bd t (d+Ëi) (i+1):=by
 cases g with
 | Æg _=>exact h.up _
 | Æh _=>exact h.up _
 | Æi _=>exact h.up _
 | left=>exact h.up _
 | Ρ=>exact h.up _
 | row j l u v =>
  rename_i P b m lo p s ks k q;have nb0:0<=b:=h.nb0;have nb1:b<=(d:Int):=h.nb1;refine(by show (P++[(b,ks,0,)]).length<=16;rw[Qi,QI];lia,by show 0<=b+1;lia,by show b+1<=#[fI,d];lia,λx hx=>?_,λx hx=>?_,λe he=>?_)
  ·show 0<=x.1/\x.1<b+1;rcases í hx with hx|hx
   ·have:0<=x.1/\x.1<b:=h.lt x hx;lia
   ·rw[å hx];show 0<=b/\b<b+1;lia
  ·rcases í hx with hx|hx
   ·have:=ÀJ x hx;lia
   ·rw[å hx];have:=hw.2.1;show Àu<=5*(d+1);lia
  ·rcases í he with he|he
   ·exact ÁT e he
   ·rw[å he];exact(hw.1.1,hw.1.2.2)
 | Υ j l u v =>
  rename_i P b m lo p s ks w k q;refine(by show (Wh P w.1 ks).length<=16;unfold Wh;rw[Qa];exact ÁQ,h.nb0,by have:b<=(d:Int):=h.nb1;show b<=Ó3;lia,λx hx=>?_,λx hx=>?_,ÁT)
  ·rw[ed,y,c,hx];have:=h.lt y c;split<;>exact this
  ·rw[ed,y,c,hx];have:=ÀJ y c;have:=hw.2.1;split
   ·show (y.2.1++ks).length<=5*(d+1);rw[Qi];lia
   ·lia
 | Φ j l=>rename_i P b m lo p s n k q;refine(Qk (QaR _ _) ÁQ,h.nb0,by have:b<=(d:Int):=h.nb1;show b<=Ó3;lia,λx hx=>h.lt x (ÃS hx).1,λx hx=>by have:=ÀJ x (ÃS hx).1;lia,λe he=>ÁT e #[w0].1)
 | Χ j l =>
  rename_i P r b m lo p n ts k q;have z:∀x∈r,0<=x.1/\x.1<b:=λx hx=>by
   have:x.1∈Z6 P:=by rw[<- j.num];exact Qd (f:=Æd) hx
   rw[sF,y,c,e];rw[<- e];exact h.lt y c
  have A:ÀV=Æ6:=by have:=#[et,j.num];unfold Z6 at this;rw[pS]
  refine(by show ÀV<=16;rw[A];exact ÁQ,h.nb0,by have:b<=(d:Int):=h.nb1;show b<=Ó3;lia,z,λx hx=>?_,ÁT);obtain y|c|e:=j.rowOf x hx;have:=ÀJ y c;rw[<- e];lia
def Zv2:Sp:=λvs H Q _=>∃os:À Od,vs=[.str (ShT os)]/\os≠[]/\(∀o∈os,OdW o)/\ÀM<=90/\dds os<=36/\∀ (c:À ak) (S:DS) (l:ae) (a:Hp),VW Ó4 os c S->H l=af->a l=U #[ef,Ř]->#[ft,u,H,a]->Q Ă a
theorem Zql(os:Â3)(i:Nat):dds Èu<=dds os:=by have h:=ł dds (Ù8 i os);unfold dds at h ⊢;rw[Qf,QaN]at h;lia
theorem Zrj{os:Â3}{i:Nat}{o:Od}(h:os[i]? = U o):dds (os.take (i+1))=dds Èu+Ëi:=by rw[QH,h];unfold dds;rw[Qf,QaN];rfl
theorem ZuD(T:Ù)(N:Æe)(hG:#[g3,5,"orders_in","text",HW])(hJ:Cf P w K mg Â 16 aB "Desk" ĉ (HV aB aw am))
  (gO:ÛB) (gc:ÛC) (gf:ÛD) (fc:ÛE) (fe:ÛF) (ff:ÛG) :
  Df P w K mg Â 18 "run" ["text"] Zv2:=by
 rw[d4,T.t_run.df,V7,vs,O];obtain os|rfl|h0|hw|vW|yy|q:=h;refine(_,#[Zf,#[Zx,1,V7.nd,á,#[sy,hG,O]],#[Zf,#[Zx,2,V7.nd,á,(@Zuj _ _ _ _ _ _ _ _ _ hJ O ÊE É Ë)],#[Zf,#[gR,3,V7.nd],#[Zf,#[XT,Ο,Ëa,#[d6,4,V7.nd,5,6],#[Zf,#[Zx,7,V7.nd,á,#[ZC,PP,#[UY,N.m_DEEDS],‹4›]],#[Zg,#[ZI,#[YQ,QB,QC,QD,ZY,‹3›,#[Zd,(@Zo0 _ _ _ _ _ _ _ _ _ _ ‹7› O #[fq,2,5,6] ÊE É É)]]]]]],#[fe,3]]]]],_,rfl,os,rfl,h0,hw,vW,λol xs c s1 iX sS=>?_);rw[g9,zY,yv,lm,sS];intro d j gM rL ndd;have G:ZD c #[eI,c,j,d,aB]:=λb o a=>by rw[Zc (Ze a gM),Zc (Ze a rL)];exact a
 have gI:#[eI,c,j,d,aB] d=U (.ins aB j []):=Zb;generalize upd (upd c j (.own d)) d (.ins aB j [])=H2 at G gI ⊢;refine(d,j,rfl,gI,λX nd I qb v R hS J ir k3=>(rfl,Ŵ,λl k=>?_));have FC:#[eT,u,c,u,I]:=λb u a=>k3 b u (G b u a) (Ze a gM);rw[rC,S,k,jx,I,l];have D4:=R.same S;have vY:=S _ _ qb;have zZ:c l=af:=by
  cases z:c l with
  | none=>rfl
  | some u=>rw[FC l u z]at k;cases k
 have W:l≠d:=λz=>by rw[z,qb]at k;cases k
 have FD:l≠nd:=λz=>by rw[z,R.at']at k;cases k
 have Y:¬ MFp X l:=R.mg.M.fp_fresh k;have Z:∀b u,c b=U u->#[e8,I,l] b=U u:=λb u a=>S _ _ (FC b u a);have Cc:c nd=af:=G.free ir;have FE:∀b,MFp X b->c b=af:=λb a=>G.free (J b a);generalize upd I l (.lst [])=H4 at jx D4 vY Z ⊢;refine(_,rfl,ol,rfl,(_,Ï (Z _ _ zY)),?_);refine RE (λi σ m=>(X4 λv4 v5 v6 v7:Ã V=>σ=[U (.str (ShT os)),U (.ref ol),U Τ,U Ă,v4,v5,v6,v7])/\i<=ÀM/\#[ft,u,c,m]/\X3 λp X t=>m l=U #[ef,p.map]/\VW Ó4 Èu p (dsO X t)/\Bd (dsO X t) (dds Èu) i/\m d=U #[zo,aB,j,X.m]/\DOk aw am m X nd t/\¬ MFp X d/\¬ MFp X l/\∀b,MFp X b->c b=af) ((_,_,_,_,rfl),Qs _,Z,[],X,[],jx,(by rw[hS];exact .nil),(by rw[hS];exact(Qs _,QaX _,QaX _,λx h=>(by cases h),λx h=>(by cases h),λx h=>(by cases h))),vY,D4,v,Y,FE) (λ_ _ _ _ h=>Ï (h.2.2.1 _ _ zY)) ?_ ?_
 ·rintro i y σ m B ⟨⟨v4,v5,v6,v7,rfl⟩,hi,r,p,X,t,C,D,xV,F,D5,v,FG,J⟩;rw[Qp]at B;cases L:xs[i]? with
  | none=>rw[L]at B;cases B
  | some x =>
  rw[fQ,L,B,B];have b9:i<ÀM:=by rw[<- yv];exact(Ł L).1
  obtain⟨o,M⟩:∃o,os[i]? = U o:=(_,Qb b9);have FH:=hw o (Qr M);have g3:=xV.sbd (Qk (Zql os i) yy) Á;have hx:=lm i x o L M;obtain f|eO|hfv:=Zst N gO gc gf fc fe ff o;refine(x.1,_,rfl,ö (r _ _ hx.t),rfl,_,_,rfl,_,_,rfl,_,_,rfl,rfl,_,rfl,br,ÁS,.ref f,_,rfl,rfl,N.kd_DEEDS,eO,rfl,_,rfl,.inl #[es,C],_,rfl,f,_,rfl,hfv,_,rfl,_,rfl,_,rfl,d,x.2.1,x.2.2,j,X,nd,t,o,rfl,F,v,D5,g3,r _ _ hx.s,r _ _ hx.f,FH,rfl,λX' gJ a' H6 g=>?_);have qi:=g.k _ _ C FG FD;have hd6:=g.k _ _ F v (λz=>by rw[z,D5.at']at F;cases F);have Aa:¬ MFp X' l:=λz=>(g.fp l z).elim FG λz=>by rw[C]at z;cases z
  have FI:¬ MFp X' d:=λz=>(g.fp d z).elim v λz=>by rw[(F)]at z;cases z
  have al:Î6=i:=by rw[D.len,Qw];lia
  refine(l,_,_,rfl,rfl,qi,#[er,al],Ó5,b9,λb u a=>?_,p++[a'],X',gJ,?_,?_,?_,?_,?_,FI,Aa,λb a=>?_)
  ·rw[Zc (Ze a zZ)];exact g.k b u (r b u a) (λz=>by rw[J b z]at a;cases a) (λz=>by rw[z,Cc]at a;cases a)
  ·rw[Zb,Qf];rfl
  ·rw[QH,M];exact .snoc D D5.ok g3 g.st
  ·rw[Zrj M];exact xV.step FH g.st
  ·rw[Zc W.symm,g.m];exact hd6
  ·refine g.D.keep λb o' a dJ=>?_;rw[Zc (λz=>by
    rcases dJ with y|y|⟨zs,rfl⟩
    ·exact Aa #[eP,z,y]
    ·exact FD Ó6
    ·rw[z,qi]at a;cases a)]
   exact a
  ·rcases g.fp b a with z|z
   ·exact J b z
   ·cases e:c b with
    | none=>rfl
    | some u=>rw[r b u e]at z;cases z
 ·rintro σ m ⟨⟨v4,v5,v6,v7,rfl⟩,hi,r,p,X,t,C,D,_⟩;rw[Qa,yv,Qx ë]at D;exact(_,rfl,q p _ l m D (s1.free zZ) C λb u a=>r b u (s1 b u a))
theorem Zsj(ss:Ñ):ĝ ss=((ss.zip (ss.drop 1)).all λp=>!decide ÛH):=by
 have h:∀ss:À ak,ÓK LeS↔∀p∈ss.zip (ss.drop 1),LeS p.1 p.2:=λss=>by
  induction ss with
  | nil=>simp
  | Í a r e =>
   cases r with
   | nil=>simp
   | Í b r =>
    have c:(b::r).Pairwise LeS↔∀p∈(b::r).zip r,LeS p.1 p.2:=e;show _↔∀p∈(a,b,)::(b::r).zip r,LeS p.1 p.2;rw[Ú0,c];refine(λ⟨f,i⟩ p hp=>?_,λh=>(λx hx=>?_,λp hp=>h p (Ql _ hp)))
    ·rcases ĩ hp with rfl|hp
     ·exact f b Ö
     ·exact i p hp
    ·have d:LeS a b:=h (a,b,) Ö;rcases ĩ hx with rfl|hx
     ·exact d
     ·have:=#[gf,c.mpr,p,hp];exact ÆH ((ÓJ this).1 x hx)
 rw[QaM,Iw,h,Qal];exact(λg p hp=>by rw[ē (g p hp)];rfl,λg p hp z=>by have:=g p hp;rw[Ĉ z]at this;cases this)
def HU:Sp:=λvs H Q _=>X2 λ(l:ae) (ss:À ak)=>vs=Äx/\H l=U ÃF/\ń<=300/\∀a,ZD H a->Q (.bl (ĝ ss)) a
theorem Zo1(T:Ù):Df P w K mg Â 1 "_law_in_order" Êv HU:=by
 rw[d4,T.t_l_in_order.df,Zia,N,hr];rw[f8,l,c,I,h300];refine(_,#[Zg,#[Zm,#[Zp,(LD K),É,T.b.n_all,boot_all,#[Zd,#[XS,T1,#[iZ,K,ÒS,#[Zd,‹0›,#[Wo,(slL K),‹0›,(@VF _ _ _ Þ),(@VG _)]]],#[el,1,T1,2],Ξ,(λ_ _ _ _=>#[X1,Zn1,#[cw,1,T1],#[cw,2,T1],ă])]]]]],?_);have O:Xm (Ř Å) (U (1:Int)) af=(Ær 1).map Å:=by
  by_cases R:1<=ĵ
  ·exact(RT c 1 R).2
  ·have S:c=[]:=Ê7 Á;rw[S];rfl
 rw[hJ,I,p,W,O];have m:=Zi W #[fO,Ær,1];rw[go,n,H,p,Ær,1];have o:=m _ _ I;generalize upd H p (.lst ((Ær 1).map Å))=X at m n o ⊢;refine(.l l,.l p,Ř Å,(Ær 1).map Å,rfl,Ï o,Ï n,λD J=>?_);refine Tb (λi zs r d=>(X2 λv z:Ã V=>r=[U Ă,v,z])/\(∃bs:À Ð,zs=bs.map V.bl/\bs=((Üw).take i).map (λp=>!decide ÛH))/\i<=(Üw).length/\d D=U π/\ZD X d) ((af,af,rfl),([],rfl,rfl),Qs _,Zb,Zi J _) (λ_ _ _ _ h=>(Ï (h.2.2.2.2 _ _ o),Ï (h.2.2.2.2 _ _ n))) ?_ ?_
 ·rintro i zs r d x y t g j ⟨⟨v,z,rfl⟩,⟨bs,rfl,k⟩,hi,B,C⟩ Y;rw[Qp]at g j;cases F:c[i]? with
  | none=>rw[(F)]at g;cases g
  | some a =>
  cases G:(Ær 1)[i]? with
  | none=>rw[G]at j;cases j
  | some b =>
  rw[(F)]at g;rw[fQ,G,j,g];cases j;have L:Üw[i]? = U (a,b,):=by rw[List.getElem?_zip_eq_some];exact(F,G)
  have Z:=(Ł L).1;have pX:bs.length=i:=by rw[k,Qa,Qw];lia
  have hzl:(Üw).length<=300:=by rw[ÛI];lia
  have st:=Zi Y (.tup [Å a,.str b]);refine(t,_,rfl,ö Zb,rfl,_,_,rfl,_,_,rfl,rfl,_,rfl,_,rfl,_,_,rfl,rfl,st _ _ B,#[er,pX],Èb,(bs++[!decide (b.cps.toList<Òx)],by rw[Qf];rfl,?_),Z,Zb,λb' u M=>?_)
  ·rw[QH,L,Qf,<- k];rfl
  ·rw[sh,M,J,st,C,b']
 rintro zs r d ⟨⟨v,z,rfl⟩,⟨bs,rfl,k⟩,_,B,C⟩;rw[Qa,Qa,<- ÛI,Qx ë]at k;refine(D,bs,rfl,Ï B,?_);have e:ÉH id=ĝ c:=by rw[Zsj,k,List.all_map];rfl
 rw[e];exact q d (m.trans C)
structure AR where
 nm:ak
 t:ae
 n:Int
 k:ae
 ss:À ak
 g:Nat
def kvA(R:î):À ÁH:=ę λe=>(.inr Ú,.ref e.t,)
def dkR(rd:ae)(c:Int):À ÁH:=[(.inr "rows",.ref rd,),(.inr "coming",.int c,)]
theorem MY(rd:ae)(c:Int):((Î7).map õ).Nodup:=by show [(β "rows" : Key),.inr "coming"].Nodup;refine QS.mpr (λm=>?_,QS.mpr (by simp,.nil));have:=Åb (å m);exact È this û
theorem VT(rd:ae)(c:Int):Y5 Î7 (.inr "rows")=U (.ref rd):=Vz (MY rd c) (by unfold dkR;simp)
theorem HS(rd:ae)(c:Int):Y5 Î7 (.inr "coming")=U (.int c):=Vz (MY rd c) (by unfold dkR;simp)
structure Ys (H:Hp) (d rd:ae) (R:î) (c:Int):Prop where
 at':H d=U (.dK Î7)
 Ρ:H rd=U (.dK (kvA R))
 tup:∀e∈R,H e.t=U (.tup [.int e.n,.ref e.k,.int (e.g:Int)])/\H e.k=U #[ef,e.ss.map]
 nd:#[cm].Nodup
 ne:d≠rd
theorem Ys.same{H a:Hp}{d rd:ae}{R:î}{c:Int}(D:Ys H d rd R c)(s:ZD H a):Ys a d rd R c:=(s _ _ ħ,s _ _ Ÿ,λe he=>(s _ _ #[we].1,s _ _ #[we].2),Áo,D.ne)
def ZsI:Sp:=λvs H Q _=>vs=[]/\∀ (d rd:ae) (a:Hp),H d=af->H rd=af->Ys a d rd [] 0->ZD H a->Q Τ a
theorem ZpO(T:Ù):Df P w K mg Â 1 "_law_begun" [] ZsI:=by
 refine T.t_l_begun.df ZlX #[iv,t] #[d5,t,a]
 ·obtain rfl|_:=h;rfl
 obtain rfl|q:=h;refine(_,#[Zg,#[Zm,(@ZsC _ _ _ _ _ (@Ld _ _ _ _ _ _ _ _ _ Ý (@P6 _ _) (@Ld _ _ _ _ _ _ _ _ _ Ý Þ (@Zsn _ _))) rfl rfl Âj #[eE,2,15])]],?_);rw[gO,d,c,g,i,H];generalize upd H d (.dK [])=l at g i ⊢;rw[gO,r,a,j,m,l];have n:r≠d:=(Ze i a).symm;have o:=j _ _ i;have k:=g.free a;generalize upd l r (.dK [])=H2 at j m o ⊢;refine(o,dkR r 0,rfl,#[eE,2,15],?_);rw[PV (dkR r 0) [] (by rw[Î8];exact MY r 0),Î8];exact q d r _ c k (Zb,#[hP,n,m],#[ex,e,h],.nil,n.symm) λb u p=>by rw[Zc (Ze p c)];exact j _ _ (g _ _ p)
structure ATo (H H':Hp) (d rd:ae) (R R':î) (c c':Int):Prop where
 D:Ys H' d rd R' c'
 k:∀b u,H b=U u->b≠d->b≠rd->H' b=U u
 kf:∀e∈R',(∃x∈R,x.k=e.k)\/H e.k=af
inductive Xg:À AR->Int->Od->ak->À AR->Int->Prop
 | row {R:À AR} {c:Int} {s:ak} {ks:À ak} {t k:ae}:(∀e∈R,Ú≠s)->ĝ ks=true->Àh<=15->Xg R c (.row s ks) "done" (R++[(s,t,c,k,ks,0)]) (c+1)
 | Æg {R:À AR} {c:Int} {s:ak} {ks:À ak}:((∃e∈R,Ú=s)\/ĝ ks=false\/15<Àh)->Xg R c (.row s ks) "refused" R c
 | Υ {R:À AR} {c:Int} {s:ak} {ks:À ak} {e:AR} {t k:ae}:e∈R->Ú=s->ĝ (Ò++ks)=true->Xg R c (.grow s ks) "done" (ę λx=>if Ψ=s then (s,t,e.n,k,Ò++ks,e.g) else x) c
 | Æh {R:À AR} {c:Int} {s:ak} {ks:À ak}:((∀e∈R,Ú≠s)\/∃e∈R,Ú=s/\ĝ (Ò++ks)=false)->Xg R c (.grow s ks) "refused" R c
 | Φ {R:À AR} {c:Int} {s:ak} {e:AR}:e∈R->Ú=s->Xg R c (.drop s) "done" (R.filter λx=>decide (Ψ≠s)) c
 | Æi {R:À AR} {c:Int} {s:ak}:(∀e∈R,Ú≠s)->Xg R c (.drop s) "refused" R c
structure Tu (R:î) (c:Int) (S:DS):Prop where
 nm:ę (λe=>(Ú,e.n,))=Àc
 P:ę ÎA=S.P
 c:c=S.nb
theorem Xg.link{R H:î}{c I:Int}{o:Od}{a b:ak}{S J:DS}(h:Xg R c o a H I)(L:Tu R c S)(ok:SOk S)(g:Yh S o b J):a=b/\Tu H I J:=by
 have d:∀ {s:ak},(∀e∈R,Ú≠s)↔∀e∈Àc,e.1≠s:=λ{s}=>by rw[<- L.nm];exact(λh e j=>(by obtain x|l|rfl:=Ğ j;exact h x l),λh e j=>h _ (Qd (f:=Î9) j))
 have len:Àh=ÎW:=by have:=#[et,L.P];rwa [Qa]at this
 have mem:∀e∈R,(Ú,e.n,)∈Àc/\(ÄZ:ZL)∈S.P:=λe j=>(by rw[<- L.nm];exact Qd (f:=Î9) j,by rw[<- L.P];exact Qd (f:=Ïa) j);cases h with
 | row h1 m C =>
  rename_i s ks t k;cases g with
  | row g1 p A D =>
   rename_i P E K lo B k' M;have O:ę (λe=>(Ú,e.n,))=B:=L.nm;have F:ę ÎA=P:=L.P;have Q:c=E:=L.c;subst Q;refine(rfl,?_,?_,rfl)
   ·show (R++[_]).map _=B++[(s,c,)];rw[Qf,O];rfl
   ·show (R++[_]).map _=P++[(c,ks,0,)];rw[Qf,F];rfl
  | Æg g1 =>
   rcases g1 with⟨e,j,z⟩|g1|g1
   ·exact È z (d.mp h1 e j)
   ·rw[rS,m,g1]
   ·lia
 | Æg h1 =>
  cases g with
  | row g1 p A D =>
   rcases h1 with⟨e,j,z⟩|h1|h1
   ·exact È z (d.mpr g1 e j)
   ·rw[rS,p,h1]
   ·rename_i P E K lo B k' M;have h5:Àh=Æ6:=len;lia
  | Æg _=>exact(rfl,L)
 | Υ h1 m C =>
  rename_i s ks e t k;rw[xk];cases g with
  | Υ g1 p A D =>
   rw[sG,p];refine(rfl,?_,?_,L.c)
   ·rw[Qo];refine Eq.trans (QJ λx l=>?_) L.nm;rw[73];split
    ·rename_i v;have r:=#[wO].1;rw[v]at r;have:=Ó7;injection this with _ this;rw[v,this]
    ·rfl
   ·rename_i P E K lo B k' M;have F:P=ę ÎA:=L.P.symm;rw[Qo];show _=Wh P e.n ks;unfold Wh;rw[F,Qo];refine QJ λx l=>?_;rw[73];by_cases v:Ψ=s
    ·have r:=#[wO].1;rw[v]at r;have u:=Ó7;injection u with _ u;have G:=XR ok.ndP #[wO].2 w u;injection G with _ G;injection G with T V;have N:x.n=e.n:=u;rw[Æ v,Æ N,N,T,V]
    ·have W:¬ x.n=e.n:=λz=>v (by have:=UG ok.ndN #[wO].1 i z;injection this);rw[hD,v,W]
  | Æh g1 =>
   rcases g1 with g1|⟨y,X,g1,p⟩
   ·exact ÛJ
   ·rw[sG,X];rw[show ĝ Èh=false from p]at C;cases C
 | Æh h1 =>
  cases g with
  | Υ g1 p A D =>
   rcases h1 with h1|⟨e,j,h1,m⟩
   ·exact ÛK
   ·obtain i|w:=mem e j;rw[h1]at i;rw[sG,p];rw[show ĝ (Ò++_)=false from m]at A;cases A
  | Æh _=>exact(rfl,L)
 | Φ h1 m =>
  rename_i s e;rw[xk];cases g with
  | Φ g1 p =>
   rename_i n k q;have u:=XR ok.nd g1 i rfl;injection u with _ u;subst u;refine(rfl,?_,?_,L.c)
   ·have:=ł (ÓU λe:ak×Int=>decide (e.1≠s)) L.nm;rw[zl,Qan]
   ·unfold UH;have:=ł (ÓU λx:ZL=>decide (x.1≠e.n)) L.P;rw[Qan]at this;refine Eq.trans ?_ this;congr 1;refine QaV λx l=>ÅM Ûf
    ·have Y:x.n=e.n:=z;have:=UG ok.ndN #[wO].1 i Y;rw[xJ]
    ·have r:=#[wO].1;rw[z]at r;have:=Ó7;rw[xJ]
  | Æi g1=>exact ÛJ
 | Æi h1 =>
  cases g with
  | Φ g1 _=>exact ÛK
  | Æi _=>exact(rfl,L)
theorem Zqt(R:î):(kvA R).map õ=#[cm].map (β:ak->Key):=by unfold kvA;rw[Qo,Qo];rfl
theorem Zue{R:î}(nd:Èv):((kvA R).map õ).Nodup:=by rw[Zqt];exact Ú9
theorem UF{R:î}(nd:Èv){e:AR}(h:e∈R):Y5 (kvA R) Ïb=U (.ref e.t):=Vz (Zue nd) (Qd (f:=Ó8) h)
theorem HR{R:î}{s:ak}(h:∀e∈R,Ú≠s):Y5 (kvA R) (.inr s)=af:=by
 cases a:Y5 (kvA R) (.inr s) with
 | none=>rfl
 | some v=>obtain e|b|z:=Ğ (VA a);injection z with z _;exact È Æj (h e b)
theorem Zpb(R:î)(s:ak):WO (kvA R) (.inr s)=kvA (R.filter λe=>decide (Ú≠s)):=by unfold WO kvA;rw[Qan];congr 1;exact QaV λe _=>ÅM #[rz,β,Ú,Æj]
theorem ZsD{R:î}{s:ak}{e:AR}(he:e∈R)(a:Ú=s)(t k:ae)(ks:Ñ):YX (kvA R) (.inr s) ÁO=kvA (ę λx=>if Ψ=s then (s,t,e.n,k,Ò++ks,e.g) else x):=by
 unfold YX;rw[Æ]
 ·unfold kvA;rw[Qo,Qo];refine QJ λx hx=>?_;rw[73];by_cases h:Ψ=s
  ·rw[Æ ÊQ,Æ h];show (#[r4,Ψ],ú t,)=(.inr s,.ref t,);rw[h]
  ·rw[xI]
 ·exact Ç3 (_,Qd (f:=Ó8) he,Ĉ (by rw[a]))
theorem ZrE(rd:ae)(c v:Int):YX Î7 (.inr "coming") (.int v)=dkR rd v:=by have h:¬ (β "rows" : Key)=.inr "coming":=λz=>È Æj û;unfold YX dkR;rw[Æ (Ç3 ((.inr "coming",.int c,),by simp,Ĉ rfl))];rw[Qj,Qj,QaZ,Ç h,Æ rfl]
theorem Zsg(R:î)(s:ak):(∀e∈R,Ú≠s)\/∃e∈R,Ú=s:=by
 by_cases h:∃e∈R,Ú=s
 ·exact .inr h
 ·exact Ûa
def HQ:Sp:=λvs H Q _=>X9 λ(d rd b:ae) (R:À AR) (c:Int) (f s:ak) (ks:À ak) (o:Od)=>vs=[.ref d,.str f,.str s,.ref b]/\Ys H d rd R c/\H b=U À1/\Wg f s ks o/\KsS ks/\Àh<=30/\(∀e∈R,Į<=180/\e.n<c)/\∀ (a:ak) (g:À AR) (h:Int) (i:Hp),Xg R c o a g h->ATo H i d rd R g c h->Q (.str a) i
theorem ZlI(T:Ù)(gA:#[g3,1,"_law_in_order","_law_keys_here",HU]):Df P w K mg Â 2 "_law_deed_due" ÍU HQ:=by
 refine T.t_l_deed_due.df T7 ÂY Í4;obtain d|m|X|R|c|l|i|ks|o|rfl|D|mD|ho|cu|h30|n9|q:=h;refine(_,#[Zf,#[Zx,4,T7.nd,á,#[fj,I]],(@SW _ _ _ _ _ #[ZN,#[Zn,YT,#[r6,YT,1],#[X1,(inG I),‹2›,‹4›,Áa],ă],Èj,ò] #[Zf,#[ZN,Èw,#[Zf,#[ZI,#[YQ,Q5,QaS,ÓC,PU,‹4›,ÄU]],Èj],ò],(@SW _ _ _ _ _ #[YB,#[Z0,Èw,#[ZC,(ixG I),‹4›,‹2›],#[YG,#[Zd,#[fj,I],Â6,Þ]]],#[d6,5,T7.nd,6,7]] (@SW _ _ _ _ _ #[ZN,(@Ź _ _ _ #[WR,(@Tr _ _ _ _ #[Xd,#[ZA,gA,I,#[Zd,#[sL,Wc,6,3]],É]]),#[WS,(@Ź _ _ _ #[Xc,Èw,#[W4,#[Zn,WF,#[Zp,Ul,É,ÁP,Qy,#[Zd,‹4›]],Þ,ă]]])]]),Èj,ò] #[Zf,#[YB,#[YG,#[Zd,‹5›,#[sL,Wc,6,3],‹7›]],#[Xo,‹4›,‹2›,(Wz I)]],#[Zf,#[YB,#[Zp,(Rw rfl),É,Óu,boot_max,#[Zd,#[fj,I],#[rJ,Xb,5]]],#[Xo,‹0›,Ý,(Wz I)]],Èj]]))])],?_);rw[rr];have stay:∀ {a:ak} {Y:Hp},Xg R c o a R c->ZD H Y->Q (.str a) Y:=λst s=>q _ R c _ st (Æk s,λb u r _ _=>s b u r,λe j=>.inl (e,j,rfl));refine(_,rfl,d,_,rfl,Ģ (k:=Ä6) ħ (VT m c),?_);have hrow:Wg l i ks o->(l = "row"/\o=.row i ks\/l = "grow"/\o=.grow i ks\/l = "drop"/\o=.drop i):=id;refine(λJ Y=>J=[U Τ,U (.str l),U (.str i),U (.ref X),U Æc,af,af,af]/\Y=H/\(ÛL\/∃e∈R,Ú=i/\(l = "grow"/\o=.grow i ks\/l = "drop"/\o=.drop i)),?_,?_)
 ·rcases Zsg R i with L|⟨e,j,tq⟩
  ·have hv:=HR L;refine(_,rfl,rfl,_,rfl,_,rfl,m,_,rfl,Ģ (k:=.inr i) Ÿ hv,rfl,_,rfl,?_);rcases ho with⟨rfl,rfl⟩|⟨rfl,rfl⟩|⟨rfl,rfl⟩
   ·rw[nS];exact YR Âj (rfl,rfl,.inl (rfl,rfl,L))
   ·rw[fC,"grow"];exact Y2 rfl (stay (.noGrow (.inl L)) ÄW)
   ·rw[fC,"drop"];exact Y2 rfl (stay (.noDrop L) ÄW)
  ·subst tq;have hv:=UF Áo j;refine(_,rfl,rfl,_,rfl,_,rfl,m,_,rfl,Ģ (k:=.inr Ú) Ÿ hv,rfl,_,rfl,?_);rcases ho with⟨rfl,rfl⟩|⟨rfl,rfl⟩|⟨rfl,rfl⟩
   ·rw[nS];exact Y2 rfl (stay (.noRow (.inl (e,j,rfl))) ÄW)
   ·rw[fC,"grow"];exact YR Âj (rfl,rfl,.inr (e,j,rfl,.inl ĳ))
   ·rw[fC,"drop"];exact YR Âj (rfl,rfl,.inr (e,j,rfl,.inr ĳ))
 rintro J Y ⟨rfl,rfl,O⟩;have Ce:(∃e∈R,Ú=i/\l = "drop"/\o=.drop i)\/(l ≠ "drop"/\(ÛL\/∃e∈R,Ú=i/\l = "grow"/\o=.grow i ks)):=by
  rcases O with⟨rfl,h2,C⟩|⟨e,j,Z,⟨rfl,C⟩|⟨h2,C⟩⟩
  ·exact .inr (by ac_rfl,.inl (rfl,h2,C))
  ·exact .inr (by ac_rfl,.inr (e,j,Z,rfl,C))
  ·exact .inl (e,j,Z,h2,C)
 rcases Ce with⟨e,j,rfl,rfl,rfl⟩|⟨ir,O⟩
 ·refine Óv;refine(_,rfl,.inr #[rD,Ÿ],_,rfl,m,_,.inr Ú,_,rfl,rfl,Ÿ,UF Áo j,?_);rw[Zpb];refine q "done" _ c _ (.drop j rfl) ((by rw[Zc D.ne];exact ħ,Zb,λx hx=>?_,D.nd.sublist ÎM,D.ne),λb u r _ n2=>by rw[Zc n2];exact r,λx hx=>.inl (x,(ÃS hx).1,rfl));obtain S|W:=Âs x (ÃS hx).1;exact(by rw[Zc (λz=>by rw[z,Ÿ]at S;cases S)];exact S,by rw[Zc (λz=>by rw[z,Ÿ]at W;cases W)];exact W)
 refine(_,rfl,rfl,_,rfl,YR (no ir) ?_);refine(λJ H1=>X4 λ(n:Int) (F:ae) (p:À ak) (g:Nat)=>J=ÛM/\ZD Y H1/\H1 F=U #[ef,p.map]/\Î6<=180/\((l = "row"/\o=.row i ks/\(∀e∈R,Ú≠i)/\n=c/\p=[]/\g=0)\/(l = "grow"/\o=.grow i ks/\∃e∈R,Ú=i/\n=e.n/\p=Ò/\g=e.g)),?_,?_)
 ·rcases O with⟨rfl,h2,C⟩|⟨e,j,rfl,rfl,C⟩
  ·refine(_,rfl,rfl,_,rfl,YR ÁU ?_);refine(_,rfl,d,_,rfl,Ģ (k:=.inr "coming") ħ (HS m c),Ŵ,λF iX=>(υ,λt ht=>?_));have s0:=Zi iX ÁN;have G:=Zi ht (.tup [.int c,.ref F,.int 0]);refine(t,_,rfl,ö Zb,rfl,_,_,rfl,_,_,rfl,_,_,rfl,rfl,c,F,[],0,rfl,s0.trans G,G _ _ Zb,Qs _,.inl (rfl,h2,C,rfl,rfl,rfl))
  ·obtain S|W:=Âs e j;refine(_,rfl,rfl,_,rfl,Y2 rfl (_,rfl,_,rfl,m,_,rfl,Ģ (k:=.inr Ú) Ÿ (UF Áo j),?_));exact(e.t,_,rfl,ö S,rfl,_,_,rfl,_,_,rfl,_,_,rfl,rfl,e.n,e.k,Ò,e.g,rfl,ÉA _,W,(n9 e j).1,.inr (rfl,C,e,j,rfl,rfl,rfl,rfl))
 rintro J H1 ⟨n,F,p,g,rfl,G,iX,h180,O⟩;have D1:=Æk G;refine(λJ H2=>J=ÛM/\ZD H1 H2/\ĝ (p++ks)=true/\(l = "row"->Àh<=15),?_,?_)
 ·refine(_,rfl,_,rfl,F,X,_,_,rfl,rfl,iX,G _ _ mD,ÛN,λe2 j3=>?_);rw[<- Qf];have s2:=Zi j3 Ó9;refine(e2,p++ks,rfl,Zb,(by rw[Qi];have:=cu.1;lia),λH3 s3=>(_,rfl,?_));have wg:=s2.trans s3;cases v:ĝ (p++ks) with
  | false =>
   refine YJ (YJ (stay ?_ (Ëj wg)));rcases O with⟨_,rfl,_,_,rfl,_⟩|⟨_,rfl,e,j,Z,_,rfl,_⟩
   ·exact .noRow #[sd,v]
   ·exact .noGrow (.inr (e,j,Z,v))
  | true =>
   refine Y7 ?_;refine ÓN;rcases O with⟨rfl,rfl,C,_⟩|⟨rfl,rfl,_⟩
   ·have ekl:#[ii,kvA,R]=(Àh:Int):=by unfold kvA;rw[Qa]
    refine Y2 rfl (_,rfl,m,_,rfl,wg _ _ D1.rows,_,_,rfl,rfl,_,rfl,?_);rw[ekl];by_cases uZ:15<Àh
    ·exact Y2 Á (stay (.noRow (.inr (.inr uZ))) (Ëj wg))
    ·exact YR Á (rfl,wg,rfl,λ_=>by lia)
   ·exact YR ÁU (Y7 (rfl,wg,rfl,λz=>È z û))
 rintro J H2 ⟨rfl,s2,v,uZ⟩;have D2:=D1.same s2;have oO:=Ëj s2;have Ab:=s2 _ _ iX;have Ac:=oO _ _ mD;clear G s2 D1 iX;refine(_,rfl,_,rfl,_,rfl,F,X,_,_,rfl,rfl,Ab,Ac,ÛN,λB ic=>(_,rfl,υ,λM ck=>?_));rw[<- Qf]at ck ⊢;have s3:=Zi ic Ó9;have s4:=Zi ck Ôa;have rM:=s4 _ _ (Zb (H:=H2) (a:=B) (o:=.lst ((p++ks).map Å)));have FJ:(upd (upd H2 B Ó9) M Ôa) M=U Ôa:=Zb;have D4:=(D2.same s3).same s4;have vI:=(oO.trans s3).trans s4;generalize upd (upd H2 B (.lst ((p++ks).map Å))) M (.tup [.int n,.ref B,.int (g:Int)])=H4 at rM FJ D4 vI ⊢;have yq:=oO.free ic;clear s3 s4 oO Ab Ac D2 ic ck;obtain⟨N,c',FK,bD,FL,FM,vP⟩:X2 λ(N:À AR) (c':Int)=>YX (kvA R) (.inr i) (.ref M)=kvA N/\Xg R c o "done" N c'/\(if n+1>c then n+1 else c)=c'/\(∀x∈N,x∈R\/(x.t=M/\x.n=n/\x.k=B/\x.ss=p++ks/\x.g=g))/\(N.map (·.nm)).Nodup:=by
  rcases O with⟨Z,rfl,L,rfl,rfl,rfl⟩|⟨_,rfl,e,j,rfl,rfl,rfl,rfl⟩
  ·refine(R++[(i,M,n,B,ks,0)],n+1,?_,.row L v (uZ Z),Æ Á,λx hx=>?_,?_)
   ·rw[U1 _ (HR L)];unfold kvA;rw[Qf];rfl
   ·rcases í hx with hx|hx
    ·exact .inl hx
    ·rw[å hx];exact .inr ÎG
   ·rw[e1,Áo,ha,r,y,hy];have:b=i:=by simpa using r
    rw[this];exact L y hy
  ·refine(_,c,ZsD j rfl M B ks,.grow j rfl v,Ç (by have:=(n9 e j).2;lia),λx hx=>?_,?_)
   ·rw[ed,y,hy,hx];split
    ·exact .inr ÎG
    ·exact .inl hy
   ·have:(ę λx=>if Ψ=Ú then ((Ú,M,e.n,B,Ò++ks,e.g):AR) else x).map (·.nm)=ę (·.nm):=by
     rw[Qo];refine QJ λx _=>?_;rw[73];split
     ·rename_i h;exact h.symm
     ·rfl
    rw[this];exact Áo
 have FN:#[sV,kvA,R]:=by unfold kvA;rw[mQ]
 refine(_,rfl,_,rfl,m,_,rfl,XH.k (k:=.inr i) D4.rows FN,?_);rw[FK];have lE:#[gw,H4,m,kvA,N] d=U (.dK (dkR m c)):=by rw[Zc D.ne];exact D4.at'
 refine(_,rfl,d,_,rfl,Ģ (k:=.inr "coming") lE (HS m c),_,rfl,_,_,rfl,rfl,_,_,rfl,_,rfl,d,_,rfl,XH.k (k:=.inr "coming") lE (by show 2<aq;exact Zs Ë),?_);rw[ZrE,FL];have ą:∀ {b:ae} {u:HO},H4 b=U u->(∀kv,u≠.dK kv)->(upd #[gw,H4,m,kvA,N] d (.dK (dkR m c'))) b=U u:=λ{b u} r hu=>by rw[Zc (λz=>by rw[z,D4.at']at r;cases r;exact hu _ rfl),Zc (λz=>by rw[z,D4.rows]at r;cases r;exact hu _ rfl)];exact r
 refine q "done" N c' _ bD ((Zb,by rw[Zc D.ne.symm];exact Zb,λx hx=>?_,vP,D.ne),λb u r n1 n2=>by rw[Zc n1,Zc n2];exact vI _ _ r,λx hx=>(FM x hx).elim (λh=>.inl (x,h,rfl)) λh=>.inr #[ea,h.2.2.1,yq]);rcases FM x hx with h|⟨e1,e2,e3,e4,e5⟩
 ·obtain S|W:=D4.tup x h;exact(ą S ÇC,ą W ÇC)
 ·rw[e1,e2,e3,e4,e5];exact(ą FJ ÇC,ą rM ÇC)
def Tt(P:ĸ)(x:ZL)(z:ak):Prop:=x∈P/\x.2.1[x.2.2]? = U z/\Win (hdP P) (Z6 P) (U x.1)
inductive TkW (P:ĸ):À Yk->À ZL->Prop
 | nil:TkW P [] P
 | Ŕ {ts:À Yk} {P1:À ZL} {x:ZL} {z:ak}:TkW P ts P1->Tt P1 x z->TkW P (ts++[(x.1,x.2.2,z,)]) (Xi P1 x.1)
theorem XU.tk{P a:ĸ}{b:Â1}{k q:Int}(h:XU P b a k q):TkW P b a:=by
 induction h with
 | nil=>exact .nil
 | Ŕ h s c=>exact .snoc c (s.1,s.2.1,s.2.2.1)
theorem Tt.one{P:ĸ}(nd:ÄY){x y:ZL}{z u:ak}(h:Tt P x z)(g:Tt P y u):x=y/\z=u:=by obtain a|b|c:=h;obtain d|e|f:=g;have i:=Qv (c.one f);have j:=XR nd a d i;subst j;exact(rfl,Qv (b.symm.trans e))
theorem TkW.num{P a:ĸ}{b:Â1}(h:TkW P b a):Z6 a=Z6 P:=by
 induction h with
 | nil=>rfl
 | Ŕ _ _ c=>rw[IL,c]
theorem TkW.one{P:ĸ}(nd:ÄY){c:Â1}{d:ĸ}(h:TkW P c d):∀ {us:À Yk} {b:À ZL},TkW P us b->ĵ=ÀO->c=us/\d=b:=by
 induction h with
 | nil =>
  intro us b g a;cases g with
  | nil=>exact ĳ
  | Ŕ _ _=>rw[Qi,QI]at a;exact È a Ö
 | Ŕ h s e =>
  intro us b g a;cases g with
  | nil=>rw[Qi,QI]at a;exact È a Ö
  | Ŕ f i=>rw[Qi,Qi,QI,QI]at a;obtain j|k:=e f Á;subst j;subst k;obtain l|m:=s.one #[ea,Â2,nd] i;subst l;subst m;exact ĳ
theorem TkW.left{P a:ĸ}{b:Â1}(h:TkW P b a)(nd:ÄY):YL a+Ĥ=YL P:=by
 induction h with
 | nil=>rfl
 | Ŕ h s ih=>have:=ÚL;rw[Qi,QI];lia
def OKs(z:ak):Prop:=∀c∈cds z,c<128
theorem AZ.oks{z:ak}(a:AZ z):OKs z:=λc h=>by have:=a c h;lia
theorem OKs.app{x y:ak}(a:OKs x)(b:OKs y):OKs (x++y):=λc h=>by rw[JW]at h;exact(í h).elim (a c) (b c)
theorem OKs.ok{z:ak}(a:OKs z):Í0 z=true:=by unfold Í0;rw[ÑJ];intro i hi;have:=a Á9[i] Ö;exact ÑF
theorem HP:∀ss:À ak,(∀s∈ss,OKs s)->Âo ÇT=true
 | [],_=>rfl
 | x::r,h=>by simp[Âo,ÁL,(h x Ö).ok,HP r λs a=>h s ÙS]
theorem HN(ss:Ñ)(h:∀s∈ss,OKs s):ÂM (.list ÇT)=true:=by simp[ÂM,ÁL,Âp,HP ss h,Om]
theorem Zwf{s k:ak}(b:AZ s)(hk:AZ k):OKs (thT s k):=by
 have e:OKs (":" : ak):=by intro c a;have:c∈(":" : ak).cps.toList:=a;rw[show (":" : ak).cps.toList=[58] from by ac_rfl]at this;rw[å this];decide
 have d:OKs (kT0 k):=by
  unfold kT0;split
  ·rw[bH];decide
  ·exact hk.oks
 exact(b.oks.app e).app d
theorem HM(ks:Ñ):ÂN (.list (ť Å3)) ÇU=decide (ks=[]):=by
 cases ks with
 | nil=>simp[ÂN,ÊL]
 | Í a r=>simp[ÂN,ÊL]
theorem MX{a s:ak}{ks:Ñ}{o:Od}(h:Wg a s ks o)(hd:a = "drop"->ks=[]):Áh " " (a::[s]++ť kT0)=Àg:=by
 rcases h with⟨rfl,rfl⟩|⟨rfl,rfl⟩|⟨rfl,rfl⟩
 ·rfl
 ·rfl
 ·rw[hd rfl];rfl
theorem HL{b s:ak}{ks:Ñ}{o:Od}(h:Wg b s ks o)(a:NmS s)(hk:KsS ks):OdW o:=by
 rcases h with⟨rfl,rfl⟩|⟨rfl,rfl⟩|⟨rfl,rfl⟩
 ·exact(a,hk)
 ·exact(a,hk)
 ·exact a
def Y1(R:î):À ZL:=ę λe=>(e.n,(Ò,e.g,),)
def nmA(R:î):À (ak×Int):=ę λe=>(Ú,e.n,)
theorem HK{nm:ŷ}(nd:#[nj].Nodup){e:ak×Int}(he:e∈nm):Yt nm e.2=e.1:=by
 unfold Yt;cases a:nm.find? λx=>decide (x.2=e.2) with
 | none=>exact È ÎT (Ûm a e he)
 | some y =>
  have b:=Qau a;have c:y.2=e.2:=by have:=Ín;simpa using this
  rw[UG nd b he c];rfl
def XQ(e:AR)(t:ae)(x:AR):AR:=if Ψ=Ú then (Ú,t,e.n,e.k,Ò,e.g+1) else x
inductive ATk (R:î):À ak->À AR->Prop
 | nil:ATk R [] R
 | Ŕ {R1:À AR} {ws:À ak} {e:AR} {z:ak} {t:ae}:ATk R ws R1->e∈R1->Ò[e.g]? = U z->Win (hdP (Y1 R1)) (Z6 (Y1 R1)) (U e.n)->ATk R (ws++[thT Ú z]) (R1.map (XQ e t))
theorem VS(R:î):Z6 (Y1 R)=ę (·.n):=by unfold Z6 Y1;rw[Qo];rfl
theorem VR(R:î):(nmA R).map Ę=ę (·.n):=by unfold nmA;rw[Qo];rfl
theorem Ve(R:î):(nmA R).map õ=ę (·.nm):=by unfold nmA;rw[Qo];rfl
theorem MW{a:î}{e:AR}{t:ae}(he:e∈a)(nd:(Ń (·.nm)).Nodup):nmA (Ń (XQ e t))=nmA a:=by
 unfold nmA;rw[Qo];refine QJ λx b=>?_;rw[73];unfold XQ;split
 ·rename_i h;rw[zb,c,Ψ,x,y.nm,b];rw[zb,d,Ú,e,y.nm,he];have:=XR ÎK c d h;injection this with _ this;rw[this]
 ·rfl
theorem ZtO{a:î}{e:AR}{t:ae}(he:e∈a)(nd:(Ń (·.nm)).Nodup)(g:(Ń (·.n)).Nodup):Y1 (Ń (XQ e t))=Xi (Y1 a) e.n:=by
 unfold Y1 Xi;rw[Qo,Qo];refine QJ λx d=>?_;rw[73];unfold XQ Wi;by_cases h:Ψ=Ú
 ·rw[zb,b,Ψ,x,y.nm,d];rw[zb,c,Ú,e,y.nm,he];have:=XR ÎK b c h;injection this with _ this;rw[Æ h,Æ (by rw[this]),this]
 ·rw[Ç h,Ç];intro i;rw[zb,b,x.n,x,y.n,d];rw[zb,c,e.n,e,y.n,he];have:=XR #[ea,Qo,g] b c i;injection this with _ this;exact h (by rw[this])
theorem ATk.link{R d:î}{ws:Ñ}(h:ATk R ws d)(nd:Èv)(i:#[qT].Nodup):∃a,TkW (Y1 R) a (Y1 d)/\nmA d=nmA R/\ws=Ń λt=>thT (Yt (nmA R) t.1) t.2.2:=by
 induction h with
 | nil=>exact([],.nil,rfl,rfl)
 | Ŕ h b k hw l =>
  rename_i g ws e z t;obtain a|m|c|n:=l;have j:(ÄO (·.nm)).Nodup:=by rw[<- Ve,c,Ve];exact nd
  have o:(ÄO (·.n)).Nodup:=by rw[<- VR,c,VR];exact i
  have st:Tt (Y1 g) ÄZ z:=(Qd (f:=Ïa) b,k,hw);refine(a++[(e.n,e.g,z,)],?_,by rw[MW b j,c],?_)
  ·rw[ZtO b j o];exact m.snoc st
  ·rw[Qf,Ûc,<- n];have p:(Ú,e.n,)∈nmA R:=by rw[<- c];exact Qd (f:=Î9) b
   have:=HK #[ea,VR,i] p;rw[show Yt (nmA R) e.n=Ú from this]
theorem left_none'{P:ĸ}(nd:ÄY)(h:Win (hdP P) (Z6 P) af):YL P=0:=by
 have b:∀x∈P,x.2.1.length-x.2.2=0:=λx b=>by
  have:=h x.1 (Qd (f:=Æd) b);rw[Nx nd b]at this;cases c:x.2.1[x.2.2]? with
  | none=>have:=List.getElem?_eq_none_iff.mp c;lia
  | some z=>rw[c]at this;cases this
 have g:∀P:À ZL,(∀x∈P,x.2.1.length-x.2.2=0)->YL P=0:=λP=>by
  induction P with
  | nil=>intro _;rfl
  | Í a r d=>intro h;rw[hl,h1,e,d,x,b];unfold YL at e ⊢;rw[Qj,QR];lia
 exact g P b
inductive WU (R:î):Od->ak->À AR->Prop
 | left:WU R .left (Nk ((YL (Y1 R):Nat):Int)) R
 | Ρ:WU R .rows (blT (ę λe=>thO Ú Ò[e.g]?)) R
 | Χ {R':À AR} {n:Nat} {ws:À ak}:ATk R ws R'->(Àb=n\/Àb<=n/\Win (hdP (Y1 R')) (Z6 (Y1 R')) af)->WU R (.take n) (blT ws) R'
theorem WU.link{R s:î}{c:Int}{o:Od}{a b:ak}{S t:DS}(h:WU R o a s)(L:Tu R c S)(ok:SOk S)(g:Yh S o b t):a=b/\Tu s c t:=by
 have d:Y1 R=S.P:=L.P;have l:nmA R=Àc:=L.nm;have nd:Èv:=by rw[<- Ve,l];exact ok.nd
 have j:#[qT].Nodup:=by rw[<- VS,d];exact ok.ndP
 have name:∀e∈R,Yt Àc e.n=Ú:=λe i=>by rw[<- l];exact HK (nm:=nmA R) #[ea,VR,j] (Qd (f:=Î9) i)
 have mem:∀e∈R,(ÄZ:ZL)∈S.P:=λe i=>by rw[<- d];exact Qd (f:=Ïa) i
 cases h with
 | left=>cases g;exact(by rw[d],L)
 | Ρ=>cases g;refine(?_,L);congr 1;unfold Wr;rw[<- d];unfold Y1;rw[Qo];refine QJ λe i=>?_;show _=thO (Yt Àc e.n) Ò[e.g]?;rw[name e i]
 | Χ y m =>
  rename_i n ws;cases g with
  | Χ z g2 =>
   rename_i P P' nb li lo nm A k q;have p:Y1 R=P:=d;have u:nmA R=nm:=l;obtain v|r|w|x:=y.link nd j;have hl:v.length=Àb:=by rw[x,Qa]
   have B:=r.left #[ea,VS,j];rw[p]at r B;have C:v.length=A.length:=by
    rcases m with m|⟨m,D⟩
    ·lia
    ·have:=left_none' (by rw[VS,<- VR,w,VR];exact j) D;lia
   obtain E|F:=r.one ok.ndP z.tk C;refine(by rw[x,E,u],?_,?_,L.c)
   ·exact w.trans u
   ·exact F
inductive WT:À Od->À ak->À AR->Int->Prop
 | nil:WT [] [] [] 0
 | deed {os:À Od} {as:À ak} {R R':À AR} {c c':Int} {o:Od} {a:ak}:WT os as R c->Xg R c o a R' c'->WT (os++[o]) (as++[a]) R' c'
 | ask {os:À Od} {as:À ak} {R R':À AR} {c:Int} {o:Od} {a:ak}:WT os as R c->WU R o a R'->WT (os++[o]) (as++[a]) R' c
theorem WT.len{os:Â3}{b:Ñ}{R:î}{c:Int}(h:WT os b R c):Ĥ=ÀM:=by
 induction h with
 | nil=>rfl
 | deed _ _ a=>rw[Qi,Qi,a];rfl
 | ask _ _ a=>rw[Qi,Qi,a];rfl
theorem WT.link{os:Â3}{n:Ñ}{R:î}{c:Int}(h:WT os n R c):∀ {bs:À ak} {S:DS},VW Ó4 os bs S->n=bs/\Tu R c S:=by
 induction h with
 | nil =>
  intro bs S g;generalize e:([]:À Od)=os at g;cases g with
  | nil=>exact(rfl,rfl,rfl,rfl)
  | Ŕ _ _ _ _=>simp at e
 | deed _ b d =>
  rename_i f i p q r c1 o a _;rw[tM];cases g with
  | nil=>simp at e
  | Ŕ j k _ l=>obtain rfl|rfl:=Je e;rw[j3]
 | ask _ b d =>
  rename_i f i p q r o a _;rw[tM];cases g with
  | nil=>simp at e
  | Ŕ j k _ l=>obtain rfl|rfl:=Je e;rw[j3]
theorem Zpx{s s' x f:ak}{a b:Int}(h:Y4 [.inr s',.inl b,.inr f] [.inr s,.inl a,.inr x]=false):b=a\/Btr (cds s) a (cds s') b:=by
 rw[Ut]at h;by_cases e:#[r4,s']=β s
 ·rw[Æ e,Ut]at h;have g:s'=s:=Åb e;by_cases c:#[s7,b]=Âu a
  ·exact .inl (ÃQ c)
  ·rw[hy,c,h];have d:¬ b<a:=ÂR h;have i:b≠a:=λz=>c (by rw[z]);exact .inr (.inr (by rw[g,JE],by lia))
 ·rw[w8];have d:¬ cds s'<cds s:=ÂR h;rw[Of]at d;have i:=V3 (cds s') (cds s);have h3:ZQ (cds s) (cds s')≠0:=λz=>e (by rw[ZrU (Ol _ _ z)]);exact .inr (.inl Á)
def hdA(e:AR):Ã Äy:=Ò[e.g]?.map λz=>[.inr z,.inl e.n,.inr Ú]
def YI(R:î):À Äy:=R.filterMap hdA
theorem HJ(R:î)(e:AR):YI (R++[e])=YI R++(hdA e).toList:=by unfold YI;rw[List.filterMap_append,Qaz,List.filterMap_nil];cases hdA e<;>rfl
theorem RP{R:î}{k:ς}(h:k∈YI R):∃e∈R,∃z,Ò[e.g]? = U z/\k=ÛO:=by
 rw[sJ,e,b,h,È0,h];unfold hdA at h;cases a:Ò[e.g]? with
 | none=>rw[a]at h;cases h
 | some z=>rw[a]at h;cases h;exact(e,b,z,a,rfl)
theorem HI{R:î}{e:AR}{z:ak}(he:e∈R)(hz:Ò[e.g]? = U z):[.inr z,.inl e.n,.inr Ú]∈YI R:=Qad.mpr (e,he,by unfold hdA;rw[hz];rfl)
theorem HH{R:î}(up:Ä7):#[qT].Nodup:=Ëk (up.imp λh z=>by lia)
theorem RO{R:î}(up:Ä7){e:AR}(he:e∈R):hdP (Y1 R) e.n=(Ò[e.g]?).map cds:=Nx #[fd,VS,HH,up] (x:=ÄZ) (Qd (f:=Ïa) he)
theorem HG{R:î}(up:Ä7){k:ς}(hk:k∈YI R)(hm:∀u∈YI R,Y4 u k=false):∃e∈R,∃z,Ò[e.g]? = U z/\k=ÛO/\Win Ël Ëm (U e.n):=by
 obtain e|d|z|h|rfl:=RP hk;refine(e,d,z,h,rfl,?_,cds z,by rw[RO up d,h];rfl,λb i y c=>?_)
 ·rw[VS];exact Qd (f:=λe:AR=>e.n) d
 ·rw[VS]at i;rw[ed,x,j,i];rw[RO up j]at c;cases g:x.ss[x.g]? with
  | none=>rw[g]at c;cases c
  | some s'=>rw[g]at c;cases c;exact Zpx (hm _ (HI j g))
theorem HF{R:î}(up:Ä7)(h:YI R=[]):Win Ël Ëm af:=λn c=>by
 rw[VS]at c;rw[ed,x,d,c];rw[RO up d];cases e:x.ss[x.g]? with
 | none=>rfl
 | some z=>have:=HI d e;rw[h]at this;cases this
structure ABd (R:î) (c:Int) (i:Nat):Prop where
 few:Àh<=16
 n:∀e∈R,0<=e.n/\e.n<c
 c0:0<=c
 c:c<=(i:Int)
 len:∀e∈R,Į<=5*i/\e.g<=Į
 key:∀e∈R,∀s∈Ò,ŧ<=40/\AZ s
 nmz:∀e∈R,NmS Ú
 up:R.Pairwise λa b=>a.n<b.n
 nd:#[cm].Nodup
theorem HE{R:î}(nd:Èv){x e:AR}(hx:x∈R)(he:e∈R)(h:Ψ=Ú):x=e:=by have a:(Ψ,x,)∈ę λy=>(y.nm,y,):=#[fB,y.nm,hx];have b:(Ú,e,)∈ę λy=>(y.nm,y,):=#[fB,y.nm,he];have:=XR ÎK a b h;injection this
theorem ABd.mono{R:î}{c:Int}{i:Nat}(h:ÃP):ABd R c (i+1):=(ÁQ,h.n,h.c0,by have:=h.c;lia,λe he=>by have:=ÀJ e he;lia,ÄX,ÁT,h.up,h.nd)
theorem ABd.step{R v:î}{c w:Int}{i:Nat}{o:Od}{a:ak}(h:ÃP)(hw:OdW o)(g:Xg R c o a v w):ABd v w (i+1):=by
 have z:=h.c0;have ci:=h.c;cases g with
 | Æg _=>exact h.mono
 | Æh _=>exact h.mono
 | Æi _=>exact h.mono
 | row f p C =>
  rename_i s ks t k;rw[ep,q,j,hw];refine(by rw[Qi,QI];lia,λe he=>?_,by lia,by lia,λe he=>?_,λe he=>?_,λe he=>?_,ÚR (h.up,QaE ..,λa l b n=>?_),?_)
  ·rcases í he with he|he
   ·have:=h.n e he;lia
   ·rw[å he];show 0<=c/\c<c+1;lia
  ·rcases í he with he|he
   ·have:=ÀJ e he;lia
   ·rw[å he];have:=j.1;show Àu<=_/\0<=Àu;lia
  ·rcases í he with he|he
   ·exact ÄX e he
   ·rw[å he];exact j.2
  ·rcases í he with he|he
   ·exact ÁT e he
   ·rw[å he];exact q
  ·rw[å n];exact(h.n a l).2
  ·rw[e1,h.nd,l,n,y,r];have:b=s:=by simpa using n
   rw[this];exact f y r
 | Υ f p C =>
  rename_i s ks e t k;rw[ep,q,j,hw];have m:∀x∈ę (λx=>if Ψ=s then ((s,t,e.n,k,Ò++ks,e.g):AR) else x),x∈R\/x=(s,t,e.n,k,Ò++ks,e.g):=λx d=>by
   rw[ed,y,r,d];split
   ·exact Át
   ·exact .inl r
  refine(by rw[Qa];exact ÁQ,λx d=>?_,z,by lia,λx d=>?_,λx d=>?_,λx d=>?_,?_,?_)
  ·rcases m x d with d|rfl
   ·exact h.n x d
   ·exact h.n e f
  ·rcases m x d with d|rfl
   ·have:=ÀJ x d;lia
   ·have:=ÀJ e f;have:=j.1;show (Ò++ks).length<=_/\e.g<=(Èh).length;rw[Qi];lia
  ·rcases m x d with d|rfl
   ·exact ÄX x d
   ·intro A hs';rcases í hs' with hs'|hs'
    ·exact ÄX e f A hs'
    ·exact j.2 A hs'
  ·rcases m x d with d|rfl
   ·exact ÁT x d
   ·exact q
  ·have B:∀x∈R,(if Ψ=s then (ÛP:AR) else x).n=x.n:=λx d=>by
    split
    ·rename_i u;rw[HE h.nd d f (u.trans p.symm)]
    ·rfl
   refine Ëk (h.up.imp_of_mem λl n D=>?_);rw[B _ l,B _ n];exact D
  ·rw[show (ę λx=>if Ψ=s then (ÛP:AR) else x).map (·.nm)=ę (·.nm) from ?_]
   ·exact h.nd
   ·rw[Qo];refine QJ λx _=>?_;rw[73];split
    ·rename_i u;exact u.symm
    ·rfl
 | Φ f p=>exact(Qk (QaR _ _) ÁQ,λe he=>h.n e #[w0].1,z,by lia,λe he=>by have:=ÀJ e #[w0].1;lia,λe he=>ÄX e #[w0].1,λe he=>ÁT e #[w0].1,h.up.sublist QaB,h.nd.sublist (List.filter_sublist.map _))
theorem ABd.out{R:î}{c:Int}{i:Nat}(h:ÃP){e:AR}{z:ak}{t:ae}(he:e∈R)(hz:Ò[e.g]? = U z):ABd Ën c i:=by
 have hg:=(Ł hz).1;have m:∀x∈ę (XQ e t),x∈R\/x=(Ú,t,e.n,e.k,Ò,e.g+1):=λx a=>by
  rw[ed,y,f,a];unfold XQ;split
  ·exact Át
  ·exact .inl f
 have b:=MW (t:=t) he h.nd;refine(by rw[Qa];exact ÁQ,λx a=>?_,h.c0,h.c,λx a=>?_,λx a=>?_,λx a=>?_,?_,by rw[<- Ve,b,Ve];exact h.nd)
 ·rcases m x a with a|rfl
  ·exact h.n x a
  ·exact h.n e he
 ·rcases m x a with a|rfl
  ·exact ÀJ x a
  ·have:=ÀJ e he;show Į<=_/\e.g+1<=Į;lia
 ·rcases m x a with a|rfl
  ·exact ÄX x a
  ·exact ÄX e he
 ·rcases m x a with a|rfl
  ·exact ÁT x a
  ·exact ÁT e he
 ·have:=VR Ën;rw[b,VR]at this;have d:#[qT].Pairwise (·<·):=Ëk h.up;rw[this]at d;exact List.pairwise_map.mp d
theorem ABd.tk{R a:î}{c:Int}{i:Nat}{ws:Ñ}(h:ÃP)(g:ATk R ws a):ABd a c i:=by
 induction g with
 | nil=>exact h
 | Ŕ _ b d _ e=>exact e.out b d
theorem WU.bd{R b:î}{c:Int}{i:Nat}{o:Od}{a:ak}(h:ÃP)(g:WU R o a b):ABd b c i:=by
 cases g with
 | Χ g _=>exact h.tk g
 | _=>exact h
def RN:Sp:=λvs H Q _=>X5 λ(d rd:ae) (R:À AR) (c:Int) (i:Nat)=>vs=[.ref d]/\Ys H d rd R c/\ABd R c i/\i<=40 /\
 ∀ (l:ae) (b:Xv) (a:Hp),H l=af->a l=U #[sr,b]->AtT a b->Âg Ę=YI R->ZD H a->Q Ă a
theorem Zly(T:Ù):Df P w K mg Â 1 "_law_heads" ÁJ RN:=by
 rw[d4,T.t_l_heads.df,UU,vs,W];obtain d|a|R|c|i|rfl|D|B|hi|q:=h;refine(_,#[Zf,#[gR,1,UU.nd],#[Zf,(@ZrA _ _ _ #[XT,Ο,(@K6 _ _ _ _ #[fj,W]),#[rT,2,UU.nd],#[Zf,#[YB,#[ZC,(ixG W),#[fj,W],‹2›],#[d6,3,UU.nd,4,5]],#[Zg,#[ZN,#[Zn,WG,‹5›,#[Zp,(Yj K),É,ÁP,Qy,#[Zd,‹4›]],ă],#[Zg,#[ZI,#[YQ,QB,QC,QD,ZY,‹1›,#[Zd,#[YG,#[Zd,#[rA,ω,4,5],‹3›,‹2›]]]]]],ò]]]]),#[fe,1]]],Ŵ,λl I=>?_);have X:=Zi I ÁN;have N:#[e8,H,l] l=U (.lst (YN [])):=Zb;have j:=Æk X;generalize upd H l (.lst [])=J at X N j ⊢;have O:l≠a:=λz=>by have:=ÁR;rw[<- z,N]at this;cases this
 refine(a,_,ÁR,ŭ,_,rfl,d,_,rfl,Ģ (k:=Ä6) j.at' (VT a c),a,_,rfl,ÁR,λo=>?_);have Y:#[hZ,J,a]:=λb u m n=>by rw[Zc n];exact m
 rw[eH,iK,J,a,Èx];generalize upd J a (.frz o (.dK (kvA R)))=Hz at Y iK ⊢;refine Zq7 (λi Z C=>(X4 λv2 v3 v4 v5:Ã V=>Z=[U Τ,U Ă,v2,v3,v4,v5])/\(∃p:Xv,C l=U #[sr,p]/\AtT C p/\p.map Ę=YI (Èy i)/\Î6<=i)/\C a=U Èx/\∀b u,J b=U u->b≠a->b≠l->C b=U u) ((af,af,af,af,rfl),([],Y _ _ N O,λt g=>(by cases g),rfl,Qg _),iK,λb u m n _=>Y b u m n) (λ_ _ _ h=>h.2.2.1) ?_ ?_
 ·rintro i ky x Z C F ⟨⟨v2,v3,v4,v5,rfl⟩,⟨p,r,G,L,bf⟩,v,y⟩;rw[hY,kvA,F];cases M:R[i]? with
  | none=>rw[M]at F;cases F
  | some e =>
  rw[rZ,M,F,hm];obtain g|hk:=j.tup e hm;have nt:e.t≠a/\e.t≠l:=(λz=>(by rw[z,ÁR]at g;cases g),λz=>(by rw[z,N]at g;cases g));have nk:e.k≠a/\e.k≠l:=(λz=>(by rw[z,ÁR]at hk;cases hk),λz=>(by have:=Âs e hm;rw[z,I]at this;exact È this.2 Ö));have nd:d≠l:=λz=>(by have:=ħ;rw[z,I]at this;cases this);have ck:=y _ _ g nt.1 nt.2;have ic:=y _ _ hk nk.1 nk.2;have gI:=y _ _ j.at' j.ne nd;have Ŕ:Èy (i+1)=Èy i++[e]:=by rw[QH,M];rfl
  refine(_,rfl,d,_,rfl,Ģ (k:=Ä6) gI (VT a c),_,rfl,a,_,rfl,Z9.fz (k:=.inr Ú) v (UF Áo hm),e.t,_,rfl,ö ck,rfl,_,_,rfl,_,_,rfl,_,_,rfl,rfl,?_);have kR:(e.ss.map Å).length=Į:=Qa ..;refine(_,rfl,_,rfl,e.k,_,rfl,.inl (Ï ic),_,_,rfl,rfl,_,rfl,?_);rw[kR];by_cases hg:e.g<Į
  ·refine Y2 Á ?_;have hz:Ò[e.g]? = U Ò[e.g]:=Qb hg;refine(_,rfl,.inl #[es,r],_,rfl,_,rfl,e.k,_,_,_,rfl,rfl,Ï ic,XZ (by rw[Qp,hz];rfl),_,rfl,_,rfl,υ,λt g=>?_);have st:=Zi g (.tup [.str Ò[e.g],.int e.n,.str Ú]);have ntl:t≠l:=λz=>by rw[z,r]at g;cases g
   have ntr:t≠a:=λz=>by rw[z,v]at g;cases g
   refine(l,_,_,rfl,rfl,st _ _ r,?_,Ó5,(p++[(t,[.inr Ò[e.g],.inl e.n,.inr Ú],)],?_,λu hu=>?_,?_,?_),?_,λb u m n1 n2=>?_)
   ·have:Î6<=16:=by have:=Â5;lia
    unfold YN;rw[mQ]
   ·rw[Zb];unfold YN;rw[Qf];rfl
   ·rcases í hu with hu|hu
    ·rw[Zc (λz=>by have:=G u hu;rw[z,r]at this;cases this)];exact st _ _ (G u hu)
    ·rw[å hu];rw[Zc ntl];exact Zb
   ·rw[Qf,L,Ŕ,HJ];unfold hdA;rw[hz];rfl
   ·rw[Qi,QI];lia
   ·rw[Zc (λz=>O Ãs)];exact st _ _ v
   ·rw[Zc n2];exact st _ _ (y b u m n1 n2)
  ·refine YR Á ((_,_,_,_,rfl),(p,r,G,?_,by lia),v,y);rw[L,Ŕ,HJ];unfold hdA;rw[QW Á];exact(Qab _).symm
 ·rintro Z C ⟨⟨v2,v3,v4,v5,rfl⟩,⟨p,r,G,L,bf⟩,v,y⟩;rw[gX,aW,L];refine(o,v,_,rfl,?_);have Br:=O;refine q l p _ I #[hP,O,r] (λu hu=>by rw[Zc (λz=>by have:=G u hu;rw[z,v]at this;cases this)];exact G u hu) L λb u m=>?_;by_cases S:b=a
  ·rw[zp,S,m]
  ·rw[Zc S];exact y b u (X b u m) S (Ze m I)
theorem HD:∀L:À (À Key),(∀k∈L,X3 λz n s=>k=Ïc/\AZ z/\AZ s)->Âo Æs=true/\ÁM Æs<=1
 | [],_=>(rfl,by simp[ÁM])
 | k::r,h=>by obtain a|b:=#[sD,HD,x,hx];obtain z|n|s|rfl|d|e:=h k Ö;have c:tD Ïc=.tuple [.str z,.int n,.str s]:=rfl;refine(by simp[Âo,ÁL,c,d.ok,e.ok,a],?_);rw[Qj,c];simp only[ÁM,Âp];lia
theorem HC(L:À Äy)(h:#[r7,k,L,k]):ÂM (.list Æs)=true:=by obtain a|b:=HD L h;simp[ÂM,ÁL,Âp,a];lia
theorem MV(L:À Äy):ÂN (.list Æs) ÇU=decide (L=[]):=by
 cases L with
 | nil=>simp[ÂN,ÊL]
 | Í a r=>simp[ÂN,ÊL]
theorem RM{R:î}{c:Int}{i:Nat}(B:ÃP):∀k∈YI R,X3 λz n s=>k=Ïc/\AZ z/\AZ s:=λk hk=>by obtain e|a|z|b|rfl:=RP hk;exact(z,e.n,Ú,rfl,(B.key e a z (Qr b)).2,(Æo e a).1)
def MU:Sp:=λvs H Q _=>X5 λ(d rd:ae) (R:À AR) (c:Int) (i:Nat)=>vs=[.ref d]/\Ys H d rd R c/\ABd R c i/\i<=40 /\
 (∀a,Win Ël Ëm af->ZD H a->Q (.str "-") a)/\∀ (e:AR) (z:ak) a,e∈R->Ò[e.g]? = U z->Win Ël Ëm (U e.n)->ZD H a->Q (.str (thT Ú z)) a
theorem Zpf(T:Ù)(O:Ôb)(S:ÓQ):Df P w K mg Â 2 "_law_coming" ÁJ MU:=by
 rw[d4,T.t_l_coming.df,T6,V,k];obtain d|v|R|c|i|rfl|D|B|X|Y|q:=h;refine(_,#[Zf,#[Zx,1,T6.nd,á,#[sy,O,k]],#[Zf,#[ZN,#[fD,eqD,k,1],Èj,ò],#[Zf,#[YB,#[Zp,(Lh K k),É,ÎD,ÎE,Áj],#[d6,2,T6.nd,3,4]],#[Zg,#[Zm,#[ZR,U8,#[ZR,U8,‹4›,Ý],#[ZA,S,k,ÄU,É]]]]]]],_,rfl,d,v,R,c,i,rfl,D,B,X,λl b y hl C F g Z=>?_);have Ch:(Âg λt=>tD t.2)=(YI R).map tD:=by rw[<- g,Qo];rfl
 rw[fw,G,ix,j];refine(.list ((YI R).map tD),.list [],.lst (Ï (j _ _ C)) #[so,Ch,b,a,j,F],.lst ÊK .nil,HC _ (RM B),û,_,rfl,?_);have I:=j _ _ C;have o:AtT #[e8,y,G] b:=λt a=>j _ _ (F t a);have p:=Z.trans j;generalize upd y G (.lst [])=J at I o p ⊢;rw[Ç (by exact Qu),MV];by_cases m:YI R=[]
 ·exact Y2 m (Y J (HF B.up m) p)
 ·have tT:#[r7,t,b,t.2]:=λt a=>RM B t.2 (by rw[<- g];exact #[gd,a]);refine YR m (_,rfl,l,b,[false,true,false],rfl,Ï I,o,(λz=>m (by rw[<- g,z];rfl)),λt a=>?_,λt a lh=>?_)
  ·obtain z|n|s|e2|_:=tT t a;rw[e2];rfl
  ·have hk:t.2∈YI R:=by rw[<- g];exact #[gd,a]
   have hm:∀u∈YI R,Y4 u t.2=false:=λu L=>by rw[<- g]at L;rw[ed,x,hx,L];exact lh x hx
   obtain e|r|z|M|ek|W:=HG B.up hk hm;have N:=o t a;rw[ek]at N;have kz:=B.key e r z (Qr M);have nz:=(Æo e r).2.2;rw[fm,t.1,N];have wf:Èk:=by ac_rfl
   have k1:(kT0 z).length<=41:=by
    unfold kT0;split
    ·ac_rfl
    ·lia
   exact(_,rfl,Ú, ":",rfl,rfl,Ĩ Á,_,rfl,z,rfl,Ú ++ ":",kT0 z,rfl,rfl,Ĩ #[eO,QM],q e z J r M W p)
theorem Zsk{R:î}{e:AR}(he:e∈R)(t:ae):YX (kvA R) Ïb ÁO=kvA Ën:=by
 unfold YX;rw[Æ]
 ·unfold kvA;rw[Qo,Qo];refine QJ λx hx=>?_;rw[73];unfold XQ;by_cases h:Ψ=Ú
  ·rw[Æ ÊQ,Æ h];show (#[r4,Ψ],ú t,)=(.inr Ú,.ref t,);rw[h]
  ·rw[xI]
 ·exact Ç3 (_,Qd (f:=Ó8) he,Ĉ rfl)
theorem Ys.out{H a:Hp}{d rd:ae}{R:î}{c:Int}{e:AR}{t:ae}(D:Ys H d rd R c)(he:e∈R)(ht:a t=U (.tup [.int e.n,.ref e.k,.int #[fI,e.g]]))(k:#[e5,u,H,rd,a])(hr:a rd=U (.dK (kvA Ën))):Ys a d rd Ën c:=by
 have g:∀ {b:ae} {u:HO},H b=U u->(∀i,u≠.dK i)->b≠rd:=λh j z=>by rw[z,Ÿ]at h;cases h;exact j _ rfl
 refine(k _ _ ħ D.ne,hr,λx l=>?_,by rw[<- Ve,MW he Áo,Ve];exact Áo,D.ne);rw[ed,y,f,l];unfold XQ;split
 ·exact(ht,k _ _ #[we].2 (g #[we].2 λ_ z=>by cases z))
 ·exact(k _ _ #[yt].1 (g #[yt].1 λ_ z=>by cases z),k _ _ #[yt].2 (g #[yt].2 λ_ z=>by cases z))
theorem HB{R:î}(up:Ä7)(hw:Win Ël Ëm af):YI R=[]:=List.eq_nil_iff_forall_not_mem.mpr λk hk=>by obtain e|c|z|d|_:=RP hk;have:=hw e.n (by rw[VS];exact Qd (f:=λe:AR=>e.n) c);rw[RO up c,d]at this;cases this
theorem Zwg{R:î}(up:Ä7){x e:AR}(hx:x∈R)(he:e∈R)(h:x.n=e.n):x=e:=by have c:(x.n,x,)∈ę λy=>(y.n,y,):=#[fB,y.n,hx];have d:(e.n,e,)∈ę λy=>(y.n,y,):=#[fB,y.n,he];have:=XR #[fd,Qo,HH,up] c d h;injection this
theorem HA{s z:ak}(h1:Î0)(h2:ŗ<=40):(thT s z).length<=50:=by
 have wf:Èk:=by ac_rfl
 have k1:(kT0 z).length<=41:=by
  unfold kT0;split
  ·ac_rfl
  ·lia
 unfold thT;rw[QM,QM];lia
def Hy:Sp:=λvs H Q _=>X6 λ(d rd:ae) (R:À AR) (c:Int) (i m:Nat)=>vs=[.ref d,.int (m:Int)]/\Ys H d rd R c/\ABd R c i/\i<=40/\m<=400 /\
 ∀ (ws:À ak) (a:À AR) (e:Hp),ATk R ws a->(Àb=m\/Àb<=m/\Win (hdP (Y1 a)) (Z6 (Y1 a)) af)->Ys e d rd a c->#[ew,u,rd,e]->(∀x∈ws,ċ<=50)->Q (.str (blT ws)) e
theorem ZlZ(T:Ù)(cP:Ôb)(dW:ÛQ):Df P w K mg Â 3 "_law_taken" ÍV Hy:=by
 rw[d4,T.t_l_taken.df,V5,vs,J];obtain d|F|R|c|i|m|rfl|D|B|hi|hm|q:=h;refine(_,#[Zf,#[gR,2,V5.nd],#[Zf,#[XT,Ο,#[VN,Å2,Áj],#[rT,3,V5.nd],#[Zf,#[Zx,4,V5.nd,á,#[sy,cP,J]],#[Zg,#[ZN,#[fD,neD,J,4],#[Zf,#[ZI,#[YQ,QB,QC,QD,ZY,‹2›,#[Zd,#[sy,dW,J]]]],#[Zf,#[Zx,5,V5.nd,á,#[ZC,(ixT K),#[Zp,(Lh K J),É,ÎD,ÎE,#[Zd,‹4›]],Þ]],#[Zf,#[YB,#[ZC,(ixG J),#[fj,J],‹5›],#[d6,6,V5.nd,7,8]],#[Zg,#[YB,#[YG,#[Zd,‹6›,‹7›,#[rJ,Xb,8]]],#[Xo,#[fj,J],‹5›,(Wz J)]]]]]],ò]]]],#[Zg,#[Zm,#[Z0,#[fD,neD,J,2],#[yW,ÄU],Ý]]]]],Ŵ,λl hl=>?_);rw[gH,s1,hl,cB,H,l];have D1:=Æk s1;generalize upd H l (.lst [])=H1 at s1 cB D1 ⊢;have nl:l≠F:=λz=>by have:=D1.rows;rw[<- z,cB]at this;cases this
 have nd:d≠l:=λz=>by have:=ħ;rw[gC,hl]
 refine(_,rfl,_,rfl,by lia,by lia,?_);refine UB (λj σ L=>(X6 λv3 v4 v5 v6 v7 v8:Ã V=>σ=[U Τ,U (.int (m:Int)),U Ă,v3,v4,v5,v6,v7,v8])/\X2 λ(ws:À ak) (p:À AR)=>ATk R ws p/\L l=U #[ef,Âl]/\Ys L d F p c/\(Àb=j\/Àb<=j/\Win (hdP (Y1 p)) (Z6 (Y1 p)) af)/\(∀x∈ws,ċ<=50/\OKs x)/\(∀x∈p,x.k≠l)/\∀b u,H1 b=U u->b≠F->b≠l->L b=U u) ((af,af,af,af,af,af,rfl),[],R,.nil,cB,D1,.inl rfl,λx h=>(by cases h),λx hx z=>(by have:=(Âs x hx).2;rw[z,hl]at this;cases this),λb u o _ _=>o) ?_ ?_
 ·rintro j σ L hj ⟨⟨v3,v4,v5,v6,v7,v8,rfl⟩,ws,p,fO,bN,D2,hw,v,wj,k2⟩;have G:=B.tk fO;refine(_,rfl,d,F,p,c,i,rfl,D2,G,hi,λvn Z H3 hn3 u6 bO bM s3=>?_);have Ch:(Z.map λt=>tD t.2)=(YI p).map tD:=by rw[<- bM,Qo];rfl
  rw[fw,e1,ix,s4];refine(.list ((YI p).map tD),.list [],.lst (Ï (s4 _ _ u6)) #[so,Ch,Z,C,s4,bO],.lst ÊK .nil,HC _ (RM G),û,_,rfl,?_);have FR:=s4 _ _ u6;have lG:AtT #[e8,H3,e1] Z:=λt C=>s4 _ _ (bO t C);have wk:=s3.trans s4;generalize upd H3 e1 (.lst [])=H4 at FR lG wk ⊢;clear s3 s4 bO u6 ix;rw[Æ rfl,MV];have jx:=wk _ _ bN;have D4:=D2.same wk;by_cases gS:YI p=[]
  ·rw[Ĉ gS];refine Y7 ((_,_,_,_,_,_,rfl),ws,p,fO,jx,D4,   .inr (by lia,HF G.up gS),v,wj,λb u o N O=>wk _ _ (k2 b u o N O))
  ·rw[ē gS];have FS:Àb=j:=by
    rcases hw with hw|⟨_,hw⟩
    ·exact hw
    ·exact È (HB G.up hw) gS
   refine YJ (_,rfl,.inl #[es,jx],_,rfl,d,F,p,c,i,rfl,D4,G,hi,λI hW S=>?_,λe z I M hz W S=>?_)
   ·exact È (HB G.up hW) gS
   ·have lF:=S _ _ jx;have FT:∀ {b:ae} {u:HO},I b=U u->(∀zs,u≠.lst zs)->b≠l:=λo hu z=>by rw[z,lF]at o;cases o;exact hu _ rfl
    rw[hc,l,lF,FS];have X:=D4.same S;have k6:#[e5,u,I,l,Èz]:=λb u o n=>by rw[Zc n];exact o
    have qi:Èz l=U (.lst ((ws++[thT Ú z]).map Å)):=by rw[Zb,Qf];rfl
    have FU:vn≠l:=(Ze bN hn3).symm;have D6:Ys Èz d F p c:=by have yB:∀ {b:ae} {u:HO},I b=U u->b≠l->Èz b=U u:=λ{b u} o n=>k6 b u o n;exact(yB X.at' nd,yB X.rows (λY=>nl Y.symm),λx hx=>(yB (X.tup x hx).1 (FT (X.tup x hx).1 λ_ Y=>by cases Y),yB (X.tup x hx).2 (wj x hx)),X.nd,X.ne)
    have FW:=k6 _ _ (S _ _ FR) FU;have wl:AtT Èz Z:=λt C=>k6 _ _ (S _ _ (lG t C)) (FT (S _ _ (lG t C)) λ_ Y=>by cases Y);have FX:#[e5,u,L,l,Èz]:=λb u o n=>k6 b u (S _ _ (wk _ _ o)) n;generalize upd I l (.lst (Âl Å++[Å (thT Ú z)]))=H6 at k6 qi D6 FW wl FX ⊢;have tT:#[r7,t,Z,t.2]:=λt C=>RM G t.2 (by rw[<- bM];exact #[gd,C]);refine(_,rfl,vn,Z,[false,true,false],rfl,Ï FW,wl,(λz=>gS (by rw[<- bM,z];rfl)),λt C=>?_,λt C lh=>?_)
    ·obtain z|n|s|e2|_:=tT t C;rw[e2];rfl
    ·have hk:t.2∈YI p:=by rw[<- bM];exact #[gd,C]
     have gs:∀u∈YI p,Y4 u t.2=false:=λu hu=>by rw[<- bM]at hu;rw[ed,x,hx,hu];exact lh x hx
     obtain g|gH|z'|ml|ek|W':=HG G.up hk gs;have:=Zwg G.up gH M (Qv (W'.one W));subst this;have oY:=wl t C;rw[ek]at oY;refine(t.1,_,_,_,rfl,rfl,ö oY,rfl,?_);obtain fj|io:=D6.tup g M;refine(_,rfl,d,_,rfl,Ģ (k:=Ä6) D6.at' (VT F c),_,rfl,F,_,rfl,Ģ (k:=.inr g.nm) D6.rows (UF D6.nd M),g.t,_,rfl,ö fj,rfl,_,_,rfl,_,_,rfl,_,_,rfl,rfl,_,rfl,_,rfl,_,rfl,_,_,rfl,rfl,υ,λt2 ck=>?_);have cX:=Zi ck Ôc;have D7:=D6.same cX;have FY:∀b u,L b=U u->b≠l->(upd H6 t2 Ôc) b=U u:=λb u o n=>cX _ _ (FX b u o n);have tU:=cX _ _ qi;have tM:(upd H6 t2 Ôc) t2=U (.tup [.int g.n,.ref g.k,.int #[fI,g.g]]):=Zb;generalize upd H6 t2 (.tup [.int g.n,.ref g.k,.int ((g.g:Int)+1)])=H7 at D7 FY tU tM ⊢;have hsz:#[sV,kvA,p]:=by unfold kvA;rw[Qa];have:=G.few;exact ÀY
     refine(_,rfl,d,_,rfl,Ģ (k:=Ä6) D7.at' (VT F c),_,rfl,F,_,rfl,XH.k (k:=.inr g.nm) D7.rows hsz,(_,_,_,_,_,_,rfl),ws++[thT g.nm z],p.map (XQ g t2),fO.snoc M hz W,?_,?_,.inl (by rw[Qi,FS];rfl),λx hx=>?_,λx hx=>?_,λb u o N O=>?_)
     ·rw[Zc nl];exact tU
     ·rw[Zsk M];exact D7.out M (by rw[Zc (λY=>by rw[Y,D7.rows]at tM;cases tM)];exact tM) (λb u o n=>by rw[Zc n];exact o) Zb
     ·rcases í hx with hx|hx
      ·exact v x hx
      ·rw[å hx];have N:=G.nmz g M;have O:=G.key g M z (Qr hz);exact(HA N.2.2 O.1,Zwf N.1 O.2)
     ·rw[ed,y,hy,hx];unfold XQ;split
      ·exact wj g M
      ·exact wj y hy
     ·rw[Zc N];exact FY _ _ (k2 b u o N O) O
 ·rintro σ L ⟨⟨v3,v4,v5,v6,v7,v8,rfl⟩,ws,p,fO,bN,D2,hw,v,wj,k2⟩;rw[ÉJ]at hw;have tj:Àb<=m:=by rcases hw with hw|hw<;>lia
  have Ci:Ê9:=by ac_rfl
  have Cj:ÛR:=λl=>by
   induction l with
   | nil=>intro _;exact Qg _
   | Í a r ih=>intro h;rw[wr];lia
  have hs:=Cj ws λx hx=>(v x hx).1;rw[fw,z,hz,sz];refine(.list (Âl Å3),.list [],.lst (Ï (sz _ _ bN)) (Sk ws),.lst ÊK .nil,HN ws λx hx=>(v x hx).2,û,_,rfl,?_);rw[Æ rfl,HM];have fD:=sz _ _ bN;have D3:=D2.same sz;have k3:∀b u,H b=U u->b≠F->#[e8,L,z] b=U u:=λb u o n=>sz _ _ (k2 b u (s1 _ _ o) n (Ze o hl));generalize upd L z (.lst [])=H3 at fD D3 k3 ⊢;have q':=q ws p H3 fO hw D3 k3 λx hx=>(v x hx).1;unfold blT at q';by_cases hn:ws=[]
  ·rw[Ĉ hn];rw[sC,hn,q'];exact Y7 q'
  ·rw[ē hn];rw[hy,hn,q'];exact YJ (rfl,_,rfl,_,l,ws,rfl,rfl,Ï fD,#[eO,Ci],q')
theorem Hw:∀k:À Key,(∀s:ak,β s∈k->AZ s)->Âo (k.map VZ)=true/\ÁM (k.map VZ)=0
 | [],_=>(rfl,by simp[ÁM])
 | x::r,h=>by
  obtain a|b:=#[sD,Hw,s,c];cases x with
  | inl i=>exact(by simp[Âo,ÁL,VZ,a],by simp[ÁM,Âp,VZ,b])
  | inr s=>exact(by simp[Âo,ÁL,VZ,(h s Ö).ok,a],by simp[ÁM,Âp,VZ,b])
theorem Hv:∀L:À (À Key),(∀k∈L,∀s:ak,β s∈k->AZ s)->Âo Æs=true/\ÁM Æs<=1
 | [],_=>(rfl,by simp[ÁM])
 | k::r,h=>by obtain a|b:=#[sD,Hv,x,hx];obtain c|d:=Hw k (h k Ö);refine(by simp[Âo,ÁL,tD,a,c],?_);rw[Qj];unfold tD at b ⊢;simp only[ÁM,Âp]at b ⊢;lia
theorem Zpd(L:À Äy)(h:∀k∈L,∀s:ak,β s∈k->AZ s):ÂM (.list Æs)=true:=by obtain a|b:=Hv L h;simp[ÂM,ÁL,Âp,a];lia
def nkA(e:AR):À Key:=[.inl e.n,.inr Ú]
theorem Zsl{R:î}(up:Ä7):(ÛS).Pairwise λa b=>Y4 b a=false:=Ëk (up.imp λ{a b} h=>by unfold nkA;rw[Ut,Ç (λz=>by have:=ÃQ z;lia)];exact Çb)
theorem ZuT{R:î}{ks:À Äy}(up:Ä7)(p:ks.Perm ÛS)(h:ks.Pairwise λa b=>Y4 b a=false):ks=ę nkA:=List.Perm.eq_of_pairwise (λa b _ _ h1 h2=>S6 _ _ h2 h1) h (Zsl up) p
def W5(R:î):À ÁH:=R.filterMap λe=>Ò[e.g]?.map λz=>(.inr Ú,.str (kT0 z),)
theorem Zp9(R:î):∀k∈(W5 R).map (·.1),∃e∈R,k=.inr Ú:=λk hk=>by
 rw[ed,p,b,hk];rw[sJ,e,c,h,È0,b];cases a:Ò[e.g]? with
 | none=>rw[a]at h;cases h
 | some z=>rw[a]at h;cases h;exact(e,c,rfl)
theorem MT:∀ {R:À AR},#[cm].Nodup->((W5 R).map õ).Nodup
 | [],_=>.nil
 | e::r,h=>by
  rw[Qj,QS]at h;have ih:=MT h.2;unfold W5 at ih ⊢;rw[Qaz];cases hz:Ò[e.g]? with
  | none=>exact ih
  | some z=>refine QS.mpr (λm=>?_,ih);obtain x|a|z:=Zp9 r _ m;exact h.1 (by rw[Åb z];exact Qd (f:=λe:AR=>Ú) a)
theorem ZrD{R:î}(nd:Èv){e:AR}(he:e∈R):Y5 (W5 R) Ïb=(Ò[e.g]?).map λz=>Å (kT0 z):=by
 cases b:Ò[e.g]? with
 | some z=>exact Vz (MT nd) (Qad.mpr (e,he,by rw[b];rfl))
 | none =>
  cases c:Y5 (W5 R) (.inr Ú) with
  | none=>rfl
  | some v =>
   obtain x|d|h:=È0 (VA c);cases a:x.ss[x.g]? with
   | none=>rw[a]at h;cases h
   | some z=>rw[a]at h;injection h with h;injection h with h _;have:=HE nd d he (Åb h);subst this;rw[fQ,b,a,a]
def prA:À Key->Key×V
 | [.inr z,_,.inr s]=>(.inr s,.str (kT0 z),)
 | _=>(.inl 0,.non,)
theorem Ht(R:î):(YI R).map prA=W5 R:=by unfold YI W5;rw[List.map_filterMap];congr 1;funext e;unfold hdA;rw[Option.map_map];rfl
theorem Zn4(x y z:ak):x++y++z=x++(y++z):=by obtain⟨a⟩:=x;obtain⟨b⟩:=y;obtain⟨c⟩:=z;show (⟨a++b++c⟩:ak)=⟨a++(b++c)⟩;rw[Ôy]
def Hs:Sp:=λvs H Q _=>X5 λ(d rd:ae) (R:À AR) (c:Int) (i:Nat)=>vs=[.ref d]/\Ys H d rd R c/\ABd R c i/\i<=40/\∀a,ZD H a->Q (.str (blT ÛT)) a
theorem Zpr(T:Ù)(cP:Ôb)(bP:ÓQ):Df P w K mg Â 2 "_law_rows_text" ÁJ Hs:=by
 rw[hi,T.t_l_rows_text.df,Ox];obtain d|g|R|c|i|rfl|D|B|hi|q:=h;refine(_,#[Zf,#[Zx,1,Ox.nd,á,#[Zp,(ZwM K),É,T.b.n_sorted,boot_sorted,#[Zd,(@Um _ _ _ #[XS,T0,(@K6 _ _ _ _ #[ZC,(ixG hr),#[hw,0],Ý]),#[gA,3,T0],Ξ,(λ_ _ _ _=>#[YG,#[Zd,#[ZC,(ixT K),#[ZC,(ixG hr),#[ZC,(ixG hr),#[cv,0,T0],Ý],#[cw,3,T0]],Þ],#[cw,3,T0]]])])]]],#[Zf,#[Zx,2,Ox.nd,Éy,#[W9,(ZvZ K),T.b.n_dict,boot_dict,#[Zd,#[XS,Vs,#[iL,K,#[ZA,cP,hr,#[Zd,#[hw,0]],É]],#[fF,3,Vs,4,5],Ξ,(λ_ _ _ _=>#[YG,#[Zd,#[cw,5,Vs],#[ZA,bP,hr,#[Zd,#[cw,3,Vs]],#[hp,Vs]]]])]]]],#[Zg,#[Zm,#[Z0,#[fD,neD,hr,1],#[YQ,Q0,Qaj,Qak,(U3 K),Ý,#[Zd,#[XS,UQ,Ëa,#[el,3,UQ,4],Ξ,(λ_ _ _ _=>#[ZR,U8,#[ZR,U8,#[cw,4,UQ],Ý],(@Zrx _ _ _ _ _ _ _ _ _ _ hr #[cv,2,UQ] #[cw,4,UQ] Ý É É É)])]]],Ý]]]]],?_);have few:=Â5;refine(g,_,Ÿ,ŭ,_,rfl,d,_,rfl,Ģ (k:=Ä6) ħ (VT g c),g,_,rfl,Ÿ,λo=>?_);have cj:#[hZ,H,g]:=λb u p n=>by rw[Zc n];exact p
 rw[eH,iK,H,g,Èx];have yx:∀b,(upd H g Èx) b=af->H b=af:=λb p=>by
  by_cases z:b=g
  ·rw[ss,Zb,p]
  ·rwa [Zc z]at p
 generalize upd H g (.frz o (.dK (kvA R)))=H1 at cj iK yx ⊢;intro B1 mG;refine Zr3 (d:=g) (o:=o) (kvs:=kvA R) (λj zs J M=>(∃v:Ã V,J=[U Τ,af,af,v])/\(∃F:Xv,zs=YN F/\AtT M F/\F.map Ę=(Èy j).map nkA)/\j<=Àh/\M B1=U π/\ZD H1 M) ((af,rfl),ÛU,Qs _,Zb,Zi mG _) #[hC,iK] ?_ ?_
 ·rintro j ky x zs J M X ⟨⟨v,rfl⟩,⟨F,rfl,bO,I⟩,hj,N,Y⟩;rw[hY,kvA,X];cases m:R[j]? with
  | none=>rw[m]at X;cases X
  | some e =>
  rw[rZ,m,X,hm];have nt:e.t≠g:=λz=>(by have:=(Âs e hm).1;rw[z,Ÿ]at this;cases this);have ck:=Y _ _ (cj _ _ (Âs e hm).1 nt);have gI:=Y _ _ (cj _ _ ħ D.ne);have mz:=Y _ _ iK;have aW:F.length=j:=by have:=#[et,I];rw[Qa,Qa,Qw]at this;lia
  refine(_,rfl,d,_,rfl,Ģ (k:=Ä6) gI (VT g c),_,rfl,g,_,rfl,Z9.fz (k:=.inr Ú) mz (UF Áo hm),e.t,_,_,_,rfl,rfl,ö ck,rfl,_,rfl,Á1,λt C=>?_);have sn:=Zi C (.tup (nkA e |>.map kV));have O:=sn _ _ N;have Ck:B1≠t:=Ze N C;refine(O,(by unfold YN;rw[Qa];exact ÀY),ÿ,(F++[(t,nkA e,)],by unfold YN;rw[Qf];rfl,λy hy=>?_,?_),b9,Zb,λb u p=>?_)
  ·rcases í hy with hy|hy
   ·exact JC O _ _ _ (sn _ _ (bO y hy))
   ·rw[å hy,Zc Ck.symm];exact Zb
  ·rw[Qf,I,QH,m,Qf];rfl
  ·rw[sh,p,mG,sn,Y,b]
 rintro zs J M ⟨⟨v,rfl⟩,⟨F,rfl,bO,I⟩,hj,N,Y⟩;rw[gX,iJ,I];have mz:=Y _ _ iK;rw[si,o,mz];have Cm:B1≠g:=λz=>by rw[z]at mG;rw[rS,mG,iK]
 have O:Ôd B1=U #[sr,F]:=by rw[Zc Cm];exact N
 have sU:AtT Ôd F:=λt C=>by have:=bO t C;rw[eC,mz]
 have s3:ZD H Ôd:=λb u p=>by
  by_cases z:b=g
  ·rw[zp,z,p]
  ·rw[Zc z];exact Y _ _ (cj _ _ p z)
 generalize upd M g (.dK (kvA R))=H3 at O sU s3 ⊢;have bf:F.length=Àh:=by have:=#[et,I];rwa [Qa,Qa]at this
 have tT:∀t∈F,∃e∈R,t.2=nkA e:=λt C=>by have:=#[gd,C];rw[I]at this;rw[sF,e,m,e2];exact(e,m,e2.symm)
 refine(B1,F,[true,false],rfl,Ï O,sU,Ë,(λt C=>by obtain e|_|e2:=tT t C;rw[e2];rfl),by lia,λl G hl hp Z=>?_);have l9:Â7 Ę=ę nkA:=ZuT B.up (by rw[<- I];exact hp.map _) (Ëk Z);have s4:=Zi hl #[sr,G];have jx:(upd H3 l #[sr,G]) l=U #[sr,G]:=Zb;have lG:AtT (upd H3 l #[sr,G]) G:=λt C=>s4 _ _ (sU t (hp.mem_iff.mp C));have rK:=s3.trans s4;generalize upd H3 l (.lst (YN G))=H4 at jx lG rK ⊢;clear sU O s3 s4 bO N Y mz iK cj yx hl Z hp I tT bf;refine(_,rfl,d,g,R,c,i,rfl,Æk rK,B,hi,λl2 F H5 FZ bN bO I s5=>?_);have lF:=s5 _ _ jx;have Ad:AtT H5 G:=λt C=>s5 _ _ (lG t C);have F0:=rK.trans s5;clear s5 lG jx rK FZ;have Cn:(YI R).length<=16:=Qk (List.length_filterMap_le _ _) few;refine(l2,rfl,#[ho,bN],λB2 N=>?_);refine V1 (K:=K) (a:=l2) (xs:=YN F) (λj zs J H6=>(X3 λv3 v4 v5:Ã V=>J=[U Τ,U Ă,af,v3,v4,v5])/\(∃S:À (ae×Key×V),zs=(S.map λt=>ú t.1)/\#[io,S,H6]/\S.map Ę=((YI R).take j).map prA)/\j<=(YI R).length/\H6 B2=U π/\ZD H5 H6) ((af,af,af,rfl),ÛU,Qs _,Zb,Zi N _) #[eF,bN] ?_ ?_
 ·rintro j y zs J H6 hy ⟨⟨v3,v4,v5,rfl⟩,⟨S,rfl,yC,lH⟩,hj,wm,s6⟩;rw[hY,YN,hy];cases L:F[j]? with
  | none=>rw[L]at hy;cases hy
  | some t =>
  rw[rS,L,hy];have W:(YI R)[j]? = U t.2:=by rw[<- I,Qp,L];rfl
  obtain e|m|z|hze|ek:=RP (Qr W);have vj:=(Ł W).1;have oY:=s6 _ _ (bO t (Qr L));rw[ek]at oY;have aW:S.length=j:=by have:=#[et,lH];rw[Qa,Qa,Qw]at this;lia
  refine(t.1,_,rfl,ö oY,rfl,_,_,rfl,_,_,rfl,_,_,rfl,rfl,_,rfl,_,rfl,z,rfl,Á1,λt' fj=>?_);have sn:=Zi fj (.tup [kV Ïb,.str (kT0 z)]);have F1:=sn _ _ wm;have Ck:B2≠t':=Ze wm fj;refine(F1,Óp,Î1,(S++[(t',.inr Ú,.str (kT0 z),)],by rw[Qf];rfl,λy hy=>?_,?_),vj,Zb,λb u p=>?_)
  ·rcases í hy with hy|hy
   ·exact JC F1 _ _ _ (sn _ _ (yC y hy))
   ·rw[å hy,Zc Ck.symm];exact Zb
  ·rw[Qf,lH,QH,W,Qf,ek];rfl
  ·rw[sh,p,N,sn,s6,b]
 rintro zs J H6 ⟨⟨v3,v4,v5,rfl⟩,⟨S,rfl,yC,lH⟩,hj,wm,s6⟩;have jJ:(YN F).length=(YI R).length:=by unfold YN;rw[Qa,<- I,Qa]
 rw[jJ,Qx ë,Ht]at lH;have hvl:S.length<=16:=by have:=#[et,lH];rw[Qa]at this;rw[this,<- Ht,Qa];exact Cn
 refine(B2,S,rfl,Ï wm,yC,by lia,λD2 cz=>?_);rw[lH,PV (W5 R) [] #[fd,Î8,MT,Áo],Î8];have s7:=Zi cz (.dK (W5 R));have F3:#[gw,H6,D2,W5,R] D2=U (.dK (W5 R)):=Zb;have tU:=s7 _ _ (s6 _ _ lF);have wq:AtT #[gw,H6,D2,W5,R] G:=λt C=>s7 _ _ (s6 _ _ (Ad t C));have F4:=(F0.trans s6).trans s7;generalize upd H6 D2 (.dK (W5 R))=H7 at F3 tU wq F4 ⊢;clear wm yC lH s6 s7 Ad lF F0 bN bO I cz N hj jJ;have Co:(Â7 λt=>tD t.2)=(ÛS).map tD:=by rw[<- l9,Qo];rfl
 have hz1:∀k∈ę nkA,∀s:ak,β s∈k->AZ s:=λk hk s Z=>by obtain e|m|rfl:=Ğ hk;unfold nkA at Z;simp at Z;rw[Z];exact(Æo e m).1
 rw[fw,z,L,sz];refine(.list ((ÛS).map tD),.list [],.lst (Ï (sz _ _ tU)) #[so,Co,G,C,sz,wq],.lst ÊK .nil,Zpd _ hz1,û,_,rfl,?_);rw[Æ rfl,MV];have F5:=sz _ _ F3;have Cp:=sz _ _ tU;have Ae:AtT #[e8,H7,z] G:=λt C=>sz _ _ (wq t C);have Cq:=F4.trans sz;generalize upd H7 z (.lst [])=H8 at F5 Cp Ae Cq ⊢;by_cases hn:R=[]
 ·rw[Ĉ #[zj,hn]];have:=q H8 Cq;rw[hn]at this;exact Y7 this
 ·rw[ē ÛV];refine YJ (rfl,_,rfl,l,rfl,#[ho,Cp],λB3 O=>?_);have wf:Èk:=by ac_rfl
  have uE:#[fr,".",1]:=by ac_rfl
  have hlu:G.length=Àh:=by have:=#[et,l9];rwa [Qa,Qa]at this
  refine V1 (K:=K) (a:=l) (xs:=YN G) (λj zs J H9=>(X2 λv3 v4:Ã V=>J=[U Τ,U Ă,U (.ref D2),v3,v4])/\zs=((Èy j).map λe=>thO Ú Ò[e.g]?).map Å/\j<=Àh/\H9 B3=U π/\ZD H8 H9) #[hW,O] #[eF,Cp] ?_ ?_
  ·rintro j y zs J H9 hy ⟨⟨v3,v4,rfl⟩,rfl,hj,yD,s9⟩;rw[hY,YN,hy];cases L:G[j]? with
   | none=>rw[L]at hy;cases hy
   | some t =>
   rw[rS,L,hy];have W:ÛS[j]? = U t.2:=by rw[<- l9,Qp,L];rfl
   rw[Qp]at W;cases m:R[j]? with
   | none=>rw[m]at W;cases W
   | some e =>
   rw[m]at W;have ek:nkA e=t.2:=Qv W;have hm:=Qr m;have vj:=(Ł m).1;have F6:=s9 _ _ (Ae t (Qr L));rw[<- ek]at F6;have F7:=s9 _ _ F5;have nz:=(Æo e hm).2.2;refine(t.1,_,rfl,ö F6,rfl,_,_,rfl,_,_,rfl,rfl,_,rfl,Ú, ":",rfl,rfl,Ĩ Á,_,rfl,D2,rfl,.inl (_,.inl F7),_,rfl,_,Ģ (k:=.inr Ú) F7 (ZrD Áo hm),?_);obtain⟨k',hv,hth,hkl'⟩:∃k':ak,((Option.map (λz=>Å (kT0 z)) Ò[e.g]?).getD (Å "."))=.str k'/\Ú ++ ":"++k'=thO Ú Ò[e.g]?/\k'.length<=41:=by
    cases hg:Ò[e.g]? with
    | none=>exact(".",rfl,by show Ú ++ ":" ++ "." = Ú ++ ":.";rw[Zn4,show ((":" : ak) ++ ".") = ":." by ac_rfl],by lia)
    | some z =>
     refine(kT0 z,rfl,rfl,?_);have:=(B.key e hm z (Qr hg)).1;unfold kT0;split
     ·ac_rfl
     ·lia
   refine(Ú ++ ":",k',rfl,hv,Ĩ #[eO,QM],yD,ÛW,Èb,?_,vj,Zb,λb u p=>?_)
   ·rw[hth,QH,m,Qf,Qf];rfl
   ·rw[Zc (Ze p O)];exact s9 _ _ p
  rintro zs J H9 ⟨⟨v3,v4,rfl⟩,rfl,hj,yD,s9⟩;have jJ:(YN G).length=Àh:=by unfold YN;rw[Qa,hlu]
  rw[jJ,Qx ë]at yD;have Cr:∀e∈R,(thO Ú Ò[e.g]?).length<=50:=λe m=>by
   have n1:=(Æo e m).2.2;cases hg:Ò[e.g]? with
   | none=>show (Ú ++ ":.").length<=50;rw[QM,show ((":." : ak)).length=2 by ac_rfl];lia
   | some z=>exact HA n1 (B.key e m z (Qr hg)).1
  have Cj:ÛR:=λl=>by
   induction l with
   | nil=>intro _;exact Qg _
   | Í a r ih=>intro h;rw[wr];lia
  have Z:=Cj ÛT λx X=>by obtain e|m|rfl:=Ğ X;exact Cr e m
  have Ci:Ê9:=by ac_rfl
  have q':=q H9 (Cq.trans s9);unfold blT at q';rw[Ç ÛV]at q';rw[Qa]at Z;exact(_,B3,_,rfl,rfl,Ï yD,#[sq,Ci,Qa],q')
def Hr(a:ak)(m:Nat)(o:Od):Prop:=(a = "take"/\o=.take m)\/(a = "rows"/\o=.rows)\/(a = "left"/\o=.left)
def Zur:Sp:=λvs H Q _=>X8 λ(d rd:ae) (R:À AR) (c:Int) (i m:Nat) (f:ak) (o:Od)=>vs=[.ref d,.str f,.int (m:Int)]/\Ys H d rd R c/\ABd R c i/\i<=36/\m<=400/\Hr f m o /\
 ∀ (a:ak) (g:À AR) (e:Hp),WU R o a g->Ys e d rd g c->#[ew,u,rd,e]->Q (.str a) e
theorem Hq:∀R:À AR,(∀e∈R,e.g<=Į)->#[nM].sum=((YL (Y1 R):Nat):Int)
 | [],_=>rfl
 | e::r,h=>by have h1:=h e Ö;have a:=#[sD,Hq,x,b];unfold YL Y1 at a ⊢;rw[Qj,QR,a,Qj,Qj,QR];show _=((Į-e.g+_:Nat):Int);lia
theorem Zqi(T:Ù)(dW:ÛQ)(i7:Df P w K mg Â 3 "_law_taken" ÍV Hy)(gg:#[ee,2,"_law_rows_text",ÁJ,Hs]):Df P w K mg Â 4 "_law_ask_due" Êw Zur:=by
 rw[d4,T.t_l_ask_due.df,Zjv,vs,F];obtain d|l|R|c|i|m|wd|o|rfl|D|B|hi|hm|ho|q:=h;refine(_,#[Zf,#[ZN,Èw,#[Zg,#[Zm,#[sy,dW,F]]],ò],#[Zf,#[ZN,Èw,#[Zg,#[Zm,#[rX,i7,F,0,2]]],ò],#[Zf,#[ZN,Èw,#[Zg,#[Zm,#[sy,gg,F]]],ò],#[Zg,#[Zm,#[W9,(Rh K F),Ëb,Ëc,#[Zd,#[Zp,(P8 K),É,Ón,boot_sum,#[Zd,(@Um _ _ _ #[XS,Vr,(@K5 _ _ _ _ _ _ #[fj,F] É É),#[fF,3,Vr,4,5],Ξ,(λ_ _ _ _=>#[ZR,Vb,#[Zp,(Yj K),#[hp,Vr],ÁP,Qy,#[Zd,#[cw,4,Vr]]],#[cw,5,Vr]])])]]]]]]]]],?_);rw[rr];have st:∀ {t:Hp},ZD H t->Ys t d l R c/\∀b u,H b=U u->b≠l->t b=U u:=λs=>(Æk s,λb u r _=>s _ _ r);rcases ho with⟨rfl,rfl⟩|⟨rfl,rfl⟩|⟨rfl,rfl⟩
 ·exact(_,rfl,rfl,_,rfl,YR ÁU (_,rfl,rfl,_,rfl,Y2 rfl (_,rfl,_,rfl,d,l,R,c,i,m,rfl,D,B,by lia,hm,λws R' t g hw D' k _=>q _ R' t (.take g hw) D' k)))
 ·exact(_,rfl,rfl,_,rfl,YR ÁU (_,rfl,rfl,_,rfl,YR ÁU (_,rfl,rfl,_,rfl,Y2 rfl (_,rfl,d,l,R,c,i,rfl,D,B,by lia,λt s=>q _ R t .rows (st s).1 (st s).2))))
 ·refine(_,rfl,rfl,_,rfl,YR ÁU (_,rfl,rfl,_,rfl,YR ÁU (_,rfl,rfl,_,rfl,YR ÁU ?_)));refine(l,_,Ÿ,ŭ,_,rfl,d,_,rfl,Ģ (k:=Ä6) ħ (VT l c),l,_,rfl,Ÿ,λo J G=>?_);have L:#[hZ,H,l]:=λb u r n=>by rw[Zc n];exact r
  rw[eH,I,H,l,Èx];generalize upd H l (.frz o (.dK (kvA R)))=H1 at L I G ⊢;refine KU (d:=l) (o:=o) (kvs:=kvA R) (λj zs N v=>(X3 λO S W:Ã V=>N=[U Τ,U (.str "left"),U (.int (m:Int)),O,S,W])/\zs=((Èy j).map λe=>(Į:Int)-(e.g:Int)).map ì/\j<=Àh/\v J=U π/\ZD H1 v) ((af,af,af,rfl),rfl,Qs _,Zb,Zi G _) #[hC,I] ?_ ?_
  ·rintro j ky x zs N v y ⟨⟨O,S,W,rfl⟩,rfl,hj,M,C⟩;rw[hY,kvA,y];cases p:R[j]? with
   | none=>rw[p]at y;cases y
   | some e =>
   rw[rZ,p,y,gs];obtain X|Y:=Âs e gs;have few:=Â5;have ck:=C _ _ #[sX,L,X,Ÿ,X];have ic:=C _ _ #[sX,L,Y,Ÿ,Y];refine(e.t,_,rfl,ö ck,rfl,_,_,rfl,_,_,rfl,_,_,rfl,rfl,_,rfl,e.k,_,rfl,.inl (Ï ic),_,rfl,_,_,rfl,rfl,M,ÛW,Î1,?_,b9,Zb,λb u r=>?_)
   ·rw[QH,p,Qf,Qf,Qa];rfl
   ·rw[Zc (Ze r G)];exact C _ _ r
  rintro zs N v ⟨⟨O,S,W,rfl⟩,rfl,hj,M,C⟩;rw[gX,iJ,M];have mz:=C _ _ I;rw[si,o,mz];have Cm:J≠l:=λz=>by rw[z]at G;rw[fQ,G,I,I]
  have ie:#[gw,v,l,kvA,R] J=U (.lst (#[nM].map ì)):=by rw[Zc Cm];exact M
  have Z:ZD H #[gw,v,l,kvA,R]:=λb u r=>by
   by_cases z:b=l
   ·rw[zp,z,r]
   ·rw[Zc z];exact C _ _ (L _ _ r z)
  generalize upd v l (.dK (kvA R))=H3 at ie Z ⊢;have few:=Â5;have vT:YL (Y1 R)<=2880:=Nc (by unfold Y1;rw[Qa];exact few) λx hx=>by obtain e|p|rfl:=Ğ hx;have:=(Æm e p).1;show Į<=180;lia
  obtain g1|g2|g3|g4:=Ie (i:=((YL (Y1 R):Nat):Int)) Á;refine(J,_,rfl,Ï ie,ÅN,λn hn=>?_,?_)
  ·rw[ed,e,p,hn];have:=Æm e p;lia
  ·rw[Hq R λe p=>(Æm e p).2];exact(_,.int _,rfl,.int _,g1,g2,g3,q _ R H3 .left (st Z).1 (st Z).2)
theorem Zom(o:Od):OKs ÁS:=λc m=>by
 have:∀z∈(["row", "grow", "drop", "take", "left", "rows"]:À ak),Ûy (λx=>decide (x<128))=true:=by ac_rfl
 exact Ľ (Qal.mp (this _ (RR o)) c m)
theorem Zrr{k:ak}(h:AZ k):OKs (kT0 k):=by
 unfold kT0;split
 ·rw[bH];decide
 ·exact h.oks
theorem Zuh{o:Od}(h:OdW o):∀z∈o.ws,OKs z:=by
 have a:∀ks:À ak,KsS ks->∀z∈ť kT0,OKs z:=λks b z hz=>by obtain x|d|rfl:=Ğ hz;exact Zrr (b.2 x d).2
 intro z hz;unfold Æp at hz;rcases ĩ hz with rfl|hz
 ·exact Zom o
 rcases í hz with hz|hz
 ·cases o with
  | row s ks=>rw[å hz];exact h.1.1.oks
  | Υ s ks=>rw[å hz];exact h.1.1.oks
  | Φ s=>rw[å hz];exact#[qi].1.oks
  | Χ n=>rw[å hz];intro c m;have:c∈[48+n]:=m;have:=Ëg;have:n<10:=h;lia
  | left=>cases hz
  | Ρ=>cases hz
 ·cases o with
  | row s ks=>exact Ès
  | Υ s ks=>exact Ès
  | Φ s=>cases hz
  | Χ n=>cases hz
  | left=>cases hz
  | Ρ=>cases hz
theorem Ho{sep:ak}(a:OKs sep):∀ws:À ak,(∀z∈ws,OKs z)->OKs (χ sep ws)
 | [],_=>λc h=>by cases (show c∈([]:À Nat) from h)
 | [x],h=>h x Ö
 | x::y::r,h=>((h x Ö).app a).app (Ho a (y::r) λz hz=>h z (Ql _ hz))
theorem ZrQ{o:Od}(h:OdW o):OKs Àg:=by
 have e:Àg=χ " " o.ws:=by unfold Àf;simpa using Êm (" " : ak) o.ws
 rw[e];refine Ho (λc a=>?_) _ (Zuh h);have:c∈(" " : ak).cps.toList:=a;rw[show (" " : ak).cps.toList=[32] from by ac_rfl]at this;rw[å this];decide
structure AL (H1 H:Hp) (d rd rl dl:ae) (R:î) (c:Int) (rs ds:Ñ):Prop where
 same:ZD H1 H
 D:Ys H d rd R c
 hr:H rl=U #[ef,rs.map]
 hd:H dl=U #[ef,ds.map]
 ne:rl≠dl
 f0:H1 d=af
 f1:H1 rd=af
 f2:H1 rl=af
 f3:H1 dl=af
 kr:∀e∈R,e.k≠rl/\e.k≠dl
structure NA (H1:Hp) (d rd rl dl p:ae):Prop where
 d:p≠d
 rd:p≠rd
 rl:p≠rl
 dl:p≠dl
 f:H1 p=af
section
variable {H1 H H':Hp} {d rd rl dl p:ae} {R R':À AR} {c c':Int} {rs ds:À ak}
theorem AL.np(I:Ä8)(hp:H p=af):NA H1 d rd rl dl p:=((Ze Ïd hp).symm,(Ze Ïe hp).symm,(Ze À2 hp).symm,(Ze À3 hp).symm,I.same.free hp)
theorem AL.on(I:Ä8)(s:ZD H H'):AL H1 H' d rd rl dl R c rs ds:=(I.same.trans s,I.D.same s,s _ _ À2,s _ _ À3,I.ne,I.f0,I.f1,I.f2,I.f3,I.kr)
theorem Ys.keep(D:Ys H d rd R c)(h:∀b u,H b=U u->(b=d\/b=rd\/(∃xs,u=.tup xs)\/∃e∈R,b=e.k)->H' b=U u):Ys H' d rd R c :=
 (h _ _ ħ Ė,h _ _ Ÿ ÇG,λe a=>(h _ _ (Âs e a).1 (.inr #[sd,ÿ]),h _ _ (Âs e a).2 (.inr (.inr (.inr (e,a,rfl))))),Áo,D.ne)
theorem AL.draw(I:Ä8)(n:NA H1 d rd rl dl p){q:Int}(L:Y9 H p q)(B:But p H H'):AL H1 H' d rd rl dl R c rs ds:=by
 obtain u1|u2|g|_:=L;refine(λb o f=>B b o (ÈA b o f) (Ze f n.f),I.D.keep λb u f i=>B b u f λz=>?_,B _ _ À2 n.rl.symm,B _ _ À3 n.dl.symm,I.ne,I.f0,I.f1,I.f2,I.f3,I.kr);rcases i with y|y|⟨xs,rfl⟩|⟨e,j,rfl⟩
 ·exact n.d Ó6
 ·exact n.rd Ó6
 ·rw[ss,g,f]
 ·have:=(I.D.tup e j).2;rw[z,g]at this;injection this with this;injection this with this;cases h:Ò with
  | nil=>rw[h]at this;cases this
  | Í a r=>rw[h]at this;injection this with this _;cases this
theorem AL.pushR(I:Ä8)(x:ak):AL H1 (upd H rl (.lst (rs.map Å++[Å x]))) d rd rl dl R c (rs++[x]) ds:=by
 refine(λb o a=>by rw[Zc (Ze a I.f2)];exact ÈA b o a,I.D.keep λb u a f=>?_,by rw[Zb,Qf];rfl,by rw[Zc I.ne.symm];exact À3,I.ne,I.f0,I.f1,I.f2,I.f3,I.kr);rw[Zc (λz=>by
  rcases f with y|y|⟨xs,rfl⟩|⟨e,g,rfl⟩
  ·rw[fo,Ïd,y,À2]
  ·rw[fo,Ïe,y,À2]
  ·rw[ss,À2,a]
  ·exact(I.kr e g).1 z)]
 exact a
theorem AL.pushD(I:Ä8)(x:ak):AL H1 (upd H dl (.lst (ds.map Å++[Å x]))) d rd rl dl R c rs (ds++[x]):=by
 refine(λb o a=>by rw[Zc (Ze a I.f3)];exact ÈA b o a,I.D.keep λb u a f=>?_,by rw[Zc I.ne];exact À2,by rw[Zb,Qf];rfl,I.ne,I.f0,I.f1,I.f2,I.f3,I.kr);rw[Zc (λz=>by
  rcases f with y|y|⟨xs,rfl⟩|⟨e,g,rfl⟩
  ·rw[fo,Ïd,y,À3]
  ·rw[fo,Ïe,y,À3]
  ·rw[ss,À3,a]
  ·exact(I.kr e g).2 z)]
 exact a
theorem AL.nn(I:Ä8){b:ae}{zs:Ĕ}(hb:H b=U π):b≠d/\b≠rd:=(λz=>(by have:=Ïd;rw[<- z,hb]at this;cases this),λz=>(by have:=Ïe;rw[<- z,hb]at this;cases this))
theorem AL.to(I:Ä8)(g:Ôe):AL H1 H' d rd rl dl R' c' rs ds:=by
 refine(λb o a=>g.k b o (ÈA b o a) (Ze a I.f0) (Ze a I.f1),g.D,g.k _ _ À2 (I.nn À2).1 (I.nn À2).2,g.k _ _ À3 (I.nn À3).1 (I.nn À3).2,I.ne,I.f0,I.f1,I.f2,I.f3,λe f=>?_);rcases g.kf e f with⟨x,h,z⟩|z
 ·rw[<- z];exact I.kr x h
 ·exact((Ze À2 z).symm,(Ze À3 z).symm)
theorem ATk.ks{ws:Ñ}(h:ATk R ws R'):∀e∈R',∃x∈R,x.k=e.k:=by
 induction h with
 | nil=>exact λe b=>(e,b,rfl)
 | @Ŕ R1 ws c z t _ d _ _ a =>
  intro x f;rw[ed,y,g,f];unfold XQ;split
  ·exact a c d
  ·exact a y g
theorem AL.ask{o:Od}{a:ak}(I:Ä8)(g:WU R o a R')(D:Ys H' d rd R' c)(k:#[e5,u,H,rd,H']):AL H1 H' d rd rl dl R' c rs ds:=by
 refine(λb o f=>k b o (ÈA b o f) (Ze f I.f1),D,k _ _ À2 (I.nn À2).2,k _ _ À3 (I.nn À3).2,I.ne,I.f0,I.f1,I.f2,I.f3,λe h=>?_);cases g with
 | Χ g _=>obtain x|i|z:=g.ks e h;rw[<- z];exact I.kr x i
 | _=>exact I.kr e h
theorem ATo.left{q:Int}(g:Ôe)(L:Y9 H p q)(h1:p≠d)(h2:p≠rd):Y9 H' p q:=by obtain a|b|e|f:=L;exact(a,b,g.k _ _ e h1 h2,f)
theorem Y9.push{q:Int}{o:HO}(L:Y9 H p q)(h:p≠rl):Y9 (upd H rl o) p q:=by obtain a|b|c|d:=L;exact#[fN,h,c,d]
universe E
def AI(b H:Hp)(d rd rl dl:ae)(i n:Nat):Prop:=X4 λ(os:À Od) (a:À ak) (R:À AR) (c:Int)=>WT os a R c/\AL b H d rd rl dl R c Î5 a/\ABd R c i/\ÀM=n/\dds os<=i/\∀o∈os,OdW o
def Y3:À ak:=["a", "aa", "row", "take", "b", "drop", "zebra", "ab", "left", "abcdefgh", "z", "rows"]
theorem Hn:∀s∈Y3,NmS s:=by
 have:∀s∈Y3,(s.cps.toList.all λc=>decide (97<=c/\c<=122))=true/\1<=ŧ/\ŧ<=8:=by ac_rfl
 intro s a;obtain b|d|e:=this s a;exact(λc f=>Ľ (Qal.mp b c f),d,e)
def ZqT:Sp:=λvs H Q _=>X2 λ(p:ae) (c:Int)=>vs=Θ/\Y9 H p c/\c<2 ^ 40/\∀ (l:ae) (ns:À ak) (b:Int) (a:Hp),H l=af->a l=U #[ef,Åy]->(∀s∈ns,NmS s)->1<=Č->Č<=20->Y9 a p b->c<=b->b<=c+2->But p H a->Q Ă a
theorem ZnD(T:Ù)(F:Å1):Df P w K mg Â 3 "_law_names" ÅY ZqT:=by
 rw[d4,T.t_l_names.df,Oy,vs,G];rw[f8,p,c,L,hc];refine(_,#[Zf,#[Zx,1,Oy.nd,á,#[ZT,#[Za,Ý,#[Za,Ý,#[Za,Ý,#[Za,Ý,#[Za,Ý,#[Za,Ý,ÛX]]]]]]]],#[Zf,#[Zx,2,Oy.nd,á,#[y4,F,G]],#[Zg,#[Zm,#[Wo,(slL K),#[ZR,Wc,#[g2,1,2],#[Wo,(slL K),‹1›,(@VG _),(@VF _ _ _ ‹2›)]],(@VG _),(@VF _ _ _ #[ZR,Xb,Þ,#[y4,F,G]])]]]]],?_);have c0:=L.ge;refine(#[eE,12,aq],λl j=>?_);have I:(upd H l Ïf) l=U Ïf:=Zb;have J:=Zi j Ïf;have M:=L.new (o:=.lst (Y3.map Å)) j;have ln:p≠l:=by obtain u|i:=L.here;exact Ze i j
 show RI _ _ _ _ (upd H l Ïf);generalize upd H l (.lst (Y3.map Å))=H1 at I J M ⊢;refine#[ff,12,M,N,L2,O];have R:=O _ _ I ln.symm;rw[gY,n,n,r,r.toNat];have hn:n<=Y3.length:=by show n<=12;lia
 obtain e1|e2:=RT Y3 n hn;rw[hJ,R,a,S,e2];have k:=Zi S #[fO,Æt,n];rw[go,W,N,a,Æt,n];have X:=k _ _ R;have Y:=L2.new (o:=.lst ((Æt n).map Å)) S;generalize upd N a (.lst ((Æt n).map Å))=Z at k W X Y ⊢;rw[hJ,X,b,hb,e1];have t:=Zi hb #[fO,Æu,n];rw[go,wt,Z,b,Æu,n];have F8:=t _ _ W;have v:=Y.new (o:=.lst ((Æu n).map Å)) hb;generalize upd Z b (.lst ((Æu n).map Å))=H4 at t wt F8 v ⊢;have qd:(Æt n).length+(Æu n).length<=1000:=by rw[QZ,Qw];show 12-n+min n 12<=1000;lia
 refine(a,b,_,_,rfl,rfl,F8,wt,(by rw[Qa,Qa];exact Ĩ qd),λe x=>?_);rw[<- Qf];have s5:=Zi x ÛY;rw[rt,vZ,H4,e,ÛY];have L5:=v.new (o:=.lst ((Üx).map Å)) x;generalize upd H4 e (.lst ((Æt n++Æu n).map Å))=H5 at s5 vZ L5 ⊢;have y:e≠p:=λz=>by obtain u|i:=v.here;rw[<- z,x]at i;cases i
 refine(_,rfl,p,c+1,6,rfl,L5,by lia,by decide,by decide,λr2 H6 q0 q1 L6 B6=>?_);have B:=B6 _ _ vZ y;rw[gY,m,m,r2,r2.toNat];have aW:(Üx).length=12:=by rw[Qi,QZ,Qw];show 12-n+min n 12=12;lia
 have hm:3+m<=(Üx).length:=by lia
 have e3:=(RT Üx (3+m) hm).1;refine(_,_,rfl,rfl,_,rfl,e,_,rfl,Ï B,λw hw=>?_);rw[show ((3:Int)+(m:Int))=((3+m:Nat):Int) by lia,e3];have sB:But p H H6:=λd g cL n'=>B6 d g (s5 d g (t d g (k d g (O d g (J d g cL) n')))) n';have C:H w=af:=by
  cases z:H w with
  | none=>rfl
  | some u =>
   by_cases zp:w=p
   ·rw[ep,u',D,L6.here];rw[eN,zp,D,hw]
   ·rw[sB w u z zp]at hw;cases hw
 refine q w ((Üx).take (3+m)) (c+1+1) _ C Zb (λs hs=>?_) #[eO,Qw] #[eO,Qw] (L6.new hw) Á Á (ÍZ sB #[sP,hw]);have:=Qay hs;rcases í this with h|h
 ·exact Hn s (QaY h)
 ·exact Hn s (Qay h)
def ZoY:Sp:=λvs H Q _=>X2 λ(l:ae) (ws:À ak)=>vs=Äx/\H l=U #[ef,Âl]/\Àb<=90/\#[s2,ws,1000]/\∀ (b:Ð) a,ZD H a->Q (.bl b) a
theorem ZnP(T:Ù):Df P w K mg Â 1 "_law_is_short" Êu ZoY:=by
 rw[d4,T.t_l_is_short.df,Zil,B,hr];rw[sR,l,ws,t,vW,C];refine(_,#[Zg,#[Zm,#[X1,WG,#[Zp,(P8 K),É,Ón,boot_sum,#[Zd,#[XS,Sq,#[iL,K,‹0›],#[gA,1,Sq],Ξ,(λ_ _ _ _=>#[ZR,Xb,#[Zp,WE,#[hp,Sq],ÁP,Qy,#[Zd,#[cw,1,Sq]]],Þ])]]],Þ,ă]]],?_);refine#[ze,l,t,D,v];refine V1 (K:=K) (a:=l) (xs:=Âl Å) (λi zs j e=>(∃k:Ã V,j=[U Ă,k])/\(∃c:À Int,zs=Ř ì/\ĵ=i/\∀m∈c,0<=m/\m<=2000)/\i<=Àb/\e D=U π/\ZD H e) ((af,rfl),([],rfl,rfl,λu F=>by cases F),Qs _,Zb,Zi v _) #[eF,t] ?_ ?_
 ·rintro i y zs j e d ⟨⟨k,rfl⟩,⟨c,rfl,n,o⟩,hi,p,r⟩;rw[Qp]at d;cases g:ws[i]? with
  | none=>rw[g]at d;cases d
  | some x =>
  rw[en,g,d,G,Àb];have I:=C x (Qr g);refine(_,rfl,x,rfl,Ĩ I,_,_,rfl,rfl,p,#[er,n],ÿ,(c++[ÒM+1],by rw[Qf];rfl,by rw[Qi,n];rfl,λm hm=>?_),G,Zb,λb u z=>?_)
  ·rcases í hm with hm|hm
   ·exact o m hm
   ·rw[å hm];lia
  ·rw[s3,z,v,r,b,u]
 ·rintro zs j e ⟨⟨k,rfl⟩,⟨c,rfl,n,o⟩,_,p,r⟩;refine(D,c,rfl,Ï p,Á,(λm hm=>by have:=o m hm;lia),_,_,rfl,rfl,?_);exact q _ _ r
def ZsT:Sp:=λvs H Q _=>X6 λ(p f sl:ae) (c:Int) (ns ss:À ak)=>vs=[.ref p,.ref f,.ref sl]/\Y9 H p c/\c<2 ^ 39/\H f=U #[ef,Åy]/\1<=Č/\Č<=20/\(∀s∈ns,NmS s)/\H sl=U ÃF/\1<=ń/\ń<=4/\ÊC /\
 ∀ (t b:ae) (d s:ak) (ks:À ak) (o:Od) (e:Int) (a:Hp),H t=af->H b=af->a t=U #[eU,d,s,b]->a b=U À1->Wg d s ks o->NmS s->KsS ks->(d = "drop"->ks=[])->Y9 a p e->c<=e->e<=c+700->But p H a->Q ÁO a
theorem ZpH(T:Ù)(W:Å1)(fK:Ób)(lI:ÛZ):Df P w K mg Â 6 "_law_deed" ÒD ZsT:=by
 refine T.t_l_deed.df Su ÂY Í4;obtain p|X|Y|c|J|D|rfl|L|hc|Z|iF|vR|eO|fU|fT|F9|yE|q:=h;refine(_,#[Zf,#[Zx,3,Su.nd,á,#[ZC,ω,#[ZT,ÛX],#[y4,W,I]]],#[Zf,#[Zx,4,Su.nd,á,#[ZC,ω,‹1›,#[ZA,W,I,#[Zd,‹0›,ÊD],É]]],#[Zf,#[Zx,5,Su.nd,á,#[Z0,#[Zn,WF,#[y4,W,I],Þ,ă],#[hj,lI,I,0,2],#[hj,fK,I,0,2]]],#[Zg,#[Zm,#[YG,#[Zd,‹3›,‹4›,#[Z0,#[eo,YT,3,Ý],Â6,‹5›]]]]]]]],?_);have c0:=L.ge;refine(#[eE,6,aq],λa ha=>?_);have s1:=Zi ha (.lst Ïg);have pZ:#[ha,H,a,Ïg] a=U (.lst Ïg):=Zb;have L1:=L.new (o:=.lst Ïg) ha;have Bv:a≠p:=λz=>by obtain u|hu:=L.here;rw[<- z,ha]at hu;cases hu
 generalize upd H a (.lst [.str "row",.str "row",.str "row",.str "grow",.str "grow",.str "drop"])=H1 at s1 pZ L1 ⊢;refine#[ff,6,L1,H2,L2,B2];obtain⟨l,Cs,bO⟩:∃l:ak,(l = "row"\/l = "grow"\/l = "drop")/\atI [Å "row",.str "row",.str "row",.str "grow",.str "grow",.str "drop"] r=U (.str l):=by
  rcases(show r=0\/r=1\/r=2\/r=3\/r=4\/r=5 by lia) with rfl|rfl|rfl|rfl|rfl|rfl
  ·exact Ôf
  ·exact Ôf
  ·exact Ôf
  ·exact(_,.inr Ė,rfl)
  ·exact(_,.inr Ė,rfl)
  ·exact(_,.inr Ãp,rfl)
 have k2:But p H H2:=λb o i n=>B2 b o (s1 b o i) n;have M:∀ {R:Hp} {d:Int} {b:ae},But p H R->Y9 R p d->R b=af->H b=af:=λ{R d b} B' L' i=>by
  cases z:H b with
  | none=>rfl
  | some u =>
   by_cases zp:b=p
   ·rw[ep,u',F,L'.here];rw[eN,zp,F,i]
   ·rw[B' b u z zp]at i;cases i
 have npp2:∀ {b:ae},H b=af->b≠p:=λi z=>by obtain u'|F:=L.here;rw[ss,F,i]
 have F':∀ {b:ae} {xs:À V},H b=U (.lst (xs))->(∀x∈xs,∃z,x=.str z)->b≠p:=λ{b xs} i B z=>by obtain u1|u2|hp|_:=L;rw[ss,hp,i];obtain z'|ml:=B _ (Qac ..);cases ml
 have Af:∀D:À ak,∀x∈D.map Å,∃z,x=.str z:=λD x B=>by obtain s|_|rfl:=Ğ B;exact(s,rfl)
 have wu:=F' fU (Af D);have tV:=F' Z (Af J);refine(a,_,_,_,rfl,rfl,Ï (B2 _ _ pZ Bv),bO,?_);have Ga:=k2 _ _ Z tV;refine(_,rfl,_,rfl,_,rfl,X,_,rfl,.inl (Ï Ga),p,c+1,_,rfl,L2,by lia,ÅN,ÅN,λj H3 j0 j1 L3 B3=>?_);rw[Qa]at j1;rw[gY,j',m,j,j.toNat];have k3:But p H H3:=k2.trans B3;have hj:j'<J.length:=by lia
 have Gb:=eO _ (Q9 hj);refine(X,_,_,_,rfl,rfl,Ï (k3 _ _ Z tV),XZ (by rw[Qp,Qb hj];rfl),_,rfl,p,c+1+1,4,rfl,L3,by lia,by decide,by decide,λr2 H4 q0 q1 S B4=>(_,_,rfl,rfl,_,rfl,?_));have G:But p H H4:=k3.trans B4;refine Ny (λv C=>X3 λ(k:ae) (ks:À ak) (d:Int)=>v=.ref k/\H k=af/\C k=U À1/\Àu<=5/\#[fc,ks,28]/\Y9 C p d/\c<=d/\d<=c+610/\But p H C) (λ_ Q' hq=>(_,rfl,_,rfl,p,Y,c+1+1+1,3,D,rfl,S,by lia,by decide,by decide,G _ _ fU wu,fT,F9,yE,λk ks d C f1 f2 f3 _ f5 y g1 g2 B5=>hq _ _ Û0)) (λ_ Q' hq=>(_,rfl,_,rfl,p,Y,c+1+1+1,3,D,rfl,S,by lia,by decide,by decide,G _ _ fU wu,fT,F9,yE,λk ks d C f1 f2 f3 f5 y g1 g2 B5=>hq _ _ Û0)) #[iz,v,C,hv]
 ·exact M G S f1
 ·exact M G S f1
 ·obtain k|ks|d|rfl|iJ|rM|k5|cu|y|g1|g2|N:=hv;rw[rr];have O:∀ (o:Od),Wg l J[j'] ks o->l ≠ "drop"->∀t,C t=af->Q ÁO (upd C t (.tup [.str l,.str J[j'],.ref k])):=λo ho hd t g=>q t k l _ ks o d _ (M N y g) iJ Zb (Zi g _ _ _ rM) ho Gb (k5,λx B=>(Qk (cu x B).1 Ë,(cu x B).2)) (λz=>È z hd) (y.new g) Á Á (ÍZ N #[sP,g]);rcases Cs with rfl|rfl|rfl
  ·exact(_,rfl,_,rfl,_,rfl,rfl,_,rfl,YR ÁU (_,rfl,υ,λt g=>O _ Ì7 û t g))
  ·exact(_,rfl,_,rfl,_,rfl,rfl,_,rfl,YR ÁU (_,rfl,υ,λt g=>O _ #[sd,ĳ] û t g))
  ·refine(_,rfl,_,rfl,_,rfl,rfl,_,rfl,Y2 rfl (Ŵ,λe he=>(υ,λt g=>?_)));have s6:=Zi he ÁN;refine q t e "drop" _ [] _ d _ (M N y (s6.free g)) (M N y he) Zb (Zi g _ _ _ Zb) (.inr (.inr ĳ)) Gb (by decide,λx B=>by cases B) (λ_=>rfl) ((y.new he).new g) Á Á (ÍZ N (But.same (s6.trans (Zi g _))))
theorem Hm(os:Â3)(o:Od):dds (os++[o])=dds os+Ëi:=by unfold dds;rw[Qf,QaN];rfl
theorem ZsP(o:Od):Ëi<=1:=by cases o<;>first|exact Qg 1|exact Qs 1
section
variable {H1 H H':Hp} {d rd rl dl:ae} {R R':À AR} {c c':Int} {os:À Od} {as:À ak} {o:Od} {a:ak} {i n:Nat}
theorem Ïh(st:WT os as R c)(I:Û1)(B:ÃP)(e:ÀM=n)(hd:dds os<=i)(hw:Ó0)(b:OdW o)(g:Xg R c o a R' c')(t:Ôe):AI H1 Û2 d rd rl dl (i+1) (n+1):=by
 refine(os++[o],as++[a],R',c',st.deed g,?_,B.step b g,by rw[Qi,e];rfl,by rw[Hm];have:=ZsP o;lia,λx hx=>?_)
 ·rw[Qf];exact(I.to t).pushD a
 ·rcases í hx with hx|hx
  ·exact hw x hx
  ·rw[å hx];exact b
theorem AI.ask(st:WT os as R c)(I:Û1)(B:ÃP)(e:ÀM=n)(hd:dds os<=i)(hw:Ó0)(f:OdW o)(h0:Ëi=0)(g:WU R o a R')(D:Ys H' d rd R' c)(k:#[e5,u,H,rd,H']):AI H1 Û2 d rd rl dl i (n+1):=by
 refine(os++[o],as++[a],R',c,st.ask g,?_,WU.bd B g,by rw[Qi,e];rfl,by rw[Hm,h0];exact hd,λx hx=>?_)
 ·rw[Qf];exact(I.ask g D k).pushD a
 ·rcases í hx with hx|hx
  ·exact hw x hx
  ·rw[å hx];exact f
universe E
theorem ABd.due{R:î}{c:Int}{i:Nat}(B:ÃP)(hi:i<=36):Àh<=30/\∀e∈R,Į<=180/\e.n<c:=(Qk Â5 Ë,λe he=>(by have:=(Æm e he).1;lia,(B.n e he).2))
def MR(j:Nat):ak:=⟨#[(97)+j]⟩
theorem MQ{j:Nat}(h:j<17):NmS (MR j):=(λc hc=>by have:c∈[97+j]:=hc;have:=Ëg;lia,#[eE,1,1],#[eE,1,8])
theorem ZvN{j:Nat}(h:j<17):atI ("abcdefghijklmnopq" : ak).cps.toList ((0:Int)+(j:Int))=U (97+j):=by rw[show ("abcdefghijklmnopq" : ak).cps.toList=(ÁC 17).map (97+·) by ac_rfl,Int.zero_add];exact XZ Û3
theorem Zwh{j:Nat}(h:j<16):atI ("abcdefghijklmnop" : ak).cps.toList (j:Int)=U (97+j):=by rw[show ("abcdefghijklmnop" : ak).cps.toList=(ÁC 16).map (97+·) by ac_rfl];exact XZ Û3
def Zro:Sp:=λvs H Q _=>X7 λ(p rl dl d rd:ae) (c:Int) (a:Hp)=>vs=[.ref p,.ref rl,.ref dl,.ref d]/\Y9 H p c/\c<2 ^ 39/\AL a H d rd rl dl [] 0 [] []/\NA a d rd rl dl p/\∀b e,AI a b d rd rl dl 20 20->Y9 b p e->Q .non b
theorem ZnL(T:Ù)(aZ:Å1)(gi:#[ee,2,"_law_words",ÅZ,Ij])(dN:#[ee,2,"_law_deed_due",ÍU,HQ]):Df P w K mg Â 8 "_law_full" ÒE Zro:=by
 rw[hi,T.t_l_full.df,Vu];obtain p|l|dl|d|B|c|H1|rfl|L|hc|I|np|q:=h;refine(_,#[Zf,#[XT,Ο,#[VN,Å2,#[Zd,Þ]],#[rT,4,Vu.nd],#[Zf,#[Zx,5,Vu.nd,á,#[ZC,Wd,Ý,‹4›]],#[Zf,#[ZI,#[YQ,QB,QC,QD,ZY,‹1›,#[Zd,#[ZA,gi,hr,#[Zd,Ý,#[ZT,Ïi],Ôg],É]]]],#[Zg,#[ZI,#[YQ,QB,QC,QD,ZY,‹2›,#[Zd,#[ZA,dN,hr,#[Zd,‹3›,Ý,‹5›,Ôg],É]]]]]]]],#[Zf,#[Zx,6,Vu.nd,á,#[ZC,Wd,Ý,#[y4,aZ,hr]]],#[Zg,#[XT,Ο,(@iT _ K _ _ _ #[YG,#[Zd,Û4,#[YG,#[Zd,Ý,Ý,Ôg]],Û4]] É),#[d6,7,Vu.nd,5,8],#[Zf,#[ZI,#[YQ,QB,QC,QD,ZY,‹1›,#[Zd,#[ZA,gi,hr,#[Zd,‹7›,#[ZT,Ïi],‹8›],É]]]],#[Zg,#[ZI,#[YQ,QB,QC,QD,ZY,‹2›,#[Zd,#[ZA,dN,hr,#[s5,3,7,5,8],É]]]]]]]]]],_,rfl,by lia,by lia,?_);refine UB (λj σ v=>(X5 λv4 v5 v6 v7 v8:Ã V=>σ=[U Ż,U Ă,U (.ref dl),U Τ,v4,v5,v6,v7,v8])/\AI H1 v d B l dl j j/\Y9 v p c) ((af,af,af,af,af,rfl),([],[],[],0,.nil,I,Û5,rfl,Qg _,λo h=>(by cases h)),L) ?_ ?_
 ·rintro j σ v hj ⟨⟨v4,v5,v6,v7,v8,rfl⟩,⟨os,as,R,c2,F,y,B2,aW,gM,hw⟩,L2⟩;have Ah:j<17:=hj;have mE:=MQ Ah;have jE:KsS ["k"]:=(by decide,λx i=>by rw[å i];exact(by ac_rfl,λc hc=>by have:c∈("k" : ak).cps.toList:=hc;rw[show ("k" : ak).cps.toList=[107] by ac_rfl]at this;have:=Ëg;lia));refine(_,rfl, "abcdefghijklmnopq",_,97+j,rfl,rfl,#[eE,17,aq],ZvN Ah,?_);show RI _ _ _ ([U Ż,U Ă,U (.ref dl),U Τ,U (.int (0+(j:Int))),U (.str (MR j)),v6,v7,v8]) v;generalize hnmE:MR j=k at mE ⊢;refine(_,rfl,.inl #[es,y.hr],_,rfl,Æf,λb G=>(Æf,λkb Gc=>?_));rw[dp];generalize upd v b (.lst [.str k])=H3 at S mC Gc ⊢;have s4:=Zi Gc #[gt,"k"];have rM:(upd H3 kb #[gt,"k"]) kb=U Û6:=Zb;have I4:=(y.on S).on s4;have L4:=(L2.same S).same s4;have wt:=s4 _ _ mC;generalize upd H3 kb (.lst [.str "k"])=H4 at rM I4 L4 wt ⊢;clear S s4 mC;refine(b,kb, "row",[k],["k"],rfl,wt,rM,#[eE,1,10],Ë,û,(λx i=>by rw[å i];exact Û7),#[h2,i,jE.2],λH5 s5=>?_);have I5:=I4.on s5;have L5:=L4.same s5;have j2:(Î5).length=j:=by rw[Qa];exact aW
  have qq:as.length=j:=by rw[Ã7];exact aW
  rw[MX (o:=.row k ["k"]) Ì7 (λz=>È z û)];rw[hc,l,I5.hr,j2];have W:=I5.pushR (Od.row k ["k"]).txt;have L6:=L5.push (o:=.lst ((Î5).map Å++[Å (Od.row k ["k"]).txt])) np.rl;generalize upd H5 l (.lst ((Án Àf).map Å++[Å (Od.row k ["k"]).txt]))=H6 at W L6 ⊢;refine(_,rfl,.inl #[es,W.hd],_,rfl,_,rfl,Æf,λX ic=>?_);have s7:=Zi ic #[gt,"k"];have Gd:(upd H6 X #[gt,"k"]) X=U Û6:=Zb;have I7:=W.on s7;have L7:=L6.same s7;generalize upd H6 X (.lst [.str "k"])=H7 at Gd I7 L7 ⊢;refine(d,B,X,R,c2, "row",k,["k"],.row k ["k"],rfl,I7.D,Gd,.inl ĳ,jE,#[uu].1,#[uu].2,λa R' c' H8 g t=>?_);refine(dl,_,_,rfl,rfl,(I7.to t).hd,#[er,qq],(_,_,_,_,_,rfl),Ïh F I7 B2 aW gM hw (o:=.row k ["k"]) (mE,jE) g t,(t.left L7 np.d np.rd).push np.dl)
 rintro σ v ⟨⟨v4,v5,v6,v7,v8,rfl⟩,A2,L2⟩;have hj1:KsS ["j"]:=(by decide,λx i=>by rw[å i];exact(by ac_rfl,λc hc=>by have:c∈("j" : ak).cps.toList:=hc;rw[show ("j" : ak).cps.toList=[106] by ac_rfl]at this;have:=Ëg;lia));have Ge:KsS []:=(by decide,λx i=>by cases i);have hq:NmS "q":=MQ (j:=16) Ë;refine#[ff,16,L2,H3,L3,B3];rw[gY,g,m,r,r.toNat];have ww:g<16:=by lia
 have A3:AI H1 H3 d B l dl 17 17:=by obtain os|as|R|c2|F|y|x:=A2;exact(os,as,R,c2,F,y.draw np L2 B3,x)
 refine("abcdefghijklmnop",_,97+g,rfl,rfl,#[eE,16,aq],Zwh ww,?_);have Ct:NmS ⟨#[(97)+g]⟩:=MQ (Nat.lt_succ_of_lt ww);generalize (⟨#[(97)+g]⟩:ak)=C at Ct ⊢;clear A2 L2 B3 r0 r1 ww;refine(_,rfl,Ŵ,λe1 ix=>(υ,λJ j7=>(Æf,λe2 j3=>(υ,λM ck=>?_))));refine(_,rfl,Ŵ,λe3 oP=>(υ,λN mF=>(υ,λtt D=>?_)));rw[rC,Y,ix,Cu,H3,e1];generalize upd H3 e1 (.lst [])=Gf at Y Cu j7 j3 ck oP mF D ⊢;have Z:=Zi j7 Ôh;have Cv:(upd Gf J Ôh) J=U Ôh:=Zb;generalize upd Gf J (.tup [.str "drop",.str C,.ref e1])=Gg at Z Cv j3 ck oP mF D ⊢;have pb:=Zi j3 #[gt,"j"];have Cw:(upd Gg e2 #[gt,"j"]) e2=U #[gt,"j"]:=Zb;generalize upd Gg e2 (.lst [.str "j"])=Gh at pb Cw ck oP mF D ⊢;have pc:=Zi ck Û8;rw[rt,Cy,Gh,M,Û8];generalize upd Gh M (.tup [.str "row",.str "q",.ref e2])=Gi at pc Cy oP mF D ⊢;rw[rC,pe,oP,Cz,Gi,e3];generalize upd Gi e3 (.lst [])=Gj at pe Cz mF D ⊢;have pf:=Zi mF Ôi;have CA:(upd Gj N Ôi) N=U Ôi:=Zb;generalize upd Gj N (.tup [.str "row",.str C,.ref e3])=Gk at pf CA D ⊢;have ph:=Zi D (.tup Ëo);have CB:(upd Gk tt (.tup Ëo)) tt=U (.tup Ëo):=Zb;generalize upd Gk tt (.tup [.ref J,.ref M,.ref N])=tW at ph CB  ⊢;have Gm:=ph _ _ (pf _ _ (pe _ _ (pc _ _ (pb _ _ (Z _ _ (Cu))))));have Gn:=ph _ _ (pf _ _ (pe _ _ (pc _ _ (pb _ _ (Cv)))));have Go:=ph _ _ (pf _ _ (pe _ _ (pc _ _ (Cw))));have Gp:=ph _ _ (pf _ _ (pe _ _ (Cy)));have Gq:=ph _ _ (pf _ _ (Cz));have Gr:=ph _ _ (CA);have sA:=(((((Y.trans Z).trans pb).trans pc).trans pe).trans pf).trans ph;have A9:AI H1 tW d B l dl 17 17:=by obtain os|as|R|c2|F|y|x:=A3;exact(os,as,R,c2,F,y.on sA,x)
 have L9:=L3.same sA;have fr:∀ {b:ae},H3 b=af->b≠d/\b≠B/\b≠l/\b≠dl:=λG=>by obtain os|as|R|c2|F|y|x:=A3;exact((Ze y.D.at' G).symm,(Ze y.D.rows G).symm,(Ze y.hr G).symm,(Ze y.hd G).symm)
 have n1:=fr (ÈB j7);have n2:=fr (ÈB (Ëp (Ïj ck)));have n3:=fr (ÈB (Ëp (Ïj (pc.free (pe.free mF)))));have m1:=fr ix;have m2:=fr (ÈB (Ëp j3));have m3:=fr (ÈB (Ëp (Ïj (pc.free oP))));have nt:=fr (ÈB (Ëp (Ïj (pc.free (pe.free (pf.free D))))));clear Y Z pb pc pe pf ph ix j3 oP j7 ck mF D sA A3 L3 fr Cu Cv Cw Cy Cz CA;have oQ:∀ (m:Nat) (x:V),(Ëo:À V)[m]? = U x->X6 λ(t O:ae) (wd k:ak) (ks:À ak) (o:Od)=>x=.ref t/\tW t=U #[eU,wd,k,O]/\tW O=U À1/\Wg wd k ks o/\NmS k/\KsS ks/\(wd = "drop"->ks=[])/\wd.length<=10/\(t≠d/\t≠B/\t≠l/\t≠dl)/\(O≠d/\O≠B/\O≠l/\O≠dl):=λm x i=>by
  match m,i with
  | 0,i=>cases i;exact(J,e1, "drop",C,[],.drop C,rfl,Gn,Gm,.inr (.inr ĳ),Ct,Ge,λ_=>rfl,û,n1,m1)
  | 1,i=>cases i;exact(M,e2, "row", "q",["j"],.row "q" ["j"],rfl,Gp,Go,.inl ĳ,hq,hj1,λz=>È z û,û,n2,m2)
  | 2,i=>cases i;exact(N,e3, "row",C,[],.row C [],rfl,Gr,Gq,.inl ĳ,Ct,Ge,λ_=>rfl,û,n3,m3)
  | m+3,i=>cases i
 clear n1 n2 n3 m1 m2 m3 Gn Gp Gr Gm Go Gq;refine(tt,rfl,(_,ö CB),?_);refine ZrV (K:=K) (a:=tt) (xs:=Ëo) (λj σ v=>(X4 λv4 v5 v7 v8:Ã V=>σ=[U Ż,U Ă,U (.ref dl),U Τ,v4,v5,U (.str C),v7,v8])/\AI H1 v d B l dl (17+j) (17+j)/\Y9 v p (c+1)/\∀b u,tW b=U u->b≠d->b≠B->b≠l->b≠dl->v b=U u) ((_,_,_,_,rfl),A9,L9,λb u G _ _ _ _=>G) (λj σ v hj h=>ö (h.2.2.2 _ _ CB nt.1 nt.2.1 nt.2.2.1 nt.2.2.2)) ?_ ?_
 ·rintro j x σ v i ⟨⟨v4,v5,v7,v8,rfl⟩,⟨os,as,R,c2,F,y,B2,aW,gM,hw⟩,L2,X⟩;have hj3:j<3:=(Ł i).1;obtain t|O|wd|k|ks|o|rfl|D|iJ|ho|mE|cu|rN|Cs|yF|wx:=oQ j x i;have ck:=X _ _ D yF.1 yF.2.1 yF.2.2.1 yF.2.2.2;have Gs:=X _ _ iJ wx.1 wx.2.1 wx.2.2.1 wx.2.2.2;refine(t,_,rfl,ö ck,rfl,_,_,rfl,_,_,rfl,_,_,rfl,rfl,_,rfl,.inl #[es,y.hr],_,rfl,_,rfl,Æf,λb G=>(_,rfl,?_));rw[dp];have I3:=y.on S;have L3:=L2.same S;have wz:=S _ _ Gs;have k3:∀n u,tW n=U u->n≠d->n≠B->n≠l->n≠dl->(upd v b #[gt,k]) n=U u:=λn u h a1 a2 a3 a4=>S _ _ (X n u h a1 a2 a3 a4);generalize upd v b (.lst [.str k])=H3 at mC I3 L3 wz k3 ⊢;refine(b,O,wd,[k],ks,rfl,mC,wz,#[eE,1,10],Qk cu.1 Ë,Cs,(λx i=>by rw[å i];exact Û7),#[h2,i,cu.2],λH5 s5=>?_);have I5:=I3.on s5;have L5:=L3.same s5;have Gu:=s5 _ _ wz;have j2:(Î5).length=17+j:=by rw[Qa];exact aW
  have qq:as.length=17+j:=by rw[Ã7];exact aW
  rw[MX ho rN];rw[hc,l,I5.hr,j2];have W:=I5.pushR Àg;have L6:=L5.push (o:=.lst Ëq) np.rl;have Ai:#[ha,H5,l,Ëq] O=U À1:=by rw[Zc wx.2.2.1];exact Gu
  have k6:∀n u,tW n=U u->n≠d->n≠B->n≠l->n≠dl->#[ha,H5,l,Ëq] n=U u:=λn u h a1 a2 a3 a4=>by rw[Zc a3];exact s5 _ _ (k3 n u h a1 a2 a3 a4)
  generalize upd H5 l (.lst ((Án Àf).map Å++[Å Àg]))=H6 at W L6 Ai k6 ⊢;refine(_,rfl,.inl #[es,W.hd],_,rfl,_,rfl,_,rfl,_,rfl,d,B,O,R,c2,wd,k,ks,o,rfl,W.D,Ai,ho,cu,#[uu].1,#[uu].2,λa R' c' H8 g t=>?_);refine(dl,_,_,rfl,rfl,(W.to t).hd,#[er,qq],Ó5,Ïh F W B2 aW gM hw (HL ho mE cu) g t,(t.left L6 np.d np.rd).push np.dl,λn u h a1 a2 a3 a4=>?_);rw[Zc a4];exact t.k _ _ (k6 n u h a1 a2 a3 a4) a1 a2
 ·rintro σ v ⟨⟨v4,v5,v7,v8,rfl⟩,A2,L2,X⟩;exact q _ _ A2 L2
def RL(K:Ä):Sp:=λvs H Q _=>X2 λ(a:ae) (ns:À Int)=>vs=η/\SqL K H a ξ/\Č<=63/\∀b,Q ÆL b
theorem ZwC(H:Hp)(p:ae):∃c:Hp,#[ft,u,c,H]/\c p=af/\#[ew,u,p,c]:=by
 refine(λb=>if b=p then af else H b,λb u a=>?_,Æ rfl,λb u a z=>?_)
 ·have a:(if b=p then af else H b)=U u:=a;by_cases z:b=p
  ·rw[sC,z,a];cases a
  ·rwa [Ç z]at a
 ·show (if b=p then af else H b)=U u;rw[zf,z];exact a
theorem Zuf{f:ae}{fd:bA}(F:Fun K "law" "law" Vx f fd)(T:Ù)(TD:Æe):YY P w K mg Â CX0 20 f fd ÍX (RL K):=by
 have ju:ÙH:=Zus T;have og:Df P w K mg Â 1 "_law_left" ÍJ (J3 K):=Zsz T;have X:Å1:=Zr8 T ju;have rO:#[ee,3,"_law_stems",ÅY,JN]:=ZqZ T X;have lu:ÙT:=Zts T X;have fK:Ób:=Zsc T X lu;have lI:ÛZ:=ZrF T fK;have jK:Df P w K mg Â 5 "_law_same" ÇI (JV 4):=JM T 4;have cU:ÒO:=Zih T;have gN:ÒW:=Zo8 T cU;have dS:Ò0:=ZpZ T;have lv:Ù3:=ZpJ T gN dS;have gu:Úe:=Zib T cU dS;have cE:Óc:=ZoQ T lv;have bG:Ît:=ZoJ T cE;have fJ:Ò3:=Zob T gN;have eU:Óg:=ZnF T;rw[eg,bF,ZrW];have be:=Zru T bF;have dU:=Zmq T fJ;have cx:=Zrs T be gu;have cV:=Js T be eU cx 8;have bb:=ZkH T cV;have gz:=Zh3 T bG dU bb;have fu:=Zot T be;have gy:=ZqJ T bF;have gb:=ZnZ T be;have jN:ÚE:=Zuc T eU;have gv:=Zlv T jN;have dH:=Zo6 T cx;have eG:=Zry T be gv dH;have gw:=Zse T fu eG;have eV:=ZlD T bG dU bb;rw[eg,cm,ZnV];have eJ:=Zka T bF cm bb;have fA:=Zld T fJ;have gx:=Zsi T cm bG be fA bb;rw[eg,dR,ZqV];rw[eg,uk,Zqp];have bZ:=Zlz T cE dR;rw[eg,bY,Zmf];have eI:=ZrO T bZ;have rP:=Zjr T bF bY;have fZ:=ZoR T bZ bY;have eK:=Zud T gw;rw[eg,fL,Zp3];have gZ:=ZnM T fL;have iz:=Zqw T fL;rw[eg,fW,ZrB];have fX:=Zqf T fW;have fH:=Znz T TD gZ iz fX;rw[eg,eN,ZtC];rw[eg,fY,ZsQ];rw[eg,bP,ZtK];have eW:=ZnX T fY;rw[eg,cG,Zoj];have gi:=Zn6 T bP;have gO:=ZpE T eV eI;have gc:=ZnG T gx fZ;have gf:=ZoK T eJ;have b6:=ZoB T eW;have eM:=Zl7 T b6;have fc:=ZlG T eK eM cG;have iA:=Zme T TD fH eN;have hG:=Zop T iA;have hJ:=Zqh T gz;have fe:=Zml T gy;have ff:=Zmb T gb b6 cG;have CC:=ZuD T TD hG hJ gO gc gf fc fe ff;rw[eg,rQ,ZpO];rw[eg,gA,Zo1];have dN:=ZlI T gA;rw[eg,cP,Zly];have dW:=Zpf T cP bP;have i7:=ZlZ T cP dW;have gg:=Zpr T cP bP;have pi:=Zqi T dW i7 gg;have tX:=ZnL T X gi dN;have rR:=ZnD T X;rw[eg,mH,ZnP];have tY:=ZpH T X fK lI;refine F.ok WK #[iv,vs] (λaP A Û s H vs Q E D h=>?_)
 ·obtain a|ns|rfl|_:=h;rfl
 rw[f8,a,G,hS,Bp];refine(_,#[Zf,#[Zx,1,Ä9,á,#[y4,og,D]],#[Zf,(@Zut _ _ 2 3 _ _ _ _ _ _ _ _ _ _ _ rfl Ä9 rfl rfl Ë rfl rfl #[Zd,#[sm,rR,D],#[sm,rO,D]] rfl É),#[Zf,(@ZrI _ _ 4 5 6 _ _ _ _ _ _ _ _ _ _ _ _ _ _ rfl Ä9 rfl rfl rfl rfl rfl rfl #[Zd,(@Zuy _ _ _ _ _ _ _ _ rQ D ÊE É Ë),Â6,Â6] rfl É),(@SW _ _ _ _ _ #[ZN,#[ry,YT,Û9],#[Zg,#[ZI,#[ZA,tX,D,#[s5,1,5,6,4],É]]],ò] #[Zf,#[XT,Ο,(@MC _ _ _ _ _ _ _ rfl Å2 #[Zd,Þ,#[Zp,(Rw rfl),É,Óu,boot_max,#[Zd,Þ,#[Zp,(Mq rfl),É,ÎD,ÎE,#[Zd,ÇP,#[ZC,ω,#[ZT,#[Zd,Þ,Þ]],#[W9,Rv,ÊA,ÊB,#[Zd,#[X1,(@neD _ K _ D É),‹5›,Â6,ă]]]]]]]]] É É),#[rT,7,Ä9],#[Zf,#[Zx,1,Ä9,á,#[rX,og,D,0,7]],#[Zf,#[YB,#[gb,tY,D,1,2,3],#[d6,8,Ä9,9,10]],#[Zf,#[Zx,10,Ä9,á,#[Z0,#[Xd,#[ZA,mH,D,Ïi,É]],‹10›,Â6]],#[Zf,#[ZI,#[YQ,QB,QC,QD,ZY,‹5›,#[Zd,#[ZA,gi,D,#[Zd,‹8›,#[ZT,#[Zd,‹9›]],‹10›],É]]]],#[Zf,#[ZI,#[YQ,QB,QC,QD,ZY,‹6›,#[Zd,#[ZA,dN,D,#[s5,4,8,9,10],É]]]],#[Zf,#[Zx,8,Ä9,á,#[ZC,ω,#[ZT,#[Zd,Ý,Ý,Ý]],Û9]],#[Zf,#[ZI,#[YQ,QB,QC,QD,ZY,‹5›,#[Zd,#[ZR,U8,‹8›,#[ZR,LH,Ý,#[W9,Rv,ÊA,ÊB,#[Zd,#[r6,YT,8]]]]]]]],#[Zg,#[ZI,#[YQ,QB,QC,QD,ZY,‹6›,#[Zd,#[hj,pi,D,4,8]]]]]]]]]]]]],#[Zg,#[Zm,#[ZA,jK,D,#[Zd,#[ZA,CC,D,#[Zd,#[yW,Ïi]],É],‹6›],É]]]])]]],_,rfl,a,G,_,rfl,hS,Bp,by decide,by decide,λY H1 vD L0 s1=>?_);refine(_,rfl,Y,0,rfl,L0,by decide,λnl ns c2 H2 Aj rE eO n1 n20 L2 g1 g2 B2=>?_);refine(_,rfl,Y,c2,rfl,L2,by lia,λsl ss c3 H3 Ak fU m1 m4 yE L3 g3 g4 B3=>?_);refine(_,_,rfl,?_);have tV:nl≠Y:=λz=>by obtain u|y:=L0.here;rw[<- z,Aj]at y;cases y
 have Al:=B3 _ _ rE tV;have s3:ZD H H3:=λb o i=>B3 b o (B2 b o (s1 b o i) (Ze i vD)) (Ze i vD);have wu:sl≠Y:=λz=>by obtain u|y:=L2.here;rw[<- z,Ak]at y;cases y
 obtain L|CD|Gv|rg:=ZwC H3 Y;have Gw:=rg _ _ Al tV;have Gx:=rg _ _ fU wu;have sx:ZD H L:=λb o i=>rg _ _ (s3 _ _ i) (Ze i vD);have fx:∀ {b:ae},H3 b=af->L b=af:=λ{b} i=>by
  cases z:L b with
  | none=>rfl
  | some u=>rw[CD _ _ z]at i;cases i
 have hc3:c3<2 ^ 38:=by lia
 clear B2 B3 L0 L2 g1 g2 g3 g4 rE Aj Ak tV wu;refine(rfl,λd Z Hb rL wA D0 sb=>(Ŵ,λk jJ=>(Ŵ,λdl jZ=>(_,_,_,rfl,?_))));rw[gH,s4,jJ,sV,Hb,k];generalize upd Hb k (.lst [])=H4 at s4 sV jZ ⊢;rw[gH,s5,jZ,wB,H4,dl];generalize upd H4 dl (.lst [])=H5 at s5 wB ⊢;have I5:AL L H5 d Z k dl [] 0 [] []:=(λb u i=>s5 _ _ (s4 _ _ (sb _ _ (CD _ _ i))),(D0.same s4).same s5,s5 _ _ sV,wB,Ze sV jZ,fx rL,fx wA,fx (Ïk jJ),fx (Ïk (s4.free jZ)),λe he=>by cases he);have CF:NA L d Z k dl Y:=by obtain u|y:=L3.here;exact((λz=>by rw[z,rL]at y;cases y),(λz=>by rw[z,wA]at y;cases y),(λz=>by rw[z,Ïk jJ]at y;cases y),(λz=>by rw[z,Ïk (s4.free jZ)]at y;cases y),Gv)
 have L5:=((L3.same sb).same s4).same s5;clear CD Gv rg fx L3 s3 Al fU sb s4 s5 sV wB D0 rL wA jJ jZ;refine(λσ H'=>(∃v1:Ã V,σ=[U Ħ,v1,U (.ref nl),U (.ref sl),U Τ,U (.ref k),U (.ref dl),af,af,af,af])/\∃m,(m=0\/m=20)/\AI L H' d Z k dl m m,?_,?_)
 ·refine(_,rfl,Y,c3,3,rfl,L5,by lia,by decide,by decide,λr H6 r0 r1 L6 B6=>(rfl,_,rfl,?_));have I6:=I5.draw CF L5 B6;clear I5 L5 B6;refine Y0 Å4 Å4
  ·refine(_,rfl,_,rfl,_,rfl,_,rfl,Y,k,dl,d,Z,c3+1,L,rfl,L6,by lia,I6,CF,λH7 c7 A7 _=>((_,rfl),20,.inr rfl,A7))
  ·exact((_,rfl),0,.inl rfl,([],[],[],0,.nil,I6,Û5,rfl,Qg _,λo h=>(by cases h)))
 rintro σ H7 ⟨⟨v1,rfl⟩,m,xM,A7⟩;clear I5 L5 CF hc3;obtain os|O|R|c|M|I7|B7|C|gM|hw:=A7;refine(_,rfl,a,_,rfl,.inl ((sx.trans I7.same).seq hS),Á1,λb i=>?_);have s8:=Zi i Üa;rw[rt,CG,H7,b,Üa];have I8:=I7.on s8;generalize upd H7 b (.lst [.int 26,.int 13])=H8 at CG I8 ⊢;rw[fw,z,hz,s9];have I9:=I8.on s9;rw[eH,CH,H8,z,ÁN];have CI:=s9 _ _ CG;generalize upd H8 z (.lst [])=H9 at CI CH I9 ⊢;refine(.list ((Î5).map Å3),.list [],.lst (Ï I9.hr) (Sk _),.lst (Ï CH) .nil,HN _ (λx hx=>by obtain o|J|rfl:=Ğ hx;exact ZrQ (hw o J)),û,?_);refine Çf ÊF;rw[Æ rfl,HM];obtain⟨n,cB,bN,fD,bO⟩:∃n:Int,n+m<=33/\13<=n/\n<=26/\atI [ì 26,.int 13] (if (!decide (Án Àf=[]))=true then 1 else 0)=U (.int n):=by
  rcases xM with rfl|rfl
  ·have:os=[]:=Ê7 C;rw[this];exact(26,by decide,by decide,by decide,rfl)
  ·have cQ:¬ Án Àf=[]:=λz=>by rw[Üb z]at C;cases C
   rw[ē cQ];exact(13,by decide,by decide,by decide,rfl)
 refine(b,_,_,_,rfl,rfl,Ï CI,bO,_,_,rfl,_,_,rfl,_,_,rfl,?_);have hN:Üc<=n/\9<=Üc:=by split<;>(try split)<;>lia
 generalize (if (if n<(((Â7 ì).length:Nat):Int) then n else (((Â7 ì).length:Nat):Int))>9 then (if n<(((Â7 ì).length:Nat):Int) then n else (((Â7 ì).length:Nat):Int)) else 9)=N at hN ⊢;refine(by lia,?_);clear bO i hz CG CI CH s8 s9 I7 I8 xM;refine UB (λj σ H=>(X5 λv1 v7 v8 v9 CJ:Ã V=>σ=[U Ħ,v1,U (.ref nl),U (.ref sl),U Τ,U (.ref k),U (.ref dl),v7,v8,v9,CJ])/\AI L H d Z k dl (m+j) (m+2*j)) ((_,_,_,_,_,rfl),os,O,R,c,M,I9,B7,C,gM,hw) ?_ ?_
 ·clear M I9 B7 C gM hw;rintro j σ mh hj ⟨⟨v1,v7,v8,v9,CJ,rfl⟩,os,O,R,c,M,I,B,C,gM,hw⟩;have hj25:m+j<33:=by lia
  have hos90:ÀM<=86:=by lia
  refine(_,rfl,_,rfl,a,G,_,rfl,(sx.trans ÈA).seq hS,Bp,by lia,by lia,λp uL hp CK xJ=>?_);have np:=I.np hp;have oB:=I.on xJ;clear I hp xJ;refine(_,rfl,_,rfl,_,rfl,p,nl,sl,0,ns,ss,rfl,CK,by decide,oB.same _ _ Gw,n1,n20,eO,oB.same _ _ Gx,m1,m4,yE,λt kl wd s ks o c' tw ht iJ Am An J hs W rN Gy g1 g2 Gz=>?_);have u0:=oB.draw np CK Gz;have wC:kl≠k:=λz=>by have:=oB.hr;rw[<- z,iJ]at this;cases this
  clear oB CK Gz ht iJ;refine(t,_,rfl,ö Am,rfl,_,_,rfl,_,_,rfl,_,_,rfl,rfl,_,rfl,k,Án Àf,rfl,u0.hr,ÅN,(λz hz=>by obtain o|J|rfl:=Ğ hz;exact Qk (MZ (hw o J)) Ë),λb H13 qp=>?_);have yG:=u0.on qp;have CL:=Gy.same qp;have Ao:=qp _ _ An;clear u0 Gy An Am qp;refine ÊF;have GA:∃o0,Wg wd s [] o0:=by
   rcases J with⟨h,_⟩|⟨h,_⟩|⟨h,_⟩
   ·exact(_,.inl (h,rfl))
   ·exact(_,.inr (.inl (h,rfl)))
   ·exact(_,.inr (.inr (h,rfl)))
  refine Ny (λv yH=>X3 λ(rS:ae) (e8:À ak) (o':Od)=>v=.ref rS/\yH rS=U #[ef,e8.map]/\Wg wd s e8 o'/\KsS e8/\(wd = "drop"->e8=[])/\rS≠k/\AL L yH d Z k dl R c Î5 O/\Y9 yH p c') (λ_ Q' hq=>(_,rfl,hq _ _ (kl,ks,o,rfl,Ao,J,W,rN,wC,yG,CL))) (λ_ Q' hq=>(Ŵ,λe he=>?_)) #[iz,v,yH,hv]
  ·rw[ep,o0,h0,GA];exact hq _ _ (e,[],o0,rfl,Zb,h0,(by decide,λx hx=>by cases hx),λ_=>rfl,(Ze yG.hr he).symm,yG.on (Zi he _),CL.new he)
  clear J W rN Ao wC yG CL GA o;obtain rS|e8|o|rfl|wD|J|W|rN|wC|CM|GB:=hv;have j2:(Î5).length=m+2*j:=by rw[Qa];exact C
  have qq:O.length=m+2*j:=by rw[M.len];exact C
  have wo:OdW o:=HL J hs W;refine(_,rfl,.inl #[es,CM.hr],_,rfl,_,rfl,Æf,λb i=>(_,rfl,?_));have wE:=Zi i #[gt,s];refine(b,rS,wd,[s],e8,rfl,Zb,wE _ _ wD,#[eE,1,10],Qk W.1 Ë,?_,(λx hx=>by rw[å hx];exact(Qk hs.2.2 Ë,hs.1)),#[h2,hx,W.2],λGC yI=>?_)
  ·rcases J with⟨rfl,_⟩|⟨rfl,_⟩|⟨rfl,_⟩<;>ac_rfl
  rw[MX J rN];have CN:=(CM.on wE).on yI;have GD:=(GB.same wE).same yI;have Ap:=yI _ _ (wE _ _ wD);clear CM GB wD wE yI i;rw[hc,k,CN.hr,j2];have tZ:=CN.pushR Àg;have CO:=GD.push (o:=.lst Ëq) np.rl;have wF:#[ha,GC,k,Ëq] rS=U #[ef,e8.map]:=by rw[Zc wC];exact Ap
  generalize upd GC k (.lst ((Án Àf).map Å++[Å Àg]))=H17 at tZ CO wF ⊢;clear CN GD Ap;refine(_,rfl,.inl #[es,tZ.hd],_,rfl,_,rfl,_,rfl,_,rfl,d,Z,rS,R,c,wd,s,e8,o,rfl,tZ.D,wF,J,W,(B.due Á).1,(B.due Á).2,λa2 R2 c2 H18 g tt=>?_);refine(dl,_,_,rfl,rfl,(tZ.to tt).hd,#[er,qq],?_);have GF:=Ïh M tZ B C gM hw wo g tt;have yJ:=(tt.left CO np.d np.rd).push (o:=.lst (O.map Å++[Å a2])) np.dl;generalize upd H18 dl (.lst (O.map Å++[Å a2]))=GG at GF yJ ⊢;clear tt g tZ CO wF M C gM hw B j2 qq wo J W rN hs wC;obtain os|O|R|c|M|I|B|C|gM|hw:=GF;have j2:(Î5).length=m+2*j+1:=by rw[Qa];exact C
  have qq:O.length=m+2*j+1:=by rw[M.len];exact C
  rw[y7,υ,b,i];have CP:=Zi i Üd;rw[eH,wG,GG,b,Üd];have CQ:=I.on CP;have yK:=yJ.same CP;have nbp:b≠p:=λz=>by obtain u|y:=yJ.here;rw[<- z,i]at y;cases y
  generalize upd GG b (.lst [.str "rows",.str "left",.str "take"])=H20 at wG CQ yK ⊢;clear I yJ CP i;refine(_,rfl,p,c',3,rfl,yK,by lia,by decide,by decide,λr H21 r0 r1 L21 CS=>?_);have CT:=CQ.draw np yK CS;have GH:=CS _ _ wG nbp;clear CQ yK wG CS;obtain⟨w2,o2,bO,GI,vU,rL,wo2,jx⟩:X2 λ(w2:ak) (o2:Od)=>atI [Å "rows",.str "left",.str "take"] r=U (.str w2)/\Hr w2 1 o2/\w2++Çk " 1" (if decide (Å w2=Å "take")=true then 1 else 0)=o2.txt/\o2.deed=0/\OdW o2/\w2.length<=4:=by
   rw[rr];rcases(show r=0\/r=1\/r=2 by lia) with rfl|rfl|rfl
   ·exact("rows",.rows,rfl,.inr Ì7,by rw[ē ÁU];ac_rfl,rfl,trivial,by ac_rfl)
   ·exact("left",.left,rfl,.inr (.inr ĳ),by rw[ē ÁU];ac_rfl,rfl,trivial,by ac_rfl)
   ·exact("take",.take 1,rfl,.inl ĳ,by rw[Ĉ rfl];ac_rfl,rfl,#[hB,1,10],by ac_rfl)
  refine(b,_,_,_,rfl,rfl,Ï GH,bO,?_);have e2l:#[fr," 1",2]:=by ac_rfl
  refine(_,rfl,.inl #[es,CT.hr],_,rfl,_,rfl,rfl,?_);refine Çf (_,rfl, " 1",_,rfl,rfl,(by split<;>decide),(by split<;>decide),(by rw[e2l];split<;>decide),w2,_,rfl,rfl,?_,?_)
  ·exact Ĩ (by split<;>(first|(rw[show (Çk " 1" 1).length=2 by ac_rfl];lia)|(rw[show (Çk " 1" 0).length=0 by ac_rfl];lia)))
  rw[vU];rw[hc,k,CT.hr,j2];have wH:=CT.pushR o2.txt;generalize upd H21 k (.lst ((Án Àf).map Å++[Å o2.txt]))=H22 at wH ⊢;refine(_,rfl,.inl #[es,wH.hd],_,rfl,_,rfl,d,Z,R,c,m+j+1,1,w2,o2,rfl,wH.D,B,by lia,by decide,GI,λa3 R3 H23 g D3 k3=>?_);refine(dl,_,_,rfl,rfl,(wH.ask g D3 k3).hd,#[er,qq],(_,_,_,_,_,rfl),?_);have A24:=AI.ask M wH B C gM hw wo2 rL g D3 k3;rw[show m+(j+1)=m+j+1 by lia,show m+2*(j+1)=m+2*j+1+1 by lia];exact A24
 ·rintro σ H ⟨⟨v1,v7,v8,v9,CJ,rfl⟩,os,O,R,c,M,I,B,C,gM,hw⟩;have j2:ÀM<=90:=by lia
  have cQ:os≠[]:=λz=>by rw[z]at C;simp at C;lia
  have e1:#[fr,"\n",1]:=by ac_rfl
  have qe:∀l:À Od,(∀o∈l,OdW o)->((ÂS Àf).map Ân).sum<=612*Ų:=λl=>by
   induction l with
   | nil=>intro _;exact Qg _
   | Í o r ih=>intro h;have h1:=MZ (h o Ö);have h2:=#[gf,ih,o',gp];rw[Qj,Qj,QR,QA];lia
  have hs:=qe os hw;have fs:∀ (L:Hp) (l:À ak),F2 (IsD L 3) (ÂS Å) (ÂS Å):=λL l=>by
   induction l with
   | nil=>exact F2.nil
   | Í s r ih=>exact .cons (ZpV (.inr (.inr (.inr (s,rfl))))) ih
  refine(rfl,_,rfl,_,k,Án Àf,rfl,rfl,Ï À2,?_,?_)
  ·rw[e1,Qa];lia
  refine(os,rfl,cQ,hw,j2,by lia,λbs S l H2 GJ hl bN k2=>?_);obtain e|_:=M.link GJ;subst e;have xL:O.length=ÀM:=M.len;exact(_,rfl,.ref l,.ref dl,rfl,ZsJ bN (k2 _ _ À3) ÅN (fs H2 O),λH4 _=>q H4)
universe E
def FF(K:Ä)(x q:ak)(st:aM)(f:ae):Prop:=X9 λ(b c:Ã ae) (sl:Ā (Ã aa)) (d kV e g a ct:aa)=>ĥ f=U (d,b,.func #[gi,q,c,a],sl)/\Él K a q=true/\À9 K č=true
theorem ZF{K:Ä}{h:aI}{mg:þ}{x:ak}{st:aM}{ps:Ñ}{f:ae}(X:Ū h)(G:h.Ns aL mg)(a:Ņ K aL x=U ÀC)(g:FF K x x st f)(hb:#[ej,e,d,i,x]):Top K mg x st ps:=by obtain od|d|sl|oc|kV|dc|b|cd|ct|l|c|k:=g;exact(_,_,WP (st:=st) l c k,QL X G a,#[qr].binds hb)
theorem XO{K:Ä}{C:ae}{x q:ak}{st:aM}{ps:Ñ}{f:ae}(a:ī K ç x=U ÀC)(i:Ï7)(g:FF K x q st f)(hb:#[ej,e,d,h,q]):Ym K C x q st ps:=by obtain od|d|sl|oc|kV|dc|b|cd|ct|l|c|k:=g;exact(_,_,WP (st:=st) l c k,(a,i,k),#[qr].binds hb)
theorem MP{K:Ä}{h:aI}{mg:þ}{C:ae}{x q:ak}{st:aM}{ps:Ñ}{f:ae}(X:Ū h)(G:h.Ns aL mg)(m:#[hF,C])(e:À9 K ç=true)(j:Ņ K aL x=U (U ç))(a:#[h3,C,f])(i:Ï7)(g:FF K "__init__" q st f)(hb:∀ (kV n b:aa) (d:Ã ae) (o ct:aa) (us:À aa),ÀO=ÀD->bindArgs (ÅA "__init__" q (WD st) ÂF (Zh st) .none kV n b d o ct) Éi=pure ÆZ):U0 K mg C x q st ps:=by obtain od|d|sl|oc|kV|dc|b|cd|ct|l|c|k:=g;exact(_,_,WP (st:=st) l c k,(m,a,i,e),#[qr].binds hb,QL X G j)
theorem MO{n:Nat}{us:æ}(h:ÀO=n+1):X2 λa r=>us=a::r/\ÀV=n:=by obtain a|r|rfl:=List.exists_cons_of_length_eq_add_one h;exact(a,r,rfl,Nat.succ.inj h)
theorem YH(us:æ)(h:ÀO=1):∃a0,us=[a0]:=QaK.mp h
theorem Yx(us:æ)(h:ÀO=2):X2 λa0 b=>us=[a0,b]:=by obtain a|r|rfl|g:=MO h;obtain c|rfl:=YH r g;exact(a,c,rfl)
theorem Yb(us:æ)(h:ÀO=3):X3 λa0 b c=>us=[a0,b,c]:=by obtain a|r|rfl|g:=MO h;obtain d|e|rfl:=Yx r g;exact(a,d,e,rfl)
theorem MN(us:æ)(h:ÀO=4):X4 λa0 b c d=>us=[a0,b,c,d]:=by obtain a|r|rfl|g:=MO h;obtain e|f|i|rfl:=Yb r g;exact(a,e,f,i,rfl)
theorem all_mk{l:ÐR}{w:aF}{K:Ä}{h:aI}{mg:þ}{fa:ae}(X:Ū h)(G:h.Ns aL mg)(hfa:mg "law" = U (.ref fa))
  {aw am aB ap aJ aA ao au:ae}
  {yL CU:ak} {CW:ae} {yM:æ} {yN:Ñ} {wI:æ} {yO:Ð} {wJ:Ïl} {yP:Ġ} {yQ yR yS yT yU:Ã5}
  {wK yV:ak} {yW:ae} {wL:æ} {wM:Ñ} {ua:æ} {wN:Ð} {uc:Ïl} {wP:Ġ} {wQ wR wT wU wV:Ã5}
  {mI pj:ak} {pk:ae} {mJ:æ} {mK:Ñ} {lJ:æ} {mL:Ð} {lK:Ïl} {mM:Ġ} {mN mO mP mQ mR:Ã5}
  {rT ud:ak} {ue:ae} {rV:æ} {rW:Ñ} {qr:æ} {rX:Ð} {qu:Ïl} {rY:Ġ} {rZ r6 r8 r9 se:Ã5}
  {f0 f1 f2 f3 f4 f5 f6 f7 f8 f9 GK GL GN GO GP GQ GR GS GU GV GW GX GY GZ CY CZ C0 C3 C4 C5 G0 G1 G2 G3 G4 G5 G6 G7 G8 G9 G' Ha Hc He Hg Hh Hj Hk Hl J' K' U' V' Y' C6 C7 C8 C9 Db Dc Dd De Dg Dh Di Dj Dk Dl Dm Do Dp Dq Dr Ds:ae}
  {yX j9 qv pp pq mS sf sg:Tok}
  {bQ:ae} {oh:ÅQ} {uf:Nat}
  {dL:ae} {lL:Ġ} {lM:Nat} {lN:ν} {jy jz:Tok}
  {br:ae} {qw:ÅQ} {wW:Nat}
  {bv:ae} {qx:ÅQ} {wX:Nat}
  {dM:ae} {lO:Ġ} {lP:Nat} {lQ:ν} {jA:Tok} {e9:ae} {pr:Ġ} {pA:Nat} {pB:ν} {ke:Tok}
  {dh:ae} {kh:Ġ} {ki:Nat} {km:ν} {i8:Tok} {er:ae} {mT:Ġ} {mU:Nat} {mV:ν} {jP:Tok}
  {dj:ae} {kn:Ġ} {ko:Nat} {kq:ν} {i9:Tok} {eA:ae} {mW:Ġ} {mX:Nat} {mY:ν}
  {dk:ae} {ku:Ġ} {kA:Nat} {kB:ν} {i':Tok} {eB:ae} {mZ:Ġ} {m5:Nat} {m6:ν}
  {dr:ae} {kC:Ġ} {kD:Nat} {kE:ν} {eD:ae} {m7:Ġ} {m8:Nat} {m9:ν}
  {du:ae} {kF:Ġ} {kG:Nat} {kH:ν} {eE:ae} {nc:Ġ} {ng:Nat} {nh:ν}
  (Dt:#[eK,"Row",aw]) (Du:#[rM,aw]) (Dv:#[e7,aw]) (Dw:#[rB,aw]) (Dx:#[gI,aw]) (Dy:#[hF,aw]) (Dz:#[Xki,K,aw])
  (kI:#[ev,aw,"all_keys"])
  (qy:#[ev,aw,"fars"])
  (qz:#[ev,aw,"gone"])
  (wY:#[eK,"Merge",am]) (wZ:#[rM,am]) (w6:#[e7,am]) (w8:#[rB,am]) (xa:#[gI,am]) (xb:#[hF,am]) (xg:#[Xki,K,am])
  (ni:#[ev,am,"best"])
  (jQ:#[ev,am,"likened"])
  (kJ:#[ev,am,"looked"])
  (iB:#[ev,am,"next_number"])
  (nq:#[ev,am,"rows"])
  (lR:#[ev,am,"stays"])
  (yY:#[eK,"Desk",aB]) (yZ:#[rM,aB]) (y0:#[e7,aB]) (y4:#[rB,aB]) (y6:#[gI,aB]) (y8:#[hF,aB]) (y9:#[Xki,K,aB])
  (nr:#[ev,aB,"merge"])
  (kK:#[ev,aB,"numbers"])
  (nu:#[eK,"MergeError",ap])
  (sW:#[eK,"Full",aJ])
  (qA:#[eK,"NoRow",aA])
  (iS:#[eK,"OutOfOrder",ao])
  (lS:#[eK,"BadLine",au])
  (lT:Éa K ÄM "__getattribute__" = U Ùa)
  (lU:Ùb K ap Êj=true)
  (lV:Ùc K ÄM Êj "__init__" = U (.val ÄH))
  (sX:ĥ aJ=U (Àw yL CU aJ CW yM ÇM true yN wI yO wJ yP yQ yR yS yT yU "ValueError.__new__"))
  (za:#[Xki,K,aJ])
  (zb:#[fl,Ŀ,ÄH])
  (zc:#[fE,Ŀ])
  (zd:#[gk,Ŀ])
  (ze:#[ez,Ŀ,ÀH])
  (zf:#[e7,aJ])
  (zg:#[fT,Ŀ])
  (zh:#[gh,aJ])
  (zi:#[ez,Ŀ,Âi])
  (pC:#[ez,Ŀ,Ŀ])
  (ja:#[gu,Ŀ,ap])
  (nv:#[eL,Ŀ,ŀ])
  (jb:#[eL,Ŀ,ĭ])
  (kL:#[eL,Ŀ,Ķ])
  (xh:ĥ aA=U (Àw wK yV aA yW wL ÇM true wM ua wN uc wP wQ wR wT wU wV "ValueError.__new__"))
  (xi:#[Xki,K,aA])
  (xj:#[fl,ŀ,ÄH])
  (xk:#[fE,ŀ])
  (xl:#[gk,ŀ])
  (xm:#[ez,ŀ,ÀH])
  (xn:#[e7,aA])
  (xp:#[fT,ŀ])
  (xq:#[gh,aA])
  (xr:#[ez,ŀ,Âi])
  (lW:#[ez,ŀ,ŀ])
  (iM:#[gu,ŀ,ap])
  (nw:#[eL,ŀ,Ŀ])
  (iN:#[eL,ŀ,ĭ])
  (jR:#[eL,ŀ,Ķ])
  (iU:ĥ ao=U (Àw mI pj ao pk mJ ÇM true mK lJ mL lK mM mN mO mP mQ mR "ValueError.__new__"))
  (nA:#[Xki,K,ao])
  (nB:#[f1,ĭ])
  (jB:ī K ĭ "row" = U af)
  (iO:ī K ĭ "place" = U af)
  (nC:#[fE,ĭ])
  (nD:#[gk,ĭ])
  (nE:#[ez,ĭ,ÀH])
  (nF:#[e7,ao])
  (nG:#[fT,ĭ])
  (nH:#[gh,ao])
  (nJ:#[ez,ĭ,Âi])
  (gC:#[ez,ĭ,ĭ])
  (gD:#[gu,ĭ,ap])
  (jc:#[eL,ĭ,Ŀ])
  (iP:#[eL,ĭ,ŀ])
  (ii:#[eL,ĭ,Ķ])
  (si:ĥ au=U (Àw rT ud au ue rV ÇM true rW qr rX qu rY rZ r6 r8 r9 se "ValueError.__new__"))
  (sj:#[Xki,K,au])
  (sk:#[f1,Ķ])
  (kM:ī K Ķ "line" = U af)
  (sq:#[fE,Ķ])
  (sr:#[gk,Ķ])
  (su:#[ez,Ķ,ÀH])
  (sv:#[e7,au])
  (sy:#[fT,Ķ])
  (sC:#[gh,au])
  (sE:#[ez,Ķ,Âi])
  (jd:#[ez,Ķ,Ķ])
  (ij:#[gu,Ķ,ap])
  (kN:#[eL,Ķ,Ŀ])
  (jS:#[eL,Ķ,ŀ])
  (ik:#[eL,Ķ,ĭ])
  (eX:#[f0,ap])
  (eY:#[rs,ÄM])
  (pD:#[f0,aJ])
  (pE:#[rs,Ŀ])
  (lX:#[f0,aA])
  (lY:#[rs,ŀ])
  (gE:#[f0,ao])
  (gF:#[rs,ĭ])
  (je:#[f0,au])
  (jf:#[rs,Ķ])
  (hkg:Õb)
  (Co:Õc)
  (a0:#[eK,"halves",f0]) (g0:FF K "halves" "halves" PM f0)
  (a1:#[eK,"way_up",f1]) (g1:FF K "way_up" "way_up" PL f1)
  (a2:#[eK,"is_key",f2]) (g2:FF K "is_key" "is_key" PH f2)
  (a3:#[eK,"alike",f3]) (g3:FF K "alike" "alike" PF f3)
  (a4:#[eK,"liken",f4]) (g4:FF K "liken" "liken" PD f4)
  (a5:#[eK,"liken_from",f5]) (g5:FF K "liken_from" "liken_from" PB f5)
  (a6:#[eK,"alike_from",f6]) (g6:FF K "alike_from" "alike_from" Pz f6)
  (a7:#[eK,"order_at",f7]) (g7:FF K "order_at" "order_at" Py f7)
  (a8:#[eK,"first_break",f8]) (g8:FF K "first_break" "first_break" Px f8)
  (a9:#[eK,"alikes",f9]) (g9:FF K "alikes" "alikes" Pw f9)
  (fg:#[eK,"refuse_break",GK]) (g10:FF K "refuse_break" "refuse_break" Pu GK)
  (kZ:#[eK,"matches_up",GL]) (g11:FF K "matches_up" "matches_up" Pt GL)
  (oj:#[eK,"read_word",GN]) (g12:FF K "read_word" "read_word" Ps GN)
  (qC:#[eK,"read_name",GO]) (g13:FF K "read_name" "read_name" Pr GO)
  (um:#[eK,"read_key",GP]) (g14:FF K "read_key" "read_key" Pq GP)
  (Ar:#[eK,"read_number",GQ]) (g15:FF K "read_number" "read_number" Pp GQ)
  (a16:#[eK,"are_figures",GR]) (g16:FF K "are_figures" "are_figures" Po GR)
  (a17:#[eK,"written_key",GS]) (g17:FF K "written_key" "written_key" Pn GS)
  (a18:#[eK,"written_thing",GU]) (g18:FF K "written_thing" "written_thing" Pm GU)
  (a19:#[eK,"with_blanks",GV]) (g19:FF K "with_blanks" "with_blanks" Pk GV)
  (a20:#[eK,"run",GW]) (g20:FF K "run" "run" Pj GW)
  (a21:#[eK,"orders_in",GX]) (g21:FF K "orders_in" "orders_in" Pg GX)
  (a22:#[eK,"order_in",GY]) (g22:FF K "order_in" "order_in" Ug GY)
  (a23:#[eK,"may_be_further",GZ]) (g23:FF K "may_be_further" "may_be_further" Pf GZ)
  (Z':#[eK,"do_row",CY]) (g24:FF K "do_row" "do_row" Pe CY)
  (a25:#[eK,"do_grow",CZ]) (g25:FF K "do_grow" "do_grow" Pd CZ)
  (a26:#[eK,"do_drop",C0]) (g26:FF K "do_drop" "do_drop" Pc C0)
  (a27:#[eK,"ask_take",C3]) (g27:FF K "ask_take" "ask_take" Pb C3)
  (a28:#[eK,"ask_left",C4]) (g28:FF K "ask_left" "ask_left" Pa C4)
  (a29:#[eK,"ask_rows",C5]) (g29:FF K "ask_rows" "ask_rows" O9 C5)
  (a30:#[eK,"written_things",G0]) (g30:FF K "written_things" "written_things" SM G0)
  (a31:#[eK,"written_heads",G1]) (g31:FF K "written_heads" "written_heads" Uf G1)
  (a32:#[eK,"_law_mix",G2]) (g32:FF K "_law_mix" "_law_mix" O8 G2)
  (a33:#[eK,"_law_left",G3]) (g33:FF K "_law_left" "_law_left" O7 G3)
  (a34:#[eK,"_law_pick",G4]) (g34:FF K "_law_pick" "_law_pick" O6 G4)
  (a35:#[eK,"_law_stems",G5]) (g35:FF K "_law_stems" "_law_stems" SK G5)
  (a36:#[eK,"_law_key",G6]) (g36:FF K "_law_key" "_law_key" SJ G6)
  (a37:#[eK,"_law_keys",G7]) (g37:FF K "_law_keys" "_law_keys" O5 G7)
  (a38:#[eK,"_law_row",G8]) (g38:FF K "_law_row" "_law_row" O4 G8)
  (a39:#[eK,"_law_same",G9]) (g39:FF K "_law_same" "_law_same" SI G9)
  (a40:#[eK,"_law_begun",G']) (g40:FF K "_law_begun" "_law_begun" O3 G')
  (a41:#[eK,"_law_in_order",Ha]) (g41:FF K "_law_in_order" "_law_in_order" SH Ha)
  (a42:#[eK,"_law_deed_due",Hc]) (g42:FF K "_law_deed_due" "_law_deed_due" O2 Hc)
  (a43:#[eK,"_law_heads",He]) (g43:FF K "_law_heads" "_law_heads" O1 He)
  (a44:#[eK,"_law_key_text",Hg]) (g44:FF K "_law_key_text" "_law_key_text" O0 Hg)
  (a45:#[eK,"_law_coming",Hh]) (g45:FF K "_law_coming" "_law_coming" OZ Hh)
  (a46:#[eK,"_law_taken",Hj]) (g46:FF K "_law_taken" "_law_taken" OY Hj)
  (a47:#[eK,"_law_rows_text",Hk]) (g47:FF K "_law_rows_text" "_law_rows_text" UV Hk)
  (a48:#[eK,"_law_ask_due",Hl]) (g48:FF K "_law_ask_due" "_law_ask_due" SG Hl)
  (a49:#[eK,"_law_names",J']) (g49:FF K "_law_names" "_law_names" OX J')
  (a50:#[eK,"_law_words",K']) (g50:FF K "_law_words" "_law_words" Ue K')
  (a51:#[eK,"_law_deed",U']) (g51:FF K "_law_deed" "_law_deed" OW U')
  (a52:#[eK,"_law_full",V']) (g52:FF K "_law_full" "_law_full" OV V')
  (a53:#[eK,"_law_is_short",Y']) (g53:FF K "_law_is_short" "_law_is_short" SE Y')
  (a54:#[eK,"law",f54]) (l54:#[Xlk,K,f54,oc54,od54,"law","law",Vx,kV54,dc54,pm54,an54,Aq,ct54,sl54]) (c54:#[Xci,K,Aq,"law"]) (k54:#[Xki,K,f54])
  (a55:#[h3,ao,DA]) (i55:#[Xif,K,DA]) (l55:#[Xlk,K,DA,oc55,od55,"__init__","OutOfOrder.__init__",Z3,kV55,dc55,pm55,an55,cd55,ct55,sl55]) (c55:#[Xci,K,cd55,"OutOfOrder.__init__"]) (k55:#[Xki,K,DA])
  (a56:#[h3,au,DB]) (i56:#[Xif,K,DB]) (l56:#[Xlk,K,DB,oc56,od56,"__init__","BadLine.__init__",Ud,kV56,dc56,pm56,an56,cd56,ct56,sl56]) (c56:#[Xci,K,cd56,"BadLine.__init__"]) (k56:#[Xki,K,DB])
  (a57:#[h3,aw,C6]) (i57:#[Xif,K,C6]) (g57:FF K "__init__" "Row.__init__" OU C6)
  (a58:#[Xfi,K,aw,"to_go",C7]) (i58:#[Xif,K,C7]) (g58:FF K "to_go" "Row.to_go" OT C7)
  (a59:#[Xfi,K,aw,"head",C8]) (i59:#[Xif,K,C8]) (g59:FF K "head" "Row.head" OR C8)
  (a60:#[Xfi,K,aw,"lengthen",C9]) (i60:#[Xif,K,C9]) (g60:FF K "lengthen" "Row.lengthen" OQ C9)
  (a61:#[h3,am,Db]) (i61:#[Xif,K,Db]) (g61:FF K "__init__" "Merge.__init__" OP Db)
  (a62:#[h4,"coming",Dc]) (i62:#[Xif,K,Dc]) (g62:FF K "coming" "Merge.coming" OO Dc)
  (a63:#[h4,"take",Dd]) (i63:#[Xif,K,Dd]) (g63:FF K "take" "Merge.take" ON Dd)
  (a64:#[h4,"take_few",De]) (i64:#[Xif,K,De]) (g64:FF K "take_few" "Merge.take_few" OM De)
  (a65:#[h4,"left",Dg]) (i65:#[Xif,K,Dg]) (g65:FF K "left" "Merge.left" SD Dg)
  (a66:#[h4,"heads",Dh]) (i66:#[Xif,K,Dh]) (g66:FF K "heads" "Merge.heads" SA Dh)
  (a67:#[h4,"add_row",Di]) (i67:#[Xif,K,Di]) (g67:FF K "add_row" "Merge.add_row" OL Di)
  (a68:#[h4,"drop_row",Dj]) (i68:#[Xif,K,Dj]) (g68:FF K "drop_row" "Merge.drop_row" OK Dj)
  (a69:#[h4,"grow",Dk]) (i69:#[Xif,K,Dk]) (g69:FF K "grow" "Merge.grow" OJ Dk)
  (a70:#[h4,"row_of",Dl]) (i70:#[Xif,K,Dl]) (g70:FF K "row_of" "Merge.row_of" OI Dl)
  (a71:#[h4,"play_all",Dm]) (i71:#[Xif,K,Dm]) (g71:FF K "play_all" "Merge.play_all" OH Dm)
  (a72:#[h4,"play",Do]) (i72:#[Xif,K,Do]) (g72:FF K "play" "Merge.play" OG Do)
  (a73:#[h4,"send_out",Dp]) (i73:#[Xif,K,Dp]) (g73:FF K "send_out" "Merge.send_out" OF Dp)
  (a74:#[h4,"play_again",Dq]) (i74:#[Xif,K,Dq]) (g74:FF K "play_again" "Merge.play_again" OE Dq)
  (a75:#[h4,"meet",Dr]) (i75:#[Xif,K,Dr]) (g75:FF K "meet" "Merge.meet" OD Dr)
  (a76:#[h3,aB,Ds]) (i76:#[Xif,K,Ds]) (g76:FF K "__init__" "Desk.__init__" OC Ds)
  (zj:#[s6,"DONE","done",yX])
  (kO:#[gG,"MOST_FIGURES",9,j9])
  (qB:#[gG,"MOST_KEY",40,qv])
  (pF:#[gG,"MOST_NAME",8,pp])
  (pG:#[gG,"MOST_ROWS",16,pq])
  (nK:#[gG,"MOST_SIZES",12,mS])
  (sF:#[s6,"NOTHING","-",sf])
  (sG:#[s6,"REFUSED","refused",sg])
  (ug:#[eK,"BOUNDS",bQ])
  (uh:ĥ bQ=U #[hg,oh,uf])
  (ui:ÍB Ên oh.toList)
  (uj:(bQ == bC)=false)
  (lZ:#[eq,bQ,"many",dL])
  (l4:ĥ dL=U (.type "tuple",lL,.seq #[.int 0 jy,.int 1000000 jz] lM,lN))
  (xt:#[eK,"DEEDS",br])
  (xu:ĥ br=U #[hg,qw,wW])
  (xv:ÍB Ên qw.toList)
  (xw:(br == bC)=false)
  (pH:#[eq,br,"row",CY])
  (nL:#[eq,br,"grow",CZ])
  (nN:#[eq,br,"drop",C0])
  (nO:#[eq,br,"take",C3])
  (nP:#[eq,br,"left",C4])
  (nQ:#[eq,br,"rows",C5])
  (xx:#[eK,"FORMS",bv])
  (xy:ĥ bv=U #[hg,qx,wX])
  (xz:ÍB Ên qx.toList)
  (xA:(bv == bC)=false)
  (pI:#[eq,bv,"row",e9])
  (pJ:ĥ e9=U (.type "tuple",pr,.seq #[.ref dM,.str "key" ke] pA,pB))
  (l5:#[h5,dM,lO,jA,lP,lQ])
  (nR:#[eq,bv,"grow",er])
  (nU:ĥ er=U (.type "tuple",mT,.seq #[.ref dh,.str "key" jP] mU,mV))
  (kP:#[h5,dh,kh,i8,ki,km])
  (nV:#[eq,bv,"drop",eA])
  (nW:#[fU,eA,mW,dj,mX,mY])
  (kQ:#[h5,dj,kn,i9,ko,kq])
  (nX:#[eq,bv,"take",eB])
  (nY:#[fU,eB,mZ,dk,m5,m6])
  (kT:ĥ dk=U (.type "tuple",ku,.seq #[.str "many" i'] kA,kB))
  (nZ:#[eq,bv,"left",eD])
  (n5:#[fU,eD,m7,dr,m8,m9])
  (kU:ĥ dr=U (.type "tuple",kC,.seq #[] kD,kE))
  (n6:#[eq,bv,"rows",eE])
  (n8:#[fU,eE,nc,du,ng,nh])
  (kW:ĥ du=U (.type "tuple",kF,.seq #[] kG,kH))
  (z0:#[ek,"abs"]) (z1:#[ek,"all"]) (z2:#[ek,"bool"]) (z3:#[ek,"dict"]) (z4:#[ek,"enumerate"]) (z5:#[ek,"int"]) (z6:#[ek,"isinstance"]) (z7:#[ek,"len"]) (z8:#[ek,"list"]) (z9:#[ek,"max"]) (z10:#[ek,"min"]) (z11:#[ek,"range"]) (z12:#[ek,"sorted"]) (z13:#[ek,"str"]) (z14:#[ek,"sum"]) (z15:#[ek,"tuple"]) (z16:#[ek,"zip"]) :
  ∃fd:bA,#[he,v,fd,"_law_script"]/\∀Â:aI,Ū Â->ÈH aL mg->YY l.prog w K mg Â CX0 20 fa fd ÍX (RL K):=by
 have e:=hfa.symm.trans (QL X G a54);cases e;have T:Ù:=((QO X G z0,QO X G z1,QO X G z2,QO X G z3,QO X G z4,QO X G z5,QO X G z6,QO X G z7,QO X G z8,QO X G z9,QO X G z10,QO X G z11,QO X G z12,QO X G z13,QO X G z14,QO X G z15,QO X G z16),ZF X G a0 g0 Ĺ,ZF X G a1 g1 ŉ,ZF X G a2 g2 Ĺ,ZF X G a3 g3 ŉ,ZF X G a4 g4 ŉ,ZF X G a5 g5 Ω,ZF X G a6 g6 Ω,ZF X G a7 g7 Ω,ZF X G a8 g8 Ĺ,ZF X G a9 g9 Ĺ,ZF X G fg g10 ŉ,ZF X G kZ g11 ŉ,ZF X G oj g12 ŉ,ZF X G qC g13 Ĺ,ZF X G um g14 Ĺ,ZF X G Ar g15 Ω,ZF X G a16 g16 Ĺ,ZF X G a17 g17 Ĺ,ZF X G a18 g18 ŉ,ZF X G a19 g19 Ĺ,ZF X G a20 g20 Ĺ,ZF X G a21 g21 Ĺ,ZF X G a22 g22 Ĺ,ZF X G a23 g23 ŉ,ZF X G Z' g24 Ω,ZF X G a25 g25 Ω,ZF X G a26 g26 Ω,ZF X G a27 g27 Ω,ZF X G a28 g28 Ω,ZF X G a29 g29 Ω,ZF X G a30 g30 ŉ,ZF X G a31 g31 ŉ,ZF X G a32 g32 ŉ,ZF X G a33 g33 ŉ,ZF X G a34 g34 ŉ,ZF X G a35 g35 Ĺ,ZF X G a36 g36 ŉ,ZF X G a37 g37 Ω,ZF X G a38 g38 Ω,ZF X G a39 g39 ŉ,ZF X G a40 g40 (λ_ _ _ _ _ _ us hl=>match us,hl with|[],_=>rfl),ZF X G a41 g41 Ĺ,ZF X G a42 g42 (λ_ _ _ _ _ _ us hl=>by obtain _|_|_|_|rfl:=MN us hl;exact rfl),ZF X G a43 g43 Ĺ,ZF X G a44 g44 Ĺ,ZF X G a45 g45 Ĺ,ZF X G a46 g46 ŉ,ZF X G a47 g47 Ĺ,ZF X G a48 g48 Ω,ZF X G a49 g49 Ĺ,ZF X G a50 g50 Ω,ZF X G a51 g51 Ω,ZF X G a52 g52 (λ_ _ _ _ _ _ us hl=>by obtain _|_|_|_|rfl:=MN us hl;exact rfl),ZF X G a53 g53 Ĺ,(_,_,WP (st:=Z3) l55 c55 k55,((_,_,_,_,_,_,_,_,_,_,_,_,_,_,iU),a55,i55,nA,nB),(WP (st:=Z3) l55 c55 k55).binds (ps:=ÇJ) Ω,QL X G iS),(_,_,WP (st:=Ud) l56 c56 k56,((_,_,_,_,_,_,_,_,_,_,_,_,_,_,si),a56,i56,sj,sk),(WP (st:=Ud) l56 c56 k56).binds (ps:=Êq) ŉ,QL X G lS),MP X G Dy Dz Dt a57 i57 g57 ŉ,XO a58 i58 g58 Ĺ,XO a59 i59 g59 Ĺ,XO a60 i60 g60 ŉ,MP X G xb xg wY a61 i61 g61 ŉ,XO a62 i62 g62 Ĺ,XO a63 i63 g63 Ĺ,XO a64 i64 g64 ŉ,XO a65 i65 g65 Ĺ,XO a66 i66 g66 Ĺ,XO a67 i67 g67 ŉ,XO a68 i68 g68 ŉ,XO a69 i69 g69 Ω,XO a70 i70 g70 ŉ,XO a71 i71 g71 Ĺ,XO a72 i72 g72 ŉ,XO a73 i73 g73 ŉ,XO a74 i74 g74 Ω,XO a75 i75 g75 (λ_ _ _ _ _ _ us hl=>by obtain _|_|_|_|rfl:=MN us hl;exact rfl),MP X G y8 y9 yY a76 i76 g76 Ĺ,(Du,Dv,Dw,Dx),kI,qy,qz,(wZ,w6,w8,xa),ni,jQ,kJ,iB,nq,lR,(yZ,y0,y4,y6),nr,kK,#[ig,zj],#[ig,kO],#[ig,qB],#[ig,pF],#[ig,pG],#[ig,nK],#[ig,sF],#[ig,sG],QL X G nu,QL X G sW,QL X G qA,QL X G iS,QL X G lS,(_,_,_,_,_,_,_,_,_,_,_,_,_,_,_,_,sX),(_,_,_,_,_,_,_,_,_,_,_,_,_,_,_,_,iU),(lT,lU,lV),jB,iO,kM,((_,_,_,_,_,_,_,_,_,_,_,_,_,_,sX),zb,za,QL X G sW),((_,_,_,_,_,_,_,_,_,_,_,_,_,_,xh),xj,xi,QL X G qA),(zc,zd,ze,zf,zg,zh),SR eX eY ja,SS,WY lX lY nv pC,WY gE gF jb pC,WY je jf kL pC,SQ zi,(xk,xl,xm,xn,xp,xq),SR eX eY iM,WY pD pE nw lW,SS,WY gE gF iN lW,WY je jf jR lW,SQ xr,(nC,nD,nE,nF,nG,nH),SR eX eY gD,WY pD pE jc gC,WY lX lY iP gC,SS,WY je jf ii gC,SQ nJ,(sq,sr,su,sv,sy,sC),SR eX eY ij,WY pD pE kN jd,WY lX lY jS jd,WY gE gF ik jd,SS,SQ sE,hkg,Co)
 have TD:Æe:=(QL X G ug,((_,_,uh,ui),uj),(_,lZ,W8 l4 Æv (.cons ÿ Æw)),QL X G xt,((_,_,xu,xv),xw),λf h=>by have e:=#[gS,Z'];cases e;exact pH,λf h=>by have e:=#[gS,a25];cases e;exact nL,λf h=>by have e:=#[gS,a26];cases e;exact nN,λf h=>by have e:=#[gS,a27];cases e;exact nO,λf h=>by have e:=#[gS,a28];cases e;exact nP,λf h=>by have e:=#[gS,a29];cases e;exact nQ,QL X G xx,((_,_,xy,xz),xA),(_,_,pI,W8 l5 Ïm Æw,W8 pJ Æv (.cons rfl Æw)),(_,_,nR,W8 kP Ïm Æw,W8 nU Æv (.cons rfl Æw)),(_,_,nV,W8 kQ Ïm Æw,W8 nW Æv Ïn),(_,_,nX,W8 kT Ïm Æw,W8 nY Æv Ïn),(_,_,nZ,W8 kU #[eE,0,100] .nil,W8 n5 Æv Ïn),(_,_,n6,W8 kW #[eE,0,100] .nil,W8 n8 Æv Ïn));exact(ÅA "law" "law" (WD Vx) (XY Vx) (Zh Vx) .none kV54 dc54 pm54 an54 Aq ct54,λs v=>.of_eq rfl,λbase _ _=>Zuf (WP (st:=Vx) l54 c54 k54) T TD)
theorem walk{l:ÐR}{q:ay}{e:Ñ}{g:ÐJ}{b:aF->aI->Prop}{d:DefRec}{K:Params->Ä}(i:l.most=U 63)(j:ÐK)
  (m:∀ (w:aF) (h:aI),b w h->(Éw).In h)
  (F:∀ (w:aF) (mg:ak->Ã aa) (fa:ae) (h:aI),(Éw).In h->h.Ns aL mg->mg Éu=U (.ref fa) ->
   ∃c:bA,#[he,u,c,"_law_script"]/\∀Â:aI,(Éw).In Â->ÈH aL mg->YY l.prog w Éw mg Â CX0 20 fa c ÍX (RL Éw)) :
  PySem.W.WalkO q e g b Ìj d [] ÐM :=
 L2.walk_of (n:=63) (k:=20) (x := "_law_script") (CX:=λ_=>CX0) (sp:=λw=>RL Éw) i Ë j (rfl,by decide,by decide,rfl) m F (λ_ _ a o p _ r=>(a,o,rfl,r,p,λ_=>rfl)) λ_ _ _ _ _ z=>z
universe E.My
open PySem PySem.W PyProof.Rows
namespace PySem.W.Fast
example:=#[13277244165148365014,12578928476942370742,11862087503309155983,16454419138149366137,16181343056482405618,15666738412213567963,1977728338674881756,3592548747105968565,12777812026584315038,4766563724968384894,14847767474146574712,1028843527413452152,7939597187576731770,7014953097571251012,13134437274580415108,5087807248637150429,10213449735453122022,10181191396086046022,9541057860996334431,15337165807431077440,16083522290640372073,1000431837550912105,1214836316664059851,13817397295192025483,13771445085893788005,6239197950931432677,3485894208630711493,2356935267629151854,9946225768439344935,8411266210342022376,13802133017121500648,402641901047599400,13485435999073049361,5681916471051526417,11938385610490489233,9938828063628845514,9157140922486816723,820880209881408307,8761093637910032886,2778680223412896976,4461701502884574034,8153633922541749160,13223802835185351831,18328406904848065701,11041965540440072534,9202602048030347397,3396255203292982019,1142951288067083650,12608031708678094995,10653199580196581112,14482719180257806424,7120244942831269072,8221603689389084719,5038542910973745947,7998397866471433929,8124427907258661758,5119050922226537942,12731126503489073582,14821105724162565531,4721799296518818821,12480772459364107056,9061340276314135809,13443927924470504911,551667715625533215,14273782338642749870,1133666281980555094,15549827980724892526,16710233737627189586,14089211341795533830,16680372386427335652,7949604867690097311,7241621478835741906,8720508146310013645,18003657030527732989,1538233346786927430,932190721873297049,15607454657208192301,2170264335653526554,4947664066248890819,17612311336906958213,13834143231140696996,5686946137370105541,7502028242700513580,6024793294112389672,10267039902607551111,13642853973367273054,14569566069767769261,16926462106244304333,8094553599455833149,10683452262996295599,312954503659314151,15009730619416921762,9799558868389059922,955577996642432467,8020859526349222966,13685449283413341413,15169315388996241909,13394713819566151366,8436740080986278375,12943637536422357462,17150515403839615200,6846296594584549552,16809160214283136425,8054969188628888456,5194203983164264512,7276518891865032861,11393286937334846414,81547585394869447,13692254532996364872,15580690183625549159,15284385251465677779,15166669748427983187,1358163935533349490,13571363835769502323,12745572622655625055,10093575675884980800,13398860330320940034,8298161326632532196,5826460137318198784,5623258814151054054,773180091900287010,11619455126431293277,17024990299274440752,12672667834140666979,14824866736639329256,10628094304648155597,3496910988887912277,10136021503573665402,2721522691072947702,14279975754461228198,8166229371684297366,7383902544172917342,13298858920632230362,10574672698438115386,6894692679580657082,18206851016587015416,18022019949054718364,4998075678176113815,3477834862995089221,5428466016735451787,2560220075353549739,140837909703395493,5480798584507747835,8012171602553596000,9695611905176602059,10645663271294840623,9371880331138611568,14270685885835276986,12506418171275313753,9126061323716419275,2859984652000898578,6170205380597020149,4905238509701563033,12500123969602542636,17885856349908351159,1096827478642876752,9638225405730696740,3865944791246100309,8925332219763502857,4177307538295254518,273574684190136937,9470141257270032944,10759566223754991365,2790600068396422118,9201811857910834224,10715619889643656993,7214618240914148440,8740859440491837186,16044587910888702442,8599865836652428124,16839679871760357070,9976195293988251846,4597421864923143150,4444536366773340502,38211625048045333,11997361002794147248,18020982783059334684,13669125901072118427,4330017839411500650,12033141890831103586,14979995370352085043,5689680646939468755,16616109131700774256,12831820975591535945,4868381843016455987,16807511770980429641,10621055813482838204,13875689537979476415,16099900782103683524,7556509772321096315,16378435322681918545,10846271813772337737,11576652789378436607,14791833525026214585,16441720259058068663,1616382271375322595,8497424179235406116,13816038628234990127,7386945047651412806,14236975518782731739,597489291259539643,9613960348408015220,16381103805065925298,12639067793733396560,17769812844025734678,12639101964369886555,12441189358574346070,7570541506491864103,7406719637675831065,1377736413289118549,9201314843295947431,13228812311856287748,463304988368262487,15956130757958581223,15611792481415403948,9840731836985487447,2498683044131151721,15624815995585126918,1091393894015205123,16102408441730601153,2185440820299443285,18329044780599874940,16585354300226761072,15151174674977602867,6541750209429162787,4846309212264414900,17785391237117437187,2932816692687569001,15719090618617737744,5497829765054412564,13178650402483860863,506502491005907436,4798000144731999879,6946771255176627282,4085712453214754780,7269989950330317691,6504926601077193823,17475383030666280272,9819744542521154615,5818695876726080986,6437584944499023235,1138520415634814203,1584277749597293120,573488823317055321,14525497311123657387,10210187394682528473,2187176050227001648,15321852934026451039,12787421136368189170,1047302928026027839,3897965891670048538,4078741902033521403,6226784002699366549,4029905183209548641,11872786497176071164,653526584190212230,9847575641356113865,7405763914176995921,17038265711734406892,4217231760117887148,14829525073262875524,12941427837645872107,5449669442956417826,16275900098937692765,15192389683063387591,2722904613010692708,4846608293639253988,3739271859924348102,6202846849984658873,6116049161487362809,17342300451604684533,2015108270708815287,4380238424303517944,2585659640507053212,239751863775518557,4896160728348197789,150953596422093648,12921747142472024388,8241140313196690269,16453832168426549728,16437160755397234073,13839625752772117536,9360626041638145646,10865334865679357505,9918914054610585144,15721545002007757834,16260960827616770817,1247010060774178638,10715392632932873704,18384035108804651687,15200707988126290454,13441723822627321652,14977478286072203187,5148001550825938165,14456720426997016015,11367682253812811022,12036890035973164872,10045190524031928252,14603153100809388868,1467234386727828921,10580049200908803663,503667529980230399,5716480726437643517,1431226829483085318,18331020652681752833,11819188525008818416,2281496968124342889,6908061375855860845,14493825303768661079,7822662780770258981,1319434138284993745,12429508773659460281,5391403016746630329,2098780619943902581,15492682476655403572,9731083113996370489,13051549831016995616,12104401999676788969,13747096912860213907,6864559145100761511,13700813478189156069,11821877694186999383,7962656895965362617,12303339316873399634,5619951923087821768,18223129164036977174,16165495944283594669,11813632746682258123,3335094625136221252,7213747255798211472,7483690387349682802,13255532112690038092,13771749717586821564,7682118745851329362,11717643415676947153,1755854428950034999,5835950039023305209,4736900300036292280,9672167478277757638,18012013689388516903,17885868098865418295,18377695497532648900,5457617701957915297,2771534848075623651,18012957633696040028,4117841120678599591,10031415828020475038,14538430484245472101,11418432741416769576,3986309988582457915,802551008042352725,13568799087577231939,8983255148623117155,9810585550139763291,3573019694958274971,5879126222923838694,14687873525293488215,7025939993643643312,11147523413037420678,17843524161107989024,13125227266110585905,3220097514935002328,5256610373035740254,1851166581938431460,12919314943662347660,957689761911520007,8300863024521569688,7482544587608196685,1283869823981102803,537817357302106753,5711473383831304776,6613297863127604982,13710088538168534014,12633985248221029413,5736789989942860782,8788335752831831105,8371215521542698872,10848101931523887654,9752112886102448791,10765163479955374713,7521078352404992993,17377054128433271351,10982104653150237378,968833737559015055,8206948599798414747,6716080326391306183,8056994423849203035,37763385306107207,14207897149124677444,11656683293696593439,1758067140176482353,17884345477844319068,12444598360441655694,10472565931992809108,4437888004235509475,15489717477780800805,5266235145907827539,11058745309615307195,15251440833816688393,10134883961790751699,12719061576515577026,15713608742057090227,17029165833982117686,14959442491400085378,2382456363610340735,1341246088701121582,9860374275339910704,5862417425581986438,6618352267267169176,16102447421743512789,10708050448621765236,10624016049578455250,1802354672157424492,5272582187817749187,8644826862963043682,1783652268835404424,2518202420252436551,5427901314185105351,12174391981999148177,16886626181597833733,3909046035336962232,17698880325857920197,2227160387677773226,6769036485564480848,2710571398484328203,3806783624027167753,8583955607232281609,10705306789064683173,17890830322962793836,1920909097295710407,15096436116302931119,18206710712163598311,11529576056683257943,17637503507993222871,12717847121775356949,13175814564978146092,12182117076758039598,21251502615877874,8662280623084738373,4625016151581047560,9466593521336534384,16881209380329814830,2357403478779439742,3576147831679587230,17364212829545287079,9756588942070305231,9358350846968348127,16571911677855586706,5735330407878568055,15450289789811679449,13920763959404285751,6498397653163104458,10255136509664813234,15027357999605685084,1482837652717056489,9178131184529528210,17809103393624475170,16326177698727696250,14285730347933573976,10188242035614152865,11407308859548938346,5216880830859093062,2665818242068506511,18156076467466041860,1602794627749530553,1395568863608994307,12342029323742314076,5735384474447787038,14561829157375483169,3340591951764653447,7078648696278019040,387129275969506511,17332132956175000830,5589040557111925710,15599425133470071614,17248153039062566294,1470434279078291757,9592862269554372341,481198691236502288,2355638779887212596,12009802780603431487,8317886463606444640,4354644581116990161,12126552668863615621,14676013977739517209,558503720089856201,1436149854865725535,11309291230791986673,2098508905582380191,12385645054290092737,10150159827598038022,9350716221028665633,15075432562586285687,5266286190950302559,12248465645650736637,750719801939927900,16074371897461508545,16179158287381809733,8498294331044148579,2834749487741953837,12645667863639213893,4403342144073122155,9557896925804952338,16835779271086890416,18206233670987781589,16348760549570054193,8970499824282668446,2097120568681949185,1552502011165967594,14672414372122454878,652064757766515039,10172554099921268341,3342129216925055485,11877633010739371010,2081120327761882625,3868102018828656952,8681485526545456597,15814600483344638293,2035413129015476444,10236604215592247294,5063231768035865970,14152221092906400964,12943901424003974839,3287926351347002402,3472128400500116431,538188990813480795,12563390521743551128,11490537829280388805,13168402172959349428,6686783802432571516,3358775913563716230,9486778019460578094,14435303497746887915,8141781457956941228,6818345299672635772,8933578854557968564,6159633421907108250,2053389036930949439,9366801449946806392,13986743181394549726,7496520586485926642,12754767485731038482,14317873269709416052,13306319968330205701,3817798330464345126,15197862123850959128,9223046578948666026,2354852065592121518,2069541467801912403,17771084900761674581,11450026820777944291,14439556287340408902,12208886101193168767,102747059713690436,1168870851440434929,12949456231608664479,13519994021493767091,4057293605526868725,13163116276360981657,1181645270188295538,13016729208296283358,15752440012711527589,17860818527469284417,14654577326340213909,7128909845169975070,8538519158650053528,12625274307150738456,17977325694121719624,12607941904631412690,14484707915232252014,18333255598145217064,13973383798097093412,11750490320924491249,4023330461586497847]
universe E.PySem.W.Fast
set_option maxRecDepth 100000 in
set_option maxHeartbeats 0 in
theorem PySem.Challenge.cw_mergetree_k52_deeds_refused_at_a_desk_holds : PySem.Challenge.rw_mergetree_k52_deeds_refused_at_a_desk.Holds := by
 w_on;o_law;k_head;(case hw=>w_witness2)
 k_fill
 refine My.walk (l:=PySem.Challenge.rw_mergetree_k52_deeds_refused_at_a_desk) rfl rfl (λw h Y=>PySem.W.kIn_of Y) ?F;case F =>
  intro w mg fa h KX G hmg
  refine' My.all_mk KX G hmg ?q00 ?q10 ?q20 ?q30 ?q40 ?q50 ?q60 ?q70 ?q80 ?q90 ?qa0 ?qb0 ?qc0 ?qd0 ?qe0 ?qf0 ?qg0 ?qh0 ?qi0 ?qj0 ?qk0 ?ql0 ?qm0 ?qn0 ?qo0 ?qp0 ?qq0 ?qr0 ?qs0 ?qt0 ?qu0 ?qv0 ?qw0 ?qx0 ?qy0 ?qz0 ?q01 ?q11 ?q21 ?q31 ?q41 ?q51 ?q61 ?q71 ?q81 ?q91 ?qa1 ?qb1 ?qc1 ?qd1 ?qe1 ?qf1 ?qg1 ?qh1 ?qi1 ?qj1 ?qk1 ?ql1 ?qm1 ?qn1 ?qo1 ?qp1 ?qq1 ?qr1 ?qs1 ?qt1 ?qu1 ?qv1 ?qw1 ?qx1 ?qy1 ?qz1 ?q02 ?q12 ?q22 ?q32 ?q42 ?q52 ?q62 ?q72 ?q82 ?q92 ?qa2 ?qb2 ?qc2 ?qd2 ?qe2 ?qf2 ?qg2 ?qh2 ?qi2 ?qj2 ?qk2 ?ql2 ?qm2 ?qn2 ?qo2 ?qp2 ?qq2 ?qr2 ?qs2 ?qt2 ?qu2 ?qv2 ?qw2 ?qx2 ?qy2 ?qz2 ?q03 ?q13 ?q23 ?q33 ?q43 ?q53 ?q63 ?q73 ?q83 ?q93 ?qa3 ?qb3 ?qc3 ?qd3 ?qe3 ?qf3 ?qg3 ?qh3 ?qi3 ?qj3 ?qk3 ?ql3 ?qm3 ?qn3 ?qo3 ?qp3 ?qq3 ?qr3 ?qs3 ?qt3 ?qu3 ?qv3 ?qw3 ?qx3 ?qy3 ?qz3 ?q04 ?q14 ?q24 ?q34 ?q44 ?q54 ?q64 ?q74 ?q84 ?q94 ?qa4 ?qb4 ?qc4 ?qd4 ?qe4 ?qf4 ?qg4 ?qh4 ?qi4 ?qj4 ?qk4 ?ql4 ?qm4 ?qn4 ?qo4 ?qp4 ?qq4 ?qr4 ?qs4 ?qt4 ?qu4 ?qv4 ?qw4 ?qx4 ?qy4 ?qz4 ?q05 ?q15 ?q25 ?q35 ?q45 ?q55 ?q65 ?q75 ?q85 ?q95 ?qa5 ?qb5 ?qc5 ?qd5 ?qe5 ?qf5 ?qg5 ?qh5 ?qi5 ?qj5 ?qk5 ?ql5 ?qm5 ?qn5 ?qo5 ?qp5 ?qq5 ?qr5 ?qs5 ?qt5 ?qu5 ?qv5 ?qw5 ?qx5 ?qy5 ?qz5 ?q06 ?q16 ?q26 ?q36 ?q46 ?q56 ?q66 ?q76 ?q86 ?q96 ?qa6 ?qb6 ?qc6 ?qd6 ?qe6 ?qf6 ?qg6 ?qh6 ?qi6 ?qj6 ?qk6 ?ql6 ?qm6 ?qn6 ?qo6 ?qp6 ?qq6 ?qr6 ?qs6 ?qt6 ?qu6 ?qv6 ?qw6 ?qx6 ?qy6 ?qz6 ?q07 ?q17 ?q27 ?q37 ?q47 ?q57 ?q67 ?q77 ?q87 ?q97 ?qa7 ?qb7 ?qc7 ?qd7 ?qe7 ?qf7 ?qg7 ?qh7 ?qi7 ?qj7 ?qk7 ?ql7 ?qm7 ?qn7 ?qo7 ?qp7 ?qq7 ?qr7 ?qs7 ?qt7 ?qu7 ?qv7 ?qw7 ?qx7 ?qy7 ?qz7 ?q08 ?q18 ?q28 ?q38 ?q48 ?q58 ?q68 ?q78 ?q88 ?q98 ?qa8 ?qb8 ?qc8 ?qd8 ?qe8 ?qf8 ?qg8 ?qh8 ?qi8 ?qj8 ?qk8 ?ql8 ?qm8 ?qn8 ?qo8 ?qp8 ?qq8 ?qr8 ?qs8 ?qt8 ?qu8 ?qv8 ?qw8 ?qx8 ?qy8 ?qz8 ?q09 ?q19 ?q29 ?q39 ?q49 ?q59 ?q69 ?q79 ?q89 ?q99 ?qa9 ?qb9 ?qc9 ?qd9 ?qe9 ?qf9 ?qg9 ?qh9 ?qi9 ?qj9 ?qk9 ?ql9 ?qm9 ?qn9 ?qo9 ?qp9 ?qq9 ?qr9 ?qs9 ?qt9 ?qu9 ?qv9 ?qw9 ?qx9 ?qy9 ?qz9
  case q00|q10|q20|q30|q40|q50|q60|q70|q80|q90|qa0|qb0|qc0|qd0|qe0|qf0|qg0|qh0|qi0|qj0|qk0|ql0|qm0|qn0|qo0|qp0|qq0|qr0|qs0|qt0|qu0|qv0|qw0|qx0|qy0|qz0|q01|q11|q21|q31|q41|q51|q61|q71|q81|q91|qa1|qb1|qc1|qd1|qe1|qf1|qg1|qh1|qi1|qj1|qk1|ql1|qm1|qn1|qo1|qp1|qq1|qr1|qs1|qt1|qu1|qv1|qw1|qx1|qy1|qz1|q02|q12|q22|q32|q42|q52|q62|q72|q82|q92|qa2|qb2|qc2|qd2|qe2|qf2|qg2|qh2|qi2|qj2|qk2|ql2|qm2|qn2|qo2|qp2|qq2|qr2|qs2|qt2|qu2|qv2|qw2|qx2|qy2|qz2|q03|q13|q23|q33|q43|q53|q63|q73|q93|qb3|qd3|qf3|qh3|qj3|ql3|qn3|qp3|qr3|qt3|qv3|qx3|qz3|q14|q34|q54|q74|q94|qb4|qd4|qf4|qh4|qj4|ql4|qn4|qp4|qr4|qt4|qv4|qx4|qz4|q15|q35|q55|q75|q95|qb5|qd5|qf5|qh5|qj5|ql5|qn5|qp5|qr5|qt5|qv5|qx5|qz5|q16|q36|q56|q76|q86|q96|qa6|qb6|qc6|qd6|qe6|qf6|qg6|qh6|qi6|qj6|qk6|ql6|qm6|qo6|qp6|qr6|qs6|qu6|qv6|qx6|qy6|q07|q17|q37|q47|q67|q77|q97|qa7|qc7|qd7|qf7|qg7|qi7|qj7|ql7|qm7|qo7|qp7|qr7|qs7|qu7|qv7|qx7|qy7|q08|q18|q38|q48|q68|q78|q98|qa8|qb8|qc8|qd8|qe8|qf8|qg8|qh8|qi8=>k_is
  case qj8=>exact((_,_,rfl,rfl),À4,À4,À4,ŭ)
  case qk8=>first|rfl|decide
  case ql8|qm8|qn8|qo8=>k_is
  case qp8=>exact Üe
  case qq8=>first|rfl|decide
  case qr8|qs8|qt8|qu8|qv8|qw8|qx8|qy8=>k_is
  case qz8=>exact Üe
  case q09=>first|rfl|decide
  case q19|q29|q39|q49|q59|q69|q79|q89|q99|qa9|qb9|qc9|qd9|qe9|qf9|qg9|qh9|qi9|qj9|qk9|ql9|qm9|qn9|qo9|qp9|qq9|qr9|qs9|qt9|qu9|qv9|qw9|qx9|qy9|qz9=>k_is
  case q83|qa3|qc3|qe3|qg3|qi3|qk3|qm3|qo3|qq3|qs3|qu3|qw3|qy3|q04|q24|q44|q64|q84|qa4|qc4|qe4|qg4|qi4|qk4|qm4|qo4|qq4|qs4|qu4|qw4|qy4|q05|q25|q45|q65|q85|qa5|qc5|qe5|qg5|qi5|qk5|qm5|qo5|qq5|qs5|qu5|qw5|qy5|q06|q26|q46|q66|qn6|qq6|qt6|qw6|qz6|q27|q57|q87|qb7|qe7|qh7|qk7|qn7|qq7|qt7|qw7|qz7|q28|q58|q88=>exact(_,_,_,_,_,_,_,_,_,by k_is,by k_is,by k_is)
end
