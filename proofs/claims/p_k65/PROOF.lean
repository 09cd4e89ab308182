import PyProof.Rows.All
import Wide.All
import OpenK.AllK
import PySem.Challenge.RW_askviews_k65_tables_that_fit
set_option Elab.async false
set_option linter.all false
set_option bootstrap.genMatcherCode false
set_option compiler.extract_closed false
set_option maxRecDepth 100000
set_option maxHeartbeats 4000000
open PySem renaming Addr->cr,sizeLine->dL,Shared->f8,wpAny->f',model->ii,Program->io,Value->i5,World->i6,Str->i9,starEach->jp,Heap->nw,wpAny_callSpecial?_slot->pc,FuncData->re,Around->ss,foldedSetIterable->sK,mainGlobals->u8,rawInt->v0,compareOp->v4,eval->wf,Expr->wv,sysModules->ww,cLine->wE,Stmt->wP,IsPair->wS,attributeBase->wT,OsState->xz,Scope->AC,carriedByValue->AT,NameKind->Ch,codeAny->C',backTo->Da,DictEntry->Db,swapsWith->Ev,typeLookup->EQ,bootBuiltins->FM,Pos->Gc,call->Go,IsZip->GE,assignEach->GM,sliceBounds->GT,keywordEach->G',binaryOp->Ix,ZipApart->IN,importedModules->IR,Obj->J',Sem->KB,holding->KE,behindInMarks->KT,GenState->No,relabel->NE,merged->On,letOwnedTupleGo->Op,backToKw->Pi,IsPart->Ps,Keyword->PP,pyIter->Re,builtinsNs->Rs,IsTupleKey->Sc,valueAt->SC,bindArgs->SL,ReadsAll->Tl,BindsTo->TD,getMethod->Uf,Result->UF,subscripted->UV,excClassObj->U',Env->V',notedBy->WF,callerA->WP,setField->XV,newFunctionEnv->X',entryOfKey->ZB,entryFor->Z'
open PyProof.Rows renaming SortSt->rc,Keyed->xL,seqObj->x0,arrOf->At,pendingOf->Fk,get?_update_seq->FS,AllBare->KM,envOfC->Os,setArr->TW,tuples'->Wp,IntsAre->W',failedOf->Y'
open PySem.W renaming behindTheImports->K',any_some->SZ
local macro_rules|`({$xs:term,*})=>`(⟨$xs,*⟩)
local macro_rules|`(tactic|let($x:ident,$xs:ident,*):=$e)=>`(tactic|obtain⟨$x:ident,$[$xs:ident],*⟩:=$e)
local macro_rules|`(tactic|show$e)=>match e.raw.getHeadInfo with|.synthetic ..=>Lean.Macro.throwUnsupported|_=>`(tactic|refine $e)
local macro_rules|`(tactic|ext$xs*)=>`(tactic|rintro $xs*)
local macro_rules|`(∅)=>`((by lia))
local macro_rules|`($a⊃$b)=>`(binrel% GT.gt $a $b)
local macro_rules|`($a>$b)=>`($a=some $b)
local macro_rules|`(-$x:ident)=>`(.ref $x)
local macro_rules|`($s\$h)=>match h with|`(($b,$c))=>`({$s with heap:=$b,toks:=$c})|_=>`({$s with heap:=$h})
local macro_rules|`(↑$h)=>`(by simpa using $h)
set_option hygiene false
local macro_rules|`(tactic|intros $c:ident $h:ident $H:ident $s:ident $e:ident)=>`(tactic|(intro $c:ident $h:ident;generalize heq:upd _ $c _=$H:ident;have $s:ident:=same_of heq $h;have $e:ident:=got_of heq;clear heq))
local macro_rules|`(tactic|rename_i $c:ident $h:ident $H:ident $s:ident $e:ident)=>`(tactic|(generalize heq:upd _ $c _=$H:ident;have $s:ident:=same_of heq $h;have $e:ident:=got_of heq;clear heq))
local macro_rules|`(9)=>`(rfl)
local macro_rules|`(7)=>`((by decide))
local macro_rules|`(8)=>`((by lia))
local macro_rules|`(59)=>`((by decide+kernel))
local macro_rules|`(34)=>`(s.heap.objs.size)
local macro_rules|`(98)=>`(λdC A outer s H vs Q E hr h=>?_)
local macro_rules|`(42)=>`(xs.length)
local macro_rules|`(85)=>`(ii prog w)
local macro_rules|`(84)=>`((by simp))
local macro_rules|`(91)=>`(ii X.prog X.w)
local macro_rules|`(94)=>`(s2.heap.objs.size)
local macro_rules|`(31)=>`((by show 2<=dL;decide))
local macro_rules|`(86)=>`(X.prog)
local macro_rules|`(115)=>`(λ(p:NK×cr×V)(q:NK×cr×i5)=>p.1=q.1/\p.2.1=q.2.1/\RelV p.2.2 q.2.2)
local macro_rules|`(22)=>`(s1.heap.objs.size)
local macro_rules|`(29)=>`((by kernel_rfl))
local macro_rules|`(55)=>`(cl cE hr (b6 (pv 0) aO))
local macro_rules|`(95)=>`(NK×cr×V)
local macro_rules|`(56)=>`((by show 0<=dL;decide))
local macro_rules|`(87)=>`(es.size)
local macro_rules|`(30)=>`(.ListComp elt [{tg,iter,ifs,0}] scope pos)
local macro_rules|`(35)=>`(x==("__debug__":i9))
local macro_rules|`(68)=>`(iD X (x::more++fs) scope C s H ex)
local macro_rules|`(175)=>`(((eW items.size 0 lo:Nat):Int)==0&&(1:Int)==1&&(eW items.size items.size hi -eW items.size 0 lo)==items.size)
local macro_rules|`(90)=>`((by cases h))
local macro_rules|`(92)=>`(ah ?_)
local macro_rules|`(50)=>`(upd (upd H2 b (.tup xs)) p (.dK []))
local macro_rules|`(45)=>`(ps t.mask h D)
local macro_rules|`(23)=>`(X.env.locals)
local macro_rules|`(204)=>`(eW items.size items.size hi -eW items.size 0 lo)
local macro_rules|`(18)=>`(.ext (DN P w A (putN kvs k b (-p))))
local macro_rules|`(58)=>`(X.aab.heap.objs.size)
local macro_rules|`(97)=>`(ii P w)
local macro_rules|`(20)=>`(iY X N' scope (cl C) fn C s H ex)
local macro_rules|`(41)=>`(.dK (fs.map gv))
local macro_rules|`(74)=>`((by with_unfolding_all rfl))
local macro_rules|`(43)=>`(knd.hash k)
local macro_rules|`(57)=>`(zs.map V.str)
local macro_rules|`(139)=>`(λ(p:V×V)(e:Db)=>RelV p.1 e.key/\RelV p.2 e.val)
local macro_rules|`(36)=>`(ent knd)
local macro_rules|`(48)=>`(ys.length)
local macro_rules|`(69)=>`(I.bC.fresh (aw _))
local macro_rules|`(40)=>`(.builtin "ValueError.__new__")
local macro_rules|`(71)=>`(.type "BaseException")
local macro_rules|`(116)=>`(.Call (.Name x p) (e::es) [] pos)
local macro_rules|`(27)=>`(aH _ rfl)
local macro_rules|`(93)=>`(λc=>?_)
local macro_rules|`(88)=>`(KF w.params)
local macro_rules|`(75)=>`((by rw[af];exact bB ∅))
local macro_rules|`(24)=>`(λ_=>?_)
local macro_rules|`(70)=>`(.type "object")
local macro_rules|`(89)=>`(.bool true)
local macro_rules|`(119)=>`(iD X (x::fs) scope C s H ex)
local macro_rules|`(177)=>`(rY {aR (pH z _ _) hz,λt' k=>{.str _,H,I.tok k,⟨_,rfl⟩,q}})
local macro_rules|`(60)=>`(λt=>hc (by simp[qi,t]))
local macro_rules|`(82)=>`(.type "ValueError")
local macro_rules|`(16)=>`(I1.bC.fresh (aw _))
local macro_rules|`(33)=>`(cl g3.objs.size)
local macro_rules|`(96)=>`(.Name x px)
local macro_rules|`(53)=>`(Fa.endLine==eR.line)
local macro_rules|`(178)=>`(fnOf x q (pY st) (nh st) (bI st) .none kV doc pm an dC ct)
local macro_rules|`(66)=>`(⟨_,rfl⟩)
local macro_rules|`(72)=>`(.type "type")
local macro_rules|`(15)=>`(ha pos bi s Z H _ I h)
local macro_rules|`(209)=>`(if(((ns.map V.int).length:Nat):Int)<12 then(((ns.map V.int).length:Nat):Int)else 12)
local macro_rules|`(26)=>`(λb hb=>?_)
local macro_rules|`(21)=>`(s.toks)
local macro_rules|`(212)=>`(if i<0 then(i+((aM.toArray.size:Nat):Int)).toNat else min i.toNat aM.toArray.size)
local macro_rules|`(17)=>`(λz=>hc (by simp[z]))
local macro_rules|`(104)=>`((by show 1<=dL;decide))
local macro_rules|`(140)=>`(putN inner (iV zs) c (.bl true))
local macro_rules|`(73)=>`(jp es X.env)
local macro_rules|`(142)=>`(x0 "list" acc.toList.toArray 0)
local macro_rules|`(120)=>`(.builtin "isinstance")
local macro_rules|`(44)=>`(I.tok _)
local macro_rules|`(38)=>`(.ref 169)
local macro_rules|`(81)=>`(List (Option i9))
local macro_rules|`(151)=>`(.dK (es.map gv++[(Sum.inr key,-rl)]))
local macro_rules|`(130)=>`((by show 4<=dL;decide))
local macro_rules|`(179)=>`(I.turned (λb o hb e=>eb b o hb e) f0 f1 f3 f4 f5)
local macro_rules|`(180)=>`(λ(u:i5)(p:Key×i5)=>(bZ prog w).is p.1 u=true)
local macro_rules|`(182)=>`(if(Value.ref d==Value.none)=true then _ else _)
local macro_rules|`(37)=>`(X.stack)
local macro_rules|`(28)=>`(zs.length)
local macro_rules|`(105)=>`(.type "Exception")
local macro_rules|`(106)=>`(he bi s Z H _ I h)
local macro_rules|`(111)=>`(ho bi s Z H _ I h)
local macro_rules|`(152)=>`(cJ (mG (i:=0)) (cJ (mG (i:=1)) ic))
local macro_rules|`(145)=>`(.builtin "object.__class__")
local macro_rules|`(83)=>`(λz=>nomatch z)
local macro_rules|`(14)=>`(.type "dict")
local macro_rules|`(46)=>`(.Name x pos)
local macro_rules|`(146)=>`(nd b _ q λl z=>by cases z)
local macro_rules|`(183)=>`(λm g o i j t R=>W.pure (dn _ _ _ _ _ _ R))
local macro_rules|`(134)=>`((by dsimp only at c;lia))
local macro_rules|`(213)=>`(upd (upd HA tt (.tup (Be.map V.str))) ap (.tup [.str a.1,-tt]))
local macro_rules|`(54)=>`(EP X bi Z Q)
local macro_rules|`(184)=>`(.builtin "type.__call__" {.ref C::us,kw})
local macro_rules|`(185)=>`(.Call (.Attribute o m Fa) (e::es) [] pos)
local macro_rules|`(19)=>`((by rw[af];lia))
local macro_rules|`(186)=>`(.ins C dx (L2.ff "vain" (-B) [(AbR,-A)]))
local macro_rules|`(131)=>`(ha bi s Z H _ I h)
local macro_rules|`(215)=>`(k==.free&&env.scope.kind==.function&&env.kindOf n==some .cell)
local macro_rules|`(49)=>`(.lst ys)
local macro_rules|`(76)=>`(bZ prog w)
local macro_rules|`(77)=>`(s\(h',tk))
local macro_rules|`(78)=>`(bS (pv 0))
local macro_rules|`(79)=>`(bS (pv 1))
local macro_rules|`(218)=>`(fnOf x Do (pY st) (nh st) (bI st) .none kV doc pm an dC ct)
local macro_rules|`(155)=>`(uY X (x::fs) scope x C s H ex)
local macro_rules|`(156)=>`(.ins C dx (L2.ff AbR (-A) []))
local macro_rules|`(51)=>`(aX.refl _)
local macro_rules|`(194)=>`(upd (upd H2 l2 (.lst zs)) t2 (.tup zs))
local macro_rules|`(132)=>`(s\mM s.heap a vs)
local macro_rules|`(197)=>`(eM (pc hT fS (bN fS hT oN ?_ (pZ _))))
local macro_rules|`(61)=>`(I.ok.hd hc)
local macro_rules|`(67)=>`(.Name d pd)
local macro_rules|`(147)=>`(rN hr.gd hr.units T.Hz)
local macro_rules|`(52)=>`(ts.length)
local macro_rules|`(201)=>`(if([]:List PP).isEmpty then 0 else 1)
local macro_rules|`(47)=>`(bS (pv 3))
local macro_rules|`(220)=>`(I.turned (λb o hb e=>kk b o (↑hb) e) f0 f1 f3 f4 f5)
local macro_rules|`(150)=>`(λy H5=>N (ys++[y]) H5)
local macro_rules|`(80)=>`(λc2=>?_)
local macro_rules|`(221)=>`(.lst ([.bl true,.bl true,.bl false]++[.int (n:Int)]))
local macro_rules|`(135)=>`(hl bi s Z H _ I h)
local macro_rules|`(138)=>`(.Tuple elts kk ps)
local macro_rules|`(161)=>`(.type "getset_descriptor")
local macro_rules|`(164)=>`(Obj.mapSeq λ_=>(#[]:Aaj))
local macro_rules|`(202)=>`(fE.trans (oG.trans (tF.trans EE)))
local macro_rules|`(222)=>`(s\s.heap.push {cls:=.type "dict",data:=.dict #[]})
local macro_rules|`(133)=>`(v0 ((i:Int)+1))
noncomputable section
open PySem.W (Frag findIn nsIn fnOf emptyDict keepIn instObj plainGet kitOne codeIn hasDictIn isFn lookIn)
abbrev R0:=List<|PySem.Str×List PySem.Str
abbrev R1:=List<|List PySem.Str
abbrev Aaa:=List<|PySem.Addr×PySem.Obj
abbrev Aab:=PySem.Str->Option PySem.Value
abbrev Aac:=PySem.Value->PySem.Shared->Prop
abbrev Aad:=Array<|Option PySem.Value
abbrev Aae:=List PySem.Value
abbrev Aaf:=List PySem.Str
abbrev Aag:=Option PySem.Value
abbrev Aah:=List PySem.Addr
abbrev Aai:=Option PySem.Addr
abbrev Aaj:=Array PySem.Value
abbrev Aaz:PySem.Str:="__static_attributes__"
abbrev AaA:PySem.Str:="__weakref__"
abbrev AaG:PySem.Str:="_law_atom_here"
abbrev AaH:PySem.Str:="_law_atoms"
abbrev AaK:PySem.Str:="_law_box_here"
abbrev AaN:PySem.Str:="_law_due"
abbrev AaP:PySem.Str:="_law_filled"
abbrev AaQ:PySem.Str:="_law_first"
abbrev AaR:PySem.Str:="_law_found"
abbrev AaU:PySem.Str:="_law_goals_here"
abbrev AaV:PySem.Str:="_law_head"
abbrev AaX:PySem.Str:="_law_held_here"
abbrev AaY:PySem.Str:="_law_image"
abbrev AaZ:PySem.Str:="_law_k"
abbrev Aa4:PySem.Str:="_law_many"
abbrev Aba:PySem.Str:="_law_name"
abbrev Abh:PySem.Str:="_law_question"
abbrev Abi:PySem.Str:="_law_question_here"
abbrev Abo:PySem.Str:="_law_rows_here"
abbrev Abp:PySem.Str:="_law_same"
abbrev Abr:PySem.Str:="_law_script"
abbrev Abx:PySem.Str:="_law_take"
abbrev Abz:PySem.Str:="_law_terms"
abbrev AbC:PySem.Str:="_law_unknowns"
abbrev AbH:PySem.Str:="_law_views_here"
abbrev AbL:PySem.Str:="_law_wrong_right"
abbrev AbN:PySem.Str:="abcdefghijklmnopqrstuvwxyz0123456789"
abbrev AbR:PySem.Str:="aims"
abbrev AbV:PySem.Str:="atoms"
abbrev Ab3:PySem.Str:="check_held"
abbrev Aci:PySem.Str:="given"
abbrev Ack:PySem.Str:="held"
abbrev AcC:PySem.Str:="mapped_part"
abbrev AcP:PySem.Str:="place"
abbrev AcR:PySem.Str:="question"
abbrev AcY:PySem.Str:="self"
abbrev Ac3:PySem.Str:="tables"
abbrev Adl:PySem.Str:="views"
section
open PySem
def ae:=@wpAny_bind
def af:=@List.length_map
def ah:=@wpAny_pure
def ao:=@PySem.Heap.get?_push_of_some
def aq:=@List.getElem?_eq_some_iff
def ar:=@List.mem_singleton
def au:=@List.getElem?_eq_getElem
def aw:=@Nat.le_refl
def ay:=@List.mem_cons_self
def az:=@List.mem_cons_of_mem
def aB:=@List.mem_of_getElem?
def aD:=@List.mem_map
def aE:=@List.mem_append
def aG:=@List.length_append
def aH:=@PySem.Heap.get?_push_size
def aJ:=@List.map_append
def aK:=@List.mem_cons
def aL:=@if_neg
def aN:=@if_pos
def aQ:=@Nat.zero_le
def aR:=@Nat.le_trans
def aS:=@PySem.Heap.lt_size
def aT:=@List.size_toArray
def aU:=@Nat.ne_of_lt
def aV:=@PySem.Paired.length
def aW:=@List.getElem?_map
def aY:=@List.take_add_one
def aZ:=@Array.length_toList
def a9:=@List.map_cons
def ba:=@List.mem_append_left
def bf:=@Nat.lt_of_lt_of_le
def bj:=@List.take_length
def bo:=@List.length_take
def bq:=@List.mem_append_right
def bw:=@Option.map_eq_some_iff
def bz:=@of_decide_eq_true
def bD:=@decide_eq_true
def bH:=@PySem.PassesOwn.never
def bJ:=@List.length_cons
def bK:=@boot_len
def bL:=@PySem.Heap.get?_update_other
def bN:=@wpAny_call_entry
def bO:=@PySem.F.plainAttrs_list
def bP:=@wpAny_holding
def bQ:=@decide_eq_false
def bT:=@Bool.and_eq_true
def bU:=@Array.getElem?_eq_getElem
def bV:=@List.mem_map_of_mem
def bW:=@sizeLine_eq
def bX:=@Bool.false_ne_true
def b5:=@List.getD_eq_getElem?_getD
def cj:=@PySem.Heap.SameBut.update
def cn:=@PySem.F.type_list_append
def cw:=@PySem.F.slot_list_append
def cx:=@Nat.ne_of_gt
def cy:=@Nat.le_of_lt
def cz:=@List.all_eq_true
def cA:=@Array.getElem?_toList
def cB:=@Option.some.inj
def cG:=@beq_eq_false_iff_ne
def cH:=@List.append_assoc
def cI:=@PySem.Heap.get?_update_self
def cK:=@wpAny_newObj_type
def cL:=@Ne.symm
def cR:=@wpAny_field
def cS:=@List.take_of_length_le
def cT:=@congrFun
def cY:=@wpAny_seqItems
def cZ:=@List.mem_range
def da:=@Nat.lt_irrefl
def df:=@List.nodup_cons
def dk:=@PySem.Heap.size_push
def dq:=@Bool.false_eq_true
def dy:=@wpAny_mono
def dE:=@List.mem_of_mem_take
def dF:=@List.map_map
def dG:=@List.nodup_append
def dM:=@PySem.F.plainAttrs_dict
def dO:=@List.map_congr_left
def dU:=@Int.toNat_natCast
def dX:=@congrArg
def dY:=@wpAny_setField
def d5:=@List.take_append_drop
def d7:=@Nat.succ_le_succ
def d8:=@LawfulBEq.eq_of_beq
def d9:=@List.length_eq_zero_iff
def eE:=@List.drop_eq_getElem_cons
def eI:=@PySem.Calls.callWith_builtin
def eK:=@PySem.F.slot_dict_setdefault
def eM:=@wpAny_attempt
def eO:=@List.append_nil
def eS:=@Nat.lt_succ_self
def eT:=@List.filter_cons
def eY:=@PyProof.Rows.callWith_type1
def eZ:=@List.length_replicate
def fk:=@PyProof.Rows.slot_tuple_getitem
def fo:=@strLen_append
def fu:=@Array.getElem?_eq_some_iff
def fw:=@codeAny_builtin
def fB:=@PySem.F.slot_dict_valueiterator_next
def fC:=@Nat.lt_of_le_of_lt
def fG:=@List.length_drop
def fH:=@List.any_eq_true
def fK:=@PySem.F.slot_dict_keyiterator_next
def fQ:=@Nat.le_succ_of_le
def fR:=@Bool.eq_false_iff
def fX:=@Nat.not_lt_zero
def fY:=@Nat.le_succ
def f7:=@Bool.eq_iff_iff
def f9:=@PySem.Calls.spliced_cons
def gh:=@if_false
def gj:=@Nat.le_add_right
def gA:=@Nat.lt_trans
def gB:=@List.map_nil
def gF:=@Array.getElem_mem
def gH:=@List.mem_filter
def gJ:=@List.foldl_cons
def gQ:=@builtinLookup_eq_fast
def gS:=@List.mem_iff_getElem?
def gW:=@List.length_singleton
def gX:=@wpAny_typeOf
def hX:=@PySem.Code.quiet_builtin
def ig:=@PySem.F.type_dict_setdefault
def ik:=@List.nodup_nil
def iq:=@Array.toList_extract
def ix:=@wpAny_truthy_bool
def iy:=@wpAny_dictEntries
def iz:=@Nat.lt_succ_of_lt
def iA:=@wpAny_specialOf
def iE:=@List.nil_append
def iG:=@List.replicate_succ
def iH:=@List.filterMap_cons
def iJ:=@List.find?_cons_of_pos
def iK:=@List.find?_cons_of_neg
def iL:=@List.getElem?_append_right
def iO:=@wpAny_isInstance
def iP:=@wpAny_forIn_list
def iS:=@List.lookup_cons
def iT:=@wpAny_pyIter_tuple
def iU:=@wpAny_notOrdered_dict
def i7:=@PySem.F.slot_dict_get
def jc:=@PySem.Obj.data_mapFields
def jd:=@List.length_filter_le
def je:=@List.getElem?_eq_none
def jf:=@List.pairwise_iff_getElem
def jg:=@List.mem_of_find?_eq_some
def jh:=@PySem.Calls.call_function_entry
def jn:=@PyProof.Rows.vals1
def jv:=@codeAny_mono
def jw:=@codeAny_call_builtin
def jx:=@beq_iff_eq
def jy:=@Nat.min_eq_left
def jz:=@List.mem_iff_getElem
def jA:=@List.length_nil
def jB:=@List.find?_cons
def jC:=@PySem.Heap.get?_none_of_le
def jE:=@PySem.F.slot_zip_next
def jF:=@PySem.Calls.evalArgs_plain
def jG:=@wpAny_loadPart_at
def jI:=@List.length_range
def jJ:=@Decidable.not_not
def jO:=@wpAny_typeNameOfWhole_valiter
def jP:=@wpAny_typeNameOfWhole_keyiter
def jS:=@wpAny_fieldsOf
def jU:=@wpAny_rule
def jW:=@List.drop_eq_nil_of_le
def jY:=@wpAny_setField_rec
def jZ:=@wpAny_Call_Name_kw
def ke:=@Array.forIn_toList
def kf:=@typeLookup_type
def km:=@Option.map_some
def ko:=@PySem.Obj.isFreed_of_fields
def kr:=@List.perm_append_comm
def kz:=@forall_congr'
def kA:=@PySem.F.slot_NoneType_hash
def kB:=@Nat.mul_assoc
def kC:=@List.sum_cons
def kD:=@PySem.F.slot_tuple_iterator_next
def kE:=@wpAny_pyIter_list
def kH:=@List.flatten_cons
def kI:=@PySem.F.slot_tuple_hash
def kJ:=@PySem.Calls.spliced_nil
def kK:=@typeIs_str
def kL:=@lookup_relabel_local
def kQ:=@List.getElem?_append_left
def kR:=@Classical.byContradiction
def lD:=@Option.isSome_iff_exists
def lF:=@List.not_mem_nil
def lG:=@List.getElem_mem
def lH:=@mem_of_lookup
def lJ:=@Array.toList_append
def lQ:=@wpAny_getItem_str_slice
def lV:=@Nat.add_sub_cancel_left
def lW:=@List.lookup_eq_some_iff
def lZ:=@if_true
def mf:=@wpAny_dictEpoch
def mh:=@wpAny_call
def my:=@decide_eq_true_iff
def mB:=@call_meets
def mC:=@List.filter_append
def mK:=@Nat.mul_add
def mR:=@PySem.Str.length_append
def mS:=@Option.isSome_map
def mT:=@Nat.lt_trichotomy
def mU:=@List.foldl_append
def m6:=@isSubtype_stop
def ni:=@Nat.mul_le_mul
def nr:=@Nat.le_of_eq
def nB:=@List.drop_zero
def nP:=@beq_self_eq_true
def nU:=@List.mem_flatten
def nV:=@List.cons_append
def nX:=@Array.mem_toList_iff
def og:=@plainId_quiet
def oA:=@PySem.F.args_dict_valueiterator_next_1
def oB:=@PySem.Heap.get?_update_ne
def oE:=@wpAny_passesOwn
def oP:=@and_congr_right
def oR:=@List.rel_of_pairwise_cons
def oS:=@List.cons.injEq
def oU:=@PySem.F.entry_dict_valueiterator_next
def oZ:=@sub_AttributeError
def pH:=@PySem.Txt.slice_le
def pJ:=@PySem.W.callWith_K
def pK:=@PySem.F.args_dict_keyiterator_next_1
def pM:=@PyProof.Rows.F.entry_set_update_loop
def pN:=@Nat.pow_succ
def pO:=@List.mem_filterMap
def pP:=@List.find?_eq_none
def pQ:=@Int.zero_add
def pS:=@Array.size_extract
def qb:=@PySem.F.entry_dict_keyiterator_next
def qd:=@Nat.mod_lt
def qe:=@List.take_zero
def qh:=@Bool.false_and
def qj:=@wpAny_Call_method0_late
def qp:=@wpAny_pyIter_slot
def qq:=@wpAny_pyIter_enum
def qr:=@wpAny_Call_method
def qu:=@List.take_sublist
def qw:=@List.pairwise_map
def qx:=@Function.comp_def
def qy:=@PySem.F.args_zip_next_1
def qJ:=@PySem.F.entry_dict_get
def qL:=@Option.map_eq_none_iff
def qN:=@List.getElem?_set_self
def qO:=@Array.getElem?_eq_none
def qP:=@wpAny_standAt
def qQ:=@wpAny_newList
def qU:=@List.any_cons
def qY:=@merged_length_le
def q9:=@PyProof.Rows.good_str
def rm:=@Option.bind_some
def rp:=@Nat.succ_ne_self
def rq:=@Nat.min_eq_right
def rA:=@List.mem_flatMap
def rB:=@PySem.F.entry_zip_next
def rF:=@wpAny_isOneOf_valiter
def rP:=@PySem.F.type_dict_get
def rQ:=@List.Perm.append_left
def rR:=@plainObj_wpAny_Assign_Attribute
def rS:=@wpAny_ite_split
def rT:=@wpAny_execs_nil
def rY:=@post_val_or_str
def sH:=@call_meetsIn
def sM:=@PySem.F.args_dict_setdefault_3
def sO:=@Nat.not_lt
def sP:=@Nat.add_zero
def sR:=@List.sum_append
def sS:=@List.pairwise_append
def sT:=@List.of_mem_zip
def sU:=@List.getElem?_set_ne
def sV:=@List.forIn_cons
def sW:=@List.any_map
def sY:=@Bool.and_eq_true_iff
def sZ:=@PySem.F.slot_dict_values_iter
def tu:=@PySem.F.entry_dict_setdefault
def tw:=@wpAny_isSubtype_exc
def tE:=@wpAny_dictSet_pairs
def tO:=@evalArgs_none
def tP:=@PySem.W.plainGet_of
def tQ:=@Nat.mul_le_mul_left
def tR:=@List.length_pos_iff
def tT:=@PySem.F.plain_extend_loop
def tW:=@wpAny_newTuple
def uc:=@or_false
def uq:=@PySem.F.args_tuple_iterator_next_1
def uw:=@PyProof.Rows.vals2
def uE:=@Nat.add_mul
def uZ:=@PySem.SeqAt.EqAt.str_str
def u0:=@List.zip_cons_cons
def u3:=@List.pairwise_cons
def u4:=@List.filterMap_map
def u5:=@Int.emod_lt_of_pos
def u6:=@PySem.F.entry_tuple_iterator_next
def ve:=@PyProof.Rows.listUpdate_at
def vh:=@Sum.inr.injEq
def vn:=@PySem.F.excBase_ValueError
def vo:=@Nat.add_assoc
def vp:=@List.perm_ext_iff_of_nodup
def vq:=@List.length_eraseIdx_of_lt
def vx:=@PySem.Calls.Name_function_global
def vA:=@Bool.not_true
def vB:=@Array.toList_setIfInBounds
def vC:=@Array.perm_iff_toList_perm
def vD:=@wpAny_setState_of
def vO:=@PySem.Obj.cls_mapFields
def vP:=@Nat.mul_left_comm
def vQ:=@List.reverse_cons
def vR:=@Array.toList_push
def wj:=@List.findIdx?_eq_none_iff
def wy:=@wpAny_pyIter_zip
def wz:=@wpAny_askSetting
def wL:=@PyProof.Rows.plain_sorted
def wU:=@merged_take_succ
def xf:=@PyProof.Rows.entry_sorted
def xl:=@PyProof.Rows.args_sorted1
def xo:=@PySem.F.slot_dict_values
def xp:=@Nat.succ_pos
def xq:=@List.zipIdx_cons
def xr:=@List.mem_reverse
def xt:=@List.map_snd_zip
def xu:=@List.getElem?_take_of_lt
def xx:=@PySem.F.slot_tuple_mul
def xC:=@Array.toList_inj
def xD:=@Array.getElem?_replicate
def xF:=@PySem.F.type_list_index
def xG:=@PySem.F.slot_list_index
def xH:=@PySem.F.slot_dict_items
def xI:=@PySem.F.args_dict_get_3
def xJ:=@List.getElem?_replicate
def xK:=@List.Pairwise.filterMap
def xQ:=@size_of_entries
def yj:=@PyProof.Rows.entry_list_sort
def yn:=@codeAny_of_tree
def yq:=@List.length_set
def yr:=@List.find?_some
def yt:=@Int.emod_nonneg
def yu:=@PySem.Heap.DictOf.new
def yx:=@wpAny_pyNext_list_item
def yy:=@wpAny_Assign_Subscript
def yB:=@PyProof.Rows.subscriptTail_builtinR
def yD:=@PyProof.Rows.seqEpoch_at
def yK:=@PyProof.Rows.kind_sorted
def yO:=@Sum.inr.inj
def yQ:=@PySem.W.cellsFrom_some
def yR:=@PySem.F.slot_dict_iter
def yS:=@PySem.F.plainAttrs_str
def yT:=@PySem.PyData.shownAll_length
def yU:=@Nat.mod_mul
def yV:=@Nat.lt_of_succ_lt_succ
def yX:=@List.range_succ_eq_map
def yY:=@List.pairwise_lt_range
def yZ:=@List.length_pos_of_mem
def y0:=@List.Perm.append_right
def zb:=@wpAny_tryCatch
def zd:=@wpAny_pyNext_list_end
def ze:=@wpAny_loadPart
def zg:=@wpAny_isTrue_Compare1
def zh:=@wpAny_isOneOf_keyiter
def zm:=@PyProof.Rows.slot_list_sort
def zM:=@isSubtype_type
def zV:=@entryFor_alias
def zY:=@PyProof.Rows.args_list_sort
def zZ:=@PySem.W.methodCall_KW
def z9:=@PySem.F.plain_set_new
def Aa:=@List.lookup_cons_self
def Ab:=@List.forIn_nil
def Ag:=@wpAny_raiseAttrError
def AQ:=@and_true
def AS:=@PySem.Walks.list
def AU:=@PySem.W.looks_findIn
def AV:=@Prod.ext
def AW:=@PySem.Obj.data_mapDictKeys
def AX:=@Nat.pow_le_pow_right
def AY:=@Nat.mul_le_mul_right
def AZ:=@List.mem_of_mem_drop
def A1:=@List.getElem?_of_mem
def A2:=@PySem.F.kt_typeCall_dict_1
def A3:=@PySem.F.args_list_append_2
def A5:=@Array.toList_reverse
def A6:=@wpAny_onRaise
def Bs:=@List.take_nil
def Bt:=@List.map_take
def Bu:=@List.drop_nil
def Bx:=@Bool.true_and
def Bz:=@PyProof.Rows.entry_tuple_getitem
def BB:=@PyProof.Rows.lt_str
def BC:=@Nat.add_le_add_left
def BD:=@PySem.MeetsSeq.list_index
def BE:=@List.take_succ_cons
def BF:=@List.length_reverse
def BG:=@Int.toNat_of_nonneg
def BH:=@PySem.F.entry_list_append
def BI:=@PySem.F.args_list_index_2
def BL:=@wpAny_eqBool_tuple
def BV:=@seqIndex_neg
def B8:=@putSet_of
def CQ:=@exists_congr
def C5:=@PyProof.Rows.args_tuple_getitem
def C8:=@PySem.SeqAt.EqAt.str_int
def C9:=@PySem.SeqAt.EqAt.int_str
def Dd:=@PySem.F.called_set
def Dg:=@Option.isSome_some
def Dh:=@Nat.sub_zero
def Di:=@Nat.sub_self
def Dj:=@Nat.lt_or_ge
def Dk:=@List.sum_nil
def Dl:=@List.mem_replicate
def Dn:=@List.map_inj_right
def Dr:=@List.countP_append
def Ds:=@List.contains_cons
def Dv:=@PySem.F.slot_list_append
def Dw:=@PySem.F.entry_list_index
def Dx:=@PySem.F.args_dict_init_2
def DB:=@PySem.Calls.Constant_str
def DC:=@Bool.or_true
def DH:=@Array.all_eq_true'
def DI:=@Array.Perm.size_eq
def D6:=@wpAny_storeSet_of
def D7:=@wpAny_sequenceKey
def D8:=@wpAny_assign_Name
def Eb:=@eqIsQuiet_byValue
def Ec:=@bne_self_eq_false
def Ed:=@PySem.StrLaws.subAt_one
def Ee:=@list_append
def Ef:=@PySem.W.kitx_list
def Eg:=@Nat.lt_of_succ_lt
def Eh:=@List.reverse_perm
def Ei:=@List.find?_isSome
def Ej:=@List.ext_getElem?
def Ek:=@List.any_eq_false
def El:=@PySem.Heap.SameBut.refl
def Em:=@PySem.Heap.Ns1.of_empty
def Eo:=@PySem.F.slot_list_index
def Ep:=@PySem.F.entry_dict_init
def Er:=@Bool.not_eq_true'
def Eu:=@wpAny_of_eq
def Ew:=@wpAny_letGo
def Ey:=@seqIndex_of
def Fi:=@PySem.Paired.snoc
def Fl:=@Nat.one_mul
def Fn:=@Nat.le_zero
def FO:=@PyProof.Rows.good_int
def F5:=@wpAny_load
def F6:=@wpAny_Name
def F8:=@typeIs_int
def Gd:=@strKind_is
def Hr:=@PyProof.Rows.Subscript_
def Hw:=@PyProof.Rows.Call_
def Hx:=@Array.ext'
def Ip:=@Iff.rfl
end
namespace L2
open PySem PySem.Spec PyProof.Rows
def inClass(s:wP)(j:Nat):wP:=match s with
 | .ClassDef _ _ _ body _ _ _ _ _ _ _=>body.getD j<|.Pass {0,0,0,0}
 |_=>.Pass {0,0,0,0}
def pY(s:wP):Arguments:=match s with
 | .FunctionDef _ a _ _ _ _ _ _ _ _=>a
 |_=>{posonlyargs:=[],args:=[],vararg:=none,kwonlyargs:=[],kw_defaults:=[],kwarg:=none,defaults:=[]}
def nh(s:wP):List wP:=match s with
 | .FunctionDef _ _ b _ _ _ _ _ _ _=>b
 |_=>[]
def bI(s:wP):AC:=match s with
 | .FunctionDef _ _ _ _ _ _ sc _ _ _=>sc
 |_=>{kind:=.function,names:=[],isGenerator:=false,isCoroutine:=false}
end L2
namespace nL
open PySem PySem.Spec PyProof.Rows L2
def top(i:Nat):wP:=PySem.Challenge.pw_askviews_k65_tables_that_fit.main.body.getD i<|.Pass {0,0,0,0}
end nL
namespace Hd
open PySem PySem.W PyProof.Rows PySem.W.Fast
abbrev pos0:Gc:={0,0,0,0}
abbrev tb:=tw14364793385576792824
abbrev an0:Aag:=some<|.ref 6
def env0(p:io):V':={scope:=p.main.scope,locals:=mainNs,globals:=mainNs,cells:=[],code:=.ref 13,frame:=some 014}
def cd0(p:io):Code:=.body (K' p)<|env0 p
abbrev B0:List Frame:=[topFrame pos0]
def S0(w:i6)(os:xz):f8:={boot_heap w.params,Array.mk [],boot_drawn,boot_toks,os}
def mkT(l:List J'):Nat->Nat->Nat->BT
 |0,_,_=>.nil
 |f+1,a,b=>match l[b]? with
  |some o=>.node o (mkT l f (2*a)<|a+b)<|mkT l f (2*a)<|2*a+b
  |none=>.nil
def toT(s:f8):SharedT:={mkT s.heap.objs.toList 6 1 0,34,s.heap.life,s.gens,s.drawn,21,s.os}
def pre(p:io)(w:i6)(os:xz):SharedT:=match tw15667345088766844465 tb p w 11 an0 12 (S0 w os) (topStub p)with
 |some r=>toT r.1
 |none=>toT<|S0 w os
def body(p:io)(n:Nat)(w:i6)(os:xz):Option (Flow×SharedT×Code×Gc):=
 tw10110043849684766642 tb p w 11 an0 1 n (pre p w os) (piecesOf (K' p) (env0 p) (cd0 p) pos0 B0)
def aft(p:io)(n:Nat)(w:i6)(os:xz):SharedT:=match body p n w os with
 |some r=>r.2.1
 |none=>toT<|S0 w os
def posL(p:io)(n:Nat)(w:i6)(os:xz):Gc:=match body p n w os with
 |some r=>r.2.2.2
 |none=>pos0
def fin(p:io)(n:Nat)(w:i6)(os:xz):f8:=match tw14082659384304107361 tb p w 11 an0 2 (aft p n w os).abs {doneF .next,cd0 p,posL p n w os,B0}with
 |some s=>s
 |none=>S0 w os
structure Ok(p:io)(n:Nat):Prop where
 pre:∀w os,tw15667345088766844465 tb p w 11 an0 12 (S0 w os) (topStub p)>((Hd.pre p w os).abs,{tw11892475500146522536 tb<|cd0 p,cd0 p,pos0,B0})
 block:∀w os,tw14374325043358763698 tb p w 11 an0 1 1 (Hd.pre p w os).abs (blockOf (K' p) (env0 p) (cd0 p) pos0 B0)>(.next,(Hd.pre p w os).abs,cd0 p,pos0)
 body:∀w os,Hd.body p n w os>(.next,aft p n w os,cd0 p,posL p n w os)
 fin:∀w os,tw14082659384304107361 tb p w 11 an0 2 (aft p n w os).abs {doneF .next,cd0 p,posL p n w os,B0}>Hd.fin p n w os
def run(o:Ok p n)(w:i6)(os:xz):topRun treeTable p w 11 an0 (12+(1+(n+2))) (S0 w os) (topStub p)>fin p n w os:=by have h1:=o.pre w os;have h2:=o.block w os;have h3:=o.body w os;have h4:=o.fin w os;unfold Hd.body at h3;unfold tb at h1 h2 h3 h4;rw[<-te15667345088766844465,<-te14364793385576792824,<-te11892475500146522536]at h1;rw[<-te14374325043358763698,<-te14364793385576792824]at h2;rw[<-te10110043849684766642,<-te14364793385576792824]at h3;rw[<-te14082659384304107361,<-te14364793385576792824]at h4;have k:topRun treeTable p w 11 an0 (n+2) (Hd.pre p w os).abs (restOf (K' p++[]) (env0 p) (cd0 p) pos0 B0)>fin p n w os:=piece_app (segRun_of h3)<|piece_nil h4;rw[eO]at k;show go_top h1<|piece_block h2 k
def left(o:Ok p n)(hN:Nat.ble (12+(1+(n+2))) N=true)(he:opening p=plainProg p.main.scope.names)(h6:Nat.ble 600 N=true)(hf:∀s,fenceModules? p s>s)
  (l1:∀w os,(staticsOk (IR p.main.body) (boot_heap w.params) (fin p n w os).heap&&namesBound p (fin p n w os).heap&&gensDone (fin p n w os)&&laidKept (boot_heap w.params) (fin p n w os).heap)=true)
  (l2:∀w os,openSeen q loose (IR p.main.body) Xt g0 (fin p n w os)=openGood q loose) (l3:∀w os,Yf (fin p n w os)=Ya w):LeftO p q loose Xt Yf Ya N g0:=λw=>by
 let(s,e,e'):=bw.mp<|boot_open he h6 hf w;obtain⟨os,rfl⟩:∃os,s=S0 w os:=by let(h,g,d,t,os):=s;simp only[Prod.mk.injEq]at e';let(rfl,rfl,rfl,rfl):=e';show⟨os,rfl⟩
 have r:=topRun_mono (N -(12+(1+(n+2)))) _ _ _ _<|run o w os;rw[show 12+(1+(n+2))+(N -(12+(1+(n+2))))=N by have:=Nat.le_of_ble_eq_true hN;lia]at r;have z1:((S0 w os).heap.isNs u8&&(S0 w os).gens.size==0)=true:=by kernel_rfl
 have z2:(S0 w os).heap.objs.size=11:=by kernel_rfl
 have z3:(S0 w os).heap.nsMap u8 "__annotations__"=an0:=by kernel_rfl
 have t:topFrom treeTable p w N (S0 w os)>fin p n w os:=by unfold topFrom;rw[z1,z2,z3,r];have q:=l1 w os;change(match _ with|true=>_|false=>_)=_;rw[show(staticsOk (IR p.main.body) (S0 w os).heap (fin p n w os).heap&&namesBound p (fin p n w os).heap&&gensDone (fin p n w os)&&laidKept (S0 w os).heap (fin p n w os).heap)=true from q]
 unfold openEnds;rw[e];change(topFrom treeTable p w N _).map _=_;rw[t];show dX some<|AV (l2 w os)<|l3 w os
end Hd
namespace nL
open PySem PySem.Spec PyProof.Rows L2
abbrev cO(vs:Aae):J':={.type "code",none,.fields vs.toArray,#[]}
abbrev kO(P:Params)(x:i9)(t:Tok)(v:i5):Db:={PyData.keyHash P x,.str x t,v}
abbrev fO(s:wP)(n q:i9)(pm cd:i5):J':={.type "function",none,.func<|fnOf n q (pY s) (nh s) (bI s) .none .none .none pm none cd .none,#[]}
abbrev cF(x q:i9)(a b c:Tok)(l n:Int)(r r1:cr)(v1 v2:i5)(r2:cr)(i:Int)(d:Tok):J':=cO [.str x a,.str q b,.str "/claim/cut.py" c,.int l 0,.int n 0,.int 0 0,.int 0 0,.int 3 0,-r,.bool true,.int 181 0,-r1,.none,v1,v2,-r2,.int i 0,.int l 0,.str "/claim/cut.py" d]
abbrev UR:i5:=Value.str "askviews.terms" 187
abbrev mO1:i5:=Value.str "askviews.questions" 217
abbrev mO2:i5:=Value.str "askviews.tables" 238
abbrev zI:i5:=Value.str "askviews.answers" 268
abbrev mO4:i5:=Value.str "askviews.errors" 401
abbrev tH:i5:=Value.str "askviews.maps" 576
abbrev UQ:i5:=Value.str "askviews.unfolding" 690
abbrev vE:i5:=Value.str "askviews.sure" 731
abbrev gE:i5:=Value.str "law_askviews_k65_tables_that_fit" 814
abbrev fP(A:Nat)(s:wP)(x q:i9)(m:i5)(a:Nat)(l n:Int)(r r1:cr)(v1 v2:i5)(i:Nat)(K:Frag):Frag:=(A,cF x q a (a+1) (a+2) l n r r1 v1 v2 (A -1) (.ofNat i)<|i+1)::(A+1,fO s x q m (-A))::K
abbrev fN(A:Nat)(s:wP)(x q:i9)(m:i5)(a:Nat)(l n:Int)(i:Nat)(K:Frag):Frag:=fP A s x q m a l n (A -3) (A -2) .none .none i K
abbrev fM(A:Nat)(s:wP)(x q:i9)(m:i5)(a:Nat)(l n:Int)(i:Nat)(K:Frag):Frag:=fP A s x q m a l n (A -5) (A -4) (.ref<|A -3) (.ref<|A -2) i K
abbrev gN(A:Nat)(i:Nat)(x:i9)(m:i5)(a:Nat)(l n:Int)(j:Nat)(K:Frag):Frag:=fN A (top i) x x m a l n j K
abbrev kc(A:Nat)(o:J')(K:Frag):Frag:=(A,o)::K
abbrev gM(A:Nat)(i:Nat)(x:i9)(m:i5)(a:Nat)(l n:Int)(j:Nat)(K:Frag):Frag:=fM A (top i) x x m a l n j K
noncomputable def KF(P:Params):Frag:=
 kc 1 {14,none,.dict #[kO P "builtins" 162<|.ref 4,kO P "__main__" 163<|.ref 5] 2,#[]}<|
 kc 2 {.none,none,.dict #[] 0,#[]}<|
 kc 3 {14,none,.dict #[kO P "__name__" 165<|.str "law_askviews_k65_tables_that_fit" 814,kO P "__doc__" 166 .none,kO P "__package__" 167 .none,kO P "__loader__" 168<|.builtin "__main__.__loader__#opaque",kO P "__spec__" 169 .none,kO P "__annotations__" 170<|.ref 6,kO P "__builtins__" 171<|.ref 4,kO P "__file__" 173<|.str "/claim/cut.py" 172,kO P "__cached__" 174 .none,kO P "SIGNS" 190<|.str AbN 189,kO P "MOST_SIGNS" 192<|.int 08 191,kO P "is_value" 198<|.ref 019,kO P "is_unknown" 205<|.ref 026,kO P "new_values" 216<|.ref 033,kO P "unknowns_of" 228<|.ref 040,kO P "terms_of" 237<|.ref 047,kO P "rows_of" 247<|.ref 054,kO P "tables_of" 257<|.ref 061,kO P "sorted_tables" 267<|.ref 068,kO P "answers" 277<|.ref 075,kO P "counts_of" 290<|.ref 082,kO P "needed_terms" 301<|.ref 089,kO P "Asking" 357<|.ref 126,kO P "narrowed" 371<|.ref 137,kO P "places_of" 381<|.ref 144,kO P "image" 387<|.ref 294,kO P "image_answers" 388<|.ref 149,kO P "is_image" 394<|.ref 154,kO P "tails_by_key" 400<|.ref 159,kO P "AskError" 420 38,kO P "NoText" 445<|.ref 189,kO P "Loose" 470<|.ref 208,kO P "NoView" 495<|.ref 227,kO P "TooMany" 511<|.ref 239,kO P "Twice" 527<|.ref 251,kO P "NoHeld" 543<|.ref 263,kO P "NoAsk" 559<|.ref 275,kO P "NoRow" 575<|.ref 287,kO P "image_maps" 584<|.ref 294,kO P "found_map" 593<|.ref 301,kO P "fitted" 606<|.ref 308,kO P "MapSearch" 670<|.ref 349,kO P "parts_of" 683<|.ref 360,kO P "is_touched" 689<|.ref 365,kO P "unfolded_parts" 697<|.ref 370,kO P "joined" 706<|.ref 377,kO P "check_views" 718<|.ref 384,kO P "new_unknowns" 724<|.ref 389,kO P "inner_unknowns" 730<|.ref 394,kO P "fits" 738<|.ref 399,kO P "sure" 744<|.ref 404,kO P "shown_sure" 750<|.ref 409,kO P Ab3 756<|.ref 414,kO P "atoms_of" 762<|.ref 419,kO P "is_seen" 771<|.ref 426,kO P "taken_terms" 787<|.ref 433,kO P "made_parts" 801<|.ref 440,kO P "new_parts" 807<|.ref 445,kO P "used_rows" 813<|.ref 450,kO P "_law_cell_at" 824<|.ref 457,kO P "_law_box" 833<|.ref 464,kO P Abx 843<|.ref 471,kO P Abp 849<|.ref 476,kO P "_law_atom" 862<|.ref 483,kO P AbC 872<|.ref 490,kO P Abh 878<|.ref 495,kO P "_law_view" 884<|.ref 500,kO P "_law_views" 890<|.ref 505,kO P "_law_put" 902<|.ref 512,kO P "_law_maps" 917<|.ref 519,kO P AaY 923<|.ref 524,kO P "_law_goals" 933<|.ref 531,kO P "_law_answers" 939<|.ref 536,kO P "_law_seen" 945<|.ref 541,kO P "_law_held" 951<|.ref 546,kO P "_law_made" 957<|.ref 551,kO P "_law_rows" 967<|.ref 558,kO P "_law_bent" 982<|.ref 565,kO P "_law_asked" 992<|.ref 572,kO P "_law_refused" 1005<|.ref 579,kO P AbL 1011<|.ref 584,kO P "_law_right" 1017<|.ref 589,kO P "law" 1026<|.ref 596] 083,#[]}<|
 gN 018 3 "is_value" UR 193 4 1 196<|
 gM 25 4 "is_unknown" UR 199 08 1 203<|
 gM 32 5 "new_values" UR 206 10 2 214<|
 gM 39 07 "unknowns_of" mO1 219 020 1 226<|
 gM 046 08 "terms_of" mO1 229 027 1 235<|
 gM 053 10 "rows_of" mO2 240 033 2 245<|
 gM 060 11 "tables_of" mO2 248 035 1 255<|
 gM 067 12 "sorted_tables" mO2 258 040 1 265<|
 gM 074 014 "answers" zI 270 048 2 275<|
 gM 081 015 "counts_of" zI 278 050 2 288<|
 gM 088 016 "needed_terms" zI 291 058 2 299<|
 fM 102 (inClass (top 017) 0) "__init__" "Asking.__init__" zI 314 65 2 319<|
 fN 107 (inClass (top 017) 1) "best_place" "Asking.best_place" zI 322 071 2 325<|
 fN 112 (inClass (top 017) 2) "take" "Asking.take" zI 328 081 3 331<|
 fN 117 (inClass (top 017) 3) "fresh_unknowns" "Asking.fresh_unknowns" zI 334 090 2 337<|
 fN 122 (inClass (top 017) 4) "tails_of_maps" "Asking.tails_of_maps" zI 340 093 2 343<|
 kc 125 {14,none,.dict #[kO P "__module__" 309<|.str "askviews.answers" 268,kO P "__firstlineno__" 313<|.int 63 312,kO P "__init__" 321<|.ref 103,kO P "best_place" 327<|.ref 108,kO P "take" 333<|.ref 113,kO P "fresh_unknowns" 339<|.ref 118,kO P "tails_of_maps" 345<|.ref 123,kO P Aaz 350<|.ref 124,kO P "__dict__" 352<|.ref 127,kO P AaA 354<|.ref 128,kO P "__doc__" 355 .none] 4,#[]}<|
 kc 126 {72,none,.cls {"Asking",[70],[(.ref 126),70],125,"Asking",true,[],[],false,none,false},#[none,none,some<|.str "Asking" 302,some<|.str "Asking" 310,some<|.builtin "object.__new__",some 89]}<|
 kc 127 {161,none,.fields #[(.str "__dict__" 351),.ref 126,.builtin "function.__dict__",.builtin "function.__dict__#set"],#[]}<|
 kc 128 {161,none,.fields #[(.str AaA 353),.ref 126,.builtin "ExceptionGroup.__weakref__",.none],#[]}<|
 gM 136 018 "narrowed" zI 358 102 3 369<|
 gM 143 019 "places_of" zI 372 109 1 379<|
 gN 148 020 "image" zI 382 114 3 385<|
 gN 153 022 "is_image" zI 389 117 2 392<|
 gN 158 023 "tails_by_key" zI 395 121 4 398<|
 kc 168 {14,none,.dict #[kO P "__module__" 410<|.str "askviews.errors" 401,kO P "__firstlineno__" 414<|.int 129 413,kO P Aaz 415<|.ref 167,kO P AaA 417<|.ref 170,kO P "__doc__" 418 .none] 3,#[]}<|
 kc 169 {72,none,.cls {"AskError",[82],[38,82,105,71,70],168,"AskError",true,[],[(.ref 189),.ref 208,.ref 227,.ref 239,.ref 251,.ref 263,.ref 275,.ref 287],false,none,false},#[some<|.ref 160,none,some<|.str "AskError" 403,some<|.str "AskError" 411,some 40,some 89]}<|
 kc 170 {161,none,.fields #[(.str AaA 416),38,.builtin "ExceptionGroup.__weakref__",.none],#[]}<|
 kc 189 {72,none,.cls {"NoText",[38],[(.ref 189),38,82,105,71,70],188,"NoText",true,[],[],false,none,false},#[some<|.ref 173,none,some<|.str "NoText" 421,some<|.str "NoText" 429,some 40,some 89]}<|
 kc 208 {72,none,.cls {"Loose",[38],[(.ref 208),38,82,105,71,70],207,"Loose",true,[],[],false,none,false},#[some<|.ref 192,none,some<|.str "Loose" 446,some<|.str "Loose" 454,some 40,some 89]}<|
 fM 223 (inClass (top 028) 0) "__init__" "NoView.__init__" mO4 483 143 2 488<|
 kc 226 {14,none,.dict #[kO P "__module__" 478<|.str "askviews.errors" 401,kO P "__firstlineno__" 482<|.int 141 481,kO P "__init__" 490<|.ref 224,kO P Aaz 492<|.ref 225,kO P "__doc__" 493 .none] 2,#[]}<|
 kc 227 {72,none,.cls {"NoView",[38],[(.ref 227),38,82,105,71,70],226,"NoView",true,[],[],false,none,false},#[some<|.ref 211,none,some<|.str "NoView" 471,some<|.str "NoView" 479,some 40,some 89]}<|
 kc 239 {72,none,.cls {"TooMany",[38],[(.ref 239),38,82,105,71,70],238,"TooMany",true,[],[],false,none,false},#[some<|.ref 230,none,some<|.str "TooMany" 496,some<|.str "TooMany" 504,some 40,some 89]}<|
 kc 251 {72,none,.cls {"Twice",[38],[(.ref 251),38,82,105,71,70],250,"Twice",true,[],[],false,none,false},#[some<|.ref 242,none,some<|.str "Twice" 512,some<|.str "Twice" 520,some 40,some 89]}<|
 kc 263 {72,none,.cls {"NoHeld",[38],[(.ref 263),38,82,105,71,70],262,"NoHeld",true,[],[],false,none,false},#[some<|.ref 254,none,some<|.str "NoHeld" 528,some<|.str "NoHeld" 536,some 40,some 89]}<|
 kc 275 {72,none,.cls {"NoAsk",[38],[(.ref 275),38,82,105,71,70],274,"NoAsk",true,[],[],false,none,false},#[some<|.ref 266,none,some<|.str "NoAsk" 544,some<|.str "NoAsk" 552,some 40,some 89]}<|
 kc 287 {72,none,.cls {"NoRow",[38],[(.ref 287),38,82,105,71,70],286,"NoRow",true,[],[],false,none,false},#[some<|.ref 278,none,some<|.str "NoRow" 560,some<|.str "NoRow" 568,some 40,some 89]}<|
 gN 293 035 "image" tH 578 157 2 581<|
 gM 300 037 "found_map" tH 585 160 2 591<|
 gM 307 038 "fitted" tH 594 165 3 604<|
 fM 321 (inClass (top 39) 0) "__init__" "MapSearch.__init__" tH 619 176 2 624<|
 fM 328 (inClass (top 39) 1) "add" "MapSearch.add" tH 627 181 2 636<|
 fM 335 (inClass (top 39) 2) "mapped" "MapSearch.mapped" tH 639 188 3 646<|
 fN 340 (inClass (top 39) 3) AcC "MapSearch.mapped_part" tH 649 195 3 652<|
 fN 345 (inClass (top 39) 4) "aims_of" "MapSearch.aims_of" tH 655 210 3 658<|
 kc 348 {14,none,.dict #[kO P "__module__" 614<|.str "askviews.maps" 576,kO P "__firstlineno__" 618<|.int 174 617,kO P "__init__" 626<|.ref 322,kO P "add" 638<|.ref 329,kO P "mapped" 648<|.ref 336,kO P AcC 654<|.ref 341,kO P "aims_of" 660<|.ref 346,kO P Aaz 663<|.ref 347,kO P "__dict__" 665<|.ref 350,kO P AaA 667<|.ref 351,kO P "__doc__" 668 .none] 4,#[]}<|
 kc 349 {72,none,.cls {"MapSearch",[70],[(.ref 349),70],348,"MapSearch",true,[],[],false,none,false},#[none,none,some<|.str "MapSearch" 607,some<|.str "MapSearch" 615,some<|.builtin "object.__new__",some 89]}<|
 kc 350 {161,none,.fields #[(.str "__dict__" 664),.ref 349,.builtin "function.__dict__",.builtin "function.__dict__#set"],#[]}<|
 kc 351 {161,none,.fields #[(.str AaA 666),.ref 349,.builtin "ExceptionGroup.__weakref__",.none],#[]}<|
 gM 359 040 "parts_of" tH 671 219 2 681<|
 gN 364 041 "is_touched" tH 684 231 3 687<|
 gN 369 043 "unfolded_parts" UQ 692 235 2 695<|
 gM 376 044 "joined" UQ 698 247 1 704<|
 gM 383 045 "check_views" UQ 707 252 2 716<|
 gN 388 046 "new_unknowns" UQ 719 257 2 722<|
 gN 393 047 "inner_unknowns" UQ 725 261 1 728<|
 gN 398 049 "fits" vE 733 264 3 736<|
 gN 403 050 "sure" vE 739 269 3 742<|
 gN 408 051 "shown_sure" vE 745 276 4 748<|
 gN 413 052 Ab3 vE 751 284 2 754<|
 gN 418 053 "atoms_of" vE 757 289 1 760<|
 gM 425 054 "is_seen" vE 763 294 3 769<|
 gM 432 055 "taken_terms" vE 772 296 4 785<|
 gM 439 056 "made_parts" vE 788 306 3 799<|
 gN 444 057 "new_parts" vE 802 315 3 805<|
 gN 449 058 "used_rows" vE 808 320 2 811<|
 gM 456 060 "_law_cell_at" gE 816 324 2 822<|
 gM 463 061 "_law_box" gE 825 331 2 831<|
 gM 470 62 Abx gE 834 334 2 841<|
 gN 475 63 Abp gE 844 342 2 847<|
 gM 482 64 "_law_atom" gE 850 355 2 860<|
 gM 489 65 AbC gE 863 364 1 870<|
 gN 494 066 Abh gE 873 371 2 876<|
 gN 499 067 "_law_view" gE 879 382 2 882<|
 gN 504 068 "_law_views" gE 885 407 3 888<|
 gM 511 069 "_law_put" gE 891 413 3 900<|
 gM 518 070 "_law_maps" gE 903 427 3 915<|
 gN 523 071 AaY gE 918 438 2 921<|
 gM 530 072 "_law_goals" gE 924 440 1 931<|
 gN 535 073 "_law_answers" gE 934 447 3 937<|
 gN 540 074 "_law_seen" gE 940 449 2 943<|
 gN 545 075 "_law_held" gE 946 454 3 949<|
 gN 550 076 "_law_made" gE 952 464 2 955<|
 gM 557 077 "_law_rows" gE 958 475 1 965<|
 gM 564 078 "_law_bent" gE 968 482 2 980<|
 gM 571 079 "_law_asked" gE 983 495 4 990<|
 gM 578 080 "_law_refused" gE 993 501 4 1003<|
 gN 583 081 AbL gE 1006 514 4 1009<|
 gN 588 082 "_law_right" gE 1012 527 3 1015<|
 gM 595 083 "law" gE 1018 537 1 1024<|[]
noncomputable def asF:Aah:=[1,2,3,018,019,25,026,32,033,39,040,046,047,053,054,060,061,067,068,074,075,081,082,088,089,102,103,107,108,112,113,117,118,122,123,125,126,127,128,136,137,143,144,148,149,153,154,158,159,168,169,170,189,208,223,224,226,227,239,251,263,275,287,293,294,300,301,307,308,321,322,328,329,335,336,340,341,345,346,348,349,350,351,359,360,364,365,369,370,376,377,383,384,388,389,393,394,398,399,403,404,408,409,413,414,418,419,425,426,432,433,439,440,444,445,449,450,456,457,463,464,470,471,475,476,482,483,489,490,494,495,499,500,504,505,511,512,518,519,523,524,530,531,535,536,540,541,545,546,550,551,557,558,564,565,571,572,578,579,583,584,588,589,595,596]
def HF:PySem.W.Hook:=PySem.W.kHook KF asF λ_=>by kernel_rfl
noncomputable def qf(p:io):io:={p with main:={p.main with body:=[1,2,3,4,5,07,08,10,11,12,014,015,016,017,018,019,021,022,023,25,026,027,028,029,030,031,32,033,035,036,037,038,39,040,041,043,044,045,046,047,049,050,051,052,053,054,055,056,057,058,060,061,62,63,64,65,066,067,068,069,070,071,072,073,074,075,076,077,078,079,080,081,082,083].filterMap λi=>p.main.body[i]?}}
abbrev XF(p:io)(s:f8):Bool:=PySem.W.xlAt (qf p) [] s&&PySem.W.recOk [] s
abbrev LF(p:io):Prop:=PySem.W.LeftO p (qf p) ["image_answers","image_maps"] (XF p) (PySem.W.Hook.obs HF) (PySem.W.Hook.val HF) 9286
abbrev pL:io:=PySem.Challenge.pw_askviews_k65_tables_that_fit
def okL:Hd.Ok pL 4581:={λw os=>by kernel_rfl,λw os=>by kernel_rfl,λw os=>by kernel_rfl,λw os=>by kernel_rfl}
def l1L(w:i6)(os:xz):(PySem.W.staticsOk (IR pL.main.body) (PySem.W.boot_heap w.params) (Hd.fin pL 4581 w os).heap&&PySem.W.namesBound pL (Hd.fin pL 4581 w os).heap&&PySem.W.gensDone (Hd.fin pL 4581 w os)&&PySem.W.laidKept (PySem.W.boot_heap w.params) (Hd.fin pL 4581 w os).heap)=true:=by kernel_rfl
def sL(w:i6)(os:xz):=PySem.W.Fast.tw4187177175401517315 (qf pL) ["image_answers","image_maps"] (IR pL.main.body) (XF pL) true<|Hd.fin pL 4581 w os
open PySem.W in
def l2a(w:i6)(os:xz):((sL w os).1,(sL w os).2.1)=(expectedOf<|qf pL,bltViewBooted):=by kernel_rfl
def l2b(w:i6)(os:xz):((sL w os).2.2.1,(sL w os).2.2.2.1)=(true,true):=by kernel_rfl
open PySem.W in
def l2c(w:i6)(os:xz):(sL w os).2.2.2.2=(pinGoodD<|drecsOf<|qf pL,plainGoodE (qf pL)<|looseW (qf pL) ["image_answers","image_maps"],plainGoodD (qf pL) ["image_answers","image_maps"],wideGood<|qf pL,clsGoodW (qf pL) ["image_answers","image_maps"]):=by kernel_rfl
def pe5{A B C D E:Type}{p:A×B×C×D×E}{a:A}{b:B}{c:C}{d:D}{e:E}(h1:(p.1,p.2.1)=(a,b))(h2:(p.2.2.1,p.2.2.2.1)=(c,d))(h3:p.2.2.2.2=e):p=(a,b,c,d,e):=by cases h1;cases h2;cases h3;rfl
def l2L(w:i6)(os:xz):sL w os=PySem.W.openGood (qf pL) ["image_answers","image_maps"]:=pe5 (l2a w os) (l2b w os)<|l2c w os
def l3L(w:i6)(os:xz):asF.map (Hd.fin pL 4581 w os).heap.get?=(KF w.params).map λp=>some p.2:=by kernel_rfl
def age:LF pL:=Hd.left (n:=4581) okL 29 29 29 (λs=>by kernel_rfl) l1L (λw os=>by rw[PySem.W.Fast.te4187177175401517315];show l2L w os) l3L
def head:LF PySem.Challenge.pw_askviews_k65_tables_that_fit:=age
def afN:PySem.Challenge.rw_askviews_k65_tables_that_fit.wellSaid=true:=by rw[PySem.W.Fast.te9446332074065402090];kernel_rfl
end nL
namespace L2
open PySem PySem.Spec PyProof.Rows
abbrev Key:=Sum Int i9
def AE:Key->i5->Bool
 | .inl k,v=>Value.isInt k v
 | .inr x,v=>Value.isStrOf x v
def agX(w:i6):Key->Int
 | .inl k=>hashInt k
 | .inr x=>hashStr w x
theorem jm:∀{k:Key}{v:i5},AE k v=true->(∃i t,k=Sum.inl i/\v=Value.int i t)\/(∃x t,k=Sum.inr x/\v=Value.str x t)
 | .inl i,v,h=>by let(t,e):=Value.isInt_shape h;show .inl ⟨i,t,rfl,e⟩
 | .inr x,v,h=>by let(t,e):=Value.isStrOf_shape h;show .inr ⟨x,t,rfl,e⟩
def U5(i:Int)(t:Tok):AE (.inl i) (.int i t)=true:=by simp[AE,Value.isInt]
def U4(x:i9)(t:Tok):AE (.inr x) (.str x t)=true:=by simp[AE,Value.isStrOf]
def aei(a b:Int):decide ((Sum.inl a:Key)=Sum.inl b)=(a==b):=by
 by_cases e:a=b;·subst e;simp
 have h:¬(Sum.inl a:Key)=Sum.inl b:=λq=>e<|Sum.inl.inj q;rw[bQ h];show(cG.mpr e).symm
def aef(a b:i9):decide ((Sum.inr a:Key)=Sum.inr b)=decide (a=b):=by
 by_cases e:a=b;·subst e;simp
 have h:¬(Sum.inr a:Key)=Sum.inr b:=λq=>e<|yO q;rw[bQ h,bQ e]
def aeh(a:Int)(b:i9):decide ((Sum.inl a:Key)=Sum.inr b)=false:=bQ (λq=>nomatch q)
def aeg(a:i9)(b:Int):decide ((Sum.inr a:Key)=Sum.inl b)=false:=bQ (λq=>nomatch q)
noncomputable def bZ(prog:io)(w:i6):PySem.KeyKind prog w Key where
 is:=AE
 hash:=agX w
 inj:=λv a b ha hb=>by
  rcases jm ha with⟨i,t,rfl,rfl⟩|⟨x,t,rfl,rfl⟩
  ·rcases jm hb with⟨j,u,rfl,e⟩|⟨y,u,rfl,e⟩;·injection e with e1 _;rw[e1]
   show nomatch e
  rcases jm hb with⟨j,u,rfl,e⟩|⟨y,u,rfl,e⟩;·show nomatch e
  injection e with e1 _;rw[e1]
 byValue:=λk v h=>by rcases jm h with⟨i,t,rfl,rfl⟩|⟨x,t,rfl,rfl⟩<;>rfl
 pyHash:=λhv h=>by
  rcases jm hv with⟨i,t,rfl,rfl⟩|⟨x,t,rfl,rfl⟩;·show wpAny_pyHash_int h
  show wpAny_pyHash_str h
 eqBool:=λhu hv h=>by
  rcases jm hu with⟨i,t,rfl,rfl⟩|⟨x,t,rfl,rfl⟩
  ·rcases jm hv with⟨j,u,rfl,rfl⟩|⟨y,u,rfl,rfl⟩;·rw[aei]at h;show wpAny_eqBool_int h
   rw[aeh]at h;show C9 i t y u _ _ _ _ h
  rcases jm hv with⟨j,u,rfl,rfl⟩|⟨y,u,rfl,rfl⟩;·rw[aeg]at h;show C8 x t j u _ _ _ _ h
  rw[aef]at h;show wpAny_eqBool_str h
 «strs»:=λk x t v h=>by
  rcases jm h with⟨i,u,rfl,e⟩|⟨y,u,rfl,e⟩;·show nomatch e
  injection e with e1 _;subst e1;cases v<;>rfl
def Oh(prog:io)(w:i6)(i:Int)(t:Tok):(bZ prog w).is (.inl i) (.int i t)=true:=U5 i t
def EN(prog:io)(w:i6)(x:i9)(t:Tok):(bZ prog w).is (.inr x) (.str x t)=true:=U4 x t
inductive V where
 |cU|bl (b:Bool)|int (i:Int)|str (x:i9)|ref (a:cr)|ty (n:String)
 deriving DecidableEq
abbrev Aan:=Option V
abbrev Aam:=List V
abbrev Aak:=List<|V×V
def RelV:V->i5->Prop
 | .cU,u=>u=Value.none
 | .bl b,u=>u=Value.bool b
 | .int i,u=>∃t,u=Value.int i t
 | .str x,u=>∃t,u=Value.str x t
 | .ref a,u=>u=Value.ref a
 | .ty n,u=>u=Value.type n
abbrev Vals:Aam->Aae->Prop:=Paired RelV
def Vals.length(r:Vals xs us):42=us.length:=aV r
def Vals.get:∀{xs:Aam}{us:Aae}{i:Nat}{x:V},Vals xs us->xs[i]?>x->∃u,us[i]?>u/\RelV x u:=by
 ext _ _ i x h e
 induction h generalizing i with
 |nil=>simp at e
 |cons r _ ih=>cases i with
  |zero=>simp at e;subst e;show⟨_,rfl,r⟩
  |succ i=>show ih (i:=i)<|↑e
theorem Vals.set(r:RelV x u):∀{xs:Aam}{us:Aae}(i:Nat),Vals xs us->Vals (xs.set i x) (us.set i u)
 |_,_,_,.nil=>.nil
 |_,_,0,.cons _ t=>.cons r t
 |_,_,i+1,.cons q t=>.cons q<|Vals.set r i t
def Vals.append:∀{xs ys:Aam}{us ws:Aae},Vals xs us->Vals ys ws->Vals (xs++ys) (us++ws):=by
 ext xs ys us ws h g
 induction h with
 |nil=>show g
 |cons r _ ih=>show .cons r ih
theorem Vals.take:∀{xs:Aam}{us:Aae}(n:Nat),Vals xs us->Vals (xs.take n) (us.take n)
 |_,_,0,_=>.nil
 |_,_,_+1,.nil=>.nil
 |_,_,n+1,.cons r t=>.cons r<|Vals.take n t
theorem Vals.drop:∀{xs:Aam}{us:Aae}(n:Nat),Vals xs us->Vals (xs.drop n) (us.drop n)
 |_,_,0,r=>r
 |_,_,_+1,.nil=>.nil
 |_,_,n+1,.cons _ t=>Vals.drop n t
def nR:Aan->Aag->Prop
 |some v,some u=>RelV v u
 |none,none=>True
 |_,_=>False
def KV:List (κ×V)->List (κ×i5)->Prop:=Paired λ(p:κ×V)(q:κ×i5)=>p.1=q.1/\RelV p.2 q.2
def kV:Key->V
 | .inl i=>.int i
 | .inr x=>.str x
inductive HO where
 |lst (xs:Aam)
 |tup (xs:Aam)
 |dK (kvs:List (Key×V))
 |ins (C dx:cr) (fs:List (i9×V))
 |own (x:cr)
 |xd (fs:List (i9×V))
 |fF (o:J') (u:HO)
 |Iz (ps:Aaj)
 |ext (φ:nw->Prop)
abbrev Hp:=cr->Option HO
def upd(H:Hp)(a:cr)(o:HO):Hp:=λb=>if b=a then some o else H b
def aF:upd H a o a>o:=by unfold upd;rw[aN rfl]
def aI(h:b≠a):upd H a o b=H b:=by unfold upd;rw[aL h]
def aal{H:Hp}(h:H a>o)(h':H b>u)(d:o≠u):a≠b:=by ext e;subst e;rw[h]at h';show d<|cB h'
def bx{H:Hp}(h:H a>o)(h':H b=none):a≠b:=by ext e;subst e;rw[h]at h';cases h'
section
variable(P:io)(w:i6)
noncomputable def cW(H:Hp)(h:nw)(a:cr):HO->Prop
 | .lst xs=>42<=dL/\∃(aM:Aae)(n:Nat),Vals xs aM/\h.get? a>{cls:=.type "list",data:=.seq aM.toArray n}
 | .tup xs=>42<=dL/\∃aM:Aae,Vals xs aM/\IsTup h a aM.toArray/\∃o,h.get? a>o/\o.dict=none
 | .dK kvs=>kvs.length<=dL/\(a==ww)=false/\∃vs,KV kvs vs/\h.DictOf (bZ P w) a vs
 | .ins C dx fs=>H dx>.own a/\fs.length<=1000/\dx≠a/\h.get? a>instObj C dx/\
   ∃mA,h.Ns1 dx mA/\(∀f,nR (fs.lookup f)<|mA f)/\PySem.Within mA (fs.map (·.1))
 | .own _=>∃o,h.get? a>o
 | .xd fs=>∃mA,h.Ns1 a mA/\∀f,nR (fs.lookup f)<|mA f
 | .fF o u=>h.get? a>o/\cW H h a u
 | .Iz ps=>h.get? a>{cls:=.none,data:=.fields ps}
 | .ext φ=>φ h/\(∃o,h.get? a>o)/\∀h1 h2:nw,φ h1->(∀o,h1.get? a>o->h2.get? a>o)->φ h2
def ka(H:Hp)(h:nw):Prop:=∀a o,H a>o->cW P w H h a o
end
section
variable{P:io}{w:i6}{H H':Hp}{h h':nw}{a:cr}{o:HO}
def cW.lt(x:cW P w H h a o):a<h.objs.size:=by
 cases o with
 |lst xs=>let(__,__,__,__,e):=x;show aS e
 |tup xs=>let(__,__,__,p,__):=x;show p.lt
 |dK kvs=>let(__,__,__,__,o,__,__,e,__):=x;show aS e
 |ins C dx fs=>let(__,__,__,e,__):=x;show aS e
 |own y=>let(__,e):=x;show aS e
 |xd fs=>obtain⟨_,⟨_,_,_,e,_⟩,_⟩:=x;show aS e
 |fF ob u=>let(e,__):=x;show aS e
 |Iz ps=>show aS (show h.get? a>_ from x)
 |ext φ=>obtain⟨_,⟨_,e⟩,_⟩:=x;show aS e
def Paired.agR:∀{l₁:List α}{aac:List β},Paired F l₁ aac->(∀a b,F a b->G a b)->Paired G l₁ aac:=by
 ext _ _ h f
 induction h with
 |nil=>show .nil
 |cons r _ ih=>show .cons (f _ _ r) ih
def Paired.imp'(f:∀a b,F a b->G a b)(r:Paired F l₁ aac):Paired G l₁ aac:=Paired.agR r f
def cW.qt(x:cW P w H h a o)(k:∀b u,(b=a\/H b>.own a)->h.get? b>u->h'.get? b>u)
  (ho:∀b,H b>.own a->H' b>.own a) (ht:∀b xs,H b>.tup xs->H' b>.tup xs):cW P w H' h' a o:=by
 induction o with
 |lst xs=>let(z,aM,n,r,e):=x;show{z,aM,n,r,k _ _ (.inl 9) e}
 |tup xs=>obtain⟨z,aM,r,⟨ob,e,c⟩,o2,e2,c2⟩:=x;show{z,aM,r,{ob,k _ _ (.inl 9) e,c},o2,k _ _ (.inl 9) e2,c2}
 |dK kvs=>let(z,y,vs,r,ob,es,ep,e,c):=x;show{z,y,vs,r,ob,es,ep,k _ _ (.inl 9) e,c}
 |ins C dx fs=>
  obtain⟨d,z,ne,e,mA,⟨od,es,ep,e2,c⟩,r⟩:=x;show{ho _ d,z,ne,k _ _ (.inl 9) e,mA,{od,es,ep,k _ _ (.inr d) e2,c},r}
 |own y=>let(ob,e):=x;show{ob,k _ _ (.inl 9) e}
 |xd fs=>obtain⟨mA,⟨od,es,ep,e,c⟩,r⟩:=x;show{mA,{od,es,ep,k _ _ (.inl 9) e,c},r}
 |fF ob u ih=>let(e,q):=x;show{k _ _ (.inl 9) e,ih q}
 |Iz ps=>
  have e:h.get? a>{cls:=.none,data:=.fields ps}:=x;change h'.get? a>{cls:=.none,data:=.fields ps};show k a _ (.inl 9) e
 |ext φ=>obtain⟨p,⟨o,e⟩,st⟩:=x;show{st _ _ p λo q=>k _ _ (.inl 9) q,{o,k _ _ (.inl 9) e},st}
def ka.lt(x:ka P w H h)(e:H a>o):a<h.objs.size:=(x a o e).lt
def ka.fresh(x:ka P w H h)(e:h.objs.size<=a):H a=none:=by
 cases q:H a with
 |none=>rfl
 |some u=>show absurd (bf (x.lt q) e)<|da _
def ka.kept(x:ka P w H h)(k:∀b u,h.get? b>u->h'.get? b>u):ka P w H h':=λa o e=>
 (x a o e).qt (λb u _ q=>k b u q) (λ_ q=>q) λ_ _ q=>q
def ka.laid(x:ka P w H h)(k:∀b u,h.get? b>u->h'.get? b>u)(hp:h.objs.size<=a)(new:cW P w (upd H a o) h' a o):ka P w (upd H a o) h':=λb u e=>by
 have hn:=x.fresh hp;by_cases hb:b=a;·subst hb;rw[aF]at e;cases e;show new
 rw[aI hb]at e;show(x b u e).qt (λc v _ q=>k c v q) (λc q=>by rw[aI<|bx q hn];show q) λc xs q=>by rw[aI<|bx q hn];show q
end
def Rd(H:Hp)(a:cr)(u:HO):Prop:=H a>u\/∃o,H a>.fF o u
def Rd.ok(r:Rd H a u)(x:ka P w H h):cW P w H h a u:=by
 rcases r with r|⟨o,r⟩;·show x a u r
 let(__,q):=x a _ r;show q
def WO:Option HO->Prop
 |some (.lst _)=>True
 |some (.dK _)=>True
 |some (.ins _ _ _)=>True
 |some (.ext _)=>True
 |_=>False
section
variable{P:io}{w:i6}{H:Hp}{h h':nw}{x e:cr}{o':HO}
def ka.write(ok:ka P w H h)(mu:WO (H x))(he:e=x\/H e>.own x)(k:∀b u,b≠e->h.get? b>u->h'.get? b>u)(P7:∃u,h'.get? e>u)
  (new:cW P w (upd H x o') h' x o'):ka P w (upd H x o') h':=λb u q=>by
 have ad0:∀c y,H c>.own y->c≠x:=λc y r z=>by subst z;rw[r]at mu;show mu
 by_cases hb:b=x;·subst hb;rw[aF]at q;cases q;show new
 rw[aI hb]at q;by_cases M5:b=e
 ·have q':H b>.own x:=by
   rcases he with z|z;·show absurd (M5.trans z) hb
   rw[M5];show z
  rw[q]at q';cases q';let(v,hv):=P7;show{v,M5▸hv}
 show(ok b u q).qt (λc v hc r=>k c v ?_ r) (λc r=>by rw[aI<|ad0 c b r];show r) λc xs r=>by rw[aI<|(λc xs r z=>by subst z;rw[r]at mu;show mu) c xs r];show r
 rcases hc with rfl|hc;·show M5
 ext rfl;rcases he with z|z;·show ad0 c b hc z
 rw[hc]at z;cases z;show hb rfl
end
structure Un(fs ex:Aah)(H H':Hp)(h h':nw):Prop where
 keep:∀b o,h.get? b>o->H b=none->b∉fs->b∉ex->h'.get? b>o
 slot:∀b o,h.get? b>o->H b=none->b∈fs->b∉ex->∃sl,h'.get? b>{o with slots:=sl}
 free:∀b o,h.get? b>o->H b=none->b∉ex->H' b=none
 there:∀b o,h.get? b>o->b∉ex->∃o',h'.get? b>o'
 iR:∀b xs,H b>.tup xs->H' b>.tup xs
 uj:∀b o u,H b>.fF o u->H' b>.fF o u
 yA:∀b ps,H b>.Iz ps->∃more,H' b>.Iz (ps++more)
section
variable{fs ex:Aah}{H H1:Hp}{h h1 h':nw}{a x e:cr}{o:HO}
def Un.any(u:Un fs ex H H1 h h1)(q:h.get? b>ob)(n:H b=none)(hx:b∉ex):∃sl,h1.get? b>{ob with slots:=sl}:=by
 by_cases hb:b∈fs;·show u.slot b ob q n hb hx
 show{ob.slots,u.keep b ob q n hb hx}
def Un.kept(k:∀b u,h.get? b>u->h'.get? b>u):Un fs ex H H h h':=
 {λb ob q _ _ _=>k b ob q,λb ob q _ _ _=>{ob.slots,k b ob q},λ_ _ _ n _=>n,λb ob q _=>{ob,k b ob q},λ_ _ q=>q,λ_ _ _ q=>q,λ_ ps q=>{#[],by rw[q];simp}}
def Un.refl:Un fs ex H H h h:=Un.kept λ_ _ q=>q
def Un.laid(k:∀b u,h.get? b>u->h'.get? b>u)(hp:h.objs.size<=a)(hn:H a=none):Un fs ex H (upd H a o) h h' where
 keep:=λb u q _ _ _=>k b u q
 slot:=λb u q _ _ _=>{u.slots,k b u q}
 free:=λb u q n _=>by rw[aI<|aU<|bf (aS q) hp];show n
 there:=λb u q _=>{u,k b u q}
 iR:=λb xs q=>by rw[aI<|bx q hn];show q
 uj:=λb u xs q=>by rw[aI<|bx q hn];show q
 yA:=λb ps q=>{#[],by rw[aI<|bx q hn,q];simp}
def Un.write(mu:WO (H x))(he:e=x\/H e>.own x)(k:∀b u,b≠e->h.get? b>u->h'.get? b>u)(P7:∃u,h'.get? e>u):Un fs ex H (upd H x o) h h':=by
 have hx:∀b,H b=none->b≠x:=λb n z=>by subst z;rw[n]at mu;show mu
 have hb:∀b,H b=none->b≠e:=λb n z=>by
  subst z;rcases he with r|r;·show hx b n r
  rw[n]at r;cases r
 have hm:∀b u,H b>u->¬WO (some u)->b≠x:=λb u q nm z=>by subst z;rw[q]at mu;show nm mu
 show{λb u q n _ _=>k b u (hb b n) q,λb u q n _ _=>{u.slots,k b u (hb b n) q},λb u q n _=>by rw[aI<|hx b n];show n,λb u q _=>?_,
  λb xs q=>by rw[aI (hm b _ q λz=>z)];show q,λb u xs q=>by rw[aI (hm b _ q λz=>z)];show q,λb ps q=>{#[],by rw[aI (hm b _ q λz=>z),q];simp}}
 by_cases M5:b=e;·subst M5;show P7
 show{u,k b u M5 q}
end
def trk(h:nw)(H:Hp):Aah:=(List.range h.objs.size).filter λa=>(H a).isSome
def FN(h:nw)(H:Hp):nw:=PySem.W.hideAll h<|trk h H
def VD(h:nw)(H:Hp):(FN h H).objs.size=h.objs.size:=PySem.W.hideAll_size _ _
def YL(e:h.get? b>o)(n:H b=none):(FN h H).get? b>o:=
 PySem.W.hideAll_get _ e λhm=>by have q:=(gH.mp hm).2;rw[n]at q;simp at q
def abS(e:(FN h H).get? b>o):h.get? b>o/\H b=none:=by
 have e':=PySem.W.of_hideAll (trk h H) e;show{e',?_};cases q:H b with
 |none=>rfl
 |some x=>
  have z:(FN h H).get? b=none:=PySem.W.hideAll_none (trk h H)<|gH.mpr {cZ.mpr<|aS e',by simp[q]};rw[z]at e;cases e
def acF(g h:nw)(L:cr):Aaa:=(List.range h.objs.size).filterMap λa=>if a=L\/(g.get? a).isSome=true then none else(h.get? a).map λo=>(a,o)
def rest(g h:nw)(L d:cr):Aaa:=(acF g h L).filter λp=>decide (p.1≠d)
structure Mod(K:Frag)(mg:Aab)(base:nw):Prop where
 Jq:K.In base
 glob:base.Ns u8 mg
 blt:∃mb,base.Ns Rs mb/\∀x:i9,x≠"__name__"->mb x=FM x
 nolimit:base.NoLimit
structure Cx where
 prog:io
 w:i6
 K:Frag
 mg:Aab
 base:nw
 A:ss
 N:Aaf
 aab:f8
 aae:Hp
 env:V'
 outer:List V'
 stack:List V'
 ex:Aah
 fn:i9->Bool
 calm:Bool
 pn:Aaa
 xe:Aac
def qH(l:List V'):Aah:=l.filterMap (·.frame)
abbrev Cx.fs(X:Cx):Aah:=qH X.outer
def Vis(sc:AC)(x:i9):Prop:=sc.names.lookup x>.local\/sc.names.lookup x>.cell\/sc.names.lookup x>.free
def Loc(sc:AC)(x:i9):Prop:=sc.names.lookup x>.local\/sc.names.lookup x>.cell
def Look(env:V')(h:nw)(m:Aab)(x:i9)(u:i5):Prop:=
 (env.kindOf x>.local/\m x>u)\/((env.kindOf x>.cell\/env.kindOf x>.free)/\∃c,env.cells.lookup x>c/\h.IsCell c (some u))
structure Cx.Ok(X:Cx):Prop where
 mod:Mod X.K X.mg X.base
 kind:X.env.scope.kind=.function
 glob:X.env.globals=u8
 blt:X.env.builtins=Rs
 above:58<=23
 inj:∀x y c,X.env.cells.lookup x>c->X.env.cells.lookup y>c->x=y
 has:∀x,(X.env.kindOf x>.cell\/X.env.kindOf x>.free)->∃c,X.env.cells.lookup x>c
 JN:∀x c,X.fn x=true->X.env.cells.lookup x>c->58<=c
 hd:X.calm=true->X.A.handled=none
 frames:X.A.frames>37
 KU:37=X.outer\/(37=X.env::X.outer/\X.env.frame>23)
 Nm:∀b∈X.ex,b≠23/\∀x c,X.env.cells.lookup x>c->c≠b
 bs:∀b o,X.base.get? b>o->X.aab.heap.get? b>o/\X.aae b=none
 yp:X.base.objs.size<=58
 Ay:∀b o,X.base.get? b>o->b∉X.ex
 AJ:∀b∈X.ex,b∉X.fs
 rf:X.aab.heap.FunFrames X.base X.outer
 E6:∀b∈X.fs,X.aae b=none
structure Inv(X:Cx)(bi:Aaa)(Z:List (Aan))(H:Hp)(s:f8):Prop where
 ok:X.Ok
 os:s.os=X.aab.os
 bare:KM s.gens
 base:Un X.fs X.ex X.aae H X.aab.heap s.heap
 loc:∃m,s.heap.Ns 23 m/\∀(i:Nat)(x:i9)(v:V),X.N[i]?>x->Z[i]?>some v->Vis X.env.scope x->∃u,RelV v u/\Look X.env s.heap m x u
 cell:∀x c,X.env.cells.lookup x>c->∃v,s.heap.IsCell c v
 free:H 23=none
 kN:∀x c,X.env.cells.lookup x>c->H c=none
 pin:∀p∈X.pn++bi,s.heap.get? p.1>p.2/\H p.1=none/\p.1≠23/\p.1∉X.fs/\∀v,p.2.data≠ .cell v
 bC:ka 86 X.w H s.heap
 len:Z.length=X.N.length
section
variable{X:Cx}{bi:Aaa}{Z:List (Aan)}{H H':Hp}{s:f8}{h':nw}
def Cx.Ok.agO(ok:X.Ok)(e:X.base.get? b>o):b∉X.fs:=λhb=>by have:=(ok.rf.mem hb).1;rw[e]at this;cases this
def Inv.bs(I:Inv X bi Z H s):∀b o,X.base.get? b>o->s.heap.get? b>o/\H b=none:=λb o e=>
 {I.base.keep b o (I.ok.bs b o e).1 (I.ok.bs b o e).2 (I.ok.agO e)<|I.ok.Ay b o e,I.base.free b o (I.ok.bs b o e).1 (I.ok.bs b o e).2<|I.ok.Ay b o e}
def Inv.bk(I:Inv X bi Z H s):∀b o,X.base.get? b>o->s.heap.get? b>o:=λb o e=>(I.bs b o e).1
def Inv.mod(I:Inv X bi Z H s):Mod X.K X.mg X.base:=I.ok.mod
def Inv.lK(I:Inv X bi Z H s):X.K.In s.heap:=I.ok.mod.Jq.keeps I.bk
def Inv.lt(I:Inv X bi Z H s):23<34:=let⟨_,hn,_⟩:=I.loc;hn.lt
def Inv.sz(I:Inv X bi Z H s):58<=34:=aR I.ok.above<|cy I.lt
def Inv.Yn(I:Inv X bi Z H s)(h:34<=a):a∉X.fs:=λhb=>by let(__,o,ho,__):=I.ok.rf.mem hb;show absurd (bf (aS ho)<|aR I.sz h)<|da _
def Inv.Hj(I:Inv X bi Z H s):∀x c,X.env.cells.lookup x>c->c≠23:=λx c e z=>by let(v,o,ho,hd):=I.cell x c e;obtain⟨m,⟨o',es,ep,CA,uU,_⟩,_⟩:=I.loc;rw[z,CA]at ho;cases ho;rw[uU]at hd;cases hd
def Inv.rf(I:Inv X bi Z H s):s.heap.FunFrames X.base X.outer:=by
 have all:∀(l:List V'),(∀b∈qH l,b∈X.fs)->X.aab.heap.FunFrames X.base l->s.heap.FunFrames X.base l:=by
  ext l
  induction l with
  |nil=>ext _ _;trivial
  |cons env r ih=>
   ext hs hl;obtain⟨hk,⟨L,o,hf,hn,ho,hd⟩,hr⟩:=hl;have hL:=hs L (by unfold qH;rw[iH,hf];show ay);let(sl,e):=I.base.slot L o ho (I.ok.E6 L hL) hL λz=>I.ok.AJ L z hL;show{hk,⟨L,_,hf,hn,e,hd⟩,ih (λb hb=>hs b (by unfold qH;rw[iH,hf];show az _ hb)) hr}
 show all X.outer (λ_ hb=>hb) I.ok.rf
def Inv.stack(I:Inv X bi Z H s):s.heap.FunFrames X.base 37:=by
 rcases I.ok.KU with e|⟨e,hf⟩;·rw[e];show I.rf
 rw[e];let(m,hn,__):=I.loc;show .cons (by rw[I.ok.kind];decide) hf hn ?_ I.rf;show jC<|aR I.ok.yp I.ok.above
def Inv.Ge(I:Inv X bi Z H s):∀b∈qH 37,b∈23::X.fs:=λb hb=>by
 rcases I.ok.KU with e|⟨e,hf⟩;·rw[e]at hb;show az _ hb
 rw[e]at hb;unfold qH at hb;rw[iH,hf]at hb;show hb
def Inv.DM(I:Inv X bi Z H s):∀b∈qH 37,H b=none:=λb hb=>by
 rcases aK.mp (I.Ge b hb)with e|hb;·rw[e];show I.free
 let(__,o,ho,__):=I.ok.rf.mem hb;show I.base.free b o ho (I.ok.E6 b hb) λz=>I.ok.AJ b z hb
def Inv.step{ch:Aah}(I:Inv X bi Z H s)
  (E3:∀b∈ch,(b∈X.ex\/58<=b)/\b≠23/\(∀x c,X.env.cells.lookup x>c->c≠b)/\∀p∈X.pn++bi,p.1≠b)
  (keep:∀b o,b≠23->b∉X.fs->b∉ch->s.heap.get? b>o->H b=none->h'.get? b>o)
  (slot:∀b o,b≠23->b∈X.fs->b∉ch->s.heap.get? b>o->H b=none->∃sl,h'.get? b>{o with slots:=sl}) (free:∀b o,b∉ch->s.heap.get? b>o->H b=none->H' b=none)
  (there:∀b o,b∉ch->s.heap.get? b>o->∃o',h'.get? b>o')
  (iR:∀b xs,H b>.tup xs->H' b>.tup xs) (uj:∀b o u,H b>.fF o u->H' b>.fF o u) (yA:∀b ps,H b>.Iz ps->∃more,H' b>.Iz (ps++more))
  (ns:∀m,s.heap.Ns 23 m->h'.Ns 23 m) (bC:ka 86 X.w H' h') (hg:KM g'):
  Inv X bi Z H' {s with heap:=h',gens:=g',drawn:=d',toks:=t'}:=by
 have Pq:∀b o,X.aab.heap.get? b>o->b≠23:=λb o e=>aU<|bf (aS e) I.ok.above;have neC:∀b o,X.aab.heap.get? b>o->b∉X.ex->b∉ch:=λb o e hx hb=>by
  rcases(E3 b hb).1 with z|z;·show hx z
  show absurd (bf (aS e) z)<|da _
 have cellK:∀x c,X.env.cells.lookup x>c->∀v,s.heap.IsCell c v->h'.IsCell c v:=λx c e v ⟨o,ho,hd⟩=>by
  have UJ:=λz=>(E3 c z).2.2.1 x c e rfl;by_cases hc:c∈X.fs;·let(sl,q):=slot c o (I.Hj x c e) hc UJ ho<|I.kN x c e;show⟨_,q,hd⟩
  show{o,keep c o (I.Hj x c e) hc UJ ho<|I.kN x c e,hd}
 show{I.ok,I.os,hg,{λb o e n hb hx=>keep b o (Pq b o e) hb (neC b o e hx) (I.base.keep b o e n hb hx)<|I.base.free b o e n hx,λb o e n hb hx=>?_,λb o e n hx=>?_,λb o e hx=>?_,λb xs e=>iR b xs<|I.base.iR b xs e,λb o xs e=>uj b o xs<|I.base.uj b o xs e,λb ps e=>?_},?_,λx c e=>?_,?_,λx c e=>?_,λp hp=>?_,bC,I.len};·let(sl,e1):=I.base.slot b o e n hb hx;let(sl',e2):=slot b _ (Pq b o e) hb (neC b o e hx) e1<|I.base.free b o e n hx;show⟨sl',e2⟩
 ·let(o',e1):=I.base.there b o e hx;show free b o' (neC b o e hx) e1<|I.base.free b o e n hx
 ·let(o',e1):=I.base.there b o e hx;show there b o' (neC b o e hx) e1
 ·let(m1,e1):=I.base.yA b ps e;let(m2,e2):=yA b _ e1;show{m1++m2,by rw[e2,Array.append_assoc]}
 ·let(m,hn,hl):=I.loc;show{m,ns m hn,λi x v e1 e2 e3=>?_};let(u,r,l):=hl i x v e1 e2 e3;show{u,r,?_};rcases l with l|⟨k,c,e,z⟩;·show .inl l
  show .inr {k,c,e,cellK x c e _ z}
 ·let(v,z):=I.cell x c e;show{v,cellK x c e v z}
 ·obtain⟨m,⟨o,_,_,ho,_⟩,_⟩:=I.loc;show free _ o (λz=>(E3 _ z).2.1 9) ho I.free
 ·let(v,o,ho,hd):=I.cell x c e;show free c o (λz=>(E3 c z).2.2.1 x c e 9) ho<|I.kN x c e
 let(e,n,ne,nf,d):=I.pin p hp;have UJ:=λz=>(E3 p.1 z).2.2.2 p hp rfl;show{keep p.1 p.2 ne nf UJ e n,free p.1 p.2 UJ e n,ne,nf,d}
def Inv.un(I:Inv X bi Z H s)(u:Un X.fs [] H H' s.heap h')(bC:ka 86 X.w H' h'):Inv X bi Z H' (s\(h',t')):=by
 obtain⟨m,⟨o,es,ep,ho,r⟩,_⟩:=id I.loc;let(sl,hL):=u.any ho I.free 84;show I.step (ch:=[]) (λ_ z=>nomatch z) (λb o _ hb _ e n=>u.keep b o e n hb 84) (λb o _ hb _ e n=>u.slot b o e n hb 84) (λb o _ e n=>u.free b o e n 84) (λb o _ e=>u.there b o e 84) u.iR u.uj u.yA (λm' hm=>by let(o',V5,CU,CA,r'):=hm;rw[ho]at CA;cases CA;show⟨_,V5,CU,hL,r'⟩) bC I.bare
def Inv.call(I:Inv X bi Z H s)(u:Un (qH 37) ch H H' s.heap h')(bC:ka 86 X.w H' h')(hg:KM g')
  (E3:∀b∈ch,(b∈X.ex\/58<=b)/\b≠23/\(∀x c,X.env.cells.lookup x>c->c≠b)/\∀p∈X.pn++bi,p.1≠b):
  Inv X bi Z H' {s with heap:=h',gens:=g',drawn:=d',toks:=t'}:=by
 obtain⟨m,⟨o,es,ep,ho,r⟩,_⟩:=id I.loc;let(sl,hL):=u.any ho I.free λz=>(E3 _ z).2.1 rfl;show I.step E3 (λb o hL hb hc e n=>u.keep b o e n (λz=>(aK.mp<|I.Ge b z).elim hL hb) hc) (λb o _ _ hc e n=>u.any e n hc) (λb o hc e n=>u.free b o e n hc) (λb o hc e=>u.there b o e hc) u.iR u.uj u.yA (λm' hm=>by let(o',V5,CU,CA,r'):=hm;rw[ho]at CA;cases CA;show⟨_,V5,CU,hL,r'⟩) bC hg
def Inv.turned(I:Inv X bi Z H s)(k:∀b o,b≠it->s.heap.get? b>o->h'.get? b>o)(hn:H it=none)(hL:it≠23)
  (h1:it∈X.ex\/58<=it) (h2:∀x c,X.env.cells.lookup x>c->c≠it) (h3:∀p∈X.pn++bi,p.1≠it):Inv X bi Z H (s\(h',t')):=by
 have nit:∀b u,H b>u->b≠it:=λb u e z=>by rw[z,hn]at e;cases e
 show I.step (ch:=[it]) 26 (λb o _ _ hc e _=>k b o 17 e) (λb o _ _ hc e _=>{o.slots,k b o 17 e}) (λ_ _ _ _ n=>n)
  (λb o hc e=>{o,k b o 17 e}) (λ_ _ e=>e) (λ_ _ _ e=>e) (λb ps e=>{#[],by rw[e];simp}) (λm hm=>?_) (λb u e=>?_) I.bare
 ·have e:b=it:=by simpa using hb
  subst e;show⟨h1,hL,h2,h3⟩
 ·let(o,es,ep,ho,r):=hm;show{o,es,ep,k _ o (cL hL) ho,r}
 show(I.bC b u e).qt (λc v hc q=>k c v ?_ q) (λ_ q=>q) λ_ _ q=>q;rcases hc with z|z;·rw[z];show nit b u e
 show nit c _ z
def Inv.tok(I:Inv X bi Z H s)(t:Nat):Inv X bi Z H {s with toks:=t}:=I.un Un.refl I.bC
def Inv.kept(I:Inv X bi Z H s)(k:∀b u,s.heap.get? b>u->h'.get? b>u):Inv X bi Z H (s\(h',t')):=I.un (Un.kept k)<|I.bC.kept k
def Inv.laid(I:Inv X bi Z H s)(k:∀b u,s.heap.get? b>u->h'.get? b>u)(hp:34<=a)(new:cW 86 X.w (upd H a o) h' a o):
  Inv X bi Z (upd H a o) (s\(h',t')):=I.un (Un.laid k hp<|I.bC.fresh hp)<|I.bC.laid k hp new
def Inv.write(I:Inv X bi Z H s)(mu:WO (H x))(he:e=x\/H e>.own x)(k:∀b u,b≠e->s.heap.get? b>u->h'.get? b>u)(P7:∃u,h'.get? e>u)
  (new:cW 86 X.w (upd H x o) h' x o):Inv X bi Z (upd H x o) (s\(h',t')):=I.un (Un.write mu he k P7)<|I.bC.write mu he k P7 new
def Inv.zA(I:Inv X bi Z H s)(h:∀p∈Kj,s.heap.get? p.1>p.2/\H p.1=none/\p.1≠23/\p.1∉X.fs/\∀v,p.2.data≠ .cell v):Inv X Kj Z H s:=
 {I.ok,I.os,I.bare,I.base,I.loc,I.cell,I.free,I.kN,λp hp=>(aE.mp hp).elim (λz=>I.pin p<|ba _ z)<|h p,I.bC,I.len}
def FF{N:Aaf}(hN:N.Nodup){i j:Nat}(a:N[i]?>x)(b:N[j]?>x):i=j:=by let(h1,e1):=aq.mp a;let(h2,e2):=aq.mp b;show(List.getElem_inj hN).mp<|e1.trans e2.symm
def IA(I:Inv X bi Z H s)(hN:X.N.Nodup)(hi:X.N[i]?>x)(hx:Loc X.env.scope x)(r:RelV v u)
  (h:∀s',Inv X bi (Z.set i<|some v) H s'->(∃a,Heap.SameBut a s.heap s'.heap/\(a=23\/X.env.cells.lookup x>a))->Q () s') (hf:X.fn x=true\/X.env.scope.names.lookup x>.local:=by first|exact .inl rfl|exact .inr rfl|assumption):f' M A (storeName X.env x u) Q E s:=by
 let(m,hn,hl):=id I.loc;have hiZ:i<Z.length:=by rw[I.len];show(aq.mp hi).1
 have Hj:=I.Hj;have tracked:∀{a:cr}{h':nw},(∃o,s.heap.get? a>o/\H a=none)->Heap.SameBut a s.heap h'->ka 86 X.w H h':=λ{a h'} ha hs b ob e=>by
  let(__,__,aat):=ha;show(I.bC b ob e).qt (λc w' hc q=>(hs.2 c ?_).trans q) (λ_ q=>q) λ_ _ q=>q;ext rfl;rcases hc with rfl|hc;·rw[aat]at e;cases e
  rw[aat]at hc;cases hc
 rcases hx with hk|hk
 ·show wpAny_storeName_local hk hn (λh' PY hs=>?_) (by rw[I.ok.kind];rfl);let(oL,__,__,Cy,__):=id hn;show h _ {I.ok,I.os,I.bare,{λb o e n hb hx=>(hs.2 b<|aU<|bf (aS e) I.ok.above).trans<|I.base.keep b o e n hb hx,λb o e n hb hx=>?_,I.base.free,λb o e hx=>?_,I.base.iR,I.base.uj,I.base.yA},{_,PY,λj y v' e1 e2 e3=>?_},λy c e=>?_,I.free,I.kN,λp hp=>?_,tracked {oL,Cy,I.free} hs,by simpa using I.len} {_,hs,.inl rfl};·let(sl,e1):=I.base.slot b o e n hb hx;show{sl,(hs.2 b<|aU<|bf (aS e) I.ok.above).trans e1}
  ·let(o',e1):=I.base.there b o e hx;show{o',(hs.2 b<|aU<|bf (aS e) I.ok.above).trans e1}
  ·by_cases hj:j=i;·subst hj;rw[hi]at e1;cases e1;rw[qN hiZ]at e2;cases e2;show{u,r,.inl {hk,84}}
   rw[sU<|cL hj]at e2;let(u',r',q):=hl j y v' e1 e2 e3;show{u',r',?_};rcases q with⟨k,e⟩|⟨k,c,e,z⟩;·show .inl {k,?_};have:y≠x:=λe=>hj<|FF hN e1<|e▸hi;simp[this,e]
   show .inr {k,c,e,z.sameBut hs<|Hj y c e}
  ·let(w',z):=I.cell y c e;show{w',z.sameBut hs<|Hj y c e}
  let(e,n,ne,nf,d):=I.pin p hp;show{(hs.2 p.1 ne).trans e,n,ne,nf,d}
 have hfn:X.fn x=true:=by
  rcases hf with z|z;·show z
  rw[z]at hk;cases hk
 let(c,hc):=I.ok.has x<|.inl hk;let(w',z):=I.cell x c hc;show wpAny_storeName_cell I.ok.kind hk hc z (λh' tL hs=>?_);let(oc,hoc,ahK):=id z;show h (s\h') {I.ok,I.os,I.bare,{λb o e n hb hx=>(hs.2 b<|aU<|bf (aS e)<|I.ok.JN x c hfn hc).trans<|I.base.keep b o e n hb hx,λb o e n hb hx=>?_,I.base.free,λb o e hx=>?_,I.base.iR,I.base.uj,I.base.yA},{m,hn.sameBut hs<|cL<|Hj x c hc,λj y v' e1 e2 e3=>?_},λy c' e=>?_,I.free,I.kN,λp hp=>?_,tracked {oc,hoc,I.kN x c hc} hs,by simpa using I.len} {c,hs,.inr hc};·let(sl,e1):=I.base.slot b o e n hb hx;show{sl,(hs.2 b<|aU<|bf (aS e)<|I.ok.JN x c hfn hc).trans e1}
 ·let(o',e1):=I.base.there b o e hx;show{o',(hs.2 b<|aU<|bf (aS e)<|I.ok.JN x c hfn hc).trans e1}
 ·by_cases hj:j=i;·subst hj;rw[hi]at e1;cases e1;rw[qN hiZ]at e2;cases e2;show{u,r,.inr {.inl hk,c,hc,tL}}
  rw[sU<|cL hj]at e2;let(u',r',q):=hl j y v' e1 e2 e3;show{u',r',?_};rcases q with q|⟨k,c',e,z'⟩;·show .inl q
  show .inr {k,c',e,z'.sameBut hs ?_};ext rfl;show hj<|FF hN e1<|I.ok.inj _ _ _ e hc▸hi
 ·by_cases hcc:c'=c;·subst hcc;show⟨_,tL⟩
  let(w2,z2):=I.cell y c' e;show{w2,z2.sameBut hs hcc}
 let(e,n,ne,nf,d):=I.pin p hp;show{(hs.2 p.1 ?_).trans e,n,ne,nf,d};ext q;rw[q,hoc]at e;show d w' (by rw[<-(cB e)];show ahK)
def Fs(I:Inv X bi Z H s)(hN:X.N.Nodup)(hi:X.N[i]?>x)(hx:Loc X.env.scope x)(r:RelV v u)
  (h:∀s',Inv X bi (Z.set i<|some v) H s'->Q () s') (hf:X.fn x=true\/X.env.scope.names.lookup x>.local:=by first|exact .inl rfl|exact .inr rfl|assumption):f' M A (storeName X.env x u) Q E s:=
 IA I hN hi hx r (λs' I' _=>h s' I') hf
def Inv.aaE(I:Inv X bi Z H s)(ho:s'.os=s.os)(u:Un (qH 37) ch H H' s.heap s'.heap)(bC:ka 86 X.w H' s'.heap)(hg:KM s'.gens)
  (E3:∀b∈ch,(b∈X.ex\/58<=b)/\b≠23/\(∀x c,X.env.cells.lookup x>c->c≠b)/\∀p∈X.pn++bi,p.1≠b):Inv X bi Z H' s':=by
 let(h',g',d',t',o'):=s';have e:=ho;subst e;show I.call u bC hg E3
abbrev XK:=i5->Aai->Hp->Prop
abbrev St:=List<|Aan
abbrev VK:=V->Hp->Prop
abbrev TE:=St->Hp->VK->Prop
abbrev TT:=St->Hp->(Bool->Hp->Prop)->Prop
abbrev TA:=St->Hp->(Aam->Hp->Prop)->Prop
structure Ends where
 nx:St->Hp->Prop
 rt:VK
 bk:St->Hp->Prop:=λ_ _=>False
 ct:St->Hp->Prop:=λ_ _=>False
abbrev TS:=Ends->St->Hp->Prop
end
inductive EP(X:Cx)(bi:Aaa)(Z:St)(Q:VK)(u:i5)(s':f8):Prop
 |mk v H' (_:Inv X bi Z H' s') (_:RelV v u) (_:Q v H')
inductive TP(X:Cx)(bi:Aaa)(Z:St)(Q:Bool->Hp->Prop)(b:Bool)(s':f8):Prop
 |mk H' (_:Inv X bi Z H' s') (_:Q b H')
inductive AP(X:Cx)(bi:Aaa)(Z:St)(Q:Aam->Hp->Prop)(us:Aae)(s':f8):Prop
 |mk vs H' (_:Inv X bi Z H' s') (_:Vals vs us) (_:Q vs H')
def SP(X:Cx)(bi:Aaa)(D:Ends)(f:Flow)(s':f8):Prop:=
 match f with
 | .next=>∃σ' H',Inv X bi σ' H' s'/\D.nx σ' H'
 | .brk=>∃σ' H',Inv X bi σ' H' s'/\D.bk σ' H'
 | .cont=>∃σ' H',Inv X bi σ' H' s'/\D.ct σ' H'
 | .ret u=>∃v σ' H',Inv X bi σ' H' s'/\RelV v u/\D.rt v H'
def PE(X:Cx)(e:wv)(t:TE):Prop:=
 ∀(bi:Aaa)(s:f8)(Z:St)(H:Hp)(Q:VK),Inv X bi Z H s->t Z H Q->f' 91 X.A (wf e X.env) 54 X.xe s
def PT(X:Cx)(e:wv)(t:TT):Prop:=
 ∀(bi:Aaa)(s:f8)(Z:St)(H:Hp)(Q:Bool->Hp->Prop),Inv X bi Z H s->t Z H Q->f' 91 X.A (isTrue e X.env<|wf e X.env) (TP X bi Z Q) X.xe s
def PW(X:Cx)(e:wv)(t:TT):Prop:=
 ∀(whole:KB i5)(bi:Aaa)(s:f8)(Z:St)(H:Hp)(Q:Bool->Hp->Prop),Inv X bi Z H s->t Z H Q->f' 91 X.A (isTrue e X.env whole) (TP X bi Z Q) X.xe s
def PW.pt(h:PW X e t):PT X e t:=h _
def PA(X:Cx)(es:List wv)(t:TA):Prop:=
 ∀(pos:Gc)(bi:Aaa)(s:f8)(Z:St)(H:Hp)(Q:Aam->Hp->Prop),Inv X bi Z H s->t Z H Q->f' 91 X.A (spliced<|Da pos 73) (AP X bi Z Q) X.xe s
def PS(X:Cx)(st:wP)(t:TS):Prop:=
 ∀(bi:Aaa)(s:f8)(Z:St)(H:Hp)(D:Ends),Inv X bi Z H s->t D Z H->f' 91 X.A (exec st X.env) (SP X bi D) X.xe s
def mP(X:Cx)(st:List wP)(t:TS):Prop:=
 ∀(bi:Aaa)(s:f8)(Z:St)(H:Hp)(D:Ends),Inv X bi Z H s->t D Z H->f' 91 X.A (execs st X.env) (SP X bi D) X.xe s
def jK(h:f' M A t Q E s)(hQ:∀a s,Q a s->Q' a s):f' M A t Q' E s:=dy h hQ λ_ _ x=>x
def dv{X:Cx}{bi:Aaa}{Z:St}{Q:VK}{t:KB i5}{Q':Aac}{s:f8}(h:f' 91 X.A t 54 X.xe s)(k:∀u s x H,Inv X bi Z H s->RelV x u->Q x H->Q' u s):f' 91 X.A t Q' X.xe s:=jK h λu s zq=>by let(x,H,I,r,q):=zq;show k u s x H I r q
def qV{X:Cx}{bi:Aaa}{Z:St}{Q:Aam->Hp->Prop}{t:KB (Aae)}{Q':Aae->f8->Prop}{s:f8}(h:f' 91 X.A t (AP X bi Z Q) X.xe s)(k:∀u s x H,Inv X bi Z H s->Vals x u->Q x H->Q' u s):f' 91 X.A t Q' X.xe s:=jK h λu s zq=>by let(x,H,I,r,q):=zq;show k u s x H I r q
def KO{X:Cx}{bi:Aaa}{Z:St}{Q:Bool->Hp->Prop}{t:KB Bool}{Q':Bool->f8->Prop}{s:f8}(h:f' 91 X.A t (TP X bi Z Q) X.xe s)(k:∀u s H,Inv X bi Z H s->Q u H->Q' u s):f' 91 X.A t Q' X.xe s:=jK h λu s zq=>by let(H,I,q):=zq;show k u s H I q
section
variable{X:Cx}
inductive vd(i:Nat)(Z:St)(H:Hp)(Q:VK):Prop
 |mk v (_:Z[i]?>some v) (_:Q v H)
def tC(v:V):TE:=λ_ H Q=>Q v H
def adK(hN:X.N[i]?>x)(hv:Vis X.env.scope x)(hd:35=false:=by decide)(zO:(x==("__classdict__":i9))=false:=by decide):PE X 46 (vd i):=by
 ext bi s Z H Q I h;let(v,e,h):=h;let(m,hn,hl):=I.loc;let(u,r,l):=hl i x v hN e hv;have fin:EP X bi Z Q u s:=⟨v,H,I,r,h⟩;rcases l with⟨hk,hm⟩|⟨hk,c,hc,aav⟩;·show F6 (wpAny_loadName_local I.ok.kind hk hn hm fin) hd
 rcases hk with hk|hk;·show F6 (wpAny_loadName_cell I.ok.kind hk hc aav fin) hd
 show F6 (wpAny_loadName_free I.ok.kind hk hc aav fin zO) hd
def aO{i j pos}:PE X (.Constant (.int i) j pos) (tC<|.int i):=λ_ _ _ H _ I h=>wpAny_Constant_int {.int i,H,44,66,h}
def oJ{b j pos}:PE X (.Constant (.bool b) j pos) (tC<|.bl b):=λ_ _ _ H _ I h=>Constant_bool {.bl b,H,I,9,h}
def j6{j pos}:PE X (.Constant .none j pos) (tC .cU):=λ_ _ _ H _ I h=>Constant_none {.cU,H,I,9,h}
def cQ{x j pos}:PE X (.Constant (.str x) j pos) (tC<|.str x):=λ_ _ _ H _ I h=>DB {.str x,H,44,66,h}
def Gl(X:Cx)(x:i9):Prop:=X.env.kindOf x>.globalImplicit
def wu(I:Inv X bi Z H s)(hg:Gl X x)(hm:X.mg x>u)(h:Q u s)
  (hd:35=false:=by decide):f' 91 X.A (wf 46 X.env) Q E s:=
 vx I.ok.kind hg (Calls.loadGlobal_global (I.ok.glob▸I.mod.glob.keeps I.bk) hm h) hd
def sk(I:Inv X bi Z H s)(hg:Gl X x)(hm:X.mg x=none)(hv:FM x>u)(h:Q u s)
  (hn:x≠"__name__":=by decide) (hd:35=false:=by decide):f' 91 X.A (wf 46 X.env) Q E s:=by
 let(mb,h1,h2):=I.mod.blt;show vx I.ok.kind hg (Calls.loadGlobal_builtin (I.ok.glob▸I.mod.glob.keeps I.bk) hm (I.ok.blt▸h1.keeps I.bk) ((h2 x hn).trans hv) h) hd
def HJ(hg:Gl X x)(hm:X.mg x>u)(r:RelV v u)(hd:35=false:=by decide):PE X 46 (tC v):=
 λ_ _ _ H _ I h=>wu I hg hm ⟨v,H,I,r,h⟩ hd
def abI(hg:Gl X x)(hm:X.mg x=none)(hv:FM x>u)(r:RelV v u)(hn:x≠"__name__":=by decide)(hd:35=false:=by decide):PE X 46 (tC v):=
 λ_ _ _ H _ I h=>sk I hg hm hv ⟨v,H,I,r,h⟩ hn hd
variable{a b:wv}{pos:Gc}
def PC(X:Cx)(op:CmpOp)(a b:wv)(t:TE):Prop:=
 ∀(bi:Aaa)(s:f8)(Z:St)(H:Hp)(Q:VK),Inv X bi Z H s->t Z H Q->
  f' 91 X.A (wf a X.env) (λv aaa=>f' 91 X.A (wf b X.env) (λu aad=>f' 91 X.A (v4 op v u) 54 X.xe aad) X.xe aaa) X.xe s
inductive OO(Q:Bool->Hp->Prop)(x:V)(H1:Hp):Prop
 |mk c (_:x=.bl c) (_:Q c H1)
def tB(t:TE):TT:=λZ H Q=>t Z H λx H1=>OO Q x H1
def Ca(h:PC X op a b t)(h1:KT op b=false:=by first|exact agP _ (by decide) (by decide)|rfl):PT X (.Compare a [op] [b] pos) (tB t):=by ext bi s Z H Q I hw;show zg (jK (h bi s Z H _ I hw) λv s1 h1=>jK h1 λu s2 h2=>jK h2 λc s3 yc=>?_) h1;let(x,H1,I1,r1,q1):=yc;let(d,rfl,q):=q1;cases r1;show ix ⟨H1,I1,q⟩
def kF(h:PE X e t)(he:∀whole,isTrue e X.env whole=(do let v<-whole;standAt e.pos;KE [v] (truthy v)):=by intro _;rfl):PT X e (tB t):=by ext bi s Z H Q I hw;show isTrue_plain (dv (h bi s Z H _ I hw) λv s1 x H1 I1 r1 q1=>?_)<|he _;let(d,rfl,q):=q1;cases r1;show ix ⟨H1,I1,q⟩
variable{ta tb:TE}{tA OO:TT}{rest:List wv}
def agA(t u:TT):TT:=λZ H Q=>t Z H λc H1=>if c=true then u Z H1 Q else Q false H1
def tOr(t u:TT):TT:=λZ H Q=>t Z H λc H1=>if c=true then Q true H1 else u Z H1 Q
def agv(t:TT):TT:=λZ H Q=>t Z H λc H1=>Q (!c) H1
def wo(ha:PT X a tA):PW X (.BoolOp .And [a] pos) tA:=by
 ext wh bi s Z H Q I h;show isTrue_and (jK (ha bi s Z H Q I h) λc s1 e=>?_);cases c with
 |true=>show isTrue_and_nil e
 |false=>show e
def zv(ha:PT X a tA):PW X (.BoolOp .Or [a] pos) tA:=by
 ext wh bi s Z H Q I h;show isTrue_or (jK (ha bi s Z H Q I h) λc s1 e=>?_);cases c with
 |false=>show isTrue_or_nil e
 |true=>show e
def zw(ha:PT X a tA)(hb:PW X (.BoolOp .And (b::rest) pos) OO):PW X (.BoolOp .And (a::b::rest) pos) (agA tA OO):=by
 ext wh bi s Z H Q I h;show isTrue_and (KO 131 λc s1 H1 I1 q1=>?_);cases c with
 |true=>show hb wh bi s1 Z H1 Q I1 q1
 |false=>show⟨H1,I1,q1⟩
def DQ(ha:PT X a tA)(hb:PW X (.BoolOp .Or (b::rest) pos) OO):PW X (.BoolOp .Or (a::b::rest) pos) (tOr tA OO):=by
 ext wh bi s Z H Q I h;show isTrue_or (KO 131 λc s1 H1 I1 q1=>?_);cases c with
 |true=>show⟨H1,I1,q1⟩
 |false=>show hb wh bi s1 Z H1 Q I1 q1
def zx(ha:PT X a tA):PT X (.UnaryOp .Not a pos) (agv tA):=by ext bi s Z H Q I h;show isTrue_not (KO (ha bi s Z H (λc H1=>Q (!c) H1) I h) λ_ _ a b c=>⟨a,b,c⟩)
inductive adl(tb:TE)(Z:St)(Q:VK)(x:V)(H1:Hp):Prop
 |mk c (_:x=.bl c) (_:if c=true then tb Z H1 Q else Q (.bl false) H1)
def afI(ta tb:TE):TE:=λZ H Q=>ta Z H λx H1=>adl tb Z Q x H1
inductive ac7(Q:VK)(x:V)(H1:Hp):Prop
 |mk c (_:x=.bl c) (_:Q (.bl<|!c) H1)
def afD(ta:TE):TE:=λZ H Q=>ta Z H λx H1=>ac7 Q x H1
def zC{op}(h:PE X a t):PE X (.BoolOp op [a] pos) t:=λbi s Z H Q I hw=>BoolOp_one<|h bi s Z H Q I hw
def uO(ha:PE X a ta)(hb:PE X (.BoolOp .And (b::rest) pos) tb):PE X (.BoolOp .And (a::b::rest) pos) (afI ta tb):=by
 ext bi s Z H Q I h;show BoolOp_and (dv 131 λv s1 x H1 I1 r1 q1=>?_);let(c,rfl,q1):=q1;cases r1;show ix ?_;cases c with
 |true=>show hb bi s1 Z H1 Q I1 q1
 |false=>show{.bl false,H1,I1,9,q1}
def adL(ha:PE X a ta):PE X (.UnaryOp .Not a pos) (afD ta):=by ext bi s Z H Q I h;show UnaryOp_ (dv 131 λv s1 x H1 I1 r1 q1=>?_);let(c,rfl,q1):=q1;cases r1;show not_of<|ix {.bl<|!c,H1,I1,9,q1}
def tIf(t:TT)(ta tb:TE):TE:=λZ H Q=>t Z H λc H1=>if c=true then ta Z H1 Q else tb Z H1 Q
def wM(hc:PT X c tA)(ha:PE X a ta)(hb:PE X b tb):PE X (.IfExp c a b pos) (tIf tA ta tb):=by
 ext bi s Z H Q I h;show wpAny_IfExp (KO (hc bi s Z H _ I h) λd s1 H1 I1 q1=>?_);cases d with
 |true=>show ha bi s1 Z H1 Q I1 q1
 |false=>show hb bi s1 Z H1 Q I1 q1
end
def bg(K:Frag)(H:Hp)(a:cr)(xs:Aam):Prop:=
 Rd H a (.lst xs)\/
  ∃(o:J')(aM:Aaj)(n:Nat),K.lookup a>o/\o.cls=.type "list"/\o.dict=none/\o.data=.seq aM n/\aM.size<=dL/\Vals xs aM.toList
def bA(K:Frag)(H:Hp)(a:cr)(xs:Aam):Prop:=
 Rd H a (.tup xs)\/
  ∃(o:J')(aM:Aaj)(n:Nat),K.lookup a>o/\o.cls=.type "tuple"/\o.data=.seq aM n/\aM.size<=dL/\Vals xs aM.toList
def aij:i5->Aan
 | .none=>some .cU
 | .bool b=>some<|.bl b
 | .int i _=>some<|.int i
 | .str x _=>some<|.str x
 | .ref a=>some (-a)
 | .type n=>some<|.ty n
 |_=>none
def RelV.abs(r:RelV x u):aij u>x:=by
 cases x with
 |cU=>cases r;rfl
 |bl _=>cases r;rfl
 |int _=>let(t,rfl):=r;rfl
 |str _=>let(t,rfl):=r;rfl
 |ref _=>cases r;rfl
 |ty _=>cases r;rfl
def RelV.inj(r:RelV x u)(q:RelV y u):x=y:=cB<|r.abs.symm.trans q.abs
def Vals.inj:∀{xs ys:Aam}{us:Aae},Vals xs us->Vals ys us->xs=ys:=by
 ext xs ys us h g
 induction h generalizing ys with
 |nil=>cases g;rfl
 |cons r _ ih=>cases g with
  |cons r' t=>rw[r.inj r',ih t]
section
variable{X:Cx}{bi:Aaa}{Z:St}{H:Hp}{s:f8}{a:cr}{xs ys:Aam}
def bg.of{K:Frag}(h:H a>.lst xs):bg K H a xs:=.inl<|.inl h
def bA.of{K:Frag}(h:H a>.tup xs):bA K H a xs:=.inl<|.inl h
def Inv.list(I:Inv X bi Z H s)(h:bg X.K H a xs):∃aM:Aae,Vals xs aM/\PlainL s.heap a aM.toArray/\42<=dL:=by
 rcases h with h|⟨o,aM,n,hk,hc,hd,hs,hz,r⟩;·let(z,aM,n,r,e):=h.ok I.bC;show{aM,r,⟨_,n,e,rfl,rfl,rfl⟩,z}
 show{aM.toList,r,{o,n,I.lK a o hk,hc,hd,by simpa using hs},?_};have e:=r.length;simp only[aZ]at e;lia
def Inv.tuple(I:Inv X bi Z H s)(h:bA X.K H a xs):∃aM:Aae,Vals xs aM/\IsTup s.heap a aM.toArray/\42<=dL:=by
 rcases h with h|⟨o,aM,n,hk,hc,hs,hz,r⟩;·let(z,aM,r,p,__):=h.ok I.bC;show⟨aM,r,p,z⟩
 show{aM.toList,r,{o,I.lK a o hk,hc,n,by simpa using hs},?_};have e:=r.length;simp only[aZ]at e;lia
def Inv.Mi(I:Inv X bi Z H s)(h:bg X.K H a xs)(h':bg X.K H a ys):xs=ys:=by
 obtain⟨aM,r,⟨o,n,e,_,_,d⟩,_⟩:=I.list h;obtain⟨its',r',⟨o',n',e',_,_,d'⟩,_⟩:=I.list h';rw[e]at e';cases e';rw[d]at d';injection d' with d1 _;have:aM=its':=by simpa using dX Array.toList d1
 subst this;show r.inj r'
def Inv.uJ(I:Inv X bi Z H s)(h:bA X.K H a xs)(h':bA X.K H a ys):xs=ys:=by
 obtain⟨aM,r,⟨o,e,_,n,d⟩,_⟩:=I.tuple h;obtain⟨its',r',⟨o',e',_,n',d'⟩,_⟩:=I.tuple h';rw[e]at e';cases e';rw[d]at d';injection d' with d1 _;have:aM=its':=by simpa using dX Array.toList d1
 subst this;show r.inj r'
end
abbrev Cx.yz(X:Cx)(E:Aac):Cx:={X with xe:=E}
abbrev Cx.nox(X:Cx):Cx:=X.yz λ_ _=>False
def Cx.Ok.yz{X:Cx}(ok:X.Ok)(E:Aac):(X.yz E).Ok:=
 {ok.mod,ok.kind,ok.glob,ok.blt,ok.above,ok.inj,ok.has,ok.JN,ok.hd,ok.frames,ok.KU,ok.Nm,ok.bs,ok.yp,ok.Ay,ok.AJ,ok.rf,ok.E6}
def Cx.Ok.uI{X:Cx}(ok:(X.yz E).Ok):X.Ok:=
 {ok.mod,ok.kind,ok.glob,ok.blt,ok.above,ok.inj,ok.has,ok.JN,ok.hd,ok.frames,ok.KU,ok.Nm,ok.bs,ok.yp,ok.Ay,ok.AJ,ok.rf,ok.E6}
section
variable{X:Cx}{bi:Aaa}{Z:St}{H:Hp}{s:f8}{E:Aac}
def Inv.yz(I:Inv X bi Z H s)(E:Aac):Inv (X.yz E) bi Z H s:={I.ok.yz E,I.os,I.bare,I.base,I.loc,I.cell,I.free,I.kN,I.pin,I.bC,I.len}
def Inv.uI(I:Inv (X.yz E) bi Z H s):Inv X bi Z H s:={I.ok.uI,I.os,I.bare,I.base,I.loc,I.cell,I.free,I.kN,I.pin,I.bC,I.len}
def SP.uI(h:SP (X.yz E) bi D f s'):SP X bi D f s':=by
 cases f with
 |next=>obtain⟨σ',H',I,q⟩:=h;show{σ',H',I.uI,q}
 |brk=>obtain⟨σ',H',I,q⟩:=h;show{σ',H',I.uI,q}
 |cont=>obtain⟨σ',H',I,q⟩:=h;show{σ',H',I.uI,q}
 |ret u=>obtain⟨v,σ',H',I,r,q⟩:=h;show{v,σ',H',I.uI,r,q}
def mP.nox{st:List wP}(h:mP X.nox st t):mP X st t:=λbi s Z H D I hw=>
 dy (h bi s Z H D (I.yz _) hw) (λ_ _ q=>q.uI) λ_ _ z=>False.elim z
end
section
variable{X:Cx}{st:wP}{rest:List wP}{t u:TS}{e:wv}{te:TE}{pos:Gc}
def ZV:TS:=λD Z H=>D.nx Z H
def QL(t u:TS):TS:=λD Z H=>t {D with nx:=u D} Z H
def cP:mP X [] ZV:=λ_ _ Z H _ I h=>rT ⟨Z,H,I,h⟩
def aA(h1:PS X st t)(h2:mP X rest u):mP X (st::rest) (QL t u):=by
 ext bi s Z H D I h;show wpAny_execs_cons (jK (h1 bi s Z H {D with nx:=u D} I h) λf s1 q=>?_);cases f with
 |next=>
  obtain⟨σ',H',I',q⟩:=q;show h2 bi s1 σ' H' D I' q
 |ret v=>show q
 |brk=>show q
 |cont=>show q
def aP(h1:PS X st t):mP X [st] t:=by
 ext bi s Z H D I h;show wpAny_execs_cons (jK (h1 bi s Z H D I h) λf s1 q=>?_);cases f with
 |next=>show rT q
 |ret v=>show q
 |brk=>show q
 |cont=>show q
def Inv.quiet(I:Inv X bi Z H s):interactive X.env=false:=by simp[interactive,I.ok.kind]
def ZZ(te:TE):TS:=λD Z H=>te Z H λ_ H1=>D.nx Z H1
def fW(he:PE X e te)(hs:Ev e none pos.line X.env=pure false:=by rfl):PS X (.Expr e pos) (ZZ te):=by ext bi s Z H D I h;show wpAny_Expr_any (dv 106 λv s1 x H1 I1 r1 q1=>⟨Z,H1,I1,q1⟩) I.quiet hs
def ac4(te:TE):TS:=λD Z H=>te Z H D.rt
def b8(he:PE X e te):PS X (.Return (some e) pos) (ac4 te):=by ext bi s Z H D I h;show wpAny_Return_some (dv 106 λv s1 x H1 I1 r1 q1=>⟨x,Z,H1,I1,r1,q1⟩)
def Xp(c:TT)(t u:TS):TS:=λD Z H=>c Z H λb H1=>if b=true then t D Z H1 else u D Z H1
def dP(hc:PT X c tc)(ha:mP X a t)(hb:mP X b u):PS X (.If c a b pos) (Xp tc t u):=by
 ext bi s Z H D I h;show wpAny_If (KO (hc bi s Z H _ I h) λd s1 H1 I1 q1=>?_);cases d with
 |true=>show ha bi s1 Z H1 D I1 q1
 |false=>show hb bi s1 Z H1 D I1 q1
def ac8:TS:=λ_ _ _=>False
def IZ{sts:List wP}:mP X sts ac8:=λ_ _ _ _ _ _ h=>h.elim
abbrev TG:=V->St->Hp->(St->Hp->Prop)->Prop
abbrev TGs:=Aam->St->Hp->(St->Hp->Prop)->Prop
end
def PG(X:Cx)(target:wv)(t:TG):Prop:=
 ∀(bi:Aaa)(s:f8)(Z:St)(H:Hp)(v:V)(u:i5)(Q:St->Hp->Prop),Inv X bi Z H s->RelV v u->t v Z H Q->
  f' 91 X.A (assign target X.env u) (λ_ s'=>∃σ' H',Inv X bi σ' H' s'/\Q σ' H') X.xe s
def Ht(X:Cx)(ts:List wv)(t:TGs):Prop:=
 ∀(bi:Aaa)(s:f8)(Z:St)(H:Hp)(vs:Aam)(us:Aae)(Q:St->Hp->Prop),Inv X bi Z H s->Vals vs us->t vs Z H Q->
  f' 91 X.A (assignInOrder ((GM ts X.env).map (·.2)) us) (λ_ s'=>∃σ' H',Inv X bi σ' H' s'/\Q σ' H') X.xe s
abbrev afl:=V->V->V->Hp->(Hp->Prop)->Prop
def afm(X:Cx)(t:afl):Prop:=
 ∀(bi:Aaa)(s:f8)(Z:St)(H:Hp)(o i v:V)(ov iv u:i5)(Q:Hp->Prop),Inv X bi Z H s->RelV o ov->RelV i iv->RelV v u->t o i v H Q->
  f' 91 X.A (setItem ov iv u) (λ_ s'=>∃H',Inv X bi Z H' s'/\Q H') X.xe s
section
variable{X:Cx}{pos:Gc}
def sD(i:Nat):TG:=λv Z H Q=>Q (Z.set i<|some v) H
def om(hN:X.N.Nodup)(hi:X.N[i]?>x)(hx:Loc X.env.scope x)(hf:X.fn x=true\/X.env.scope.names.lookup x>.local:=by first|exact .inl rfl|exact .inr rfl|assumption):PG X 46 (sD i):=by ext bi s Z H v u Q I r h;show D8<|Fs I hN hi hx r (λs' I'=>⟨_,H,I',h⟩) hf
def ae0:TGs:=λvs Z H Q=>vs=[]/\Q Z H
inductive Sg(t:TG)(u:TGs)(vs:Aam)(Z:St)(H:Hp)(Q:St->Hp->Prop):Prop
 |mk v r (_:vs=v::r) (_:t v Z H λσ' H'=>u r σ' H' Q)
def ic:Ht X [] ae0:=by ext bi s Z H vs us Q I r h;let(e,h):=h;subst e;cases r;show assignInOrder_nil ⟨Z,H,I,h⟩
def cJ(h1:PG X e t)(h2:Ht X es u)
  (hs:(GM (e::es) X.env).map (·.2)=assign e X.env::(GM es X.env).map (·.2):=by rfl):Ht X (e::es) (Sg t u):=by
 ext bi s Z H vs us Q I r h;let(v,vr,e1,h):=h;subst e1;cases r with
 |cons r rr=>
  rw[hs];show assignInOrder_cons (jK (h1 bi s Z H _ _ _ I r h) λ_ s1 zq=>by obtain⟨σ1,H1,I1,q1⟩:=zq;show h2 bi s1 σ1 H1 _ _ Q I1 rr q1)
inductive YY(K:Frag)(n:Nat)(t:TGs)(v:V)(Z:St)(H:Hp)(Q:St->Hp->Prop):Prop
 |mk a xs (_:v=-a) (_:bA K H a xs) (_:xs.length=n) (_:t xs Z H Q)
def lA(hc:X.calm=true)(h:Ht X es t)
  (hn:(GM es X.env).length=n:=by rfl) (qG:(GM es X.env).findIdx? (·.1)=none:=by rfl):PG X (.Tuple es k pos) (YY X.K n t):=by
 ext bi s Z H v u Q I r hw;let(a,xs,e1,hq,hl,hw):=hw;subst e1;cases r;let(aM,rv,ht,hz):=I.tuple hq;show assign_Tuple_tuple 61 ht (by simp[hn,<-hl,rv.length]) qG λh' hx=>?_;show h bi _ Z H xs _ Q (I.kept (t':=21) λb o e=>hx b o (aU<|aS e) e) (↑rv) hw
def ah5(to ti:TE)(t:afl):TG:=λv Z H Q=>to Z H λo H1=>ti Z H1 λi H2=>t o i v H2 λH3=>Q Z H3
def LK(ho:PE X o to)(hi:PE X i ti)(hs:afm X t)
  (ha:∀v,assign (.Subscript o i pos) X.env v=(do
   let ov<-KE [v] (wf o X.env)
   let iv<-KE [v,ov] (wf i X.env)
   standAt pos
   KE [v,ov,iv] (setItem ov iv v)
   release [v,ov,iv] []):=by intro _;rfl):PG X (.Subscript o i pos) (ah5 to ti t):=by
 ext bi s Z H v u Q I r h;show ae<|bP (dv 111 λov s1 x H1 I1 r1 q1=>?_);show ae<|bP (dv (hi bi s1 Z H1 _ I1 q1) λiv s2 y H2 I2 r2 q2=>?_);show ae<|qP<|ae<|bP (jK (hs bi s2 Z H2 x y v ov iv u _ I2 r1 r2 r q2) λ_ s3 zq=>by let(H3,I3,q3):=zq;show wpAny_release ⟨Z,H3,I3,q3⟩)
def QO(te:TE)(g:TG):TS:=λD Z H=>te Z H λx H1=>g x Z H1 D.nx
def rX(he:PE X e te)(hg:PG X tg g)(hs:swapsWithSole [tg] e pos.line X.env=pure false:=by rfl)(hw:swappedStores [tg] e X.env=pure none:=by rfl)
  (h1:(GM [tg] X.env).map (·.2)=[assign tg X.env]:=by rfl):PS X (.Assign [tg] e pos) (QO te g):=by
 ext bi s Z H D I h;show wpAny_Assign_stores (dv 106 λv s1 x H1 I1 r1 q1=>?_) hs hw;rw[h1];show jK (hg bi s1 Z H1 x v _ I1 r1 q1) λ_ s2 q=>q
def nZ(hN:X.N.Nodup)(hi:X.N[i]?>x)(hx:Loc X.env.scope x)(he:PE X e te)(hs:Ev e (some<|.Name x pos') pos.line X.env=pure false:=by rfl)(hf:X.fn x=true\/X.env.scope.names.lookup x>.local:=by first|exact .inl rfl|exact .inr rfl|assumption):
  PS X (.Assign [.Name x pos'] e pos) (QO te<|sD i):=by
 ext bi s Z H D I h;show wpAny_Assign_Name (dv 106 λv s1 y H1 I1 r1 q1=>Fs I1 hN hi hx r1 (λs2 I2=>⟨_,H1,I2,q1⟩) hf) hs
structure It where
 go:Nat->Hp->Prop
 Es:Nat->Hp->V->Hp->Prop
 stop:Nat->Hp->Prop
end
def oC(X:Cx)(bi:Aaa)(H:Hp)(b:cr):Prop:=
 H b=none/\b≠23/\b∉X.fs/\(b∈X.ex\/58<=b)/\(∀x c,X.env.cells.lookup x>c->c≠b)/\∀p∈X.pn++bi,p.1≠b
def Inv.w6(I:Inv X bi Z H s)(hb:34<=b)(hn:H' b=none):oC X bi H' b:=by
 show{hn,cx<|bf I.lt hb,I.Yn hb,.inr<|aR I.sz hb,λx c e z=>?_,λp hp z=>?_};·let(v,q):=I.cell x c e;show absurd (bf q.lt<|z▸hb)<|da _
 show absurd (bf (aS (I.pin p hp).1)<|z▸hb)<|da _
structure Turn(P:io)(w:i6)(K:Frag)(tg:wv)(J:It)(fp:Aah)(it:cr)(tn:Nat->nw->Prop):Prop where
 mem:it∈fp
 obj:∀i h,tn i h->∀b∈fp,∃o,h.get? b>o/\∀v,o.data≠ .cell v
 keep:∀i h h',tn i h->(∀b∈fp,∀o,h.get? b>o->h'.get? b>o)->tn i h'
 item:∀(X:Cx),86=P->X.w=w->X.K=K->X.calm=true->∀(i:Nat)(bi:Aaa)(s:f8)(Z:St)(H:Hp)(E:Aac),Inv X bi Z H s->(∀b∈fp,oC X bi H b)->tn i s.heap->J.go i H->
  f' 97 X.A (pyNext (-it)) (λr s1=>∃u,r>u/\
   f' 97 X.A (Op tg (-it) u) (λ_ s2=>∃x H',Inv X bi Z H' s2/\RelV x u/\J.Es i H x H'/\tn (i+1) s2.heap/\∀b∈fp,H' b=none) E s1) E s
 done:∀(X:Cx),86=P->X.w=w->X.K=K->X.calm=true->∀(i:Nat)(bi:Aaa)(s:f8)(Z:St)(H:Hp)(E:Aac),Inv X bi Z H s->(∀b∈fp,oC X bi H b)->tn i s.heap->J.stop i H->
  f' 97 X.A (pyNext (-it)) (λr s1=>r=none/\Inv X bi Z H s1) E s
 self:∀(A:ss)(i:Nat)(s:f8)(Q:Aac)(E:Aac),tn i s.heap->Q (-it) s->f' 97 A (Re (-it)) Q E s
abbrev TI:=St->Hp->(It->Hp->Prop)->Prop
def PIE(X:Cx)(bi:Aaa)(Z:St)(tg:wv)(R:It->Hp->Prop)(itv:i5)(s2:f8):Prop:=
 ∃(it:cr)(fp:Aah)(tn:Nat->nw->Prop)(J:It)(H':Hp),itv=-it/\Inv X bi Z H' s2/\Turn 86 X.w X.K tg J fp it tn/\tn 0 s2.heap/\(∀b∈fp,oC X bi H' b)/\R J H'
def PI(X:Cx)(tg iter:wv)(wi:TI):Prop:=
 ∀(bi:Aaa)(s:f8)(Z:St)(H:Hp)(R:It->Hp->Prop),Inv X bi Z H s->wi Z H R->
  f' 91 X.A (wf iter X.env) (λv s1=>f' 91 X.A (Re v) (PIE X bi Z tg R) X.xe s1) X.xe s
def G4(ho:s.heap.get? it>o)(hc:o.cls=.type n)(hd:o.data=.fields vs)
  (hn:["enumerate","zip","dict_itemiterator","dict_reverseitemiterator","odict_iterator","itertools.zip_longest","itertools.pairwise"].contains n=false) (hQ:Q () s):f' M A (Op tg (-it) u) Q E s:=by
 cases tg<;>first
  |show ah hQ
  |(cases u<;>first
    |show ah hQ
    |(show ae<|F5 ho ?_;rw[hc,hd];change f' M A (if(["enumerate","zip","dict_itemiterator","dict_reverseitemiterator","odict_iterator","itertools.zip_longest","itertools.pairwise"].contains n&&vs[0]?==some (v0 _))=true then _ else _) Q E s;rw[aL (by ext h;rw[hn,qh]at h;cases h)];show ah hQ))
def WT(K:Frag)(a:cr):It:=
 {λi H=>∃xs x,bg K H a xs/\xs[i]?>x,λi H x H'=>H'=H/\∀xs,bg K H a xs->xs[i]?>x,λi H=>∃xs,bg K H a xs/\42<=i}
def WS(K:Frag)(a:cr):It:=
 {λi H=>∃xs x,bA K H a xs/\xs[i]?>x,λi H x H'=>H'=H/\∀xs,bA K H a xs->xs[i]?>x,λi H=>∃xs,bA K H a xs/\42<=i}
def Itr(lo:Int)(n:Nat):It:={λi _=>i<n,λi H x H'=>H'=H/\x=.int (lo+i),λi _=>n<=i}
def Tf{K:Frag}(a it:cr):Turn P w K tg (WT K a) [it] it (λi h=>h.IsListIter it a i) where
 mem:=by simp
 obj:=λi h st b hb=>by
  have e:b=it:=by simpa using hb
  subst e;let(o,e,c,d):=st;show{o,e,λv z=>by rw[d]at z;cases z}
 keep:=λi h h' st k=>st.at λo e=>k it 84 o e
 item:=by ext X hP hw hK hc i bi s Z H E I hf st hg;subst hP hw hK;let(xs,x,hq,hx):=hg;let(aM,rv,p,hz):=I.list hq;let(u,hu,ru):=rv.get hx;let(f0,f1,f2,f3,f4,f5):=hf it 84;show yx st p.isList (↑hu) λh' j4 sb=>?_;let(o,e,c,d):=id j4;show{u,9,G4 e c d 7 {x,H,I.turned (t':=21) (λb o hb e=>(sb.2 b hb).trans e) f0 f1 f3 f4 f5,ru,{9,λys hy=>by rw[I.Mi hy hq];show hx},j4,λb hb=>(hf b hb).1}}
 done:=by ext X hP hw hK hc i bi s Z H E I hf st hg;subst hP hw hK;let(xs,hq,hx):=hg;let(aM,rv,p,hz):=I.list hq;let(f0,f1,f2,f3,f4,f5):=hf it 84;have hl:=rv.length;show zd 61 st p.isList (by simp;lia) λh' eb=>{9,179}
 self:=λ_ _ _ _ _ st h=>wpAny_pyIter_listiter st h
def QF{K:Frag}(a it:cr):Turn P w K tg (WS K a) [it] it (λi h=>h.IsTupleIter it a i) where
 mem:=by simp
 obj:=λi h st b hb=>by
  have e:b=it:=by simpa using hb
  subst e;let(o,e,c,d):=st;show{o,e,λv z=>by rw[d]at z;cases z}
 keep:=λi h h' st k=>st.at λo e=>k it 84 o e
 item:=by ext X hP hw hK hc i bi s Z H E I hf st hg;subst hP hw hK;let(xs,x,hq,hx):=hg;let(aM,rv,p,hz):=I.tuple hq;let(u,hu,ru):=rv.get hx;let(f0,f1,f2,f3,f4,f5):=hf it 84;show wpAny_pyNext_tuple_item st (show s.heap.IsTuple a aM.toArray from p) (↑hu) λh' j4 sb=>?_;let(o,e,c,d):=id j4;show{u,9,G4 e c d 7 {x,H,I.turned (t':=21) (λb o hb e=>(sb.2 b hb).trans e) f0 f1 f3 f4 f5,ru,{9,λys hy=>by rw[I.uJ hy hq];show hx},j4,λb hb=>(hf b hb).1}}
 done:=by ext X hP hw hK hc i bi s Z H E I hf st hg;subst hP hw hK;let(xs,hq,hx):=hg;let(aM,rv,p,hz):=I.tuple hq;let(f0,f1,f2,f3,f4,f5):=hf it 84;have hl:=rv.length;show wpAny_pyNext_tuple_end 61 st (show s.heap.IsTuple a aM.toArray from p) (by simp;lia) λh' eb=>{9,179}
 self:=λ_ _ _ _ _ st h=>wpAny_pyIter_tupleiter st h
def QG{K:Frag}(it:cr)(lo:Int)(n:Nat):Turn P w K tg (Itr lo n) [it] it (λi h=>IsRangeIter h it (lo+(i:Nat)*1) ((n:Int) -(i:Nat)) 1) where
 mem:=by simp
 obj:=λi h st b hb=>by
  have e:b=it:=by simpa using hb
  subst e;show{_,st,λv z=>by have z':=z;cases z'}
 keep:=λi h h' st k=>k it 84 _ st
 item:=by ext X hP hw hK hc i bi s Z H E I hf st hg;subst hP hw hK;let(f0,f1,f2,f3,f4,f5):=hf it 84;show(Walks.range (prog:=86) (w:=X.w) 61 it lo 1 n).item i s _ _ hg st λv h' tk hv j4 kk=>?_;let(t,rfl):=hv;show{_,9,G4 j4 rfl rfl 7 {.int<|lo+i,H,220,{t,?_},⟨rfl,rfl⟩,j4,λb hb=>(hf b hb).1}};rw[Int.mul_one]
 done:=by ext X hP hw hK hc i bi s Z H E I hf st hg;let(f0,f1,f2,f3,f4,f5):=hf it 84;show wpAny_pyNext_range_end 61 st (by have:n<=i:=hg;lia) λh' eb=>{9,179}
 self:=λ_ _ _ _ _ st h=>wpAny_pyIter_rangeiter st h
section
variable{X:Cx}{tg:wv}
inductive aet(K:Frag)(R:It->Hp->Prop)(x:V)(H1:Hp):Prop
 |mk a (_:x=-a) (_:(∃xs,bg K H1 a xs)) (_:R (WT K a) H1)
def Km(K:Frag)(tl:TE):TI:=λZ H R=>tl Z H λx H1=>aet K R x H1
inductive af6(K:Frag)(R:It->Hp->Prop)(x:V)(H1:Hp):Prop
 |mk a (_:x=-a) (_:(∃xs,bA K H1 a xs)) (_:R (WS K a) H1)
def Yy(K:Frag)(tl:TE):TI:=λZ H R=>tl Z H λx H1=>af6 K R x H1
def eC(hl:PE X l tl):PI X tg l (Km X.K tl):=by
 ext bi s Z H R I h;show dv 135 λv s1 x H1 I1 r1 q1=>?_;obtain⟨a,e,⟨xs,hq⟩,q⟩:=q1;subst e;cases r1;let(aM,rv,p,hz):=I1.list hq;show kE p.isList ?_;show{22,[22],_,_,H1,9,I1.kept λb o e=>ao _ e,Tf a _,{_,27,9,9},26,q};have e:b=22:=by simpa using hb
 subst e;show I1.w6 (aw _) 16
def pk(hl:PE X l tl):PI X tg l (Yy X.K tl):=by
 ext bi s Z H R I h;show dv 135 λv s1 x H1 I1 r1 q1=>?_;obtain⟨a,e,⟨xs,hq⟩,q⟩:=q1;subst e;cases r1;let(aM,rv,p,hz):=I1.tuple hq;show iT (show s1.heap.IsTuple a aM.toArray from p) ?_;show{22,[22],_,_,H1,9,I1.kept λb o e=>ao _ e,QF a _,{_,27,9,9},26,q};have e:b=22:=by simpa using hb
 subst e;show I1.w6 (aw _) 16
def XJ{lo hi:Int}(I:Inv X bi Z H s)(h1:-(2^62)<=lo)(h2:lo<2^62)(h3:-(2^62)<=hi)(h4:hi<2^62)
  (q:R (Itr lo (hi -lo).toNat) H):f' 91 X.A (Re<|.ref 34) (PIE X bi Z tg R) E {s with heap:=s.heap.push {cls:=.type "range",data:=.fields #[.int lo t,.int hi u,.int 1 v]},toks:=tk}:=by
 show wpAny_pyIter_range (IsRange.new ..) (small_one h1 h2 h3 h4) ?_;have I1:Inv X bi Z H {s with heap:=s.heap.push {cls:=.type "range",data:=.fields #[.int lo t,.int hi u,.int 1 v]},toks:=tk}:=I.kept λb o e=>ao _ e;show{(s.heap.push {cls:=.type "range",data:=.fields #[.int lo t,.int hi u,.int 1 v]}).objs.size,[(s.heap.push {cls:=.type "range",data:=.fields #[.int lo t,.int hi u,.int 1 v]}).objs.size],_,_,H,rfl,
  I1.kept λb o e=>ao _ e,QG _ lo (hi -lo).toNat,?_,λb hb=>?_,q}
 ·have e1:lo+((0:Nat):Int)*1=lo:=by simp
  have e2:(((hi -lo).toNat:Nat):Int) -((0:Nat):Int)=Builtin.Range.rangeSize lo hi 1:=by rw[rangeSize_one];split<;>lia
  rw[e1,e2];show aH _ rfl
 have e:b=(s.heap.push {cls:=.type "range",data:=.fields #[.int lo t,.int hi u,.int 1 v]}).objs.size:=by simpa using hb
 subst e;show I1.w6 (aw _) 16
inductive aes(R:It->Hp->Prop)(vs:Aam)(H1:Hp):Prop
 |mk (j:Int) (_:vs=[.int j]) (_:-(2^62)<=j) (_:j<2^62) (_:R (Itr 0 j.toNat) H1)
def af8(ta:TA):TI:=λZ H R=>ta Z H λvs H1=>aes R vs H1
def j5(hg:Gl X "range")(hm:X.mg "range"=none)(ha:PA X [a] ta)(hs:jp [a] X.env=[(false,wf a X.env)]:=by rfl):PI X tg (.Call (.Name "range" p) [a] [] pos) (af8 ta):=by
 ext bi s Z H R I h;show Hw<|sk I hg hm boot_range<|eY (qV 15 λus s1 vs H1 I1 r1 q1=>?_) hs 9;let(j,e,q1,q2,q):=q1;subst e;cases r1 with
 |cons r rr=>
  cases rr;let(t,rfl):=r;show call_range_1<|XJ I1 ∅ ∅ q1 q2 (↑q)
def QM(wi:TI)(g:TG)(tb:TS):TS:=λD Z H=>wi Z H λJ H1=>∃W:Nat->Nat->St->Hp->Prop,(∃m,W 0 m Z H1)/\∀i m Z H,W i m Z H->
 (J.stop i H/\D.nx Z H)\/(J.go i H/\∃N:St->Hp->Prop,(∀σ' H',N σ' H'->∃m',m'<m/\W (i+1) m' σ' H')/\∀x H',J.Es i H x H'->g x Z H' λσ2 H2=>tb {D with nx:=N,ct:=N,bk:=D.nx} σ2 H2)
def Cc(fp:Aah)(h:nw):Aaa:=fp.filterMap λb=>(h.get? b).map λo=>(b,o)
def v5(hb:b∈fp)(e:h.get? b>o):(b,o)∈Cc fp h:=pO.mpr {b,hb,by rw[e];rfl}
def Ux(hp:p∈Cc fp h):p.1∈fp/\h.get? p.1>p.2:=by
 let(b,hb,e):=pO.mp hp;cases q:h.get? b with
 |none=>rw[q]at e;cases e
 |some o=>
  rw[q]at e;have e':=cB e;subst e';show⟨hb,q⟩
def Inv.pinned(I:Inv X bi Z H s)(hf:∀b∈fp,oC X bi H b)(ho:∀b∈fp,∃o,s.heap.get? b>o/\∀v,o.data≠ .cell v):Inv X (bi++Cc fp s.heap) Z H s:=
 I.zA λp hp=>(aE.mp hp).elim (λz=>I.pin p<|bq _ z) λz=>by let(hb,e):=Ux z;let(f0,f1,f2,__):=hf p.1 hb;let(o,e',d):=ho p.1 hb;rw[e]at e';cases e';show⟨e,f0,f1,f2,d⟩
def Inv.Ai(I:Inv X (bi++pl) Z H s):Inv X bi Z H s:=I.zA λp hp=>I.pin p<|bq _<|ba _ hp
def eB(hp:PassesOwn 91 X.A X.env X.xe)(hc:X.calm=true)(hi:PI X tg iter wi)(hg:PG X tg g)(hb:mP X body tb)
  (hs:∀x,sK iter X.env x=pure x:=by intro _;rfl):PS X (.For tg iter body [] pos) (QM wi g tb):=by
 ext bi s Z H D I h;show wpAny_For (jK (hi bi s Z H _ I h) λv s1 h1=>jK h1 λitv s2 h2=>?_) hs;obtain⟨it,fp,tn,J,H2,e,I2,T,IC,f2,W,⟨m0,w0⟩,turn⟩:=h2;subst e;have Xy:∀{H':Hp},(∀b∈fp,H' b=none)->∀b∈fp,oC X bi H' b:=λhn b hb=>{hn b hb,(f2 b hb).2};show codeAny_forLoop_any (λn s'=>∃i σ' H',Inv X bi σ' H' s'/\tn i s'.heap/\(∀b∈fp,H' b=none)/\W i n σ' H') ?_ m0 {0,Z,H2,I2,IC,λb hb=>(f2 b hb).1,w0};ext n s3 ⟨i,σ3,H3,I3,st3,fr3,w3⟩;rcases turn i n σ3 H3 w3 with⟨stop,qn⟩|⟨go,N,hN,step⟩;·show oE hp (jK (T.done X 9 9 9 hc i bi s3 σ3 H3 X.xe I3 (Xy fr3) st3 stop) λr s4 vF=>?_);let(hr,I4):=vF;subst hr;show rT ⟨σ3,H3,I4,qn⟩
 show oE hp (jK (T.item X 9 9 9 hc i bi s3 σ3 H3 X.xe I3 (Xy fr3) st3 go) λr s4 hz3=>?_);let(u,hr,h4):=hz3;subst hr;show oE hp (jK h4 λ_ s5 GV=>?_);let(x,H5,I5,r5,y5,st5,fr5):=GV;show oE hp (jK (hg _ s5 σ3 H5 x u _ (I5.pinned (Xy fr5)<|T.obj _ _ st5) r5<|step x H5 y5) λ_ s6 hz5=>?_);obtain⟨σ6,H6,I6,q6⟩:=hz5;show oE hp (jK (hb _ s6 σ6 H6 _ I6 q6) λf s7 q7=>?_);have again:∀{σ7:St}{H7:Hp},Inv X (bi++Cc fp s5.heap) σ7 H7 s7->N σ7 H7->∃m,m<n/\∃i σ' H',Inv X bi σ' H' s7/\tn i s7.heap/\(∀b∈fp,H' b=none)/\W i m σ' H':=λ{σ7 H7} I7 n7=>by let(m',hm,w7):=hN σ7 H7 n7;show{m',hm,i+1,σ7,H7,I7.Ai,T.keep _ _ _ st5 λb hb o e=>(I7.pin (b,o)<|bq _<|bq _<|v5 hb e).1,26,w7};let(o,e,d):=T.obj _ _ st5 b hb;show(I7.pin (b,o)<|bq _<|bq _<|v5 hb e).2.1
 cases f with
 |next=>obtain⟨σ7,H7,I7,n7⟩:=q7;show again I7 n7
 |cont=>obtain⟨σ7,H7,I7,n7⟩:=q7;show again I7 n7
 |brk=>obtain⟨σ7,H7,I7,q7⟩:=q7;show{σ7,H7,I7.Ai,q7}
 |ret v=>obtain⟨x7,σ7,H7,I7,r7,q7⟩:=q7;show{x7,σ7,H7,I7.Ai,r7,q7}
abbrev wx(J:It)(g:TG)(tb:TS)(D:Ends)(Z:St)(H:Hp):Prop:=∃W:Nat->Nat->St->Hp->Prop,(∃m,W 0 m Z H)/\∀i m Z H,W i m Z H->
 (J.stop i H/\D.nx Z H)\/(J.go i H/\∃N:St->Hp->Prop,(∀σ' H',N σ' H'->∃m',m'<m/\W (i+1) m' σ' H')/\∀x H',J.Es i H x H'->g x Z H' λσ2 H2=>tb {D with nx:=N,ct:=N,bk:=D.nx} σ2 H2)
def CO{J:It}{n:Nat}{g:TG}{tb:TS}{D:Ends}{Z:St}{H:Hp}(Pv:Nat->St->Hp->Prop)(h0:Pv 0 Z H)(hg:∀i Z H,i<n->Pv i Z H->J.go i H/\∀x H',J.Es i H x H'->g x Z H' λσ2 H2=>tb {D with nx:=Pv<|i+1,ct:=Pv<|i+1,bk:=D.nx} σ2 H2)(hd:∀Z H,Pv n Z H->J.stop n H/\D.nx Z H):wx J g tb D Z H:=by
 show{λi m Z H=>m=n -i/\i<=n/\Pv i Z H,{n,84,aQ _,h0},?_};ext i m Z H ⟨rfl,hi,p⟩;by_cases cb:i<n;·let(a,b):=hg i Z H cb p;show .inr {a,Pv<|i+1,λσ' H' p'=>{n -(i+1),8,9,cb,p'},b}
 have e:i=n:=by lia
 subst e;show .inl<|hd Z H p
def Y3{K:Frag}{g:TG}{tb:TS}{D:Ends}(Pv:Nat->St->Hp->Prop)(h0:Pv 0 Z H)(hl:∀i Z H,i<=42->Pv i Z H->bg K H a xs)
  (hs:∀i x Z H,xs[i]?>x->Pv i Z H->g x Z H λσ2 H2=>tb {D with nx:=Pv<|i+1,ct:=Pv<|i+1,bk:=D.nx} σ2 H2) (hd:∀Z H,Pv 42 Z H->D.nx Z H):wx (WT K a) g tb D Z H:=by
 show CO Pv h0 (λi Z H hi p=>?_) λZ H p=>{{xs,hl _ Z H (aw _) p,aw _},hd Z H p};have q:=hl i Z H (cy hi) p;show{{xs,_,q,au hi},?_};ext x H' ⟨rfl,y⟩;show hs i x Z _ (y xs q) p
def Qk{K:Frag}{g:TG}{tb:TS}{D:Ends}(Pv:Nat->St->Hp->Prop)(h0:Pv 0 Z H)(hl:∀i Z H,i<=42->Pv i Z H->bA K H a xs)
  (hs:∀i x Z H,xs[i]?>x->Pv i Z H->g x Z H λσ2 H2=>tb {D with nx:=Pv<|i+1,ct:=Pv<|i+1,bk:=D.nx} σ2 H2) (hd:∀Z H,Pv 42 Z H->D.nx Z H):wx (WS K a) g tb D Z H:=by
 show CO Pv h0 (λi Z H hi p=>?_) λZ H p=>{{xs,hl _ Z H (aw _) p,aw _},hd Z H p};have q:=hl i Z H (cy hi) p;show{{xs,_,q,au hi},?_};ext x H' ⟨rfl,y⟩;show hs i x Z _ (y xs q) p
def yi{lo:Int}{g:TG}{tb:TS}{D:Ends}(Pv:Nat->St->Hp->Prop)(h0:Pv 0 Z H)
  (hs:∀i Z H,i<n->Pv i Z H->g (.int<|lo+i) Z H λσ2 H2=>tb {D with nx:=Pv<|i+1,ct:=Pv<|i+1,bk:=D.nx} σ2 H2) (hd:∀Z H,Pv n Z H->D.nx Z H):wx (Itr lo n) g tb D Z H:=by
 show CO Pv h0 (λi Z H hi p=>{hi,?_}) λZ H p=>{aw _,hd Z H p};ext x H' ⟨rfl,rfl⟩;show hs i Z _ hi p
abbrev R2:=V->V->Hp->VK->Prop
end
def kn(X:Cx)(f:i5->i5->KB i5)(r:R2):Prop:=
 ∀(bi:Aaa)(s:f8)(Z:St)(H:Hp)(x y:V)(v u:i5)(Q:VK),Inv X bi Z H s->RelV x v->RelV y u->r x y H Q->
  f' 91 X.A (f v u) 54 X.xe s
def fD(X:Cx)(f:i5)(r:Aam->Hp->VK->Prop):Prop:=
 ∀(bi:Aaa)(s:f8)(Z:St)(H:Hp)(xs:Aam)(us:Aae)(Q:VK),Inv X bi Z H s->Vals xs us->r xs H Q->
  f' 91 X.A (Go f us) 54 X.xe s
def Tq(r:R2)(ta tb:TE):TE:=λZ H Q=>ta Z H λx H1=>tb Z H1 λy H2=>r x y H2 Q
inductive rI(C:Int->Int->Prop)(g:Int->Int->V)(x:V)(y:V)(H:Hp)(Q:VK):Prop
 |mk i j (_:x=.int i) (_:y=.int j) (_:C i j) (_:Q (g i j) H)
inductive Ly(g:Int->Int->V)(x:V)(y:V)(H:Hp)(Q:VK):Prop
 |mk i j (_:x=.int i) (_:y=.int j) (_:Q (g i j) H)
section
variable{X:Cx}{a b:wv}{ta tb:TE}{pos:Gc}
def Zq(ha:PE X a ta)(hb:PE X b tb){R:V->V->Hp->Prop}(I:Inv X bi Z H s)
  (h:ta Z H λx H1=>tb Z H1 λy H2=>R x y H2) {f:i5->i5->KB i5}
  (hf:∀v u s2 x y H2,Inv X bi Z H2 s2->RelV x v->RelV y u->R x y H2->f' 91 X.A (f v u) Q X.xe s2):
  f' 91 X.A (wf a X.env) (λv aaa=>f' 91 X.A (wf b X.env) (λu aad=>f' 91 X.A (f v u) Q X.xe aad) X.xe aaa) X.xe s:=by
 show dv 131 λv s1 x H1 I1 r1 q1=>?_;show dv (hb bi s1 Z H1 _ I1 q1) λu s2 y H2 I2 r2 q2=>hf v u s2 x y H2 I2 r1 r2 q2
def c9(ho:kn X (Ix op) r)(ha:PE X a ta)(hb:PE X b tb):PE X (.BinOp a op b pos) (Tq r ta tb):=by ext bi s Z H Q I h;show wpAny_BinOp (Zq ha hb I h λv u s2 x y H2 I2 rx ry q=>ho bi s2 Z H2 x y v u Q I2 rx ry q)
def opI{g:Int->Int->Int}
  (rule:∀(i j:Int)(t u:Tok)(s:f8)(Q:Aac)(E:Aac),C i j->Q (.int (g i j) 21) {s with toks:=21+1}->f' 91 X.A (f (.int i t)<|.int j u) Q E s):
  kn X f (rI C λi j=>.int<|g i j):=by
 ext bi s Z H x y v u Q I rx ry h;let(i,j,rfl,rfl,hc,q):=h;let(t,rfl):=rx;let(t',rfl):=ry;show rule i j t t' s _ _ hc {.int<|g i j,H,44,66,q}
def adS{g:Int->Int->Int}
  (rule:∀(i j:Int)(t u:Tok)(s:f8)(Q:Aac)(E:Aac),Q (.int (g i j) 21) {s with toks:=21+1}->f' 91 X.A (f (.int i t)<|.int j u) Q E s):
  kn X f (Ly λi j=>.int<|g i j):=by
 ext bi s Z H x y v u Q I rx ry h;let(i,j,rfl,rfl,q):=h;let(t,rfl):=rx;let(t',rfl):=ry;show rule i j t t' s _ _ {.int<|g i j,H,44,66,q}
def Yb{g:Int->Int->Bool}
  (rule:∀(i j:Int)(t u:Tok)(s:f8)(Q:Aac)(E:Aac),Q (.bool<|g i j) s->f' 91 X.A (f (.int i t)<|.int j u) Q E s):
  kn X f (Ly λi j=>.bl<|g i j):=by
 ext bi s Z H x y v u Q I rx ry h;let(i,j,rfl,rfl,q):=h;let(t,rfl):=rx;let(t',rfl):=ry;show rule i j t t' s _ _ {.bl<|g i j,H,I,9,q}
def aio(i j:Int):Prop:=0<=j/\j<=1000000/\i.natAbs<2^64
def ZI(i j:Int):Prop:=(-(2^64)<i/\i<2^64)\/(-(2^64)<j/\j<2^64)
def ZI.ok(h:ZI i j):IntMulOk i j:=by
 rcases h with⟨h1,h2⟩|⟨h1,h2⟩;·show .of_left<|intBits_le_64 h1 h2
 show .of_right<|intBits_le_64 h1 h2
def ir:kn X (Ix .Add) (Ly λi j=>.int<|i+j):=adS λ_ _ _ _ _ _ _ q=>add_int q
def adO:kn X (Ix .Sub) (Ly λi j=>.int<|i -j):=adS λ_ _ _ _ _ _ _ q=>sub_int q
def Cg:kn X (Ix .Mult) (rI ZI λi j=>.int<|i*j):=opI λ_ _ _ _ _ _ _ hc q=>mul_int q hc.ok
def qD:kn X (Ix .Mod) (rI (λ_ j=>0<j) λi j=>.int<|i % j):=opI λi j _ _ _ _ _ hc q=>by show mod_int' ∅ (by rw[Int.fmod_eq_emod_of_nonneg i ∅];show q)
def adP:kn X (Ix .Pow) (rI aio λi j=>.int<|i^j.toNat):=opI λ_ _ _ _ _ _ _ hc q=>pow_int_small hc.1 hc.2.1 hc.2.2 q
def adu:V->V->Bool
 | .int _,.int _=>true| .bl _,.bl _=>true| .str _,.str _=>true
 |_,_=>false
def rEq:R2:=λx y H Q=>adu x y=true/\Q (.bl<|decide (x=y)) H
def rNe:R2:=λx y H Q=>adu x y=true/\Q (.bl<|!decide (x=y)) H
def DW:decide (V.int i=V.int j)=(i==j):=by rw[f7];simp
def Wd:decide (V.bl i=V.bl j)=(i==j):=by rw[f7];simp
def Qq:decide (V.str i=V.str j)=(i==j):=by rw[f7];simp
variable{c:wv}{tc:TE}
def qI(I:Inv X bi Z H s)(q:Q (.bl k) H)(e:k=k'):EP X bi Z Q (.bool k') s:=by subst e;show{.bl k,H,I,9,q}
def mQ:kn X (v4 .Eq) rEq:=by
 ext bi s Z H x y v u Q I rx ry h;let(hs,q):=h;cases x with
 |bl i=>
  cases rx;cases y with
  |bl j=>cases ry;show eq_bool<|qI I q Wd
  |_=>show absurd (show false=true from hs) bX
 |int i=>
  let(t,rfl):=rx;cases y with
  |int j=>let(t',rfl):=ry;show eq_int<|qI I q DW
  |_=>show absurd (show false=true from hs) bX
 |str i=>
  let(t,rfl):=rx;cases y with
  |str j=>let(t',rfl):=ry;show eq_str<|qI I q Qq
  |_=>show absurd (show false=true from hs) bX
 |_=>cases y<;>show absurd (show false=true from hs) bX
def uz:kn X (v4 .NotEq) rNe:=by
 ext bi s Z H x y v u Q I rx ry h;let(hs,q):=h;cases x with
 |bl i=>
  cases rx;cases y with
  |bl j=>cases ry;show ne_bool<|qI I q<|dX not Wd
  |_=>show absurd (show false=true from hs) bX
 |int i=>
  let(t,rfl):=rx;cases y with
  |int j=>let(t',rfl):=ry;show ne_int<|qI I q<|dX not DW
  |_=>show absurd (show false=true from hs) bX
 |str i=>
  let(t,rfl):=rx;cases y with
  |str j=>let(t',rfl):=ry;show ne_str<|qI I q<|dX not Qq
  |_=>show absurd (show false=true from hs) bX
 |_=>cases y<;>show absurd (show false=true from hs) bX
def Rm:kn X (v4 .Lt) (Ly λi j=>.bl<|decide (i<j)):=Yb λ_ _ _ _ _ _ _ q=>lt_int q
def aah:kn X (v4 .LtE) (Ly λi j=>.bl<|decide (i<=j)):=Yb λ_ _ _ _ _ _ _ q=>le_int q
def vY:kn X (v4 .Gt) (Ly λi j=>.bl<|decide (j<i)):=Yb λ_ _ _ _ _ _ _ q=>gt_int q
def Uo:kn X (v4 .In) (λx y H Q=>∃i j,x=.str i/\y=.str j/\Q (.bl<|!(Builtin.Str.occurrences j i 0 j.length 1).isEmpty) H):=by ext bi s Z H x y v u Q I rx ry h;let(i,j,rfl,rfl,q):=h;let(t,rfl):=rx;let(t',rfl):=ry;show in_str<|qI I q 9
def GC:kn X (v4 .Is) (λx y H Q=>y=.cU/\Q (.bl<|decide (x=.cU)) H):=by
 ext bi s Z H x y v u Q I rx ry h;let(rfl,q):=h;cases ry;show is_none_gen<|qI I q ?_;cases x<;>first
  |(cases rx;rfl)
  |(let(t,rfl):=rx;rfl)
def HL:kn X (v4 .IsNot) (λx y H Q=>y=.cU/\Q (.bl<|!decide (x=.cU)) H):=by
 ext bi s Z H x y v u Q I rx ry h;let(rfl,q):=h;cases ry;show isnot_none_gen<|qI I q ?_;cases x<;>first
  |(cases rx;rfl)
  |(let(t,rfl):=rx;rfl)
def LU:kn X (v4 .NotIn) (λx y H Q=>∃i j,x=.str i/\y=.str j/\Q (.bl<|!(!(Builtin.Str.occurrences j i 0 j.length 1).isEmpty)) H):=by ext bi s Z H x y v u Q I rx ry h;let(i,j,rfl,rfl,q):=h;let(t,rfl):=rx;let(t',rfl):=ry;show notIn_str<|qI I q 9
def cM(b:wv)(h:op≠ .In:=by decide)(h2:op≠ .NotIn:=by decide):KT op b=false:=by
 have e1:(op==CmpOp.In)=false:=by cases op<;>first|rfl|show absurd rfl h
 have e2:(op==CmpOp.NotIn)=false:=by cases op<;>first|rfl|show absurd rfl h2
 cases b<;>simp[KT,e1,e2]
def kZ(ho:kn X (v4 op) r)(ha:PE X a ta)(hb:PE X b tb)(hm:KT op b=false):PE X (.Compare a [op] [b] pos) (Tq r ta tb):=by ext bi s Z H Q I h;show wpAny_Compare1 (Zq ha hb I h λv u s2 x y H2 I2 rx ry q=>ho bi s2 Z H2 x y v u Q I2 rx ry q) hm
inductive ac3(Q:Bool->Hp->Prop)(x:V)(H':Hp):Prop
 |mk k (_:x=.bl k) (_:Q k H')
def ZU(t:TE):TT:=λZ H Q=>t Z H λx H'=>ac3 Q x H'
def cD(ho:kn X (v4 op) r)(ha:PE X a ta)(hb:PE X b tb)(hm:KT op b=false):PT X (.Compare a [op] [b] pos) (ZU<|Tq r ta tb):=by ext bi s Z H Q I h;show zg (dv 131 λv s1 x H1 I1 r1 q1=>dv (hb bi s1 Z H1 _ I1 q1) λu s2 y H2 I2 r2 q2=>jK (ho bi s2 Z H2 x y v u _ I2 r1 r2 q2) λc s3 hz6=>?_) hm;let(z,H3,I3,r3,k,e,q3):=hz6;subst e;cases r3;show ix ⟨H3,I3,q3⟩
def adi(r r':R2)(ta tb tc:TE):TE:=λZ H Q=>ta Z H λx H1=>tb Z H1 λy H2=>r x y H2 λz H3=>∃k,z=.bl k/\
 (if k=true then tc Z H3 λw' H4=>r' y w' H4 Q else Q (.bl false) H3)
def X5(ho:kn X (v4 op) r)(CA:kn X (v4 op') r')(ha:PE X a ta)(hb:PE X b tb)(hc:PE X c tc)
  (hm:lastMarks [op,op'] [b,c]=false:=by with_unfolding_all rfl):PE X (.Compare a [op,op'] [b,c] pos) (adi r r' ta tb tc):=by
 ext bi s Z H Q I h;show Compare_chain (dv 131 λv s1 x H1 I1 r1 q1=>chain_link (dv (hb bi s1 Z H1 _ I1 q1) λu s2 y H2 I2 r2 q2=>jK (ho bi s2 Z H2 x y v u _ I2 r1 r2 q2) λd s3 hz7=>?_)) hm;let(z,H3,I3,r3,k,e,q3):=hz7;subst e;cases r3;show ix ?_;cases k with
 |false=>show ite_ff {.bl false,H3,I3,9,q3}
 |true=>show ite_tt<|chain_last (jK (hc bi s3 Z H3 _ I3 q3) λw' s4 zq=>by let(z',H4,I4,r4,q4):=zq;show CA bi s4 Z H4 y z' u w' Q I4 r2 r4 q4)
def wW:(dL:Nat)<2^63:=by rw[bW];decide
def Aw:kn X (Ix .Add) (λx y H Q=>∃i j,x=.str i/\y=.str j/\i.length+j.length<=dL/\Q (.str<|i++j) H):=by ext bi s Z H x y v u Q I rx ry h;let(i,j,rfl,rfl,hz,q):=h;let(t,rfl):=rx;let(t',rfl):=ry;show add_str (λt' tk=>{.str<|i++j,H,44,66,q}) hz
def jn(r:Vals [x] us):∃u,us=[u]/\RelV x u:=by
 cases r with
 |cons r1 r2=>cases r2;show⟨_,rfl,r1⟩
def uw(r:Vals [x,y] us):∃u w',us=[u,w']/\RelV x u/\RelV y w':=by
 cases r with
 |cons r1 r2=>
  cases r2 with
  |cons r3 r4=>cases r4;show⟨_,_,rfl,r1,r3⟩
def WD(hc:X.calm=true):fD X (.builtin "max") (λxs H Q=>∃i j,xs=[.int i,.int j]/\Q (.int (if j⊃i then j else i)) H):=by
 ext bi s Z H xs us Q I r h;let(i,j,rfl,q):=h;obtain⟨u,w',rfl,⟨t,rfl⟩,⟨t',rfl⟩⟩:=uw r;show max_two_ints 61 λh' tk k=>{_,H,I.kept k,?_,q};by_cases hj:j⊃i;·rw[aN hj,aN hj];show⟨_,rfl⟩
 rw[aL hj,aL hj];show⟨_,rfl⟩
def WC(hc:X.calm=true):fD X (.builtin "min") (λxs H Q=>∃i j,xs=[.int i,.int j]/\Q (.int (if j<i then j else i)) H):=by
 ext bi s Z H xs us Q I r h;let(i,j,rfl,q):=h;obtain⟨u,w',rfl,⟨t,rfl⟩,⟨t',rfl⟩⟩:=uw r;show min_two_ints 61 λh' tk k=>{_,H,I.kept k,?_,q};by_cases hj:j<i;·rw[aN hj,aN hj];show⟨_,rfl⟩
 rw[aL hj,aL hj];show⟨_,rfl⟩
def WE:fD X (.type "int") (λxs H Q=>(∃i,xs=[.int i]/\Q (.int i) H)\/∃k,xs=[.bl k]/\Q (.int (if k then 1 else 0)) H):=by
 ext bi s Z H xs us Q I r h;rcases h with⟨i,rfl,q⟩|⟨k,rfl,q⟩;·let(u,rfl,t,rfl):=jn r;show call_int_int {.int i,H,I,66,q}
 let(u,rfl,r1):=jn r;cases r1;show call_int_bool {.int (if k then 1 else 0),H,44,66,q}
def afp(K:Frag)(x:V)(H:Hp)(n:Nat):Prop:=
 match x with
 | .str y=>y.length<=dL/\n=y.length
 | .ref p=>(∃xs,bg K H p xs/\n=42)\/∃xs,bA K H p xs/\n=42
 |_=>False
def dD:fD X (.builtin "len") (λxs H Q=>∃x n,xs=[x]/\afp X.K x H n/\Q (.int n) H):=by
 ext bi s Z H xs us Q I r h;let(x,n,rfl,e,q):=h;let(u,rfl,rx):=jn r;have hl:=wW;have hs:dL=16777216:=bW;cases x with
 |str y=>
  let(t,rfl):=rx;obtain⟨hy,e'⟩:y.length<=dL/\n=y.length:=e;subst e';show len_str ∅ {.int _,H,44,66,q}
 |ref p=>
  cases rx;have e':(∃xs,bg X.K H p xs/\n=42)\/∃xs,bA X.K H p xs/\n=42:=e;rcases e' with⟨xs,hx,e'⟩|⟨xs,hx,e'⟩;·subst e';let(aM,r',pl,hz):=I.list hx;have hlen:=r'.length;show Calls.call_len_list pl.isList (by simp only[aT];lia) {.int 42,H,44,{_,by simp only[aT];rw[hlen]},q}
  subst e';let(aM,r',pl,hz):=I.tuple hx;have hlen:=r'.length;show len_tuple pl (by simp only[aT];lia) {.int 42,H,44,{_,by simp only[aT];rw[hlen]},q}
 |_=>show(show False from e).elim
structure F1(h:nw)(x dx C:cr)(mA:Aab):Prop where
 obj:h.get? x>instObj C dx
 ns:h.Ns1 dx mA
 ne:dx≠x
def Cr{h:nw}(n:h.Ns1 dx mA):∃od,h.get? dx>od/\∀name,lookIn name od>mA name:=by
 let(o,es,ep,ho,hd,hk,__,hm):=n;show{o,ho,λname=>?_};have e:=hm name;unfold nsFind findBy at e;rw[<-Array.find?_toList]at e;unfold lookIn;rw[hd];dsimp only;split;·rename_i y q;rw[q]at e;show dX some e
 rename_i q;rw[q]at e;have a:es.toList.any (·.refKey)=false:=by rw[Ek];ext y hy;let(z,t,qZ):=hk y<|nX.mp hy;simp[DictEntry.refKey,qZ]
 rw[aL (by rw[a];show bX)];show dX some e
def F1.look(I:F1 h x dx C mA):∃od,PySem.W.InstAt h x (instObj C dx) C (some od)/\∀name,lookIn name od>mA name:=
 let⟨od,ho,hl⟩:=Cr I.ns
 {od,{I.obj,9,9,ho},hl}
variable{prog:io}{w:i6}{A:ss}{E:Aac}{s:f8}{K:Frag}{x dx C f:cr}{mA:Aab}{name:i9}{v:i5}
def get_map(X:K.In s.heap)(I:F1 s.heap x dx C mA)(hg:plainGet K C name=true)(hh:hasDictIn K C=true)
  (ha:findIn K (-C) name>none) (hv:mA name>v) (PQ:PySem.W.handedIn v=true) (h:Q v {s with toks:=21+1}):
  f' 85 A (getAttr (-x) name expr) Q E s:=by
 let(od,J,hl):=I.look;show PySem.W.get_value X J (tP hg).1 (PySem.W.findObj_own hh ha 9 (by rw[hl,hv])) PQ h
def YW(X:K.In s.heap)(I:F1 s.heap x dx C mA)(hg:plainGet K C name=true)
  (hf:findIn K (-C) name>some (-f)) (ht:isFn K (-f)=true) (hv:mA name=none) (h:Q (-f,[-x]) s):
  f' 85 A (Uf (-x) name pl) Q E s:=by
 let(od,J,hl):=I.look;show PySem.W.method_fn X J (tP hg).1 (tP hg).2 hf (jx.mp ht) (by change(lookIn name od).map (·.isSome)>false;rw[hl,hv];rfl) h
def abe(X:K.In s.heap)(I:F1 s.heap x dx C mA)
  (hs:findIn K (-C) "__setattr__">some (.builtin "object.__setattr__")) (hp:PySem.W.plainOver K C=true) (ht:PySem.W.takerIn K C name>none) (hh:hasDictIn K C=true)
  (hw:PySem.Within mA ns) (hsz:ns.length<=dL)
  (h:∀h',F1 h' x dx C (λy=>if y=name then some v else mA y)->Heap.SameBut dx s.heap h'->Q () {s with heap:=h',toks:=21+2}):
  f' 85 A (setAttr (-x) name v) Q E s:=by
 let(od,J,hl):=I.look;show PySem.W.set_plain X J hs (PySem.W.osa_open X J hp ht λb=>?_);let(cd,hc,uU):=PySem.W.any_some hh;show ae<|ah<|ae<|ae<|ze I.obj<|ae<|PySem.W.Looks.here (PySem.W.looks_clsIn X hc) ?_;rw[uU];show ah<|ae<|ah<|ae ?_;show wpAny_nsSet1 I.ns λh' GZ kT=>?_;let(oD,esD,epD,hoD,hdD,CG):=GZ.count<|PySem.Within.cons name v hw;show ae<|wpAny_lookBehind hoD (by rw[hdD];show pastItsLine_dict<|aR CG (by rw[bJ];lia))<|ah<|h _ {(kT.2 _<|cL I.ne).trans I.obj,GZ,I.ne} kT
def Yp(X:K.In s.heap)(hm:PySem.W.makesIn K C=true)
  (hi:findIn K (-C) "__init__">some (-f)) (hf:PySem.W.typeIn K (-f)>.type "function")
  (h:C' 85 (A.under<|.builtin "type.__call__" {.ref C::vs,kw}) (.call (-f) {.ref (34+1)::vs,kw}) (PySem.W.InitBack (34+1) R)
   (s\(s.heap.push emptyDict).push (instObj C 34))):
  C' 85 A (.call (-C) ⟨vs,kw⟩) R s:=by
 let(hh,g,d,t,os):=s;show PySem.W.make_core (PySem.W.makes_of X hm) (AU X hi) (λself=>PySem.W.bind_fn X self hf) (.inl 9) h
end
def ff(f:i9)(v:V):List (i9×V)->List (i9×V)
 |[]=>[(f,v)]
 |(g,x)::r=>if g=f then(g,v)::r else(g,x)::ff f v r
theorem EO(f g:i9)(v:V):∀fs:List (i9×V),(ff f v fs).lookup g=if g=f then some v else fs.lookup g
 |[]=>by
  change List.lookup g [(f,v)]=_;by_cases h:g=f;·have hb:=jx.mpr h;simp only[List.lookup,hb,aN h]
  have hb:=cG.mpr h;simp only[List.lookup,hb,aL h]
 |(k,x)::r=>by
  rw[show ff f v ((k,x)::r)=(if k=f then(k,v)::r else(k,x)::ff f v r)from rfl];by_cases hk:k=f
  ·rw[aN hk];by_cases h:g=k;·have hb:=jx.mpr h;simp only[List.lookup,hb,aN<|h.trans hk]
   have hb:=cG.mpr h;simp only[List.lookup,hb,aL (λe:g=f=>h<|e.trans hk.symm)]
  rw[aL hk];by_cases h:g=k;·have hb:=jx.mpr h;simp only[List.lookup,hb,aL (λe:g=f=>hk<|h.symm.trans e)]
  have hb:=cG.mpr h;simp only[List.lookup,hb];show(EO f g v r)
theorem Cv(f:i9)(v:V):∀fs:List (i9×V),f∈(ff f v fs).map (·.1)/\∀g,g∈fs.map (·.1)->g∈(ff f v fs).map (·.1)
 |[]=>{by simp[ff],λg h=>by simp at h}
 |(k,x)::r=>by
  let(i1,i2):=Cv f v r;rw[show ff f v ((k,x)::r)=(if k=f then(k,v)::r else(k,x)::ff f v r)from rfl];by_cases hk:k=f;·rw[aN hk];subst hk;show{84,λg h=>by simpa using h}
  rw[aL hk];show{?_,λg h=>?_};·rw[a9];show az _ i1
  rw[a9]at h⊢;rcases aK.mp h with e|e;·show aK.mpr<|.inl e
  show az _<|i2 g e
theorem ES(f:i9)(v:V):∀fs:List (i9×V),(ff f v fs).length<=fs.length+1
 |[]=>by simp[ff]
 |(k,x)::r=>by
  have ih:=ES f v r;rw[show ff f v ((k,x)::r)=(if k=f then(k,v)::r else(k,x)::ff f v r)from rfl];by_cases hk:k=f;·rw[aN hk,bJ,bJ];lia
  rw[aL hk,bJ,bJ];lia
def nR.some_of(r:nR (some v) o):∃u,o>u/\RelV v u:=by
 cases o with
 |none=>show(show False from r).elim
 |some u=>show⟨u,rfl,r⟩
def nR.none_of(r:nR none o):o=none:=by
 cases o with
 |none=>rfl
 |some u=>show(show False from r).elim
def Jz(r:RelV v u):PySem.W.handedIn u=true:=by
 cases v with
 |cU=>cases(show u=Value.none from r);rfl
 |bl b=>cases(show u=Value.bool b from r);rfl
 |int i=>let(t,e):=(show∃t,u=Value.int i t from r);cases e;rfl
 |str x=>let(t,e):=(show∃t,u=Value.str x t from r);cases e;rfl
 |ref a=>cases(show u=Value.ref a from r);rfl
 |ty n=>cases(show u=Value.type n from r);rfl
section
variable{P:io}{w:i6}{H:Hp}{h:nw}{a C dx:cr}{fs:List (i9×V)}
def DU(bC:ka P w H h)(e:H a>.ins C dx fs):∃mA,F1 h a dx C mA/\(∀f,nR (fs.lookup f)<|mA f)/\PySem.Within mA (fs.map (·.1))/\fs.length<=1000/\H dx>.own a:=by let(d,z,ne,ob,mA,n,r,q):=(show cW P w H h a (.ins C dx fs)from bC a _ e);show{mA,⟨ob,n,ne⟩,r,q,z,d}
end
structure Bw(K:Frag)(C:cr):Prop where
 pg:plainGet K C Str.empty=true
 hd:hasDictIn K C=true
 po:PySem.W.plainOver K C=true
 sa:findIn K (-C) "__setattr__">some (.builtin "object.__setattr__")
def Bw.get{K:Frag}(c:Bw K C)(f:i9):plainGet K C f=true:=c.pg
def sN(K:Frag)(C:cr)(f:i9):Prop:=findIn K (-C) f>none
def sN.afz{K:Frag}(n:sN K C f):PySem.W.takerIn K C f>none:=by unfold PySem.W.takerIn;rw[show findIn K (-C) f>none from n];rfl
structure Con(K:Frag)(C:cr)(f:i9)(v:V)(u:i5):Prop where
 at_:findIn K (-C) f>some u
 rel:RelV v u
 get:PySem.W.specialIn K u "__get__">none
 cp:PySem.W.copiedNames.contains f=false
structure Meth(K:Frag)(C:cr)(m:i9)(f:cr):Prop where
 at_:findIn K (-C) m>some (-f)
 fn:isFn K (-f)=true
 kp:keepIn K (-f)=true
section
variable{X:Cx}{bi:Aaa}{Z:St}{H:Hp}{s:f8}{a C dx:cr}{fs:List (i9×V)}{f:i9}{v:V}{A:ss}{E:Aac}
def Sf(I:Inv X bi Z H s)(e:H a>.ins C dx fs)(c:Bw X.K C)(n:sN X.K C f)(l:fs.lookup f>v)
  (h:∀u s',Inv X bi Z H s'->RelV v u->Q u s'):f' 91 A (getAttr (-a) f b) Q E s:=by
 let(mA,O,r,__,__,__):=DU I.bC e;let(u,hu,ru):=nR.some_of<|l▸r f;show get_map I.lK O (c.get f) c.hd n hu (Jz ru)<|h u _ 44 ru
def Se(I:Inv X bi Z H s)(e:H a>.ins C dx fs)(c:Bw X.K C)(k:Meth X.K C m g)(l:fs.lookup m=none)
  (h:Q (-g,[-a]) s):f' 91 A (Uf (-a) m pl) Q E s:=by
 let(mA,O,r,__,__,__):=DU I.bC e;show YW I.lK O (c.get m) k.at_ k.fn (nR.none_of (by rw[<-l];show r m)) h
def QU(I:Inv X bi Z H s)(e:H a>.ins C dx fs)(c:Bw X.K C)(n:sN X.K C f)(hl:fs.length<1000)(ry:RelV y u)
  (h:∀s',Inv X bi Z (upd H a<|.ins C dx<|ff f y fs) s'->Q () s'):f' 91 A (setAttr (-a) f u) Q E s:=by
 let(mA,O,r,wi,__,ho):=DU I.bC e;show abe I.lK O c.sa c.po n.afz c.hd wi (by rw[af,bW];lia) λh' O' sb=>h _ ?_;show I.write (e▸True.intro) (.inr ho) (λb q hb z=>(sb.2 b hb).trans z) (let⟨o,_,_,e',_⟩:=O'.ns;⟨o,e'⟩) ?_;show{aI O.ne▸ho,?_,O.ne,O'.obj,_,O'.ns,λg=>?_,λg hg=>?_};·have:=ES f y fs;lia
 ·change nR ((ff f y fs).lookup g) (if g=f then some u else mA g);rw[EO];by_cases q:g=f;·rw[aN q,aN q];show ry
  rw[aL q,aL q];show r g
 by_cases q:g=f;·rw[q];show(Cv f y fs).1
 show(Cv f y fs).2 g (wi g λz=>hg ?_);change(if g=f then some u else mA g)=none;rw[aL q];show z
def Inv.made(I:Inv X bi Z H s):Inv X bi Z (upd (upd H 34<|.own<|34+1) (34+1)<|.ins C 34 [])
  (s\(s.heap.push emptyDict).push (instObj C 34)):=by
 have e1:(s.heap.push emptyDict).get? 34>emptyDict:=aH s.heap rfl;have e2:((s.heap.push emptyDict).push<|instObj C 34).get? (34+1)>instObj C 34:=by have:=aH (s.heap.push emptyDict) (o:=instObj C 34) rfl;rwa [dk]at this
 have I1:=I.laid (o:=.own<|34+1) (t':=21) (λb u q=>ao _ q) (aw _) ⟨_,e1⟩;show I1.laid (λb u q=>ao _ q) (nr<|dk _ _) ?_;have ne:34≠34+1:=aU<|eS _;show{by rw[aI ne,aF],aQ _,ne,e2,λ_=>none,(Em<|{emptyDict,#[],_,e1,9,(λe he=>absurd he 84),λ_=>9}).at λo q=>ao _ q,λ_=>True.intro,λy hy=>absurd rfl hy}
def Qy(hb:wT e f env (wf e env)=wf e env)
  (h:f' 85 A (wf e env) (λo aaa=>f' 85 A (getAttr o f true) Q E aaa) E s):f' 85 A (wf (.Attribute e f pos) env) Q E s:=
 Attribute_any_ h (by rw[arm_eval_Attribute,hb])
end
inductive afF(K:Frag)(f:i9)(Q:VK)(x:V)(H1:Hp):Prop
 |mk a C dx fs v (_:x=-a) (_:H1 a>.ins C dx fs) (_:Bw K C) (_:sN K C f) (_:fs.lookup f>v) (_:Q v H1)
def agw(K:Frag)(ta:TE)(f:i9):TE:=λZ H Q=>ta Z H λx H1=>afF K f Q x H1
inductive afO(K:Frag)(f:i9)(D:Ends)(Z:St)(y:V)(x:V)(H2:Hp):Prop
 |mk a C dx fs (_:x=-a) (_:H2 a>.ins C dx fs) (_:Bw K C) (_:sN K C f) (_:fs.length<1000) (_:D.nx Z (upd H2 a<|.ins C dx<|ff f y fs))
def agC(K:Frag)(ta tv:TE)(f:i9):TS:=λD Z H=>tv Z H λy H1=>ta Z H1 λx H2=>afO K f D Z y x H2
section
variable{X:Cx}{o e value:wv}{f:i9}{pos pos':Gc}{ta tv:TE}
def zD(he:PE X e ta)(hb:wT e f X.env (wf e X.env)=wf e X.env):PE X (.Attribute e f pos) (agw X.K ta f):=by ext bi s Z H Q I h;show Qy hb (dv 106 λu s1 x H1 I1 rx hz8=>?_);let(a,C,dx,fs,v,ex,ea,c,n,l,q):=hz8;subst ex;obtain rfl:u=Value.ref a:=rx;show Sf I1 ea c n l λu' s2 I2 ru=>⟨v,H1,I2,ru,q⟩
def LB(ha:PE X o ta)(hv:PE X value tv)(hs:Ev value (some<|.Attribute o f pos') pos.line X.env=pure false):PS X (.Assign [.Attribute o f pos'] value pos) (agC X.K ta tv f):=by ext bi s Z H D I h;show rR (dv (hv bi s Z H _ I h) λu s1 y H1 I1 ry q=>dv (ha bi s1 Z H1 _ I1 q) λov s2 x H2 I2 rx hz9=>?_) hs;let(a,C,dx,fs,ex,ea,c,n,l,q2):=hz9;subst ex;obtain rfl:ov=Value.ref a:=rx;show QU I2 ea c n l ry λs3 I3=>⟨Z,_,I3,q2⟩
end
section
variable{X:Cx}{bi:Aaa}{Z:St}{H:Hp}{s:f8}{A:ss}{E Q:Aac}{c:i5}{b:Bool}
inductive rj(K:Frag)(H:Hp):V->i5->Prop where
 |cU:rj K H .cU (.type "NoneType")
 |bl (x:Bool):rj K H (.bl x) (.type "bool")
 |int (i:Int):rj K H (.int i) (.type "int")
 |str (x:i9):rj K H (.str x) (.type "str")
 |lst {a:cr} {xs:Aam} (e:H a>.lst xs):rj K H (-a) (.type "list")
 |fF {a:cr} {o:J'} {xs:Aam} (e:H a>.fF o (.lst xs)):rj K H (-a) (.type "list")
 |tup {a:cr} {xs:Aam} (e:H a>.tup xs):rj K H (-a) (.type "tuple")
 |dK {a:cr} {kvs:List (Key×V)} (e:H a>.dK kvs):rj K H (-a) (.type "dict")
 |ins {a C dx:cr} {fs:List (i9×V)} (e:H a>.ins C dx fs) (cl:Bw K C) (ha:findIn K (-C) "__class__">some (.builtin "object.__class__"))
   (hn:PySem.W.specialIn K 145 "__get__">some (.builtin "getset_descriptor.__get__")) (htk:PySem.W.takesIn K 145>true)
   (hm:PySem.W.mroIn K C 70>true):rj K H (-a) (-C)
def U0{x:V}{u t:i5}(I:Inv X bi Z H s)(rx:RelV x u)(ty:rj X.K H x t):∃G:nw->Prop,PySem.W.KitX X.K u t G/\G s.heap/\u≠ .builtin "__main__.__loader__#opaque":=by
 cases ty with
 |cU=>cases(show u=Value.none from rx);show{_,PySem.W.kitx_none,True.intro,83}
 |bl y=>cases(show u=Value.bool y from rx);show{_,PySem.W.kitx_bool,True.intro,83}
 |int i=>let(t,q):=(show∃t,u=Value.int i t from rx);cases q;show{_,PySem.W.kitx_int,True.intro,83}
 |str y=>let(t,q):=(show∃t,u=Value.str y t from rx);cases q;show{_,PySem.W.kitx_str,True.intro,83}
 |@lst a xs ea=>
  cases(show u=Value.ref a from rx);let(__,__,n,__,h1):=(show cW 86 X.w H s.heap a (.lst xs)from I.bC a _ ea);show{_,Ef,⟨_,h1,rfl⟩,83}
 |@fF a ob xs ea=>
  cases(show u=Value.ref a from rx);let(__,__,__,n,__,h1):=(show cW 86 X.w H s.heap a (.fF ob<|.lst xs)from I.bC a _ ea);show{_,Ef,⟨_,h1,rfl⟩,83}
 |@tup a xs ea=>
  cases(show u=Value.ref a from rx);let(__,__,__,p,__):=(show cW 86 X.w H s.heap a (.tup xs)from I.bC a _ ea);let(o,h1,h2,__):=p;show{_,PySem.W.kitx_tuple,⟨o,h1,h2⟩,83}
 |@dK a kvs ea=>
  cases(show u=Value.ref a from rx);let(__,__,vs,__,p):=(show cW 86 X.w H s.heap a (.dK kvs)from I.bC a _ ea);let(o,es,ep,h1,h2,__):=p;show{_,PySem.W.kitx_dict,{o,h1,h2.1},83}
 |@ins a C dx fs ea cl ha hn htk hm=>
  cases(show u=Value.ref a from rx);let(mA,O,__):=DU I.bC ea;let(od,J,__):=O.look;show{_,PySem.W.kitx_own (cl.get _) cl.hd ha hn htk hm,J,83}
def U7(I:Inv X bi Z H s)(rx:RelV x u)(ty:rj X.K H x t)(e:kitOne X.K t c>b)(h:∀tk,Q (.bool b) {s with toks:=tk}):
  f' 91 A (Go 120 [u,c]) Q E s:=by
 let(G,k,g,n):=U0 I rx ty;show PySem.W.kia_one k I.lK g e n h
end
structure gx(k:Nat)(A:ss):Prop where
 hd:A.handled=none
 dp:A.depth+3*k+5<recursionLimit
 un:A.units+016*k+200<wE
 gd:A.guards>[]
def gx.mono(r:gx k A)(h:j<=k):gx j A:={r.hd,by have:=r.dp;lia,by have:=r.un;lia,r.gd}
def gx.deeper(r:gx (k+1) A)(env:V'):gx k (A.deeper env):=
 {r.hd,by have:=r.dp;change A.depth+1+3*k+5<_;lia,by have:=r.un;change A.units+3+016*k+200<_;lia,r.gd}
def RK{A:ss}:(A.under 184).depth=A.depth+1:=by
 first|rfl|simp[Around.under,Code.weight,Code.isCreation,Code.isGuard,Code.isCaller,Code.frames,Code.isFrame,guardIds]
def RJ{A:ss}:(A.under 184).units=A.units+1:=by
 first|rfl|simp[Around.under,Code.cUnits,Code.frames,Code.isFrame]
def gx.make(r:gx (k+1) A)(C:cr)(us:Aae)(kw:List (i9×i5)):gx k (A.under 184):=
 {r.hd,by have:=r.dp;rw[RK];lia,by have:=r.un;rw[RJ];lia,by first|show r.gd|(simp[Around.under,Code.guards,Code.isGuard,guardIds,pushGuards];show r.gd)}
def gx.depth(r:gx k A):A.depth<recursionLimit:=by have:=r.dp;lia
def gx.units(r:gx k A):A.units+64<wE:=by have:=r.un;lia
def gx.F7(r:gx k A):A.units<wE:=by have:=r.un;lia
def BO:TA:=λ_ H Q=>Q [] H
def qR(ta:TE)(tr:TA):TA:=λZ H Q=>ta Z H λx H1=>tr Z H1 λxs H2=>Q (x::xs) H2
section
variable{X:Cx}{e:wv}{es:List wv}{te:TE}{t:TA}{pos:Gc}
def hU:PA X [] BO:=λ_ _ _ _ H Q I h=>kJ {[],H,I,.nil,h}
def eX(ha:PE X e te)(hr:PA X es t)(hs:jp (e::es) X.env=(false,wf e X.env)::jp es X.env:=by rfl):PA X (e::es) (qR te t):=by ext pos bi s Z H Q I h;rw[hs];show f9 (dv 131 λu s1 x H1 I1 r1 q1=>qV (hr pos bi s1 Z H1 _ I1 q1) λus s2 xs H2 I2 r2 q2=>{x::xs,H2,I2,.cons r1 r2,q2})
def bS{X:Cx}{e:wv}{te:TE}(ha:PE X e te)(hs:jp [e] X.env=(false,wf e X.env)::jp [] X.env:=by rfl):PA X [e] (qR te BO):=eX ha hU hs
def b6{X:Cx}{e f:wv}{te tf:TE}(ha:PE X e te)(hb:PE X f tf)(hs:jp [e,f] X.env=(false,wf e X.env)::jp [f] X.env:=by rfl)(ht:jp [f] X.env=(false,wf f X.env)::jp [] X.env:=by rfl):PA X [e,f] (qR te<|qR tf BO):=eX ha (bS hb ht) hs
def kj{X:Cx}{e f g:wv}{te tf tg:TE}(ha:PE X e te)(hb:PE X f tf)(hc:PE X g tg)(hs:jp [e,f,g] X.env=(false,wf e X.env)::jp [f,g] X.env:=by rfl)(ht:jp [f,g] X.env=(false,wf f X.env)::jp [g] X.env:=by rfl)(hu:jp [g] X.env=(false,wf g X.env)::jp [] X.env:=by rfl):PA X [e,f,g] (qR te<|qR tf<|qR tg BO):=eX ha (b6 hb hc ht hu) hs
def Xn(t:TA):TE:=λZ H Q=>t Z H λxs H1=>42<=dL/\∀p,H1 p=none->Q (-p) (upd H1 p<|.tup xs)
def ada(t:TA):TE:=λZ H Q=>t Z H λxs H1=>42<=dL/\∀p,H1 p=none->Q (-p) (upd H1 p<|.lst xs)
def dS{x1}(h:PA X es t):PE X (.Tuple es x1 pos) (Xn t):=by ext bi s Z H Q I hq;show wpAny_Tuple_spliced (qV (h pos bi s Z H _ I hq) λus s1 xs H1 I1 r ⟨z,q⟩=>{r.length▸z,?_});show{.ref 22,upd H1 22<|.tup xs,I1.laid (λb u e=>ao _ e) (aw _) ?_,9,q _ 16};show{z,us,r,{_,27,9,_,9},_,27,9}
def c8(h:PA X es t):PE X (.List es pos) (ada t):=by ext bi s Z H Q I hq;show wpAny_List_spliced (qV (h pos bi s Z H _ I hq) λus s1 xs H1 I1 r ⟨z,q⟩=>{r.length▸z,?_});show{.ref 22,upd H1 22<|.lst xs,I1.laid (λb u e=>ao _ e) (aw _) ?_,9,q _ 16};show{z,us,0,r,27}
abbrev Sp:=Aam->Hp->VK->XK->Prop
abbrev Fo:=List V'->Hp->f8->XK->Aac
structure Iq(P:io)(w:i6)(K:Frag)(mg:Aab)(base:nw)(A:ss)(outer:List V')(s:f8)(H:Hp):Prop where
 frames:A.frames>outer
 mod:Mod K mg base
 bs:∀b o,base.get? b>o->s.heap.get? b>o/\H b=none
 yp:base.objs.size<=34
 rf:s.heap.FunFrames base outer
 E6:∀b∈qH outer,H b=none
 bC:ka P w H s.heap
 bare:KM s.gens
def CE(outer:List V')(P:io)(w:i6)(H:Hp)(s:f8)(Q:VK)(u:i5)(s':f8):Prop:=
 ∃v H',s'.os=s.os/\KM s'.gens/\Un (qH outer) [] H H' s.heap s'.heap/\ka P w H' s'.heap/\RelV v u/\Q v H'
end
def CR(CX:Fo)(outer:List V')(P:io)(w:i6)(H:Hp)(s:f8)(Q:VK)(E:XK)(r:UF)(s':f8):Prop:=
 match r with
 | .ok (.ret u)=>CE outer P w H s Q u s'
 | .ok _=>False
 | .error e=>CX outer H s E e s'
structure cN(P:io)(w:i6)(K:Frag)(mg:Aab)(base:nw)(CX:Fo)(k:Nat)(f:cr)(fd:re)(ps:Aaf)(sp:Sp):Prop where
 len:∀vs H Q E,sp vs H Q E->vs.length=ps.length
 run:∀(A:ss)(outer:List V')(s:f8)(H:Hp)(args:Args)(us:Aae)(vs:Aam)(Q:VK)(E:XK),gx k A->Iq P w K mg base A outer s H->TD s fd args (ps.zip us)->Vals vs us->sp vs H Q E->
  C' 97 A (.call (-f) args) (CR CX outer P w H s Q E) s
def Iq.make{K:Frag}(e:Iq P w K mg base A outer s H)(C:cr)(us:Aae)(kw:List (i9×i5)):
  Iq P w K mg base (A.under 184) outer s H:={by first|show e.frames|(simpa[Around.under,Code.envs,Code.isFrame,pushEnvs]using e.frames),e.mod,e.bs,e.yp,e.rf,e.E6,e.bC,e.bare}
section
variable{X:Cx}{bi:Aaa}{Z:St}{H:Hp}{s s':f8}
def Inv.env0(I:Inv X bi Z H s):Iq 86 X.w X.K X.mg X.base X.A 37 s H:=
 {I.ok.frames,I.ok.mod,I.bs,aR I.ok.yp I.sz,I.stack,I.DM,I.bC,I.bare}
def Inv.after(I:Inv X bi Z H s)(h:CE 37 86 X.w H s Q u s'):EP X bi Z Q u s':=by let(v,H',os,bare,un,bC,r,q):=h;let(hh,g,d,t,os'):=s';obtain rfl:os'=s.os:=os;show{v,H',I.call un bC bare (λb z=>absurd z 84),r,q}
end
def QN(sp:Sp)(oO:Aam)(E:XK)(t:TA):TE:=λZ H Q=>t Z H λvs H1=>sp (vs++oO) H1 Q E
inductive ac9(C:cr)(m:i9)(sp:Sp)(oO:Aam)(E:XK)(t:TA)(Z:St)(Q:VK)(x:V)(H1:Hp):Prop
 |mk a dx fs (_:x=-a) (_:H1 a>.ins C dx fs) (_:fs.lookup m=none) (_:t Z H1 λvs H2=>sp (x::(vs++oO)) H2 Q E)
def ZW(C:cr)(m:i9)(sp:Sp)(oO:Aam)(E:XK)(ta:TE)(t:TA):TE:=λZ H Q=>ta Z H λx H1=>ac9 C m sp oO E t Z Q x H1
def ZX(C:cr)(sp:Sp)(oO:Aam)(E:XK)(t:TA):TE:=λZ H Q=>t Z H λvs H1=>∀x dx,H1 x=none->H1 dx=none->dx≠x->
 sp (.ref x::(vs++oO)) (upd (upd H1 dx<|.own x) x<|.ins C dx []) (λv H2=>v=.cU/\Q (-x) H2) E
def Binds(K:Frag)(fd:re)(ps:Aaf)(ds:Aae):Prop:=
 ∀(s:f8)(us:Aae),K.In s.heap->(us++ds).length=ps.length->TD s fd {us,[]} (ps.zip<|us++ds)
def Binds.all{K:Frag}(h:∀us:Aae,us.length=ps.length->SL fd {us,[]}=pure (ps.zip us)):Binds K fd ps []:=λs us _ hl=>by rw[eO]at hl⊢;show .of_eq<|h us hl
def Passes(CX:Fo)(X:Cx)(E:XK):Prop:=∀(bi:Aaa)(Z:St)(H:Hp)(s:f8)(e:i5)(s':f8),Inv X bi Z H s->CX 37 H s E e s'->X.xe e s'
section
variable{X:Cx}{CX:Fo}{k:Nat}{f C:cr}{fd:re}{ps:Aaf}{sp:Sp}{oO:Aam}{ds:Aae}{E:XK}{x m:i9}{p pos Fa:Gc}{e o:wv}{es:List wv}{ta:TE}{t:TA}
def TY(F:cN 86 X.w X.K X.mg X.base CX k f fd ps sp)(hr:gx k X.A)(hb:Binds X.K fd ps ds)(hd:Vals oO ds)(hx:Passes CX X E)
  (I:Inv X bi Z H s) (r:Vals vs us) (h:sp (vs++oO) H Q E):f' 91 X.A (Go (-f) us) 54 X.xe s:=by
 have r2:=r.append hd;show mh (jv (F.run X.A 37 s H {us,[]} (us++ds) (vs++oO) Q E hr I.env0 (hb s us I.lK (by rw[<-r2.length];show F.len _ _ _ _ h)) r2 h) λr s' hq=>?_);cases r with
 |error e=>show hx bi Z H s e s' I hq
 |ok fl=>
  cases fl with
  |ret u=>show I.after hq
  |next=>show False.elim hq
  |brk=>show False.elim hq
  |cont=>show False.elim hq
def abo{bi:Aaa}{Z:St}{H:Hp}{s:f8}{Q:VK}{us:Aae}{vs:Aam}(F:cN 86 X.w X.K X.mg X.base CX k f fd ps sp)(hr:gx k X.A)(hb:Binds X.K fd ps ds)(hd:Vals oO ds)(hx:∀e s',CX 37 H s E e s'->X.xe e s')
  (I:Inv X bi Z H s) (r:Vals vs us) (h:sp (vs++oO) H Q E):f' 91 X.A (Go (-f) us) 54 X.xe s:=by
 have r2:Vals (vs++oO) (us++ds):=r.append hd;have hl:(us++ds).length=ps.length:=by rw[<-r2.length];show F.len _ _ _ _ h
 show mh (jv (F.run X.A 37 s H {us,[]} (us++ds) (vs++oO) Q E hr I.env0 (hb s us I.lK hl) r2 h) λr s' hq=>?_);cases r with
 |error e=>show hx e s' hq
 |ok fl=>
  cases fl with
  |ret u=>show I.after hq
  |next=>show False.elim hq
  |brk=>show False.elim hq
  |cont=>show False.elim hq
def Pj(F:cN 86 X.w X.K X.mg X.base CX k f fd ps sp)(hr:gx k X.A)(hg:Gl X x)(hm:X.mg x>-f)(hk:keepIn X.K (-f)=true)(hb:Binds X.K fd ps ds)(hd:Vals oO ds)(hx:Passes CX X E)
  (ha:PA X (e::es) t) (su:35=false:=by decide) (he:jp (e::es) X.env=(false,wf e X.env)::jp es X.env:=by rfl) (iu:(Da pos 73).any (·.1)=false:=by rfl):
  PE X 116 (QN sp oO E t):=by
 ext bi s Z H Q I h;show jZ<|wu I hg hm ?_ su;show pJ I.ok.mod.Jq hk (qV 15 λus s1 vs H1 I1 r q=>{I1.lK,TY F hr hb hd hx I1 r q}) he iu
def abF(he:PE X o ta)(c:Bw X.K C)(hm:Meth X.K C m f)(F:cN 86 X.w X.K X.mg X.base CX k f fd ps sp)(hr:gx k X.A)(hb:Binds X.K fd ps ds)(hd:Vals oO ds)(hx:Passes CX X E)(ha:PA X (e::es) t)
  (qG:jp (e::es) X.env=(false,wf e X.env)::jp es X.env:=by rfl) (iu:(Da pos 73).any (·.1)=false:=by rfl)
  (ht:wf 185 X.env=(do
   let ov<-wf o X.env
   standAt Fa.atName
   let(f,first)<-KE [ov] (Uf ov m pl)
   callWith pos f first (Da pos<|jp (e::es) X.env) (Pi pos<|G' [] X.env)):=by rfl):
  PE X 185 (ZW C m sp oO E ta t):=by
 ext bi s Z H Q I h;show zZ (dv 106 λu s1 x H1 I1 rx ahx=>?_) ht;let(a,dx,fs,ex,ea,l,q):=ahx;subst ex;obtain rfl:u=Value.ref a:=rx;show Se I1 ea c hm l ?_;show pJ I.ok.mod.Jq hm.kp (qV (ha pos bi s1 Z H1 _ I1 q) λus s2 vs H2 I2 r q2=>{I2.lK,?_}) qG iu;show TY (vs:=.ref a::vs) F hr hb hd hx I2 (.cons 9 r) q2
structure Mk(K:Frag)(C f:cr):Prop where
 makes:PySem.W.makesIn K C=true
 init:findIn K (-C) "__init__">some (-f)
 fn:isFn K (-f)=true
 kp:keepIn K (-C)=true
def XH(M:Mk X.K C f)(F:cN 86 X.w X.K X.mg X.base CX k f fd ps sp)(hr:gx (k+1) X.A)(hb:Binds X.K fd ps ds)(hd:Vals oO ds)
  (hx:Passes CX X E) (I:Inv X bi Z H s) (r:Vals vs us)
  (h:∀x dx,H x=none->H dx=none->dx≠x->sp (.ref x::(vs++oO)) (upd (upd H dx<|.own x) x<|.ins C dx []) (λv H2=>v=.cU/\Q (-x) H2) E):
  f' 91 X.A (Go (-C) us) 54 X.xe s:=by
 have hq:=h (34+1) 34 (I.bC.fresh<|fY _) 69<|aU<|eS _;have I2:=Inv.made (C:=C) I;have r2:Vals (V.ref (34+1)::(vs++oO)) (Value.ref (34+1)::(us++ds)):=.cons rfl (r.append hd);have hl:(Value.ref (34+1)::us++ds).length=ps.length:=by have e:=r2.length;rw[F.len _ _ _ _ hq]at e;show e.symm
 show mh<|Yp I.lK M.makes M.init (jx.mp M.fn) (jv (F.run _ 37 _ _ {Value.ref (34+1)::us,[]} (Value.ref (34+1)::(us++ds)) _ _ E (hr.make C us [])
  (I2.env0.make C us []) (hb _ (Value.ref (34+1)::us) I2.lK hl) r2 hq) λr s' vJ=>?_)
 cases r with
 |error e=>show hx bi Z _ _ e s' I2 vJ
 |ok fl=>
  cases fl with
  |ret u=>
   let(v,H',I3,rv,ev,q3):=I2.after vJ;subst ev;show{rv,{V.ref<|34+1,H',I3,9,q3}}
  |next=>show False.elim vJ
  |brk=>show False.elim vJ
  |cont=>show False.elim vJ
def abG(M:Mk X.K C f)(F:cN 86 X.w X.K X.mg X.base CX k f fd ps sp)(hr:gx (k+1) X.A)(hg:Gl X x)(hm:X.mg x>-C)(hb:Binds X.K fd ps ds)(hd:Vals oO ds)(hx:Passes CX X E)
  (ha:PA X (e::es) t) (su:35=false:=by decide) (he:jp (e::es) X.env=(false,wf e X.env)::jp es X.env:=by rfl) (iu:(Da pos 73).any (·.1)=false:=by rfl):
  PE X 116 (ZX C sp oO E t):=by
 ext bi s Z H Q I h;show jZ<|wu I hg hm ?_ su;show pJ I.ok.mod.Jq M.kp (qV 15 λus s1 vs H1 I1 r q=>{I1.lK,XH M F hr hb hd hx I1 r q}) he iu
variable{ks:Aaf}
structure aiq(K:Frag)(fd:re)(ps ks:Aaf)(g:Aae->Aae->Aae)(gV:Aam->Aam->Aam):Prop where
 to:∀(s:f8)(us ws:Aae),K.In s.heap->(g us ws).length=ps.length->TD s fd {us,ks.zip ws} (ps.zip<|g us ws)
 rel:∀{vs:Aam}{us:Aae}{zs:Aam}{ws:Aae},Vals vs us->Vals zs ws->Vals (gV vs zs) (g us ws)
end
structure b7(N P:Aaf)(sc:AC):Prop where
 kind:sc.kind=.function
 co:sc.isCoroutine=false
 gen:sc.isGenerator=false
 nd:N.Nodup
 pre:N.take P.length=P
 par:∀x∈P,sc.names.lookup x>.local\/sc.names.lookup x>.cell
 ad2:∀y∈sc.names,y.2≠ .free
def iM{N P:Aaf}{sc:AC}(h:sc.kind=.function/\sc.isCoroutine=false/\sc.isGenerator=false/\N.Nodup/\N.take P.length=P/\(∀x∈P,sc.names.lookup x>.local\/sc.names.lookup x>.cell)/\∀y∈sc.names,y.2≠ .free):b7 N P sc:={h.1,h.2.1,h.2.2.1,h.2.2.2.1,h.2.2.2.2.1,h.2.2.2.2.2.1,h.2.2.2.2.2.2}
def gL{X:Cx}{x:i9}{pos:Gc}{ps:Aaf}{sc:AC}(i:Nat)(S:b7 X.N ps sc)(hi:X.N[i]?>x:=by rfl)(hx:X.env.scope.names.lookup x>.local:=by rfl):PG X 46 (sD i):=om S.nd hi (Or.inl hx)<|Or.inr hx
def dW{X:Cx}{x:i9}{pos pos':Gc}{e:wv}{te:TE}{ps:Aaf}{sc:AC}(i:Nat)(S:b7 X.N ps sc)(he:PE X e te)(hi:X.N[i]?>x:=by rfl)(hx:X.env.scope.names.lookup x>.local:=by rfl)(hs:Ev e (some<|.Name x pos') pos.line X.env=pure false:=by rfl):PS X (.Assign [.Name x pos'] e pos) (QO te<|sD i):=nZ S.nd hi (Or.inl hx) he hs<|Or.inr hx
theorem JO{kindOf:i9->Option Ch}:∀{binds:List (i9×i5)}{m:Aab},(∀v,(x,v)∉binds)->bindL kindOf binds m x=m x
 |[],_,_=>rfl
 |(n,v)::r,m,h=>by
  unfold bindL;rw[JO λw hw=>h w<|az _ hw];split
  ·have:x≠n:=by ext rfl;show h v ay
   simp[this]
  rfl
theorem JQ{kindOf:i9->Option Ch}:∀{binds:List (i9×i5)}{m:Aab},(∀v,(x,v)∉binds)->bindC kindOf binds m x=m x
 |[],_,_=>rfl
 |(n,v)::r,m,h=>by
  unfold bindC;rw[JQ λw hw=>h w<|az _ hw];split;·rfl
  have:x≠n:=by ext rfl;show h v ay
  simp[this]
theorem JP{kindOf:i9->Option Ch}:∀{P:Aaf}{vs:Aae}{i:Nat}{m:Aab},P.Nodup->P[i]?>x->vs[i]?>v->kindOf x>.local->
  bindL kindOf (P.zip vs) m x>v
 |[],_,_,_,_,h,_,_=>by simp at h
 |_::_,[],_,_,_,_,h,_=>by simp at h
 |p::P,w::vs,0,m,nd,h1,h2,hk=>by simp at h1 h2;subst h1;subst h2;change bindL kindOf ((p,w)::P.zip vs) m p=_;unfold bindL;rw[JO λv hv=>(df.mp nd).1 (sT hv).1,aN hk];simp
 |p::P,w::vs,i+1,m,nd,h1,h2,hk=>by unfold bindL;show JP (df.mp nd).2 (↑h1) (↑h2) hk
theorem JR{kindOf:i9->Option Ch}:∀{P:Aaf}{vs:Aae}{i:Nat}{m:Aab},P.Nodup->P[i]?>x->vs[i]?>v->kindOf x≠some .local->
  bindC kindOf (P.zip vs) m x>v
 |[],_,_,_,_,h,_,_=>by simp at h
 |_::_,[],_,_,_,_,h,_=>by simp at h
 |p::P,w::vs,0,m,nd,h1,h2,hk=>by simp at h1 h2;subst h1;subst h2;change bindC kindOf ((p,w)::P.zip vs) m p=_;unfold bindC;rw[JQ λv hv=>(df.mp nd).1 (sT hv).1,aL hk];simp
 |p::P,w::vs,i+1,m,nd,h1,h2,hk=>by unfold bindC;show JR (df.mp nd).2 (↑h1) (↑h2) hk
def start(N:Aaf)(vs:Aam):St:=vs.map some++List.replicate (N.length -vs.length) none
noncomputable def FU(CX:Fo)(P:io)(w:i6)(K:Frag)(mg:Aab)(base:nw)(N:Aaf)(Do:i9)(scope:AC)(f:cr)(cd:i5)(A:ss)(outer:List V')(s:f8)(H:Hp)(E:XK):Cx where
 prog:=P
 w:=w
 K:=K
 mg:=mg
 base:=base
 A:=A.deeper<|Os Do scope 34 f cd
 N:=N
 aab:=s
 aae:=H
 env:=Os Do scope 34 f cd
 outer:=outer
 stack:=Os Do scope 34 f cd::outer
 ex:=[]
 calm:=true
 fn:=λ_=>true
 pn:=[]
 xe:=λe s'=>f' 97 (A.deeper<|Os Do scope 34 f cd) (leaving (Os Do scope 34 f cd) e) (λ_ s''=>CX outer H s E e s'') (λe' s''=>CX outer H s E e' s'') s'
def NF{sc:AC}(h:sc.names.lookup x>.cell):∃c,(cellsFrom n sc.names []).lookup x>c:=by show lD.mp<|yQ sc.names n []<|.inl h
def U9{K:Frag}
  (S:b7 N ps scope) (hd:A.handled=none) (e0:Iq P w K mg base A outer s H) (hl:vs.length=ps.length) (r:Vals vs us)
  (x:InCallC s 34 (bindL (Os Do scope 34 f cd).kindOf (ps.zip us) λ_=>none) (cellsFrom (34+1) scope.names []) (bindC (Os Do scope 34 f cd).kindOf (ps.zip us) λ_=>none) s1):
  Inv (FU CX P w K mg base N Do scope f cd A outer s H E) [] (start N vs) H s1:=by
 have iu:ps.length<=N.length:=by have:=dX List.length S.pre;rw[bo]at this;lia
 let(h1,tk,rfl,hk):=x.done;have UC:∀b:cr,b∉(FU CX P w K mg base N Do scope f cd A outer s H E).ex:=λb z=>absurd (show b∈([]:Aah)from z) 84;show{{e0.mod,S.kind,9,9,aw _,λy z c h1 h2=>?_,λy hy=>?_,λy c _ h=>?_,λ_=>hd,Around.frames_deeper e0.frames,.inr ⟨rfl,rfl⟩,λb z=>absurd z<|UC b,e0.bs,e0.yp,λb _ _=>UC b,λb z=>absurd z<|UC b,e0.rf,e0.E6},
  rfl,e0.bare,Un.kept hk,{_,x.toInCall.ns,λi y v h1 h2 h3=>?_},λy c h=>{_,x.cell y c h},e0.bC.fresh<|aw _,λy c h=>?_,λp hp=>absurd (show p∈([]:Aaa)from hp) 84,e0.bC.kept hk,?_}
 ·show name_of_addr x.apart (lH h1)<|lH h2
 ·have hy:=hy;rcases hy with hy|hy;·show NF hy
  show absurd rfl (S.ad2 _<|lH hy)
 ·show cy<|x.above y c<|lH h
 ·have hi:i<vs.length:=by
   unfold start at h2;by_cases hi:i<vs.length;·show hi
   rw[iL<|↑hi]at h2;rw[xJ]at h2;split at h2<;>cases h2
  have ha:vs[i]?>v:=by
   unfold start at h2;rw[kQ<|↑hi,aW]at h2;cases e:vs[i]? with
   |none=>rw[e]at h2;cases h2
   |some a=>rw[e]at h2;cases h2;rfl
  let(u,hu,rv):=r.get ha;have hp:ps[i]?>y:=by rw[<-S.pre,xu ∅];show h1
  have ndP:ps.Nodup:=by rw[<-S.pre];show S.nd.sublist<|qu _ _
  show{u,rv,?_};rcases S.par y (aB hp)with k|k;·show .inl {k,JP ndP hp hu k}
  let(c,e):=NF k;show .inr {.inl k,c,e,?_};have q:=x.cell y c e;rw[JR ndP hp hu (by change scope.names.lookup y≠_;rw[k];decide)]at q;show q
 ·show e0.bC.fresh<|cy<|x.above y c<|lH h
 unfold start;change _=N.length;rw[aG,af,eZ];lia
def aaz{K:Frag}{dV kV doc pm dC ct oc:i5}
     (lk:K.lookup f>{oc,od,.func<|fnOf name Do params body scope dV kV doc pm an dC ct,GB}) (zO:codeIn K dC Do=true) (S:b7 N ps scope)
  (len:∀vs H Q E,sp vs H Q E->vs.length=ps.length)
  (R8:∀(A:ss)(outer:List V')(s:f8)(H:Hp)(vs:Aam)(Q:VK)(E:XK),gx k (A.deeper<|Os Do scope 34 f dC)->sp vs H Q E->
   ∃t,mP (FU CX P w K mg base N Do scope f dC A outer s H E) body t/\t {nx:=λ_ H'=>Q .cU H',rt:=Q} (start N vs) H):
  cN P w K mg base CX (k+1) f (fnOf name Do params body scope dV kV doc pm an dC ct) ps sp:=by
 show{len,λA outer s H args us vs Q E hr e0 hb r EX=>?_};have hl:=len _ _ _ _ EX;have KX:=e0.mod.Jq.keeps λb o e=>(e0.bs b o e).1;have agd:∀y∈ps.zip us,scope.names.lookup y.1>.local\/(scope.names.lookup y.1>.cell/\((cellsFrom (34+1) scope.names []).lookup y.1).isSome=true):=λ⟨n,v⟩ hy=>by
  rcases S.par n (sT hy).1 with q|q;·show .inl q
  show .inr {q,yQ _ _ _<|.inl q}
 show codeAny_call_function hr.depth (KX _ _ lk) rfl S.co S.gen rfl (PySem.W.codeRec_of KX zO) (hb _ _ _ _ ?_);show wpAny_newFunctionEnv_cells S.kind agd λenv he s1 x=>?_;subst he;show{(e0.mod.nolimit.keeps λb o e=>(e0.bs b o e).1).keeps x.toInCall.keep,codeAny_func ?_};let(t,ht,hq):=R8 A outer s H vs Q E (hr.deeper _) EX;show dy (ht [] s1 (start N vs) H _ (U9 S hr.hd e0 hl r x) hq) (λfl s' hs=>?_) λe s' hs=>hs;have fin:∀{σ':St}{H':Hp}{v:V}{u:i5},Inv (FU CX P w K mg base N Do scope f dC A outer s H E) [] σ' H' s'->RelV v u->Q v H'->CE outer P w H s Q u s':=
  λ{σ' H' v u} J rv q=>{v,H',J.os,J.bare,J.base,J.bC,rv,q}
 cases fl with
 |ret u=>
  obtain⟨v,σ',H',J,rv,q⟩:=hs;show fin J rv q
 |next=>
  obtain⟨σ',H',J,q⟩:=hs;show fin (v:=V.cU) J rfl q
 |brk=>
  let(__,__,__,q):=hs;show False.elim q
 |cont=>
  let(__,__,__,q):=hs;show False.elim q
section
variable{X:Cx}{x:i9}{p pos:Gc}{e:wv}{es:List wv}{t:TA}{id T:String}{r:Aam->Hp->VK->Prop}
def tCB(r:Aam->Hp->VK->Prop)(t:TA):TE:=λZ H Q=>t Z H λvs H1=>r vs H1 Q
def bu(hc:fD X (.builtin id) r)(hg:Gl X x)(hm:X.mg x=none)(hv:FM x>.builtin id)(ha:PA X (e::es) t)(hn:x≠"__name__":=by decide)(su:35=false:=by decide)
  (he:jp (e::es) X.env=(false,wf e X.env)::jp es X.env:=by rfl) (iu:(Da pos 73).any (·.1)=false:=by rfl):PE X 116 (tCB r t):=by
 ext bi s Z H Q I h;show jZ<|sk I hg hm hv (PyProof.Rows.callWith_builtin1 (qV 15 λus s1 vs H1 I1 r1 q1=>hc bi s1 Z H1 vs us Q I1 r1 q1) he iu) hn su
def dH(hc:fD X (.type T) r)(hg:Gl X x)(hm:X.mg x=none)(hv:FM x>.type T)(ha:PA X (e::es) t)(hn:x≠"__name__":=by decide)(su:35=false:=by decide)
  (he:jp (e::es) X.env=(false,wf e X.env)::jp es X.env:=by rfl) (iu:(Da pos 73).any (·.1)=false:=by rfl):PE X 116 (tCB r t):=by
 ext bi s Z H Q I h;show jZ<|sk I hg hm hv (eY (qV 15 λus s1 vs H1 I1 r1 q1=>hc bi s1 Z H1 vs us Q I1 r1 q1) he iu) hn su
end
end L2
namespace HT
open PySem PyProof.Rows
section
open PySem.SeqAt
open PySem.AutoSeq1 (wpAny_loadPart')
open PySem.MeetsSeq PySem.MeetsSeq2 PySem.MeetsSeq3
end
section
variable{prog:io}{w:i6}{A:ss}{E:Aac}{s:f8}
def eW(n d:Nat):Option Int->Nat
 |none=>d
 |some v=>if v<0 then(v+(n:Int)).toNat else min v.toNat n
def Fz(n d:Nat):eW n d none=d:=9
def zp(n d k:Nat):eW n d (some (k:Int))=min k n:=by change(if(k:Int)<0 then((k:Int)+(n:Int)).toNat else min (k:Int).toNat n)=min k n;rw[aL ∅,dU]
def Qs(v:Int)(n d:Nat):(if v<0 then max (v+(n:Int)) 0 else min v (n:Int))=((eW n d (some v):Nat):Int):=by
 change(if v<0 then max (v+(n:Int)) 0 else min v (n:Int))=(((if v<0 then(v+(n:Int)).toNat else min v.toNat n):Nat):Int);by_cases hv:v<0;·simp only[aN hv];lia
 simp only[aL hv];lia
def Sz(lo hi:Option Int)(n:Nat):Builtin.Slice.sliceAdjust lo hi 1 (n:Int)=(((eW n 0 lo:Nat):Int),((eW n n hi:Nat):Int)):=by
 have h1:¬((1:Int)<0):=by lia
 unfold Builtin.Slice.sliceAdjust;show AV ?_ ?_
 ·cases lo with
  |none=>rfl
  |some v=>show Qs v n 0
 cases hi with
 |none=>rfl
 |some v=>show Qs v n n
def Q7(i j:Nat):Builtin.Slice.slicePlaces (i:Int) (j:Int) 1=j -i:=by
 unfold Builtin.Slice.slicePlaces;have h1:(1:Int)⊃0:=by lia
 split<;>lia
def Gm{v:i5}{o:Option Int}{Q:Option Int->f8->Prop}(p:Ps v o)(h:Q o s):f' 85 A (Builtin.Slice.slicePartIndex v) Q E s:=by
 cases p with
 |none=>show slicePart_none h
 |int i t=>show slicePart_int h
def wC{sl:cr}{vl vu:i5}{lo hi:Option Int}{n:Nat}{Q:Int×Int×Nat->f8->Prop}(hs:s.heap.IsSliceOf sl vl vu .none)(pl:Ps vl lo)(pu:Ps vu hi)
  (h:Q (((eW n 0 lo:Nat):Int),1,eW n n hi -eW n 0 lo) s):f' 85 A (Builtin.Slice.sliceApplied (-sl)<|pure (n:Int)) Q E s:=by
 let(os,MQ,hcs,VG):=id hs;show ae<|ae<|cR MQ VG 9<|ae<|cR MQ VG 9<|ae<|cR MQ VG 9 92;show ae<|slicePart_none ?_;show ae<|Gm pl<|ae<|Gm pu<|ae 92;change f' _ _ (match Builtin.Slice.sliceAdjust lo hi 1 (n:Int)with|(lo,hi)=>pure (lo,(1:Int),Builtin.Slice.slicePlaces lo hi 1)) _ _ s;rw[Sz lo hi n];change f' _ _ (pure (((eW n 0 lo:Nat):Int),(1:Int),Builtin.Slice.slicePlaces ((eW n 0 lo:Nat):Int) ((eW n n hi:Nat):Int) 1)) _ _ s;rw[Q7];show ah h
def XU(xs:Aaj)(i k:Nat):((List.range k).filterMap λ(m:Nat)=>xs[((i:Int)+(m:Int)*1).toNat]?).toArray=((xs.toList.drop i).take k).toArray:=by
 have e:(λ(m:Nat)=>xs[((i:Int)+(m:Int)*1).toNat]?)=λm=>xs[i+m]?:=by
  funext m;have:((i:Int)+(m:Int)*1).toNat=i+m:=by lia
  rw[this]
 rw[e];have:=pick_run xs i k;rw[u4]at this;have e2:((λx=>xs[x]?)∘λx=>i+x)=λm=>xs[i+m]?:=9;rw[e2]at this;rw[this]
def Ea{t sl:cr}{items:Aaj}{vl vu:i5}{lo hi:Option Int}{Q:Aac}(ht:IsTup s.heap t items)(hs:s.heap.IsSliceOf sl vl vu .none)(pl:Ps vl lo)(pu:Ps vu hi)
  (hw:¬(eW items.size 0 lo=0/\eW items.size items.size hi=items.size))
  (h:Q (.ref 34) (s\s.heap.push {cls:=.type "tuple",data:=.seq ((items.toList.drop<|eW items.size 0 lo).take 204).toArray}))
  (hsz:items.size<=dL):f' 85 A (getItem (-t) (-sl)) Q E s:=by
 have Kn:sizeOk (.seq ((items.toList.drop<|eW items.size 0 lo).take 204).toArray):=by change((items.toList.drop<|eW items.size 0 lo).take 204).toArray.size<=dL;rw[aT,bo,fG,aZ];lia
 let(os,MQ,hcs,VG):=id hs;unfold getItem
 try with_reducible show bP ?_
 first|show ae (ah ?_)|skip
 show ae<|D7 ht.typeIs 7 ?_;show ae (pc ht.typeIs fk
  (bN fk ht.typeIs Bz ?_ (C5 _ _)))
 change f' _ _ (Builtin.Tuple.tupleItemsOf (-t)>>=_) _ _ s;show ae<|tupleItemsOf_ ht ?_;show ae<|gX (⟨os,MQ,hcs⟩) ?_;show ae<|wC hs pl pu ?_;have zN:¬(175=true):=by ext q;rw[bT,bT]at q;have q1:=d8 q.1.1;have q2:=d8 q.2;show hw {8,8}
 change f' _ _ (if 175=true then _ else _) _ _ s;rw[aL zN,XU]
 first
  |show ae<|cK (ah ⟨_,rfl,ah h⟩) Kn
  |show ae<|cK (ae<|ah<|ah ⟨_,rfl,ah h⟩) Kn
  |show ae<|ae<|cK (ah<|ah ⟨_,rfl,ah h⟩) Kn
  |show ae<|ae<|cK (ah ⟨_,rfl,ah h⟩) Kn
end
end HT
namespace L2
open PySem PySem.Spec PyProof.Rows
abbrev TO:=St->Hp->(Option Int->Hp->Prop)->Prop
def PO(X:Cx)(e:Option wv)(t:TO):Prop:=
 ∀(bi:Aaa)(s:f8)(Z:St)(H:Hp)(Q:Option Int->Hp->Prop),Inv X bi Z H s->t Z H Q->
  f' 91 X.A (evalPart e X.env) (λu s'=>∃o H',Inv X bi Z H' s'/\Ps u o/\Q o H') X.xe s
def OM:TO:=λ_ H Q=>Q none H
inductive ac6(Q:Option Int->Hp->Prop)(x:V)(H1:Hp):Prop
 |mk i (_:x=.int i) (_:Q (some i) H1)
def afC(t:TE):TO:=λZ H Q=>t Z H λx H1=>ac6 Q x H1
section
variable{X:Cx}{e:wv}{te:TE}{lo hi:Option wv}{tl th:TO}{pos p2:Gc}
def ub:PO X none OM:=by ext bi s Z H Q I h;show ah {none,H,I,.none,h}
def pV(h:PE X e te):PO X (some e) (afC te):=by ext bi s Z H Q I hw;show dv (h bi s Z H _ I hw) λu s1 x H1 I1 r1 q1=>?_;let(i,rfl,q):=q1;let(t,rfl):=r1;show{some i,H1,I1,.int i t,q}
def WN(X:Cx)(r:V->Option Int->Option Int->Hp->VK->Prop):Prop:=
 ∀(bi:Aaa)(s:f8)(Z:St)(H:Hp)(x:V)(v vl vu:i5)(lo hi:Option Int)(sl:cr)(Q:VK),Inv X bi Z H s->RelV x v->s.heap.IsSliceOf sl vl vu .none->Ps vl lo->Ps vu hi->r x lo hi H Q->
  ∃T id,EQ (.type T) "__getitem__"=pure (some<|.builtin id)/\s.TypeIs v T/\f' 91 X.A (getItem v (-sl)) 54 X.xe s
def tSl(r:V->Option Int->Option Int->Hp->VK->Prop)(te:TE)(tl th:TO):TE:=λZ H Q=>te Z H λx H1=>tl Z H1 λl H2=>th Z H2 λu H3=>r x l u H3 Q
def pB(hr:WN X r)(he:PE X e te)(hl:PO X lo tl)(hu:PO X hi th):PE X (.Subscript e (.Slice lo hi none p2) pos) (tSl r te tl th):=by ext bi s Z H Q I h;show Hr (dv 106 λv s1 x H1 I1 r1 q1=>?_);show wpAny_Slice (jK (hl bi s1 Z H1 _ I1 q1) λvl s2 ahw=>?_);let(l,H2,I2,pl,q2):=ahw;show jK (hu bi s2 Z H2 _ I2 q2) λvu s3 ahv=>?_;let(u,H3,I3,pu,q3):=ahv;show ah ?_;have I4:Inv X bi Z H3 (s3\s3.heap.push {cls:=.type "slice",data:=.fields #[vl,vu,.none]}):=I3.kept λb ob q=>ao _ q;let(T,id,hT,ht,hg):=hr bi (s3\s3.heap.push {cls:=.type "slice",data:=.fields #[vl,vu,.none]}) Z H3 x v vl vu l u s3.heap.objs.size Q I4 r1 (Heap.IsSliceOf.new ..) pl pu q3;show tail_any ht hT hg 74
def lR(xs:Aam)(lo hi:Option Int):Aam:=(xs.drop<|HT.eW 42 0 lo).take<|HT.eW 42 42 hi -HT.eW 42 0 lo
def Fc(xs:Aam)(lo hi:Option Int):(lR xs lo hi).length<=42:=by unfold lR;rw[bo,fG];lia
def agF(K:Frag):V->Option Int->Option Int->Hp->VK->Prop:=λx lo hi H Q=>∃a xs,x=-a/\bA K H a xs/\
 ¬(HT.eW 42 0 lo=0/\HT.eW 42 42 hi=42)/\∀p,H p=none->Q (-p) (upd H p<|.tup<|lR xs lo hi)
def adp:WN X (agF X.K):=by ext bi s Z H x v vl vu lo hi sl Q I rx hs pl pu h;let(a,xs,rfl,hx,hw,q):=h;cases rx;let(aM,r,ht,hz):=I.tuple hx;have hlen:aM.toArray.size=42:=aT▸r.length.symm;show{"tuple",_,fk.lookup,ht.typeIs,?_};show HT.Ea ht hs pl pu (hlen▸hw) ?_ (hlen▸hz);rw[hlen];show{.ref 34,_,I.laid (λb ob q=>ao _ q) (aw _) ?_,9,q _ 69};show{aR (Fc xs lo hi) hz,_,(r.drop<|HT.eW 42 0 lo).take<|HT.eW 42 42 hi -HT.eW 42 0 lo,IsTup.new _ _,_,27,9}
def Jr(n:Nat)(i:Int):Option Nat:=if 0<=i then(if i<n then some i.toNat else none)else if -(n:Int)<=i then some (i+n).toNat else none
def rO(xs:List α)(i:Int):Option α:=(Jr 42 i).bind λj=>xs[j]?
def PJ(h:Jr n i>j):seqIndex? i n>j/\j<n/\-(n:Int)<=i/\i<n:=by
 unfold Jr at h;by_cases h0:0<=i
 ·rw[aN h0]at h;by_cases h1:i<n;·rw[aN h1]at h;have e:=cB h;show{by rw[Ey h0 h1,e],8,8,h1}
  rw[aL h1]at h;cases h
 rw[aL h0]at h;by_cases h1:-(n:Int)<=i;·rw[aN h1]at h;have e:=cB h;show{by rw[BV ∅ h1,e],8,h1,8}
 rw[aL h1]at h;cases h
def Ik(h:rO xs i>v):∃j,seqIndex? i 42>j/\xs[j]?>v/\j<42/\-(42:Int)<=i/\i<42:=by
 unfold rO at h;cases e:Jr 42 i with
 |none=>rw[e]at h;cases h
 |some j=>
  rw[e]at h;let(h1,h2,h3,h4):=PJ e;show⟨j,h1,h,h2,h3,h4⟩
def iF{xs:List α}{j:Nat}{v:α}(h:xs[j]?>v):rO xs (j:Int)>v:=by
 have hj:=(aq.mp h).1;have e:Jr 42 (j:Int)>j:=by unfold Jr;rw[aN ∅,aN ∅];simp
 unfold rO;rw[e];show h
def acI(b:wv):Prop:=∀o i,UV b false o i=operate [o,i] (getItem o i)
end
def QB(X:Cx)(r:R2):Prop:=
 ∀(value slice:wv)(bi:Aaa)(s:f8)(Z:St)(H:Hp)(x y:V)(v u:i5)(Q:VK),Inv X bi Z H s->RelV x v->RelV y u->r x y H Q->
  UV slice false v u=operate [v,u] (getItem v u)->f' 91 X.A (subscriptTail value slice v u) 54 X.xe s
def NU(X:Cx)(id:String)(r:V->Aam->Hp->VK->Prop):Prop:=
 ∀(bi:Aaa)(s:f8)(Z:St)(H:Hp)(x:V)(xs:Aam)(v:i5)(us:Aae)(Q:VK),Inv X bi Z H s->RelV x v->Vals xs us->r x xs H Q->
  f' 91 X.A (Go (.builtin id)<|v::us) 54 X.xe s
section
variable{X:Cx}{a b:wv}{ta tb:TE}{pos:Gc}
def cm(hr:QB X r)(ha:PE X a ta)(hb:PE X b tb)(hs:acI b):PE X (.Subscript a b pos) (Tq r ta tb):=by ext bi s Z H Q I h;show Hr (Zq ha hb I h λv u s2 x y H2 I2 rx ry q=>hr a b bi s2 Z H2 x y v u Q I2 rx ry q<|hs _ _)
inductive adF(K:Frag)(x:V)(y:V)(H:Hp)(Q:VK):Prop
 |mk p xs i v (_:x=-p) (_:y=.int i) (_:bg K H p xs) (_:rO xs i>v) (_:Q v H)
inductive adE(K:Frag)(x:V)(y:V)(H:Hp)(Q:VK):Prop
 |mk p xs i v (_:x=-p) (_:y=.int i) (_:bA K H p xs) (_:rO xs i>v) (_:Q v H)
inductive agJ(x:V)(y:V)(H:Hp)(Q:VK):Prop
 |mk z i c (_:x=.str z) (_:y=.int i) (_:z.length<=dL) (_:rO z.cps.toList i>c) (_:Q (.str ⟨#[c]⟩) H)
def eJ:QB X (adF X.K):=by
 ext value slice bi s Z H x y v u Q I rx ry h hs;let(p,xs,i,z,rfl,rfl,hq,he,q):=h;cases rx;let(t,rfl):=ry;let(aM,r,pl,hz):=I.list hq;let(j,h1,h2,h3,h4,h5):=Ik he;let(w,ew,pf):=r.get h2;have hl:=r.length;have hn:=wW;have fin:EP X bi Z Q w s:=⟨z,H,I,pf,q⟩;by_cases h0:0<=i
 ·have hj:i.toNat=j:=by rw[Ey h0 h5]at h1;show cB h1
  show item_listR pl.isList h0 ∅ (by rw[hj];simpa using ew) fin hs
 have hj:(i+(aM.toArray.size:Int)).toNat=j:=by rw[BV ∅ h4]at h1;rw[aT,<-hl];show cB h1
 show yB pl.isList.typeIs slot_list_getitem.lookup
  (wpAny_getItem_list_neg pl.isList ∅ (by rw[aT]<;>lia) ∅ (by rw[hj];simpa using ew) ⟨rfl,fin⟩) hs
def fh:QB X (adE X.K):=by
 ext value slice bi s Z H x y v u Q I rx ry h hs;let(p,xs,i,z,rfl,rfl,hq,he,q):=h;cases rx;let(t,rfl):=ry;let(aM,r,pl,hz):=I.tuple hq;let(j,h1,h2,h3,h4,h5):=Ik he;let(w,ew,pf):=r.get h2;have hn:=wW;show yB pl.typeIs slot_tuple_getitem.lookup
  (getItem_tuple pl ∅ ∅ (by rw[aT,<-r.length];show h1) (↑ew) {9,⟨z,H,I,pf,q⟩}) hs
def U6:QB X agJ:=by
 ext value slice bi s Z H x y v u Q I rx ry h hs;let(z,i,c,rfl,rfl,hz,he,q):=h;let(t,rfl):=rx;let(t',rfl):=ry;let(j,h1,h2,h3,h4,h5):=Ik he;have hl:z.cps.toList.length=z.length:=by simp[Str.length]
 rw[hl]at h1 h4 h5;have hn:=wW;show tail_any (kK s z t) slot_str_getitem.lookup (getItem_str (by
  rw[(bQ ∅),bQ ∅,Bool.or_false]) (by rw[h1];simpa using h2) {.str ⟨#[c]⟩,H,44,66,q}) hs
def RH(aM:Aae)(n j:Nat)(u:i5):Obj.mapSeq (·.setIfInBounds j u) {cls:=.type "list",data:=.seq aM.toArray n}={cls:=.type "list",data:=.seq (aM.set j u).toArray n}:=by simp[Obj.mapSeq]
def Inv.lst(I:Inv X bi Z H s)(h:H p>.lst xs):
  ∃(aM:Aae)(n:Nat),Vals xs aM/\s.heap.get? p>{cls:=.type "list",data:=.seq aM.toArray n}/\42<=dL:=by
 let(z,aM,n,r,e):=I.bC p _ h;show⟨aM,n,r,e,z⟩
def Inv.aeb{aM its':Aae}(I:Inv X bi Z H s)(h:H p>.lst xs)
  (ho:s.heap.get? p>{cls:=.type "list",data:=.seq aM.toArray n}) (hf:f {cls:=.type "list",data:=.seq aM.toArray n}={cls:=.type "list",data:=.seq its'.toArray n'}) (r:Vals ys its') (hz:48<=dL) (t:Nat):
  Inv X bi Z (upd H p 49) (s\(s.heap.update p f,t)):=by
 have e:(s.heap.update p f).get? p>{cls:=.type "list",data:=.seq its'.toArray n'}:=by rw[cI f ho (by rw[hf]<;>rfl),hf]
 show I.write (by rw[h];trivial) (.inl 9) (λb u hb q=>(bL _ _<|cL hb).trans q) ⟨_,e⟩ ?_;show⟨hz,its',n',r,e⟩
inductive afR(o:V)(i:V)(v:V)(H:Hp)(Q:Hp->Prop):Prop
 |mk p xs k j (_:o=-p) (_:i=.int k) (_:H p>.lst xs) (_:Jr xs.length k>j) (_:Q (upd H p<|.lst<|xs.set j v))
def set_list:afm X afR:=by
 ext bi s Z H o i v ov iv u Q I ro ri rv h;let(p,xs,k,j,rfl,rfl,hp,hj,q):=h;cases ro;let(t,rfl):=ri;let(aM,n,r,ho,hz):=I.lst hp;let(h1,h2,h3,h4):=PJ hj;have hl:=r.length;have hn:=wW;have I':Inv X bi Z (upd H p<|.lst<|xs.set j v) (s\s.heap.update p (Obj.mapSeq (·.setIfInBounds j u))):=
  I.aeb hp ho (RH aM n j u) (r.set rv j) (by rw[yq];show hz) 21
 by_cases h0:0<=k
 ·have hk:k.toNat=j:=by rw[Ey h0 h4]at h1;show cB h1
  show PySem.W.ki_setAt ho h0 ∅ (by rw[aT,<-hl];show h4) (by rw[hk];show⟨_,I',q⟩)
 have hk:(k+(aM.toArray.size:Int)).toNat=j:=by rw[BV ∅ h3]at h1;rw[aT,<-hl];show cB h1
 show PySem.W.ki_setBack ho ∅ (by rw[aT,<-hl];show h3) ∅ (by rw[hk];show⟨_,I',q⟩)
def K3(lo hi:Option Int)(n:Nat):(GT lo hi none n).1=((HT.eW n 0 lo:Nat):Int)/\(GT lo hi none n).2.1=((HT.eW n n hi:Nat):Int)/\(GT lo hi none n).2.2=1:=by
 show{?_,?_,9}
 ·cases lo with
  |none=>simp[GT,HT.eW]
  |some i=>
   simp only[GT,HT.eW,Option.getD_none,show(1:Int)⊃0 by decide,lZ];by_cases h:i<0;·simp only[h,lZ]<;>lia
   simp only[h,gh]<;>lia
 cases hi with
 |none=>simp[GT,HT.eW]
 |some i=>
  simp only[GT,HT.eW,Option.getD_none,show(1:Int)⊃0 by decide,lZ];by_cases h:i<0;·simp only[h,lZ]<;>lia
  simp only[h,gh]<;>lia
def JX(aM:Aae)(lo hi:Option Int):slicePick aM.toArray lo hi none=((aM.drop<|HT.eW aM.length 0 lo).take<|HT.eW aM.length aM.length hi -HT.eW aM.length 0 lo).toArray:=by let(h1,h2,h3):=K3 lo hi aM.toArray.size;unfold slicePick;rw[h1,h2,h3];simp only[sliceRange_one,pick_run,aT]<;>rfl
inductive agH(K:Frag)(x:V)(lo:Option Int)(hi:Option Int)(H:Hp)(Q:VK):Prop
 |mk a xs (_:x=-a) (_:bg K H a xs) (_:∀p,H p=none->Q (-p) (upd H p<|.lst<|lR xs lo hi))
def zo:WN X (agH X.K):=by ext bi s Z H x v vl vu lo hi sl Q I rx hs pl pu h;let(a,xs,rfl,hx,q):=h;cases rx;let(aM,r,ht,hz):=I.list hx;have hlen:=r.length;show{"list",_,slot_list_getitem.lookup,ht.isList.typeIs,?_};show wpAny_getItem_list_slice ht.isList hs pl pu .none 84 ?_ (by rw[aT]<;>lia);rw[JX,<-hlen];show{.ref 34,_,I.laid (λb ob q=>ao _ q) (aw _) ?_,9,q _ 69};show{aR (Fc xs lo hi) hz,_,0,(r.drop<|HT.eW 42 0 lo).take<|HT.eW 42 42 hi -HT.eW 42 0 lo,27}
def v9:V->Bool
 | .cU=>true
 | .bl _=>true
 | .int _=>true
 | .str _=>true
 |_=>false
def JC:V->V->Bool
 | .cU,.cU=>true
 | .bl a,.bl b=>a==b
 | .bl a,.int b=>(if a then 1 else 0)==b
 | .int a,.bl b=>a==(if b then 1 else 0)
 | .int a,.int b=>a==b
 | .str a,.str b=>a==b
 |_,_=>false
def afa(ry:RelV y u)(rx:RelV x v)(fy:v9 y=true)(fx:v9 x=true):SeqAt.EqAt A s u v (JC y x):=by
 cases y with
 |cU=>
  cases ry;cases x with
  |cU=>cases rx;show SeqAt.EqAt.same _
  |bl b=>cases rx;show SeqAt.EqAt.none_bool b
  |int b=>let(t,rfl):=rx;show SeqAt.EqAt.none_int b t
  |str b=>let(t,rfl):=rx;show SeqAt.EqAt.none_str b t
  |_=>show absurd (show false=true from fx) bX
 |bl a=>
  cases ry;cases x with
  |cU=>cases rx;show SeqAt.EqAt.bool_none a
  |bl b=>cases rx;show SeqAt.EqAt.bool_bool a b
  |int b=>let(t,rfl):=rx;show SeqAt.EqAt.bool_int a b t
  |str b=>let(t,rfl):=rx;show SeqAt.EqAt.bool_str a b t
  |_=>show absurd (show false=true from fx) bX
 |int a=>
  let(t',rfl):=ry;cases x with
  |cU=>cases rx;show SeqAt.EqAt.int_none a t'
  |bl b=>cases rx;show SeqAt.EqAt.int_bool a t' b
  |int b=>let(t,rfl):=rx;show SeqAt.EqAt.int_int a t' b t
  |str b=>let(t,rfl):=rx;show C9 a t' b t
  |_=>show absurd (show false=true from fx) bX
 |str a=>
  let(t',rfl):=ry;cases x with
  |cU=>cases rx;show SeqAt.EqAt.str_none a t'
  |bl b=>cases rx;show SeqAt.EqAt.str_bool a t' b
  |int b=>let(t,rfl):=rx;show C8 a t' b t
  |str b=>let(t,rfl):=rx;show uZ a t' b t
  |_=>show absurd (show false=true from fx) bX
 |_=>show absurd (show false=true from fy) bX
def xc(x:V)(u:i5):Bool:=match u with
 | .none=>JC .cU x
 | .bool b=>JC (.bl b) x
 | .int i _=>JC (.int i) x
 | .str z _=>JC (.str z) x
 |_=>false
def V7(r:RelV y u)(f:v9 y=true):xc x u=JC y x:=by
 cases y with
 |cU=>cases r;rfl
 |bl b=>cases r;rfl
 |int i=>let(t,rfl):=r;rfl
 |str z=>let(t,rfl):=r;rfl
 |_=>show absurd (show false=true from f) bX
def DZ:∀{xs:Aam}{us:Aae},Vals xs us->xs.all v9=true->us.any (xc x)=xs.any λy=>JC y x:=by
 ext _ _ h f
 induction h with
 |nil=>rfl
 |cons r _ ih=>
  rw[List.all_cons,bT]at f;rw[qU,qU,V7 r f.1,ih f.2]
def AA(rx:RelV x v)(fx:v9 x=true):∀{xs:Aam}{us:Aae},Vals xs us->xs.all v9=true->∀u∈us,SeqAt.EqAt A s u v (xc x u):=by
 ext _ _ h f
 induction h with
 |nil=>ext u hu;cases hu
 |cons r _ ih=>
  rw[List.all_cons,bT]at f;ext u' hu;rcases aK.mp hu with rfl|hu;·rw[V7 r f.1];show afa r rx f.1 fx
  show ih f.2 u' hu
def PM(x:V)(xs:Aam):Bool:=xs.any λy=>JC y x
inductive rIn(K:Frag)(neg:Bool)(x:V)(y:V)(H:Hp)(Q:VK):Prop
 |mk p xs (_:y=-p) (_:(bg K H p xs\/bA K H p xs)) (_:v9 x=true) (_:xs.all v9=true) (_:Q (.bl (if neg then !PM x xs else PM x xs)) H)
def Up:kn X (v4 .In) (rIn X.K false):=by
 ext bi s Z H x y v u Q I rx ry h;let(p,xs,rfl,hq,fx,fs,q):=h;cases ry;rcases hq with hq|hq;·let(aM,r,pl,hz):=I.list hq;show SeqAt.in_listAt (xc x) pl.isList (λw hw=>AA rx fx r fs w<|↑hw) {.bl _,H,I,9,?_};rw[show aM.toArray.any (xc x)=aM.any (xc x) by simp,DZ r fs];show q
 let(aM,r,pl,hz):=I.tuple hq;show SeqAt.in_tupleAt (xc x) pl (λw hw=>AA rx fx r fs w<|↑hw) {.bl _,H,I,9,?_};rw[show aM.toArray.any (xc x)=aM.any (xc x) by simp,DZ r fs];show q
def Ce:kn X (v4 .NotIn) (rIn X.K true):=by
 ext bi s Z H x y v u Q I rx ry h;let(p,xs,rfl,hq,fx,fs,q):=h;cases ry;rcases hq with hq|hq;·let(aM,r,pl,hz):=I.list hq;show SeqAt.notIn_listAt (xc x) pl.isList (λw hw=>AA rx fx r fs w<|↑hw) {.bl _,H,I,9,?_};rw[show aM.toArray.any (xc x)=aM.any (xc x) by simp,DZ r fs];show q
 let(aM,r,pl,hz):=I.tuple hq;show SeqAt.notIn_tupleAt (xc x) pl (λw hw=>AA rx fx r fs w<|↑hw) {.bl _,H,I,9,?_};rw[show aM.toArray.any (xc x)=aM.any (xc x) by simp,DZ r fs];show q
def NH:fD X (.type "list") (λxs H Q=>∃p ys,xs=[-p]/\(bg X.K H p ys\/bA X.K H p ys)/\∀l,H l=none->Q (-l) (upd H l 49)):=by
 ext bi s Z H xs us Q I r h;let(p,ys,rfl,hq,q):=h;let(u,rfl,rx):=jn r;cases rx;have fin:∀(aM:Aae),Vals ys aM->48<=dL->∀(h':nw)(c':Nat),(∀b o',s.heap.get? b>o'->h'.get? b>o')->
   h'.get? 34>{cls:=.type "list",dict:=none,data:=.seq aM.toArray c',slots:=#[]}->EP X bi Z Q (.ref 34) (s\h'):=λaM r' hz h' c' kp e=>
  {.ref 34,_,I.laid kp (aw _) (show cW 86 X.w _ h' _ 49 from⟨hz,aM,c',r',e⟩),9,q _ 69}
 rcases hq with hq|hq;·let(aM,r',pl,hz):=I.list hq;have hlen:=r'.length;let(o,ho,hc,n,hd):=pl.isList;show call_list_seq p (.inl 9) ho hc hd (λh' c' kp e=>fin aM r' hz h' c' kp e) (by simp only[aT]<;>lia)
 let(aM,r',pl,hz):=I.tuple hq;have hlen:=r'.length;let(o,ho,hc,n,hd):=pl;show call_list_seq p (.inr 9) ho hc hd (λh' c' kp e=>fin aM r' hz h' c' kp e) (by simp only[aT]<;>lia)
def fq:fD X (.type "tuple") (λxs H Q=>∃p ys,xs=[-p]/\((bg X.K H p ys/\∀l,H l=none->Q (-l) (upd H l<|.tup ys))\/(bA X.K H p ys/\Q (-p) H))):=by
 ext bi s Z H xs us Q I r h;let(p,ys,rfl,h):=h;let(u,rfl,rx):=jn r;cases rx;rcases h with⟨hq,q⟩|⟨hq,q⟩
 ·let(aM,r',pl,hz):=I.list hq;have hlen:=r'.length;show call_tuple_list pl.isList (λh' kp=>?_) (by simp only[aT]<;>lia);have I1:=I.kept (t':=21) kp;have I2:Inv X bi Z (upd H h'.objs.size<|.tup ys) (s\h'.push {cls:=.type "tuple",data:=.seq aM.toArray}):=
   I1.laid (λb o e=>ao _ e) (aw _) (show cW 86 X.w _ _ _ (.tup ys)from{hz,aM,r',IsTup.new _ _,_,27,9})
  show{.ref h'.objs.size,_,I2,9,q _ 16}
 let(aM,r',pl,hz):=I.tuple hq;show call_tuple_same pl {-p,H,I,9,q}
noncomputable def tyV(K:Frag)(T:String)(x:V)(H:Hp):Prop:=match x with
 | .str _=>T="str"
 | .int _=>T="int"
 | .ref p=>(T="list"/\∃xs,bg K H p xs)\/(T="tuple"/\((∃xs,H p>.tup xs)\/∃o,K.lookup p>o/\o.cls=.type "tuple"/\o.dict=none))\/
   (T="dict"/\((∃kvs,H p>.dK kvs)\/False))\/False
 |_=>False
def Te(I:Inv X bi Z H s)(r:RelV x v)(ty:tyV X.K T x H):
  s.TypeIs v T/\∀a,v=.ref a->∃ob,s.heap.get? a>ob/\ob.dict=none:=by
 cases x with
 |str z=>
  let(t,rfl):=r;cases(show T="str"from ty);show{kK s z t,λ_ e=>nomatch e}
 |int i=>
  let(t,rfl):=r;cases(show T="int"from ty);show{F8 s i t,λ_ e=>nomatch e}
 |ref p=>
  cases r;rcases ty with⟨rfl,xs,hq⟩|⟨rfl,⟨xs,hq⟩|⟨o,hk,hc,hd⟩⟩|⟨rfl,hk⟩|⟨⟩;·let(aM,__,pl,__):=I.list hq;show{pl.isList.typeIs,λa e=>?_};cases e;let(o,n,e,c,hd,__):=pl;show⟨o,e,hd⟩
  ·obtain⟨_,_,_,⟨o1,e1,c1,_⟩,o,e,hd⟩:=I.bC p _ hq;show{⟨o1,e1,c1⟩,λa e2=>?_};cases e2;show⟨o,e,hd⟩
  ·show{{o,I.lK p o hk,hc},λa e=>?_};cases e;show{o,I.lK _ o hk,hd}
  ·have z:∃o,s.heap.get? p>o/\o.ExactDict:=by let(kvs,hk):=hk.resolve_right id;let(__,__,__,__,o,__,__,e,ex,__):=I.bC p _ hk;show⟨o,e,ex⟩
   let(o,e,ex):=z;show{{o,e,ex.1},λa e2=>?_};cases e2;show{o,e,ex.2.1}
  contradiction
 |_=>show False.elim ty
def agz(K:Frag)(T:String)(r:V->Aam->Hp->VK->Prop)(to:TE):TE:=λZ H Q=>to Z H λx H1=>tyV K T x H1/\r x [] H1 Q
def tBM(K:Frag)(T:String)(r:V->Aam->Hp->VK->Prop)(to:TE)(t:TA):TE:=λZ H Q=>to Z H λx H1=>tyV K T x H1/\t Z H1 λxs H2=>r x xs H2 Q
variable{o e:wv}{es:List wv}{to:TE}{t:TA}{name:i9}{Fa eR:Gc}{T id:String}{r:V->Aam->Hp->VK->Prop}
def adN(pa:PlainAttrs T)(slot:Slot T name id)(Vk:typeOf (.builtin id)=pure (.type "method_descriptor"))(hm:NU X id r)(ho:PE X o to)
  (v8:wT o name X.env (wf o X.env)=wf o X.env:=by rfl) (v7:53=true:=by rfl):PE X (.Call (.Attribute o name Fa) [] [] eR) (agz X.K T r to):=by
 ext bi s Z H Q I h;show qj v8 v7 (dv 111 λv s1 x H1 I1 r1 ahu=>?_);let(ty,q1):=ahu;let(h1,h2):=Te I1 r1 ty;show{T,id,pa,slot,Vk,h1,h2,eI rfl (tO<|hm bi s1 Z H1 x [] v [] Q I1 r1 .nil q1)}
def jr(pa:PlainAttrs T)(slot:Slot T name id)(Vk:typeOf (.builtin id)=pure (.type "method_descriptor"))(hm:NU X id r)(ho:PE X o to)(ha:PA X (e::es) t)
  (v8:wT o name X.env (wf o X.env)=wf o X.env:=by rfl)
  (YN:((Da eR<|jp (e::es) X.env).all (λx=>!x.1)&&(Pi eR<|G' [] X.env).all (λx=>x.1.isSome)
   &&decide ((e::es).length+([]:List PP).length+201<030))=true:=by rfl)
  (v7:53=true:=by rfl) (hs:jp (e::es) X.env=(false,wf e X.env)::jp es X.env:=by rfl) (MO:(Da eR 73).any (·.1)=false:=by rfl):
  PE X (.Call (.Attribute o name Fa) (e::es) [] eR) (tBM X.K T r to t):=by
 ext bi s Z H Q I h;show wpAny_Call_method_late v8 YN v7 rfl (dv 111 λv s1 x H1 I1 r1 aht=>?_);let(ty,q1):=aht;let(h1,h2):=Te I1 r1 ty;show{T,id,pa,slot,Vk,h1,h2,?_};have hA:=ha eR bi s1 Z H1 _ I1 q1;rw[hs]at hA⊢;show eI (by change(false||(Da eR<|jp es X.env).any (·.1))=false;rw[MO]<;>rfl)<|jF (jK hA λus s2 zq=>by let(vs,H2,I2,r2,q2):=zq;show hm bi s2 Z H2 x vs v us Q I2 r1 r2 q2)
end
def WQ(X:Cx)(id:String)(r:V->Aam->Hp->VK->Prop):Prop:=
 ∀(bi:Aaa)(s:f8)(Z:St)(H:Hp)(x:V)(xs:Aam)(v:i5)(us:Aae)(Q:VK),Inv X bi Z H s->RelV x v->Vals xs us->r x xs H Q->
  f' 91 X.A (Go (.builtin id)<|v::us) 54 X.xe s
def Vals.one:∀{x:V}{us:Aae},Vals [x] us->∃u,us=[u]/\RelV x u:=by
 ext _ _ h;cases h with
 |cons r t=>cases t;show⟨_,rfl,r⟩
def Vals.two:∀{x y:V}{us:Aae},Vals [x,y] us->∃u v,us=[u,v]/\RelV x u/\RelV y v:=by
 ext _ _ _ h;cases h with
 |cons r t=>cases t with
  |cons q t=>cases t;show⟨_,_,rfl,r,q⟩
theorem Vals.zero:∀{us:Aae},Vals [] us->us=[]
 |_,.nil=>rfl
def Vals.reverse{xs:Aam}{us:Aae}(h:Vals xs us):Vals xs.reverse us.reverse:=by
 induction h with
 |nil=>show .nil
 |cons r t ih=>rw[vQ,vQ];show Vals.append ih<|.cons r .nil
theorem Vals.rep{xs:Aam}{us:Aae}(h:Vals xs us):∀k:Nat,Vals (List.replicate k xs).flatten (List.replicate k us).flatten
 |0=>.nil
 |k+1=>by rw[iG,iG,kH,kH];show Vals.append h<|Vals.rep h k
theorem foldl_rep(aM:Aae):∀(k:Nat)(acc:Aae),
  List.foldl (λx1 x2=>x1++x2) acc.toArray (List.replicate k aM.toArray)=(acc++(List.replicate k aM).flatten).toArray
 |0,acc=>by simp
 |k+1,acc=>by
  have e:acc.toArray++aM.toArray=(acc++aM).toArray:=by simp
  have e2:(acc++aM)++(List.replicate k aM).flatten=acc++(List.replicate (k+1) aM).flatten:=by rw[iG,kH,cH]
  rw[<-e2,<-foldl_rep aM k (acc++aM),<-e,iG,gJ]
section
variable{X:Cx}{bi:Aaa}{Z:St}{H:Hp}{s:f8}{l:cr}{xs ys:Aam}
def Inv.RN{aM its':Aae}(I:Inv X bi Z H s)(hH:H l>.lst xs)
  (e:s.heap.get? l>{cls:=.type "list",data:=.seq aM.toArray n}) (hf:f aM.toArray=its'.toArray) (hv:Vals ys its') (hz:48<=dL):
  Inv X bi Z (upd H l 49) (s\(s.heap.update l<|Obj.mapSeq f,t')):=by
 have q:=PySem.IsL.update e f;rw[hf]at q;show I.write (hH▸trivial) (.inl 9) (λb' u hb hu=>(bL s.heap (Obj.mapSeq f)<|cL hb).trans hu) ⟨_,q⟩ ?_;show⟨hz,its',_,hv,q⟩
def Inv.agU(I:Inv X bi Z H s)(hv:Vals ys aM)(hz:48<=dL):
  Inv X bi Z (upd H 34 49) {s with heap:=s.heap.push {cls:=.type "list",data:=.seq aM.toArray},toks:=t'}:=
 I.laid (λ_ _ q=>ao _ q) (aw _) {hz,aM,0,hv,27}
def Inv.fresh(I:Inv X bi Z H s):H 34=none:=I.bC.fresh<|aw _
def Inv.AD(I:Inv X bi Z H s)(hH:H l>.lst xs):42<=dL/\∃(aM:Aae)(n:Nat),Vals xs aM/\42=aM.length/\s.heap.get? l>{cls:=.type "list",data:=.seq aM.toArray n}:=by let(z,aM,n,r,e):=I.bC l _ hH;show{z,aM,n,r,r.length,e}
def Ym(h:n<=dL):Builtin.List.listTooLong n=false:=by show bQ ∅
end
section
variable{X:Cx}
inductive Pb(x:V)(vs:Aam)(H:Hp)(Q:VK):Prop
 |mk l xs y (_:x=-l) (_:vs=[y]) (_:H l>.lst xs) (_:xs.length<dL) (_:Q .cU (upd H l<|.lst<|xs++[y]))
def iB:WQ X "list.append" Pb:=by ext bi s Z H x vs v us Q I rx rv h;let(l,xs,y,rfl,rfl,hH,hz,q):=h;cases rx;let(u,rfl,ru):=rv.one;let(z,aM,n,r,hl,e):=I.AD hH;show mB Dv ⟨_,e,rfl⟩ BH (A3 _ _) (Ee l aM.toArray n u (by rw[aT];lia)) {e,?_};show{.cU,_,I.RN hH e 84 (r.append<|.cons ru .nil) ?_,9,q};rw[aG,gW];lia
inductive abv(x:V)(vs:Aam)(H:Hp)(Q:VK):Prop
 |mk l b xs zs (_:x=-l) (_:vs=[-b]) (_:H l>.lst xs) (_:H b>.lst zs) (_:xs.length+zs.length<=dL) (_:Q .cU (upd H l<|.lst<|xs++zs))
def UO:WQ X "list.extend" abv:=by
 ext bi s Z H x vs v us Q I rx rv h;let(l,b,xs,zs,rfl,rfl,hH,hB,hz,q):=h;cases rx;let(u,rfl,ru):=rv.one;cases ru;let(z,aM,n,r,hl,e):=I.AD hH;let(z2,FJ,n2,r2,lN,e2):=I.AD hB;have hsz:aM.toArray.size+FJ.toArray.size<=dL:=by rw[aT,aT];lia
 have agb:¬(!aM.toArray.isEmpty&&Builtin.List.listTooLong (aM.toArray.size+FJ.toArray.size))=true:=by rw[Ym hsz,Bool.and_false];show bX
 show mB F.slot_list_extend ⟨_,e,rfl⟩ F.entry_list_extend (F.args_list_extend_2 _ _)
  (AutoSeq1.list_extend_list_list_0 l aM.toArray n b FJ.toArray n2 agb (by rw[aT];lia) ∅) {e,e2,?_}
 show{.cU,_,I.RN hH e 84 (r.append r2) ?_,9,q};rw[aG];lia
inductive XM(x:V)(vs:Aam)(H:Hp)(Q:VK):Prop
 |mk l xs (_:x=-l) (_:vs=[]) (_:H l>.lst xs) (_:Q .cU (upd H l<|.lst xs.reverse))
def RE:WQ X "list.reverse" XM:=by ext bi s Z H x vs v us Q I rx rv h;let(l,xs,rfl,rfl,hH,q):=h;cases rx;have EU:=rv.zero;subst EU;let(z,aM,n,r,hl,e):=I.AD hH;show mB F.slot_list_reverse ⟨_,e,rfl⟩ F.entry_list_reverse (F.args_list_reverse_1 _) (AutoSeq1.list_reverse_list_0 l aM.toArray n (by rw[aT];lia)) {e,?_};show{.cU,_,I.RN (its':=aM.reverse) hH e 84 r.reverse ?_,9,q};rw[BF];lia
inductive agL(x:V)(y:V)(H:Hp)(Q:VK):Prop
 |mk l b xs zs (_:x=-l) (_:y=-b) (_:H l>.lst xs) (_:H b>.lst zs) (_:xs.length+zs.length<=dL) (_:∀p,H p=none->Q (-p) (upd H p<|.lst<|xs++zs))
def Ci:kn X (Ix .Add) agL:=by
 ext bi s Z H x y v u Q I rx ry h;let(l,b,xs,zs,rfl,rfl,hH,hB,hz,q):=h;cases rx;cases ry;let(z,aM,n,r,hl,e):=I.AD hH;let(z2,FJ,n2,r2,lN,e2):=I.AD hB;show PySem.P.add_list e e2 ?_ (by rw[aT,aT];lia);have ea:aM.toArray++FJ.toArray=(aM++FJ).toArray:=by simp
 rw[ea];show{.ref _,_,I.agU (r.append r2) (by rw[aG];lia),9,q _ I.fresh}
def len_rep{α:Type}(xs:List α)(k:Nat):(List.replicate k xs).flatten.length=k*42:=by
 induction k with
 |zero=>simp
 |succ k ih=>rw[iG,kH,aG,ih,Nat.succ_mul,Nat.add_comm]
end
section
variable{κ:Type}[DecidableEq κ]
def jo(kvs:List (κ×V))(k:κ):Aan:=(kvs.find? λkv=>decide (kv.1=k)).map (·.2)
def putK(kvs:List (κ×V))(k:κ)(v:V):List (κ×V):=
 if(kvs.any λkv=>decide (kv.1=k))=true then kvs.map (λkv=>if kv.1=k then(kv.1,v)else kv)else kvs++[(k,v)]
def tX{p:κ×V}{k:κ}(e:p.1=k):jo (p::r) k>p.2:=by simp[jo,jB,e]
def oV{p:κ×V}{k:κ}(e:¬p.1=k):jo (p::r) k=jo r k:=by simp[jo,jB,e]
theorem Fq(k:κ):∀kvs:List (κ×V),(kvs.any λkv=>decide (kv.1=k))=(jo kvs k).isSome
 |[]=>rfl
 |p::r=>by
  rw[qU];by_cases e:p.1=k;·simp only[tX e,bD e,Bool.true_or,Dg]
  rw[oV e,bQ e,Bool.false_or];show Fq k r
def ER(kvs:List (κ×V))(k:κ)(v:V):(putK kvs k v).length<=kvs.length+1:=by
 unfold putK;split;·rw[af];lia
 rw[aG,bJ,jA];lia
def wK{k:κ}(v:V)(h:jo kvs k=none):putK kvs k v=kvs++[(k,v)]:=by unfold putK;rw[Fq,h];show aL 7
def nR.ya(r:nR o u):o.isSome=u.isSome:=by
 cases o with
 |none=>cases u with
  |none=>rfl
  |some _=>show(show False from r).elim
 |some _=>cases u with
  |none=>show(show False from r).elim
  |some _=>rfl
def nR.getD(r:nR o u)(rd:RelV d d'):RelV (o.getD d) (u.getD d'):=by
 cases o with
 |none=>cases u with
  |none=>show rd
  |some _=>show(show False from r).elim
 |some _=>cases u with
  |none=>show(show False from r).elim
  |some _=>show r
def KV.val(r:KV kvs vs)(k:κ):nR (jo kvs k) (SC vs k):=by
 induction r with
 |nil=>show True.intro
 |@cons p q ps qs h t ih=>
  let(h1,h2):=h;by_cases e:p.1=k
  ·have e':=h1.symm.trans e;have b:SC (q::qs) k>q.2:=by simp[SC,jB,e']
   rw[tX e,b];show h2
  have e':¬q.1=k:=λz=>e<|h1.trans z;have b:SC (q::qs) k=SC qs k:=by simp[SC,jB,e']
  rw[oV e,b];show ih
def KV.any(r:KV kvs vs)(k:κ):(kvs.any λkv=>decide (kv.1=k))=vs.any λkv=>decide (kv.1=k):=by
 unfold KV at r
 induction r with
 |nil=>rfl
 |cons h t ih=>rw[qU,qU,ih,h.1]
def KV.agE(r:KV kvs vs)(k:κ)(ry:RelV y u):
  KV (kvs.map λkv=>if kv.1=k then(kv.1,y)else kv) (vs.map λkv=>if kv.1=k then(kv.1,u)else kv):=by
 induction r with
 |nil=>show .nil
 |@cons p q ps qs h t ih=>
  rw[a9,a9];show .cons ?_ ih;let(h1,h2):=h;by_cases e:p.1=k;·rw[aN e,aN<|h1.symm.trans e];show⟨h1,ry⟩
  rw[aL e,aL (λz=>e<|h1.trans z)];show⟨h1,h2⟩
def KV.put(r:KV kvs vs)(k:κ)(ry:RelV y u):KV (putK kvs k y) (stored vs k u):=by
 unfold putK stored;rw[r.any k];by_cases e:(vs.any λkv=>decide (kv.1=k))=true;·rw[aN e,aN e];show r.agE k ry
 rw[aL e,aL e];show Fi r ⟨rfl,ry⟩
def KV.keys{kvs:List (κ×V)}(r:KV kvs vs):kvs.map (·.1)=vs.map (·.1):=by
 induction r with
 |nil=>rfl
 |cons h t ih=>rw[a9,a9,ih,h.1]
def KV.length{kvs:List (κ×V)}(r:KV kvs vs):kvs.length=vs.length:=aV r
end
def uB(r:RelV (kV k) u):(bZ P w).is k u=true:=by
 cases k with
 |inl i=>let(t,e):=(show∃t,u=Value.int i t from r);subst e;show Oh P w i t
 |inr x=>let(t,e):=(show∃t,u=Value.str x t from r);subst e;show EN P w x t
section
variable{P:io}{w:i6}{H:Hp}{h:nw}{a:cr}
def afQ(ok:ka P w H h)(e:Rd H a u):cW P w H h a u:=e.ok ok
def wb(ok:ka P w H h)(e:Rd H a (.dK kvs)):kvs.length<=dL/\(a==ww)=false/\∃vs,KV kvs vs/\h.DictOf (bZ P w) a vs:=
 show cW P w H h a (.dK kvs)from afQ ok e
def Hc(ok:ka P w H h)(e:H a>.dK kvs):kvs.length<=dL/\(a==ww)=false/\∃vs,KV kvs vs/\h.DictOf (bZ P w) a vs:=wb ok<|.inl e
end
def jQ(H:Hp)(a:cr)(y:V)(r:Aan):Prop:=
 (∃kvs k,Rd H a (.dK kvs)/\y=kV k/\r=jo kvs k)\/False
def xB(H:Hp)(a:cr)(y v:V)(H':Hp):Prop:=
 (∃kvs k,H a>.dK kvs/\y=kV k/\kvs.length<dL/\H'=upd H a (.dK<|putK kvs k v))\/False
theorem jQ.k{H:Hp}{a:cr}{kvs:List (Key×V)}{k:Key}(e:H a>.dK kvs):jQ H a (kV k) (jo kvs k):=.inl {kvs,k,.inl e,9,9}
theorem xB.k{H:Hp}{a:cr}{kvs:List (Key×V)}{k:Key}{v:V}(e:H a>.dK kvs)(hl:kvs.length<dL):xB H a (kV k) v (upd H a<|.dK<|putK kvs k v):=.inl ⟨kvs,k,e,rfl,hl,rfl⟩
section
variable{X:Cx}{bi:Aaa}{Z:St}{H:Hp}{s:f8}{a:cr}{y v:V}{u r:i5}{o:Aan}{A:ss}{E:Aac}
def Inv.big(I:Inv X bi Z H s):ww<34:=by show gA 7<|(I.mod.glob.keeps I.bk).lt
def Wo(hu:A.units+1<wE)(I:Inv X bi Z H s)(g:jQ H a y (some v))(ry:RelV y u)(h:∀w' s',Inv X bi Z H s'->RelV v w'->Q w' s'):
  f' 91 A (getItem (-a) u) Q E s:=by
 let(kvs,k,e,ey,l):=g.resolve_right id;subst ey;let(z,hd,vs,rel,dd):=wb I.bC e;let(w',hw,pf):=nR.some_of (v:=v) (o:=SC vs k) (by rw[l];show rel.val k);show wpAny_getItem_of (uB ry) dd.mapOf hw<|h w' _ 44 pf
def ah9(hu:A.units+1<wE)(I:Inv X bi Z H s)(g:jQ H a y o)(ry:RelV y u)(h:∀s',Inv X bi Z H s'->Q (.bool o.isSome) s'):
  f' 91 A (v4 .In u (-a)) Q E s:=by
 let(kvs,k,e,ey,l):=g.resolve_right id;subst ey;let(z,hd,vs,rel,dd):=wb I.bC e;show wpAny_in_of (uB ry) hd dd.mapOf ?_;rw[<-(rel.val k).ya,<-l];show h _ 44
def acu{Q:Aac}(hu:A.units+1<wE)(I:Inv X bi Z H s)(g:jQ H a y o)(ry:RelV y u)(h:∀s',Inv X bi Z H s'->Q (.bool<|!o.isSome) s'):
  f' 91 A (v4 .NotIn u (-a)) Q E s:=by
 let(kvs,k,e,ey,l):=g.resolve_right id;subst ey;let(z,hd,vs,rel,dd):=wb I.bC e;show wpAny_notIn_of (uB ry) hd dd.mapOf ?_;rw[<-(rel.val k).ya,<-l];show h _ 44
def DY(I:Inv X bi Z H s)(mu:WO (H a))(hs:Heap.SameBut a s.heap h')(he:∃q,h'.get? a>q)(new:cW 86 X.w (upd H a ob) h' a ob):
  Inv X bi Z (upd H a ob) (s\(h',t')):=
 I.write mu (.inl 9) (λb q hb z=>(hs.2 b hb).trans z) he new
def CV(z:kvs.length<=dL)(hd:(a==ww)=false)(rel:KV kvs vs)(dd:h'.DictOf (bZ P w) a vs):
  cW P w H' h' a (.dK kvs):=⟨z,hd,vs,rel,dd⟩
def We(hu:A.units+1<wE)(I:Inv X bi Z H s)(g:xB H a y v H')(ry:RelV y u)(rv:RelV v r)(h:∀s',Inv X bi Z H' s'->Q () s'):
  f' 91 A (setItem (-a) u r) Q E s:=by
 let(kvs,k,e,ey,l,eH):=g.resolve_right id;subst ey eH;let(z,hd,vs,rel,dd):=Hc I.bC e;have hz:vs.length<=dL:=by rw[<-rel.length];show z
 have hl:(putK kvs k v).length<=dL:=by have:=ER kvs k v;lia
 show wpAny_setItem_pairs (hsz:=hz) (uB ry) dd λh' CW hs=>h _ ?_;have he:∃q,h'.get? a>q:=let⟨q,_,_,hq,_⟩:=CW;⟨q,hq⟩
 show DY I (by rw[e];show True.intro) hs he<|CV hl hd (rel.put k rv) CW
def afn(i:wv):Prop:=∀ov iv,UV i false ov iv=operate [ov,iv] (getItem ov iv)
end
def abc{T id:String}
  (hl:EQ (.type T) "__getitem__"=pure (some<|.builtin id)) (hs:afn slice)
  (h:f' 85 A (wf value env) (λo aaa=>f' 85 A (wf slice env) (λi aad=>aad.TypeIs o T/\f' 85 A (getItem o i) Q E aad) E aaa) E s):
  f' 85 A (wf (.Subscript value slice pos) env) Q E s:=by
 show Hr (dy h (λo aaa ag4=>dy ag4 (λi aad aaf=>?_) λ_ _ x=>x) λ_ _ x=>x);let(hT,aaf):=aaf;show ae ?_;show ae<|iA hT hl ?_;have fin:f' 85 A (UV slice false o i) (λr adm=>f' 85 A (letTemporaryGo value o r>>=λ_=>pure r) Q E adm) E aad:=by rw[hs o i];show wpAny_operating (dy aaf (λr adm ag3=>ae<|wpAny_letTemporaryGo<|ah ag3) λ_ _ x=>x)
 first
  |show ah<|ae fin
  |show ae<|ah<|ae fin
  |show ae fin
def Oj(I:Inv X bi Z H s)(g:jQ H a y o):s.TypeIs (-a) "dict":=by let(kvs,k,e,__,__):=g.resolve_right id;let(__,__,vs,__,dd):=wb I.bC e;show dd.typeIs
inductive adh(Q:VK)(x:V)(y:V)(H2:Hp):Prop
 |mk a v (_:x=-a) (_:jQ H2 a y (some v)) (_:Q v H2)
def Z0(td ty:TE):TE:=λZ H Q=>td Z H λx H1=>ty Z H1 λy H2=>adh Q x y H2
inductive afH(Q:VK)(y:V)(x:V)(H2:Hp):Prop
 |mk a o (_:x=-a) (_:jQ H2 a y o) (_:Q (.bl o.isSome) H2)
def agy(ty td:TE):TE:=λZ H Q=>ty Z H λy H1=>td Z H1 λx H2=>afH Q y x H2
inductive Xr(Q:VK)(y:V)(x:V)(H2:Hp):Prop
 |mk a o (_:x=-a) (_:jQ H2 a y o) (_:Q (.bl<|!o.isSome) H2)
def aa8(ty td:TE):TE:=λZ H Q=>ty Z H λy H1=>td Z H1 λx H2=>Xr Q y x H2
inductive ady(D:Ends)(Z:St)(v:V)(x:V)(y:V)(H3:Hp):Prop
 |mk a H4 (_:x=-a) (_:xB H3 a y v H4) (_:D.nx Z H4)
def afP(td ty tv:TE):TS:=λD Z H=>tv Z H λv H1=>td Z H1 λx H2=>ty Z H2 λy H3=>ady D Z v x y H3
section
variable{X:Cx}{o i value:wv}{pos pos':Gc}{td ty tv:TE}
def rJ(hu:X.A.units+1<wE)(ho:PE X o td)(hi:PE X i ty)(hs:afn i):PE X (.Subscript o i pos) (Z0 td ty):=by ext bi s Z H Q I h;show abc PySem.F.slot_dict_getitem.lookup hs (dv 111 λu s1 x H1 I1 rx q1=>dv (hi bi s1 Z H1 _ I1 q1) λiv s2 y H2 I2 ry ahs=>?_);let(a,v,ex,g,q2):=ahs;subst ex;obtain rfl:u=Value.ref a:=rx;show{Oj I2 g,Wo hu I2 g ry λw' s3 I3 pf=>⟨v,H2,I3,pf,q2⟩}
def Uj(hu:X.A.units+1<wE)(hi:PE X i ty)(ho:PE X o td):PC X .In i o (agy ty td):=by ext bi s Z H Q I h;show dv (hi bi s Z H _ I h) λiv s1 y H1 I1 ry q1=>dv (ho bi s1 Z H1 _ I1 q1) λu s2 x H2 I2 rx ahr=>?_;let(a,ov,ex,g,q2):=ahr;subst ex;obtain rfl:u=Value.ref a:=rx;show ah9 hu I2 g ry λs3 I3=>{.bl ov.isSome,H2,I3,9,q2}
def Cd(hu:X.A.units+1<wE)(hi:PE X i ty)(ho:PE X o td):PC X .NotIn i o (aa8 ty td):=by ext bi s Z H Q I h;show dv (hi bi s Z H _ I h) λiv s1 y H1 I1 ry q1=>dv (ho bi s1 Z H1 _ I1 q1) λu s2 x H2 I2 rx ahq=>?_;let(a,ov,ex,g,q2):=ahq;subst ex;obtain rfl:u=Value.ref a:=rx;show acu hu I2 g ry λs3 I3=>{.bl<|!ov.isSome,H2,I3,9,q2}
def wq(hu:X.A.units+1<wE)(ho:PE X o td)(hi:PE X i ty)(hv:PE X value tv)(hs:Ev value (some<|.Subscript o i pos') pos.line X.env=pure false):
  PS X (.Assign [.Subscript o i pos'] value pos) (afP td ty tv):=by
 ext bi s Z H D I h;show yy (dv (hv bi s Z H _ I h) λr s1 v H1 I1 rv q1=>dv (ho bi s1 Z H1 _ I1 q1) λu s2 x H2 I2 rx q2=>dv (hi bi s2 Z H2 _ I2 q2) λiv s3 y H3 I3 ry ahp=>?_) hs;let(a,H4,ex,g,q3):=ahp;subst ex;obtain rfl:u=Value.ref a:=rx;show We hu I3 g ry rv λs4 I4=>⟨Z,H4,I4,q3⟩
def Y9(h:nw)(hb:ww<h.objs.size):cW P w H (h.push {cls:=.type "dict",data:=.dict #[]}) h.objs.size (.dK []):=
 {aQ _,cG.mpr<|cL<|aU hb,[],.nil,yu h}
def ade:TE:=λ_ H Q=>∀p,H p=none->Q (-p) (upd H p<|.dK [])
def hJ:PE X (.Dict [] [] pos) ade:=λbi s Z H Q I h=>
 wpAny_Dict_empty {.ref 34,_,I.laid (λ_ _ q=>ao _ q) (aw _)<|Y9 s.heap I.big,9,h _ 69}
end
def Tp:List (TE×TE)->St->Hp->(Aak->Hp->Prop)->Prop
 |[],_,H,Q=>Q [] H
 |(tk,tv)::r,Z,H,Q=>tk Z H λx H1=>tv Z H1 λy H2=>Tp r Z H2 λps H3=>Q ((x,y)::ps) H3
abbrev VV:Aak->List (i5×i5)->Prop:=Paired λp q=>RelV p.1 q.1/\RelV p.2 q.2
def PPs(X:Cx)(pos:Gc)(keys:List (Option wv))(values:List wv)(trs:List (TE×TE)):Prop:=
 ∀(bi:Aaa)(s:f8)(Z:St)(H:Hp)(Q:Aak->Hp->Prop),Inv X bi Z H s->Tp trs Z H Q->
  f' 91 X.A (evalPairs<|pairTrees keys values X.env pos) (λvs s'=>∃ps H',Inv X bi Z H' s'/\VV ps vs/\Q ps H') X.xe s
def sh(kvs more:List (Key×V)):List (Key×V):=more.foldl (λacc kv=>putK acc kv.1 kv.2) kvs
def KV.merge:∀{more:List (Key×V)}{rs:List (Key×i5)}{kvs:List (Key×V)}{vs:List (Key×i5)},KV more rs->KV kvs vs->KV (sh kvs more) (On vs rs):=by
 ext more rs kvs vs r
 induction r generalizing kvs vs with
 |nil=>ext q;show q
 |@cons p q ps qs h t ih=>
  ext r0;have e:KV (putK kvs p.1 p.2) (stored vs q.1 q.2):=by have:=r0.put p.1 h.2;rw[<-h.1];show this
  show ih e
structure M1(X:Cx)(o:wv)(m:i9)(Fa:Gc)(e:wv)(eR:Gc):Prop where
 base:wT o m X.env (wf o X.env)=wf o X.env
 jk:((Da eR<|jp [e] X.env).all (λx=>!x.1)&&(Pi eR<|G' [] X.env).all (λx=>x.1.isSome)
  &&decide (([e]:List wv).length+([]:List PP).length+201<030))=true
 line:53=true
 trees:Da eR (jp [e] X.env)=[(false,wf e X.env)]
structure M2(X:Cx)(o:wv)(m:i9)(Fa:Gc)(e f:wv)(eR:Gc):Prop where
 base:wT o m X.env (wf o X.env)=wf o X.env
 jk:((Da eR<|jp [e,f] X.env).all (λx=>!x.1)&&(Pi eR<|G' [] X.env).all (λx=>x.1.isSome)
  &&decide (([e,f]:List wv).length+([]:List PP).length+201<030))=true
 line:53=true
 trees:Da eR (jp [e,f] X.env)=[(false,wf e X.env),(false,wf f X.env)]
def IsD(H:Hp)(a:cr):Prop:=(∃kvs,Rd H a<|.dK kvs)\/False
def U8(I:Inv X bi Z H s)(d:IsD H a):
  s.TypeIs (-a) "dict"/\(∀b,Value.ref a=.ref b->∃ob,s.heap.get? b>ob/\ob.dict=none)/\(a==ww)=false:=by
 let(kvs,e):=d.resolve_right id;let(__,hd,vs,__,dd):=wb I.bC e;show{dd.typeIs,λb q=>?_,hd};cases q;let(ob,__,__,h1,h2,__):=dd;show{ob,h1,h2.2.1}
section
variable{X:Cx}{bi:Aaa}{Z:St}{H:Hp}{s:f8}{a:cr}{y d:V}{u r:i5}{o:Aan}{A:ss}{E:Aac}
def afh{Q:Aac}(hu:A.units+1<wE)(I:Inv X bi Z H s)(g:jQ H a y o)(ry:RelV y u)(h:∀w' s',Inv X bi Z H s'->RelV (o.getD .cU) w'->Q w' s'):
  f' 91 A (Go (.builtin "dict.get") [-a,u]) Q E s:=by
 let(kvs,k,e,ey,l):=g.resolve_right id;subst ey;let(z,hd,vs,rel,dd):=wb I.bC e;show sH i7 dd.typeIs qJ (PySem.F.args_dict_get_2 _ _) (meets_dict_get (bZ 86 X.w) a (uB ry) hd) {_,dd.mapOf,h _ _ 44 ?_};rw[l];show(rel.val k).getD rfl
def afg(hu:A.units+1<wE)(I:Inv X bi Z H s)(g:jQ H a y o)(ry:RelV y u)(rd:RelV d r)(h:∀w' s',Inv X bi Z H s'->RelV (o.getD d) w'->Q w' s'):
  f' 91 A (Go (.builtin "dict.get") [-a,u,r]) Q E s:=by
 let(kvs,k,e,ey,l):=g.resolve_right id;subst ey;let(z,hd,vs,rel,dd):=wb I.bC e;show sH i7 dd.typeIs qJ (xI _ _ _) (meets_dict_get_default (bZ 86 X.w) a (uB ry) hd r) {_,dd.mapOf,h _ _ 44 ?_};rw[l];show(rel.val k).getD rd
end
inductive abb(ty:TE)(Z:St)(Q:VK)(x:V)(H1:Hp):Prop
 |mk a (_:x=-a) (_:IsD H1 a) (_:ty Z H1 λy H2=>∃o,jQ H2 a y o/\Q (o.getD .cU) H2)
def adg(td ty:TE):TE:=λZ H Q=>td Z H λx H1=>abb ty Z Q x H1
inductive aba(ty:TE)(tx:TE)(Z:St)(Q:VK)(x:V)(H1:Hp):Prop
 |mk a (_:x=-a) (_:IsD H1 a) (_:ty Z H1 λy H2=>tx Z H2 λz H3=>∃o,jQ H3 a y o/\Q (o.getD z) H3)
def adf(td ty tx:TE):TE:=λZ H Q=>td Z H λx H1=>aba ty tx Z Q x H1
section
variable{X:Cx}{o e f:wv}{Fa eR:Gc}{td ty tx:TE}
def X3(hu:X.A.units+1<wE)(ho:PE X o td)(he:PE X e ty)(m:M1 X o "get" Fa e eR):PE X (.Call (.Attribute o "get" Fa) [e] [] eR) (adg td ty):=by ext bi s Z H Q I h;show qr m.base m.jk m.line dM i7 rP (dv 111 λu s1 x H1 I1 rx aho=>?_);let(a,ex,d,q1):=aho;subst ex;obtain rfl:u=Value.ref a:=rx;let(t1,t2,__):=U8 I1 d;show{t1,t2,?_};rw[m.trees];show eI rfl (jF<|f9 (dv (he bi s1 Z H1 _ I1 q1) λiv s2 y H2 I2 ry ⟨ov,g,q2⟩=>kJ ?_));show afh hu I2 g ry λw' s3 I3 pf=>⟨_,H2,I3,pf,q2⟩
def As(hu:X.A.units+1<wE)(ho:PE X o td)(he:PE X e ty)(hf:PE X f tx)(m:M2 X o "get" Fa e f eR):PE X (.Call (.Attribute o "get" Fa) [e,f] [] eR) (adf td ty tx):=by ext bi s Z H Q I h;show qr m.base m.jk m.line dM i7 rP (dv 111 λu s1 x H1 I1 rx ahn=>?_);let(a,ex,d,q1):=ahn;subst ex;obtain rfl:u=Value.ref a:=rx;let(t1,t2,__):=U8 I1 d;show{t1,t2,?_};rw[m.trees];show eI rfl (jF<|f9 (dv (he bi s1 Z H1 _ I1 q1) λiv s2 y H2 I2 ry q2=>f9 (dv (hf bi s2 Z H2 _ I2 q2) λfv s3 z H3 I3 rz ⟨ov,g,q3⟩=>kJ ?_)));show afg hu I3 g ry rz λw' s4 I4 pf=>⟨_,H3,I4,pf,q3⟩
variable{bi:Aaa}{Z:St}{H:Hp}{s:f8}{a:cr}{kvs:List (Key×V)}{A:ss}{E:Aac}
def Zj(I:Inv X bi Z H s)(e:Rd H a (.dK kvs))(h:∀p s',H p=none->Inv X bi Z (upd H p<|.dK kvs) s'->Q (-p) s'):f' 91 A (Go 14 [-a]) Q E s:=by let(z,hd,vs,rel,dd):=wb I.bC e;show kt_call_dict hd dd (rel.length▸z) λh' CW hs=>?_;show h _ _ 69<|I.laid (λb q hq=>(hs.2 b<|aU<|aS hq).trans<|ao _ hq) (aw _)<|CV z (cG.mpr<|cL<|aU I.big) rel CW
end
end L2
namespace Att
open PySem PySem.W PySem.Calls PyProof.Rows
def GQ:∀(ns:List Int)(vs:Aae),WellAll P h vs (ns.map WData.int)->W' vs ns:=by
 ext ns
 induction ns with
 |nil=>
  ext vs w;cases w;show .nil
 |cons n ns ih=>
  ext vs w;cases w with
  |cons a b=>
   cases a;show .cons _ _<|ih _ b
def TM{l:OpenLaw}(hn:l.most>n)
  (R6:l.row.toRowW.claim.pre args=true) (hwl:WellAll P h vals args):
  ∃a vs ns,vals=[Value.ref a]/\args=[WData.list<|ns.map WData.int]/\h.get? a>{cls:=.type "list",data:=.seq vs.toArray}/\W' vs ns/\ns.length<=n:=by
 have hc:l.pre.holds [] {args:=args}=true:=(pre_splitW R6).2;let(d,r,rfl,h1,h2):=hasAllW_cons<|(pre_splitW R6).1;obtain rfl:=hasAllW_nil h2;let(xs,rfl,h3):=hasW_list h1;let(ns,rfl):=items_int h3;have hlen:ns.length<=n:=by
  have h4:(WTm.not<|.lt (.lit<|.int (n:Int))<|.len<|.arg 0).holds [] {args:=[.list<|ns.map .int]}=true:=by have h4:=(holds_andW hc).1;rw[hn]at h4;show h4
  have h5:=condW_of h4<|w_not<|w_lt w_lit<|w_len_list<|w_arg 9;show Nat.le_of_not_lt λq=>?_
  first
   |(rw[bD q']at h5;show absurd h5 (by decide))
   |(simp at h5;lia)
 cases hwl with
 |cons w1 w2=>
  cases w2;cases w1 with
  |list ho yN=>show{_,_,ns,9,9,ho,GQ ns _ yN,hlen}
def T8(l:OpenLaw)(args:List WData):l.row.toRowW.claim.post args 89 args=true:=
 postW_of
  (show WShape.has [] 89 .bool=true by first|rfl|decide|simp[WShape.has,WShape.arms,WShape.armsAll])
  (show(WTm.eq .res<|.lit 89).value [] {args:=args,res:=some 89,after:=args}>.bool (true==true)from w_eq_bool (w_res 9) w_lit) rfl
def Ot{l:OpenLaw}
  (hn:l.most>n) (VH:d.params.defaults=[])
  (Go:∀(w:i6)(aab aaa:f8)(mg mb:Aab)(fa:cr)(o:J')(pm cd doc:i5)(a:cr)(vs:Aae)(ns:List Int),
   Ground q loose [] XP w aab mg mb aaa.heap->YP w aaa.heap->
   aaa.heap.get? fa>o->o.data=.func (docDef d.name d.params d.body d.scope pm cd doc)->aaa.heap.CodeRec cd d.name->mg d.name>.ref fa->
   aaa.heap.get? a>{cls:=.type "list",data:=.seq vs.toArray}->W' vs ns->ns.length<=n->aaa.gens=#[]->
   C' (ii l.prog w) WP (.call (-fa) {[-a],[]}) (λr s'=>r=.ok (.ret 89)/\OldK aaa.heap s'.heap/\s'.os=aaa.os/\KM s'.gens) aaa):
  WalkO q loose XP YP l.row.toRowW d [] (λf vs=>PySem.call f vs):=by
 ext w aab aaa mg mb G Y fa o pm cd doc dV kV ho hd zO hD Vt hg args vals as R6 aiE hrd hwl hlo;obtain rfl:dV=.none:=Dflts.none hD VH;obtain rfl:kV=.none:=Dflts.noKw hD;let(a,vs,ns,rfl,rfl,YF,hints,hlen):=TM hn R6 hwl;show enter_call (jv (Go w aab aaa mg mb fa o pm cd doc a vs ns G Y ho (fd_plain hd) zO Vt YF hints hlen hg) λr s' hq=>?_);let(rfl,h2,h3,h4):=hq;show{.inl {89,89,[],9,λ_=>9,89,T8 l _,λ_=>{List.Pairwise.nil,λ_ hm=>(nomatch hm)}},h2,h3,h4}
section
def ledger(h:nw)(L d:cr):Aaa:=(List.range h.objs.size).filterMap λa=>if a=L\/a=d then none else(h.get? a).map λo=>(a,o)
end
end Att
namespace L2
open PySem PySem.Spec PyProof.Rows
def S8:∀{vs:Aae}{ns:List Int},W' vs ns->Vals (ns.map V.int) vs:=by
 ext _ _ h
 induction h with
 |nil=>show .nil
 |cons n t _ ih=>show .cons ⟨t,rfl⟩ ih
def SE(H:Hp):Prop:=∀b,H b=none\/∃o xs,H b>.fF o (.lst xs)
def Ys{K:Frag}
  (KX:K.In aaa.heap) (yg:aaa.heap.Ns u8 mg) (hb:aaa.heap.Ns Rs mb) (hbb:∀x:i9,x≠"__name__"->mb x=FM x) (ahM:aaa.heap.NoLimit) (hg:aaa.gens=#[])
  (ha:aaa.heap.get? a>{cls:=.type "list",data:=.seq vs.toArray}) (hi:W' vs ns) (hl:ns.length<=dL) (hr:gx k WP)
  (F:∀base:nw,K.In base->base.Ns u8 mg->cN P w K mg base CX k fa fd [x] sp) (agf:∀(s:f8)(u:i5),TD s fd {[u],[]} [(x,u)])
  (EX:∀H:Hp,SE H->bg K H a (ns.map V.int)->sp [-a] H (λv _=>v=.bl true) λ_ _ _=>False)
  (hCX:∀H e s',CX [] H aaa (λ_ _ _=>False) e s'->False):
  C' 97 WP (.call (-fa) {[-a],[]}) (λr s'=>r=.ok (.ret 89)/\OldK aaa.heap s'.heap/\s'.os=aaa.os/\KM s'.gens) aaa:=by
 have rv:=S8 hi;have core:∀H:Hp,SE H->bg K H a (ns.map V.int)->ka P w H aaa.heap->(∀b,H b≠none->b=a)->(H a≠none->K.lookup a=none)->
   C' 97 WP (.call (-fa) {[-a],[]}) (λr s'=>r=.ok (.ret 89)/\OldK aaa.heap s'.heap/\s'.os=aaa.os/\KM s'.gens) aaa:=by
  ext H hO hS bC hA hK;have Qv:∀{b:cr}{o:J'},aaa.heap.get? b>o->H b=none->(FN aaa.heap H).get? b>o:=λe n=>YL e n;have UC:∀{b:cr}{o:J'}{es:Array Db}{ep:Nat},aaa.heap.get? b>o->o.data=.dict es ep->H b=none:=λ{b o es ep} e d=>by
   cases q:H b with
   |none=>rfl
   |some u=>
    have e':=hA b (by rw[q];simp);subst e';rw[ha]at e;cases e;have d':=d;cases d'
  have nsK:∀{b:cr}{m:Aab},aaa.heap.Ns b m->(FN aaa.heap H).Ns b m:=λ{b m} ⟨o,es,ep,e,d,r⟩=>{o,es,ep,Qv e<|UC e d,d,r};have hKb:=λb o e=>Qv (KX b o e) (by
   cases q:H b with
   |none=>rfl
   |some u=>
    have e':=hA b (by rw[q];simp);subst e';rw[hK (by rw[q];simp)]at e;cases e)
  have hM:Mod K mg (FN aaa.heap H):={hKb,nsK yg,{mb,nsK hb,hbb},by let(mc,h1,h2):=ahM;show{mc,nsK h1,h2}};show jv ((F _ hKb<|nsK yg).run WP [] aaa H {[-a],[]} [-a] [-a] _ _ hr ({9,hM,λb o e=>abS e,nr<|VD _ _,trivial,λb hb=>absurd (show b∈([]:Aah)from hb) 84,bC,.of_eq hg}) (agf aaa (-a)) (.cons 9 .nil)<|EX H hO hS) λr s' h=>?_;cases r with
  |error e=>show(hCX H e s' h).elim
  |ok fl=>
   cases fl with
   |next=>show False.elim h
   |brk=>show False.elim h
   |cont=>show False.elim h
   |ret u=>
    let(v,H',os,bare,un,ahJ,r',q):=h;have q':=q;subst q';obtain rfl:u=Value.bool true:=r';show{9,OldK.of_keep λb o e=>?_,os,bare};cases q:H b with
    |none=>show un.keep b o e q (by ext z;show absurd (show b∈([]:Aah)from z) 84) 84
    |some u=>
     rcases hO b with z|⟨ob,xs,z⟩;·rw[q]at z;cases z
     have z2:=un.uj b ob _ z;let(e1,__):=bC b _ z;let(e2,__):=ahJ b _ z2;rw[e]at e1;cases e1;show e2
 cases hk:K.lookup a with
 |some o=>
  have e:=KX a o hk;rw[ha]at e;cases e;show core (λ_=>none) (λ_=>.inl 9) (.inr {_,vs.toArray,_,hk,9,9,9,by rw[aT,hi.length];show hl,by simpa using rv}) (λb u z=>by have z':=z;cases z') (λb z=>absurd 9 z) λz=>absurd rfl z
 |none=>
  show core (λb=>if b=a then some (.fF {cls:=.type "list",data:=.seq vs.toArray}<|.lst<|ns.map V.int)else none) (λb=>?_) (.inl<|.inr ⟨{cls:=.type "list",data:=.seq vs.toArray},aN rfl⟩) (λb u z=>?_) (λb z=>?_) λ_=>hk
  ·by_cases hb:b=a;·show .inr {_,_,aN hb}
   show .inl<|aL hb
  ·by_cases hb:b=a;·have z':=(aN hb).symm.trans z;cases z';subst hb;show{ha,by rw[af];show hl,vs,_,rv,ha}
   have z':=(aL hb).symm.trans z;cases z'
  by_cases hb:b=a;·show hb
  show absurd (aL hb) z
abbrev KOf{K:Frag}{h:nw}(_:K.In h):Frag:=K
def aaU{l:PySem.W.OpenLaw}{K:Params->Frag}{CX:i6->Fo}{sp:i6->Sp}
  (hn:l.most>n) (GZ:n<=dL) (VH:d.params.defaults=[]) (hr:gx k WP)
  (hY:∀(w:i6)(h:nw),YP w h->(K w.params).In h)
  (F:∀(w:i6)(mg:Aab)(fa:cr)(h:nw),(K w.params).In h->h.Ns u8 mg->mg d.name>.ref fa->
   ∃fd:re,(∀(s:f8)(u:i5),TD s fd {[u],[]} [(x,u)])/\
    ∀base:nw,(K w.params).In base->base.Ns u8 mg->cN l.prog w (K w.params) mg base (CX w) k fa fd [x] (sp w))
  (EX:∀(w:i6)(H:Hp)(a:cr)(ns:List Int),ns.length<=n->SE H->bg (K w.params) H a (ns.map V.int)->sp w [-a] H (λv _=>v=.bl true) λ_ _ _=>False)
  (hCX:∀(w:i6)(H:Hp)(s:f8)(e:i5)(s':f8),CX w [] H s (λ_ _ _=>False) e s'->False):
  PySem.W.WalkO q loose XP YP l.row.toRowW d [] (λf vs=>PySem.call f vs):=by
 show Att.Ot hn VH λw aab aaa mg mb fa o pm cd doc a vs ns G Y ho hd zO Vt YF hints hlen hg=>?_;have KX:=hY w _ Y;let(fd,hb,hF):=F w mg fa _ KX G.T.g Vt;show Ys KX G.T.g G.T.b G.T.builtins G.T.nolimit hg YF hints (aR hlen GZ) hr hF hb (λH hO hS=>EX w H a ns hlen hO hS) λH e s'=>hCX w H aaa e s'
abbrev fZ:Fo:=λ_ _ _ _ _ _=>False
abbrev E0:XK:=λ_ _ _=>False
def Kk:Passes fZ X E0:=λ_ _ _ _ _ _ _ h=>h.elim
structure d6(K:Frag)(x Do:i9)(st:wP)(f:cr)(fd:re):Prop where
 ex:∃(oc:i5)(od:Aai)(kV doc pm:i5)(an:Aai)(dC ct:i5)(GB:Aad),
  fd=fnOf x Do (pY st) (nh st) (bI st) .none kV doc pm an dC ct/\K.lookup f>{oc,od,.func fd,GB}/\codeIn K dC Do=true
 kp:keepIn K (-f)=true
section
variable{P:io}{w:i6}{K:Frag}{mg:Aab}{base:nw}
def d6.ok{st:wP}(F:d6 K x Do st f fd)(S:b7 N ps (bI st))
  (R8:∀(dC:i5)(A:ss)(outer:List V')(s:f8)(H:Hp)(vs:Aam)(Q:VK)(E:XK),gx k (A.deeper<|Os Do (bI st) 34 f dC)->sp vs H Q E->
   ∃t,mP (FU fZ P w K mg base N Do (bI st) f dC A outer s H E).nox (nh st) t/\t {nx:=λ_ H'=>Q .cU H',rt:=Q} (start N vs) H) (len:∀vs H Q E,sp vs H Q E->vs.length=ps.length:=by intro _ _ _ _ h;cases h;subst_vars;rfl):cN P w K mg base fZ (k+1) f fd ps sp:=by
 let(oc,od,kV,doc,pm,an,dC,ct,GB,rfl,lk,zO):=F.ex;show aaz lk zO S len λA outer s H vs Q E hr EX=>?_;let(t,h,q):=R8 dC A outer s H vs Q E hr EX;show{t,h.nox,q}
def d6.binds{st:wP}(F:d6 K x Do st f fd)
  (h:∀(kV doc pm:i5)(an:Aai)(dC ct:i5)(us:Aae),us.length=ps.length->SL 218 {us,[]}=pure (ps.zip us)):Binds K fd ps []:=by
 let(oc,od,kV,doc,pm,an,dC,ct,GB,rfl,lk,zO):=F.ex;show .all<|h kV doc pm an dC ct
def ae2{st:wP}{kV doc pm dC ct:i5}(l:K.lookup f>{oc,od,.func 218,GB})
  (c:codeIn K dC Do=true) (k:keepIn K (-f)=true):d6 K x Do st f 218:={⟨oc,od,kV,doc,pm,an,dC,ct,GB,rfl,l,c⟩,k}
def pX(hr:gx k A):A.units+1<wE:=fC (BC (by decide:1<=64) _) hr.units
def bB(h:n<=1000):n<dL:=fC h 7
variable{X:Cx}
def pv(i:Nat)(hN:X.N[i]?>x:=by rfl)(hv:Vis X.env.scope x:=by first|exact Or.inl rfl|exact Or.inr (Or.inl rfl)|exact Or.inr (Or.inr rfl))(hd:35=false:=by decide)
  (zO:(x==("__classdict__":i9))=false:=by decide):PE X 46 (vd i):=adK hN hv hd zO
def mH{A B:Prop}(h:B):if false=true then A else B:=by show h
def ug{A B:Prop}(h:A):if true=true then A else B:=by show h
def dQ{c A B:Prop}[Decidable c](h1:c->A)(h2:¬c->B):if c then A else B:=by
 by_cases h:c;·rw[aN h];show h1 h
 rw[aL h];show h2 h
def aX(H H':Hp):Prop:=∀b o,H b>o->H' b>o
def aX.refl(H:Hp):aX H H:=λ_ _ h=>h
def aX.trans(a:aX H H1)(b:aX H1 H2):aX H H2:=λc o h=>b c o<|a c o h
def aX.free(e:aX H H')(h:H' l=Option.none):H l=Option.none:=by
 cases q:H l with
 |none=>rfl
 |some o=>
  rw[e l o q]at h;cases h
end
section
variable{κ:Type}[DecidableEq κ]
end
def Its(z:i9):It:={λi _=>i<z.cps.size,λi H x H'=>H'=H/\∃c,z.cps[i]?>c/\x=.str ⟨#[c]⟩,λi _=>i=z.cps.size}
def Ir(hh:A.handled=none)(I:cr)(x:i9)(t:Tok):
  Walks prog w A I [I] [I] x.cps.size (SignAt x) (λi h=>h.IsStrIter I (strIterType x) x t i):=by
 unfold strIterType;cases x.cps.all (·<128)with
 |true=>show Walks.strAscii hh I x t
 |false=>show Walks.strWide hh I x t
def JW(x:i9):["enumerate","zip","dict_itemiterator","dict_reverseitemiterator","odict_iterator","itertools.zip_longest","itertools.pairwise"].contains (strIterType x)=false:=by
 unfold strIterType;cases x.cps.all (·<128)with
 |true=>decide
 |false=>decide
def Xl{K:Frag}(it:cr)(z:i9)(t:Tok):Turn P w K tg (Its z) [it] it (λi h=>h.IsStrIter it (strIterType z) z t i) where
 mem:=by simp
 obj:=λi h st b hb=>by
  have e:b=it:=by simpa using hb
  subst e;let(o,e,c,d):=st;show{o,e,λv z=>by rw[d]at z;cases z}
 keep:=λi h h' st k=>by let(o,e,r):=st;show{o,k it 84 o e,r}
 item:=by ext X hP hw hK hc i bi s Z H E I hf st hg;subst hP hw hK;let(f0,f1,f2,f3,f4,f5):=hf it 84;show(Ir (prog:=86) (w:=X.w) 61 it z t).item i s _ _ hg st λv h' tk hv j4 kk=>?_;let(c,u,tL,rfl):=hv;let(o,e,c1,d1):=id j4;show{_,9,G4 e c1 d1 (JW z) {.str ⟨#[c]⟩,H,220,⟨u,rfl⟩,⟨rfl,c,tL,rfl⟩,j4,λb hb=>(hf b hb).1}}
 done:=by ext X hP hw hK hc i bi s Z H E I hf st hg;subst hP hw hK;let(f0,f1,f2,f3,f4,f5):=hf it 84;have e:=hg;subst e;show(Ir (prog:=86) (w:=X.w) 61 it z t).done s _ _ st λh' tk kk=>{9,220}
 self:=λA i s Q E st h=>by
  unfold strIterType at st;cases hx:z.cps.all (·<128)with
  |true=>rw[hx]at st;show wpAny_pyIter_striter_ascii st h
  |false=>rw[hx]at st;show wpAny_pyIter_striter_wide st h
section
variable{X:Cx}{tg:wv}
inductive af7(R:It->Hp->Prop)(x:V)(H1:Hp):Prop
 |mk z (_:x=.str z) (_:R (Its z) H1)
def ag1(tl:TE):TI:=λZ H R=>tl Z H λx H1=>af7 R x H1
def adJ(hl:PE X l tl):PI X tg l (ag1 tl):=by
 ext bi s Z H R I h;show dv 135 λv s1 x H1 I1 r1 q1=>?_;let(z,e,q):=q1;subst e;let(t,rfl):=r1;show wpAny_pyIter_strU ?_;have I2:Inv X bi Z H1 (s1\s1.heap.push {cls:=.type<|strIterType z,data:=.fields #[.str z t,.int 0 0]}):=I1.kept λb o e=>ao _ e;show{22,[22],_,Its z,H1,9,I2,Xl 22 z t,{_,27,9,9},26,q};have e:b=22:=by simpa using hb
 subst e;show I1.w6 (aw _) 16
def frees(scope:AC):Aaf:=(scope.names.filter λp=>p.2==.free).map (·.1)
def nO(scope:AC)(env:V'):List (i9×cr):=(frees scope).reverse.map λn=>(n,(env.cells.lookup n).getD 0)
theorem Ih(env:V'):∀(names:List (i9×Ch))(cs:List (i9×cr)),(∀n∈(names.filter λp=>p.2==.free).map (·.1),∃c,env.cells.lookup n>c)->
  (forIn names cs λ(x:i9×Ch)(r:List (i9×cr))=>(if x.2==.free then do let c<-cellOf env x.1;pure (ForInStep.yield<|(x.1,c)::r)else pure (ForInStep.yield r):KB (ForInStep<|List<|i9×cr)))=
   pure ((((names.filter λp=>p.2==.free).map (·.1)).reverse.map λn=>(n,(env.cells.lookup n).getD 0))++cs)
 |[]=>λcs _=>9
 |(n,k)::r=>λcs h=>by
  rw[sV];cases hk:(k==NameKind.free)with
  |false=>
   have ih:=Ih env r cs (λm hm=>h m (by simpa[eT,hk]using hm));simp only[hk,dq,gh,eT,pure_bind];show ih
  |true=>
   let(c,hc):=h n (by simp[eT,hk]);have h':=λm hm=>h m (by
    simp only[eT,hk,lZ,a9];show az _ hm)
   have ec:cellOf env n=pure c:=by unfold cellOf;rw[hc]
   simp only[hk,lZ,eT,a9,vQ,aJ,gB,cH,nV,iE,ec,pure_bind,hc,Option.getD_some];show(Ih env r ((n,c)::cs) h')
def Hk(h:∀n∈frees scope,∃c,env.cells.lookup n>c):closureFor scope env=pure (nO scope env):=by have e:=Ih env scope.names [] h;rw[eO]at e;have q:closureFor scope env=((forIn scope.names ([]:List (i9×cr)) λ(x:i9×Ch)(r:List (i9×cr))=>(if x.2==.free then do let c<-cellOf env x.1;pure (ForInStep.yield<|(x.1,c)::r)else pure (ForInStep.yield r):KB (ForInStep<|List<|i9×cr)))>>=λr=>pure r):=9;rw[q,bind_pure];show e
theorem Cp{β:Type}(g:i9->β)(y:i9):∀l:Aaf,(l.map λn=>(n,g n)).lookup y=if y∈l then some (g y)else none
 |[]=>by simp
 |n::r=>by
  rw[a9,iS];cases e:(y==n)with
  |true=>
   have e':=d8 e;subst e';simp
  |false=>
   have e':y≠n:=λq=>by rw[q]at e;simp at e
   rw[(Cp g y r)];simp[e']
def jV(h:∀n∈frees scope,∃c,env.cells.lookup n>c):(nO scope env).lookup y>c↔y∈frees scope/\env.cells.lookup y>c:=by
 unfold nO;rw[Cp (λn=>(env.cells.lookup n).getD 0)];by_cases hy:y∈frees scope;·let(d,hd):=h y hy;rw[aN<|xr.mpr hy,hd];simp[hy]
 rw[aL λq=>hy<|xr.mp q];simp[hy]
theorem Cq(f:i9->Ch->Ch)(y:i9):∀names:List (i9×Ch),(names.map λp=>(p.1,f p.1 p.2)).lookup y=(names.lookup y).map (f y)
 |[]=>rfl
 |(n,k)::r=>by
  rw[a9,iS,iS];cases e:(y==n)with
  |true=>
   have e':=d8 e;subst e';rfl
  |false=>show(Cq f y r)
def mX(scope:AC)(env:V')(y:i9):(NE scope env).names.lookup y=(scope.names.lookup y).map λk=>if(k==.free&&env.scope.kind==.function&&env.kindOf y==some .cell)=true then NameKind.cell else k:=by
 have e:(NE scope env).names=scope.names.map λp=>(p.1,(λ(n:i9)(k:Ch)=>if 215=true then NameKind.cell else k) p.1 p.2):=by show dO λp _=>?_;let(n,k):=p;change(if 215=true then(n,NameKind.cell)else(n,k))=_;split<;>simp_all
 rw[e];show Cq (λ(n:i9)(k:Ch)=>if 215=true then NameKind.cell else k) y scope.names
end
structure sX(X:Cx)(scope:AC)(x:i9)(fs:Aaf)(fr:List Nat):Prop where
 kind:scope.kind=.function
 loc:scope.names.lookup x>.local
 names:∀y∈scope.names,y.2=.local->scope.names.lookup y.1>.local
 UA:∀y∈scope.names,y.2≠ .cell
 free:∀n∈frees scope,X.env.kindOf n>.cell/\scope.names.lookup n>.free
 nd:(x::fs).Nodup
 len:fr.length=fs.length
 slots:∀(j:Nat)(y:i9)(k:Nat),fs[j]?>y->fr[j]?>k->X.N[k]?>y/\y∈frees scope
abbrev iD(X:Cx)(N':Aaf)(scope:AC)(C:cr)(s:f8)(H:Hp)(ex:Aah):Cx:=
 {X with N:=N',aab:=s,aae:=H,env:=compEnvC scope (nO scope X.env) C X.env,outer:=37,stack:=37,ex:=ex,fn:=λ_=>false,pn:=[],xe:=λ_ _=>False}
def CT(X:Cx)(ifs:List wv)(tt:TT):Prop:=
 ∀(bi:Aaa)(s:f8)(Z:St)(H:Hp)(Q:Bool->Hp->Prop),Inv X bi Z H s->tt Z H Q->
  f' 91 X.A (forIn ifs true λc r=>if r=true then do let ok<-isTrue c X.env (wf c X.env);pure (ForInStep.yield ok)else pure (ForInStep.yield r)) (TP X bi Z Q) X.xe s
def DL:TT:=λ_ H Q=>Q true H
def Hg:CT X [] DL:=λ_ _ _ H _ I h=>wpAny_tests_nil ⟨H,I,h⟩
def ND(h:PT X c tc):CT X [c] tc:=λbi s Z H Q I hq=>wpAny_tests_one<|h bi s Z H Q I hq
def slotsOf(fr:List Nat)(Z:St):St:=fr.map λk=>(Z[k]?).getD none
def ux(wi:TI)(fr:List Nat)(tt:TT)(te:TE):TE:=λZ H Q=>wi Z H λJ H1=>∃W:Nat->Nat->Aam->Hp->Prop,(∃m,W 0 m [] H1)/\∀i m ys H2,W i m ys H2->
 (J.stop i H2/\48<=dL/\∀l,H2 l=none->Q (-l) (upd H2 l 49))\/
 (J.go i H2/\48<dL/\∀v H3,J.Es i H2 v H3->tt (some v::slotsOf fr Z) H3 λb H4=>
  if b=true then te (some v::slotsOf fr Z) H4 (λy H5=>∃m',m'<m/\W (i+1) m' (ys++[y]) H5)else∃m',m'<m/\W (i+1) m' ys H4)
section
variable{X:Cx}
def uC{h h':nw}(k:∀b o,h.get? b>o->h'.get? b>o)(z:h.IsCell c v):h'.IsCell c v:=by let(o,e,d):=z;show{o,k _ _ e,d}
def Inv.WK{bi:Aaa}{Z:St}{H:Hp}{s:f8}(I:Inv X bi Z H s)(hn:H D=none)(new:cW 86 X.w (upd H D o) s.heap D o)
  (h1:58<=D) (hL:D≠23) (h2:∀x c,X.env.cells.lookup x>c->c≠D) (h3:∀p∈X.pn++bi,p.1≠D):Inv X bi Z (upd H D o) s:=by
 have nD:∀b u,H b>u->b≠D:=λb u q z=>by rw[z,hn]at q;cases q
 have bC:ka 86 X.w (upd H D o) s.heap:=λb u q=>by
  by_cases hb:b=D;·subst hb;rw[aF]at q;cases q;show new
  rw[aI hb]at q;show(I.bC b u q).qt (λ_ _ _ z=>z) (λc z=>by rw[aI<|nD c _ z];show z) λc xs z=>by rw[aI<|nD c _ z];show z
 have J:=I.step (H':=upd H D o) (h':=s.heap) (g':=s.gens) (t':=21) (d':=s.drawn) (ch:=[D])
  (λb hb=>by
   have e':b=D:=by simpa using hb
   subst e';show{.inr h1,hL,h2,h3})
  (λb o _ _ _ q _=>q) (λb o _ _ _ q _=>{o.slots,q}) (λb o hc _ n=>by rw[aI λz=>hc (by simp[z])];show n) (λb o _ q=>⟨o,q⟩)
  (λb xs q=>by rw[aI<|nD b _ q];show q) (λb o u q=>by rw[aI<|nD b _ q];show q) (λb ps q=>{#[],by rw[aI<|nD b _ q,q];simp}) (λm hm=>hm) bC I.bare
 show J
def Inv.adopt(I:Inv X bi Z H s)(hn:H D=none)(e:s.heap.get? D>{cls:=.type "list",data:=.seq vs.toArray k})(r:Vals ys vs)(hz:48<=dL)
  (h1:58<=D) (hL:D≠23) (h2:∀x c,X.env.cells.lookup x>c->c≠D) (h3:∀p∈X.pn++bi,p.1≠D):Inv X bi Z (upd H D 49) s:=I.WK hn ⟨hz,vs,k,r,e⟩ h1 hL h2 h3
def acx(S:sX X scope x fs fr)(I2:Inv X bi Z H s2)(I3:Inv X bi Z H s)
  (hD:D=94) (hs:34=D+1) (cb:∀b∈fp,b<D) (f2:∀b∈fp,oC X bi H b):(iD X (x::fs) scope 34 s H<|D::fp).Ok:=by
 have qm:=λn hn=>I3.ok.has n<|.inl (S.free n hn).1;have sub:∀{y:i9}{c:cr},(nO scope X.env).lookup y>c->X.env.cells.lookup y>c:=λh=>((jV qm).mp h).2;show{I3.ok.mod,S.kind,I3.ok.glob,I3.ok.blt,aw _,λa b c h1 h2=>I3.ok.inj a b c (sub h1)<|sub h2,λy hy=>?_,(λ_ _ h=>by cases h),I3.ok.hd,I3.ok.frames,.inl rfl,26,I3.bs,aR I3.ok.yp I3.sz,λb o e hb=>?_,λb hb hf=>?_,I3.stack,I3.DM}
 ·have q:(NE scope X.env).names.lookup y>.cell\/(NE scope X.env).names.lookup y>.free:=hy;have nf:scope.names.lookup y>.free:=by
   rw[mX]at q;cases e:scope.names.lookup y with
   |none=>rw[e]at q;simp at q
   |some k=>
    rw[e]at q;cases k with
    |free=>rfl
    |cell=>
     have hm:(y,NameKind.cell)∈scope.names:=by have:=lW.mp e;let(l1,l2,z,__):=this;rw[z];simp
     show absurd rfl (S.UA _ hm)
    |_=>simp at q
  have hm:y∈frees scope:=by let(l1,l2,z,__):=lW.mp nf;unfold frees;rw[z];simp
  let(c,hc):=qm y hm;show{c,(jV qm).mpr ⟨hm,hc⟩}
 ·rcases aK.mp hb with rfl|hb
  ·show{λz=>?_,λy c h z=>?_};·show absurd (hs.symm.trans z.symm:b+1=b) (rp b)
   let(v,q):=I2.cell y c<|sub h;have:=q.lt;rw[z,hD]at this;show absurd this<|da _
  show{λz=>?_,λy c h=>(f2 b hb).2.2.2.2.1 y c<|sub h};have q:=iz<|cb b hb;rw[z]at q;show absurd q (by change ¬34<D+1;rw[hs];show da _)
 ·have gm:=aS e;have h1:=I2.ok.yp;rcases aK.mp hb with rfl|hb;·rw[hD]at gm;show absurd (bf gm<|aR h1 I2.sz) (da _)
  rcases(f2 b hb).2.2.2.1 with z|z;·show I2.ok.Ay b o e z
  show absurd (bf gm<|aR h1 z)<|da _
 have hf':=hf;rcases aK.mp (I2.Ge b hf')with z|z
 ·rcases aK.mp hb with rfl|hb;·have:=I2.lt;rw[<-z,hD]at this;show absurd this (da _)
  show(f2 b hb).2.1 z
 rcases aK.mp hb with rfl|hb;·show I2.Yn (nr hD.symm) z
 show(f2 b hb).2.2.1 z
def Zn(S:sX X scope x fs fr)(I3:Inv X bi Z H s)
  (ok:(iD X (x::fs) scope 34 s H ex).Ok) (hn:h4.Ns 34 m) (old:∀b o,s.heap.get? b>o->h4.get? b>o):
  Inv (iD X (x::fs) scope 34 s H ex) [] (none::slotsOf fr Z) H (s\(h4,t)):=by
 have qm:=λn hn=>I3.ok.has n<|.inl (S.free n hn).1;have sub:∀{y:i9}{c:cr},(nO scope X.env).lookup y>c->X.env.cells.lookup y>c:=λh=>((jV qm).mp h).2;show{ok,9,I3.bare,Un.kept old,{m,hn,λi y v e1 e2 e3=>?_},λy c h=>?_,I3.bC.fresh<|aw _,λy c h=>I3.kN y c<|sub h,λp hp=>absurd hp 84,I3.bC.kept old,?_}
 ·cases i with
  |zero=>
   have uX:(none:Aan)>v:=by simpa using e2
   cases uX
  |succ j=>
   have uX:(slotsOf fr Z)[j]?>some v:=by simpa using e2
   unfold slotsOf at uX;rw[aW]at uX;cases hk:fr[j]? with
   |none=>rw[hk]at uX;cases uX
   |some k=>
    rw[hk]at uX;have e4:(Z[k]?).getD none>v:=by simpa using uX
    have e5:Z[k]?>some v:=by
     cases q:Z[k]? with
     |none=>rw[q]at e4;cases e4
     |some z=>rw[q]at e4;show dX some e4
    let(n1,n2):=S.slots j y k (↑e1) hk;let(m0,__,hl):=I3.loc;let(u,ru,l):=hl k y v n1 e5<|.inr<|.inl (S.free y n2).1;have kc:=(S.free y n2).1;rcases l with⟨l,_⟩|⟨_,c,hc,cl⟩;·rw[kc]at l;cases l
    show{u,ru,.inr {.inl ?_,c,(jV qm).mpr ⟨n2,hc⟩,uC old cl}};change(NE scope X.env).names.lookup y>.cell;rw[mX,(S.free y n2).2,I3.ok.kind,kc];rfl
 ·let(v,z):=I3.cell y c<|sub h;show{v,uC old z}
 change(none::slotsOf fr Z).length=(x::fs).length;simp[slotsOf,S.len]
abbrev lobj(vs:Aae)(k:Nat):J':={cls:=.type "list",data:=.seq vs.toArray k}
def wm(h:AE k v=true):RelV (kV k) v:=by
 rcases jm h with⟨i,t,rfl,rfl⟩|⟨x,t,rfl,rfl⟩;·show⟨t,rfl⟩
 show⟨t,rfl⟩
def range_all(bs:List Bool):((List.range bs.length).all λi=>(bs[i]?).getD true)=bs.all id:=by
 rw[f7,cz,cz];constructor;·ext h b hb;let(i,hi):=gS.mp hb;have:=h i<|cZ.mpr (aq.mp hi).1;rw[hi]at this;show this
 ext h i hi;have cb:=cZ.mp hi;rw[au cb];show h _<|lG cb
def uo(hc:X.calm=true):fD X (.builtin "all") (λxs H Q=>∃(a:cr)(bs:List Bool),xs=[-a]/\bg X.K H a (bs.map V.bl)/\Q (.bl<|bs.all id) H):=by
 ext bi s Z H xs us Q I r h;let(a,bs,rfl,ha,q):=h;let(u,rfl,ru):=jn r;cases ru;let(aM,rv,p,hz):=I.list ha;have hl:aM.length=bs.length:=by have:=rv.length;simpa using this.symm
 have gO:a≠34:=by let(o,n,e,__):=id p;show aU<|aS e
 show call_all_walk<|kE p.isList ?_;show{34,_,_,aM.toArray.size,_,_,λi=>(bs[i]?).getD true,9,AS (show X.A.in1.handled=none from I.ok.hd hc) 34 a gO aM.toArray,{{_,27,9,9},p.isList.at λo e=>ao _ e},?_,λh' tk kp=>?_}
 ·ext i v s' Q' E' hP hQ;have VQ:aM[i]?>v:=by simpa using hP
  have hi:i<bs.length:=by rw[<-hl];show(aq.mp VQ).1
  let(u,hu,ru):=rv.get (by rw[aW,au hi];rfl);rw[VQ]at hu;cases hu;cases ru;show ix ?_;have e2:(bs[i]?).getD true=bs[i]:=by rw[au hi];rfl
  rw[<-e2];show hQ
 show{.bl<|bs.all id,H,I.kept λb o e=>kp b o (↑(aU<|aS e))<|ao _ e,?_,q};change Value.bool _=Value.bool _;rw[aT,hl,range_all]
def kX:fD X 120 (λxs H Q=>∃x n t b,xs=[x,.ty n]/\rj X.K H x t/\kitOne X.K t (.type n)>b/\Q (.bl b) H):=by ext bi s Z H xs us Q I r h;let(x,n,t,b,rfl,ty,e,q):=h;let(u,w',rfl,ru,pf):=uw r;cases pf;show U7 I ru ty e λtk=>{.bl b,H,I.tok tk,9,q}
inductive abq(x:V)(vs:Aam)(H:Hp)(Q:VK):Prop
 |mk a b (_:x=.str a) (_:vs=[.str b]) (_:Q (.bl<|Txt.startswith a b) H)
def Kd:NU X "str.startswith" abq:=by ext bi s Z H x vs v us Q I rx rv h;let(a,b,rfl,rfl,q):=h;let(t,rfl):=rx;let(u,rfl,ru):=rv.one;let(t',rfl):=ru;show call_gives F.slot_str_startswith (kK s a t) F.entry_str_startswith (F.args_str_startswith_2 _ _) (gives_str_startswith a b t t') {.bl _,H,I,9,q}
inductive agG(x:V)(lo:Option Int)(hi:Option Int)(H:Hp)(Q:VK):Prop
 |mk z (_:x=.str z) (_:z.length<=dL) (_:Q (.str<|Txt.slice z lo hi) H)
def TJ:WN X agG:=by
 ext bi s Z H x v vl vu lo hi sl Q I rx hs pl pu h;let(z,rfl,hz,q):=h;let(t,rfl):=rx;cases pl with
 |none=>
  cases pu with
  |none=>show{"str",_,F.slot_str_getitem.lookup,kK _ _ _,lQ (l:=none) (u:=none) (st:=none) hs rfl 177}
  |int j tj=>show{"str",_,F.slot_str_getitem.lookup,kK _ _ _,lQ (l:=none) (u:=some (j,tj)) (st:=none) hs rfl 177}
 |int i ti=>
  cases pu with
  |none=>show{"str",_,F.slot_str_getitem.lookup,kK _ _ _,lQ (l:=some (i,ti)) (u:=none) (st:=none) hs rfl 177}
  |int j tj=>show{"str",_,F.slot_str_getitem.lookup,kK _ _ _,lQ (l:=some (i,ti)) (u:=some (j,tj)) (st:=none) hs rfl 177}
def ags(_i j:Int):Prop:=0<j/\j.natAbs.log2<9000
def FE:kn X (Ix .FloorDiv) (rI ags λi j=>.int<|i/j):=opI λi j _ _ _ _ _ hc q=>by have h1:=hc.1;show floordiv_int ∅ (by rw[Int.fdiv_eq_ediv_of_nonneg i ∅];show q) (.inl<|PyProof.noPylong_of_log2 hc.2)
mutual
def Dt(K:Frag)(H:Hp):PyData->V->Prop
 | .none,x=>x=.cU
 | .bool b,x=>x=.bl b
 | .int i,x=>x=.int i
 | .str z,x=>x=.str z
 | .list ds,x=>∃a xs,x=-a/\bg K H a xs/\nW K H ds xs
 | .tuple ds,x=>∃a xs,x=-a/\bA K H a xs/\nW K H ds xs
 | .dict _,_=>False
def nW(K:Frag)(H:Hp):List PyData->Aam->Prop
 |[],xs=>xs=[]
 |d::ds,xs=>∃x r,xs=x::r/\Dt K H d x/\nW K H ds r
end
mutual
theorem wJ(I:Inv X bi Z H s):∀(d:PyData)(x:V)(v:i5),Dt X.K H d x->RelV x v->∃as,Reads s.heap v d as
 | .none=>λx v h r=>by rw[Dt]at h;subst h;cases r;show{_,.none}
 | .bool b=>λx v h r=>by rw[Dt]at h;subst h;cases r;show{_,.bool b}
 | .int i=>λx v h r=>by rw[Dt]at h;subst h;let(t,rfl):=r;show{_,.int i t}
 | .str z=>λx v h r=>by rw[Dt]at h;subst h;let(t,rfl):=r;show{_,.str z t}
 | .list ds=>λx v h r=>by rw[Dt]at h;let(a,xs,rfl,hq,ha):=h;cases r;obtain⟨aM,rv,⟨o,n,e,c,_,d⟩,_⟩:=I.list hq;let(as,ra):=yG I ds xs aM ha rv;show{_,.list e c d<|↑ra}
 | .tuple ds=>λx v h r=>by rw[Dt]at h;let(a,xs,rfl,hq,ha):=h;cases r;obtain⟨aM,rv,⟨o,e,c,n,d⟩,_⟩:=I.tuple hq;let(as,ra):=yG I ds xs aM ha rv;show{_,.tuple e c d<|↑ra}
 | .dict _=>λx v h r=>by rw[Dt]at h;show h.elim
theorem yG(I:Inv X bi Z H s):∀(ds:List PyData)(xs:Aam)(vs:Aae),nW X.K H ds xs->Vals xs vs->∃as,Tl s.heap vs ds as
 |[]=>λxs vs h r=>by rw[nW]at h;subst h;cases r;show{_,.nil}
 |d::ds=>λxs vs h r=>by
  rw[nW]at h;let(x,r',rfl,h1,h2):=h;cases r with
  |cons r1 r2=>
   let(as,q1):=wJ I d x _ h1 r1;let(bs,q2):=yG I ds r' _ h2 r2;show{_,.cons q1 q2}
end
theorem AN{K:Frag}:∀zs:Aaf,nW K H (zs.map PyData.str) 57
 |[]=>by rw[gB,nW];rfl
 |z::r=>by show{_,_,9,by rw[Dt],AN r}
theorem Fb:∀xs ys:Aaf,PyData.eqvAll (xs.map PyData.str) (ys.map PyData.str)=decide (xs=ys)
 |[],[]=>by simp[PyData.eqvAll]
 |[],_::_=>by simp[PyData.eqvAll]
 |_::_,[]=>by simp[PyData.eqvAll]
 |a::r,b::t=>by simp only[a9,PyData.eqvAll,PyData.eqv,Fb r t];by_cases h:a=b<;>by_cases h':r=t<;>simp[h,h']
theorem Mn:∀zs:Aaf,(∀z∈zs,PyData.strOk z=true)->PyData.canLayAll0 (zs.map PyData.str)=true
 |[],_=>rfl
 |z::r,h=>by simp[PyData.canLayAll0,PyData.canLay0,h z ay,(Mn r λy hy=>h y<|az _ hy)]
theorem He:∀zs:Aaf,PyData.depthAll (zs.map PyData.str)=0
 |[]=>rfl
 |_::r=>by simp[PyData.depthAll,PyData.depth,He r]
def Su(osc:AC)(N:Aaf)(scope:AC)(x:i9)(fs:Aaf)(fr:List Nat):Bool:=
 scope.kind==.function&&scope.names.lookup x==some .local&&scope.names.all (λy=>!(y.2==.local)||scope.names.lookup y.1==some .local)&&scope.names.all (λy=>!(y.2==.cell))&&
  (frees scope).all (λn=>osc.names.lookup n==some .cell&&scope.names.lookup n==some .free)&&decide ((x::fs).Nodup)&&fr.length==fs.length&&
  (List.range fs.length).all (λj=>match fs[j]?,fr[j]? with|some y,some k=>N[k]?==some y&&decide (y∈frees scope)|_,_=>false)
end
def eF(h:Su X.env.scope X.N scope x fs fr=true:=by kernel_rfl):sX X scope x fs fr:=by
 unfold Su at h;simp only[bT]at h;obtain⟨⟨⟨⟨⟨⟨⟨h1,h2⟩,h3⟩,h4⟩,h5⟩,h6⟩,h7⟩,h8⟩:=h;show{d8 h1,d8 h2,λy hy e=>?_,λy hy e=>?_,λn hn=>?_,bz h6,d8 h7,λj y k e1 e2=>?_};·have:=cz.mp h3 y hy;rw[e]at this;simpa using this
 ·have:=cz.mp h4 y hy;rw[e]at this;simp at this
 ·have:=cz.mp h5 n hn;rw[bT]at this;show{d8 this.1,d8 this.2}
 have:=cz.mp h8 j<|cZ.mpr (aq.mp e1).1;rw[e1,e2]at this;simp only[bT]at this;show{d8 this.1,bz this.2}
def dh(P:io)(w:i6)(K:Frag)(mg:Aab)(base:nw)(k:Nat)(x:i9)(ps:Aaf)(sp:Sp):Prop:=
 ∃f fd,cN P w K mg base fZ k f fd ps sp/\mg x>-f/\keepIn K (-f)=true/\Binds K fd ps []
def cl(D:dh 86 X.w X.K X.mg X.base k x ps sp)(hr:gx j X.A)(ha:PA X (e::es) t)(hk:k<=j:=by decide)(hg:Gl X x:=by rfl)
  (su:35=false:=by decide) (he:jp (e::es) X.env=(false,wf e X.env)::jp es X.env:=by rfl) (iu:(Da pos 73).any (·.1)=false:=by rfl):
  PE X 116 (QN sp [] E0 t):=by
 let(f,fd,F,m,kp,b):=D;show Pj F (hr.mono hk) hg m kp b .nil Kk ha su he iu
def FG:fillsNumberSlot (.type "tuple") "mul"=pure false:=
 PySem.fillsNumberSlot_seq (id:="tuple.__mul__") (r:=some<|.builtin "tuple.__rmul__") xx.lookup 59 F.slot_tuple_rmul.lookup 59
def Lu:seqRepeat? (.type "tuple")=pure (some<|.builtin "tuple.__mul__"):=by unfold seqRepeat?;rw[PySem.seqSlot_of (T:="tuple") (name:="__mul__") (id:="tuple.__mul__") xx.lookup 59,PySem.seqSlot_of (T:="tuple") (name:="__rmul__") (id:="tuple.__rmul__") F.slot_tuple_rmul.lookup 59];rfl
def HW(a:Int)(t:Tok)(l:cr)(dd:Aai)(items:Aaj)(n:Nat)(sl:Aad):
  Meets (Builtin.«int.__rmul__» {[.int a t,-l],[]}) (λ_ R s=>s.heap.get? l>{cls:=.type "tuple",dict:=dd,data:=.seq items n,slots:=sl}/\R (.ok<|.ret Value.notImplemented) s):=
 .of_wp λprog w A R s h=>by let(hp,g,d,tk,os):=s;let(hl,h):=h;wp_walk;show⟨_,rfl,h⟩
def Ti(l:cr)(dd:Aai)(items:Aaj)(n:Nat)(sl:Aad)(x:Int)(u:Tok)(h2:2<=x)(hx:x<2^63)(gO:items.isEmpty=false)(ahY:¬(items.size:Int)*x⊃(2^63 -1)/08)(hm:Builtin.Tuple.tupleTooMany ((items.size:Int)*x)=false)
  (hz:(List.foldl (λx1 x2=>x1++x2) #[] (List.replicate x.toNat items)).size<=dL):
  Meets (Builtin.«tuple.__mul__» {[-l,.int x u],[]}) (λ_ R s=>s.heap.get? l>{cls:=.type "tuple",dict:=dd,data:=.seq items n,slots:=sl}/\R (.ok<|.ret<|.ref 34) {s with heap:=s.heap.push {cls:=.type "tuple",data:=.seq<|List.foldl (λx1 x2=>x1++x2) #[] (List.replicate x.toNat items)},toks:=21}):=
 .of_wp λprog w A R s h=>by
  let(hp,g,d,tk,os):=s;let(hl,h):=h;have c1:(decide (x< -(2^63))||decide (x≥2^63))=false:=by rw[bQ ∅,bQ ∅];rfl
  have c2:(x==1)=false:=by simp;lia
  have c3:decide (x<=0)=false:=bQ ∅
  wp_walk using wpAny_loadPart' hl
  show wpAny_ite_false (by rw[c1];rfl) ?_
  wp_walk using wpAny_loadPart' hl
  show wpAny_ite_false (bQ ahY) ?_
  wp_walk using wpAny_loadPart' hl
  show⟨_,rfl,h⟩
section
variable{X:Cx}
inductive afS(K:Frag)(x:V)(y:V)(H:Hp)(Q:VK):Prop
 |mk a k xs (_:x=-a) (_:y=.int k) (_:bA K H a xs) (_:xs≠[]) (_:2<=k) (_:k<=1000) (_:xs.length<=1000) (_:∀p,H p=none->Q (-p) (upd H p<|.tup (List.replicate k.toNat xs).flatten))
def abJ:kn X (Ix .Mult) (afS X.K):=by
 ext bi s Z H x y v u Q I rx ry h;let(a,k,xs,rfl,rfl,hH,gO,h1,h2,hz,q):=h;cases rx;let(t,rfl):=ry;obtain⟨aM,r,⟨⟨cls,dd,data,sl⟩,e,hc,n,hd⟩,z⟩:=I.tuple hH;simp only at hc hd;subst hc hd;have hl:=r.length;have aau:List.foldl (λx1 x2=>x1++x2) #[] (List.replicate k.toNat aM.toArray)=(List.replicate k.toNat aM).flatten.toArray:=by have:=foldl_rep aM k.toNat [];rw[iE]at this;show this
 have hlen:((List.replicate k.toNat aM).flatten).length<=1000000:=by rw[len_rep];show aR (ni (show k.toNat<=1000 by lia) (show aM.length<=1000 by lia)) 7
 have MM:(1000000:Nat)<=dL:=by rw[bW];decide
 have ais:(aM.toArray.size:Int)*k<=1000000:=by rw[aT];have e1:(aM.length:Int)*k<=1000*1000:=Int.mul_le_mul ∅ h2 ∅ 7;lia
 have aeW:aM.toArray.isEmpty=false:=by
  cases aM with
  |nil=>cases r;show absurd rfl gO
  |cons b l=>rfl
 show wpAny_binaryOp_repeat_ref (T:="tuple") (U:="int") 7 ⟨_,e,rfl⟩ (λs'=>F8 s' k t) FG F.fills_int_mul F.slot_int_rmul Lu F.slot_int_index.lookup
  (mB F.slot_int_rmul (F8 s k t) F.entry_int_rmul (F.args_int_rmul_2 _ _) (HW k t a dd aM.toArray n sl)
   {e,rfl,⟨_,e,rfl⟩,mB xx ⟨_,e,rfl⟩ F.entry_tuple_mul (F.args_tuple_mul_2 _ _) (Ti a dd aM.toArray n sl k t h1 ∅ aeW ∅ (by
    unfold Builtin.Tuple.tupleTooMany;show bQ ?_;have:((1000000:Nat):Int)<=(dL:Int):=Int.ofNat_le.mpr MM;lia) (by rw[aau,aT];show aR hlen MM)) {e,?_}})
 rw[aau];show{.ref 34,_,I.laid (t':=21) (o:=.tup (List.replicate k.toNat xs).flatten) (λb ob q=>ao _ q) (aw _) ?_,9,q _ 69};show{?_,_,r.rep k.toNat,IsTup.new _ _,_,27,9};rw[len_rep];show aR (ni (show k.toNat<=1000 by lia) hz) (by rw[bW];decide)
end
def cut(n:Nat)(C:St->Hp->Prop)(ht:∃t2,mP X (body.drop n) t2/\∀Z H,C Z H->t2 D Z H)
  (hh:∀t2,mP X (body.drop n) t2->∃t,mP X body t/\((∀Z H,C Z H->t2 D Z H)->t D σ0 H0)):∃t,mP X body t/\t D σ0 H0:=by
 let(t2,p,q):=ht;let(t,p',q'):=hh t2 p;show{t,p',q' q}
def Ig{B:St->Hp->Prop}(n:Nat)(C:St->Hp->Prop)(ht:∃t2,mP X (body.drop n) t2/\∀Z H,C Z H->t2 D Z H)
  (hh:∀t2,mP X (body.drop n) t2->∃t,mP X body t/\((∀Z H,C Z H->t2 D Z H)->∀Z H,B Z H->t D Z H)):∃t,mP X body t/\∀Z H,B Z H->t D Z H:=by
 let(t2,p,q):=ht;let(t,p',q'):=hh t2 p;show{t,p',q' q}
def XZ(hg:Gl X x)(hm:∃t,X.mg x>.int i t)(hd:35=false:=by decide):PE X 46 (tC<|.int i):=by let(t,hm):=hm;show HJ hg hm ⟨t,rfl⟩ hd
def XY(hg:Gl X x)(hm:∃t,X.mg x>.str z t)(hd:35=false:=by decide):PE X 46 (tC<|.str z):=by let(t,hm):=hm;show HJ hg hm ⟨t,rfl⟩ hd
section
variable{X:Cx}{K:Frag}
def wX(h:X.K=K:=by rfl):QB X (adF K):=h▸eJ
def zL(h:X.K=K:=by rfl):QB X (adE K):=h▸fh
def C4(h:X.K=K:=by rfl):fD X (.builtin "len") (λxs H Q=>∃x n,xs=[x]/\afp K x H n/\Q (.int n) H):=h▸dD
def GD(h:X.K=K:=by rfl):kn X (v4 .In) (rIn K false):=h▸Up
def pT{A B:Hp->Prop}(h:A H):DL Z H (λb H4=>if b=true then A H4 else B H4):=by change(if true=true then A H else B H);show h
end
end L2
namespace HT
open PySem PySem.Spec PyProof.Rows
section
variable{prog:io}{w:i6}{A:ss}{E:Aac}{s:f8}
def By{t sl:cr}{items:Aaj}{vl vu:i5}{lo hi:Option Int}{Q:Aac}(ht:IsTup s.heap t items)(hs:s.heap.IsSliceOf sl vl vu .none)(pl:Ps vl lo)(pu:Ps vu hi)
  (hw:eW items.size 0 lo=0/\eW items.size items.size hi=items.size) (h:Q (-t) s):f' 85 A (getItem (-t) (-sl)) Q E s:=by
 let(os,MQ,hcs,VG):=id hs;unfold getItem
 try with_reducible show bP ?_
 first|show ae (ah ?_)|skip
 show ae<|D7 ht.typeIs 7 ?_;show ae (pc ht.typeIs fk
  (bN fk ht.typeIs Bz ?_ (C5 _ _)))
 change f' _ _ (Builtin.Tuple.tupleItemsOf (-t)>>=_) _ _ s;show ae<|tupleItemsOf_ ht ?_;show ae<|gX (⟨os,MQ,hcs⟩) ?_;show ae<|wC hs pl pu ?_;have ahy:175=true:=by rw[hw.1,hw.2];simp
 change f' _ _ (if 175=true then _ else _) _ _ s;rw[aN ahy];show ae<|ae<|gX ht.typeIs ?_;show ah ?_
 wp_walk
 show{_,9,ah h}
end
end HT
namespace L2
open PySem PySem.Spec PyProof.Rows
section
variable{X:Cx}
inductive adD(K:Frag)(x:V)(lo:Option Int)(hi:Option Int)(H:Hp)(Q:VK):Prop
 |mk a xs (_:x=-a) (_:bA K H a xs) (_:((HT.eW xs.length 0 lo=0/\HT.eW xs.length xs.length hi=xs.length)->Q (-a) H)) (_:(¬(HT.eW xs.length 0 lo=0/\HT.eW xs.length xs.length hi=xs.length)->∀p,H p=none->Q (-p) (upd H p<|.tup<|lR xs lo hi)))
def abd:WN X (adD X.K):=by
 ext bi s Z H x v vl vu lo hi sl Q I rx hs pl pu h;let(a,xs,rfl,hx,q1,q2):=h;by_cases hw:HT.eW 42 0 lo=0/\HT.eW 42 42 hi=42;·cases rx;let(aM,r,ht,hz):=I.tuple hx;have hlen:aM.toArray.size=42:=aT▸r.length.symm;show{"tuple",_,fk.lookup,ht.typeIs,HT.By ht hs pl pu (by rw[hlen];show hw) {-a,H,I,9,q1 hw}}
 show adp bi s Z H (-a) v vl vu lo hi sl Q I rx hs pl pu {a,xs,9,hx,hw,q2 hw}
inductive agI(K:Frag)(neg:Bool)(x:V)(y:V)(H:Hp)(Q:VK):Prop
 |mk a b xs (_:x=-a) (_:y=-b) (_:bg K H a xs) (_:bg K H b []) (_:Q (.bl (if neg then !xs.isEmpty else xs.isEmpty)) H)
def LV(hu:X.A.units<wE):kn X (v4 .Eq) (agI X.K false):=by
 ext bi s Z H x y v u Q I rx ry h;let(a,b,xs,rfl,rfl,ha,hb,q):=h;cases rx;cases ry;let(aM,r1,p1,__):=I.list ha;let(FJ,r2,p2,__):=I.list hb;cases r2;cases xs with
 |nil=>
  cases r1;show SeqAt.eq_listAt (e:=λ_=>true) p1.isList p2.isList rfl hu (λj h1 _=>absurd h1<|fX _) {.bl true,H,I,9,q}
 |cons c l=>
  cases r1 with
  |cons r0 r1=>show SeqAt.eq_list_lengthsAt p1.isList p2.isList 84 hu {.bl false,H,I,9,q}
variable{K:Frag}{a:cr}{xs:Aam}{fr:List Nat}{tt:TT}{te:TE}{Z:St}{H1:Hp}{R:cr->Aam->Hp->Prop}
abbrev F4(J:It)(fr:List Nat)(tt:TT)(te:TE)(Z:St)(H1:Hp)(R:cr->Aam->Hp->Prop):Prop:=
 ∃W:Nat->Nat->Aam->Hp->Prop,(∃m,W 0 m [] H1)/\∀i m ys H2,W i m ys H2->
 (J.stop i H2/\48<=dL/\∀l,H2 l=none->R l ys H2)\/
 (J.go i H2/\48<dL/\∀v H3,J.Es i H2 v H3->tt (some v::slotsOf fr Z) H3 λb H4=>
  if b=true then te (some v::slotsOf fr Z) H4 (λy H5=>∃m',m'<m/\W (i+1) m' (ys++[y]) H5)else∃m',m'<m/\W (i+1) m' ys H4)
def xi(Pv:Nat->Aam->Hp->Prop)(hx:42<dL)(h0:Pv 0 [] H1)(hl:∀i ys H,i<=42->Pv i ys H->bA K H a xs/\48<=i)
  (hs:∀(i:Nat)(x:V)(ys:Aam)(H:Hp)(N:Aam->Hp->Prop),xs[i]?>x->Pv i ys H->(∀jX H',Pv (i+1) jX H'->N jX H')->
   tt (some x::slotsOf fr Z) H λb H4=>if b=true then te (some x::slotsOf fr Z) H4 150 else N ys H4)
  (hd:∀ys H,Pv 42 ys H->∀l,H l=none->R l ys H):F4 (WS K a) fr tt te Z H1 R:=by
 show{λi m ys H=>m=42 -i/\i<=42/\Pv i ys H,{42,84,aQ _,h0},?_};ext i m ys H ⟨rfl,hi,p⟩;let(q,hy):=hl i ys H hi p;by_cases cb:i<42;·show .inr {{xs,_,q,au cb},8,?_};ext v H3 ⟨rfl,hv⟩;show hs i v ys H3 (λjX H'=>∃m',m'<42 -i/\m'=42 -(i+1)/\i+1<=42/\Pv (i+1) jX H') (hv xs q) p λjX H' p'=>{_,8,9,cb,p'}
 have e:i=42:=by lia
 subst e;show .inl {{xs,q,aw _},8,hd ys H p}
def j9(Pv:Nat->Aam->Hp->Prop)(hx:42<dL)(h0:Pv 0 [] H1)(hl:∀i ys H,i<=42->Pv i ys H->bg K H a xs/\48<=i)
  (hs:∀(i:Nat)(x:V)(ys:Aam)(H:Hp)(N:Aam->Hp->Prop),xs[i]?>x->Pv i ys H->(∀jX H',Pv (i+1) jX H'->N jX H')->
   tt (some x::slotsOf fr Z) H λb H4=>if b=true then te (some x::slotsOf fr Z) H4 150 else N ys H4)
  (hd:∀ys H,Pv 42 ys H->∀l,H l=none->R l ys H):F4 (WT K a) fr tt te Z H1 R:=by
 show{λi m ys H=>m=42 -i/\i<=42/\Pv i ys H,{42,84,aQ _,h0},?_};ext i m ys H ⟨rfl,hi,p⟩;let(q,hy):=hl i ys H hi p;by_cases cb:i<42;·show .inr {{xs,_,q,au cb},8,?_};ext v H3 ⟨rfl,hv⟩;show hs i v ys H3 (λjX H'=>∃m',m'<42 -i/\m'=42 -(i+1)/\i+1<=42/\Pv (i+1) jX H') (hv xs q) p λjX H' p'=>{_,8,9,cb,p'}
 have e:i=42:=by lia
 subst e;show .inl {{xs,q,aw _},8,hd ys H p}
end
section
variable{P:io}{w:i6}{A:ss}{E:Aac}{z:f8}
def vZ(g:z.heap.IsTupleIter j p k)(gp:z.heap.IsTuple p aM)(gy:aM[k]?>y)
  (q:∀h',h'.IsTupleIter j p (k+1)->Heap.SameBut j z.heap h'->Q y (z\h')):f' 97 A (Builtin.SmallTypes.nextOf (-j)) Q E z:=by
 let(ob,g0,g1,g2):=id g;let(op,p0,__,np,p2):=gp;show ae<|pc g.typeIs kD<|bN kD g.typeIs u6 ?_ (uq _);change f' _ _ (field (-j) 0>>=_) _ _ z;show ae<|cR g0 g2 9 ?_;show ae<|cR g0 g2 9 ?_;show ae<|cY p0 p2 ?_;simp only[dU,gy];show ae<|dY g0 g2 84<|ah {y,9,ah<|q _ ({_,cI _ g0<|ko<|jc g2 _,(vO ..).trans g1,by rw[jc g2];simp[v0]})<|cj ..}
def ud(hd:A.handled=none)(g:z.heap.IsTupleIter j p k)(gp:z.heap.IsTuple p aM)(gy:aM[k]?=none)
  (q:∀h' e,Heap.ExtBut j z.heap h'->(∃o,h'.get? e>o/\o.cls=.type "StopIteration")->E (-e) (z\h')):f' 97 A (Builtin.SmallTypes.nextOf (-j)) Q E z:=by
 let(ob,g0,g1,g2):=id g;let(op,p0,__,np,p2):=gp;show ae<|pc g.typeIs kD<|bN kD g.typeIs u6 ?_ (uq _);change f' _ _ (field (-j) 0>>=_) _ _ z;show ae<|cR g0 g2 9 ?_;show ae<|cR g0 g2 9 ?_;show ae<|cY p0 p2 ?_;simp only[dU,gy];show ae<|jU<|ae<|dY g0 g2 84 ?_;show ae ?_;show ae<|cK ?_ (by size_fits);show ae<|Eu (by first|rfl|(simp only[firstArgMember];rfl)) ?_;show cK ?_ (by size_fits);show ae<|wpAny_handled ?_
 first|rw[show A.in1.handled=none from hd]|rw[hd]
 show ae<|ah<|wpAny_throw<|q _ _ (((cj ..).extBut.push _).push _) {_,27,9}
def JE(hd:A.handled=none)(j p:cr)(gO:p≠j)(aM:Aaj):
  Draws P w A j [j,p] aM.size (λk v=>aM[k]?>v) (λk h=>h.IsTupleIter j p k/\h.IsTuple p aM) where
 live:=λ_ _ st=>let⟨o,ho,_⟩:=st.1;⟨o,ho⟩
 frame:=λ_ _ _ st hk=>by obtain⟨⟨o,ho,r⟩,o',CA,r'⟩:=st;show{{o,hk j 84 o ho,r},o',hk p 84 o' CA,r'}
 item:=λk s Q E hi st hQ=>vZ st.1 st.2 (y:=aM[k]) (by simp[hi]) λh' j4 vG=>hQ _ h' 21 (by simp[hi]) {j4,st.2.extBut vG.extBut gO} vG
 done:=λs Q E st hE=>ud hd st.1 st.2 84 hE
def V8(p:cr)(aM:Aaj)(n:Nat)(dd:Aai)(sl:Aad):
  Meets (Builtin.«enumerate.__new__» {[.type "enumerate",-p],[]}) (λ_ R s=>s.heap.get? p>{cls:=.type "tuple",dict:=dd,data:=.seq aM n,slots:=sl}/\
   R (.ok<|.ret<|.ref (s.heap.push {cls:=.type "tuple_iterator",data:=.fields #[-p,.int 0 0]}).objs.size)
    (s\(s.heap.push {cls:=.type "tuple_iterator",data:=.fields #[-p,.int 0 0]}).push {cls:=.type "enumerate",data:=.fields #[.none,.bool false,.ref 34,v0 0,.none,.none]})):=
 .of_wp λprog w A R s h=>by
  let(hp,g,d,tk,os):=s;let(hl,h):=h;have YD:=sub_enumerate;have hT:Heap.IsTuple (Shared.heap ⟨hp,g,d,tk,os⟩) p aM:=⟨_,hl,rfl,n,rfl⟩
  wp_walk using AutoSeq1.wpAny_loadPart' hl
  show wpAny_stack_any λst=>ah ?_;split
  ·rename_i c _ _ _ _ _;cases(c==Value.type "enumerate")
   ·wp_walk using AutoSeq1.wpAny_loadPart' hl,iT hT
    show⟨_,rfl,h⟩
   wp_walk using AutoSeq1.wpAny_loadPart' hl,iT hT
   show⟨_,rfl,h⟩
  wp_walk using AutoSeq1.wpAny_loadPart' hl,iT hT
  show⟨_,rfl,h⟩
def Sx{p:cr}{aM:Aaj}{Q:Aac}(hT:z.heap.IsTuple p aM)
  (q:∀h',IsEnum h' (z.heap.objs.size+1) z.heap.objs.size 0 .none->h'.IsTupleIter z.heap.objs.size p 0->(∀b o,z.heap.get? b>o->h'.get? b>o)->Q (.ref<|z.heap.objs.size+1) (z\h')):
  f' 97 A (Go (.type "enumerate") [-p]) Q E z:=by
 obtain⟨⟨c,dct,dt,sl⟩,hl,hc,n,hd⟩:=hT
 replace hc:c=.type "tuple":=hc
 replace hd:dt=.seq aM n:=hd
 subst hc hd;show callType_new F.called_enumerate 7 (F.typeCall_enumerate_1 _) (F.newCall_enumerate_1 _) (λobj=>F.args_object_init_2 obj _) F.entry_enumerate_new (V8 p aM n dct sl) {hl,?_};have hz:(z.heap.push {cls:=.type "tuple_iterator",data:=.fields #[-p,.int 0 0]}).objs.size=z.heap.objs.size+1:=dk ..;change _/\_;rw[hz];have he:IsEnum ((z.heap.push {cls:=.type "tuple_iterator",data:=.fields #[-p,.int 0 0]}).push {cls:=.type "enumerate",data:=.fields #[.none,.bool false,.ref z.heap.objs.size,v0 0,.none,.none]}) (z.heap.objs.size+1) z.heap.objs.size 0 .none:=by have:=aH (z.heap.push {cls:=.type "tuple_iterator",data:=.fields #[-p,.int 0 0]}) (o:={cls:=.type "enumerate",data:=.fields #[.none,.bool false,.ref z.heap.objs.size,v0 0,.none,.none]}) rfl;rw[hz]at this;show this
 show{⟨_,he,rfl⟩,q _ he {_,ao _<|aH _ 9,9,9} λb o x=>ao _<|ao _ x}
variable{X:Cx}{bi:Aaa}{Z:St}{H:Hp}{s:f8}{h':nw}
def Inv.aa3(I:Inv X bi Z H s)(k:∀b o,b≠e->b≠j->s.heap.get? b>o->h'.get? b>o)(fe:oC X bi H e)(fj:oC X bi H j)
  (hp:34<=p) (ht:IsTup h' p us.toArray/\∃o,h'.get? p>o/\o.dict=none) (r:Vals xs us) (hz:42<=dL):Inv X bi Z (upd H p<|.tup xs) (s\(h',t')):=by
 have hn:=I.bC.fresh hp;have fp:=I.w6 hp hn;have nH:∀b u,H b>u->b≠e/\b≠j/\b≠p:=λb u g=>{(λz=>by rw[z,fe.1]at g;cases g),(λz=>by rw[z,fj.1]at g;cases g),λz=>by rw[z,hn]at g;cases g};show I.step (ch:=[e,j,p]) 26 (λb o _ _ hc g _=>k b o 17 17 g) (λb o _ _ hc g _=>{o.slots,k b o 17 17 g})
  (λb o hc g n=>by rw[aI λz=>hc (by simp[z])];show n) (λb o hc g=>{o,k b o 17 17 g})
  (λb ys g=>by rw[aI (nH b _ g).2.2];show g) (λb o u g=>by rw[aI (nH b _ g).2.2];show g) (λb ps g=>{#[],by rw[aI (nH b _ g).2.2,g];simp}) (λm hm=>?_) (λb u g=>?_) I.bare
 ·have gm:b=e\/b=j\/b=p:=by simpa using hb
  rcases gm with rfl|rfl|rfl;·show{fe.2.2.2.1,fe.2.1,fe.2.2.2.2.1,fe.2.2.2.2.2}
  ·show{fj.2.2.2.1,fj.2.1,fj.2.2.2.2.1,fj.2.2.2.2.2}
  show{fp.2.2.2.1,fp.2.1,fp.2.2.2.2.1,fp.2.2.2.2.2}
 ·let(o,es,ep,ho,r'):=hm;show{o,es,ep,k _ o (cL fe.2.1) (cL fj.2.1) ho,r'}
 by_cases hb:b=p;·subst hb;rw[aF]at g;cases g;show⟨hz,us,r,ht⟩
 rw[aI hb]at g;show(I.bC b u g).qt (λc v hc q=>?_) (λc q=>?_) λc ys q=>?_
 ·rcases hc with z|z;·rw[z];rw[z]at q;show k b v (nH b _ g).1 (nH b _ g).2.1 q
  show k c v (nH c _ z).1 (nH c _ z).2.1 q
 ·rw[aI (nH c _ q).2.2];show q
 rw[aI (nH c _ q).2.2];show q
def JD{D:cr->Prop}{E:Aac}{e j:cr}{fp:Aah}{n i:Nat}{Pv:Nat->i5->Prop}{St':Nat->nw->Prop}{old:i5}{elts:List wv}{kk:Nat}{ps:Gc}{y:V}
  (W:Draws 86 X.w X.A.in1 j fp n Pv St') (he:IsEnum s.heap e j i old) (st:St' i s.heap) (hi:i<n) (gO:e≠j) (hef:e∉fp) (I:Inv X bi Z H s) (fe:oC X bi H e) (fj:oC X bi H j) (hP:∀u,Pv i u->RelV y u):
  f' 91 X.A (pyNext (-e)) (λr s1=>∃u,r>u/\
   f' 91 X.A (Op 138 (-e) u) (λ_ s2=>∃p,u=-p/\H p=none/\Inv X bi Z (upd H p<|.tup [.int i,y]) s2/\(∃agN,IsEnum s2.heap e j ((i:Int)+1) agN)/\St' (i+1) s2.heap/\e≠p/\j≠p) E s1) E s:=by
 show wpAny_pyNext_enum_itemD W he st hi gO hef λx h1 tk hx ho Z1 hT hsz hk=>?_;show{_,9,wpAny_letOwnedTupleGo_enum ho λh2 kU kT=>?_};have MX:=aS he;have uT:j<34:=by let(o,z):=W.live _ _ st;show aS z
 have RZ:=kT;show{34,9,69,I.aa3 (λb o n1 n2 g=>RZ.extBut b o n1<|hk b o n1 n2 g) fe fj (aw _) ({{_,RZ.extBut _ _ (cx MX) hT,9,_,9},_,RZ.extBut _ _ (cx MX) hT,9}) (.cons ⟨tk,rfl⟩<|.cons (hP x hx) .nil) 31,⟨_,kU⟩,W.frame _ _ _ Z1 λb hb o g=>RZ.extBut b o (λz=>hef<|z▸hb) g,aU MX,aU uT}
end
def Ite(K:Frag)(a:cr):It:=
 {λi H=>∃xs x,bg K H a xs/\xs[i]?>x,λi H x H'=>∃p y,x=-p/\H p=none/\H'=upd H p (.tup [.int i,y])/\∀xs,bg K H a xs->xs[i]?>y,λi H=>∃xs,bg K H a xs/\42=i}
def Io(K:Frag)(a:cr):It:=
 {λi H=>∃xs x,bA K H a xs/\xs[i]?>x,λi H x H'=>∃p y,x=-p/\H p=none/\H'=upd H p (.tup [.int i,y])/\∀xs,bA K H a xs->xs[i]?>y,λi H=>∃xs,bA K H a xs/\42=i}
def C1{h:nw}(e:h.get? a>o)(e':h.get? b>o')(n:o.cls≠o'.cls):a≠b:=λz=>by rw[z,e']at e;cases e;show n rfl
def Tg{K:Frag}(a e j:cr):Turn P w K 138 (Ite K a) [e,j] e (λi h=>(∃old,IsEnum h e j i old)/\h.IsListIter j a i/\e≠j) where
 mem:=by simp
 obj:=λi h st b hb=>by
  obtain⟨⟨old,he⟩,⟨o,g,c,d⟩,_⟩:=st;rcases(↑hb)with rfl|rfl;·show{_,he,λv z=>by cases z}
  show{o,g,λv z=>by rw[d]at z;cases z}
 keep:=λi h h' st k=>by obtain⟨⟨old,he⟩,⟨o,g,r⟩,n⟩:=st;show{{old,k e 84 _ he},{o,k j 84 o g,r},n}
 item:=by
  ext X hP hw hK hc i bi s Z H E I hf st hg;subst hP hw hK;let(xs,x,hq,hx):=hg;let(aM,rv,pl,hz):=I.list hq;obtain⟨⟨old,he⟩,hj,gO⟩:=st;have hl:=rv.length;have hil:=(aq.mp hx).1;let(o0,g0,c0,__):=id pl.isList;let(o1,g1,c1,__):=id hj;have W:=Draws.list (prog:=86) (w:=X.w) (show X.A.in1.handled=none from I.ok.hd hc) j a (C1 g0 g1 (by rw[c0,c1];decide)) aM.toArray;show jK (JD (D:=λ_=>True) (y:=x) W he {hj,pl.isList} (by rw[aT];lia) gO (by simp[gO,(C1 g0 he (by rw[c0];change Value.type "list"≠Value.type "enumerate";decide)).symm]) I (hf e 84) (hf j 84) λu hu=>?_) λr s1 ⟨u,er,h1⟩=>{u,er,jK h1 λ_ s2 ⟨p,eu,hp,I2,kU,IC,n1,n2⟩=>?_}
  ·let(u',tI,ru):=rv.get hx;have PR:aM[i]?>u:=by simpa using hu
   rw[PR]at tI;cases tI;show ru
  subst eu;show{-p,_,I2,9,{p,x,9,hp,9,λys hy=>by rw[I.Mi hy hq];show hx},{kU,IC.1,gO},26};rcases(↑hb)with rfl|rfl;·rw[aI n1];show(hf b 84).1
  rw[aI n2];show(hf b 84).1
 done:=by ext X hP hw hK hc i bi s Z H E I hf st hg;subst hP hw hK;let(xs,hq,hx):=hg;let(aM,rv,pl,hz):=I.list hq;obtain⟨⟨old,he⟩,hj,gO⟩:=st;have hl:=rv.length;let(f0,f1,f2,f3,f4,f5):=hf j 84;show wpAny_pyNext_enum_end 61 he hj pl.isList (by simp;lia) λh' eb=>{9,I.turned (λb o hb g=>eb b o hb g) f0 f1 f3 f4 f5}
 self:=λ_ _ _ _ _ st h=>by obtain⟨⟨old,he⟩,_⟩:=st;show qq he h
def QH{P:io}{w:i6}{K:Frag}{elts:List wv}{kk:Nat}{ps:Gc}(a e j:cr):Turn P w K 138 (Io K a) [e,j] e (λi h=>(∃old,IsEnum h e j i old)/\h.IsTupleIter j a i/\e≠j) where
 mem:=by simp
 obj:=λi h st b hb=>by
  obtain⟨⟨old,he⟩,⟨o,g,c,d⟩,_⟩:=st;have gm:b=e\/b=j:=by simpa using hb
  rcases gm with rfl|rfl;·show{_,he,λv z=>by cases z}
  show{o,g,λv z=>by rw[d]at z;cases z}
 keep:=λi h h' st k=>by obtain⟨⟨old,he⟩,⟨o,g,r⟩,n⟩:=st;show{{old,k e 84 _ he},{o,k j 84 o g,r},n}
 item:=by
  ext X hP hw hK hc i bi s Z H E I hf st hg;subst hP hw hK;let(xs,x,hq,hx):=hg;let(aM,rv,pl,hz):=I.tuple hq;have pt:s.heap.IsTuple a aM.toArray:=pl;obtain⟨⟨old,he⟩,hj,gO⟩:=st;have hl:=rv.length;have hil:i<42:=(aq.mp hx).1;let(o0,g0,c0,__):=id pt;let(o1,g1,c1,__):=id hj;have nae:a≠e:=C1 g0 he (by rw[c0];change Value.type "tuple"≠Value.type "enumerate";decide);have naj:a≠j:=C1 g0 g1 (by rw[c0,c1];decide);have W:=JE (P:=86) (w:=X.w) (A:=X.A.in1) (show X.A.in1.handled=none from I.ok.hd hc) j a naj aM.toArray;show jK (JD (D:=λ_=>True) (y:=x) W he ⟨hj,pt⟩ (by rw[aT];lia) gO (by simp[gO,nae.symm]) I (hf e 84) (hf j 84) λu hu=>?_) λr s1 ⟨u,er,h1⟩=>{u,er,jK h1 λ_ s2 ⟨p,eu,hp,I2,kU,IC,n1,n2⟩=>?_}
  ·let(u',tI,ru):=rv.get hx;have PR:aM[i]?>u:=by simpa using hu
   rw[PR]at tI;cases tI;show ru
  subst eu;show{-p,_,I2,9,{p,x,9,hp,9,λys hy=>by rw[I.uJ hy hq];show hx},{kU,IC.1,gO},26};have gm:b=e\/b=j:=by simpa using hb
  rcases gm with rfl|rfl;·rw[aI n1];show(hf b 84).1
  rw[aI n2];show(hf b 84).1
 done:=by
  ext X hP hw hK hc i bi s Z H E I hf st hg;subst hP hw hK;let(xs,hq,hx):=hg;let(aM,rv,pl,hz):=I.tuple hq;have pt:s.heap.IsTuple a aM.toArray:=pl;obtain⟨⟨old,he⟩,hj,gO⟩:=st;have hl:=rv.length;let(o0,g0,c0,__):=id pt;let(o1,g1,c1,__):=id hj;have naj:a≠j:=C1 g0 g1 (by rw[c0,c1];decide);have ei:i=aM.toArray.size:=by rw[aT];lia
  subst ei;let(f0,f1,f2,f3,f4,f5):=hf j 84;have W:=JE (P:=86) (w:=X.w) (A:=X.A.in1) (show X.A.in1.handled=none from I.ok.hd hc) j a naj aM.toArray;show wpAny_pyNext_enum_endD W he ⟨hj,pt⟩ λh' eb=>{9,I.turned (t':=21) (λb o hb g=>eb b o hb g) f0 f1 f3 f4 f5}
 self:=λ_ _ _ _ _ st h=>by obtain⟨⟨old,he⟩,_⟩:=st;show qq he h
section
variable{X:Cx}{elts:List wv}{kk:Nat}{ps:Gc}
inductive aew(K:Frag)(R:It->Hp->Prop)(vs:Aam)(H1:Hp):Prop
 |mk a (_:vs=[-a]) (_:(∃xs,bg K H1 a xs)) (_:R (Ite K a) H1)
def af9(K:Frag)(ta:TA):TI:=λZ H R=>ta Z H λvs H1=>aew K R vs H1
inductive acd(K:Frag)(R:It->Hp->Prop)(vs:Aam)(H1:Hp):Prop
 |mk a (_:vs=[-a]) (_:(∃xs,bA K H1 a xs)) (_:R (Io K a) H1)
def aev(K:Frag)(ta:TA):TI:=λZ H R=>ta Z H λvs H1=>acd K R vs H1
def Qo(I:Inv X bi Z H s):∀b∈[34+1,34],oC X bi H b:=λb hb=>by
 rcases(↑hb)with rfl|rfl;·show I.w6 (fY _)<|I.bC.fresh<|fY _
 show I.w6 (aw _) 69
def abE(hg:Gl X "enumerate")(hm:X.mg "enumerate"=none)(ha:PA X [a] ta)(hs:jp [a] X.env=[(false,wf a X.env)]:=by rfl):PI X 138 (.Call (.Name "enumerate" p) [a] [] pos) (af9 X.K ta):=by ext bi s Z H R I h;show Hw<|sk I hg hm boot_enumerate<|eY (qV 15 λus s1 vs H1 I1 r1 q1=>?_) hs 9;obtain⟨l,e,⟨xs,hq⟩,q⟩:=q1;subst e;let(u,rfl,ru):=jn r1;cases ru;let(aM,rv,pl,hz):=I1.list hq;show call_enumerate_list pl.isList λh' he hj _ hk=>?_;show qq he ?_;show{_,_,_,_,H1,9,I1.kept (t':=s1.toks) hk,Tg l _ 22,{⟨_,he⟩,hj,rp _},Qo I1,q}
def LJ{a:wv}{ta:TA}{p pos:Gc}(hg:Gl X "enumerate")(hm:X.mg "enumerate"=none)(ha:PA X [a] ta)(hs:jp [a] X.env=[(false,wf a X.env)]:=by rfl):PI X 138 (.Call (.Name "enumerate" p) [a] [] pos) (aev X.K ta):=by ext bi s Z H R I h;show Hw<|sk I hg hm boot_enumerate<|eY (qV 15 λus s1 vs H1 I1 r1 q1=>?_) hs 9;obtain⟨l,e,⟨xs,hq⟩,q⟩:=q1;subst e;let(u,rfl,ru):=jn r1;cases ru;let(aM,rv,pl,hz):=I1.tuple hq;show Sx (show s1.heap.IsTuple l aM.toArray from pl) λh' he hj hk=>?_;have I2:Inv X bi Z H1 (s1\h'):=I1.kept (t':=s1.toks) hk;show qq he ?_;show{_,_,_,_,H1,9,I2,QH l _ 22,{⟨_,he⟩,hj,rp _},Qo I1,q}
def Y4{K:Frag}{g:TG}{tb:TS}{D:Ends}(Pv:Nat->St->Hp->Prop)(h0:Pv 0 Z H)(hl:∀i Z H,i<=42->Pv i Z H->bg K H a xs)
  (hs:∀i x p Z H,xs[i]?>x->Pv i Z H->H p=none->g (-p) Z (upd H p<|.tup [.int i,x]) λσ2 H2=>tb {D with nx:=Pv<|i+1,ct:=Pv<|i+1,bk:=D.nx} σ2 H2) (hd:∀Z H,Pv 42 Z H->D.nx Z H):wx (Ite K a) g tb D Z H:=by
 show CO Pv h0 (λi Z H hi p=>?_) λZ H p=>{{xs,hl _ Z H (aw _) p,9},hd Z H p};have q:=hl i Z H (cy hi) p;show{{xs,_,q,au hi},?_};ext x H' ⟨r,z,rfl,hr,rfl,y⟩;show hs i z r Z H (y xs q) p hr
def VZ{K:Frag}{a:cr}{xs:Aam}{g:TG}{tb:TS}{D:Ends}{Z:St}{H:Hp}(Pv:Nat->St->Hp->Prop)(h0:Pv 0 Z H)(hl:∀i Z H,i<=42->Pv i Z H->bA K H a xs)
  (hs:∀i x p Z H,xs[i]?>x->Pv i Z H->H p=none->g (-p) Z (upd H p<|.tup [.int i,x]) λσ2 H2=>tb {D with nx:=Pv<|i+1,ct:=Pv<|i+1,bk:=D.nx} σ2 H2) (hd:∀Z H,Pv 42 Z H->D.nx Z H):
  ∃W:Nat->Nat->St->Hp->Prop,(∃m,W 0 m Z H)/\∀i m Z H,W i m Z H->
   ((Io K a).stop i H/\D.nx Z H)\/((Io K a).go i H/\∃N:St->Hp->Prop,(∀σ' H',N σ' H'->∃m',m'<m/\W (i+1) m' σ' H')/\∀x H',(Io K a).Es i H x H'->g x Z H' λσ2 H2=>tb {D with nx:=N,ct:=N,bk:=D.nx} σ2 H2):=by
 show{λi m Z H=>m=42 -i/\i<=42/\Pv i Z H,{42,84,aQ _,h0},?_};ext i m Z H ⟨rfl,hi,p⟩;have q:=hl i Z H hi p;by_cases cb:i<42;·show .inr {{xs,xs[i],q,by simp[cb]},Pv<|i+1,λσ' H' p'=>{42 -(i+1),8,9,cb,p'},λx H' y=>?_};let(r,z,rfl,hr,rfl,y):=y;show hs i z r Z H (y xs q) p hr
 have e:i=42:=by lia
 subst e;show .inl {⟨xs,q,rfl⟩,hd Z H p}
def Ga(j:Nat)(t:TE):TS:=λD Z H=>t Z H λv H1=>D.nx (Z.set j<|some v) H1
variable{prog:io}{w:i6}{A:ss}{E:Aac}
def Hb:EQ (.type "list") "__getattr__"=pure none:=by rw[kf,gQ];kernel_rfl
def Nv:EQ (.type "list") "keys"=pure none:=by rw[kf,gQ];kernel_rfl
def aco{sl}{os:xz}(hx:h.get? a>{cls:=.type "list",dict:=none,data:=.seq aM n,slots:=sl})(hA:A.handled=none)
  (k:∀h' tk e,Heap.NewAttrErr h h' e (-a) "keys"->E (-e) ⟨h',g,d,tk,os⟩):
  f' 85 A (Builtin.«object.__getattribute__» {[-a,.str "keys" u],[]}) Q E ⟨h,g,d,t,os⟩:=by
 have f4:=Nv
 repeat (any_goals (first|(assumption)|(wp_step)))
 show Ag hA k<|attrMsg_fits 59 (by size_fits)
def acr{sl}{os:xz}(hx:h.get? a>{cls:=.type "list",dict:=none,data:=.seq aM n,slots:=sl})(hA:A.handled=none)
  (k:∀h' tk e,Heap.NewAttrErr h h' e (-a) "keys"->R (.error (-e)) ⟨h',g,d,tk,os⟩):
  C' 85 A (.call (.builtin "list.__getattribute__") {[-a,.str "keys" u],[]}) R ⟨h,g,d,t,os⟩:=
 jw F.slot_list_getattribute.plain F.entry_list_ga (F.slot_list_getattribute.check _ _ _ _ _ _ _ _ (show(⟨h,g,d,t,os⟩:f8).TypeIs (-a) "list"from⟨_,hx,rfl⟩) (F.args_list_getattribute_2 _ _)<|aco hx hA k)
def agn{sl}{os:xz}(hx:h.get? a>{cls:=.type "list",dict:=none,data:=.seq aM n,slots:=sl})(hA:A.handled=none)
  (k:∀h' tk e,Heap.NewAttrErr h h' e (-a) "keys"->E (-e) ⟨h',g,d,tk,os⟩):
  f' 85 A (getAttrBy (-a) (.str "keys" u) false) Q E ⟨h,g,d,t,os⟩:=by
 have g2:=F.slot_list_getattribute.lookup;have g3:=F.slot_list_getattribute.bind (-a);have f5:=Hb;have f1:=oZ
 repeat (any_goals (first|(assumption)|(wp_step)))
 show acr hx hA λh' tk e ne=>?_;let(t',u',he):=ne.there
 repeat (any_goals (first|(assumption)|(wp_step)))
 show k _ _ _ ne
def acs{sl}{os:xz}(hx:h.get? a>{cls:=.type "list",dict:=none,data:=.seq aM n,slots:=sl})(hA:A.handled=none)
  (k:∀h' tk e,Heap.NewAttrErr h h' e (-a) "keys"->Q none ⟨h',g,d,tk,os⟩):
  f' 85 A (getAttr? (-a) "keys") Q E ⟨h,g,d,t,os⟩:=by
 have f1:=oZ
 repeat (any_goals (first|assumption|(with_reducible show agn hx hA λh' tk e ne=>?_)|wp_step))
 let(t',u',he):=ne.there
 repeat (any_goals (first|(assumption)|(wp_step)))
 show k _ _ _ ne
def Paired.at':∀{l₁:List α}{aac:List β}{i:Nat}{x:α},Paired F l₁ aac->l₁[i]?>x->∃y,aac[i]?>y/\F x y:=by
 ext _ _ i x h e
 induction h generalizing i with
 |nil=>simp at e
 |cons r _ ih=>cases i with
  |zero=>simp at e;subst e;show⟨_,rfl,r⟩
  |succ i=>show ih (i:=i)<|↑e
def uk:Z' table "dict.update.loop">Builtin.«dict.update.loop»:=entryFor_of_tree 29
def NP(prog:io)(w:i6)(h0:nw)(x:i5)(kv:Key×i5):Prop:=∃t o n ku,x=-t/\h0.get? t>o/\o.cls=.type "tuple"/\o.data=.seq #[ku,kv.2] n/\(bZ prog w).is kv.1 ku=true
def acp(hA:A.handled=none)(sx:h0.get? d=none)(hi0:h0.get? it=none)(hdi:d≠it)
  (hl:h0.IsList l items.toArray) (hp:Paired (NP prog w h0) items pairs) (hsz:pairs.length<=dL) (g:Array No) (dr:Drawn) (os:xz)
  (k:∀h' tk,(∀b o,h0.get? b>o->h'.get? b>o)->h'.DictOf 76 d (On [] pairs)->R (.ok<|.ret .none) ⟨h',g,dr,tk,os⟩):
  ∀(m i:Nat)(h:nw)(tk:Nat),items.length -i=m->i<=items.length->(∀b o,h0.get? b>o->h.get? b>o)->h.IsListIter it l i->h.DictOf 76 d (On []<|pairs.take i)->
   C' 85 A (.builtin "dict.update.loop" {[-d,-it,v0 i,.none],[]}) R ⟨h,g,dr,tk,os⟩:=by
 ext m
 induction m with
 |zero=>
  ext i h tk em hi kp hit hd;have ei:i=items.length:=by lia
  show fw uk ?_;let(ol,PX,hlc,nl,hld):=hl;show ae (zd (show(A.under _).handled=none from hA) hit {ol,kp _ _ PX,hlc,nl,hld} (by rw[ei];simp) λh' hs=>?_);show ae<|ah 92;rw[ei,aV hp,bj]at hd;show k h' _ (λb o hb=>hs b o (λe=>by rw[e,hi0]at hb;cases hb)<|kp b o hb)<|hd.extBut hs hdi
 |succ m ih=>
  ext i h tk em hi kp hit hd;have cb:i<items.length:=by lia
  obtain⟨x,hx⟩:∃x,items[i]?>x:={_,au cb};let(kv,oM,t,o,n,ku,rfl,hto,htc,htd,Vy):=Paired.at' hp hx;show fw uk ?_;let(ol,PX,hlc,nl,hld):=hl;show ae (yx hit {ol,kp _ _ PX,hlc,nl,hld} (↑hx) λh1 ahS yf=>?_);have kp1:=λb o hb=>(yf.2 b (λe=>by rw[e,hi0]at hb;cases hb)).trans<|kp b o hb;show ae<|bP<|ae<|zb ?_;show ae<|gX {o,kp1 _ _ hto,htc} ?_;show ae<|cY (kp1 _ _ hto) htd 92;have lm:(On []<|pairs.take i).length<=dL:=by have e1:=qY []<|pairs.take i;rw[bo]at e1;simp only[jA]at e1;lia
  show bP (tE Vy (hd.sameBut yf hdi) λh2 hd2 kT=>?_);show ah {hX _ 59,?_};have CC:h2.IsListIter it l (i+1):=by let(oi,wZ,r):=ahS;show{oi,(kT.2 it<|cL hdi).trans wZ,r}
  show ih (i+1) h2 _ ∅ cb (λb o hb=>(kT.2 b (λe=>by rw[e,sx]at hb;cases hb)).trans<|kp1 b o hb) CC (by rw[wU [] pairs i kv oM];show hd2)
def acq(hA:A.handled=none)(pl:PlainL s.heap p items.toArray)(hp:Paired (NP prog w s.heap) items pairs)(hsz:pairs.length<=dL)
  (k:∀h' tk,(∀b o,s.heap.get? b>o->h'.get? b>o)->h'.DictOf 76 34 (On [] pairs)->Q (.ref 34) 77):
  f' 85 A (Go 14 [-p]) Q E s:=by
 show callType_codes (Q₁:=λv1 z1=>v1=.ref 34/\z1=222) F.kt_called_dict (A2 _) Ep (kt_code_dict_new _ ⟨rfl,rfl⟩) ?_;ext v1 z1 ⟨rfl,rfl⟩;let(ql,g,dr,tk,os):=s;obtain⟨⟨oc,od,oda,GB⟩,n,ho,hc,hdn,hdd⟩:=pl;subst hc hdn hdd;have FL:(ql.push {cls:=.type "dict",data:=.dict #[]}).DictOf 76 ql.objs.size []:=yu ql;have Cz:=ao {cls:=.type "dict",data:=.dict #[]} ho;show{FL.typeIs,Dx _ _,?_};show ae ?_;show ae<|iU FL.typeIs 92;change f' 85 _ (Builtin.Dict.updateFrom "dict.__init__" ql.objs.size (-p) [] .none) _ _ _;show ae<|gX ⟨_,Cz,rfl⟩ ?_;show ae (acs Cz hA λh2 tk2 e ne=>?_);show ae<|jU ?_;show ae<|kE {_,ne.keeps _ _ Cz,9,n,9} ?_;have kp:∀b o,ql.get? b>o->(h2.push {cls:=.type "list_iterator",data:=.fields #[-p,.int 0 0]}).get? b>o:=λb o hb=>ao _<|ne.keeps _ _<|ao _ hb;have hd2:h2.DictOf 76 ql.objs.size []:=by let(o',es,ep,h',r):=FL;show{o',es,ep,ne.keeps _ _ h',r}
 have ld:ql.objs.size<h2.objs.size:=by let(o',es,ep,h',r):=hd2;show aS h'
 show ah {hX _ 59,?_};show acp (show A.in1.handled=none from hA) (jC<|aw _) (jC<|cy ld) (aU ld) ⟨_,ho,rfl,n,rfl⟩ hp hsz g dr os (λh' KN Jp uU=>{9,k h' KN Jp uU}) items.length 0 _ _ rfl (aQ _) kp ?_ (hd2.push _);show{_,27,9,9}
end
section
variable{X:Cx}
inductive adG(K:Frag)(xs:Aam)(H:Hp)(Q:VK):Prop
 |mk p ys kvs (_:xs=[-p]) (_:bg K H p ys) (_:Paired (λ(y:V)(kv:Key×V)=>∃t,y=-t/\H t>.tup [kV kv.1,kv.2]) ys kvs) (_:∀d,H d=none->Q (-d) (upd H d<|.dK<|sh [] kvs))
def X9(ok:ka P w H h):∀{ys:Aam}{us:Aae}{kvs:List (Key×V)},Vals ys us->Paired (λ(y:V)(kv:Key×V)=>∃t,y=-t/\H t>.tup [kV kv.1,kv.2]) ys kvs->∃ps,Paired (NP P w h) us ps/\KV kvs ps:=by
 ext ys us kvs r q
 induction r generalizing kvs with
 |nil=>cases q;show{[],.nil,.nil}
 |@cons y u _ _ r _ ih=>
  cases q with
  |@cons _ kv _ _ e q=>
   let(a,ea,ha):=e;let(ps,h1,h2):=ih q;subst ea;cases(show u=Value.ref a from r);obtain⟨_,aM,ri,⟨o,e1,e2,n,e3⟩,_⟩:=(show cW P w H h a (.tup [kV kv.1,kv.2])from ok a _ ha);let(ku,vu,rfl,rk,rv):=Vals.two ri;show{(kv.1,vu)::ps,.cons {a,o,n,ku,9,e1,e2,e3,uB rk} h1,.cons ⟨rfl,rv⟩ h2}
def sI(hA:X.A.handled=none):fD X 14 (adG X.K):=by
 ext bi s Z H xs us Q I r h;let(p,ys,kvs,rfl,hq,hk,q):=h;let(u,rfl,rx):=jn r;cases rx;let(aM,r',pl,hz):=I.list hq;let(ps,h1,h2):=X9 I.bC r' hk;have l1:=aV h1;have l2:=r'.length;show acq hA pl h1 ∅ λh' tk kp hd=>?_;have rel:=KV.merge h2 .nil;have lz:(sh [] kvs).length<=dL:=by have e1:=qY [] ps;rw[rel.length];simp only[jA]at e1;lia
 show{.ref 34,_,I.laid kp (aw _)<|CV lz (cG.mpr<|cL<|aU I.big) rel hd,9,q _ 69}
variable{prog:io}{w:i6}{A:ss}{s:f8}{R:UF->f8->Prop}
theorem Sv(Iv:Nat->f8->Prop)
  (turn:∀n z,Iv n z->f' 85 A (pyNext it) (λr z1=>match r with
   |none=>R (.ok .next) z1
   |some v=>f' 85 A (Op tg it v) (λ_ y2=>f' 85 A (assign tg env v) (λ_ z2=>
     f' 85 A (forIn ifs true λc r=>if r=true then do let ok<-isTrue c env (wf c env);pure (ForInStep.yield ok)else pure (ForInStep.yield r)) (λok z3=>
      if ok=true then f' 85 A (wf elt env) (λx z4=>
       f' 85 A (Go (.builtin "list.append") [acc,x]) (λ_ z5=>∃m,m<n/\Iv m z5) (WF 85 A env λe z'=>R (.error e) z') z4) (WF 85 A env λe z'=>R (.error e) z') z3
      else∃m,m<n/\Iv m z3) (WF 85 A env λe z'=>R (.error e) z') z2) (WF 85 A env λe z'=>R (.error e) z') y2) (WF 85 A env λe z'=>R (.error e) z') z1) (WF 85 A env λe z'=>R (.error e) z') z)
  (n:Nat) (h:Iv n s):C' 85 A (.compLoop 30 0 it acc env) R s:=by
 show codeAny_loop rfl Iv (λn z hI=>?_) n h;show wpAny_noted ?_;show ae<|qP<|ae (dy (turn n z hI) (λr z1 q1=>?_) λ_ _ q=>q);cases r with
 |none=>show ah q1
 |some v=>
  show ae (dy q1 (λ_ z2 q3=>ae (dy q3 (λ_ z3 q4=>ae (dy q4 (λok z4 q5=>?_) λ_ _ q=>q)) λ_ _ q=>q)) λ_ _ q=>q);cases ok with
  |false=>show ah ⟨rfl,q5⟩
  |true=>show ae<|ae (dy q5 (λx z5 q6=>ae (dy q6 (λ_ z6 q7=>ah<|ah ⟨rfl,q7⟩) λ_ _ q=>q)) λ_ _ q=>q)
end
structure uv(X:Cx)(scope:AC)(x:i9)(more fs:Aaf)(fr:List Nat):Prop where
 one:sX X scope x fs fr
 tG:(x::more++fs).Nodup
def qB(wi:TI)(k:Nat)(fr:List Nat)(g:TG)(tt:TT)(te:TE):TE:=λZ H Q=>wi Z H λJ H1=>∃W:Nat->Nat->Aam->Hp->Prop,(∃m,W 0 m [] H1)/\∀i m ys H2,W i m ys H2->
 (J.stop i H2/\48<=dL/\∀l,H2 l=none->Q (-l) (upd H2 l 49))\/
 (J.go i H2/\48<dL/\∀v H3,J.Es i H2 v H3->∀own:St,own.length=k->g v (own++slotsOf fr Z) H3 λσ4 H4=>∃LS,σ4=LS++slotsOf fr Z/\LS.length=k/\tt σ4 H4 λb H5=>
  if b=true then te σ4 H5 (λy H6=>∃m',m'<m/\W (i+1) m' (ys++[y]) H6)else∃m',m'<m/\W (i+1) m' ys H5)
section
variable{X:Cx}
def LZ(N2:Aaf)(h:(iD X N1 scope C s H ex).Ok):(iD X N2 scope C s H ex).Ok:=
 {h.mod,h.kind,h.glob,h.blt,h.above,h.inj,h.has,h.JN,h.hd,h.frames,h.KU,h.Nm,h.bs,h.yp,h.Ay,h.AJ,h.rf,h.E6}
def Wt(S:uv X scope x more fs fr)(I3:Inv X bi Z H s)
  (ok:(iD X (x::fs) scope 34 s H ex).Ok) (hn:h4.Ns 34 m) (old:∀b o,s.heap.get? b>o->h4.get? b>o):
  Inv (iD X (x::more++fs) scope 34 s H ex) [] (List.replicate (more.length+1) none++slotsOf fr Z) H (s\(h4,t)):=by
 have J:=Zn (t:=t) S.one I3 ok hn old;show{LZ _ J.ok,J.os,J.bare,J.base,?_,J.cell,J.free,J.kN,J.pin,J.bC,?_}
 ·let(m1,hn1,hl):=J.loc;show{m1,hn1,λi y v e1 e2 e3=>?_};by_cases hi:i<more.length+1;·have e2:=e2;rw[kQ<|eZ▸hi,xJ,aN hi]at e2;cases e2
  obtain⟨j,rfl⟩:∃j,i=more.length+1+j:={i -(more.length+1),8};rw[iL (by rw[eZ];lia),eZ,lV]at e2;rw[iL (by rw[bJ];lia),bJ,lV]at e1;show hl (j+1) y v (↑e1) (↑e2) e3
 change(List.replicate (more.length+1) none++slotsOf fr Z).length=((x::more)++fs).length;simp[slotsOf,S.one.len];lia
abbrev iY(X:Cx)(N':Aaf)(scope:AC)(cl:List (i9×cr))(fn:i9->Bool)(C:cr)(s:f8)(H:Hp)(ex:Aah):Cx:=
 {X with N:=N',aab:=s,aae:=H,env:=compEnvC scope cl C X.env,outer:=37,stack:=37,ex:=ex,fn:=fn,pn:=[],xe:=λ_ _=>False}
noncomputable def N4(X:Cx)(scope:AC)(N':Aaf)(cl:cr->List (i9×cr))(fn:i9->Bool)(n0:Nat)(fr:List Nat):Prop:=
 scope.kind=.function/\(∀y∈scope.names,y.2=.local->scope.names.lookup y.1>.local)/\(∀n∈frees scope,X.env.kindOf n>.cell)/\
  ∀(bi:Aaa)(Z:St)(s2:f8)(H2:Hp)(fp:Aah)(g3:nw)(Q:V'->f8->Prop),Inv X bi Z H2 s2->Inv X bi Z H2 (s2\g3)->g3.objs.size=94+1->(∀b∈fp,b<94)->(∀b∈fp,oC X bi H2 b)->
   (∀(h4:nw)(t4:Nat),(iY X N' scope 33 fn g3.objs.size (s2\g3) H2<|94::fp).Ok->Inv (iY X N' scope 33 fn g3.objs.size (s2\g3) H2<|94::fp) [] (List.replicate n0 none++slotsOf fr Z) H2 (s2\(h4,t4))->
    (∀b o,g3.get? b>o->h4.get? b>o)->Q (newEnv scope g3.objs.size X.env.globals 33 X.env.qual none .none (some X.env) Rs) (s2\(h4,t4)))->
   f' 91 X.A (X' scope X.env.globals (nO scope X.env) [] X.env.qual none .none<|some X.env) Q X.xe (s2\g3)
def Ww{scope:AC}{x:i9}{more fs:Aaf}{fr:List Nat}(ST:uv X scope x more fs fr):N4 X scope (x::more++fs) (λ_=>nO scope X.env) (λ_=>false) (more.length+1) fr:=by have S:=ST.one;show{S.kind,S.names,λn hn=>(S.free n hn).1,λbi Z s2 H2 fp g3 Q I2 I3 hC cb f2 q=>?_};show wpAny_newFunctionEnv S.UA (by ext y hy;simp at hy) (λh4 YG ahD=>?_) S.kind;have Cj:∀b o,g3.get? b>o->h4.get? b>o:=λb o e=>ahD.extBut b o (aU<|aS e)<|ao _ e;have ok1:=acx (s:=s2\g3) (D:=94) (fp:=fp) S I2 I3 rfl hC cb f2;show q h4 _ (LZ (x::more++fs) ok1) (Wt ST I3 ok1 YG Cj) Cj
def JG{elt iter tg:wv}{N':Aaf}{cl:cr->List (i9×cr)}{fn:i9->Bool}{n0:Nat}{g:TG}{ifs:List wv}{scope:AC}{pos:Gc}{wi:TI}{fr:List Nat}{tt:TT}{te:TE}{use:Option (i5->KB Unit)}{R:Aac}{bi:Aaa}{s:f8}{Z:St}{H:Hp}{Q:VK}{HI:Gc}(hc:X.calm=true)(CE:N4 X scope N' cl fn n0 fr)(hi:PI X tg iter wi)(hg:∀C s H ex,PG 20 tg g)
  (ht:∀C s H ex,CT 20 ifs tt) (he:∀C s H ex,PE 20 elt te) (hs:∀z,sK iter X.env z=pure z)
  (I:Inv X bi Z H s) (h:qB wi (n0) fr g tt te Z H Q)
  (ahU:∀(D C:cr)(s':f8)(H':Hp)(ys:Aam)(vs:Aae)(k:Nat)(m:Aab),Inv X bi Z H' s'->D<C->58<=D->23<D->(∀y c,X.env.cells.lookup y>c->c<D)->(∀p∈X.pn++bi,p.1<D)->
   s'.heap.get? D>lobj vs k->H' D=none->H' C=none->s'.heap.Ns C m->Vals ys vs->48<=dL->(∀l,H' l=none->Q (-l) (upd H' l 49))->compPost 91 X.A X.xe use R (-D) C (.ok .next) s'):
  f' 91 X.A (comprehension 30 scope X.env HI (newList []) false (wf iter X.env) use) R X.xe s:=by
 show wpAny_comprehension_free (use:=use) rfl hs (Hk λn hn=>I.ok.has n<|.inl<|CE.2.2.1 n hn) CE.1 CE.2.1 ?_;show jK (hi bi s Z H _ I h) λv s1 h1=>jK h1 λitv s2 h2=>?_;obtain⟨it,fp,tn,J,H2,e,I2,T,IC,f2,W,⟨m0,w0⟩,turn⟩:=h2;subst e;have cb:∀b∈fp,b<94:=λb hb=>by let(o,e,__):=T.obj 0 _ IC b hb;show aS e
 show cK ?_;generalize hH3:s2.heap.push {cls:=.type "list",dict:=none,data:=.seq ([]:Aae).toArray}=g3;have hC:g3.objs.size=94+1:=by rw[<-hH3,dk]
 have HM:∀b o,s2.heap.get? b>o->g3.get? b>o:=λb o e=>hH3▸ao _ e;have I3:Inv X bi Z H2 (s2\g3):=I2.kept (t':=s2.toks) HM;have aii:g3.get? 94>lobj [] 0:=hH3▸aH _ rfl;show CE.2.2.2 bi Z s2 H2 fp g3 _ I2 I3 hC cb f2 λh4 t4 ok I4 Cj=>?_;have dne:=ok.Nm 94 ay;have dnf:=ok.AJ 94 ay;have Y0:∀{H':Hp}{vs:Aae}{k:Nat},(∀b∈fp,H' b=none)->∀b∈fp,oC (iY X N' scope 33 fn g3.objs.size (s2\g3) H2<|94::fp) [(94,lobj vs k)] H' b:=λ{H' vs k} hn b hb=>by
  have q:=ok.Nm b<|az _ hb;show{hn b hb,q.1,ok.AJ b<|az _ hb,.inl<|az _ hb,q.2,λp hp=>?_};have e:p=(94,lobj vs k):=by simpa using hp
  rw[e];show cx<|cb b hb
 have start:Inv (iY X N' scope 33 fn g3.objs.size (s2\g3) H2<|94::fp) [(94,lobj [] 0)] (List.replicate (n0) none++slotsOf fr Z) H2 (s2\(h4,t4)):=
  I4.zA λp hp=>by
   have e:p=(94,lobj [] 0):=by simpa using hp
   subst e;show{Cj _ _ aii,I2.bC.fresh<|aw _,dne.1,dnf,λv z=>by cases z}
 have stn:tn 0 h4:=T.keep 0 _ _ IC λb _ o e=>Cj b o<|HM b o e;have fin:∀{i:Nat}{σ0:St}{H':Hp}{ys:Aam}{vs:Aae}{k:Nat}{s':f8},Inv (iY X N' scope 33 fn g3.objs.size (s2\g3) H2<|94::fp) [(94,lobj vs k)] (σ0++slotsOf fr Z) H' s'->Vals ys vs->48<=dL->
   (∀l,H' l=none->Q (-l) (upd H' l 49))->compPost 91 X.A X.xe use R (.ref 94) g3.objs.size (.ok .next) s':=by
  ext i σ0 H' ys vs k s' J1 rv hz q;let(m,hn,__):=id J1.loc;have below:∀y c,X.env.cells.lookup y>c->c<94:=λy c z=>by let(v,q):=I2.cell y c z;show q.lt
  have uP:∀p∈X.pn++bi,p.1<94:=λp hp=>aS (I2.pin p hp).1;have I5:Inv X bi Z H' s':=I3.aaE (ch:=94::fp) J1.os J1.base J1.bC J1.bare λb hb=>by
   rcases aK.mp hb with e|hb;·rw[e];show{.inr I2.sz,cx I2.lt,λy c z=>aU<|below y c z,λp hp=>aU<|uP p hp}
   show{(f2 b hb).2.2.2.1,(f2 b hb).2.1,(f2 b hb).2.2.2.2.1,(f2 b hb).2.2.2.2.2}
  have wA:94<g3.objs.size:=by(first|lia|omega)
  let(eD,nD,__):=J1.pin (94,lobj vs k) 84;show ahU _ _ s' H' ys vs k m I5 wA I2.sz I2.lt below uP eD nD J1.free hn rv hz q
 have loop:∀s4:f8,s4=(s2\(h4,t4))->
   C' 91 X.A (.compLoop 30 0 (-it) (.ref 94)<|compEnvC scope 33 g3.objs.size X.env)
    (compPost 91 X.A X.xe use R (.ref 94) g3.objs.size) s4:=by
  ext s4 rfl;show Sv (λn s'=>∃i σ0 H' ys vs k,σ0.length=n0/\Inv (iY X N' scope 33 fn g3.objs.size (s2\g3) H2<|94::fp) [(94,lobj vs k)] (σ0++slotsOf fr Z) H' s'/\tn i s'.heap/\(∀b∈fp,H' b=none)/\Vals ys vs/\W i n ys H') ?_ m0
   {0,List.replicate (n0) none,H2,[],[],0,eZ,start,stn,λb hb=>(f2 b hb).1,.nil,w0}
  ext n s' ⟨i,σ0,H',ys,vs,k,h0,J1,st,fr1,rv,w1⟩;rcases turn i n ys H' w1 with⟨stop,hz,q⟩|⟨go,hz,step⟩;·show jK (T.done (iY X N' scope 33 fn g3.objs.size (s2\g3) H2<|94::fp) 9 9 9 hc i _ s' _ H' _ J1 (Y0 fr1) st stop) λr s5 ahm=>?_;let(hr,J2):=ahm;subst hr;show fin (i:=i) J2 rv hz q
  show jK (T.item (iY X N' scope 33 fn g3.objs.size (s2\g3) H2<|94::fp) 9 9 9 hc i _ s' _ H' _ J1 (Y0 fr1) st go) λr s5 ahl=>?_;let(u,hr,h5):=ahl;subst hr;show jK h5 λ_ s6 ahk=>?_;let(v,H6,J6,r6,y6,st6,fr6):=ahk;have J6':=J6.pinned (fp:=fp) (Y0 fr6)<|T.obj _ _ st6;show dy (hg _ _ _ _ _ s6 _ H6 v u _ J6' r6<|step v H6 y6 σ0 h0) (λ_ s7 ahj=>?_) (λ_ _ z=>z.elim);obtain⟨σ7,H7,J7,own,e7,l7,q7⟩:=ahj;subst e7;have pfp:∀{σ8:St}{H8:Hp}{s8:f8},Inv (iY X N' scope 33 fn g3.objs.size (s2\g3) H2<|94::fp) ([(94,lobj vs k)]++Cc fp s6.heap) σ8 H8 s8->
    tn (i+1) s8.heap/\∀b∈fp,H8 b=none:=λ{σ8 H8 s8} J8=>by
   show{T.keep _ _ _ st6 λb hb o e=>(J8.pin (b,o)<|bq _<|bq _<|v5 hb e).1,26};let(o,e,d):=T.obj _ _ st6 b hb;show(J8.pin (b,o)<|bq _<|bq _<|v5 hb e).2.1
  show dy (ht _ _ _ _ _ s7 _ H7 _ J7 q7) (λok8 s8 ahi=>?_) (λ_ _ z=>z.elim);let(H8,J8,q8):=ahi;cases ok8 with
  |false=>
   rw[aL bX]at q8;rw[aL bX];let(m',hm,w8):=q8;let(t8,n8):=pfp J8;show{m',hm,i+1,own,H8,ys,vs,k,l7,J8.Ai,t8,n8,rv,w8}
  |true=>
   rw[aN rfl]at q8;rw[aN rfl];show dy (he _ _ _ _ _ s8 _ H8 _ J8 q8) (λy s9 ahh=>?_) (λ_ _ z=>z.elim);let(yv,H9,J9,r9,m',hm,w9):=ahh;let(t9,n9):=pfp J9;let(eD,nD,__):=J9.pin (94,lobj vs k) 84;have hl:=rv.length;show mB Dv ⟨_,eD,rfl⟩ BH (A3 _ _) (Ee 94 vs.toArray k y (by rw[aT];(first|lia|omega))) {eD,?_};have eN:=PySem.IsL.update (h:=s9.heap) (l:=94) (items:=vs.toArray) (n:=k) eD (·.push y);have eV:vs.toArray.push y=(vs++[y]).toArray:=by simp
   rw[eV]at eN;obtain⟨k',eN⟩:∃k',(s9.heap.update 94<|Obj.mapSeq (·.push y)).get? 94>lobj (vs++[y]) k':=⟨_,eN⟩;have K9:Inv (iY X N' scope 33 fn g3.objs.size (s2\g3) H2<|94::fp) [] (own++slotsOf fr Z) H9 s9:=J9.zA λp hp=>absurd hp 84;have K10:Inv (iY X N' scope 33 fn g3.objs.size (s2\g3) H2<|94::fp) [] (own++slotsOf fr Z) H9 (s9\s9.heap.update 94 (Obj.mapSeq (·.push y))):=
    K9.turned (t':=s9.toks) (it:=94) (λb o hb e=>(bL s9.heap (Obj.mapSeq (·.push y))<|cL hb).trans e) nD dne.1 (.inl ay) dne.2 (λp hp=>absurd hp 84)
   show{m',hm,i+1,own,H9,ys++[yv],vs++[y],k',l7,K10.zA λp hp=>?_,T.keep _ _ _ t9 λb hb o e=>(bL s9.heap (Obj.mapSeq (·.push y))<|cx<|cb b hb).trans e,n9,rv.append<|.cons r9 .nil,w9};have e:p=(94,lobj (vs++[y]) k'):=ar.mp hp;rw[e];show{eN,nD,dne.1,dnf,λv z=>by cases z}
 show codeAny_compStart_list (loop _ 9)<|T.self X.A 0 _ _ _ stn<|loop _ 9
def Jc{elt iter tg:wv}{N':Aaf}{cl:cr->List (i9×cr)}{fn:i9->Bool}{n0:Nat}{g:TG}{ifs:List wv}{scope:AC}{pos:Gc}{wi:TI}{fr:List Nat}{tt:TT}{te:TE}(hc:X.calm=true)(CE:N4 X scope N' cl fn n0 fr)(hi:PI X tg iter wi)(hg:∀C s H ex,PG 20 tg g)
  (ht:∀C s H ex,CT 20 ifs tt) (he:∀C s H ex,PE 20 elt te) (hs:∀z,sK iter X.env z=pure z:=by intro _;rfl):
  PE X 30 (qB wi (n0) fr g tt te):=by
 ext bi s Z H Q I h;rw[eval_ListComp];show JG hc CE hi hg ht he hs I h ?_;ext D C s' H' ys vs k m I5 wA lo lt below uP eD nD nC hn rv hz q;show{m,hn,λh' sb=>?_};have I6:Inv X bi Z H' (s'\h'):=I5.turned (t':=s'.toks) (it:=C) (λb o hb e=>sb.extBut b o hb e) nC (cx<|gA lt wA) (.inr<|cy<|fC lo wA) (λy c z=>aU<|gA (below y c z) wA) (λp hp=>aU<|gA (uP p hp) wA);have eD':h'.get? D>lobj vs k:=sb.extBut _ _ (aU wA) eD;show{-D,_,I6.adopt nD eD' rv hz lo (cx lt) (λy c z=>aU<|below y c z) (λp hp=>aU<|uP p hp),9,q _ nD}
def Ja(hc:X.calm=true)(ST:uv X scope x more fs fr)(hi:PI X tg iter wi)(hg:∀C s H ex,PG 68 tg g)
  (ht:∀C s H ex,CT 68 ifs tt) (he:∀C s H ex,PE 68 elt te) (hs:∀z,sK iter X.env z=pure z:=by intro _;rfl):
  PE X 30 (qB wi (more.length+1) fr g tt te):=Jc hc (Ww ST) hi hg ht he hs
def LA{elt iter tg:wv}{y:i9}{py tZ:Gc}{j:Nat}{N':Aaf}{cl:cr->List (i9×cr)}{fn:i9->Bool}{n0:Nat}{g:TG}{ifs:List wv}{scope:AC}{pos:Gc}{wi:TI}{fr:List Nat}{tt:TT}{te:TE}(hN:X.N.Nodup)(hj:X.N[j]?>y)(hy:X.env.scope.names.lookup y>.local)(hc:X.calm=true)(CE:N4 X scope N' cl fn n0 fr)(hi:PI X tg iter wi)(hg:∀C s H ex,PG 20 tg g)
  (ht:∀C s H ex,CT 20 ifs tt) (he:∀C s H ex,PE 20 elt te) (hs:∀z,sK iter X.env z=pure z:=by intro _;rfl)
  (GY:Ev 30 (some<|.Name y py) tZ.line X.env=pure true:=by rfl):PS X (.Assign [.Name y py] 30 tZ) (Ga j<|qB wi (n0) fr g tt te):=by
 ext bi s Z H D I h;obtain⟨Q,eQ⟩:∃Q:VK,Q=λv H1=>D.nx (Z.set j<|some v) H1:=⟨_,rfl⟩;have h:qB wi (n0) fr g tt te Z H Q:=by rw[eQ];show h
 rw[exec_Assign_Name_used _ _ _ _ GY];show ae<|qP<|ae ?_;change f' _ _ (comprehension 30 scope X.env _ (newList []) false (wf iter X.env) (some<|assign (.Name y py) X.env)>>=λ_=>pure ()) _ _ s;show ae (dy (JG (Q:=Q) (R:=λ_ s'=>SP X bi D .next s') hc CE hi hg ht he hs I h ?_) (λ_ s' hq=>ah<|ah hq) λ_ _ e=>e);ext D1 C s' H' ys vs k m I5 wA lo lt below uP eD nD nC hn rv hz q;have I7:=I5.adopt nD eD rv hz lo (cx lt) (λy c z=>aU<|below y c z) (λp hp=>aU<|uP p hp);show D8<|IA (v:=-D1) I7 hN hj (.inl hy) 9 (λs3 I8 yc=>?_)<|.inr hy;let(a,sb,ha):=yc;show{m,hn.sameBut sb ?_,λh' BY=>?_}
 ·rcases ha with e|e;·rw[e];show cx (gA lt wA)
  show cx<|gA (below _ _ e) wA
 have nC2:upd H' D1 49 C=none:=by rw[aI<|cx wA];show nC
 have I9:Inv X bi (Z.set j<|some (-D1)) (upd H' D1 49) (s3\h'):=I8.turned (t':=s3.toks) (it:=C) (λb o hb e=>BY.extBut b o hb e) nC2 (cx<|gA lt wA) (.inr<|cy<|fC lo wA)
  (λy c z=>aU<|gA (below y c z) wA) (λp hp=>aU<|gA (uP p hp) wA)
 have q':=q _ nD;rw[eQ]at q';show⟨_,_,I9,q'⟩
def Cb{elt iter tg:wv}{x y:i9}{py tZ:Gc}{j:Nat}{more:Aaf}{g:TG}{ifs:List wv}{scope:AC}{pos:Gc}{wi:TI}{fs:Aaf}{fr:List Nat}{tt:TT}{te:TE}(hN:X.N.Nodup)(hj:X.N[j]?>y)(hy:X.env.scope.names.lookup y>.local)(hc:X.calm=true)(ST:uv X scope x more fs fr)(hi:PI X tg iter wi)(hg:∀C s H ex,PG 68 tg g)
  (ht:∀C s H ex,CT 68 ifs tt) (he:∀C s H ex,PE 68 elt te) (hs:∀z,sK iter X.env z=pure z:=by intro _;rfl)
  (GY:Ev 30 (some<|.Name y py) tZ.line X.env=pure true:=by rfl):PS X (.Assign [.Name y py] 30 tZ) (Ga j<|qB wi (more.length+1) fr g tt te):=LA hN hj hy hc (Ww ST) hi hg ht he hs GY
def BP(wi:TI)(fr:List Nat)(tt:TT)(te:TE):ux wi fr tt te=qB wi 1 fr (sD 0) tt te:=by
 funext Z H Q;unfold ux qB;congr 1;funext J H1;show propext (CQ λW=>oP λ_=>?_);show kz λi=>kz λm=>kz λys=>kz λH2=>kz λ_=>?_;show or_congr Ip (oP λ_=>oP λ_=>kz λv=>kz λH3=>kz λ_=>?_);constructor
 ·ext h own ho
  match own,ho with
  |[o],_=>show{[some v],9,9,h}
 ext h;let(o4,e,l,q):=h [none] rfl;show q
def LM(hc:X.calm=true)(S:sX X scope x fs fr)(hi:PI X 96 iter wi)
  (ht:∀C s H ex,CT 119 ifs tt) (he:∀C s H ex,PE 119 elt te) (hs:∀z,sK iter X.env z=pure z:=by intro _;rfl):
  PE X (.ListComp elt [{96,iter,ifs,0}] scope pos) (ux wi fr tt te):=by
 rw[BP];show Ja (more:=[]) hc {S,S.nd} hi (λC s H ex=>om (i:=0) S.nd 9 (Or.inl<|kL S.loc)<|.inr<|kL S.loc) ht he hs
def lY(hc:X.calm=true)(S:sX X scope x fs fr)(hi:PI X 96 iter wi)
  (he:∀C s H ex,PE 119 elt te) (hs:∀z,sK iter X.env z=pure z:=by intro _;rfl):
  PE X (.ListComp elt [{96,iter,[],0}] scope pos) (ux wi fr DL te):=LM hc S hi (λ_ _ _ _=>Hg) he hs
def xU(hc:X.calm=true)(S:sX X scope x fs fr)(hi:PI X 96 iter wi)
  (ht:∀C s H ex,PT 119 c tc) (he:∀C s H ex,PE 119 elt te) (hs:∀z,sK iter X.env z=pure z:=by intro _;rfl):
  PE X (.ListComp elt [{96,iter,[c],0}] scope pos) (ux wi fr tc te):=LM hc S hi (λC s H ex=>ND<|ht C s H ex) he hs
def Oc(hN:X.N.Nodup)(hj:X.N[j]?>y)(hy:X.env.scope.names.lookup y>.local)
  (hc:X.calm=true) (S:sX X scope x fs fr) (hi:PI X 96 iter wi)
  (ht:∀C s H ex,CT 119 ifs tt) (he:∀C s H ex,PE 119 elt te) (hs:∀z,sK iter X.env z=pure z:=by intro _;rfl)
  (GY:Ev (.ListComp elt [{96,iter,ifs,0}] scope pos) (some<|.Name y py) tZ.line X.env=pure true:=by rfl):
  PS X (.Assign [.Name y py] (.ListComp elt [{96,iter,ifs,0}] scope pos) tZ) (Ga j<|ux wi fr tt te):=by
 rw[BP];show Cb (more:=[]) hN hj hy hc {S,S.nd} hi (λC s H ex=>om (i:=0) S.nd 9 (Or.inl<|kL S.loc)<|.inr<|kL S.loc) ht he hs GY
def vW{elt iter:wv}{x y:i9}{px py tZ:Gc}{scope:AC}{pos:Gc}{wi:TI}{fs:Aaf}{fr:List Nat}{te:TE}{j:Nat}(hN:X.N.Nodup)(hj:X.N[j]?>y)(hy:X.env.scope.names.lookup y>.local)
  (hc:X.calm=true) (S:sX X scope x fs fr) (hi:PI X 96 iter wi)
  (he:∀C s H ex,PE 119 elt te) (hs:∀z,sK iter X.env z=pure z:=by intro _;rfl)
  (GY:Ev (.ListComp elt [{96,iter,[],0}] scope pos) (some<|.Name y py) tZ.line X.env=pure true:=by rfl):
  PS X (.Assign [.Name y py] (.ListComp elt [{96,iter,[],0}] scope pos) tZ) (Ga j<|ux wi fr DL te):=Oc hN hj hy hc S hi (λ_ _ _ _=>Hg) he hs GY
def Au(hc:X.calm=true)(S:uv X scope x more fs fr)(hi:PI X tg iter wi)(hg:∀C s H ex,PG 68 tg g)
  (he:∀C s H ex,PE 68 elt te) (hs:∀z,sK iter X.env z=pure z:=by intro _;rfl):
  PE X (.ListComp elt [{tg,iter,[],0}] scope pos) (qB wi (more.length+1) fr g DL te):=Ja hc S hi hg (λ_ _ _ _=>Hg) he hs
def sG(h:Su X.env.scope X.N scope x fs fr=true:=by kernel_rfl)(h2:decide (x::more++fs).Nodup=true:=by kernel_rfl):uv X scope x more fs fr:={eF h,bz h2}
def zB{K:Frag}(hc:X.calm=true)(h:Ht X es t)(hK:X.K=K:=by rfl)
  (hn:(GM es X.env).length=n:=by rfl) (qG:(GM es X.env).findIdx? (·.1)=none:=by rfl):PG X (.Tuple es k pos) (YY K n t):=hK▸lA hc h hn qG
def mG(hN:decide X.N.Nodup=true:=by kernel_rfl)(hi:X.N[i]?>x:=by rfl)(hl:X.env.scope.names.lookup x>.local:=by first|rfl|exact kL rfl):PG X 46 (sD i):=
 om (bz hN) hi (.inl hl) (.inr hl)
variable{K:Frag}{a:cr}{xs:Aam}{fr:List Nat}{tt:TT}{te:TE}{Z:St}{H1:Hp}{R:cr->Aam->Hp->Prop}
abbrev Ks(K:Frag):TG:=YY K 2<|Sg (sD 0)<|Sg (sD 1) ae0
abbrev DA(J:It)(k:Nat)(fr:List Nat)(g:TG)(tt:TT)(te:TE)(Z:St)(H1:Hp)(R:cr->Aam->Hp->Prop):Prop:=
 ∃W:Nat->Nat->Aam->Hp->Prop,(∃m,W 0 m [] H1)/\∀i m ys H2,W i m ys H2->
 (J.stop i H2/\48<=dL/\∀l,H2 l=none->R l ys H2)\/
 (J.go i H2/\48<dL/\∀v H3,J.Es i H2 v H3->∀own:St,own.length=k->g v (own++slotsOf fr Z) H3 λσ4 H4=>∃LS,σ4=LS++slotsOf fr Z/\LS.length=k/\tt σ4 H4 λb H5=>
  if b=true then te σ4 H5 (λy H6=>∃m',m'<m/\W (i+1) m' (ys++[y]) H6)else∃m',m'<m/\W (i+1) m' ys H5)
def HK{v a b:V}{own rest:St}(ho:own.length=2)(ev:v=-p)(hp:bA K H p [a,b])(h:Q (some a::some b::rest) H):Ks K v (own++rest) H Q:=by
 cases own with
 |nil=>cases ho
 |cons o1 own=>cases own with
  |nil=>cases ho
  |cons o2 own=>cases own with
   |nil=>show⟨p,_,ev,hp,rfl,_,_,rfl,_,_,rfl,rfl,h⟩
   |cons=>cases ho
def Wv(Pv:Nat->Aam->Hp->Prop)(hx:42<dL)(h0:Pv 0 [] H1)(hl:∀i ys H,i<=42->Pv i ys H->bA K H a xs/\48<=i)
  (hs:∀(i:Nat)(x:V)(ys:Aam)(H:Hp)(N:Aam->Hp->Prop),xs[i]?>x->Pv i ys H->(∀jX H',Pv (i+1) jX H'->N jX H')->
   ∃p b c,x=-p/\bA K H p [b,c]/\tt (some b::some c::slotsOf fr Z) H λt H4=>if t=true then te (some b::some c::slotsOf fr Z) H4 150 else N ys H4)
  (hd:∀ys H,Pv 42 ys H->∀l,H l=none->R l ys H):DA (WS K a) 2 fr (Ks K) tt te Z H1 R:=by
 show{λi m ys H=>m=42 -i/\i<=42/\Pv i ys H,{42,84,aQ _,h0},?_};ext i m ys H ⟨rfl,hi,p⟩;let(q,hy):=hl i ys H hi p;by_cases cb:i<42;·show .inr {{xs,_,q,au cb},8,?_};ext v H3 ⟨rfl,hv⟩ own ho;let(pp,b,c,ev,hp,h):=hs i v ys H3 (λjX H'=>∃m',m'<42 -i/\m'=42 -(i+1)/\i+1<=42/\Pv (i+1) jX H') (hv xs q) p λjX H' p'=>{_,8,9,cb,p'};show HK ho ev hp {[some b,some c],9,9,h}
 have e:i=42:=by lia
 subst e;show .inl {{xs,q,aw _},8,hd ys H p}
def AO(Pv:Nat->Aam->Hp->Prop)(hx:42<dL)(h0:Pv 0 [] H1)(hl:∀i ys H,i<=42->Pv i ys H->bg K H a xs/\48<=i)
  (hs:∀(i:Nat)(x:V)(ys:Aam)(H:Hp)(N:Aam->Hp->Prop),xs[i]?>x->Pv i ys H->(∀jX H',Pv (i+1) jX H'->N jX H')->
   ∃p b c,x=-p/\bA K H p [b,c]/\tt (some b::some c::slotsOf fr Z) H λt H4=>if t=true then te (some b::some c::slotsOf fr Z) H4 150 else N ys H4)
  (hd:∀ys H,Pv 42 ys H->∀l,H l=none->R l ys H):DA (WT K a) 2 fr (Ks K) tt te Z H1 R:=by
 show{λi m ys H=>m=42 -i/\i<=42/\Pv i ys H,{42,84,aQ _,h0},?_};ext i m ys H ⟨rfl,hi,p⟩;let(q,hy):=hl i ys H hi p;by_cases cb:i<42;·show .inr {{xs,_,q,au cb},8,?_};ext v H3 ⟨rfl,hv⟩ own ho;let(pp,b,c,ev,hp,h):=hs i v ys H3 (λjX H'=>∃m',m'<42 -i/\m'=42 -(i+1)/\i+1<=42/\Pv (i+1) jX H') (hv xs q) p λjX H' p'=>{_,8,9,cb,p'};show HK ho ev hp {[some b,some c],9,9,h}
 have e:i=42:=by lia
 subst e;show .inl {{xs,q,aw _},8,hd ys H p}
end
def sj(a b:i9):Bool:=!decide (b.cps.toList<a.cps.toList)
def zJ(a b:i9):sj a b=true↔a.cps.toList<=b.cps.toList:=by unfold sj;rw[Er,decide_eq_false_iff_not];show Ip
def Jm(a b c:i9)(h1:sj a b=true)(h2:sj b c=true):sj a c=true:=by rw[zJ]at*;show List.le_trans h1 h2
def Ml{a b:i9}(h1:sj a b=true)(h2:sj b a=true):a=b:=by rw[zJ]at*;show ext_toList<|List.le_antisymm h1 h2
def UW(a b:i9):(sj a b||sj b a)=true:=by
 rcases List.le_total a.cps.toList b.cps.toList with h|h;·rw[(zJ a b).mpr h,Bool.true_or]
 rw[(zJ b a).mpr h,DC]
def jq(zs:Aaf):Aaf:=zs.mergeSort sj
def gc(zs:Aaf):(jq zs).Perm zs:=List.mergeSort_perm zs sj
def Gj(zs:Aaf):(jq zs).Pairwise (λa b=>sj a b=true):=List.pairwise_mergeSort Jm UW zs
theorem EF:∀(r:Aaf)(p:i9),risingS p r=true->(p::r).Pairwise (λa b=>sj a b=true)
 |[]=>λp _=>by simp
 |x::r=>λp h=>by
  have h':(!ltCps x.cps.toList p.cps.toList&&risingS x r)=true:=h;rw[bT]at h';have ih:=EF r x h'.2;have h1:sj p x=true:=by have:=h'.1;rw[ltCps_eq]at this;show this
  show u3.mpr {λy hy=>?_,ih};rcases aK.mp hy with rfl|hy;·show h1
  show Jm p x y h1<|oR ih hy
theorem N8:∀(l:Aaf),sortedS l=true->l.Pairwise (λa b=>sj a b=true)
 |[],_=>.nil
 |x::r,h=>EF r x h
theorem Pg:∀{l m:Aaf},l.Perm m->l.Pairwise (λa b=>sj a b=true)->m.Pairwise (λa b=>sj a b=true)->l=m
 |[],m=>λh _ _=>(List.nil_perm.mp h).symm
 |a::l,[]=>λh _ _=>absurd h.length_eq 84
 |a::l,b::m=>λh h1 h2=>by
  have e:a=b:=by
   rcases aK.mp (h.mem_iff.mp<|ay)with e|e;·show e
   rcases aK.mp (h.mem_iff.mpr<|ay)with q|q;·show q.symm
   show Ml (oR h1 q)<|oR h2 e
  subst e;rw[Pg (List.perm_cons a|>.mp h) (u3.mp h1).2 (u3.mp h2).2]
def XC{l zs:Aaf}(h:l.Perm zs)(hs:sortedS l=true):l=jq zs:=Pg (h.trans (gc zs).symm) (N8 l hs)<|Gj zs
theorem KS:∀{zs:Aaf}{us:Aae},Vals 57 us->StrsAre us zs
 |[],_,.nil=>.nil
 |z::r,_,.cons ⟨t,e⟩ h=>by subst e;show .cons _ _<|KS h
def Xw:∀{zs:Aaf}{us:Aae},StrsAre us zs->Vals 57 us:=by
 ext _ _ h
 induction h with
 |nil=>show .nil
 |cons y t _ ih=>show .cons ⟨t,rfl⟩ ih
section
variable{X:Cx}
inductive abr(x:V)(vs:Aam)(H:Hp)(Q:VK):Prop
 |mk l xs i y (_:x=-l) (_:vs=[.int i,y]) (_:H l>.lst xs) (_:0<=i) (_:i<=(xs.length:Int)) (_:xs.length<1000) (_:Q .cU (upd H l<|.lst<|xs.take i.toNat++y::xs.drop i.toNat))
def ab9(aM:Aae)(u:i5)(i:Int)(h0:0<=i)(h1:i.toNat<=aM.length):(λxs:Aaj=>have k:=if i<0 then(i+((xs.size:Nat):Int)).toNat else min i.toNat xs.size;(xs.extract 0 k).push u++xs.extract k) aM.toArray=(aM.take i.toNat++u::aM.drop i.toNat).toArray:=by
 have e:212=i.toNat:=by rw[aL ∅,aT];lia
 change((aM.toArray.extract 0 212).push u++aM.toArray.extract 212)=_;rw[e];apply Hx;simp;show cS<|fG▸aw _
def UL:WQ X "list.insert" abr:=by
 ext bi s Z H x vs v us Q I rx rv h;let(l,xs,i,y,rfl,rfl,hH,h0,h1,hz,q):=h;cases rx;obtain⟨_,u,rfl,⟨t,rfl⟩,ru⟩:=Vals.two rv;let(z,aM,n,r,hl,e):=I.AD hH;show mB F.slot_list_insert ⟨_,e,rfl⟩ F.entry_list_insert (F.args_list_insert_3 _ _ _) (AutoListH.list_insert_list_int_val_1 l aM.toArray n i t u ?_ (by rw[aT];lia)) {e,?_};·have:=fitsIndex_both (k:=i) ∅ ∅;simpa using this
 show{.cU,_,I.RN (its':=aM.take i.toNat++u::aM.drop i.toNat) hH e (ab9 aM u i h0 ∅) ((r.take _).append<|.cons ru<|r.drop _) ?_,9,q};have:=bB (n:=42+1) ∅;rw[aG,bJ,bo,fG];lia
inductive XN(K:Frag)(neg:Bool)(x:V)(y:V)(H:Hp)(Q:VK):Prop
 |mk d ds (_:Dt K H d x) (_:(Dt K H (.tuple ds) y\/Dt K H (.list ds) y)) (_:PyData.canLayAll0 ds=true) (_:d.canLay0=true) (_:d.depth<=060) (_:Q (.bl (if neg then !(ds.any λe=>PyData.eqv e d)else ds.any λe=>PyData.eqv e d)) H)
def Cf(hu:X.A.units+64<wE):kn X (v4 .NotIn) (XN X.K true):=by
 ext bi s Z H x y v u Q I rx ry h;let(d,ds,h1,h2,h3,h4,h5,q):=h;let(as,r1):=wJ I d x v h1 rx;rcases h2 with h2|h2;·let(bs,r2):=wJ I _ y u h2 ry;show SeqAt.notIn_tuple_reads r2 r1 h3 h4 ∅ {.bl _,H,I,9,q}
 let(bs,r2):=wJ I _ y u h2 ry;show SeqAt.notIn_list_reads r2 r1 h3 h4 ∅ {.bl _,H,I,9,q}
def Rk{K:Frag}(hu:X.A.units+64<wE)(h:X.K=K:=by rfl):kn X (v4 .NotIn) (XN K true):=h▸Cf hu
def aao(hl:53=true:=by rfl)(hb:wT 67 "get" X.env (wf 67 X.env)=wf 67 X.env:=by rfl):M2 X 67 "get" Fa 96 (.Name y py) eR:=⟨hb,rfl,hl,rfl⟩
def cW.Z7{P:io}{w:i6}{H:Hp}{h:nw}{a:cr}{o:HO}(x:cW P w H h a o):∃u,h.get? a>u:=by
 cases o with
 |lst xs=>let(__,__,__,__,e):=x;show⟨_,e⟩
 |tup xs=>let(__,__,__,__,u,e,__):=x;show⟨_,e⟩
 |dK kvs=>let(__,__,__,__,u,__,__,e,__):=x;show⟨_,e⟩
 |ins C dx fs=>let(__,__,__,e,__):=x;show⟨_,e⟩
 |own y=>show x
 |xd fs=>obtain⟨_,⟨u,_,_,e,_⟩,_⟩:=x;show⟨_,e⟩
 |fF ob u=>show{_,x.1}
 |Iz ps=>show⟨_,x⟩
 |ext φ=>show x.2.1
variable{bi:Aaa}{Z:St}{H:Hp}{s:f8}{h':nw}{a:cr}{o:HO}
def Inv.none_(I:Inv X bi Z H s)(hn:s.heap.get? a=none):H a=none:=by
 cases q:H a with
 |none=>rfl
 |some u=>
  let(v,e):=(I.bC a u q).Z7;rw[hn]at e;cases e
def Inv.af2{t':Nat}(I:Inv X bi Z H s)(k:∀b u,s.heap.get? b>u->h'.get? b>u)(hn:s.heap.get? a=none)(new:cW 86 X.w (upd H a o) h' a o):
  Inv X bi Z (upd H a o) (s\(h',t')):=by
 have hH:=I.none_ hn;have ne:∀{b u},s.heap.get? b>u->b≠a:=λq z=>by rw[z,hn]at q;cases q
 show I.un {λb u q _ _ _=>k b u q,λb u q _ _ _=>{u.slots,k b u q},λb u q n _=>by rw[aI<|ne q];show n,λb u q _=>{u,k b u q},λb xs q=>by rw[aI<|bx q hH];show q,
  λb u v q=>by rw[aI<|bx q hH];show q,λb ps q=>{#[],by rw[aI<|bx q hH,q];simp}} λb u e=>?_
 by_cases hb:b=a;·subst hb;rw[aF]at e;cases e;show new
 rw[aI hb]at e;show(I.bC b u e).qt (λc v _ q=>k c v q) (λc q=>by rw[aI<|bx q hH];show q) λc xs q=>by rw[aI<|bx q hH];show q
noncomputable abbrev Ho:Aae:=[.type "ValueError",.type "Exception",.type "BaseException",.type "object"]
def lX(e C:cr)(dd:Aai):nw->Prop:=λh=>∃t,h.get? e>{cls:=-C,dict:=dd,data:=.fields #[-t,.none,.none,.none,.bool false,.none]}
def Ia{P:io}{w:i6}{H:Hp}{h:nw}{e C:cr}{dd:Aai}(x:lX e C dd h):cW P w H h e (.ext<|lX e C dd):=
 {x,by let(__,q):=x;show⟨_,q⟩,λ_ _ ⟨t,q⟩ k=>{t,k _ q}}
end
section
variable{prog:io}{w:i6}{A:ss}{E:Aac}{h:nw}{g:Array No}{d:Drawn}{t:Nat}{os:xz}{nm qn:i9}{C N fI:cr}{bs bm Bq sub us:Aae}{hd ab:Bool}{sn:Aaf}{col:Option Bool}{dd:Aai}{k0 k1 k2 k3 k5:Aag}{B Bd Ve:String}
def JV(F:ExcBaseFacts B Bd Ve Bq)(T:OwnTail h Bq bm){Q:Fin->f8->Prop}(hC:h.get? C>U' nm qn C N bs bm hd sn sub ab col dd k0 k1 k2 k3 k5 Bd)
  (hl:PySem.W.Looks 85 h (EQ (-C) "__init__") (some (-fI))) (hb:∀v,PySem.W.Looks 85 h (bindSpecial (-fI) v) (-fI,[v]))
  (k:∀h' a,Heap.MadeExcOf h h' a (-C) us->f' 85 A (Go (-fI)<|.ref a::us) (λr s'=>r=.none/\Q (.done<|.ret (-a)) s') E ⟨h',g,d,t,os⟩) (hz:us.length<=dL):
  f' 85 A (Builtin.«type.__call__» {.ref C::us,[]}) Q E ⟨h,g,d,t,os⟩:=by
 repeat (first|with_reducible show wpAny_madeBy_exc hC ?_|with_reducible show jG hC ?_|wp_step)
 show codeAny_call_builtin_code (hX _ F.quiet) (wpAny_check_new_subT F T hC
  (codeAny_exc_new_subT F T hC ?_ hz))
 change f' _ _ _ _ _ _;generalize e1:h.push {cls:=.type "tuple",data:=.seq us.toArray}=h1;have c1:∀b o,h.get? b>o->h1.get? b>o:=λb o q=>by rw[<-e1];show ao _ q
 generalize e2:h1.push {cls:=-C,data:=.fields #[.ref h.objs.size,.none,.none,.none,.bool false,.none]}=h2;have c2:∀b o,h.get? b>o->h2.get? b>o:=λb o q=>by rw[<-e2];show ao _<|c1 b o q
 have z1:h1.objs.size=h.objs.size+1:=by rw[<-e1];show dk _ _
 have g2:h2.get? (h.objs.size+1)>{cls:=-C,data:=.fields #[.ref h.objs.size,.none,.none,.none,.bool false,.none]}:=by rw[<-e2,<-z1];show aH _ rfl
 have g1:h2.get? h.objs.size>{cls:=.type "tuple",data:=.seq us.toArray}:=by rw[<-e2,<-e1];show ao _<|aH _ 9
 have hC2:=c2 _ _ hC;have hcC:(Value.ref C::bm).contains (-C)=true:=by simp
 unfold isInstance
 repeat (first|(with_reducible show tw hC2 ?_;rw[hcC])|with_reducible show jG g2 ?_|wp_step)
 change f' _ _ (EQ (-C) _) _ _ _;show hl A _ E _ c2<|bP<|ae<|hb _ A _ E _ c2<|ae (dy (k h2 (h.objs.size+1) {c2,jC<|fY _,_,g2,jC<|aw _,g1}) (λr s' q=>?_) λ_ _ z=>z);let(rfl,q):=q
 wp_walk
 show q
def Zp(F:ExcBaseFacts B Bd Ve Bq)(T:OwnTail h Bq bm){Q:Aac}(hC:h.get? C>U' nm qn C N bs bm hd sn sub ab col dd k0 k1 k2 k3 k5 Bd)
  (hl:PySem.W.Looks 85 h (EQ (-C) "__init__") (some (-fI))) (hb:∀v,PySem.W.Looks 85 h (bindSpecial (-fI) v) (-fI,[v]))
  (k:∀h' a,Heap.MadeExcOf h h' a (-C) us->f' 85 (A.under<|.builtin "type.__call__" {.ref C::us,[]}) (Go (-fI)<|.ref a::us) (λr s'=>r=.none/\Q (-a) s') E ⟨h',g,d,t,os⟩) (hz:us.length<=dL):
  f' 85 A (Go (-C) us) Q E ⟨h,g,d,t,os⟩:=by
 have f1:=tc_lookup;have f2:=tc_bind (-C);have f3:(⟨h,g,d,t,os⟩:f8).TypeIs (-C) "type":=⟨_,hC,rfl⟩;show mh<|yn ?_;change f' _ _ (callAny (-C) _) _ _ _
 repeat (any_goals (first|assumption|(with_reducible show jG hC ?_)|wp_step))
 show{9,codeAny_call_builtin_at (hX _ 59) entry_typeCall<|wpAny_check_type_call_sub hC<|JV F T hC hl hb (λh' a m=>k h' a m) hz}
end
def pE(K:Frag)(C:cr)(Bq:Aae)(Bd:String):Bool:=match K.lookup C with
 |some ⟨.type "type",_,.cls cd,sl⟩=>(match cd.mro,sl.toList with
  | .ref C2::bm,[_,_,_,_,some<|.builtin n,_]=>C2==C&&(n==Bd&&(!cd.hasDel&&PySem.W.tailIn K Bq bm))
  |_,_=>false)
 |_=>false
def wa{K:Frag}{h:nw}{C:cr}{Bq:Aae}{Bd:String}(X:K.In h)(q:pE K C Bq Bd=true):
  ∃bm N nm qn bs hd sn sub ab col dd k0 k1 k2 k3 k5,h.get? C>U' nm qn C N bs bm hd sn sub ab col dd k0 k1 k2 k3 k5 Bd/\OwnTail h Bq bm:=by
 unfold pE at q;split at q
 case h_2=>cases q
 case h_1 d cd sl ho=>
  split at q
  case h_2=>cases q
  case h_1 C2 bm k0 k1 k2 k3 n k5 hm hs=>
   simp only[bT,jx,Er]at q;let(e1,e2,e3,e4):=q;subst e1 e2;cases cd with
   |mk nm bs mro ns qn hd sn sub ab col del=>
    subst hm e3;cases sl with
    |mk l=>
     have hl:=hs;subst hl;show{_,_,_,_,_,_,_,_,_,_,_,_,_,_,_,_,X _ _ ho,PySem.W.tail_of_in X e4}
section
variable{X:Cx}{CX:Fo}{k:Nat}{C f:cr}{fd:re}{ps:Aaf}{sp:Sp}{E:XK}{x:i9}{p pos:Gc}{e:wv}{es:List wv}{t:TA}
def ZY(C:cr)(sp:Sp)(E:XK)(t:TA):TE:=λZ H Q=>t Z H λvs H1=>vs.length<=1000/\∀a,H1 a=none->sp (.ref a::vs) (upd H1 a<|.ext<|lX a C none) (λv H2=>v=.cU/\Q (-a) H2) E
def abH(q:pE X.K C Ho "ValueError.__new__"=true)(kp:keepIn X.K (-C)=true)(hi:findIn X.K (-C) "__init__">some (-f))(hf:isFn X.K (-f)=true)
  (F:cN 86 X.w X.K X.mg X.base CX k f fd ps sp) (hr:gx (k+1) X.A) (hb:Binds X.K fd ps []) (hx:Passes CX X E) (hg:Gl X x) (hm:X.mg x>-C)
  (ha:PA X (e::es) t) (su:35=false:=by decide) (he:jp (e::es) X.env=(false,wf e X.env)::jp es X.env:=by rfl) (iu:(Da pos 73).any (·.1)=false:=by rfl):
  PE X 116 (ZY C sp E t):=by
 ext bi s Z H Q I h;show jZ<|wu I hg hm ?_ su;show pJ (h₀:=X.base) I.ok.mod.Jq kp (qV 15 λus s1 vs H1 I1 r ⟨hl,kk⟩=>{I1.lK,?_}) he iu;have KI:=I1.lK;let(bm,N,nm,qn,bs,hd,sn,sub,ab,col,dd,k0,k1,k2,k3,k5,hC,T):=wa KI q;let(hp,g,d,tk,os):=s1;show Zp vn T hC (AU KI hi) (λv=>PySem.W.bind_fn KI v<|jx.mp hf) (λh' a m=>?_) (by change us.length<=dL;rw[<-r.length];show cy<|bB hl);let(mk,mn,tt,m1,__,__):=m;have I2:Inv X bi Z (upd H1 a<|.ext<|lX a C none) ⟨h',g,d,tk,os⟩:=I1.af2 (t':=tk) (o:=.ext<|lX a C none) mk mn<|Ia ⟨tt,m1⟩;have hq:=kk a<|I1.none_ mn;have r2:Vals (V.ref a::vs) (Value.ref a::us):=.cons rfl r;have hlen:(Value.ref a::us++[]).length=ps.length:=by have e1:=r2.length;rw[F.len _ _ _ _ hq]at e1;rw[eO];show e1.symm
 show mh (jv (F.run _ 37 _ _ {Value.ref a::us,[]} (Value.ref a::us) _ _ E (hr.make C us []) (I2.env0.make C us []) (by have:=hb _ (Value.ref a::us) I2.lK hlen;rw[eO]at this;show this) r2 hq) λr s' vJ=>?_);cases r with
 |error e=>show hx bi Z _ _ e s' I2 vJ
 |ok fl=>
  cases fl with
  |ret u=>
   let(v,H',I3,rv,ev,q3):=I2.after vJ;subst ev;show{rv,V.ref a,H',I3,9,q3}
  |next=>show False.elim vJ
  |brk=>show False.elim vJ
  |cont=>show False.elim vJ
end
section
variable{prog:io}{w:i6}{A:ss}{E:Aac}{h:nw}{g:Array No}{d:Drawn}{t:Nat}{os:xz}{nm qn:i9}{C N e ta:cr}{bs bm Bq sub us:Aae}{hd ab:Bool}{sn:Aaf}{col:Option Bool}{dd de:Aai}{k0 k1 k2 k3 k5:Aag}{B Bd Ve:String}
def Sw(F:ExcBaseFacts B Bd Ve Bq)(T:OwnTail h Bq bm){Q:Aac}(hC:h.get? C>U' nm qn C N bs bm hd sn sub ab col dd k0 k1 k2 k3 k5 Bd)
  (he:h.get? e>{cls:=-C,dict:=de,data:=.fields #[-ta,.none,.none,.none,.bool false,.none]}) (hz:us.length<=dL)
  (k:∀h':nw,(∀b o,b≠e->h.get? b>o->h'.get? b>o)->lX e C de h'->Q .none ⟨h',g,d,t,os⟩):
  f' 85 A (Go (.builtin Ve)<|.ref e::us) Q E ⟨h,g,d,t,os⟩:=by
 show mh<|jw F.init.plain F.initEntry<|wpAny_check_init_subT F T hC he 9 ?_
 wp_walk
 have he1:(h.push {cls:=.type "tuple",data:=.seq us.toArray}).get? e>{cls:=-C,dict:=de,data:=.fields #[-ta,.none,.none,.none,.bool false,.none]}:=ao _ he;show k _ (λb o n q=>?_) {h.objs.size,?_};·rw[bL _ _<|cL n];show ao _ q
 rw[cI _ he1 rfl];rfl
end
section
variable{X:Cx}{A0:cr}{o e:wv}{es:List wv}{ta:TE}{t:TA}{Fa pos:Gc}
def adk(K:Frag)(A0:cr)(ta:TE)(t:TA):TE:=λZ H Q=>ta Z H λx H1=>x=-A0/\t Z H1 λvs H2=>∃a C dd rest,vs=.ref a::rest/\rest.length<=1000/\
 H2 a>.ext (lX a C dd)/\pE K C Ho "ValueError.__new__"=true/\Q .cU (upd H2 a<|.ext<|lX a C dd)
def X6{pl:KB Bool}(ho:PE X o ta)(hs:PySem.W.specialIn X.K (-A0) "__getattribute__">some (.builtin "type.__getattribute__"))(hr:PySem.W.readsIn X.K A0 72=true)
  (hf:PySem.W.findCls X.K (-A0) 72 "__init__">.val (.builtin "ValueError.__init__")) (ha:PA X (e::es) t)
  (qG:jp (e::es) X.env=(false,wf e X.env)::jp es X.env:=by rfl) (iu:(Da pos 73).any (·.1)=false:=by rfl)
  (ht:wf (.Call (.Attribute o "__init__" Fa) (e::es) [] pos) X.env=(do
   let ov<-wf o X.env
   standAt Fa.atName
   let(f,first)<-KE [ov] (Uf ov "__init__" pl)
   callWith pos f first (Da pos<|jp (e::es) X.env) (Pi pos<|G' [] X.env)):=by rfl):
  PE X (.Call (.Attribute o "__init__" Fa) (e::es) [] pos) (adk X.K A0 ta t):=by
 ext bi s Z H Q I h;show zZ (pl:=pl) (dv 111 λu s1 x H1 I1 rx ahg=>?_) ht;let(ex,q1):=ahg;subst ex;obtain rfl:u=Value.ref A0:=rx;show PySem.W.method_cls I1.lK hs<|PySem.W.cls_value I1.lK hr hf 7 ?_;have I1':=I1.tok<|s1.toks+1;have hA:=ha pos bi _ Z H1 _ I1' q1;rw[qG]at hA⊢;show eI (by change(false||(Da pos<|jp es X.env).any (·.1))=false;rw[iu]<;>rfl)<|jF ?_;show jK hA λus s2 ahf=>?_;let(vs,H2,I2,r,a,C,dd,rest,ev,hl,hH,hc,k):=ahf;subst ev;cases r with
 |@cons _ v1 _ Iy r1 r2=>
  obtain rfl:v1=Value.ref a:=r1;let(bm,N,nm,qn,bs,hd,sn,sub,ab,col,d2,k0,k1,k2,k3,k5,hC,T):=wa I2.lK hc;obtain⟨⟨tt,he⟩,_⟩:=(show cW 86 X.w H2 s2.heap a (.ext<|lX a C dd)from I2.bC a _ hH);let(hp,g,d,tk,os):=s2;show Sw vn T hC he (by rw[<-r2.length];show cy<|bB hl) λh' kk hx=>?_;let(t2,Vh):=hx;show{.cU,_,I2.write (t':=tk) (x:=a) (e:=a) (by rw[hH];show trivial) (.inl 9) (λb u n q=>kk b u n q) ⟨_,Vh⟩<|Ia ⟨t2,Vh⟩,9,k}
end
end L2
namespace L2
open PySem PySem.Spec PyProof.Rows PySem.W Builtin Builtin.ObjectAttr
noncomputable def Nn:Aae->Bool
 | .ref _::r=>Nn r
 |l=>l==[.type "ValueError",.type "Exception",.type "BaseException",.type "object"]
def Ob(self:i5):refuseLoop self "__setattr__" [.type "ValueError",.type "Exception",.type "BaseException",.type "object"]=pure ():=by kernel_rfl
theorem Gw(self:i5):∀{l:Aae},Nn l=true->refuseLoop self "__setattr__" l=pure ()
 | .ref c::r,h=>by rw[refuseLoop_ref];show Gw self (l:=r) h
 |[],h=>by cases h
 | .type n::r,h=>by have e:Value.type n::r=[.type "ValueError",.type "Exception",.type "BaseException",.type "object"]:=jx.mp h;rw[e];show Ob self
structure rC(K:Frag)(C:cr):Prop where
 ga:findIn K (-C) "__getattribute__">some (.builtin "BaseException.__getattribute__")
 gt:findIn K (-C) "__getattr__">none
 sa:findIn K (-C) "__setattr__">some (.builtin "object.__setattr__")
 be:mroIn K C 71>true
 ob:mroIn K C 70>true
 hd:hasDictIn K C=true
 tl:(clsIn K C).any (λcd=>Nn cd.mro)=true
 cl:findIn K (-C) "__class__">some 145
 cg:specialIn K 145 "__get__">some (.builtin "getset_descriptor.__get__")
 ct:takesIn K 145>true
section
variable{prog:io}{w:i6}{A:ss}{E:Aac}{s:f8}{K:Frag}{x C:cr}{ox:J'}{od:Option J'}{name:i9}
def Yv:builtinKind "BaseException.__getattribute__">.slot:=by decide+kernel
def Ts:splitId "BaseException.__getattribute__">("BaseException","__getattribute__"):=by decide+kernel
def NN{R:UF->f8->Prop}{tk:Tok}(X:K.In s.heap)(I:InstAt s.heap x ox C od)(e:rC K C)
  (h:f' 85 A.in1 (Builtin.«object.__getattribute__» {[-x,.str name tk],[]}) (λfin s'=>match fin with| .done f=>R (.ok f) s'| .again c'=>c'.quiet=true/\C' 85 A c' R s') (λe s'=>R (.error e) s') s):
  C' 85 A (.call (.builtin "BaseException.__getattribute__") {[-x,.str name tk],[]}) R s:=by
 show jw PySem.F.excAttr_ValueError.ga.plain PySem.F.entry_bexc_ga<|@check_slot 85 _ _ s "BaseException.__getattribute__" "BaseException" "__getattribute__" (-x) [.str name tk] [] _ Yv Ts (I.type.andThen<|looks_mroIn X e.be) (PySem.F.args_bexc_ga _ _) h
def Qm{Q:Aac}{tk:Tok}{fill expr:Bool}(X:K.In s.heap)(I:InstAt s.heap x ox C od)(e:rC K C)
  (h:C' 85 A (.call (.builtin "BaseException.__getattribute__") {[-x,.str name tk],[]}) (λr s'=>match r with| .ok (.ret v)=>f' 85 A (handedOut v) Q E s'|_=>False) s):
  f' 85 A (getAttrBy (-x) (.str name tk) fill expr) Q E s:=by
 show bP<|ae<|I.type.here<|ae<|(looks_findIn X e.ga).here ?_;have n1:¬((onTheHeap (Value.ref C)&&Value.builtin "BaseException.__getattribute__"==Value.builtin "object.__getattribute__")=true):=by change ¬((true&&Value.builtin "BaseException.__getattribute__"==Value.builtin "object.__getattribute__")=true);decide
 change f' _ _ (if(onTheHeap (Value.ref C)&&Value.builtin "BaseException.__getattribute__"==Value.builtin "object.__getattribute__")=true then _ else _) _ _ _;unfold getAttrByItsOwn hookBefore;show ae<|(looks_findIn X e.gt).here<|ae<|eM<|bP ?_;unfold callGetattribute;rw[aL (by cases expr<;>decide)];unfold boundAndCalled;show ae 92;show mh (jv h λr s' z=>?_);rcases r with e|(v|_|_|_)<;>first|show z|show z.elim
def V1{Q:Aac}{v:i5}{expr:Bool}(X:K.In s.heap)(I:InstAt s.heap x ox C od)(e:rC K C)(hf:findObj K C od name>.value v)(hh:handedIn v=true)(h:Q v {s with toks:=21+1}):
  f' 85 A (getAttr (-x) name expr) Q E s:=by
 let(hp,g,d,t,os):=s;have L0:=I.type (M:=ii prog w);have L1:=looks_find (M:=ii prog w) X I hf;unfold getAttr;show ae<|wpAny_mkText<|Qm (s:={hp,g,d,t+1,os}) X I e<|NN (s:={hp,g,d,t+1,os}) X I e ?_;show ae<|ah<|ae<|ah<|ae<|L0.at<|ae<|L1.at 92;change f' _ _ (handedOut v) _ _ _;rw[handedOut_of hh];show ah h
def V3{Q:Aag->f8->Prop}(X:K.In s.heap)(I:InstAt s.heap x ox C od)(e:rC K C)(h:Q (some (-C)) {s with toks:=21+1}):
  f' 85 A (getAttr? (-x) "__class__") Q E s:=by
 have hf:findObj K C od "__class__">.bind (.builtin "getset_descriptor.__get__") 145:=by let(cd,hc,__):=SZ e.hd;unfold findObj;rw[hc,rm,e.cl,rm];simp[e.cg,e.ct]
 let(hp,g,d,t,os):=s;have L1:=looks_find (M:=ii prog w) X I hf;show ae<|wpAny_mkText<|ae<|eM<|Qm X I e<|NN X I e ?_;show ae<|ah<|ae<|ah<|ae<|(I.type (M:=ii prog w)).at<|ae<|L1.at ?_;show ae<|bP<|mh<|class_get X I e.ob<|ah<|handed_on 9<|ah h
def Mu(e:rC K C):KitX K (-x) (-C) (λh=>∃ox od,InstAt h x ox C od) where
 ty:=λ_ _ _ zq=>by let(__,__,I):=zq;show I.type
 it:=λ_ _ X _=>by
  let(cdD,CG,__):=SZ e.hd;unfold clsIn at CG;split at CG;·rename_i ho;ext A' Q' E' s' k q;show ae<|ze (k _ _<|X _ _ ho)<|ah q
  cases CG
 ne:=λh tp dd aM n sl X tJ=>by
  let(cdD,CG,__):=SZ e.hd;show fR.mpr λq=>?_;have ee:=Value.ref.inj<|jx.mp q;subst ee;unfold clsIn at CG;split at CG;·rename_i ho;have z:=(X _ _ ho).symm.trans tJ;cases z
  cases CG
 ca:=λX zq k=>by let(__,__,I):=zq;show V3 X I e k
def acg{Q:Unit->f8->Prop}{v:i5}{vs:Aaj}(X:K.In s.heap)(e:rC K C)(hn:findIn K (-C) name>none)(hx:s.heap.get? x>{cls:=-C,dict:=none,data:=.fields vs})
  (q:∀(h':nw)(tk:Nat),(∀b o,b≠x->s.heap.get? b>o->h'.get? b>o)->h'.get? x>{cls:=-C,dict:=some 34,data:=.fields vs}->h'.Ns1 34 (λy=>if y=name then some v else none)->Q () 77):
  f' 85 A (setAttr (-x) name v) Q E s:=by
 have I:InstAt s.heap x {cls:=-C,dict:=none,data:=.fields vs} C none:=⟨hx,rfl,rfl,trivial⟩;have SF:=PySem.F.store_object;let(cd,hc,ho):=SZ e.tl;let(cd',tL,uU):=SZ e.hd;rw[hc]at tL;cases tL;show set_plain X I e.sa ?_;let(hp,g,d,t,os):=s;have L0:=I.type (M:=ii prog w);have hm:Looks 85 hp (mroOf (-C)) cd.mro:=(looks_clsIn X hc).andThen .now;show jw SF.slot.plain SF.entry<|@check_slot 85 _ _ {hp,g,d,t+1,os} "object.__setattr__" "object" "__setattr__" (-x) [.str name t,v] [] _ SF.kind SF.split (I.type.andThen<|looks_mroIn X e.ob) (SF.args (-x) (.str name t) v) ?_;rw[osa_eq,refuse_eq];show ae<|ae<|L0.at<|ae<|hm.at ?_;rw[Gw _ ho];show ah<|ae<|L0.at<|ae<|(looks_findIn X hn).at<|ae 92;have Vi:(hp.push {cls:=.type "dict",data:=.dict #[]}).get? x>{cls:=-C,dict:=none,data:=.fields vs}:=ao _ hx;have Js:x≠hp.objs.size:=aU<|aS hx;show ae<|ah<|ae<|ae<|ze hx<|ae<|(looks_clsIn X hc).at ?_;rw[uU];change f' _ _ (alloc {cls:=.type "dict",data:=.dict #[]}>>=λd=>update x (λo=>{cls:=o.cls,dict:=some d,data:=o.data,slots:=o.slots})>>=λ_=>dictMade (-C) x d) _ _ _;show ae<|wpAny_alloc'<|ae<|wpAny_update' Vi 92;have g1:((hp.push {cls:=.type "dict",data:=.dict #[]}).update x λo=>{cls:=o.cls,dict:=some hp.objs.size,data:=o.data,slots:=o.slots}).get? hp.objs.size>{cls:=.type "dict",data:=.dict #[]}:=
  (oB _ _ _ _ Js.symm).trans (Heap.get?_push_at 9 9)
 have g2:((hp.push {cls:=.type "dict",data:=.dict #[]}).update x λo=>{cls:=o.cls,dict:=some hp.objs.size,data:=o.data,slots:=o.slots}).Ns hp.objs.size (λ_=>none):=
  {_,#[],_,g1,9,λe he=>absurd he 84,λ_=>9}
 change f' _ _ (storeInDict hp.objs.size (.str name t) name v) _ _ _;unfold storeInDict newKeyGuard;show ae<|ah<|ae (wpAny_nsSet1 (Em g2) λh' PY hs=>?_);let(oD,esD,epD,hoD,hdD,CG):=PY.count<|Within.cons name v Within.nil;show ae<|wpAny_lookBehind hoD (by rw[hdD];show pastItsLine_dict<|aR CG (by rw[bJ,jA,bW];lia)) 92;show q h' _ (λb o n gb=>?_) ?_ PY;·show(hs.2 b<|aU<|aS gb).trans<|(oB _ _ _ _ n).trans<|ao _ gb
 show(hs.2 x Js).trans<|cI _ Vi 9
end
def aaJ(H:Hp)(a C:cr):Option (List<|i9×V)->Prop
 |none=>H a>.ext (lX a C none)
 |some fs=>∃d,H a>.ext (lX a C<|some d)/\H d>.xd fs
section
variable{X:Cx}{e o value:wv}{ta tv:TE}{f:i9}{pos pos':Gc}
def nN{x:i9}{c:cr}(hg:Gl X x)(hm:X.mg x>-c)(hd:35=false:=by decide):PE X 46 (tC (-c)):=HJ (v:=-c) hg hm rfl hd
inductive abj(K:Frag)(f:i9)(D:Ends)(Z:St)(y:V)(x:V)(H2:Hp):Prop
 |mk a C (_:x=-a) (_:aaJ H2 a C none) (_:rC K C) (_:findIn K (-C) f>none) (_:∀d,H2 d=none->d≠a->D.nx Z (upd (upd H2 a<|.ext<|lX a C<|some d) d<|.xd [(f,y)]))
def adw(K:Frag)(ta tv:TE)(f:i9):TS:=λD Z H=>tv Z H λy H1=>ta Z H1 λx H2=>abj K f D Z y x H2
def XR(ha:PE X o ta)(hv:PE X value tv)(hs:Ev value (some<|.Attribute o f pos') pos.line X.env=pure false:=by rfl):PS X (.Assign [.Attribute o f pos'] value pos) (adw X.K ta tv f):=by
 ext bi s Z H D I h;show rR (dv (hv bi s Z H _ I h) λu s1 y H1 I1 ry q=>dv (ha bi s1 Z H1 _ I1 q) λov s2 x H2 I2 rx ahe=>?_) hs;let(a,C,ex,he,ek,hf,q2):=ahe;subst ex;obtain rfl:ov=Value.ref a:=rx;have he':H2 a>.ext (lX a C none):=he;obtain⟨⟨t,e0⟩,_⟩:=(show cW 86 X.w H2 s2.heap a (.ext<|lX a C none)from I2.bC a _ he');show acg I2.lK ek hf e0 λh' tk kp hx yg=>?_;have cb:a<94:=aS e0;have P6:H2 94=none:=I2.bC.fresh<|aw _;generalize eh1:s2.heap.update a (λo=>{cls:=o.cls,dict:=some 94,data:=o.data,slots:=o.slots})=h1;have g1:h1.get? a>{cls:=-C,dict:=some 94,data:=.fields #[-t,.none,.none,.none,.bool false,.none]}:=by rw[<-eh1];show cI _ e0 rfl
 have g2:∀b o,b≠a->s2.heap.get? b>o->h1.get? b>o:=λb o n g=>by rw[<-eh1];show(oB _ _ _ _ n).trans g
 have z1:h1.objs.size=94:=by rw[<-eh1];show Heap.size_update ..
 have J1:Inv X bi Z (upd H2 a<|.ext<|lX a C<|some 94) (s2\(h1,tk)):=
  I2.write (t':=tk) (x:=a) (e:=a) (by rw[he'];show trivial) (.inl 9) (λb o n g=>g2 b o n g) ⟨_,g1⟩ (Ia ⟨t,g1⟩)
 have k1:∀b o,h1.get? b>o->h'.get? b>o:=λb o g=>by
  by_cases hb:b=a;·subst hb;rw[g1]at g;cases g;show hx
  show kp b o hb ?_;rw[<-eh1,oB _ _ _ _ hb]at g;show g
 have J2:Inv X bi Z (upd (upd H2 a<|.ext<|lX a C<|some 94) 94<|.xd [(f,y)]) (s2\(h',tk)):=
  J1.laid (t':=tk) (a:=94) (o:=.xd [(f,y)]) k1 (by change h1.objs.size<=_;rw[z1];show aw _) {_,yg,λg=>by
   change nR (List.lookup g [(f,y)]) (if g=f then some u else none);by_cases hg:g=f;·subst hg;rw[aN rfl,Aa];show ry
   rw[aL hg,iS,cG.mpr hg];show trivial}
 show{Z,_,J2,q2 _ P6<|cx cb}
def afE(te:TE):TE:=λZ H Q=>te Z H λx H1=>((∃z:i9,x=.str z/\z.length<=1000)\/∃i:Int,x=.int i/\i.natAbs.log2<1920)/\∀y:i9,Q (.str y) H1
def X0{c1:i9}{k1:Nat}{p1 p2:Gc}{te:TE}(he:PE X e te)(h1:c1.length<=1000):
  PE X (.JoinedStr [.Constant (.str c1) k1 p1,.FormattedValue e (-1) none p2] pos) (afE te):=by
 ext bi s Z H Q I h;have big:10000<=dL:=by rw[bW];decide
 have l0:(Str.empty++c1).length=c1.length:=by rw[mR];simp[Str.empty,Str.length]
 show JoinedStr_many<|joinParts_cons<|DB {?_,joinParts_cons<|FormattedValue_plain (dv (he bi _ Z H _ 44 h) λv s1 x H1 I1 r1 ⟨q1,q⟩=>?_)};·lia
 rcases q1 with⟨z,rfl,hz⟩|⟨i,rfl,hi⟩
 ·let(t,rfl):=r1;show formatField_str (λt' tk=>{?_,joinParts_nil {.str _,H1,(I1.tok _).tok _,66,q _} ?_}) ∅;·rw[mR];lia
  rw[mR];lia
 let(t,rfl):=r1;have li:(Str.ofString<|toString i).length<=2000:=by have:=int_text_length_le (a:=i) (k:=1920) 7 hi;rw[PySem.ofString_length];lia
 show formatField_int_small hi {?_,joinParts_nil {.str _,H1,(I1.tok _).tok _,66,q _} ?_};·rw[mR];change(Str.empty++c1).length+(Str.ofString<|toString i).length<=_;lia
 rw[mR];change(Str.empty++c1).length+(Str.ofString<|toString i).length<=_;lia
end
end L2
namespace L2
open PySem PySem.Spec PyProof.Rows PySem.W
abbrev AK(C:cr)(dd:Aai)(t:cr)(tb:i5):J':={cls:=-C,dict:=dd,data:=.fields #[-t,tb,.none,.none,.bool false,.none]}
def vt(e C:cr)(dd:Aai):nw->Prop:=λh=>∃t tb,h.get? e>AK C dd t tb
def ach{P:io}{w:i6}{H:Hp}{h:nw}{e C:cr}{dd:Aai}(x:vt e C dd h):cW P w H h e (.ext<|vt e C dd):=
 {x,by let(__,__,q):=x;show⟨_,q⟩,λ_ _ zq k=>by let(t,tb,q):=zq;show{t,tb,k _ q}}
def gone(H:Hp)(e C:cr)(dd:Aai):Hp:=upd H e<|.ext<|vt e C dd
def uW{H:Hp}{e C:cr}{dd:Aai}:gone H e C dd e>.ext (vt e C dd):=aF
def ng{H:Hp}{e C b:cr}{dd:Aai}(h:b≠e):gone H e C dd b=H b:=aI h
def VW{H:Hp}{e C:cr}{dd:Aai}(h:H e>.ext (vt e C dd)):gone H e C dd=H:=by
 funext b;by_cases q:b=e;·subst q;rw[uW,h]
 rw[ng q]
section
variable{M:Model}{A:ss}{E:Aac}{s:f8}
def JA{base:nw}{env:V'}{outer:List V'}{L e C t:cr}{dd:Aai}{tb head:i5}{nx:Bool}{Q:Unit->f8->Prop}(P6:A.frames>(env::outer))(hl:s.heap.FunFrames base (env::outer))(hf:env.frame>L)(he:s.heap.get? e>AK C dd t tb)
  (k:∀(h':nw)(T:cr)(oT:J')(ts:Aaj),34<=T->(∀b o,b≠e->b∉qH (env::outer)->s.heap.get? b>o->h'.get? b>o)->(∀b o,b≠e->b∈qH (env::outer)->s.heap.get? b>o->∃sl,h'.get? b>{o with slots:=sl})->
   h'.get? e>AK C dd t (-T)->h'.get? T>oT->oT.data=.fields ts->ts[3]?>.none->Q () (s\h')):
  f' M A (do let a<-frameOf env;let pl<-entryPlaceOf L nx;let b<-EntryCells.newEntry head a .none (v0 L) .none pl;XV (-e) 1 b) (λ_ s'=>f' M A (setFlight (-e) none) Q E s') E s:=by
 have nfe:e∉qH (env::outer):=λhm=>by let(__,o,ho,hn):=hl.mem hm;rw[he]at ho;cases ho;show hn _ rfl
 show ae (wpAny_frameOf_fun P6 hl hf λh1 yf=>ae (wpAny_entryPlaceOf λpl iu=>?_));show ae<|cK ?_ (iu.sizeOk5 _ _ _ _ _);have e1:=(yf.2.1 e nfe).trans he;generalize eo:({cls:=.type "traceback",dict:=none,data:=.fields ([head,-L,.none,v0 L,.none]++(if pl.isEmpty then List.replicate 6 Value.none else pl)).toArray}:J')=oT;have dT:oT.data=.fields ([head,-L,.none,v0 L,.none]++(if pl.isEmpty then List.replicate 6 Value.none else pl)).toArray:=by rw[<-eo]
 have e2:(h1.push oT).get? e>AK C dd t tb:=ao _ e1;have gT:=aH h1<|ko dT;show dY e2 rfl (by change 1<6;decide) ?_;have nT:=cx<|aS e1;have e3:((h1.push oT).update e<|Obj.mapFields (·.setIfInBounds 1 (Value.ref h1.objs.size))).get? e>AK C dd t (.ref h1.objs.size):=cI _ e2 rfl;have gT3:((h1.push oT).update e<|Obj.mapFields (·.setIfInBounds 1 (Value.ref h1.objs.size))).get? h1.objs.size>oT:=(bL _ _<|cL nT).trans gT;show ae<|cR e3 9 (x:=.ref h1.objs.size) 9 ?_;show dY gT3 dT (by simp only[aT,aG,bJ,jA]<;>lia) ?_;have keep:∀b o,b≠e->h1.get? b>o->(((h1.push oT).update e<|Obj.mapFields (·.setIfInBounds 1 (Value.ref h1.objs.size))).update h1.objs.size<|Obj.mapFields (·.setIfInBounds 3 ((none:Aai).elim Value.none λf=>v0 f))).get? b>o:=λb o hb q=>by rw[bL _ _<|cx<|aS q,bL _ _<|cL hb];show ao _ q
 have dT4:=jc dT (·.setIfInBounds 3 ((none:Aai).elim Value.none λf=>v0 f));show k _ h1.objs.size _ _ ?_ (λb o hb hn q=>keep b o hb<|(yf.2.1 b hn).trans q) (λb o hb _ q=>?_) ?_ (cI _ gT3<|ko dT4) dT4 ?_;·rw[yf.1];show aw _
 ·let(sl,q'):=yf.2.2 b o q;show{sl,keep b _ hb q'}
 ·rw[bL _ _ nT];show e3
 first|(simp;done)|(rcases iu with rfl|⟨_,_,_,_,_,_,_,rfl⟩<;>simp)
def afr(X:Cx)(bi:Aaa)(H:Hp)(h:nw)(e C:cr)(dd:Aai):Prop:=
 H e>.ext (vt e C dd)/\∃t T oT ts,h.get? e>AK C dd t (-T)/\T≠e/\h.get? T>oT/\oT.data=.fields ts/\ts[3]?>.none/\
  H T=none/\(T∈X.ex\/58<=T)/\T≠23/\(∀x c,X.env.cells.lookup x>c->c≠T)/\∀p∈X.pn++bi,p.1≠T
def SJ(X:Cx)(bi:Aaa)(H:Hp)(h:nw)(e C:cr)(dd:Aai):Prop:=H e>.ext (lX e C dd)\/afr X bi H h e C dd
variable{X:Cx}{bi:Aaa}{Z:St}{H:Hp}{e C:cr}{dd:Aai}
def Inv.fly{h1 h':nw}{ch:Aah}(I:Inv X bi Z H s)(hH:∃φ,H e>.ext φ)(hx:vt e C dd h')(kp:∀b o,b≠e->b∉ch->b∉qH 37->s.heap.get? b>o->h'.get? b>o)(ks:∀b o,b≠e->b∉ch->b∈qH 37->s.heap.get? b>o->∃sl,h'.get? b>{o with slots:=sl})
  (hc:∀b∈ch,H b=none/\(b∈X.ex\/58<=b)/\b≠23/\(∀x c,X.env.cells.lookup x>c->c≠b)/\∀p∈X.pn++bi,p.1≠b):Inv X bi Z (gone H e C dd) (s\h'):=by
 obtain⟨φ,hH⟩:=hH;have ne:∀{b},H b=none->b≠e:=λn q=>by rw[q,hH]at n;cases n
 have ny:∀{b o},H b>o->(∀ψ,o≠ .ext ψ)->b≠e:=λq n z=>by rw[z,hH]at q;show n _ (cB q).symm
 let(t,tb,he):=hx;show I.call {λb o q n hf tL=>kp b o (ne n) tL hf q,λb o q n hf tL=>ks b o (ne n) tL hf q,λb o q n _=>by rw[ng<|ne n];show n,λb o q tL=>?_,λb xs q=>?_,λb o u q=>?_,λb ps q=>{#[],?_}} (λb o q=>?_) I.bare λb hb=>(hc b hb).2
 ·by_cases h1:b=e;·show{_,h1▸he}
  by_cases h2:b∈qH 37;·let(sl,z):=ks b o h1 tL h2 q;show⟨_,z⟩
  show{_,kp b o h1 tL h2 q}
 ·rw[ng (ny q λψ z=>by cases z)];show q
 ·rw[ng (ny q λψ z=>by cases z)];show q
 ·rw[ng (ny q λψ z=>by cases z),q];simp
 by_cases hb:b=e;·subst hb;rw[uW]at q;cases q;show ach ⟨t,tb,he⟩
 rw[ng hb]at q;have nk:∀{c u},H c>u->c≠e->∀v,s.heap.get? c>v->h'.get? c>v:=λhu n v z=>by
  show kp _ v n (λm=>?_) (λm=>?_) z;·rw[(hc _ m).1]at hu;cases hu
  rw[I.DM _ m]at hu;cases hu
 show(I.bC b o q).qt (λc u hcu z=>?_) (λc z=>?_) (λc xs z=>?_)
 ·rcases hcu with rfl|hcu;·show nk q hb u z
  show nk hcu (ny hcu λψ z=>by cases z) u z
 ·rw[ng (ny z λψ z=>by cases z)];show z
 rw[ng (ny z λψ z=>by cases z)];show z
def Nj{M:Model}{A:ss}{E:Aac}{Q:Unit->f8->Prop}(I:Inv X bi Z H s)(P6:A.frames>37)(qG:37=X.env::X.outer)(hf:X.env.frame>23)(F:SJ X bi H s.heap e C dd)
  (k:∀h':nw,Inv X bi Z (gone H e C dd) (s\h')->afr X bi (gone H e C dd) h' e C dd->Q () (s\h')):f' M A (noteFrame (-e) X.env) (λ_ s'=>f' M A (setFlight (-e) none) Q E s') E s:=by
 have YZ:=qG▸I.stack;have fin:∀(ch:Aah)(h0 h':nw)(T t:cr)(oT:J')(ts:Aaj),(∃φ,H e>.ext φ)->34<=h0.objs.size->(∀b,b∉ch->h0.get? b=s.heap.get? b)->(∀b∈ch,H b=none/\(b∈X.ex\/58<=b)/\b≠23/\(∀x c,X.env.cells.lookup x>c->c≠b)/\∀p∈X.pn++bi,p.1≠b)->
   h0.objs.size<=T->(∀b o,b≠e->b∉qH (X.env::X.outer)->h0.get? b>o->h'.get? b>o)->(∀b o,b≠e->b∈qH (X.env::X.outer)->h0.get? b>o->∃sl,h'.get? b>{o with slots:=sl})->
   h'.get? e>AK C dd t (-T)->h'.get? T>oT->oT.data=.fields ts->ts[3]?>.none->Q () (s\h'):=λch h0 h' T t oT ts hH hz h0k hc lT kp ks ge gT dT t3=>by
  have lT':=aR hz lT;have J:=I.fly (h1:=h0) hH ⟨t,_,ge⟩ (λb o n hn hfm q=>kp b o n (qG▸hfm)<|(h0k b hn).trans q) (λb o n hn hfm q=>ks b o n (qG▸hfm)<|(h0k b hn).trans q) hc;have fr:∀{b:cr}{o:J'},s.heap.get? b>o->b≠T:=λq z=>by subst z;show absurd (aS q)<|sO.mpr lT'
  obtain⟨φ,hH'⟩:=hH;let(u,heu):=(I.bC e _ hH').Z7;have GL:T≠e:=λz=>fr heu z.symm;show k h' J {uW,t,T,oT,ts,ge,GL,gT,dT,t3,?_,.inr<|aR I.sz lT',cx<|bf I.lt lT',λx c hx z=>?_,λp hp z=>fr (I.pin p hp).1 z};·rw[ng GL];show I.bC.fresh lT'
  let(v,o,ho,__):=I.cell x c hx;show fr ho z
 unfold noteFrame;simp only[hf];rcases F with F|⟨F,t,T,oT,ts,ge,GL,gT,dT,t3,hT⟩;·obtain⟨⟨t,ge⟩,_⟩:=(show cW 86 X.w H s.heap e (.ext<|lX e C dd)from I.bC e _ F);show ae<|cR ge 9 (x:=.none) 9 ?_;show JA (qG▸P6) YZ hf ge λh' T oT ts a1 a2 a3 a4 a5 a6 a7=>fin [] s.heap h' T t oT ts ⟨_,F⟩ (aw _) (λ_ _=>9) (λb hb=>by cases hb) a1 a2 a3 a4 a5 a6 a7
 show ae<|cR ge 9 (x:=-T) 9 ?_;show ae<|cR gT dT t3 ?_;show ae<|dY gT dT (fu.mp t3).1 ?_;have uQ:∀b,b∉[T]->(s.heap.update T<|Obj.mapFields (·.setIfInBounds 3 Value.none)).get? b=s.heap.get? b:=λb hb=>bL _ _ λz=>hb<|ar.mpr z.symm;have nfr:T∉qH (X.env::X.outer):=λhm=>by let(__,o,ho,hn):=YZ.mem hm;rw[gT]at ho;cases ho;show hn _ dT
 show JA (qG▸P6) (YZ.of_keeps λb o hb hnf=>{o,(uQ b λz=>?_).trans hb,9}) hf ((uQ e λz=>GL (ar.mp z).symm).trans ge) λh' T' oT' ts' a1 a2 a3 a4 a5 a6 a7=>
  fin [T] _ h' T' t oT' ts' ⟨_,F⟩ (by rw[(Heap.size_update ..)];show aw _) uQ (λb hb=>by rw[ar.mp hb];show hT) a1 a2 a3 a4 a5 a6 a7
 rw[ar.mp z,gT]at hb;cases hb;show hnf _ dT
end
def yw(P:io)(w:i6):Fo:=λouter H s E v s'=>∃(e C:cr)(dd:Aai)(H':Hp),v=-e/\s'.os=s.os/\KM s'.gens/\Un (qH outer) [] H H' s.heap s'.heap/\ka P w H' s'.heap/\H' e>.ext (vt e C dd)/\E (-C) dd H'/\
 ∃t T oT ts,s'.heap.get? e>AK C dd t (-T)/\T≠e/\s'.heap.get? T>oT/\oT.data=.fields ts/\ts[3]?>.none/\H' T=none/\34<=T
def Lets(X:Cx)(E:XK):Prop:=∀(bi:Aaa)(Z:St)(H:Hp)(s:f8)(e C:cr)(dd:Aai),Inv X bi Z H s->SJ X bi H s.heap e C dd->E (-C) dd (gone H e C dd)->X.xe (-e) s
def Px{X:Cx}{E:XK}{Z:St}(L:∀(bi:Aaa)(H:Hp)(s:f8)(e C:cr)(dd:Aai),Inv X bi Z H s->SJ X bi H s.heap e C dd->E (-C) dd (gone H e C dd)->X.xe (-e) s):∀(bi:Aaa)(H:Hp)(s:f8)(v:i5)(s':f8),Inv X bi Z H s->yw 86 X.w 37 H s E v s'->X.xe v s':=by
 ext bi H s v s' I ⟨e,C,dd,H',rfl,os,bare,un,bC,hH,hE,t,T,oT,ts,ge,GL,gT,dT,t3,hT,lT⟩;have I':Inv X bi Z H' s':=I.aaE (ch:=[]) os un bC bare λb hb=>by cases hb
 have fr:∀{b:cr}{o:J'},s.heap.get? b>o->b≠T:=λq z=>by subst z;show absurd (aS q)<|sO.mpr lT
 show L bi H' s' e C dd I' (.inr {hH,t,T,oT,ts,ge,GL,gT,dT,t3,hT,.inr<|aR I.sz lT,?_,λx c hx z=>?_,λp hp z=>?_}) (by rw[VW hH];show hE);·show cx<|bf I.lt lT
 ·let(v,o,ho,__):=I.cell x c hx;show fr ho z
 show fr (I.pin p hp).1 z
def Lets.passes{X:Cx}{E:XK}(L:Lets X E):Passes (yw 86 X.w) X E:=λbi Z H s v s'=>Px (λbi H s e C dd=>L bi Z H s e C dd) bi H s v s'
section
variable{P:io}{w:i6}{K:Frag}{mg:Aab}{base:nw}{N:Aaf}{Do:i9}{scope:AC}{f:cr}{cd:i5}{A:ss}{outer:List V'}{s:f8}{H:Hp}{E:XK}
def ue:Lets (FU (yw P w) P w K mg base N Do scope f cd A outer s H E) E:=by ext bi Z H1 s1 e C dd I F hE;show ae (Nj I I.ok.frames 9 9 F λh' J F'=>?_);let(F',t,T,oT,ts,ge,GL,gT,dT,t3,hT,lT,__):=F';show{e,C,dd,_,9,J.os,J.bare,J.base,J.bC,uW,hE,t,T,oT,ts,ge,GL,gT,dT,t3,hT,(lT.resolve_left λz=>by cases z)}
end
section
variable{P:io}{w:i6}{K:Frag}{mg:Aab}{base:nw}
def d6.Uw{x Do:i9}{st:wP}{f:cr}{fd:re}{N ps:Aaf}{k:Nat}{sp:Sp}(F:d6 K x Do st f fd)(S:b7 N ps (bI st))(len:∀vs H Q E,sp vs H Q E->vs.length=ps.length)
  (hb:∀(dC:i5)(A:ss)(outer:List V')(s:f8)(H:Hp)(vs:Aam)(Q:VK)(E:XK),gx k (A.deeper<|Os Do (bI st) 34 f dC)->sp vs H Q E->
   ∃t,mP (FU (yw P w) P w K mg base N Do (bI st) f dC A outer s H E) (nh st) t/\t {nx:=λ_ H'=>Q .cU H',rt:=Q} (start N vs) H):cN P w K mg base (yw P w) (k+1) f fd ps sp:=by
 let(oc,od,kV,doc,pm,an,dC,ct,GB,rfl,lk,zO):=F.ex;show aaz lk zO S len λA outer s H vs Q E hr EX=>hb dC A outer s H vs Q E hr EX
def mE(P:io)(w:i6)(K:Frag)(mg:Aab)(base:nw)(k:Nat)(x:i9)(ps:Aaf)(sp:Sp):Prop:=
 ∃(f:cr)(fd:re),cN P w K mg base (yw P w) k f fd ps sp/\mg x>-f/\keepIn K (-f)=true/\Binds K fd ps []
def JJ{X:Cx}{k:Nat}{x:i9}{ps:Aaf}{sp:Sp}{j:Nat}{E:XK}{e:wv}{es:List wv}{t:TA}{p pos:Gc}(D:mE 86 X.w X.K X.mg X.base k x ps sp)(hr:gx j X.A)(L:Lets X E)(ha:PA X (e::es) t)(hk:k<=j:=by decide)(hg:Gl X x:=by rfl)
  (su:35=false:=by decide) (he:jp (e::es) X.env=(false,wf e X.env)::jp es X.env:=by rfl) (iu:(Da pos 73).any (·.1)=false:=by rfl):
  PE X 116 (QN sp [] E t):=by
 let(f,fd,F,m,kp,b):=D;show Pj F (hr.mono hk) hg m kp b .nil L.passes ha su he iu
end
section
variable{X:Cx}{E:XK}{x:wv}{te:TE}{pos:Gc}
inductive OL(K:Frag)(E:XK)(v:V)(H1:Hp):Prop
 |mk (e C:cr) (dd:Aai) (_:v=-e) (_:H1 e>.ext (lX e C dd)) (_:pE K C Ho "ValueError.__new__"=true) (_:E (-C) dd (gone H1 e C dd))
def ac5(K:Frag)(E:XK)(te:TE):TS:=λD Z H=>te Z H λv H1=>OL K E v H1
def XQ(he:PE X x te)(L:Lets X E)(hA:X.A.handled=none):PS X (.Raise (some x) none pos) (ac5 X.K E te):=by
 ext bi s Z H D I h;show ae<|qP ?_;show ae<|ae (dv 106 λv s1 v' H1 I1 rv ⟨e,C,dd,ev,hH,hq,hE⟩=>ae<|qP 92);subst ev;obtain rfl:v=Value.ref e:=rv;let(bm,N,nm,qn,bs,hd,sn,sub,ab,col,d2,k0,k1,k2,k3,k5,hC,T):=wa I1.lK hq;have hx:=L bi Z H1 s1 e C dd I1 (.inl hH) hE;obtain⟨⟨t,ge⟩,_⟩:=(show cW 86 X.w H1 s1.heap e (.ext<|lX e C dd)from I1.bC e _ hH);have hcB:(Value.ref C::bm).contains 71=true:=by rw[Ds,T.hasType (b:=true) 7,DC]
 let(hp,g,d,tk,os):=s1
 repeat (first|with_reducible show jG ge ?_|with_reducible show jG hC ?_|(with_reducible show tw hC ?_;rw[hcB])|wp_step)
 show wpAny_raiseNew_none hA hx
end
abbrev Cx.held(X:Cx)(q:Aaa)(E:Aac):Cx:={X with pn:=q,xe:=E}
abbrev Cx.si(X:Cx)(e:cr):Cx:={X with A:=X.A.mark<|some (-e),calm:=false,xe:=λ_ _=>False}
section
variable{X:Cx}{bi:Aaa}{Z:St}{H:Hp}{s:f8}
def Cx.Ok.held{q:Aaa}{E:Aac}(ok:X.Ok):(X.held q E).Ok:=
 {ok.mod,ok.kind,ok.glob,ok.blt,ok.above,ok.inj,ok.has,ok.JN,ok.hd,ok.frames,ok.KU,ok.Nm,ok.bs,ok.yp,ok.Ay,ok.AJ,ok.rf,ok.E6}
def Cx.Ok.si{e:cr}(ok:X.Ok):(X.si e).Ok:=
 {ok.mod,ok.kind,ok.glob,ok.blt,ok.above,ok.inj,ok.has,ok.JN,(λz=>by cases z),ok.frames,ok.KU,ok.Nm,ok.bs,ok.yp,ok.Ay,ok.AJ,ok.rf,ok.E6}
def Inv.held{E:Aac}(I:Inv X bi Z H s):Inv (X.held (X.pn++bi) E) [] Z H s:=
 {I.ok.held,I.os,I.bare,I.base,I.loc,I.cell,I.free,I.kN,λp hp=>I.pin p<|↑hp,I.bC,I.len}
def Inv.BN{E:Aac}{Kj:Aaa}(ok:X.Ok)(I:Inv (X.held (X.pn++bi) E) Kj Z H s):Inv X bi Z H s:=
 {ok,I.os,I.bare,I.base,I.loc,I.cell,I.free,I.kN,λp hp=>I.pin p<|ba _ hp,I.bC,I.len}
def Inv.si{e:cr}(I:Inv X bi Z H s):Inv (X.si e) bi Z H s:={I.ok.si,I.os,I.bare,I.base,I.loc,I.cell,I.free,I.kN,I.pin,I.bC,I.len}
def Inv.DK{e:cr}(ok:X.Ok)(I:Inv (X.si e) bi Z H s):Inv X bi Z H s:={ok,I.os,I.bare,I.base,I.loc,I.cell,I.free,I.kN,I.pin,I.bC,I.len}
def DV{M:Model}{A:ss}{E:Aac}{i:Nat}{x:i9}{pos:Gc}{Q:Unit->f8->Prop}(I:Inv X bi Z H s)(hN:X.N.Nodup)(hi:X.N[i]?>x)(hk:X.env.kindOf x>.local)(h:∀s',Inv X bi (Z.set i none) H s'->Q () s'):
  f' M A (do bindName X.env x .none;unbindBehindTheSuite X.env x pos) Q E s:=by
 let(m,hn,hl):=id I.loc;show wpAny_nameGoes_keeps hk hn (by rw[I.ok.kind];rfl) λh' v PY hs=>?_;have old:∀{b:cr}{o:J'},X.aab.heap.get? b>o->b≠23:=λq=>aU<|bf (aS q) I.ok.above;show h _ {I.ok,I.os,I.bare,{λb o e n hb hx=>(hs.2 b<|old e).trans<|I.base.keep b o e n hb hx,λb o e n hb hx=>?_,I.base.free,λb o e hx=>?_,I.base.iR,I.base.uj,I.base.yA},{_,PY,λj y v' e1 e2 e3=>?_},λy c e=>?_,I.free,I.kN,λp hp=>?_,λb ob e=>?_,by simpa using I.len};·let(sl,e1):=I.base.slot b o e n hb hx;show{sl,(hs.2 b<|old e).trans e1}
 ·let(o',e1):=I.base.there b o e hx;show{o',(hs.2 b<|old e).trans e1}
 ·by_cases hj:j=i;·subst hj;rw[qN (by rw[I.len];show(aq.mp hi).1)]at e2;cases e2
  rw[sU<|cL hj]at e2;let(u',r',q):=hl j y v' e1 e2 e3;show{u',r',?_};rcases q with⟨k,e⟩|⟨k,c,e,z⟩;·show .inl {k,?_};have:y≠x:=λe=>hj<|FF hN e1<|e▸hi;simp[this,e]
  show .inr {k,c,e,z.sameBut hs<|I.Hj y c e}
 ·let(w',z):=I.cell y c e;show{w',z.sameBut hs<|I.Hj y c e}
 ·let(e,n,ne,nf,d):=I.pin p hp;show{(hs.2 p.1 ne).trans e,n,ne,nf,d}
 show(I.bC b ob e).qt (λc w' hc q=>(hs.2 c ?_).trans q) (λ_ q=>q) λ_ _ q=>q;ext z;subst z;rcases hc with z|hc;·rw[<-z,I.free]at e;cases e
 rw[I.free]at hc;cases hc
variable{C0:cr}
def V2{M:Model}{A:ss}{E:Aac}{Q:Bool->f8->Prop}{K:Frag}{s:f8}{e C:cr}{oe:J'}(KI:K.In s.heap)(h0:pE K C0 Ho "ValueError.__new__"=true)(he:s.heap.get? e>oe)(qm:oe.cls=-C)(hm:mroIn K C (-C0)>true)(q:Q true s):
  f' M A (excMatches (-e) (-C0)) Q E s:=by
 let(bm,N,nm,qn,bs,hd,sn,sub,ab,col,d2,k0,k1,k2,k3,k5,hC,T):=wa KI h0;have hcB:(Value.ref C0::bm).contains 71=true:=by rw[Ds,T.hasType (b:=true) 7,DC]
 have f:=tc_notTuple;let(hp,g,d,tk,os):=s
 repeat (first|(with_reducible show jG he ?_;rw[qm])|with_reducible show jG hC ?_|(with_reducible show tw hC ?_;rw[hcB])|with_reducible show(looks_mroIn (M:=M) KI hm).at ?_|wp_step)
 show q
end
section
variable{X:Cx}
inductive abt(x:V)(vs:Aam)(H:Hp)(Q:VK):Prop
 |mk (l:cr) (zs:Aaf) (z:i9) (j:Nat) (_:x=-l) (_:vs=[.str z]) (_:H l>.lst (zs.map V.str)) (_:zs[j]?>z) (_:(∀m,m<j->zs[m]?≠some z)) (_:Q (.int (j:Int)) H)
def UM:NU X "list.index" abt:=by
 ext bi s Z H x vs v us Q I rx rv h;let(l,zs,z,j,rfl,rfl,hH,hj,zN,q):=h;cases rx;let(u,rfl,ru):=rv.one;let(t,rfl):=ru;let(z',aM,n,r,hl,e):=I.AD hH;have es:=KS r;have Wa:∀m,(m:Nat)<aM.length->∃y t',aM[m]?>.str y t'/\zs[m]?>y:=λm hm=>by
  have hz:m<28:=by have:=r.length;rw[af]at this;lia
  let(u',tI,ru'):=r.get (i:=m) (x:=.str zs[m]) (by rw[aW,au hz];rfl);let(t',rfl):=ru';show{zs[m],t',tI,au hz}
 have lz:=r.length;rw[af]at lz;have uT:j<aM.length:=by have:=(aq.mp hj).1;lia
 have sl:=wW;have sz:dL=16777216:=bW
 let eq:i5->Bool:=λy=>match y with| .str a _=>a==z|_=>false
 have YK:∀y,y∈aM.toArray->MeetsSeq.EqGives y (.str z t) (eq y):=λy hy=>by let(m,hm):=A1 (by simpa using hy:y∈aM);let(a,t',e1,__):=Wa m (aq.mp hm).1;rw[hm]at e1;cases e1;show eqGives_str a z t' t
 have MG:∀m(hm:m<aM.toArray.size),∃a t',aM.toArray[m]=.str a t'/\zs[m]?>a:=λm hm=>by
  have hm':m<aM.length:=by simpa using hm
  let(a,t',e1,e2):=Wa m hm';show{a,t',?_,e2};have:=(aq.mp e1).2;simpa using this
 have VC:j<aM.toArray.size:=by simpa using uT
 show mB Eo ⟨_,e,rfl⟩ Dw (BI _ _) (BD l aM.toArray n (.str z t) eq YK j VC ∅ ?_ λm hm cb=>?_) {e,{.int _,H,44,66,q}};·let(a,t',e1,e2):=MG j VC;rw[e1];rw[hj]at e2;cases e2;change(z==z)=true;simp
 let(a,t',e1,e2):=MG m hm;rw[e1];change(a==z)=false;show cG.mpr λh=>zN m cb (by rw[e2,h])
variable{K:Frag}
def Ij(h:X.K=K:=by rfl):fD X (.type "tuple") (λxs H Q=>∃p ys,xs=[-p]/\((bg K H p ys/\∀l,H l=none->Q (-l) (upd H l<|.tup ys))\/(bA K H p ys/\Q (-p) H))):=h▸fq
def Uh{T id:String}(pa:PlainAttrs T)(slot:Slot T name id)(Vk:typeOf (.builtin id)=pure (.type "method_descriptor"))(hm:NU X id r)(ho:PE X o to)(ha:PA X (e::es) t)
  (v8:wT o name X.env (wf o X.env)=wf o X.env:=by rfl)
  (YN:((Da eR<|jp (e::es) X.env).all (λx=>!x.1)&&(Pi eR<|G' [] X.env).all (λx=>x.1.isSome)&&decide ((e::es).length+([]:List PP).length+201<030))=true:=by rfl)
  (v7:53=true:=by rfl) (hs:jp (e::es) X.env=(false,wf e X.env)::jp es X.env:=by rfl) (MO:(Da eR 73).any (·.1)=false:=by rfl) (h:X.K=K:=by rfl):
  PE X (.Call (.Attribute o name Fa) (e::es) [] eR) (tBM K T r to t):=h▸jr pa slot Vk hm ho ha v8 YN v7 hs MO
def y9(H:Hp)(a C:cr)(fs:List (i9×V)):Prop:=∃d,H a>.ext (vt a C<|some d)/\H d>.xd fs
variable{bi:Aaa}{Z:St}{H:Hp}{s:f8}{a C:cr}{fs:List (i9×V)}
def JB(I:Inv X bi Z H s)(h:y9 H a C fs):∃ox od,W.InstAt s.heap a ox C od:=by let(d,h1,h2):=h;obtain⟨⟨t,tb,e⟩,_⟩:=(show cW 86 X.w H s.heap a (.ext<|vt a C<|some d)from I.bC a _ h1);let(mA,n1,__):=(show cW 86 X.w H s.heap d (.xd fs)from I.bC d _ h2);let(od,eo,__):=Cr n1;show{_,some od,e,9,9,eo}
def NL:fD X 120 (λxs H Q=>∃(a C:cr)(fs:List (i9×V))(c:V)(u:i5)(b:Bool),xs=[-a,c]/\y9 H a C fs/\rC X.K C/\(∀u',RelV c u'->u'=u)/\kitOne X.K (-C) u>b/\Q (.bl b) H):=by ext bi s Z H xs us Q I r h;let(a,C,o,c,u,b,rfl,ha,ek,hu,hb,q):=h;let(v,w',rfl,rv,pf):=uw r;cases rv;obtain rfl:=hu _ pf;show kia_one (Mu ek) I.lK (JB I ha) hb 83 λtk=>{.bl b,H,I.tok tk,9,q}
theorem Iu:∀{cs:Aah}{us:Aae},Vals (cs.map V.ref) us->us=cs.map Value.ref
 |[],_,.nil=>rfl
 |c::r,_,.cons e h=>by rw[Iu h];have e:_=Value.ref c:=e;rw[e];rfl
def NI:fD X 120 (λxs H Q=>∃(a C p:cr)(fs:List (i9×V))(cs:Aah)(b:Bool),xs=[-a,-p]/\y9 H a C fs/\rC X.K C/\H p>.tup (cs.map V.ref)/\kitAny X.K (-C) (cs.map Value.ref)>b/\Q (.bl b) H):=by ext bi s Z H xs us Q I r h;let(a,C,p,fs,cs,b,rfl,ha,ek,hp,hb,q):=h;let(v,w',rfl,rv,pf):=uw r;cases rv;cases pf;obtain⟨aM,r',⟨⟨c0,d0,da0,s0⟩,e1,e2,n,e3⟩,_⟩:=I.tuple<|bA.of hp;have e2:c0=.type "tuple":=e2;have e3:da0=.seq aM.toArray n:=e3;subst e2 e3;rw[Iu r']at e1;show kia_tup (Mu ek) I.lK (JB I ha) e1 hb 83 λtk=>{.bl b,H,I.tok tk,9,q}
end
section
variable{X:Cx}{e:wv}{ta:TE}{f:i9}{pos:Gc}
inductive Xq(K:Frag)(f:i9)(Q:VK)(x:V)(H1:Hp):Prop
 |mk a C fs v (_:x=-a) (_:y9 H1 a C fs) (_:rC K C) (_:findIn K (-C) f>none) (_:fs.lookup f>v) (_:Q v H1)
def ON(K:Frag)(ta:TE)(f:i9):TE:=λZ H Q=>ta Z H λx H1=>Xq K f Q x H1
def Ug(he:PE X e ta)(hb:wT e f X.env (wf e X.env)=wf e X.env:=by rfl):PE X (.Attribute e f pos) (ON X.K ta f):=by
 ext bi s Z H Q I h;show Qy hb (dv 106 λu s1 x H1 I1 rx ahd=>?_);let(a,C,fs,v,ex,ha,ek,hf,hl,q):=ahd;subst ex;obtain rfl:u=Value.ref a:=rx;let(d,h1,h2):=ha;obtain⟨⟨t,tb,e0⟩,_⟩:=(show cW 86 X.w H1 s1.heap a (.ext<|vt a C<|some d)from I1.bC a _ h1);let(mA,n1,r1):=(show cW 86 X.w H1 s1.heap d (.xd fs)from I1.bC d _ h2);let(od,eo,el):=Cr n1;let(u',hu,ru):=nR.some_of (v:=v) (o:=mA f) (by rw[<-hl];show r1 f);let(cd,hc,hd):=SZ ek.hd;have J:W.InstAt s1.heap a (AK C (some d) t tb) C (some od):=⟨e0,rfl,rfl,eo⟩;have hfo:findObj X.K C (some od) f>.value u':=by unfold findObj;rw[hc,rm,hf,rm];change(W.ownOf cd (some od) f).bind _=_;unfold W.ownOf;rw[aN hd];change(W.lookIn f od).bind _=_;rw[el f,hu];rfl
 show V1 I1.lK J ek hfo (Jz ru) {v,H1,I1.tok _,ru,q}
def Q9{K:Frag}(he:PE X e ta)(hb:wT e f X.env (wf e X.env)=wf e X.env:=by rfl)(h:X.K=K:=by rfl):PE X (.Attribute e f pos) (ON K ta f):=h▸Ug he hb
def Bp{K:Frag}(h:X.K=K:=by rfl):fD X 120 (λxs H Q=>∃(a C:cr)(fs:List (i9×V))(c:V)(u:i5)(b:Bool),xs=[-a,c]/\y9 H a C fs/\rC K C/\(∀u',RelV c u'->u'=u)/\kitOne K (-C) u>b/\Q (.bl b) H):=h▸NL
def Kf{K:Frag}(h:X.K=K:=by rfl):fD X 120 (λxs H Q=>∃(a C p:cr)(fs:List (i9×V))(cs:Aah)(b:Bool),xs=[-a,-p]/\y9 H a C fs/\rC K C/\H p>.tup (cs.map V.ref)/\kitAny K (-C) (cs.map Value.ref)>b/\Q (.bl b) H):=h▸NI
end
end L2
namespace L2
open PySem PySem.Spec PyProof.Rows
section
variable{P:io}{w:i6}{A:ss}{E:Aac}{v:f8}
structure Zt(h:nw)(z ti to i1 i2 l1 l2:cr)(f:i5)(k:Nat):Prop where
 self:GE h z ti to f
 ins:wS h ti (-i1) (-i2)
 outs:∃a b,wS h to a b
 w1:h.IsTupleIter i1 l1 k
 w2:h.IsTupleIter i2 l2 k
structure Ztd(z ti to i1 i2 l1 l2:cr):Prop where
 ntt:ti≠to
 nii:i1≠i2
 nl1:l1≠to
 nl2:l2≠to
def jN{h:nw}(e:h.get? a>o)(e':h.get? b>o')(c:o.cls=.type m)(c':o'.cls=.type n)(d:m≠n):a≠b:=λg=>by rw[g,e']at e;cases e;rw[c]at c';cases c';show d rfl
def Zt.ne(g:Zt h z ti to i1 i2 l1 l2 f k):(ti≠z/\to≠z/\i1≠z/\i2≠z)/\(ti≠i1/\ti≠i2/\to≠i1/\to≠i2):=by
 obtain⟨gs,gi,⟨a,b,go⟩,⟨o1,q1,c1,_⟩,⟨o2,q2,c2,_⟩⟩:=g;show{{jN gi gs rfl rfl 7,jN go gs rfl rfl 7,jN q1 gs c1 rfl 7,jN q2 gs c2 rfl 7},
  jN gi q1 rfl c1 7,jN gi q2 rfl c2 7,jN go q1 rfl c1 7,jN go q2 rfl c2 7}
def tup_ne(g:Zt h z ti to i1 i2 l1 l2 f k)(t:h.IsTuple l xs):l≠z/\l≠i1/\l≠i2:=by obtain⟨gs,_,_,⟨o1,q1,c1,_⟩,⟨o2,q2,c2,_⟩⟩:=g;let(o,q,c,__):=t;show{jN q gs c rfl 7,jN q q1 c c1 7,jN q q2 c c2 7}
def PK(g:h.IsTupleIter j p k)(s:Heap.SameBut b h h')(n:j≠b):h'.IsTupleIter j p k:=by let(o,q,r):=g;show{o,s.extBut _ _ n q,r}
def OJ(g:h.IsTuple l xs)(s:Heap.SameBut b h h')(n:l≠b):h'.IsTuple l xs:=by let(o,q,r):=g;show{o,s.extBut _ _ n q,r}
def LP(g:wS v.heap t a b)
  (q:∀h',h'.get? t>{cls:=.type "tuple",data:=.seq<|(#[a,b]:Aaj).setIfInBounds k x}->Heap.SameBut t v.heap h'->Q () (v\h')):
  f' 97 A (updateSeq t (·.setIfInBounds k x)) Q E v:=wpAny_updateSeq_pair g q
def aaK{z ti to i1 i2:cr}{x y:i5}{n:Nat}{W1 W2:nw->Prop}{Q:Aag->f8->Prop}(ne:(ti≠z/\to≠z/\i1≠z/\i2≠z)/\(ti≠i1/\ti≠i2/\to≠i1/\to≠i2))(ntt:ti≠to)
  (gs:GE v.heap z ti to .none) (gi:wS v.heap ti (-i1) (-i2)) (go:∃a b,wS v.heap to a b)
  (f1:∀p(R:Aac) F,Heap.SameBut z v.heap p->(∀h',h'.objs.size=v.heap.objs.size+n->W1 h'->(∀c o,c≠i1->p.get? c>o->h'.get? c>o)->R x (v\h'))->f' 97 A.in1 (Builtin.SmallTypes.nextOf (-i1)) R F (v\p))
  (f2:∀p(R:Aac) F,(∀c o,c≠z->c≠to->c≠i1->v.heap.get? c>o->p.get? c>o)->(∀h',W2 h'->Heap.SameBut i2 p h'->R y (v\h'))->f' 97 A.in1 (Builtin.SmallTypes.nextOf (-i2)) R F (v\p))
  (s1:∀h h',W1 h->(∀c o,c≠z->c≠to->c≠i2->h.get? c>o->h'.get? c>o)->W1 h') (s2:∀h h',W2 h->(∀c o,c≠z->c≠to->h.get? c>o->h'.get? c>o)->W2 h')
  (q:∀h',GE h' z ti to (v0<|v.heap.objs.size+n)->wS h' ti (-i1) (-i2)->(∃a b,wS h' to a b)->W1 h'->W2 h'->wS h' (v.heap.objs.size+n) x y->(∀c o,c≠z->c≠to->c≠i1->c≠i2->v.heap.get? c>o->h'.get? c>o)->Q (some<|.ref<|v.heap.objs.size+n) (v\h')):
  f' 97 A (pyNext (-z)) Q E v:=by
 obtain⟨⟨a1,a2,a3,a4⟩,a5,a6,a7,a8⟩:=ne;let(a,b,go):=go;have ty:v.TypeIs (-z) "zip":=⟨_,gs,rfl⟩;unfold pyNext;show ae<|eM<|pc (name:=Str.ofString "__next__") ty jE<|bN jE ty rB ?_ (qy _);change f' _ _ (field (-z) 2>>=_) _ _ _;show ae<|cR gs 9 (x:=.bool false) 9 ?_;change f' _ _ (field (-z) 3>>=_) _ _ _;show ae<|cR gs 9 (x:=-ti) 9 ?_;show ae<|cY gi 9 ?_;change f' _ _ (Builtin.SmallTypes.ownedTupleIsFree (-z)>>=_) _ _ _;show ae ?_;unfold Builtin.SmallTypes.ownedTupleIsFree;show ae<|cR gs 9 (x:=.none) 9 92;simp only[lZ];show ae<|jU ?_;show ae<|cR gs 9 (x:=-to) 9 ?_;show ae (jY gs 84 λp1 k1 r1=>?_)
 replace k1:GE p1 z ti to .ellipsis:=k1
 show ae ?_;simp only[xq,List.zipIdx_nil,sV,Ab];show ae<|ae<|A6 ?_;change f' _ _ (Builtin.SmallTypes.nextOf (-i1)>>=_) _ _ _;show ae (f1 _ _ _ r1 λp2 zz2 k2 r2=>ah ?_);have o2:wS p2 to a b:=r2 _ _ a7<|r1.extBut _ _ a2 go;show ae<|cY o2 9 ?_;show ae (LP o2 λp3 o3 r3=>?_)
 replace o3:wS p3 to x b:=o3
 show ae<|Ew 92;show ae<|ae<|A6 ?_;change f' _ _ (Builtin.SmallTypes.nextOf (-i2)>>=_) _ _ _;show ae (f2 _ _ _ (λc o m1 m2 m3 e=>r3.extBut _ _ m2<|r2 _ _ m3<|r1.extBut _ _ m1 e) λp4 k4 r4=>ah ?_);have o4:wS p4 to x b:=r4.extBut _ _ a8 o3;show ae<|cY o4 9 ?_;show ae (LP o4 λp5 o5 r5=>?_)
 replace o5:wS p5 to x y:=o5
 show ae<|Ew<|ah 92;show ae<|cY o5 9 ?_;show ae<|tW ?_;have sz:p5.objs.size=v.heap.objs.size+n:=by rw[r5.1,r4.1,r3.1,zz2]
 have z5:GE p5 z ti to .ellipsis:=r5.extBut _ _ a2.symm<|r4.extBut _ _ a4.symm<|r3.extBut _ _ a2.symm<|r2 _ _ a3.symm k1;have st:∀c o,c≠z->c≠to->c≠i1->c≠i2->v.heap.get? c>o->p5.get? c>o:=λc o m1 m2 m3 m4 e=>
  r5.extBut _ _ m2 (r4.extBut _ _ m4<|r3.extBut _ _ m2<|r2 _ _ m3<|r1.extBut _ _ m1 e)
 have lz:z<p5.objs.size:=aS z5;change f' _ _ (Builtin.SmallTypes.ownedTupleHandOut (-z) (.ref p5.objs.size)>>=_) _ _ _;show ae ?_;unfold Builtin.SmallTypes.ownedTupleHandOut;have z6:GE (p5.push {cls:=.type "tuple",data:=.seq #[x,y]}) z ti to .ellipsis:=ao _ z5;show ae (jY z6 84 λp7 z7 r7=>?_)
 replace z7:GE p7 z ti to (v0 p5.objs.size):=z7
 show jY z7 84 λp8 z8 r8=>?_
 replace z8:GE p8 z ti to (v0 p5.objs.size):=z8
 have up:∀c o,c≠z->p5.get? c>o->p8.get? c>o:=λc o m e=>r8.extBut _ _ m<|r7.extBut _ _ m<|ao _ e;have n8:wS p8 p5.objs.size x y:=r8.extBut _ _ (cx lz)<|r7.extBut _ _ (cx lz)<|aH _ 9;rw[sz]at z8 n8;show ah {_,9,92};change Q (some<|.ref p5.objs.size) _;rw[sz];show q p8 z8 (up _ _ a1<|st _ _ a1 ntt a5 a6 gi) {_,_,up _ _ a2 o5} (s1 _ _ k2 λc o m1 m2 m3 e=>up _ _ m1<|r5.extBut _ _ m2<|r4.extBut _ _ m3<|r3.extBut _ _ m2 e) (s2 _ _ k4 λc o m1 m2 e=>up _ _ m1<|r5.extBut _ _ m2 e) n8 λc o m1 m2 m3 m4 e=>up c o m1<|st c o m1 m2 m3 m4 e
def acM{z ti to i1 i2:cr}{Q:Aag->f8->Prop}(a3:i1≠z)(gs:GE v.heap z ti to .none)(gi:wS v.heap ti (-i1) (-i2))
  (f:∀p(R:Aac) F,Heap.SameBut z v.heap p->(∀h' e,(∀c o,c≠i1->p.get? c>o->h'.get? c>o)->(∃o,h'.get? e>o/\o.cls=.type "StopIteration")->F (-e) (v\h'))->f' 97 A.in1 (Builtin.SmallTypes.nextOf (-i1)) R F (v\p))
  (q:∀h',(∀c o,c≠z->c≠to->c≠i1->c≠i2->v.heap.get? c>o->h'.get? c>o)->Q none (v\h')):
  f' 97 A (pyNext (-z)) Q E v:=by
 have ty:v.TypeIs (-z) "zip":=⟨_,gs,rfl⟩;unfold pyNext;show ae<|eM<|pc (name:=Str.ofString "__next__") ty jE<|bN jE ty rB ?_ (qy _);change f' _ _ (field (-z) 2>>=_) _ _ _;show ae<|cR gs 9 (x:=.bool false) 9 ?_;change f' _ _ (field (-z) 3>>=_) _ _ _;show ae<|cR gs 9 (x:=-ti) 9 ?_;show ae<|cY gi 9 ?_;change f' _ _ (Builtin.SmallTypes.ownedTupleIsFree (-z)>>=_) _ _ _;show ae ?_;unfold Builtin.SmallTypes.ownedTupleIsFree;show ae<|cR gs 9 (x:=.none) 9 92;simp only[lZ];show ae<|jU ?_;show ae<|cR gs 9 (x:=-to) 9 ?_;show ae (jY gs 84 λp1 k1 r1=>?_)
 replace k1:GE p1 z ti to .ellipsis:=k1
 show ae ?_;simp only[xq,List.zipIdx_nil,sV,Ab];show ae<|ae<|A6 ?_;change f' _ _ (Builtin.SmallTypes.nextOf (-i1)>>=_) _ _ _;show ae (f _ _ _ r1 λp2 e r2 he=>?_);let(oe,ge,ce):=he;have z2:GE p2 z ti to .ellipsis:=r2 _ _ a3.symm k1;have nez:e≠z:=jN ge z2 ce rfl 7;show jY z2 84 λp3 _ r3=>ae<|iO (T:="StopIteration") (b:=true) {oe,r3.extBut _ _ nez ge,ce} m6<|ah (q p3 λc o m1 _ m3 _ e=>r3.extBut _ _ m1<|r2 _ _ m3<|r1.extBut _ _ m1 e)
def OA(d:Ztd z ti to i1 i2 l1 l2)(g:Zt v.heap z ti to i1 i2 l1 l2 .none k)
  (t1:v.heap.IsTuple l1 xs) (t2:v.heap.IsTuple l2 ys) (ex:xs[k]?>x) (ey:ys[k]?>y)
  (q:∀h',Zt h' z ti to i1 i2 l1 l2 (v0 v.heap.objs.size) (k+1)->wS h' v.heap.objs.size x y->(∀c o,c≠z->c≠to->c≠i1->c≠i2->v.heap.get? c>o->h'.get? c>o)->Q (some<|.ref v.heap.objs.size) (v\h')):
  f' 97 A (pyNext (-z)) Q E v:=by
 have ne:=g.ne;obtain⟨⟨a1,a2,a3,a4⟩,a5,a6,a7,a8⟩:=id ne;let(b1,b2,b3):=tup_ne g t1;let(c1,c2,c3):=tup_ne g t2;let(gs,gi,go,g1,g2):=g;show aaK (n:=0) (W1:=λh=>h.IsTupleIter i1 l1<|k+1) (W2:=λh=>h.IsTupleIter i2 l2<|k+1) ne d.ntt gs gi go (λp R F r1 K=>vZ (PK g1 r1 a3) (OJ t1 r1 b1) ex λp2 k2 r2=>K p2 (by rw[r2.1];show r1.1) k2 λc o m e=>r2.extBut c o m e) (λp R F kp K=>?_) (λh h' zq kp=>by let(o,e,r):=zq;show{o,kp _ _ a3 a7.symm d.nii e,r}) (λh h' uF kp=>by let(o,e,r):=uF;show{o,kp _ _ a4 a8.symm e,r}) λh' x1 x2 x3 x4 x5=>q h' ⟨x1,x2,x3,x4,x5⟩;let(o1,e1,r1):=g2;let(o2,e2,r2):=t2;show vZ (z:=v\p) {o1,kp _ _ a4 a8.symm d.nii.symm e1,r1} {o2,kp _ _ c1 d.nl2 c2 e2,r2} ey K
def Oz(hh:A.handled=none)(d:Ztd z ti to i1 i2 l1 l2)(g:Zt v.heap z ti to i1 i2 l1 l2 .none k)
  (t1:v.heap.IsTuple l1 xs) (ex:xs[k]?=none)
  (q:∀h',(∀c o,c≠z->c≠to->c≠i1->c≠i2->v.heap.get? c>o->h'.get? c>o)->Q none (v\h')):
  f' 97 A (pyNext (-z)) Q E v:=
 acM g.ne.1.2.2.1 g.self g.ins (λp R F r1 K=>ud (show A.in1.handled=none from hh) (PK g.w1 r1 g.ne.1.2.2.1) (OJ t1 r1 (tup_ne g t1).1) ex K) q
variable{X:Cx}{bi:Aaa}{Z:St}{H:Hp}{s:f8}
def Inv.freeze(I:Inv X bi Z H s)(hd:H d>.dK kvs)(ho:s.heap.get? d>o):Inv X bi Z (upd H d<|.fF o<|.dK kvs) s:=by
 have nd:∀b u,H b>u->(∀l,u≠ .dK l)->b≠d:=λb u q n z=>by rw[z,hd]at q;show n kvs (cB q).symm
 show I.un {λb u e _ _ _=>e,λb u e _ _ _=>{u.slots,e},λb u e n _=>by rw[aI<|(λb q z=>by rw[z,hd]at q;cases q) b n];show n,λb u e _=>⟨u,e⟩,λb xs q=>by rw[aI 146];show q,λb u v q=>by rw[aI 146];show q,λb ps q=>{#[],by rw[aI 146,q];simp}} λb u g=>?_;by_cases hb:b=d;·subst hb;rw[aF]at g;cases g;show{ho,I.bC b _ hd}
 rw[aI hb]at g;show(I.bC b u g).qt (λc v hc q=>q) (λc q=>by rw[aI (nd c _ q λl z=>by cases z)];show q) λc ys q=>by rw[aI (nd c _ q λl z=>by cases z)];show q
def agS{X:Cx}{d x:i9}{pd px Fa eR:Gc}(hl:53=true:=by rfl)(hb:wT 67 "get" X.env (wf 67 X.env)=wf 67 X.env:=by rfl):M1 X 67 "get" Fa 96 eR:=⟨hb,rfl,hl,rfl⟩
def Pw{X:Cx}:Lets X (λ_ _ _=>False):=λ_ _ _ _ _ _ _ _ _ h=>h.elim
end
section
variable{X:Cx}
theorem ints_of:∀{ns:List Int}{us:Aae},Vals (ns.map V.int) us->W' us ns
 |[],_,.nil=>.nil
 |n::ns,_,.cons ⟨t,r⟩ q=>by subst r;show .cons _ _<|ints_of q
def Wx:fD X (.type "str") (λxs H Q=>∃i:Int,xs=[.int i]/\i.natAbs.log2<1920/\Q (.str<|Str.ofString<|toString i) H):=by ext bi s Z H xs us Q I r h;let(i,rfl,hl,q):=h;let(u,rfl,t,rfl):=jn r;show P.str_of_int hl {.str<|Str.ofString<|toString i,H,44,66,q}
variable{bi:Aaa}{Z:St}{H:Hp}{s:f8}{h':nw}
def Inv.aa0{ch:Aah}(I:Inv X bi Z H s)(k:∀b o,b∉ch->s.heap.get? b>o->h'.get? b>o)(fc:∀b∈ch,oC X bi H b)
  (hp:34<=p) (ht:IsTup h' p us.toArray/\∃o,h'.get? p>o/\o.dict=none) (r:Vals xs us) (hz:42<=dL):Inv X bi Z (upd H p<|.tup xs) (s\(h',t')):=by
 have hn:=I.bC.fresh hp;have fp:=I.w6 hp hn;have nH:∀b u,H b>u->b∉ch/\b≠p:=λb u g=>{(λz=>by rw[(fc b z).1]at g;cases g),λz=>by rw[z,hn]at g;cases g};show I.step 26 (λb o _ _ hc g _=>k b o (λz=>hc<|az _ z) g) (λb o _ _ hc g _=>{o.slots,k b o (λz=>hc<|az _ z) g})
  (λb o hc g n=>by rw[aI λz=>hc (by rw[z];show ay)];show n) (λb o hc g=>{o,k b o (λz=>hc<|az _ z) g})
  (λb ys g=>by rw[aI (nH b _ g).2];show g) (λb o u g=>by rw[aI (nH b _ g).2];show g) (λb ps g=>{#[],by rw[aI (nH b _ g).2,g];simp}) (λm hm=>?_) (λb u g=>?_) I.bare
 ·rcases aK.mp hb with rfl|z;·show{fp.2.2.2.1,fp.2.1,fp.2.2.2.2.1,fp.2.2.2.2.2}
  have f:=fc b z;show{f.2.2.2.1,f.2.1,f.2.2.2.2.1,f.2.2.2.2.2}
 ·let(o,es,ep,ho,r'):=hm;show{o,es,ep,k _ o (λz=>(fc _ z).2.1 9) ho,r'}
 by_cases hb:b=p;·subst hb;rw[aF]at g;cases g;show⟨hz,us,r,ht⟩
 rw[aI hb]at g;show(I.bC b u g).qt (λc v hc q=>?_) (λc q=>?_) λc ys q=>?_
 ·rcases hc with z|z;·rw[z];rw[z]at q;show k b v (nH b _ g).1 q
  show k c v (nH c _ z).1 q
 ·rw[aI (nH c _ q).2];show q
 rw[aI (nH c _ q).2];show q
def Inv.aa1{ch:Aah}(I:Inv X bi Z H s)(k:∀b o,b∉ch->s.heap.get? b>o->h'.get? b>o)(fc:∀b∈ch,oC X bi H b):Inv X bi Z H (s\(h',t')):=by
 have nH:∀b u,H b>u->b∉ch:=λb u g z=>by rw[(fc b z).1]at g;cases g
 show I.step (λb z=>?_) (λb o _ _ hc g _=>k b o hc g) (λb o _ _ hc g _=>{o.slots,k b o hc g}) (λ_ _ _ _ n=>n) (λb o hc g=>{o,k b o hc g})
  (λ_ _ g=>g) (λ_ _ _ g=>g) (λb ps g=>{#[],by rw[g];simp}) (λm hm=>?_) (λb u g=>?_) I.bare
 ·have f:=fc b z;show{f.2.2.2.1,f.2.1,f.2.2.2.2.1,f.2.2.2.2.2}
 ·let(o,es,ep,ho,r'):=hm;show{o,es,ep,k _ o (λz=>(fc _ z).2.1 9) ho,r'}
 show(I.bC b u g).qt (λc v hc q=>k c v ?_ q) (λ_ q=>q) λ_ _ q=>q;rcases hc with z|z;·rw[z];show nH b _ g
 show nH c _ z
end
section
variable{P:io}{w:i6}{A:ss}{E:Aac}{v:f8}
abbrev ZM(h:nw)(U V:J'):nw:=(h.push U).push V
abbrev ZL(h:nw)(U V:J'):nw:=(ZM h U V).push {cls:=.type "tuple",data:=.seq #[.ref h.objs.size,.ref (h.push U).objs.size]}
abbrev ZK(h:nw)(U V:J'):nw:=(ZL h U V).push {cls:=.type "tuple",data:=.seq #[.none,.none]}
abbrev OD(h:nw)(U V:J'):nw:=(ZK h U V).push {cls:=.type "zip",data:=.fields #[.none,.bool false,.bool false,.ref (ZM h U V).objs.size,.ref (ZL h U V).objs.size]}
def afu{r l:cr}{U V:J'}{C:f8->Prop}{Q:Aac}(m:Meets (Builtin.«zip.__new__» {[.type "zip",-r,-l],[]}) (λ_ R s=>C s/\R (.ok<|.ret<|.ref (ZK s.heap U V).objs.size) (s\OD s.heap U V)))(c:C v)(fU:U.isFreed=false)(fV:V.isFreed=false)
  (q:∀h' n,n=v.heap.objs.size->GE h' (n+4) (n+2) (n+3) .none->wS h' (n+2) (-n) (.ref<|n+1)->(∃a b,wS h' (n+3) a b)->h'.get? n>U->h'.get? (n+1)>V->(∀c o,v.heap.get? c>o->h'.get? c>o)->Q (.ref<|n+4) (v\h')):
  f' 97 A (Go (.type "zip") [-r,-l]) Q E v:=by
 show callType_new F.called_zip 7 (F.typeCall_zip_2 _ _) (F.newCall_zip_2 _ _) (λobj=>F.args_object_init_3 obj _ _) F.entry_zip_new m {c,?_};have e1:(v.heap.push U).objs.size=v.heap.objs.size+1:=dk ..;have e2:(ZM v.heap U V).objs.size=v.heap.objs.size+2:=by rw[dk,e1]
 have e3:(ZL v.heap U V).objs.size=v.heap.objs.size+3:=by rw[dk,e2]
 have e4:(ZK v.heap U V).objs.size=v.heap.objs.size+4:=by rw[dk,e3]
 have g5:(OD v.heap U V).get? (ZK v.heap U V).objs.size>_:=aH _ rfl;have g4:(OD v.heap U V).get? (ZL v.heap U V).objs.size>_:=ao _<|aH _ 9;have g3:(OD v.heap U V).get? (ZM v.heap U V).objs.size>_:=ao _<|ao _<|aH _ 9;have g2:(OD v.heap U V).get? (v.heap.push U).objs.size>_:=ao _<|ao _<|ao _<|aH _ fV;have g1:(OD v.heap U V).get? v.heap.objs.size>_:=ao _<|ao _<|ao _<|ao _<|aH _ fU;change _/\_;rw[e2,e3,e4]at g5;rw[e1,e2]at g3;rw[e3]at g4;rw[e1]at g2;rw[e4];show{⟨_,g5,rfl⟩,q _ _ rfl g5 g3 ⟨_,_,g4⟩ g1 g2 λc o x=>ao _<|ao _<|ao _<|ao _<|ao _ x}
abbrev tIt(a:cr):J':={cls:=.type "tuple_iterator",data:=.fields #[-a,.int 0 0]}
def OC(h1:v.heap.IsTuple l1 xs)(h2:v.heap.IsTuple l2 ys)
  (q:∀h' n,n=v.heap.objs.size->Zt h' (n+4) (n+2) (n+3) n (n+1) l1 l2 .none 0->(∀c o,v.heap.get? c>o->h'.get? c>o)->Q (.ref<|n+4) (v\h')):
  f' 97 A (Go (.type "zip") [-l1,-l2]) Q E v:=by
 show afu (U:=tIt l1) (V:=tIt l2) (C:=λs=>s.heap.IsTuple l1 xs/\s.heap.IsTuple l2 ys) (.of_wp λprog w A R s h=>?_) ⟨h1,h2⟩ rfl rfl λh' n e g5 g3 g4 g1 g2=>q h' n e {g5,g3,g4,⟨_,g1,rfl,rfl⟩,⟨_,g2,rfl,rfl⟩};let(hp,g,d,tk,os):=s;obtain⟨⟨rL,lN⟩,h⟩:=h;have YD:=sub_zip;have hL1:Heap.IsTuple (Shared.heap ⟨hp,g,d,tk,os⟩) l1 xs:=rL;have hL2:Heap.IsTuple (Shared.heap {hp.push<|tIt l1,g,d,tk,os}) l2 ys:=by let(o,e,r):=lN;show{o,ao _ e,r}
 wp_walk using iT hL1,iT hL2
 show⟨_,rfl,h⟩
def WR(K:Frag)(a b:cr):It:=
 {λi H=>∃xs ys x y,bA K H a xs/\bA K H b ys/\xs[i]?>x/\ys[i]?>y,
  λi H u H'=>∃p x y,u=-p/\H p=none/\H'=upd H p (.tup [x,y])/\(∀xs,bA K H a xs->xs[i]?>x)/\∀ys,bA K H b ys->ys[i]?>y,
  λi H=>∃xs,bA K H a xs/\42=i}
def qi(z ti to i1 i2:cr):Aah:=[z,ti,to,i1,i2]
end
def SY{h:nw}{z ti to i1 i2:cr}{f x y:i5}{o1 o2:J'}{X1 X2:Aaj}(gs:GE h z ti to f)(gi:wS h ti x y)(go:∃a b,wS h to a b)(q1:h.get? i1>o1)(d1:o1.data=.fields X1)(q2:h.get? i2>o2)(d2:o2.data=.fields X2):
  ∀c∈qi z ti to i1 i2,∃o,h.get? c>o/\∀v,o.data≠ .cell v:=λc hc=>by
 let(u,v,go):=go;have tL:c=z\/c=ti\/c=to\/c=i1\/c=i2:=by simpa[qi]using hc
 rcases tL with rfl|rfl|rfl|rfl|rfl;·show{_,gs,λv z=>by cases z}
 ·show{_,gi,λv z=>by cases z}
 ·show{_,go,λv z=>by cases z}
 ·show{_,q1,λv z=>by rw[d1]at z;cases z}
 show{_,q2,λv z=>by rw[d2]at z;cases z}
def acL{X:Cx}{bi:Aaa}{Z:St}{H:Hp}{s:f8}(I:Inv X bi Z H s):∀c∈qi (34+4) (34+2) (34+3) 34 (34+1),oC X bi H c:=λc hc=>by
 have lc:34<=c:=by simp only[qi,aK,List.mem_nil_iff,uc]at hc;rcases hc with e|e|e|e|e<;>rw[e]<;>first|show aw _|show gj _ _
 show I.w6 lc<|I.bC.fresh lc
def Xk{K:Frag}(a b z ti to i1 i2:cr)(dd:Ztd z ti to i1 i2 a b):Turn P w K 138 (WR K a b) (qi z ti to i1 i2) z (λi h=>Zt h z ti to i1 i2 a b .none i) where
 mem:=ay
 obj:=λi h zq=>by obtain⟨gs,gi,go,⟨_,q1,_,d1⟩,⟨_,q2,_,d2⟩⟩:=zq;show SY gs gi go q1 d1 q2 d2
 keep:=λi h h' st k=>by obtain⟨gs,gi,⟨u,v,go⟩,⟨o1,q1,r1⟩,⟨o2,q2,r2⟩⟩:=st;show{k z (by simp[qi]) _ gs,k ti (by simp[qi]) _ gi,{u,v,k to (by simp[qi]) _ go},{o1,k i1 (by simp[qi]) _ q1,r1},{o2,k i2 (by simp[qi]) _ q2,r2}}
 item:=by
  ext X hP hw hK hc i bi s Z H E I hf st hg;subst hP hw hK;let(xs,ys,x,y,ha,hb,hx,hy):=hg;let(MA,Lr,Gy,yc):=I.tuple ha;let(yb,rv2,LG,vF):=I.tuple hb;let(u1,hu1,T1):=Lr.get hx;let(u2,PR,TZ):=rv2.get hy;show OA dd st (show s.heap.IsTuple a MA.toArray from Gy) (show s.heap.IsTuple b yb.toArray from LG) (x:=u1) (y:=u2) (↑hu1) (↑PR) λh1 g1 pr kp=>{_,9,?_};show wpAny_letOwnedTupleGo_zip g1.self λh2 z2 sb=>?_;have BY:Heap.SameBut z h1 h2:=sb;have lz:z<34:=aS st.self;have al:∀c∈qi z ti to i1 i2,c<34:=λc hc=>by obtain⟨gs,gi,go,⟨_,q1,_,d1⟩,⟨_,q2,_,d2⟩⟩:=id st;let(__,e,__):=SY gs gi go q1 d1 q2 d2 c hc;show aS e
  have UZ:∀c o,c∉qi z ti to i1 i2->s.heap.get? c>o->h2.get? c>o:=λc o hc e=>
   BY.extBut c o 60 (kp c o 60 60 60 60 e)
  have tp:IsTup h2 34 ([u1,u2]:Aae).toArray/\∃o,h2.get? 34>o/\o.dict=none:={{_,BY.extBut _ _ (cx lz) pr,9,_,9},_,BY.extBut _ _ (cx lz) pr,9};have I2:=I.aa0 (t':=21) (xs:=[x,y]) UZ hf (aw _) tp (.cons T1<|.cons TZ .nil) 31;obtain⟨⟨n1,n2,n3,n4⟩,n5,n6,n7,n8⟩:=g1.ne;obtain⟨gs,gi,⟨u,v,go⟩,⟨o1,q1,r1⟩,⟨o2,q2,r2⟩⟩:=g1;show{.ref 34,_,I2,9,{_,x,y,9,69,9,λzs hz=>by rw[I.uJ hz ha];show hx,λzs hz=>by rw[I.uJ hz hb];show hy},{z2,BY.extBut _ _ n1 gi,{u,v,BY.extBut _ _ n2 go},{o1,BY.extBut _ _ n3 q1,r1},{o2,BY.extBut _ _ n4 q2,r2}},λc hc=>?_};rw[aI<|aU<|al c hc];show(hf c hc).1
 done:=by ext X hP hw hK hc i bi s Z H E I hf st hg;subst hP hw hK;let(xs,ha,hx):=hg;let(MA,Lr,Gy,yc):=I.tuple ha;have hl:=Lr.length;show Oz 61 dd st (show s.heap.IsTuple a MA.toArray from Gy) (by simp;lia) λh1 kp=>{9,I.aa1 (t':=21) (ch:=qi z ti to i1 i2) (λc o hc e=>kp c o 60 60 60 60 e) hf}
 self:=λ_ _ _ _ _ st h=>wy st.self h
inductive aer(K:Frag)(R:It->Hp->Prop)(vs:Aam)(H1:Hp):Prop
 |mk a b (_:vs=[-a,-b]) (_:(∃xs,bA K H1 a xs)) (_:(∃ys,bA K H1 b ys)) (_:R (WR K a b) H1)
def af5(K:Frag)(ta:TA):TI:=λZ H R=>ta Z H λvs H1=>aer K R vs H1
def abC(hg:Gl X "zip")(hm:X.mg "zip"=none)(ha:PA X [a,b] ta)(hs:jp [a,b] X.env=[(false,wf a X.env),(false,wf b X.env)]:=by rfl)(kT:jp [b] X.env=[(false,wf b X.env)]:=by rfl):
  PI X 138 (.Call (.Name "zip" p) [a,b] [] pos) (af5 X.K ta):=by
 ext bi s Z H R I h;show Hw<|sk I hg hm boot_zip<|eY (qV 15 λus s1 vs H1 I1 r1 q1=>?_) (by rw[hs,kT]) (by rw[kT];rfl);obtain⟨l1,l2,e,⟨xs,ha⟩,⟨ys,hb⟩,q⟩:=q1;subst e;let(u1,u2,rfl,T1,TZ):=uw r1;cases T1;cases TZ;let(MA,Lr,Gy,yc):=I1.tuple ha;let(yb,rv2,LG,vF):=I1.tuple hb;have t1:s1.heap.IsTuple l1 MA.toArray:=Gy;have t2:s1.heap.IsTuple l2 yb.toArray:=LG;have b1:l1<22:=by let(o,e,__):=t1;show aS e
 have b2:l2<22:=by let(o,e,__):=t2;show aS e
 show OC t1 t2 λh' n en g kp=>?_;subst en;have I2:Inv X bi Z H1 (s1\h'):=I1.kept (t':=s1.toks) kp;show wy g.self ?_;show{_,_,_,_,H1,9,I2,Xk l1 l2 _ _ _ _ _ {?_,?_,?_,?_},g,acL I1,q};·exactλt=>absurd t<|aU<|eS _
 ·exactλt=>absurd t<|aU<|eS _
 ·show aU<|bf b1<|gj _ _
 show aU<|bf b2<|gj _ _
def Y1{K:Frag}{a b:cr}{xs ys:Aam}{g:TG}{tb:TS}{D:Ends}{Z:St}{H:Hp}(Pv:Nat->St->Hp->Prop)(le:42=48)(h0:Pv 0 Z H)(hl:∀i Z H,i<=42->Pv i Z H->bA K H a xs/\bA K H b ys)
  (hs:∀i x y p Z H,xs[i]?>x->ys[i]?>y->Pv i Z H->H p=none->g (-p) Z (upd H p<|.tup [x,y]) λσ2 H2=>tb {D with nx:=Pv<|i+1,ct:=Pv<|i+1,bk:=D.nx} σ2 H2) (hd:∀Z H,Pv 42 Z H->D.nx Z H):
  ∃W:Nat->Nat->St->Hp->Prop,(∃m,W 0 m Z H)/\∀i m Z H,W i m Z H->
   ((WR K a b).stop i H/\D.nx Z H)\/((WR K a b).go i H/\∃N:St->Hp->Prop,(∀σ' H',N σ' H'->∃m',m'<m/\W (i+1) m' σ' H')/\∀x H',(WR K a b).Es i H x H'->g x Z H' λσ2 H2=>tb {D with nx:=N,ct:=N,bk:=D.nx} σ2 H2):=by
 show{λi m Z H=>m=42 -i/\i<=42/\Pv i Z H,{42,84,aQ _,h0},?_};ext i m Z H ⟨rfl,hi,p⟩;let(q1,q2):=hl i Z H hi p;by_cases cb:i<42;·show .inr {{xs,ys,xs[i],ys[i]'∅,q1,q2,by simp[cb],au _},Pv<|i+1,λσ' H' p'=>{42 -(i+1),8,9,cb,p'},λx H' y=>?_};let(r,u,v,rfl,hr,rfl,y1,y2):=y;show hs i u v r Z H (y1 xs q1) (y2 ys q2) p hr
 have e:i=42:=by lia
 subst e;show .inl {⟨xs,q1,rfl⟩,hd Z H p}
section
variable{P:io}{w:i6}{A:ss}{E:Aac}{v:f8}
def N5(h:Q (v.heap.get? a) v):f' M A (loadIfAlive a) Q E v:=λΓ p _=>by change Sem.wp M Γ (Sem.loadIfAlive a Sem.pure) _ _ p v;show h
abbrev BJ(f0:i5)(b:Bool)(ti to:cr):J':={cls:=.type "zip",dict:=none,data:=.fields #[f0,.bool b,.bool false,-ti,-to],slots:=#[]}
def sqN:Bool->String
 |true=>"list"
 |false=>"tuple"
def itN:Bool->String
 |true=>"list_iterator"
 |false=>"tuple_iterator"
def mO(b:Bool)(h:nw)(a:cr)(items:Aaj):Prop:=∃o,h.get? a>o/\o.cls=.type (sqN b)/\∃n,o.data=.seq items n
def qo(b:Bool)(h:nw)(a l:cr)(i:Nat):Prop:=∃o,h.get? a>o/\o.cls=.type (itN b)/\o.data=.fields #[-l,.int i 0]
def qo.on{b:Bool}{h h':nw}{i l:cr}{k:Nat}(g:qo b h i l k)(s:∀o,h.get? i>o->h'.get? i>o):qo b h' i l k:=
 let⟨o,e,r⟩:=g
 {o,s o e,r}
def mO.on{b:Bool}{h h':nw}{l:cr}{xs:Aaj}(g:mO b h l xs)(s:∀o,h.get? l>o->h'.get? l>o):mO b h' l xs:=
 let⟨o,e,r⟩:=g
 {o,s o e,r}
def aak{b:Bool}{j p:cr}{k:Nat}{aM:Aaj}{y:i5}{Q:Aac}(g:qo b v.heap j p k)(gp:mO b v.heap p aM)(gy:aM[k]?>y)
  (q:∀h',qo b h' j p (k+1)->Heap.SameBut j v.heap h'->Q y (v\h')):f' 97 A (Builtin.SmallTypes.nextOf (-j)) Q E v:=by
 cases b;·show vZ g gp gy q
 show wpAny_nextOf_list_item g gp gy q
def afJ{b:Bool}{j p:cr}{k:Nat}{aM:Aaj}{Q:Aac}(hd:A.handled=none)(g:qo b v.heap j p k)(gp:mO b v.heap p aM)(gy:aM[k]?=none)
  (q:∀h' e,Heap.ExtBut j v.heap h'->(∃o,h'.get? e>o/\o.cls=.type "StopIteration")->E (-e) (v\h')):f' 97 A (Builtin.SmallTypes.nextOf (-j)) Q E v:=by
 cases b;·show ud hd g gp gy q
 show wpAny_nextOf_list_end hd g gp gy q
structure Zs(b:Bool)(h:nw)(z ti to i1 i2 l1 l2 T:cr)(k:Nat):Prop where
 self:∃c,h.get? z>BJ (v0 T) c ti to
 live:∃o,h.get? T>o
 ins:wS h ti (-i1) (-i2)
 w1:qo b h i1 l1 k
 w2:qo b h i2 l2 k
def OB{z ti to T:cr}(g:v.heap.get? z>BJ (v0 T) b ti to)(l:∃o,v.heap.get? T>o)
  (q:∀h',h'.get? z>BJ (v0 T) true ti to->Heap.SameBut z v.heap h'->Q false (v\h')):f' 97 A (Builtin.SmallTypes.ownedTupleIsFree (-z)) Q E v:=by
 let(o,l):=l;show ae<|cR g 9 9 ?_;show ae<|N5 ?_;rw[dU,l];show ae<|cR g 9 9 ?_;cases b with
 |true=>
  show ah<|q v.heap g<|El _ _
 |false=>
  show ae (jY g 84 λh1 g1 s1=>ah<|q h1 g1 s1)
def aaN{b:Bool}{z ti to i1 i2 l1 l2 T:cr}{k:Nat}{xs ys:Aaj}{x y:i5}{Q:Aac}(D:IN z ti to i1 i2 l1 l2)(nT:T≠z)(g:Zs b v.heap z ti to i1 i2 l1 l2 T k)
  (t1:mO b v.heap l1 xs) (t2:mO b v.heap l2 ys) (ex:xs[k]?>x) (ey:ys[k]?>y)
  (q:∀h',Zs b h' z ti to i1 i2 l1 l2 T (k+1)->wS h' v.heap.objs.size x y->(∀c o,c≠z->c≠i1->c≠i2->v.heap.get? c>o->h'.get? c>o)->Q (.ref v.heap.objs.size) (v\h')):
  f' 97 A (Builtin.«zip.__next__» {[-z],[]}) (λfin s'=>∃u,fin=.done (.ret u)/\Q u s') E v:=by
 obtain⟨⟨c,gs⟩,gT,gi,g1,g2⟩:=g;change f' _ _ (field (-z) 2>>=_) _ _ _;show ae<|cR gs 9 9 ?_;show ae<|cR gs 9 9 ?_;show ae<|cY gi 9 ?_;show ae (OB gs gT λp1 z1 r1=>?_);show ae ?_;show ae<|ae<|bP ?_;show ae (aak (g1.on λ_=>r1.extBut _ _ D.i1z) (t1.on λ_=>r1.extBut _ _ D.l1z) ex λp2 k2 r2=>ah ?_);show ah ?_;show ae<|ae<|bP ?_;show ae (aak (g2.on λ_ e=>r2.extBut _ _ D.i12.symm<|r1.extBut _ _ D.i2z e) (t2.on λ_ e=>r2.extBut _ _ D.l2i1<|r1.extBut _ _ D.l2z e) ey λp3 k3 r3=>ah ?_);show ah 92;change f' _ _ (newTuple [x,y]>>=_) _ _ _;show ae<|tW<|ah {_,9,?_};have sz:p3.objs.size=v.heap.objs.size:=by rw[r3.1,r2.1,r1.1]
 have st:∀c o,c≠z->c≠i1->c≠i2->v.heap.get? c>o->p3.get? c>o:=λc o m1 m2 m3 e=>r3.extBut _ _ m3<|r2.extBut _ _ m2<|r1.extBut _ _ m1 e;rw[sz];let(oa,ja,ra):=(k2.on λ_=>r3.extBut _ _ D.i12);let(ob,jb,rb):=k3;let(oT,gT):=gT;let(o1,e1,c1,__):=g1;let(o2,e2,c2,__):=g2;show q _ {{true,ao _<|r3.extBut _ _ D.i2z.symm<|r2.extBut _ _ D.i1z.symm z1},?_,ao _<|st _ _ D.TIz D.TIi1 D.TIi2 gi,{oa,ao _ ja,ra},{ob,ao _ jb,rb}} ?_ λc o m1 m2 m3 e=>ao _<|st c o m1 m2 m3 e
 ·by_cases n1:T=i1;·rw[n1];show{oa,ao _ ja}
  by_cases n2:T=i2;·rw[n2];show{ob,ao _ jb}
  show{oT,ao _<|st _ _ nT n1 n2 gT}
 have:=aH p3 (o:={cls:=.type "tuple",data:=.seq #[x,y]}) rfl;rw[sz]at this;show this
def acN{b:Bool}{z ti to i1 i2 l1 l2 T:cr}{k:Nat}{xs:Aaj}{Q:Fin->f8->Prop}(hh:A.handled=none)(D:IN z ti to i1 i2 l1 l2)(g:Zs b v.heap z ti to i1 i2 l1 l2 T k)
  (t1:mO b v.heap l1 xs) (ex:xs[k]?=none)
  (q:∀h' e,(∀c o,c≠z->c≠i1->c≠i2->v.heap.get? c>o->h'.get? c>o)->(∃o,h'.get? e>o/\o.cls=.type "StopIteration")->E (-e) (v\h')):
  f' 97 A (Builtin.«zip.__next__» {[-z],[]}) Q E v:=by
 obtain⟨⟨c,gs⟩,gT,gi,g1,g2⟩:=g;change f' _ _ (field (-z) 2>>=_) _ _ _;show ae<|cR gs 9 9 ?_;show ae<|cR gs 9 9 ?_;show ae<|cY gi 9 ?_;show ae (OB gs gT λp1 z1 r1=>?_);show ae ?_;show ae<|ae<|bP ?_;show ae (afJ hh (g1.on λ_=>r1.extBut _ _ D.i1z) (t1.on λ_=>r1.extBut _ _ D.l1z) ex λp2 e r2 he=>q p2 e (λc o m1 m2 m3 x=>r2 _ _ m2<|r1.extBut _ _ m1 x) he)
def aaM{b:Bool}{z ti to i1 i2 l1 l2 T:cr}{k:Nat}{xs ys:Aaj}{x y:i5}{Q:Aag->f8->Prop}(D:IN z ti to i1 i2 l1 l2)(nT:T≠z)(g:Zs b v.heap z ti to i1 i2 l1 l2 T k)
  (t1:mO b v.heap l1 xs) (t2:mO b v.heap l2 ys) (ex:xs[k]?>x) (ey:ys[k]?>y)
  (q:∀h',Zs b h' z ti to i1 i2 l1 l2 T (k+1)->wS h' v.heap.objs.size x y->(∀c o,c≠z->c≠i1->c≠i2->v.heap.get? c>o->h'.get? c>o)->Q (some<|.ref v.heap.objs.size) (v\h')):
  f' 97 A (pyNext (-z)) Q E v:=by
 let(c,gs):=g.self;have ty:v.TypeIs (-z) "zip":=⟨_,gs,rfl⟩;show ae<|eM<|pc ty jE<|bN jE ty rB (aaN D nT g t1 t2 ex ey λh' b1 b2 b3=>ah<|q h' b1 b2 b3)<|qy _
def aaL{b:Bool}{z ti to i1 i2 l1 l2 T:cr}{k:Nat}{xs:Aaj}{Q:Aag->f8->Prop}(hh:A.handled=none)(D:IN z ti to i1 i2 l1 l2)(g:Zs b v.heap z ti to i1 i2 l1 l2 T k)
  (t1:mO b v.heap l1 xs) (ex:xs[k]?=none) (q:∀h',(∀c o,c≠z->c≠i1->c≠i2->v.heap.get? c>o->h'.get? c>o)->Q none (v\h')):
  f' 97 A (pyNext (-z)) Q E v:=by
 let(c,gs):=g.self;have ty:v.TypeIs (-z) "zip":=⟨_,gs,rfl⟩;show ae<|eM<|pc ty jE<|bN jE ty rB (acN hh D g t1 ex λh' e hk he=>?_)<|qy _;let(o,ho,hc):=he;show ae<|iO ⟨o,ho,hc⟩ m6<|ah<|q _ hk
def aaQ{b:Bool}{z ti to i1 i2 l1 l2:cr}{xs ys:Aaj}{x y:i5}{Q:Aag->f8->Prop}(D:IN z ti to i1 i2 l1 l2)(hz:GE v.heap z ti to .none)(hi:wS v.heap ti (-i1) (-i2))(ho:∃a b,wS v.heap to a b)
  (j1:qo b v.heap i1 l1 0) (j2:qo b v.heap i2 l2 0) (t1:mO b v.heap l1 xs) (t2:mO b v.heap l2 ys) (ex:xs[0]?>x) (ey:ys[0]?>y)
  (q:∀h',GE h' z ti to (v0 v.heap.objs.size)->qo b h' i1 l1 1->qo b h' i2 l2 1->wS h' v.heap.objs.size x y->(∀c o,c≠z->c≠to->c≠i1->c≠i2->v.heap.get? c>o->h'.get? c>o)->Q (some<|.ref v.heap.objs.size) (v\h')):
  f' 97 A (pyNext (-z)) Q E v:=by
 cases b;·show OA {D.TITO,D.i12,D.l1TO,D.l2TO} ⟨hz,hi,ho,j1,j2⟩ t1 t2 ex ey λh1 g=>q h1 g.self g.w1 g.w2
 show let⟨_,_,ho⟩:=ho
  wpAny_pyNext_zip_item D hz hi ho j1 j2 t1 t2 ex ey λh1 a1 _ a3 a4 a5 _=>q h1 a1 a3 a4 a5
def aaP{b:Bool}{z ti to i1 i2 l1 l2:cr}{xs ys:Aaj}{Q:Aag->f8->Prop}(hh:A.handled=none)(D:IN z ti to i1 i2 l1 l2)(hz:GE v.heap z ti to .none)(hi:wS v.heap ti (-i1) (-i2))(ho:∃a b,wS v.heap to a b)
  (j1:qo b v.heap i1 l1 0) (j2:qo b v.heap i2 l2 0) (t1:mO b v.heap l1 xs) (t2:mO b v.heap l2 ys) (ex:xs[0]?=none)
  (q:∀h',(∀c o,c≠z->c≠to->c≠i1->c≠i2->v.heap.get? c>o->h'.get? c>o)->Q none (v\h')):f' 97 A (pyNext (-z)) Q E v:=by
 cases b;·show Oz hh {D.TITO,D.i12,D.l1TO,D.l2TO} ⟨hz,hi,ho,j1,j2⟩ t1 ex q
 show let⟨_,_,ho⟩:=ho
  wpAny_pyNext_zip_end hh D hz hi ho j1 j2 t1 t2 (.inl ex) q
def aaR{b:Bool}{l1 l2:cr}{xs ys:Aaj}{Q:Aac}(h1:mO b v.heap l1 xs)(h2:mO b v.heap l2 ys)
  (q:∀h',GE h' (v.heap.objs.size+4) (v.heap.objs.size+2) (v.heap.objs.size+3) .none->wS h' (v.heap.objs.size+2) (.ref v.heap.objs.size) (.ref<|v.heap.objs.size+1)->(∃a b,wS h' (v.heap.objs.size+3) a b)->
   qo b h' v.heap.objs.size l1 0->qo b h' (v.heap.objs.size+1) l2 0->(∀c o,v.heap.get? c>o->h'.get? c>o)->Q (.ref<|v.heap.objs.size+4) (v\h')):
  f' 97 A (Go (.type "zip") [-l1,-l2]) Q E v:=by
 cases b;·show OC h1 h2 λh' n en zt kp=>by subst en;show q h' zt.self zt.ins zt.outs zt.w1 zt.w2 kp
 show call_zip_2 h1 h2 λh' z0 z1 z2 z3 z4 _ kp=>q h' z0 z1 ⟨_,_,z2⟩ z3 z4 kp
variable{prog:io}
def Sl:EQ (.type "zip") "__getattr__"=pure none:=by rw[kf,gQ];kernel_rfl
def ack:EQ (.type "zip") "keys"=pure none:=by rw[kf,gQ];kernel_rfl
def agk:Z' table "zip.__getattribute__">Builtin.«object.__getattribute__»:=zV (id':="object.__getattribute__") 29 59 59 29
def aci{os:xz}(hx:h.get? a>BJ f0 b ti to)(hA:A.handled=none)
  (k:∀h' tk e,Heap.NewAttrErr h h' e (-a) "keys"->E (-e) ⟨h',g,d,tk,os⟩):
  f' 85 A (Builtin.«object.__getattribute__» {[-a,.str "keys" u],[]}) Q E ⟨h,g,d,t,os⟩:=by
 have f4:=ack
 repeat (any_goals (first|(assumption)|(wp_step)))
 show Ag hA k<|attrMsg_fits 59 (by size_fits)
def acm{os:xz}(hx:h.get? a>BJ f0 b ti to)(hA:A.handled=none)
  (k:∀h' tk e,Heap.NewAttrErr h h' e (-a) "keys"->R (.error (-e)) ⟨h',g,d,tk,os⟩):
  C' 85 A (.call (.builtin "zip.__getattribute__") {[-a,.str "keys" u],[]}) R ⟨h,g,d,t,os⟩:=
 jw F.slot_zip_getattribute.plain agk (F.slot_zip_getattribute.check _ _ _ _ _ _ _ _ (show(⟨h,g,d,t,os⟩:f8).TypeIs (-a) "zip"from⟨_,hx,rfl⟩) (F.args_zip_getattribute_2 _ _)<|aci hx hA k)
def agl{os:xz}(hx:h.get? a>BJ f0 b ti to)(hA:A.handled=none)
  (k:∀h' tk e,Heap.NewAttrErr h h' e (-a) "keys"->E (-e) ⟨h',g,d,tk,os⟩):
  f' 85 A (getAttrBy (-a) (.str "keys" u) false) Q E ⟨h,g,d,t,os⟩:=by
 have g2:=F.slot_zip_getattribute.lookup;have g3:=F.slot_zip_getattribute.bind (-a);have f5:=Sl;have f1:=oZ
 repeat (any_goals (first|(assumption)|(wp_step)))
 show acm hx hA λh' tk e ne=>?_;let(t',u',he):=ne.there
 repeat (any_goals (first|(assumption)|(wp_step)))
 show k _ _ _ ne
def acn{os:xz}(hx:h.get? a>BJ f0 b ti to)(hA:A.handled=none)
  (k:∀h' tk e,Heap.NewAttrErr h h' e (-a) "keys"->Q none ⟨h',g,d,tk,os⟩):
  f' 85 A (getAttr? (-a) "keys") Q E ⟨h,g,d,t,os⟩:=by
 have f1:=oZ
 repeat (any_goals (first|assumption|(with_reducible show agl hx hA λh' tk e ne=>?_)|wp_step))
 let(t',u',he):=ne.there
 repeat (any_goals (first|(assumption)|(wp_step)))
 show k _ _ _ ne
def acj{b:Bool}{l1 l2 d z ti to i1 i2:cr}{us vs:Aae}{h0:nw}{pairs:List (Key×i5)}{R:UF->f8->Prop}(hA:A.handled=none)(D:IN z ti to i1 i2 l1 l2)(sx:h0.get? d=none)(n1:d≠z)(n2:d≠i1)(n3:d≠i2)(n4:d≠ti)
  (rL:mO b h0 l1 us.toArray) (lN:mO b h0 l2 vs.toArray) (hp:Paired 180 us pairs) (hv:vs=pairs.map (·.2)) (hsz:pairs.length<=dL) (g:Array No) (dr:Drawn) (os:xz)
  (k:∀h' tk,(∀b o,b≠z->b≠to->b≠i1->b≠i2->h0.get? b>o->h'.get? b>o)->h'.DictOf 76 d (On [] pairs)->R (.ok<|.ret .none) ⟨h',g,dr,tk,os⟩):
  ∀(m i:Nat)(h:nw)(tk:Nat)(T:cr),us.length -i=m->i<=us.length->(∀b o,b≠z->b≠to->b≠i1->b≠i2->h0.get? b>o->h.get? b>o)->T≠z->Zs b h z ti to i1 i2 l1 l2 T i->h.DictOf 76 d (On []<|pairs.take i)->
   C' 85 A (.builtin "dict.update.loop" {[-d,-z,v0 i,.none],[]}) R ⟨h,g,dr,tk,os⟩:=by
 ext m;have aar:∀(h:nw),(∀b o,b≠z->b≠to->b≠i1->b≠i2->h0.get? b>o->h.get? b>o)->mO b h l1 us.toArray/\mO b h l2 vs.toArray:=λh kp=>by show{rL.on λ_=>kp _ _ D.l1z D.l1TO D.l1i1 D.l1i2,lN.on λ_=>kp _ _ D.l2z D.l2TO D.l2i1 D.l2i2}
 induction m with
 |zero=>
  ext i h tk T em hi kp nT hz hd;have ei:i=us.length:=by lia
  show fw uk ?_;show ae (aaL (show(A.under _).handled=none from hA) D hz (aar h kp).1 (by rw[ei];simp) λh' hs=>?_);show ae<|ah 92;rw[ei,aV hp,bj]at hd;let(o,es,ep,e,r):=hd;show k h' _ (λb o m1 m2 m3 m4 hb=>hs b o m1 m3 m4<|kp b o m1 m2 m3 m4 hb) {o,es,ep,hs _ _ n1 n2 n3 e,r}
 |succ m ih=>
  ext i h tk T em hi kp nT hz hd;have cb:i<us.length:=by lia
  obtain⟨x,hx⟩:∃x,us[i]?>x:={_,au cb};let(kv,oM,Vy):=Paired.at' hp hx;show fw uk ?_;let(t1,t2):=aar h kp;show ae (aaM D nT hz t1 t2 (↑hx) (by simpa using(by rw[hv,aW,oM];rfl)) λh1 yc pr yf=>?_);let(od,es,ep,ed,rd):=hd;show ae<|bP<|ae<|zb ?_;show ae<|gX ⟨_,pr,rfl⟩ ?_;show ae<|cY pr 9 92;have lm:(On []<|pairs.take i).length<=dL:=by have e1:=qY []<|pairs.take i;rw[bo]at e1;simp only[jA]at e1;lia
  show bP (tE Vy ({od,es,ep,yf _ _ n1 n2 n3 ed,rd}) λh2 hd2 kT=>?_);show ah {hX _ 59,?_};have st:∀b o,b≠d->h1.get? b>o->h2.get? b>o:=λb o n e=>(kT.2 b n).trans e;have UZ:=λb o m1 m2 m3 m4 hb=>st b o (λe=>by rw[e,sx]at hb;cases hb)<|(λb o m1 m2 m3 m4 hb=>yf b o m1 m3 m4<|kp b o m1 m2 m3 m4 hb) b o m1 m2 m3 m4 hb;obtain⟨⟨c,gs⟩,⟨oT,gT⟩,gi,ja,jb⟩:=yc;have vF:Zs b h2 z ti to i1 i2 l1 l2 T (i+1):=by
   show{{c,st _ _ (cL n1) gs},?_,st _ _ (cL n4) gi,ja.on λ_=>st _ _<|cL n2,jb.on λ_=>st _ _<|cL n3};by_cases nd:T=d;·let(o',__,__,e',__):=hd2;rw[nd];show⟨o',e'⟩
   show{oT,st _ _ nd gT}
  show ih (i+1) h2 _ T ∅ cb UZ nT vF (by rw[wU [] pairs i kv oM];show hd2)
def Y7{b:Bool}{l1 l2 d z ti to i1 i2:cr}{us vs:Aae}{h0 h:nw}{tk:Nat}{pairs:List (Key×i5)}{R:UF->f8->Prop}(hA:A.handled=none)(D:IN z ti to i1 i2 l1 l2)(sx:h0.get? d=none)(n1:d≠z)(n2:d≠i1)(n3:d≠i2)(n4:d≠ti)(n5:d≠to)
  (rL:mO b h0 l1 us.toArray) (lN:mO b h0 l2 vs.toArray) (hp:Paired 180 us pairs) (hv:vs=pairs.map (·.2)) (hsz:pairs.length<=dL) (h1l:1<=us.length) (g:Array No) (dr:Drawn) (os:xz)
  (k:∀h' tk,(∀b o,b≠z->b≠to->b≠i1->b≠i2->h0.get? b>o->h'.get? b>o)->h'.DictOf 76 d (On [] pairs)->R (.ok<|.ret .none) ⟨h',g,dr,tk,os⟩)
  (kp:∀b o,b≠z->b≠to->b≠i1->b≠i2->h0.get? b>o->h.get? b>o) (hz:GE h z ti to .none) (hi:wS h ti (-i1) (-i2)) (ho:∃a b,wS h to a b) (j1:qo b h i1 l1 0) (j2:qo b h i2 l2 0) (hd:h.DictOf 76 d []):
   C' 85 A (.builtin "dict.update.loop" {[-d,-z,v0 0,.none],[]}) R ⟨h,g,dr,tk,os⟩:=by
 obtain⟨x,hx⟩:∃x,us[0]?>x:={_,au ∅};let(kv,oM,Vy):=Paired.at' hp hx;show fw uk ?_;show ae (aaQ D hz hi ho j1 j2 (rL.on λ_=>kp _ _ D.l1z D.l1TO D.l1i1 D.l1i2) (lN.on λ_=>kp _ _ D.l2z D.l2TO D.l2i1 D.l2i2) (↑hx) (by simpa using(by rw[hv,aW,oM];rfl)) λh1 a1 a3 a4 a5 yf=>?_);let(od,es,ep,ed,rd):=hd;show ae<|bP<|ae<|zb ?_;show ae<|gX ⟨_,a5,rfl⟩ ?_;show ae<|cY a5 9 92;show bP (tE Vy ({od,es,ep,yf _ _ n1 n5 n2 n3 ed,rd}) λh2 hd2 kT=>?_);show ah {hX _ 59,?_};have st:∀b o,b≠d->h1.get? b>o->h2.get? b>o:=λb o n e=>(kT.2 b n).trans e;have vF:Zs b h2 z ti to i1 i2 l1 l2 h.objs.size 1:=by
  show{{false,st _ _ (cL n1) a1},?_,st _ _ (cL n4)<|yf _ _ D.TIz D.TITO D.TIi1 D.TIi2 hi,a3.on λ_=>st _ _<|cL n2,a4.on λ_=>st _ _<|cL n3};by_cases nd:h.objs.size=d;·let(o',__,__,e',__):=hd2;rw[nd];show⟨o',e'⟩
  show{_,st _ _ nd a5}
 show acj hA D sx n1 n2 n3 n4 rL lN hp hv hsz g dr os k (us.length -1) 1 h2 _ h.objs.size rfl ∅ (λb o m1 m2 m3 m4 hb=>st b o (λe=>by rw[e,sx]at hb;cases hb)<|yf b o m1 m2 m3 m4<|kp b o m1 m2 m3 m4 hb) (cx<|aS hz) vF (by rw[wU [] pairs 0 kv oM];show hd2)
def afb{b:Bool}{l1 l2 d z ti to i1 i2:cr}{us vs:Aae}{h0 h:nw}{tk:Nat}{pairs:List (Key×i5)}{R:UF->f8->Prop}(hA:A.handled=none)(D:IN z ti to i1 i2 l1 l2)(sx:h0.get? d=none)(n1:d≠z)(n2:d≠i1)(n3:d≠i2)(n4:d≠ti)(n5:d≠to)
  (rL:mO b h0 l1 us.toArray) (lN:mO b h0 l2 vs.toArray) (hp:Paired 180 us pairs) (hv:vs=pairs.map (·.2)) (hsz:pairs.length<=dL) (g:Array No) (dr:Drawn) (os:xz)
  (k:∀h' tk,(∀b o,b≠z->b≠to->b≠i1->b≠i2->h0.get? b>o->h'.get? b>o)->h'.DictOf 76 d (On [] pairs)->R (.ok<|.ret .none) ⟨h',g,dr,tk,os⟩)
  (kp:∀b o,b≠z->b≠to->b≠i1->b≠i2->h0.get? b>o->h.get? b>o) (hz:GE h z ti to .none) (hi:wS h ti (-i1) (-i2)) (ho:∃a b,wS h to a b) (j1:qo b h i1 l1 0) (j2:qo b h i2 l2 0) (hd:h.DictOf 76 d []):
   C' 85 A (.builtin "dict.update.loop" {[-d,-z,v0 0,.none],[]}) R ⟨h,g,dr,tk,os⟩:=by
 by_cases h1l:1<=us.length;·show Y7 hA D sx n1 n2 n3 n4 n5 rL lN hp hv hsz h1l g dr os k kp hz hi ho j1 j2 hd
 have lp:=aV hp;have e1:us=[]:=d9.mp ∅;have e2:pairs=[]:=d9.mp ∅;subst e1 e2;show fw uk ?_;show ae (aaP (show(A.under _).handled=none from hA) D hz hi ho j1 j2 (rL.on λ_=>kp _ _ D.l1z D.l1TO D.l1i1 D.l1i2) (lN.on λ_=>kp _ _ D.l2z D.l2TO D.l2i1 D.l2i2) 84 λh' hs=>?_);show ae<|ah 92;let(o,es,ep,e,r):=hd;show k h' _ (λb o m1 m2 m3 m4 hb=>hs b o m1 m2 m3 m4<|kp b o m1 m2 m3 m4 hb) {o,es,ep,hs _ _ n1 n5 n2 n3 e,r}
def Y8{b:Bool}{l1 l2 z ti to i1 i2:cr}{us vs:Aae}{pairs:List (Key×i5)}{s:f8}{Q:Aac}(hA:A.handled=none)(D:IN z ti to i1 i2 l1 l2)
  (rL:mO b s.heap l1 us.toArray) (lN:mO b s.heap l2 vs.toArray) (hp:Paired 180 us pairs) (hv:vs=pairs.map (·.2)) (hsz:pairs.length<=dL)
  (hz:GE s.heap z ti to .none) (hi:wS s.heap ti (-i1) (-i2)) (ho:∃a b,wS s.heap to a b) (j1:qo b s.heap i1 l1 0) (j2:qo b s.heap i2 l2 0)
  (k:∀h' tk,(∀b o,b≠z->b≠to->b≠i1->b≠i2->s.heap.get? b>o->h'.get? b>o)->h'.DictOf 76 34 (On [] pairs)->Q (.ref 34) 77):
  f' 85 A (Go 14 [-z]) Q E s:=by
 show callType_codes (Q₁:=λv1 z1=>v1=.ref 34/\z1=222) F.kt_called_dict (A2 _) Ep (kt_code_dict_new _ ⟨rfl,rfl⟩) ?_;ext v1 z1 ⟨rfl,rfl⟩;let(ql,g,dr,tk,os):=s;have FL:(ql.push {cls:=.type "dict",data:=.dict #[]}).DictOf 76 ql.objs.size []:=yu ql;have yc:(ql.push {cls:=.type "dict",data:=.dict #[]}).get? z>BJ .none false ti to:=ao _ hz;show{FL.typeIs,Dx _ _,?_};show ae ?_;show ae<|iU FL.typeIs 92;change f' 85 _ (Builtin.Dict.updateFrom "dict.__init__" ql.objs.size (-z) [] .none) _ _ _;show ae<|gX ⟨_,yc,rfl⟩ ?_;show ae (acn yc hA λh2 tk2 e ne=>?_);show ae<|jU ?_;have kp:∀b o,ql.get? b>o->h2.get? b>o:=λb o hb=>ne.keeps _ _<|ao _ hb;have vF:=kp _ _ hz;show ae<|wy vF ?_;have hd2:h2.DictOf 76 ql.objs.size []:=by let(o',es,ep,h',r):=FL;show{o',es,ep,ne.keeps _ _ h',r}
 show ah {hX _ 59,?_};let(a,b',ho):=ho;let(oa,ja,ra):=j1;let(ob,jb,rb):=j2;have nz:∀{c:cr}{o:J'},ql.get? c>o->ql.objs.size≠c:=λe=>cx<|aS e;show afb (show A.in1.handled=none from hA) D (jC<|aw _) (nz hz) (nz ja) (nz jb) (nz hi) (nz ho) rL lN hp hv hsz g dr os (λh' KN Jp uU=>{9,k h' KN Jp uU}) (λb o _ _ _ _ hb=>kp b o hb) vF (kp _ _ hi) {a,b',kp _ _ ho} {oa,kp _ _ ja,ra} {ob,kp _ _ jb,rb} hd2
end
section
variable{X:Cx}
def aaO:∀{ks:List Key}{ys:Aam}{us vs:Aae},Vals (ks.map kV) us->Vals ys vs->ks.length=48->∃pairs:List (Key×i5),Paired (λ(u:i5)(p:Key×i5)=>(bZ P w).is p.1 u=true) us pairs/\vs=pairs.map (·.2)/\KV (ks.zip ys) pairs/\pairs.length=ks.length:=by
 ext ks ys us vs h g e
 induction ks generalizing ys us vs with
 |nil=>cases ys with
  |nil=>cases h;cases g;show{[],.nil,9,.nil,9}
  |cons=>cases e
 |cons k ks ih=>cases ys with
  |nil=>cases e
  |cons y ys=>
   cases h with
   |cons r1 t1=>cases g with
    |@cons _ v _ _ r2 t2=>
     let(ps,h1,h2,h3,h4):=ih t1 t2<|Nat.succ.inj e;show{(k,v)::ps,.cons (uB r1) h1,by rw[a9,<-h2],.cons ⟨rfl,r2⟩ h3,dX Nat.succ h4}
def SqX(b:Bool)(K:Frag)(H:Hp)(l:cr)(xs:Aam):Prop:=match b with
 |true=>bg K H l xs
 |false=>bA K H l xs
inductive afG(c:Bool)(K:Frag)(Q:VK)(vs:Aam)(H1:Hp):Prop
 |mk (l1 l2:cr) (ks:List Key) (ys:Aam) (_:vs=[-l1,-l2]) (_:SqX c K H1 l1 (ks.map kV)) (_:SqX c K H1 l2 ys) (_:ks.length=ys.length) (_:∀d,H1 d=none->Q (-d) (upd H1 d<|.dK<|sh []<|ks.zip ys))
def agx(c:Bool)(K:Frag)(ta:TA):TE:=λZ H Q=>ta Z H λvs H1=>afG c K Q vs H1
def SqX.has{X:Cx}{b:Bool}{bi:Aaa}{Z:St}{H:Hp}{s:f8}{l:cr}{xs:Aam}(I:Inv X bi Z H s)(h:SqX b X.K H l xs):∃is,Vals xs is/\mO b s.heap l is.toArray/\42<=dL:=by
 cases b
 ·show let⟨is,r,p,z⟩:=I.tuple h
   ⟨is,r,p,z⟩
 show let⟨is,r,p,z⟩:=I.list h
  {is,r,p.isList,z}
def adM{c:Bool}{a b:wv}{ta:TA}{p p2 pos HI:Gc}(hg:Gl X "dict")(hm:X.mg "dict"=none)(hg2:Gl X "zip")(Vx:X.mg "zip"=none)(hA:X.A.handled=none)(ha:PA X [a,b] ta)
  (hs:jp [a,b] X.env=[(false,wf a X.env),(false,wf b X.env)]:=by rfl) (kT:jp [b] X.env=[(false,wf b X.env)]:=by rfl) (Jt:jp [.Call (.Name "zip" p2) [a,b] [] HI] X.env=[(false,wf (.Call (.Name "zip" p2) [a,b] [] HI) X.env)]:=by rfl):
  PE X (.Call (.Name "dict" p) [.Call (.Name "zip" p2) [a,b] [] HI] [] pos) (agx c X.K ta):=by
 ext bi s Z H Q I h;show Hw<|sk I hg hm (by decide+kernel:FM "dict">.type "dict")<|eY ?_ Jt 9;show f9<|Hw<|sk I hg2 Vx boot_zip<|eY (qV (ha HI bi s Z H _ I h) λus s1 vs H1 I1 r1 q1=>?_) (by rw[hs,kT]) (by rw[kT];rfl);let(l1,l2,ks,ys,e,h1,h2,hkl,q):=q1;subst e;let(u1,u2,rfl,T1,TZ):=uw r1;cases T1;cases TZ;let(MA,Lr,Gy,yc):=h1.has I1;let(yb,rv2,LG,vF):=h2.has I1;let(pairs,vL,m8,mM,MP):=aaO Lr rv2 hkl;have b1:l1<22:=by let(o,e,__):=id Gy;show aS e
 have b2:l2<22:=by let(o,e,__):=id LG;show aS e
 have lz:ks.length<=dL:=by rw[af]at yc;show yc
 show aaR Gy LG λh' z0 z1 z2 z3 z4 kp=>?_;show kJ ?_;have l0:MA.length=ks.length:=by have:=Lr.length;rw[af]at this;show this.symm
 show Y8 hA (zipApart_new b1 b2) (Gy.on λ_=>kp _ _) (LG.on λ_=>kp _ _) vL m8 ∅ z0 z1 z2 z3 z4 λh2 tk UZ hd=>?_;have rel:=KV.merge mM .nil;have lzm:(sh []<|ks.zip ys).length<=dL:=by have e1:=qY [] pairs;rw[rel.length];simp only[jA]at e1;lia
 have kpA:∀c o,s1.heap.get? c>o->h2.get? c>o:=λc o e=>by have lc:=aS e;show UZ c o (aU<|bf lc<|gj _ _) (aU<|bf lc<|gj _ _) (aU lc) (aU<|bf lc<|gj _ _)<|kp c o e
 have ld:22<=h'.objs.size:=by show aR (gj _ 4)<|cy<|aS z0
 show{.ref h'.objs.size,_,I1.laid kpA ld<|CV lzm (cG.mpr<|cL<|aU<|bf I1.big ld) rel hd,9,q _<|I1.bC.fresh ld}
end
end L2
namespace Tb
open PySem PySem.SetTable
def S:Nat->Nat
 |0=>0
 |n+1=>5*S n+1
def F:Nat->Nat->Nat
 |0,i=>i
 |n+1,i=>5*F n i+1
theorem NY:∀n i,F n i=i+S n*(4*i+1)
 |0,i=>by simp[F,S]
 |n+1,i=>by change 5*F n i+1=i+(5*S n+1)*(4*i+1);rw[NY n i,uE,kB,mK];lia
def aaI(m:Nat):∀n i,F (m+n) i=F m (F n i):=by
 ext n i
 induction m with
 |zero=>simp[F]
 |succ m ih=>
  rw[show m+1+n=(m+n)+1 by lia];change 5*F (m+n) i+1=5*F m (F n i)+1;rw[ih]
def agr(n:Nat):S (n+n)=2*S n*(2*S n+1):=by have h:=aaI n n 0;rw[NY,NY n<|F n 0,NY n 0]at h;simp only[Nat.mul_zero,Nat.zero_add,Nat.mul_one]at h;rw[h];generalize S n=x;rw[mK,mK,show x*(4*x)=2*x*(2*x) by rw[vP,show(4:Nat)=2*2 from rfl,kB,kB,vP x 2 x]];lia
theorem aaG:∀k,∃c,S (2^k)=2^k*(2*c+1)
 |0=>{0,9}
 |k+1=>by
  let(c,hc):=aaG k;show{2*c*S (2^k)+c+S (2^k),?_};rw[show 2^(k+1)=2^k+2^k by rw[pN];lia,agr];generalize hs:S (2^k)=s at hc;have e:2*s*(2*s+1)=2*(2^k*(2*c+1))*(2*s+1):=by rw[<-hc]
  rw[e,<-Nat.two_mul,<-kB,kB<|2*2^k];congr 1;rw[uE,mK,mK,mK];have:2*c*(2*s)=2*(2*c*s):=by rw[vP]
  lia
theorem cover:∀(k i j:Nat),∃n,n<2^k/\F n i % 2^k=j % 2^k
 |0=>λi j=>{0,7,by simp[Nat.mod_one]}
 |k+1=>λi j=>by
  let(n,hn,e):=cover k i j;rw[pN];by_cases c:F n i/2^k % 2=j/2^k % 2;·show{n,8,by rw[yU,yU,e,c]}
  let(z,hz):=aaG k;show{2^k+n,8,?_};have e2:F (2^k+n) i=F n i+2^k*(2*(z*(4*F n i+1)+2*F n i)+1):=by rw[aaI,NY<|2^k,hz,kB];congr 2;rw[uE,Fl,kB];lia
  rw[e2,yU,yU,Nat.add_mul_mod_self_left,Nat.add_mul_div_left _ _<|Nat.two_pow_pos k,e];congr 2;lia
def Ff(mask:Nat)(p:Probe):Probe:=
 if p.more⊃0 then{p with j:=p.j+1,more:=p.more -1}else
 {p with j:=(leap mask p.i p.perturb).1,more:=runEnd mask (leap mask p.i p.perturb).1 -(leap mask p.i p.perturb).1,i:=(leap mask p.i p.perturb).1,perturb:=(leap mask p.i p.perturb).2}
abbrev OP(mask i q:Nat):Probe:={j:=i,more:=runEnd mask i -i,i:=i,perturb:=q,dummy:=none}
def pr(mask:Nat)(h:Int):Nat->Probe
 |0=>OP mask (bits h %(mask+1))<|bits h
 |d+1=>Ff mask<|pr mask h d
def Xz(t:SetTable)(h:Int):t.probeStart h=pr t.mask h 0:=9
def ps(mask:Nat)(h:Int)(d:Nat):Nat:=(pr mask h d).j
def lp(mask:Nat)(h:Int):Nat->Nat×Nat
 |0=>(bits h %(mask+1),bits h)
 |n+1=>leap mask (lp mask h n).1 (lp mask h n).2
def run(mask i:Nat):Nat:=runEnd mask i -i
def Tn(mask:Nat)(h:Int):Nat->Nat
 |0=>0
 |n+1=>Tn mask h n+run mask (lp mask h n).1+1
def adC(mask i:Nat):run mask i<=09:=by unfold run runEnd;split<;>lia
theorem aaF(mask:Nat)(h:Int):∀n,Tn mask h n<=10*n
 |0=>aw _
 |n+1=>by have:=aaF mask h n;have:=adC mask (lp mask h n).1;change Tn mask h n+run mask (lp mask h n).1+1<=_;lia
def abz(mask:Nat)(h:Int):∀n,pr mask h (Tn mask h n)=OP mask (lp mask h n).1 (lp mask h n).2/\∀e,e<=run mask (lp mask h n).1->pr mask h (Tn mask h n+e)={j:=(lp mask h n).1+e,more:=run mask (lp mask h n).1 -e,i:=(lp mask h n).1,perturb:=(lp mask h n).2,dummy:=none}:=by
 have TX:∀n,pr mask h (Tn mask h n)=OP mask (lp mask h n).1 (lp mask h n).2->∀e,e<=run mask (lp mask h n).1->pr mask h (Tn mask h n+e)={j:=(lp mask h n).1+e,more:=run mask (lp mask h n).1 -e,i:=(lp mask h n).1,perturb:=(lp mask h n).2,dummy:=none}:=by
  ext n h0 e
  induction e with
  |zero=>ext _;rw[sP,h0];rfl
  |succ e ih=>
   ext he;change Ff mask (pr mask h<|Tn mask h n+e)=_;rw[ih ∅];unfold Ff;rw[aN (show run mask (lp mask h n).1 -e⊃0 by lia)];congr 1
 ext n
 induction n with
 |zero=>show{9,TX 0 rfl}
 |succ n ih=>
  have h1:pr mask h (Tn mask h<|n+1)=OP mask (lp mask h<|n+1).1 (lp mask h<|n+1).2:=by change Ff mask (pr mask h<|Tn mask h n+run mask (lp mask h n).1)=_;rw[ih.2 _<|aw _];unfold Ff;rw[aL 84];rfl
  show{h1,TX _ h1}
def Gx{mask:Nat}(he:e<=run mask (lp mask h n).1):ps mask h (Tn mask h n+e)=(lp mask h n).1+e:=by unfold ps;rw[(abz mask h n).2 e he]
theorem af0(mask:Nat)(h:Int):∀n,(lp mask h n).1<mask+1
 |0=>qd _<|xp _
 |n+1=>qd _<|xp _
theorem aed(mask:Nat)(h:Int):∀n,(lp mask h n).2=bits h/32^n
 |0=>by simp[lp]
 |n+1=>by change(lp mask h n).2/32=_;rw[aed mask h n,Nat.div_div_eq_div_mul,pN]
def acz(h:Int):bits h<2^64:=by unfold bits;lia
theorem Pt{mask k:Nat}(hk:mask+1=2^k)(h:Int):∀n,(lp mask h<|13+n).1=F n (lp mask h 13).1 % 2^k
 |0=>by have:=af0 mask h 13;change(lp mask h 13).1=(lp mask h 13).1 % 2^k;rw[Nat.mod_eq_of_lt ∅]
 |n+1=>by
  change((lp mask h<|13+n).1*5+1+(lp mask h<|13+n).2/32) %(mask+1)=(5*F n (lp mask h 13).1+1) % 2^k;have q0:(lp mask h<|13+n).2/32=0:=by rw[aed];have h2:32^13<=32^(13+n):=AX 7 ∅;rw[Nat.div_eq_of_lt (show bits h<32^(13+n)from bf (gA (acz h) 7) h2)]
  rw[q0,Pt hk h n,hk,sP,Nat.add_mod,Nat.mul_mod,Nat.mod_mod,<-Nat.mul_mod,<-Nat.add_mod,Nat.mul_comm]
def hits{mask k:Nat}(hk:mask+1=2^k)(h:Int)(hj:j<=mask):∃n,n<=13+mask/\(lp mask h n).1=j/\ps mask h (Tn mask h n)=j:=by let(n,hn,e):=cover k (lp mask h 13).1 j;have e2:=Pt hk h n;rw[e,Nat.mod_eq_of_lt ∅]at e2;show{13+n,8,e2,?_};have:=Gx (mask:=mask) (h:=h) (n:=13+n)<|aQ _;rw[sP,sP]at this;rw[this,e2]
def Q6{mask:Nat}:ps mask h d<=mask:=by
 have key:∀d,(pr mask h d).j+(pr mask h d).more<=mask:=by
  have base:∀i q,i<mask+1->(OP mask i q).j+(OP mask i q).more<=mask:=λi q hi=>by change i+(runEnd mask i -i)<=mask;unfold runEnd;split<;>lia
  ext d
  induction d with
  |zero=>show base _ _<|qd _<|xp _
  |succ d ih=>
   change(Ff mask<|pr mask h d).j+(Ff mask<|pr mask h d).more<=mask;unfold Ff;split;·change(pr mask h d).j+1+((pr mask h d).more -1)<=mask;lia
   show base _ 0<|qd _<|xp _
 have:=key d;unfold ps;lia
def least{p:Nat->Prop}:∀{n},p n->∃m,m<=n/\p m/\∀e,e<m->¬p e:=by
 ext n
 induction n using Nat.strongRecOn with
 |ind n ih=>
  ext hn;by_cases c:∃e,e<n/\p e;·let(e,he,pe):=c;let(m,h1,h2,h3):=ih e he pe;show{m,8,h2,h3}
  show{n,aw _,hn,λe he pe=>c ⟨e,he,pe⟩}
def oy(xs:Array Nat):Prop:=∀i k,i<k->k<xs.size->xs.getD i 0<xs.getD k 0
def YX{xs:Array Nat}(h:i<xs.size):xs.getD i a=xs.getD i b:=by simp[Array.getD,h]
def getD_some{xs:Array Nat}:xs[i]?>j↔i<xs.size/\xs.getD i 0=j:=by
 constructor;·ext e;let(h,e):=fu.mp e;show{h,by simp[Array.getD,h,e]}
 ext⟨h,e⟩;simpa[Array.getD,h]using e
theorem FX(hr:oy xs)(j:Nat):∀(f lo hi:Nat),lo<=hi->hi<=xs.size->hi -lo<=f->(∀i,i<lo->xs.getD i 0<j)->(∀i,hi<=i->i<xs.size->j<=xs.getD i 0)->
  below.go xs j f lo hi<=xs.size/\(∀i,i<below.go xs j f lo hi->xs.getD i 0<j)/\∀i,below.go xs j f lo hi<=i->i<xs.size->j<=xs.getD i 0
 |0=>λlo hi h1 h2 h3 h4 h5=>by change lo<=xs.size/\(∀i,i<lo->xs.getD i 0<j)/\∀i,lo<=i->i<xs.size->j<=xs.getD i 0;show{8,h4,λi a b=>h5 i ∅ b}
 |f+1=>λlo hi h1 h2 h3 h4 h5=>by
  unfold below.go;by_cases c:lo<hi
  ·simp only[aN c];have hm:(lo+hi)/2<xs.size:=by lia
   rw[YX (b:=0) hm];by_cases d:xs.getD ((lo+hi)/2) 0<j
   ·simp only[aN d];show FX hr j f _ _ ∅ h2 ∅ (λi hi'=>?_) h5;by_cases e:i=(lo+hi)/2;·rw[e];show d
    show gA (hr i _ ∅ hm) d
   simp only[aL d];show FX hr j f _ _ ∅ ∅ ∅ h4 λi a b=>?_;by_cases e:i=(lo+hi)/2;·rw[e];lia
   have:=hr ((lo+hi)/2) i ∅ b;lia
  simp only[aL c];show{8,h4,λi a b=>h5 i ∅ b}
def wc(hr:oy xs)(j:Nat):below xs j<=xs.size/\(∀i,i<below xs j->xs.getD i 0<j)/\∀i,below xs j<=i->i<xs.size->j<=xs.getD i 0:=
 FX hr j xs.size 0 xs.size (aQ _) (aw _) ∅ (λi h=>absurd h<|fX _) λi a b=>by lia
def below_at(hr:oy xs)(e:xs[i]?>j):below xs j=i:=by
 let(h1,h2,h3):=wc hr j;let(hi,e):=getD_some.mp e;rcases mT (below xs j) i with c|c|c;·have:=h3 _ (aw _) ∅;have:=hr _ _ c hi;lia
 ·show c
 have:=h2 i c;lia
def IH{t:SetTable}(hr:oy t.place)(e:t.place[i]?>j):t.slot j=.live i:=by unfold SetTable.slot;rw[below_at hr e];simp[e]
def TH{t:SetTable}(hd:t.dummies=#[])(e:∀i:Nat,t.place[i]?≠some j):t.slot j=.empty:=by unfold SetTable.slot;rw[aL (λh=>e _<|d8 h),hd];rw[aL (by simp[has])]
def Sh{mask:Nat}(hr:oy xs)(hs:xs.size<=mask):∃j:Nat,j<=mask/\∀i:Nat,xs[i]?≠some j:=by
 by_cases c:∃j:Nat,j<=mask/\∀i:Nat,xs[i]?≠some j;·show c
 exfalso;have all:∀j:Nat,j<=mask->∃i:Nat,xs[i]?>j:=λj hj=>kR λn=>c {j,hj,λi e=>n ⟨i,e⟩};have key:∀m:Nat,m<=mask->xs[m]?>m:=by
  ext m
  induction m using Nat.strongRecOn with
  |ind m ih=>
   ext hm;let(i,e):=all m hm;rcases mT i m with q|q|q;·have:=ih i q ∅;rw[this]at e;cases e;lia
   ·rw[<-q];rw[q]at e⊢;show e
   let(hi,ei):=getD_some.mp e;have h1:=hr m i q hi;have h2:m<=xs.getD m 0:=by
    cases m with
    |zero=>show aQ _
    |succ m=>
     let(__,e3):=getD_some.mp<|ih m ∅ ∅;have:=hr m (m+1) ∅ ∅;lia
   lia
 let(h,__):=getD_some.mp<|key mask<|aw _;lia
structure Tab(t:SetTable)(hs:List Int):Prop where
 pow:∃k,t.mask+1=2^k
 big:07<=t.mask
 Wb:t.dummies=#[]
 rise:oy t.place
 sz:t.place.size=hs.length
 jk:hs.length<=t.mask
 le:∀i j:Nat,t.place[i]?>j->j<=t.mask
 reach:∀(i:Nat)(h:Int),hs[i]?>h->∃d,t.place[i]?>ps t.mask h d/\∀e,e<d->∃i':Nat,t.place[i']?>ps t.mask h e
def Tab.fits(T:Tab t hs):t.fits hs.length=true:=by unfold SetTable.fits SetTable.fill;have h1:=T.sz;have h2:=T.jk;rw[T.Wb,h1];simp[h2]
def Tab.way(T:Tab t hs):t.gaveWay=false:=by
 let(k,hk):=T.pow;have:=T.big;unfold SetTable.gaveWay;cases k with
 |zero=>rw[Nat.pow_zero]at hk;lia
 |succ k=>rw[pN]at hk;simp;lia
def Tab.fresh(finger moves:Nat)(led:Bool):Tab (.fresh finger moves led) [] where
 pow:={3,9}
 big:=aw 07
 Wb:=9
 rise:=λi k _ h=>absurd h<|fX _
 sz:=9
 jk:=aQ _
 le:=λi j e=>by simp[SetTable.fresh]at e
 reach:=λi h e=>by simp at e
structure SI(t:SetTable)(h:Int)(D:Nat):Prop where
 lt:D<10*turns t.mask
 no:∀i:Nat,t.place[i]?≠some 45
 ahead:∀e,e<D->∃i:Nat,t.place[i]?>ps t.mask h e
def Tab.free(T:Tab t hs)(h:Int):∃D,SI t h D:=by let(k,hk):=T.pow;let(j,hj,hn):=Sh T.rise (show t.place.size<=t.mask by rw[T.sz];show T.jk);let(n,hn1,__,e):=hits hk h hj;let(D,h1,h2,h3):=least (p:=λd=>∀i:Nat,t.place[i]?≠some (ps t.mask h d)) (n:=Tn t.mask h n) (by rw[e];show hn);have:=aaF t.mask h n;show{D,by unfold turns;lia,h2,λe he=>kR λq=>h3 e he λi z=>q ⟨i,z⟩}
theorem LD(mask:Nat)(h:Int):∀d,(pr mask h d).dummy=none
 |0=>rfl
 |d+1=>by change(Ff mask<|pr mask h d).dummy=none;unfold Ff;split<;>show LD mask h d
def Tab.live(T:Tab t hs){i j:Nat}(e:t.place[i]?>j):∃h,hs[i]?>h:=by let(hi,__):=getD_some.mp e;rw[T.sz]at hi;show{_,au hi}
theorem LC(T:Tab t hs)(fr:SI t h D)(ha:∀(i:Nat)(g:Int),hs[i]?>g->hashAt i=g):∀(f d:Nat),d<=D->D -d<f->
  (probe.go t hashAt h f (pr t.mask h d)>.empty 45 none/\∀e,d<=e->e<D->∀i:Nat,t.place[i]?>ps t.mask h e->hs[i]?≠some h)\/
  ∃e i,d<=e/\e<D/\t.place[i]?>ps t.mask h e/\hs[i]?>h/\probe.go t hashAt h f (pr t.mask h d)>.candidate (ps t.mask h e) i (pr t.mask h<|e+1)/\∀e',d<=e'->e'<e->∀i':Nat,t.place[i']?>ps t.mask h e'->hs[i']?≠some h
 |0=>λd _ hf=>absurd hf<|fX _
 |f+1=>λd hd hf=>by
  unfold probe.go;by_cases c:d=D;·subst c;have e:t.slot (pr t.mask h d).j=.empty:=TH T.Wb fr.no;rw[e];show .inl {?_,λe a b=>by lia};change some (Met.empty (ps t.mask h d) (pr t.mask h d).dummy)=_;rw[LD]
  let(i,hi):=fr.ahead d ∅;have e:t.slot (pr t.mask h d).j=.live i:=IH T.rise hi;rw[e];let(g,hg):=T.live hi;have hu:∀i':Nat,t.place[i']?>ps t.mask h d->i'=i:=λi' q=>by rw[<-below_at T.rise q,<-below_at T.rise hi]
  by_cases c2:hashAt i=h
  ·show .inr {d,i,aw _,8,hi,?_,?_,λe' a b=>by lia};·rw[ha i g hg]at c2;rw[hg,c2]
   change(if(hashAt i==h)=true then some (Met.candidate (ps t.mask h d) i<|t.advance<|pr t.mask h d)else probe.go t hashAt h f (t.advance<|pr t.mask h d))=_;rw[aN<|c2▸BEq.rfl];rfl
  have no:∀i':Nat,t.place[i']?>ps t.mask h d->hs[i']?≠some h:=λi' q z=>by rw[hu i' q]at z;show c2<|ha i h z
  have eq:(if(hashAt i==h)=true then some (Met.candidate (ps t.mask h d) i<|t.advance<|pr t.mask h d)else probe.go t hashAt h f (t.advance<|pr t.mask h d))=probe.go t hashAt h f (pr t.mask h<|d+1):=by rw[aL<|↑c2];rfl
  rcases(LC T fr ha f (d+1) ∅ ∅)with⟨h1,h2⟩|⟨e,i2,h1,h2,h3,h4,h5,h6⟩
  ·show .inl {eq.trans h1,λe a b i' q=>?_};by_cases z:e=d;·rw[z]at q;show no i' q
   show h2 e ∅ b i' q
  show .inr {e,i2,8,h2,h3,h4,eq.trans h5,λe' a b i' q=>?_};by_cases z:e'=d;·rw[z]at q;show no i' q
  show h6 e' ∅ b i' q
def mI(l:List α)(p:Nat)(x:α):List α:=l.take p++x::l.drop p
def MC(l:List α)(x:α)(hp:p<=l.length)(i:Nat):(mI l p x)[i]?=if i<p then l[i]? else if i=p then some x else l[i -1]?:=by
 unfold mI;by_cases c:i<p;·rw[aN c,kQ (by rw[bo];lia),xu c]
 rw[aL c,iL (by rw[bo];lia),bo,jy hp];by_cases c2:i=p;·rw[aN c2,c2,Di];rfl
 rw[aL c2,show i -p=(i -p -1)+1 by lia,List.getElem?_cons_succ,List.getElem?_drop];congr 1;lia
def yL(l:List α)(x:α)(hp:p<=l.length):(mI l p x).length=l.length+1:=by unfold mI;rw[aG,bJ,bo,fG];lia
def Va(l:List α)(p:Nat)(x:α):(mI l p x).Perm (x::l):=by show List.perm_middle.trans ?_;rw[d5]
def MB(f:α->β)(l:List α)(p:Nat)(x:α):(mI l p x).map f=mI (l.map f) p (f x):=by unfold mI;simp
def so(xs:Array α)(p:Nat)(x:α):(insertAt xs p x).toList=mI xs.toList p x:=by unfold insertAt mI;simp[cS]
def oy.of_get(h:∀i k a b:Nat,i<k->xs[i]?>a->xs[k]?>b->a<b):oy xs:=λi k MU hk=>
 h i k _ _ MU (getD_some.mpr {8,9}) (getD_some.mpr ⟨hk,rfl⟩)
def oy.get(h:oy xs){i k a b:Nat}(MU:i<k)(ha:xs[i]?>a)(hb:xs[k]?>b):a<b:=by let(h1,e1):=getD_some.mp ha;let(h2,e2):=getD_some.mp hb;have:=h i k MU h2;lia
def B7{t:SetTable}(hr:oy t.place)(j i:Nat):(t.put j).1.place[i]?=if i<below t.place j then t.place[i]? else if i=below t.place j then some j else t.place[i -1]?:=by change(insertAt t.place (below t.place j) j)[i]?=_;rw[<-cA,so,MC _ _ (by rw[aZ];show(wc hr j).1)];simp only[cA]
def HH{t:SetTable}(hr:oy t.place){i v:Nat}(e:t.place[i]?>v):∃i':Nat,(t.put j).1.place[i']?>v:=by
 by_cases c:i<below t.place j;·show{i,by rw[B7 hr,aN c,e]}
 show{i+1,by rw[B7 hr,aL ∅,aL ∅,Nat.add_sub_cancel,e]}
def Tab.put(T:Tab t hs)(fr:SI t h D)(room:hs.length+1<=t.mask):Tab (t.put 45).1 (mI hs (t.put 45).2 h):=by
 have hb:=wc T.rise 45;have hp:(t.put 45).2=below t.place 45:=9;have vL:below t.place 45<=hs.length:=by rw[<-T.sz];show hb.1
 rw[hp];have pl:=λi=>B7 T.rise 45 i;have hl:=MC hs h vL;have at_:(t.put 45).1.place[below t.place 45]?>ps t.mask h D:=by rw[pl,aL<|da _,aN rfl]
 have lo:∀i a:Nat,i<below t.place 45->t.place[i]?>a->a<ps t.mask h D:=λi a c e=>by let(__,e):=getD_some.mp e;have:=hb.2.1 i c;lia
 have hi:∀i a:Nat,below t.place 45<=i->t.place[i]?>a->ps t.mask h D<a:=λi a c e=>by let(l,e'):=getD_some.mp e;have:=hb.2.2 i c l;have ne:a≠ps t.mask h D:=λz=>fr.no i (by rw[e,z]);lia
 show{T.pow,T.big,?_,?_,?_,?_,λi j e=>?_,λi g e=>?_};·change(if has t.dummies 45=true then _ else t.dummies)=_;rw[T.Wb];simp[has]
 ·show oy.of_get λi k a b MU ha gm=>?_;rw[pl]at ha gm;by_cases c1:i<below t.place 45
  ·rw[aN c1]at ha;by_cases c2:k<below t.place 45;·rw[aN c2]at gm;show T.rise.get MU ha gm
   rw[aL c2]at gm;by_cases c3:k=below t.place 45;·rw[aN c3]at gm;cases gm;show lo i a c1 ha
   rw[aL c3]at gm;show gA (lo i a c1 ha)<|hi _ b ∅ gm
  rw[aL c1]at ha;rw[aL ∅,aL ∅]at gm;by_cases c3:i=below t.place 45;·rw[aN c3]at ha;cases ha;show hi _ b ∅ gm
  rw[aL c3]at ha;show T.rise.get ∅ ha gm
 ·rw[yL _ _ vL,<-T.sz,<-aZ];change(insertAt t.place (below t.place 45) 45).toList.length=_;rw[so,yL _ _ (by rw[aZ];show hb.1),aZ]
 ·rw[yL _ _ vL];show room
 ·rw[pl]at e;by_cases c1:i<below t.place 45;·rw[aN c1]at e;show T.le i j e
  rw[aL c1]at e;by_cases c3:i=below t.place 45;·rw[aN c3]at e;cases e;show Q6
  rw[aL c3]at e;show T.le _ j e
 have mk:(t.put 45).1.mask=t.mask:=9;rw[mk];rw[hl]at e;by_cases c1:i<below t.place 45;·rw[aN c1]at e;let(d,h1,h2):=T.reach i g e;show{d,by rw[pl,aN c1];show h1,λx hx=>let⟨_,q⟩:=h2 x hx;HH T.rise q}
 rw[aL c1]at e;by_cases c3:i=below t.place 45;·rw[aN c3]at e;cases e;show{D,by rw[c3];show at_,λx hx=>let⟨_,q⟩:=fr.ahead x hx;HH T.rise q}
 rw[aL c3]at e;let(d,h1,h2):=T.reach _ g e;show{d,by rw[pl,aL c1,aL c3];show h1,λx hx=>let⟨_,q⟩:=h2 x hx;HH T.rise q}
def Tab.of_eq(T:Tab t hs)(h1:t'.mask=t.mask)(h2:t'.place=t.place)(h3:t'.dummies=t.dummies):Tab t' hs:=by let(a1,a2,a3,a4,a5,a6,a7,a8):=T;rw[<-h1]at a1 a2 a6 a7 a8;rw[<-h2]at a4 a5 a7 a8;rw[<-h3]at a3;show⟨a1,a2,a3,a4,a5,a6,a7,a8⟩
structure Own(mask:Nat)(ow:Array (Option Nat))(hs:List Int):Prop where
 sz:ow.size=mask+1
 lt:∀j i:Nat,ow[j]?>some i->i<hs.length
 inj:∀j j' i:Nat,ow[j]?>some i->ow[j']?>some i->j=j'
 at_:∀(i:Nat)(h:Int),hs[i]?>h->∃d,ow[ps mask h d]?>some i/\∀e,e<d->∃i':Nat,ow[ps mask h e]?>some i'
def Own.empty{mask:Nat}(O:Own mask ow hs)(jk:hs.length<=mask):∃j:Nat,j<=mask/\ow[j]?>none:=by
 by_cases c:∃j:Nat,j<=mask/\ow[j]?>none;·show c
 exfalso;have all:∀j:Nat,j<=mask->ow[j]?>some ((ow.getD j none).getD 0):=λj hj=>by
  have hl:j<ow.size:=by rw[O.sz];lia
  have e:ow[j]?>ow.getD j none:=by rw[bU hl];simp[Array.getD,hl]
  cases q:ow.getD j none with
  |none=>show(c {j,hj,by rw[e,q]}).elim
  |some i=>rw[e,q];rfl
 have nd:((List.range<|mask+1).map λj=>(ow.getD j none).getD 0).Nodup:=by
  show qw.mpr<|List.Pairwise.imp_of_mem (λ{a b} ha hb ne e=>ne<|O.inj a b _ (all a ?_)<|e▸all b ?_) List.nodup_range;·have:=cZ.mp ha;lia
  have:=cZ.mp hb;lia
 have sub:((List.range<|mask+1).map λj=>(ow.getD j none).getD 0)⊆List.range hs.length:=λx hx=>by let(j,hj,rfl):=aD.mp hx;have:=cZ.mp hj;show cZ.mpr<|O.lt j _<|all j ∅
 have:=List.Nodup.length_le_of_subset nd sub;rw[af,jI,jI]at this;lia
def acH(mask:Nat)(h:Int)(hmn:m<=n):Tn mask h m<=Tn mask h n:=by
 induction n with
 |zero=>rw[Fn.mp hmn];show aw _
 |succ n ih=>
  by_cases c:m=n+1;·rw[c];show aw _
  have:=ih ∅;change _<=Tn mask h n+run mask (lp mask h n).1+1;lia
def abn(mask i:Nat):runEnd mask i+1 -i=run mask i+1:=by unfold run runEnd;split<;>lia
theorem Qi{mask:Nat}(hD:ow[ps mask h D]?>none)(hb:∀e,e<D->∃i':Nat,ow[ps mask h e]?>some i')(hn0:D<=Tn mask h n0):∀(f n:Nat),Tn mask h n<=D->n0 -n<f->layClean.free mask ow f (lp mask h n).1 (lp mask h n).2>ps mask h D
 |0=>λn _ hf=>absurd hf<|fX _
 |f+1=>λn hn hf=>by
  have own:∀e,e<=run mask (lp mask h n).1->Tn mask h n+e<D->(ow.getD ((lp mask h n).1+e)<|some 0).isNone=false:=λe he cb=>by let(i',q):=hb _ cb;rw[Gx he]at q;let(l,q):=fu.mp q;simp[Array.getD,l,q]
  unfold layClean.free;rw[abn];by_cases c:D<=Tn mask h n+run mask (lp mask h n).1
  ·have e1:(List.range<|run mask (lp mask h n).1+1).find? (λk=>(ow.getD ((lp mask h n).1+k)<|some 0).isNone)>(D -Tn mask h n):=by
    show List.find?_range_eq_some.mpr {?_,cZ.mpr ∅,λj hj=>?_};·have q:=hD;rw[show D=Tn mask h n+(D -Tn mask h n) by lia,Gx ∅]at q;let(l,q):=fu.mp q;simp[Array.getD,l,q]
    rw[own j ∅ ∅];rfl
   simp only[e1];rw[<-Gx ∅,show Tn mask h n+(D -Tn mask h n)=D by lia]
  have e1:(List.range<|run mask (lp mask h n).1+1).find? (λk=>(ow.getD ((lp mask h n).1+k)<|some 0).isNone)=none:=by show List.find?_range_eq_none.mpr λj hj=>?_;rw[own j ∅ ∅];rfl
  simp only[e1];have lt:n<n0:=by
   rcases Dj n n0 with q|q;·show q
   have:=acH mask h q;lia
  show Qi hD hb hn0 f (n+1) (by change Tn mask h n+run mask (lp mask h n).1+1<=D;lia) ∅
abbrev zK(mask:Nat)(acc:Option (Array (Option Nat)×Nat))(h:Int):Option (Array (Option Nat)×Nat):=do
  let(owner,k)<-acc
  let j<-layClean.free mask owner (turns mask) (bits h %(mask+1)) (bits h)
  pure (owner.setIfInBounds j<|some k,k+1)
def Oi(mask:Nat)(hashes:Array Int):layClean mask hashes=(hashes.toList.foldl (zK mask)<|some (Array.replicate (mask+1) none,0)).map (·.1):=by rw[Array.foldl_toList];rfl
def Own.step{mask k:Nat}(hk:mask+1=2^k)(O:Own mask ow hs)(jk:hs.length<mask)(h:Int):∃Um,zK mask (some (ow,hs.length)) h>(Um,hs.length+1)/\Own mask Um (hs++[h]):=by
 let(j,hj,ej):=O.empty<|cy jk;let(n0,hn0,__,e0):=hits hk h hj;let(D,h1,h2,h3):=least (p:=λd=>ow[ps mask h d]?>none)<|e0▸ej;have hb:∀e,e<D->∃i':Nat,ow[ps mask h e]?>some i':=λe he=>by
  have l:ps mask h e<ow.size:=by rw[O.sz];have:=Q6 (mask:=mask) (h:=h) (d:=e);lia
  cases q:ow[ps mask h e]with
  |none=>show(h3 e he (by rw[bU l,q])).elim
  |some i=>show{i,by rw[bU l,q]}
 have ef':layClean.free mask ow (turns mask) (bits h %(mask+1)) (bits h)>ps mask h D:=Qi h2 hb h1 (turns mask) 0 (aQ _) (by unfold turns;lia);show{ow.setIfInBounds (ps mask h D)<|some hs.length,by simp[zK,ef'],?_};have get:∀x:Nat,(ow.setIfInBounds (ps mask h D)<|some hs.length)[x]?=if x=ps mask h D then some (some hs.length)else ow[x]?:=λx=>by
  rw[Array.getElem?_setIfInBounds];by_cases c:x=ps mask h D;·rw[aN c,aN c.symm,aN (by rw[O.sz];have:=Q6 (mask:=mask) (h:=h) (d:=D);lia)]
  rw[aL c,aL<|cL c]
 have keep:∀x i:Nat,ow[x]?>some i->(ow.setIfInBounds (ps mask h D)<|some hs.length)[x]?>some i:=λx i e=>by rw[get,aL λz=>by rw[z,h2]at e;cases e];show e
 show{by simp[O.sz],λx i e=>?_,λx y i ex ey=>?_,λi g e=>?_}
 ·rw[get]at e;rw[aG,gW];by_cases c:x=ps mask h D;·rw[aN c]at e;cases e;lia
  rw[aL c]at e;have:=O.lt x i e;lia
 ·rw[get]at ex ey;by_cases c:x=ps mask h D
  ·rw[aN c]at ex;cases ex;by_cases c2:y=ps mask h D;·rw[c,c2]
   rw[aL c2]at ey;show absurd (O.lt y _ ey)<|da _
  rw[aL c]at ex;by_cases c2:y=ps mask h D;·rw[aN c2]at ey;cases ey;show absurd (O.lt x _ ex)<|da _
  rw[aL c2]at ey;show O.inj x y i ex ey
 by_cases c:i<hs.length;·rw[kQ c]at e;let(d,q1,q2):=O.at_ i g e;show{d,keep _ _ q1,λx hx=>let⟨i',q⟩:=q2 x hx;{i',keep _ _ q}}
 rw[iL ∅]at e;have ei:i=hs.length:=by
  rcases mT i hs.length with q|q|q;·lia
  ·show q
  rw[je (by rw[gW];lia)]at e;cases e
 subst ei;rw[Di]at e;cases e;show{D,by rw[get,aN rfl],λx hx=>let⟨i',q⟩:=hb x hx;{i',keep _ _ q}}
theorem LR{mask k:Nat}(hk:mask+1=2^k):∀(rest:List Int)(ow:Array (Option Nat))(hs:List Int),Own mask ow hs->(hs++rest).length<=mask->∃Um,rest.foldl (zK mask) (some (ow,hs.length))>(Um,(hs++rest).length)/\Own mask Um (hs++rest)
 |[]=>λow hs O _=>{ow,84,by simpa using O}
 |h::rest=>λow hs O jk=>by rw[aG,bJ]at jk;let(ow1,e1,O1):=O.step hk ∅ h;let(ow2,e2,O2):=LR hk rest ow1 (hs++[h]) O1 (by rw[aG,aG,gW];lia);rw[cH]at e2 O2;show{ow2,?_,O2};rw[gJ,e1];rw[aG,gW]at e2;show e2
def ab8{mask k:Nat}(hk:mask+1=2^k)(big:07<=mask)(finger moves:Nat)(led plain:Bool)(hs:List Int)(jk:hs.length<=mask):
  ∃t order,laid mask finger moves led plain hs.toArray>(t,order)/\t.mask=mask/\t.finger=finger/\t.led=led/\t.moves=moves/\t.plain=plain/\order.toList.Perm (List.range hs.length)/\Tab t (order.toList.map λi=>hs.getD i 0):=by
 have O0:Own mask (Array.replicate (mask+1) none) []:={84,λj i e=>by simp[xD]at e,λj j' i e=>by simp[xD]at e,λi h e=>by simp at e};let(ow,e,O):=LR hk hs _ _ O0<|↑jk;rw[iE]at e O;have el:layClean mask hs.toArray>ow:=by rw[Oi];have e':(hs.toArray.toList.foldl (zK mask)<|some (Array.replicate (mask+1) none,0))>(ow,hs.length):=e;rw[e'];rfl
 obtain⟨live,hlv⟩:∃live,live=(List.range<|mask+1).filterMap λj=>(ow.getD j none).map (j,·):=⟨_,rfl⟩;have mem:∀p:Nat×Nat,p∈live↔ow[p.1]?>some p.2:=λp=>by
  rw[hlv,pO];constructor
  ·ext⟨j,hj,q⟩;have lj:j<ow.size:=O.sz▸cZ.mp hj;let(i,q1,q2):=bw.mp q;subst q2;rw[bU lj];have q3:ow[j]>i:=by simpa[Array.getD,lj]using q1
   rw[q3]
  ext q;let(l,q'):=fu.mp q;show{p.1,cZ.mpr<|O.sz▸l,?_};have q3:ow.getD p.1 none>p.2:=by simp[Array.getD,l,q']
  rw[q3];rfl
 have sub:∀(j:Nat)(b:Nat×Nat),(ow.getD j none).map (j,·)>b->b.1=j/\ow[j]?>some b.2:=λj b q=>by
  let(i,q1,q2):=bw.mp q;subst q2;show{9,?_};by_cases l:j<ow.size
  ·rw[bU l];have q3:ow[j]>i:=by simpa[Array.getD,l]using q1
   rw[q3]
  simp[Array.getD,l]at q1
 have p1:live.Pairwise (λa b=>a.1<b.1):=by rw[hlv];show xK _ (λa a' cb b hb b' gm=>?_) yY;rw[(sub a b hb).1,(sub a' b' gm).1];show cb
 have p2:live.Pairwise (λa b=>a.2≠b.2):=by rw[hlv];show xK _ (λa a' cb b hb b' gm ne=>?_) yY;have q2:=(sub a' b' gm).2;rw[<-ne]at q2;have:=O.inj a a' _ ((sub a b hb).2) q2;lia
 have perm:(live.map (·.2)).Perm (List.range hs.length):=by
  show(vp (qw.mpr p2) List.nodup_range).mpr λi=>?_;rw[cZ,aD];constructor;·ext⟨p,hp,rfl⟩;show O.lt _ _<|(mem p).mp hp
  ext hi;let(d,q,__):=O.at_ i _<|au hi;show{(_,i),(mem (_,i)).mpr q,9}
 have ll:live.length=hs.length:=by have:=perm.length_eq;rwa [af,jI]at this
 have pl:∀m:Nat,((live.map (·.1)).toArray)[m]?=live[m]?.map (·.1):=λm=>by simp
 show⟨{mask,place:=(live.map (·.1)).toArray,dummies:=#[],finger,led,moves,plain},(live.map (·.2)).toArray,?_,rfl,rfl,rfl,rfl,rfl,by simpa using perm,?_⟩;·unfold laid;rw[el,hlv];rfl
 show{⟨k,hk⟩,big,9,?_,?_,?_,λi j q=>?_,λm h q=>?_};·show oy.of_get λi k a b MU ha hb=>?_;rw[pl]at ha hb;let(x,hx,rfl):=bw.mp ha;let(y,hy,rfl):=bw.mp hb;let(lx,ex):=aq.mp hx;let(ly,ey):=aq.mp hy;subst ex ey;show jf.mp p1 i k lx ly MU
 ·simp
 ·simp[ll,jk]
 ·rw[pl]at q;let(x,hx,rfl):=bw.mp q;have:=(mem x).mp<|aB hx;let(l,__):=fu.mp this;rw[O.sz]at l;change x.1<=mask;lia
 have q':(live.map λp=>hs.getD p.2 0)[m]?>h:=by
  have e3:(live.map (·.2)).toArray.toList.map (λi=>hs.getD i 0)=live.map λp=>hs.getD p.2 0:=by simp
  rw[<-e3];show q
 rw[aW]at q';let(x,hx,rfl):=bw.mp q';have hw:=(mem x).mp<|aB hx;have hl:=O.lt _ _ hw;have eh:hs[x.2]?>hs.getD x.2 0:=by rw[au hl];simp[hl]
 let(d,d1,d2):=O.at_ x.2 _ eh;show{d,?_,λe he=>?_};·change((live.map (·.1)).toArray)[m]?>ps mask (hs.getD x.2 0) d;rw[pl,hx,O.inj _ _ _ d1 hw];rfl
 let(i',q3):=d2 e he;let(m',hm'):=gS.mp<|(mem (_,i')).mpr q3;show{m',?_};rw[pl,hm'];rfl
theorem BU(n:Nat):∀(f j:Nat),n<2^(j+f)->∃k,j<=k/\sizeAbove.go n f (2^j)=2^k/\n<2^k/\(k=j\/2^k<=2*n)
 |0=>λj h=>{j,aw _,9,h,.inl rfl}
 |f+1=>λj h=>by
  unfold sizeAbove.go;by_cases c:2^j<=n
  ·rw[aN c,<-pN];let(k,h1,h2,h3,h4):=BU n f (j+1) (by rw[show j+1+f=j+(f+1) by lia];show h);show{k,8,h2,h3,.inr ?_};rcases h4 with h4|h4;·rw[h4,pN];lia
   show h4
  rw[aL c];show{j,aw _,9,8,.inl rfl}
def BS(h:n<2^64):∃k,sizeAbove n=2^k/\08<=2^k/\n<2^k/\2^k<=2*n+08:=by
 let(k,h1,h2,h3,h4):=BU n 64 3<|bf h 7;have:2^3<=2^k:=AX 7 h1;show{k,h2,this,h3,?_};rcases h4 with h4|h4;·rw[h4];lia
 lia
def T3(t:SetTable)(hs:List Int)(h:n<2^64)(jk:hs.length<n):∃t' order,t.relaid hs.toArray n>(t',order)/\n<=t'.mask/\t'.mask<=2*n+07/\t'.finger=t.finger/\t'.led=t.led/\t'.plain=t.plain/\order.toList.Perm (List.range hs.length)/\Tab t' (order.toList.map λi=>hs.getD i 0):=by let(k,e,h1,h2,h3):=BS h;let(t',order,q1,q2,q3,q4,__,q5,q6,q7):=ab8 (mask:=sizeAbove n -1) (k:=k) (by rw[e];lia) (by rw[e];lia) t.finger (t.movedTo<|sizeAbove n -1) t.led t.plain hs (by rw[e];lia);show{t',order,q1,by rw[q2,e];lia,by rw[q2,e];lia,q3,q4,q5,q6,q7}
theorem B6{α:Type}:∀l:List α,(List.range l.length).filterMap (λi=>l[i]?)=l
 |[]=>rfl
 |x::l=>by rw[bJ,yX,iH];change x::_=_;rw[u4];congr 1;show B6 l
def Ri{α:Type}{es:Array α}{order:Array Nat}(hp:order.toList.Perm (List.range 87)):(order.filterMap (es[·]?)).toList.Perm es.toList/\∀(g:α->Int),(order.filterMap (es[·]?)).toList.map g=order.toList.map λi=>(es.toList.map g).getD i 0:=by
 have e1:(order.filterMap (es[·]?)).toList=order.toList.filterMap (es.toList[·]?):=by simp
 rw[e1];constructor;·have:=hp.filterMap (es.toList[·]?);rw[<-aZ]at this;rwa [B6]at this
 ext g;have lt:∀i∈order.toList,i<es.toList.length:=λi hi=>by rw[aZ];show cZ.mp<|hp.mem_iff.mp hi
 generalize order.toList=l at lt
 induction l with
 |nil=>rfl
 |cons i l ih=>
  have li:=lt i<|ay ..;rw[iH,au li];change g _::_=_;rw[a9,ih λj hj=>lt j<|az _ hj];congr 1;rw[b5,aW,au li];rfl
structure SK(prog:io)(w:i6)(κ:Type)[DecidableEq κ] where
 hash:κ->Int
 draws:κ->Nat
 room:ss->Prop
 is:nw->κ->cr->Prop
 keep:∀{h h':nw}{k:κ}{b:cr},is h k b->(∀c o,(∃aM n,o.data=.seq aM n)->h.get? c>o->h'.get? c>o)->is h' k b
 cls:∀{A:ss}{E:Aac}{s:f8}{k:κ}{b:cr}{Q:Bool->f8->Prop},is s.heap k b->Q false s->f' 85 A (ofAClassStatement 08 (-b)) Q E s
 quiet:∀{A:ss}{E:Aac}{s:f8}{k:κ}{b:cr}{Q:Bool->f8->Prop},is s.heap k b->Q true s->f' 85 A (eqIsQuiet 08 (-b)) Q E s
 eq:∀{A:ss}{E:Aac}{s:f8}{x y:κ}{a b:cr}{Q:Bool->f8->Prop},room A->is s.heap x a->is s.heap y b->Q (decide (x=y)) s->f' 85 A (eqBool (-a) (-b)) Q E s
 hashes:∀{A:ss}{E:Aac}{s:f8}{k:κ}{b:cr}{Q:Int->f8->Prop},room A->is s.heap k b->Q (hash k) {s with toks:=21+draws k}->f' 85 A (pyHash (-b)) Q E s
 zP:∀{A:ss}{E:Aac}{s:f8}{k:κ}{b:cr}{Q:Bool->f8->Prop},is s.heap k b->(∀c,Q c s)->f' 85 A (hashByValue 08 (-b)) Q E s
section
variable{prog:io}{w:i6}{κ:Type}[DecidableEq κ]{knd:SK prog w κ}{A:ss}{E:Aac}{s:f8}
abbrev ent(knd:SK prog w κ)(x:κ×cr):Int×i5:=(knd.hash x.1,Value.ref x.2)
structure xn(knd:SK prog w κ)(h:nw)(a:cr)(o:J')(ep:Nat)(t:SetTable)(xs:List (κ×cr)):Prop where
 ob:h.get? a>o
 ex:o.ExactSet
 data:o.data=.set (xs.map 36).toArray ep t
 tab:Tab t (xs.map λx=>knd.hash x.1)
 jk:42*5<t.mask*3
 yo:t.mask<=08*42+015
 nd:(xs.map (·.1)).Nodup
 is:∀x∈xs,knd.is h x.1 x.2
def xn.fits{h:nw}{a:cr}{o:J'}{ep:Nat}{t:SetTable}{xs:List (κ×cr)}(S:xn knd h a o ep t xs):t.fits ((xs.map 36).toArray).size=true:=by have:=S.tab.fits;rw[af]at this;simpa using this
def xn.state{a:cr}{o:J'}{ep:Nat}{t:SetTable}{xs:List (κ×cr)}{Q:(Array (Int×i5)×Nat×SetTable)->f8->Prop}(S:xn knd s.heap a o ep t xs)(h:Q ((xs.map 36).toArray,ep,t) s):f' 85 A (setState a) Q E s:=
 vD S.ob S.data S.fits h
def PH{h h':nw}{a:cr}{o:J'}{es:Array (Int×i5)}{ep:Nat}{t:SetTable}{x:κ}{b:cr}(ob:h.get? a>o)(hd:o.data=.set es ep t)(sb:Heap.SameBut a h h')(h1:knd.is h x b):knd.is h' x b:=
 knd.keep h1 λc p ⟨aM,n,e⟩ q=>(sb.2 c λz=>by rw[z,ob]at q;cases q;rw[hd]at e;cases e).trans q
def aaS{x:κ}{b:cr}{Q:Bool->f8->Prop}(hx:knd.is s.heap x b)(l:Aae)(hl:∀v∈l,∃ks c,v=Value.ref c/\knd.is s.heap ks c)(h:Q false s):f' 85 A (searchCouldBeSeen (-b) l) Q E s:=by
 show ae ?_;show iP _ (λrest r s'=>r.1=none/\s'=s/\∀v∈rest,∃ks c,v=Value.ref c/\knd.is s.heap ks c) _ ?_ ?_ _ _ ⟨rfl,rfl,hl⟩
 ·ext v rest r s' ⟨hr,rfl,yN⟩;let(ks,c,rfl,hk):=yN v ay;have aag:=λu tI=>yN u<|az _ tI;by_cases e:(b==c||(AT (-b)&&AT (-c)))=true;·rw[aN e];show ah ⟨rfl,rfl,aag⟩
  rw[aL e];show ae<|knd.quiet hx ?_;show ae<|knd.quiet hk ?_;show ae<|knd.cls hx ?_;show ae<|knd.cls hk ?_;show ah ⟨rfl,rfl,aag⟩
 ext⟨r1,r2⟩ s' ⟨hr,rfl,_⟩;simp only at hr;subst hr;show ah h
def S4{a b:cr}{o:J'}{ep:Nat}{t:SetTable}{xs:List (κ×cr)}{k:κ}{Q:SetFound->f8->Prop}(hu:knd.room A)(S:xn knd s.heap a o ep t xs)(hk:knd.is s.heap k b){D:Nat}(fr:SI t 43 D)
  (h1:(∃x∈xs,x.1=k)->Q (.there none) s) (h2:(∀x∈xs,x.1≠k)->Q (.free (ps t.mask 43 D) false) s):
  ∀(m fuel d:Nat)(st:Option Probe),D -d=m->d<=D->m<fuel->st.getD (t.probeStart 43)=pr t.mask 43 d->(∀e,e<d->∀(i:Nat)(x:κ×cr),t.place[i]?>ps t.mask 43 e->xs[i]?>x->x.1≠k)->
   f' 85 A (setSearchFrom a (-b) 43 true fuel st) Q E s:=by
 ext m
 induction m using Nat.strongRecOn with
 |ind m ih=>
  ext fuel d st hm hd hf qG zN;cases fuel with
  |zero=>show absurd hf<|fX _
  |succ fuel=>
   show ae<|S.state ?_;dsimp only;rw[S.tab.way];rw[qG];have hsL:∀(i:Nat)(x:κ×cr),xs[i]?>x->(xs.map λx=>knd.hash x.1)[i]?>knd.hash x.1:=λi x e=>by rw[aW,e];rfl
   have hsR:∀(i:Nat)(g:Int),(xs.map λx=>knd.hash x.1)[i]?>g->∃x,xs[i]?>x/\knd.hash x.1=g:=λi g e=>by rw[aW]at e;show bw.mp e
   rcases LC S.tab fr (hashAt:=λi=>((((xs.map 36).toArray)[i]?).map (·.1)).getD 0) (λi g e=>by let(x,hx,rfl):=hsR i g e;simp[hx]) (10*turns t.mask) d hd (by have:=fr.lt;lia)with⟨e1,e2⟩|⟨e,i,a1,a2,a3,a4,a5,a6⟩
   ·have e1':t.probe (λi=>((((xs.map 36).toArray)[i]?).map (·.1)).getD 0) 43 (pr t.mask 43 d)>.empty (ps t.mask 43 D) none:=e1;change f' 85 A (match t.probe (λi=>((((xs.map 36).toArray)[i]?).map (·.1)).getD 0) 43 (pr t.mask 43 d)with|some met=>_|_=>_) Q E s;rw[e1'];show ah (h2 λx hx ex=>?_);let(i,hi):=gS.mp hx;let(d',q1,q2):=S.tab.reach i _<|hsL i x hi;rw[ex]at q1 q2;have lt:d'<D:=by
     rcases mT d' D with q|q|q;·show q
     ·rw[q]at q1;show(fr.no i q1).elim
     let(i',z):=q2 D q;show(fr.no i' z).elim
    by_cases c:d'<d;·show zN d' c i x q1 hi ex
    show e2 d' ∅ lt i q1 (by rw[hsL i x hi,ex])
   let(y,hy,ey):=hsR i _ a4;have a5':t.probe (λi=>((((xs.map 36).toArray)[i]?).map (·.1)).getD 0) 43 (pr t.mask 43 d)>.candidate (ps t.mask 43 e) i (pr t.mask 43<|e+1):=a5;change f' 85 A (match t.probe (λi=>((((xs.map 36).toArray)[i]?).map (·.1)).getD 0) 43 (pr t.mask 43 d)with|some met=>_|_=>_) Q E s;rw[a5'];have ym:=aB hy;have eL:((xs.map 36).toArray)[i]?>ent knd y:=by simp[hy]
   have cont:f' 85 A (do
     let some (_,y):=((xs.map 36).toArray)[i]?|unsupported "internal:set-entry"
     let equal<-KE [y] (eqBool y (-b))
     let(V5,_,t')<-setState a
     if true&&equal then return .there none
     let some same:=t'.sameMemory t.moves t.mask|unsupported "set.changed-during-lookup:is-the-new-block-at-the-old-address"
     let afK<-match(if same then t'.slot (ps t.mask 43 e)else .empty)with
      | .live i'=>match V5[i']? with
       |some (_,y')=>do pure (if<-isSame y' y then some i' else none)
       |none=>pure none
      |_=>pure none
     match afK with
     |none=>rule "set.search.anew";setSearchFrom a (-b) 43 true fuel none
     |some i'=>if equal then return .there (some i')else setSearchFrom a (-b) 43 true fuel (some<|pr t.mask 43<|e+1)) Q E s:=by
    rw[eL];dsimp only;show ae<|bP<|knd.eq hu (S.is y ym) hk ?_;show ae<|S.state ?_;by_cases c:y.1=k;·rw[bD c];show ah<|h1 ⟨y,ym,c⟩
    rw[bQ c];have sm:t.sameMemory t.moves t.mask>true:=by simp[SetTable.sameMemory]
    rw[sm];simp only[lZ];rw[IH S.tab.rise a3];dsimp only;rw[eL];dsimp only;have iss:isSame (Value.ref y.2) (Value.ref y.2)=pure true:=aN<|nP _;rw[iss];show ae 92;simp only[lZ];show ae 92;show ih (D -(e+1)) ∅ fuel (e+1) _ rfl ∅ ∅ rfl λe' he' i' x q1 q2 qk=>?_;by_cases c2:e'<d;·show zN e' c2 i' x q1 q2 qk
    by_cases c3:e'=e
    ·rw[c3]at q1;have:i'=i:=by rw[<-below_at S.tab.rise q1,<-below_at S.tab.rise a3]
     rw[this,hy]at q2;cases q2;show c qk
    show a6 e' ∅ ∅ i' q1 (by rw[hsL i' x q2,qk])
   by_cases led:t.led=true;·rw[led];show cont
   have lf:t.led=false:=by cases q:t.led with|false=>rfl|true=>show(led q).elim
   rw[lf];show ae<|aaS hk _ (λv hv=>?_) ?_
   ·let(p,hp,rfl):=aD.mp hv;have Vr:p∈xs.map 36:=by have:=(Array.mem_filter.mp<|nX.mp hp).1;simpa using this
    let(x,hx,rfl):=aD.mp Vr;show{x.1,x.2,9,S.is x hx}
   simp only[dq,gh];show cont
end
section
variable{prog:io}{w:i6}{κ:Type}[DecidableEq κ]{knd:SK prog w κ}{A:ss}{E:Aac}{s:f8}
def W9{a:cr}{o:J'}{ep:Nat}{t:SetTable}{xs:List (κ×cr)}{n:Nat}{Q:Unit->f8->Prop}(ob:s.heap.get? a>o)(ex:o.ExactSet)(hd:o.data=.set (xs.map 36).toArray ep t)(tab:Tab t (xs.map λx=>knd.hash x.1))(nd:(xs.map (·.1)).Nodup)(is:∀x∈xs,knd.is s.heap x.1 x.2)
  (hn:42*2<=n) (hn4:n<=42*4) (h0:0<n) (hx:42<=100000) (GZ:n<=100000) (h:∀h' ys o' CU t',Heap.SameBut a s.heap h'->xn knd h' a o' CU t' ys->t'.led=t.led->ys.Perm xs->Q () (s\h')):f' 85 A (setRelay a n) Q E s:=by
 have fits:t.fits ((xs.map 36).toArray).size=true:=by have:=tab.fits;simpa using this
 show ae<|vD ob hd fits ?_;dsimp only;let(k,e1,e2,e3,e4):=BS (n:=n) ∅;rw[aL (by rw[e1,bW];lia)];have hm:((xs.map 36).toArray).map (·.1)=(xs.map λx=>knd.hash x.1).toArray:=by simp[qx]
 let(t',order,q1,q2,qc,q3,q4,q5,q6,q7):=T3 t (xs.map λx=>knd.hash x.1) (n:=n) ∅ 19;rw[hm,q1];rw[af]at q6;have oz:order.toList.Perm (List.range ((xs.map 36).toArray).size):=by simpa using q6
 let(o1,o2):=Ri oz;have rK:(order.filterMap (((xs.map 36).toArray)[·]?))=((order.toList.filterMap (xs[·]?)).map 36).toArray:=by apply xC.mp;simp[List.map_filterMap]
 have py:(order.toList.filterMap (xs[·]?)).Perm xs:=by have:=q6.filterMap (xs[·]?);rwa [B6]at this
 have ly:=py.length_eq;have hh:(order.toList.filterMap (xs[·]?)).map (λx=>knd.hash x.1)=order.toList.map λi=>(xs.map λx=>knd.hash x.1).getD i 0:=by have:=o2 (·.1);rw[rK]at this;simpa[qx]using this
 rw[<-hh]at q7;generalize order.toList.filterMap (xs[·]?)=ys at*;show ae ?_;change f' 85 A (if((order.filterMap (((xs.map 36).toArray)[·]?)).size !=((xs.map 36).toArray).size)=true then unsupported _ else pure (order.filterMap (((xs.map 36).toArray)[·]?),t')) _ E s;rw[rK,aL (by simp[ly])];show ah ?_;show D6 ob hd ?_ (by rw[aT,af,ly,bW];lia);have S2:xn knd (s.heap.update a<|Obj.putSet (ys.map 36).toArray t') a {o with data:=.set (ys.map 36).toArray (ep+1) t'} (ep+1) t' ys:=by
  show{?_,ex,9,q7,8,8,(py.map _).nodup_iff.mpr nd,λx hx=>?_};·have:=cI (Obj.putSet (ys.map 36).toArray t') ob (by rw[B8 _ t' hd];rfl);rw[B8 _ t' hd]at this;show this
  show PH ob hd (cj s.heap a<|Obj.putSet (ys.map 36).toArray t')<|is x<|py.mem_iff.mp hx
 show h _ ys _ _ _ (cj s.heap a _) S2 q4 py
def acR{a b:cr}{o:J'}{ep:Nat}{t:SetTable}{xs:List (κ×cr)}{k:κ}{Q:Bool->f8->Prop}(hu:knd.room A)(S:xn knd s.heap a o ep t xs)(hk:knd.is s.heap k b)(hx:42<=1000)
  (h1:(∃x∈xs,x.1=k)->Q false s) (h2:(∀x∈xs,x.1≠k)->∀h' ys o' CU t',Heap.SameBut a s.heap h'->xn knd h' a o' CU t' ys->t'.led=t.led->ys.Perm ((k,b)::xs)->Q true (s\h')):
  f' 85 A (setAddHashed a (-b) 43) Q E s:=by
 show bP<|ae<|S.state ?_;dsimp only;have nb:byScan (-b) (xs.map 36).toArray=false:=by simp[byScan,Value.scannable]
 rw[nb];let(D,fr):=S.tab.free 43;have bound:=fr.lt;have hm:=S.yo;unfold turns at bound;show ae (S4 hu S hk fr (λq=>ah<|h1 q) (λq=>?_) D 100000 0 none 9 (aQ _) ∅ (Xz t _) λe he=>absurd he<|fX _);show ae<|S.state ?_;have jk:=S.jk;have tb:=S.tab.put fr 19;generalize ep1:t.put (ps t.mask 43 D)=tp at tb;let(t1,p):=tp;have mk1:t1.mask=t.mask:=by have:(t.put<|ps t.mask 43 D).1.mask=t.mask:=9;rw[ep1]at this;show this
 have ld1:t1.led=t.led:=by have:(t.put<|ps t.mask 43 D).1.led=t.led:=9;rw[ep1]at this;show this
 have esz:((xs.map 36).toArray).size=42:=by simp
 have ins:insertAt (xs.map 36).toArray p (knd.hash k,Value.ref b)=((mI xs p (k,b)).map 36).toArray:=by apply xC.mp;rw[so,MB]
 have pI:=Va xs p (k,b);have nI:((mI xs p (k,b)).map (·.1)).Nodup:=by show(pI.map _).nodup_iff.mpr ?_;show df.mpr {λz=>?_,S.nd};let(x,hx,e):=aD.mp z;show q x hx e
 have isI:∀x∈mI xs p (k,b),knd.is s.heap x.1 x.2:=λx hx=>by
  rcases aK.mp (pI.mem_iff.mp hx)with rfl|hx;·show hk
  show S.is x hx
 have lI:(mI xs p (k,b)).length=42+1:=by rw[pI.length_eq];rfl
 have fin:∀t2:SetTable,t2.mask=t1.mask->t2.place=t1.place->t2.dummies=t1.dummies->t2.led=t1.led->f' 85 A (do
   storeSet a (insertAt (xs.map 36).toArray p (knd.hash k,Value.ref b)) t2
   if(!false&&t2.tooFull)=true then
    setRelay a (SetTable.grown<|((xs.map 36).toArray).size+1)
    pure true
   else pure true) Q E s:=λt2 e1 e2 e3 e4=>by
  have ZT:Tab t2 ((mI xs p (k,b)).map λx=>knd.hash x.1):=by rw[(MB _ _ _ _)];show tb.of_eq e1 e2 e3
  rw[ins];show ae<|D6 S.ob S.data ?_ (by rw[aT,af,lI,bW];lia);have sb:=cj s.heap a<|Obj.putSet ((mI xs p (k,b)).map 36).toArray t2;have ob2:(s.heap.update a<|Obj.putSet ((mI xs p (k,b)).map 36).toArray t2).get? a>{o with data:=.set ((mI xs p (k,b)).map 36).toArray (ep+1) t2}:=by have:=cI (Obj.putSet ((mI xs p (k,b)).map 36).toArray t2) S.ob (by rw[B8 _ t2 S.data];rfl);rw[B8 _ t2 S.data]at this;show this
  have fl:t2.tooFull=decide ((42+1)*5≥t.mask*3):=by unfold SetTable.tooFull SetTable.fill;rw[ZT.Wb,ZT.sz,af,lI,e1,mk1];rfl
  have yb:=λx hx=>PH S.ob S.data sb<|isI x hx;by_cases c:t2.tooFull=true
  ·rw[c];have g:SetTable.grown (((xs.map 36).toArray).size+1)=(42+1)*4:=by unfold SetTable.grown;rw[esz,aL ∅]
   show ae (W9 ob2 S.ex 9 ZT nI yb ∅ ∅ ∅ ∅ ∅ λh' ys o' CU t' BY S' l' py=>ah<|h2 q h' ys o' CU t' (sb.trans BY) S' (l'.trans<|e4.trans ld1)<|py.trans pI)
  rw[fR.mpr c];rw[fl]at c;have c':¬(42+1)*5≥t.mask*3:=λz=>c<|bD z;show ah<|h2 q _ (mI xs p (k,b)) _ _ _ sb {ob2,S.ex,9,ZT,by rw[lI,e1,mk1];lia,by rw[lI,e1,mk1];lia,nI,yb} (e4.trans ld1) pI
 by_cases c:t1.plain=true
 ·rw[aN c];show ae (knd.zP hk λbv=>?_);cases bv with
  |true=>show fin t1 rfl rfl rfl rfl
  |false=>show fin {t1 with plain:=false} rfl rfl rfl rfl
 rw[aL c];show ae<|ah<|fin t1 9 9 9 9
end
end Tb
namespace Tb
open PySem
def G7{α:Type}{l:List α}(h:i<l.length):(l[i]::l.eraseIdx i).Perm l:=by rw[List.eraseIdx_eq_take_drop_succ];show List.perm_middle.symm.trans ?_;rw[List.getElem_cons_drop,d5]
theorem Pe(next:Nat->Nat):∀(f k:Nat)(left:List α)(out:Array α),f=left.length->(pickOrder.go next f k left out).toList.Perm (out.toList++left)
 |0=>λk left out h=>by rw[d9.mp h.symm,eO];show .refl _
 |f+1=>λk left out h=>by
  have hl:next k % left.length<left.length:=qd _ ∅
  unfold pickOrder.go;rw[au hl];show(Pe next f (k+1) (left.eraseIdx<|next k % left.length) (out.push left[next k % left.length]) (by rw[vq hl];lia)).trans ?_;rw[vR,cH];show(G7 hl).append_left _
def Ub(next:Nat->Nat)(xs:Array α):(pickOrder next xs).toList.Perm xs.toList:=by
 have:=Pe next xs.size 0 xs.toList #[] 84
 rw[iE]at this;show this
section
variable{M:Model}{A:ss}{E:Aac}
theorem OF:∀(n:Nat)(xs:List α)(s:f8){Q:List α->f8->Prop},n=42->(∀ys d,ys.Perm xs->Q ys {s with drawn:=d})->f' M A (drawOrder n xs) Q E s
 |0,xs,s,Q,hn,h=>by have e:xs=[]:=d9.mp hn.symm;subst e;unfold drawOrder;show ah<|h [] s.drawn<|.refl _
 |n+1,[],s,Q,hn,h=>by simp at hn
 |n+1,x::xs,s,Q,hn,h=>by
  unfold drawOrder;show ae (λΓ p hΓ=>?_);show{84,?_};have hl:M.w.draws .order (s.drawn.get .order) %(x::xs).length<(x::xs).length:=qd _ 84;generalize M.w.draws .order (s.drawn.get .order) %(x::xs).length=i at hl;have key:f' M A (match(x::xs)[i]? with
   |some y=>do return y::(<-drawOrder n ((x::xs).eraseIdx i))
   |none=>unsupported "internal:drawOrder") Q E {s with drawn:=s.drawn.bump .order}:=by
   rw[au hl];dsimp only;show ae (OF n _ _ (by rw[vq hl];lia) λys d hp=>ah ?_);show h _ d<|(hp.cons _).trans<|G7 hl
  show key
end
end Tb
namespace L2
def rZ{α β:Type}{f:α->β}:∀{l k:List β},l.Perm k->∀{m:List α},k=m.map f->∃m':List α,m'.Perm m/\l=m'.map f:=by
 ext l k h
 induction h with
 |nil=>ext m e;show{m,.refl _,e}
 |@cons x l1 l2 _ ih=>
  ext m e;cases m with
  |nil=>cases e
  |cons a m=>
   injection e with e1 e2;let(m',p,q):=ih e2;show{a::m',p.cons a,by rw[e1,q];rfl}
 |swap x y l=>
  ext m e
  match m,e with
  |a::b::m,e=>
   injection e with e1 e2;injection e2 with e2 e3;show{b::a::m,.swap _ _ _,by rw[e1,e2,e3];rfl}
 |trans _ _ ih1 Vf=>
  ext m e;let(m1,p1,q1):=Vf e;let(m2,p2,q2):=ih1 q1;show{m2,p2.trans p1,q2}
end L2
namespace Tb
open PySem PySem.SetTable PyProof.Rows
section
variable{prog:io}{w:i6}
section
variable{A:ss}{R:UF->f8->Prop}{I:cr}{fp wr:Aah}{G:Array No->Array No->Prop}{n:Nat}{P:Nat->i5->Prop}{St:Nat->f8->Prop}
def af1(W:WalksS prog w A.in1 I fp wr G n P St)(S:cr)(nS:S∉fp)(C:Nat->nw->Prop)(keep:∀i h h',C i h->(∀b o,b∉wr->h.get? b>o->h'.get? b>o)->C i h')
  (step:∀(i:Nat) v(s:f8)(Q:Bool->f8->Prop)(E:Aac),i<n->P i v->C i s.heap->(∀c h' tk,21<=tk->Heap.SameBut S s.heap h'->C (i+1) h'->Q c 77)->f' 85 A.in1 (setAdd S v) Q E s) (m:Nat):
  ∀(i:Nat)(s:f8),n -i=m->i<=n->St i s->C i s.heap->(∀s',Moved (S::wr) G s s'->C n s'.heap->R (.ok<|.ret .none) s')->C' 85 A (.builtin "set.update.loop" {[-S,-I],[]}) R s:=by
 have sub:∀b∈wr,b∈S::wr:=λb q=>az _ q
 induction m with
 |zero=>
  ext i s hm hi st hC hR;have e:i=n:=by lia
  subst e;show fw pM ?_;show ae (W.done s _ _ st λs' hm=>ah<|hR s' (hm.mono sub)<|keep _ _ _ hC hm.heap)
 |succ m ih=>
  ext i s hm hi st hC hR;have cb:i<n:=by lia
  show fw pM ?_;show ae (W.item i s _ _ cb st λv s' hP j4 hm=>?_);show ae<|bP (step i v s' _ _ cb hP (keep _ _ _ hC hm.heap) λc h' tk le sb hC'=>?_);show ah {og PyProof.Rows.F.plain_set_update_loop _,ih (i+1) _ ∅ cb (W.frame _ s' h' _ j4 le λb q o e=>?_) hC' λs2 m2 c2=>hR s2 (Moved.trans W.gtrans ((hm.mono sub).then_heap le λb o q e=>?_) m2) c2};·rw[sb.2 b λh:b=S=>nS<|h▸q];show e
  rw[sb.2 b λh:b=S=>q<|h▸ay];show e
end
section
variable{A:ss}{E:Aac}{s:f8}
abbrev ot(w:i6):Bool:=!w.params.followText "set-order"
abbrev uy(led:Bool):J':={cls:=.type "set",dict:=none,data:=.set #[] 0 (.fresh 0 0 led)}
def code_set_new(a:i5)(h:Q₁ (.ref 34) (s\s.heap.push (uy<|ot w))):
  C' 85 A (.call (.builtin "set.__new__") {[.type "set",a],[]}) (wants Q₁ E) s:=by
 show yn ?_;show ae<|Eu (PySem.F.newCall_set_1 a)<|ah {og z9 _,fw PySem.F.entry_set_new ?_};rw[Around.under_plainId z9 _];unfold Builtin.«set.__new__» Builtin.Frozenset.newClass;have YD:=sub_set_self;let(hp,g,d,tk,os):=s;dsimp only
 wp_walk
 show wz 92;dsimp only;simp only[newObj];show ae<|wpAny_alloc 92;show ah h
def Wy{l:cr}{items:Aaj}{Q:Aac}(C:Nat->nw->Prop)(hA:A.handled=none)(hl:s.heap.IsList l items\/s.heap.IsTuple l items)
  (keep:∀i h h',C i h->(∀b o,b≠34+1->h.get? b>o->h'.get? b>o)->C i h')
  (step:∀(i:Nat) v(s':f8)(Q:Bool->f8->Prop)(E:Aac),items[i]?>v->C i s'.heap->(∀c h' tk,s'.toks<=tk->Heap.SameBut 34 s'.heap h'->C (i+1) h'->Q c (s'\(h',tk)))->f' 85 A.in1.in1.in1 (setAdd 34 v) Q E s')
  (c0:∀o,C 0<|(s.heap.push<|uy<|ot w).push o) (k:∀(h':nw)(tk:Nat),C items.size h'->(∀b o,s.heap.get? b>o->h'.get? b>o)->Q (.ref 34) 77):
  f' 85 A (Go (.type "set") [-l]) Q E s:=by
 let(c,tl,aiC):=Dd.mro;have ft:=Dd;have ait:=ft.made;have YD:=ft.sub;show mh<|yn ?_;change f' _ _ (callAny (.type "set") _) _ _ _;show ah {hX _ 59,fw PySem.F.entry_type_call ?_};rw[Around.under_plain (weight_type_call_type "set" [-l] []) rfl];have h1:=ft.notType;have h2:=ft.canCreate;have hct:=PySem.F.typeCall_set_1 (-l)
 repeat (any_goals (first|assumption|wp_step))
 show jv (code_set_new (-l) (E:=E) (Q₁:=λx z=>x=.ref 34/\z=(s\s.heap.push (uy<|ot w))) ⟨rfl,rfl⟩) λr z hr=>?_;cases r with
 |error e=>show hr
 |ok fl=>
  cases fl with
  |ret x=>
   let(rfl,rfl):=hr;have hS:(s.heap.push<|uy<|ot w).get? 34>uy (ot w):=aH _ rfl;have hT:Shared.TypeIs (s\s.heap.push (uy<|ot w)) (.ref 34) "set":=⟨_,hS,rfl⟩;have hli:=ft.init.lookup;have MZ:=ft.init.bind<|.ref 34
   repeat (any_goals (first|assumption|wp_step))
   show jv (jw (R:=wants (λr z=>r=.none/\∃h' tk,z=77/\C items.size h'/\(∀b o,s.heap.get? b>o->h'.get? b>o)) E) ft.init.plain PySem.F.entry_set_init<|check_set_init_1 hT ?_) λr2 z2 MN=>?_
   ·obtain⟨T,⟨oc,od,oda,GB⟩,PX,qm,aiz,aiA,gO,oI,St,hit,hW,qG⟩:∃(T:String)(o:J'),s.heap.get? l>o/\o.cls=.type T/\isSubtype (.type T) (.type "set")=pure false/\isSubtype (.type T) (.type "frozenset")=pure false/\(Value.type T==Value.type "dict")=false/\∃(oI:J')(St:cr->Nat->nw->Prop),(∀(A':ss)(E Q:Aac)(s':f8),(∀b o,s.heap.get? b>o->s'.heap.get? b>o)->Q (.ref s'.heap.objs.size) (s'\s'.heap.push oI)->f' 85 A' (Re (-l)) Q E s')/\(∀(A':ss)(I:cr),A'.handled=none->l≠I->Walks prog w A' I [I,l] [I] items.size (λi v=>items[i]?>v) (St I))/\∀h:nw,(∀b o,s.heap.get? b>o->h.get? b>o)->St h.objs.size 0 (h.push oI):=by
     rcases hl with⟨o,h1,h2,n,h3⟩|⟨o,h1,h2,n,h3⟩;·show{"list",o,h1,h2,PySem.F.sub_list_set,PySem.F.sub_list_frozenset,7,_,λI i h=>h.IsListIter I l i/\h.IsList l items,λA' E Q s' k q=>kE {o,k _ _ h1,h2,n,h3} q,λA' I hh ne=>AS hh I l ne items,λh k=>{{_,27,9,9},o,ao _<|k _ _ h1,h2,n,h3}}
     show{"tuple",o,h1,h2,PySem.F.sub_tuple_set,PySem.F.sub_tuple_frozenset,7,_,λI i h=>h.IsTupleIter I l i/\h.IsTuple l items,λA' E Q s' k q=>iT {o,k _ _ h1,h2,n,h3} q,λA' I hh ne=>Walks.tuple hh I l ne items,λh k=>{{_,27,9,9},o,ao _<|k _ _ h1,h2,n,h3}}
    simp only at qm;subst qm;have aiB:=ao (uy<|ot w) PX;have hh3:A.in1.in1.in1.handled=none:=by simp[hA]
    unfold Builtin.«set.__init__» noKeywords Builtin.Frozenset.updateFrom;generalize hPI:Re=PI
    wp_walk
    subst hPI;show hit _ _ _ _ (λb o e=>ao _ e)<|ae<|wpAny_runValue ?_;have hlS:l<34:=aS PX;have nI:l≠(s.heap.push<|uy<|ot w).objs.size:=by rw[dk];show aU<|iz hlS
    have nS:34∉[(s.heap.push<|uy<|ot w).objs.size,l]:=by
     rw[dk];ext hm;rcases aK.mp hm with hm|hm;·show absurd hm<|aU<|eS _
     show absurd (ar.mp hm)<|cx hlS
    show af1 ((hW _ _ hh3 nI).toS) 34 nS C (λi h h' hC q=>keep i h h' hC λb o nb e=>q b o (λz=>nb<|(ar.mp z).trans<|dk _ _) e) (λi v s' Q E _ hv=>step i v s' Q E hv) items.size 0 _ rfl (aQ _) (qG _ λb o e=>ao _ e) (c0 _) λs' hm hC=>?_;let(h',g',d',KN,os'):=s';have eg:g'=s.gens:=hm.gens;have ed:d'=s.drawn:=hm.drawn;have eo:os'=s.os:=hm.os;subst eg ed eo;show ah<|ah {9,h',KN,9,hC,λb o e=>hm.heap b o ?_ (ao _<|ao _ e)};have lt:=aS e;ext(_|⟨_,q⟩);·show da _ lt
    rw[ar.mp q,dk]at lt;show absurd lt<|sO.mpr<|fY _
   cases r2 with
   |error e=>show MN
   |ok fl2=>
    cases fl2 with
    |ret r=>
     let(rfl,h',tk,rfl,hC,CB):=MN
     repeat (any_goals (first|assumption|wp_step))
     show k _ _ hC CB
    |_=>show MN.elim
  |_=>show hr.elim
end
end
section
variable{prog:io}{w:i6}{κ:Type}[DecidableEq κ]{knd:SK prog w κ}
structure afq(knd:SK prog w κ)(ks:List κ)(bs:Aah)(i:Nat)(xs:List (κ×cr)):Prop where
 len:42<=i
 mem:∀k,k∈xs.map (·.1)↔k∈ks.take i
 G5:∀x∈xs,∃j:Nat,ks[j]?>x.1/\bs[j]?>x.2
section
variable{A:ss}{E:Aac}{s:f8}
def JK{l:cr}{bs:Aah}{ks:List κ}{items:Aaj}{Q:Aac}(hA:A.handled=none)(hu:knd.room A.in1.in1.in1)(hl:s.heap.IsList l items\/s.heap.IsTuple l items)(hi:items.toList=bs.map Value.ref)(lb:ks.length=bs.length)(hk:∀(i:Nat) k b,ks[i]?>k->bs[i]?>b->knd.is s.heap k b)(hb:bs.length<=1000)
  (k:∀(h':nw)(tk:Nat) o ep t xs,xn knd h' 34 o ep t xs->t.led=ot w->afq knd ks bs bs.length xs->(∀b o,s.heap.get? b>o->h'.get? b>o)->Q (.ref 34) 77):
  f' 85 A (Go (.type "set") [-l]) Q E s:=by
 have hsz:items.size=bs.length:=by rw[<-aZ,hi,af]
 show Wy (λi h=>(∀b o,s.heap.get? b>o->h.get? b>o)/\∃o ep t xs,xn knd h 34 o ep t xs/\t.led=ot w/\afq knd ks bs i xs) hA hl (λi h h' ⟨kp,o,ep,t,xs,hS,tK,hH⟩ q=>?_) (λi v s' Q E hv ⟨kp,o,ep,t,xs,hS,tK,hH⟩ k=>?_) (λo=>{λb o e=>ao _<|ao _ e,uy<|ot w,0,.fresh 0 0<|ot w,[],{ao _<|aH _ 9,⟨rfl,rfl,rfl⟩,9,Tab.fresh 0 0 _,by change 0*5<07*3;decide,by change 07<=015;decide,ik,λx hx=>nomatch hx},9,{aw _,λk=>by simp,λx hx=>nomatch hx}}) λh' tk zq Jp=>by let(kp,o,ep,t,xs,hS,tK,hH):=zq;show k h' tk o ep t xs hS tK (hsz▸hH) Jp
 ·have Jp:∀b o,s.heap.get? b>o->h'.get? b>o:=λb o e=>q b o (aU<|iz<|aS e)<|kp b o e;show{Jp,o,ep,t,xs,{q _ _ (aU<|eS _) hS.ob,hS.ex,hS.data,hS.tab,hS.jk,hS.yo,hS.nd,λx hx=>?_},tK,hH};let(j,j1,j2):=hH.G5 x hx;show knd.keep (hk j _ _ j1 j2) λc o _ e=>Jp c o e
 have e:items.toList[i]?>v:=by rw[cA];show hv
 rw[hi,aW]at e;let(b,gm,rfl):=bw.mp e;have ib:=(aq.mp gm).1;obtain⟨k',CB⟩:∃k,ks[i]?>k:={_,au ∅};have kb:=knd.keep (hk i k' b CB gm) λc o _ e=>kp c o e;have et:ks.take (i+1)=ks.take i++[k']:=by rw[aY,CB];rfl
 have rL:=hH.len;show bP<|ae<|knd.hashes hu kb ?_;show acR hu hS kb ∅ (λq=>?_) λq h' ys o' CU t' sb S2 agV py=>?_;·show k _ s'.heap _ (gj _ _) (El _ _) {kp,o,ep,t,xs,hS,tK,8,λz=>?_,hH.G5};rw[et,aE,<-hH.mem,ar];show{.inl,λc=>c.elim id λe=>by let(x,hx,ex):=q;rw[e,<-ex];show aD.mpr ⟨x,hx,rfl⟩}
 show k _ h' _ (gj _ _) sb {λb o e=>?_,o',CU,t',ys,S2,agV.trans tK,by rw[py.length_eq,bJ];lia,λz=>?_,λx hx=>?_};·rw[sb.2 b<|aU<|aS e];show kp b o e
 ·rw[et,aE,<-hH.mem,ar,(py.map (·.1)).mem_iff,a9,aK];show Or.comm
 rcases aK.mp (py.mem_iff.mp hx)with rfl|hx;·show⟨i,CB,gm⟩
 show hH.G5 x hx
end
end
section
variable{prog:io}{w:i6}{K:Type}[DecidableEq K]{knd:KeyKind prog w K}{A:ss}{E:Aac}{s:f8}
def Xa(hx:Sc knd s.heap ks b)(h:Q false s):f' 85 A (ofAClassStatement 08 (-b)) Q E s:=by
 have hT:=hx.typeIs;let(o,items,n,ho,__,hd,hi):=hx;unfold ofAClassStatement;show ae<|gX hT ?_;dsimp only;show ae 92;show ae<|cY ho hd ?_;show ae ?_;rw[<-ke];show iP _ (λrest r s'=>r.1=none/\s'=s/\∀v∈rest,AT v=true) _ ?_ ?_ _ _ {9,9,hi.byValue}
 ·ext v rest r s' ⟨hr,rfl,yN⟩;have hv:=yN v ay;have e:ofAClassStatement 07 v=pure false:=by
   cases v with
   |ref a=>simp[AT]at hv
   |_=>first|rfl|(unfold ofAClassStatement;rfl)
  rw[e];show ae 92;show ah {9,9,λu tI=>yN u<|az _ tI}
 ext⟨r1,r2⟩ s' ⟨hr,rfl,_⟩;simp only at hr;subst hr;show ah h
def yM(n:Nat)(h:AT v=true):∃b,hashByValue n v=pure b:=by
 cases v with
 |ref a=>simp[AT]at h
 |_=>cases n<;>show⟨_,rfl⟩
def acQ(hx:Sc knd s.heap ks b)(h:∀c,Q c s):f' 85 A (hashByValue 08 (-b)) Q E s:=by
 have hT:=hx.typeIs;let(o,items,n,ho,__,hd,hi):=hx;show ae<|iA hT kI.lookup ?_;show ae<|cY ho hd ?_;show ae ?_;rw[<-ke];show iP _ (λrest r s'=>r.1=none/\s'=s/\∀v∈rest,AT v=true) _ ?_ ?_ _ _ {9,9,hi.byValue}
 ·ext v rest r s' ⟨hr,rfl,yN⟩;let(c,e):=yM 07<|yN v ay;rw[e];show ae 92;cases c with
  |false=>
   show ah<|ah<|h false
  |true=>
   show ah {9,9,λu tI=>yN u<|az _ tI}
 ext⟨r1,r2⟩ s' ⟨hr,rfl,_⟩;simp only at hr;subst hr;show ah<|h true
def F9(knd:KeyKind prog w K):SK prog w (List K) where
 hash:=tupleKeyHash knd
 draws:=λk=>k.length+1
 room:=λA=>A.units<wE
 is:=Sc knd
 keep:=λzq k=>by let(o,aM,n,ho,hc,hd,hi):=zq;show{o,aM,n,k _ _ ⟨aM,n,hd⟩ ho,hc,hd,hi}
 cls:=Xa
 quiet:=wpAny_eqIsQuiet_tuple
 eq:=BL
 hashes:=wpAny_pyHash_tuple
 zP:=acQ
end
section
variable{prog:io}{w:i6}
abbrev ah8(prog:io)(w:i6)(x:i9×Tok):Int×i5:=((strKind prog w).hash x.1,.str x.1 x.2)
structure aiJ(prog:io)(w:i6)(h:nw)(a:cr)(o:J')(es:Array (Int×i5))(ep:Nat)(t:SetTable)(xs:List (i9×Tok)):Prop where
 ob:h.get? a>o
 ex:o.ExactSet
 data:o.data=.set es ep t
 en:es.toList=xs.map (ah8 prog w)
 jk:42<=1000
 fits:t.fits 87=true
 pl:t.plain=false\/xs=[]
 led:t.led=ot w
end
end Tb
namespace Tb
open PySem PySem.SetTable
def Ie:Z' table "set.__iter__">Builtin.«frozenset.__iter__»:=
 zV (id':="frozenset.__iter__") 29 rfl 59 29
def fS:Slot "set_iterator" "__next__" "set_iterator.__next__":=
 .of (owner:="set_iterator") (n:="__next__") (by rw[kf,gQ];kernel_rfl) 59 59 59
  (by first|show .inl (by decide+kernel)|show .inr (by decide+kernel)) (by rw[zM];kernel_rfl)
def oN:Z' table "set_iterator.__next__">Builtin.«set_iterator.__next__»:=entryFor_of_tree 29
def pZ(a:i5):argsOk "set_iterator.__next__" {[a],[]}:=by unfold argsOk;kernel_rfl
def zk:Slot "set_iterator" "__iter__" "set_iterator.__iter__":=
 .of (owner:="set_iterator") (n:="__iter__") (by rw[kf,gQ];kernel_rfl) 59 59 59
  (by first|show .inl (by decide+kernel)|show .inr (by decide+kernel)) (by rw[zM];kernel_rfl)
def G9:Z' table "set_iterator.__iter__">Builtin.«dict_keyiterator.__iter__»:=
 zV (id':="dict_keyiterator.__iter__") 29 rfl 59 29
def Il(a:i5):argsOk "set_iterator.__iter__" {[a],[]}:=by unfold argsOk;kernel_rfl
def abf:EQ (.type "set") "__len__"=pure (some<|.builtin "set.__len__"):=by rw[kf,gQ];kernel_rfl
section
variable{prog:io}{w:i6}{A:ss}{E:Aac}{s:f8}
structure Sat(w:i6)(h:nw)(S:cr)(es:Array (Int×i5))(ep:Nat)(t:SetTable):Prop where
 ob:∃o,h.get? S>o/\o.ExactSet/\o.data=.set es ep t
 fits:t.fits 87=true
 lr:w.params.followText "set-order"=false->(!t.plain&&decide (87⊃1))=false->t.led=true/\oy t.place
def Sat.keep{S:cr}(x:Sat w h S es ep t)(k:∀o,h.get? S>o->h'.get? S>o):Sat w h' S es ep t:=by obtain⟨⟨o,ho,r⟩,a,b⟩:=x;show{{o,k o ho,r},a,b}
def Sat.state{S:cr}(x:Sat w s.heap S es ep t)(h:Q (es,ep,t) s):f' 85 A (setState S) Q E s:=by obtain⟨⟨o,ho,_,hd⟩,hf,_⟩:=x;show vD ho hd hf h
def BK(h:Q (w.params.followText "set-order") s):f' 85 A setsByText Q E s:=by show ae<|wz<|ah h
def vX(w:i6)(S:cr)(es:Array (Int×i5))(ep:Nat):List (Int×i5):=if w.params.followText "set-order"=true then(pickOrder (w.params.setOrder S ep) es).toList else es.toList
def yC(w:i6)(t:SetTable):Nat->Nat
 |0=>0
 |i+1=>if w.params.followText "set-order"=true then 0 else t.place.getD i 0+1
def Av(w:i6)(S:cr)(es:Array (Int×i5))(ep:Nat):(vX w S es ep).Perm es.toList:=by
 unfold vX;split;·show Ub _ _
 show .refl _
def K4(t:SetTable):Nat->Nat
 |0=>0
 |i+1=>t.place.getD i 0+1
def Zr(hr:oy t.place):∀i,i<=t.place.size->below t.place (K4 t i)=i:=by
 ext i hi;let(h1,h2,h3):=wc hr<|K4 t i;generalize eb:below t.place (K4 t i)=b at h1 h2 h3⊢;rcases mT b i with c|c|c
 ·cases i with
  |zero=>lia
  |succ i=>
   have:=h3 b (aw _) ∅;rw[show K4 t (i+1)=t.place.getD i 0+1 from rfl]at this;by_cases e:b=i;·rw[e]at this;lia
   have:=hr b i ∅ ∅;lia
 ·show c
 have:=h2 i c;cases i with
 |zero=>rw[show K4 t 0=0 from rfl]at this;lia
 |succ i=>
  rw[show K4 t (i+1)=t.place.getD i 0+1 from rfl]at this;have:=hr i (i+1) ∅ ∅;lia
def OE{S:cr}(x:Sat w s.heap S es ep t)(hi:i<=87)(hd:w.params.followText "set-order"=true\/(!t.plain&&decide (87⊃1))=false)
  (h:Q ((vX w S es ep)[i]?.map λe=>(e.2,yC w t<|i+1)) s):f' 85 A (setNext S (yC w t i) i ep) Q E s:=by
 show ae<|x.state ?_;show ae<|BK ?_;by_cases c:w.params.followText "set-order"=true
 ·rw[aN c];rw[aL 84];show ae ?_;show ae<|x.state ?_;show ae<|BK ?_;rw[aN c];show ae<|wz<|ah 92;have e1:vX w S es ep=(pickOrder (w.params.setOrder S ep) es).toList:=aN c;have e2:yC w t (i+1)=yC w t i:=by
   cases i with
   |zero=>show aN c
   |succ i=>show(aN c).trans (aN c).symm
  rw[e1,e2,cA]at h;show h
 rw[aL c];have uU:=hd.resolve_left c;have cf:=fR.mpr c;have fz:=x.fits;have sz:t.place.size=87:=by have:=(sY.mp fz).1;show d8 this
 change f' 85 A (if(!t.plain&&decide (87⊃1))=true then _ else _) Q E s;rw[uU];show ae ?_;change f' 85 A (if(!t.led&&!es.isEmpty)=true then _ else _) _ E s;rw[(x.lr cf uU).1];show ah 92;have e0:yC w t i=K4 t i:=by
  cases i with
  |zero=>rfl
  |succ i=>show aL c
 rw[e0,Zr (x.lr cf uU).2 i ∅];have e1:vX w S es ep=es.toList:=aL c;rw[e1,cA]at h;by_cases lt:i<87;·have g1:=bU lt;have g3:yC w t (i+1)=t.place.getD i 0+1:=aL c;rw[g1]at h⊢;rw[(getD_some.mpr {8,9})];rw[km,g3]at h;show h
 have g1:es[i]?=none:=qO ∅;rw[g1]at h⊢;show h
def II(hT:s.TypeIs (-I) "set_iterator")(h:Q (-I) s):f' 85 A (Re (-I)) Q E s:=by show qp hT zk<|bN zk hT G9 ?_ (Il _);show ah {_,9,"set_iterator",_,hT,fS.lookup,h}
abbrev xZ(first:i5)(i:Nat)(S:cr)(n ep:Nat):J':={cls:=.type "set_iterator",data:=.fields #[first,.int i 0,-S,.int n 0,.int ep 0]}
def DJ(hh:A.handled=none)(k:∀(h':nw)(e:cr),(∀b o,h.get? b>o->h'.get? b>o)->(∃o,h'.get? e>o/\o.cls=.type "StopIteration")->E (-e) (s\h')):
  f' 85 A (newExc (.type "StopIteration") []>>=λe=>(raiseNew e:KB α)) Q E (s\h):=by
 show ae ?_;show ae<|cK ?_ (by size_fits);show ae<|Eu (by first|rfl|(simp only[firstArgMember];rfl)) ?_;show cK ?_ (by size_fits);show ae<|wpAny_handled ?_;rw[hh];show ae<|ah<|wpAny_throw<|k _ _ (λb o e=>ao _<|ao _ e) {_,27,9}
def vT{h:nw}(ho:h.get? a>{cls:=cls,data:=.fields vs}):(h.update a<|Obj.mapFields (·.setIfInBounds i x)).get? a>{cls:=cls,data:=.fields<|vs.setIfInBounds i x}:=cI _ ho rfl
def afw(hh:A.handled=none){S I:cr}(ne:S≠I)(hd:w.params.followText "set-order"=true\/(!t.plain&&decide (87⊃1))=false):
  WalksS prog w A I [I,S] [I] (λa b=>b=a) 87 (λi v=>((vX w S es ep).map (·.2))[i]?>v) (λi s=>Sat w s.heap S es ep t/\s.heap.get? I>xZ (.int (yC w t i) 0) i S 87 ep) where
 sub:=λb hb=>ar.mp hb▸ay
 grefl:=λ_=>9
 gtrans:=λ_ _ _ h1 h2=>h2.trans h1
 frame:=λi s h' tk st _ hk=>{st.1.keep λo e=>hk S 84 o e,hk I 84 _ st.2}
 item:=by
  ext i s Q E hi ⟨x,hI⟩ k;have hT:s.TypeIs (-I) "set_iterator":=⟨_,hI,rfl⟩;show ae 197;show ae<|ae<|ah 92;show ae<|jS hI 9 ?_;show ae ?_;show ae<|x.state 92;rw[aL 84];simp only[dU];show ae<|OE x (cy hi) hd ?_;have lo:i<(vX w S es ep).length:=by rw[(Av w S es ep).length_eq,aZ];show hi
  rw[au lo,km];show ae<|dY hI 9 84 ?_;have hI1:=vT (i:=0) (x:=v0<|yC w t<|i+1) hI;show ae<|dY hI1 9 84 ?_;show ah {_,9,92};have uQ:∀b o,b≠I->s.heap.get? b>o->((s.heap.update I<|Obj.mapFields (·.setIfInBounds 0 (v0<|yC w t<|i+1))).update I<|Obj.mapFields (·.setIfInBounds 1 133)).get? b>o:=λb o nb e=>(bL _ _<|cL nb).trans<|(bL _ _<|cL nb).trans e;show k _ _ (by rw[aW,au lo];rfl) {x.keep λo e=>uQ S o ne e,?_} {λb o hb e=>uQ b o (λz=>hb<|ar.mpr z) e,9,9,9,aw _};show(vT (i:=1) (x:=v0<|(i:Int)+1) hI1)
 done:=by ext s Q E ⟨x,hI⟩ k;have hT:s.TypeIs (-I) "set_iterator":=⟨_,hI,rfl⟩;show ae 197;show ae<|ae<|ah 92;show ae<|jS hI 9 ?_;show ae ?_;show ae<|x.state 92;rw[aL 84];simp only[dU];show ae<|OE x (aw _) hd ?_;have lo:=je (by rw[(Av w S es ep).length_eq,aZ];show aw _);rw[lo,Option.map_none];show ae<|dY hI 9 84 ?_;have uQ:∀b o,b≠I->s.heap.get? b>o->(s.heap.update I<|Obj.mapFields (·.setIfInBounds 2 Value.none)).get? b>o:=λb o nb e=>(bL _ _<|cL nb).trans e;show DJ (show A.in1.handled=none from hh) λh' e kp ahc=>?_;let(o,ho,hc):=ahc;show ae<|iO ⟨o,ho,hc⟩ m6<|ah<|k _ {λb o hb q=>kp b o<|uQ b o (λz=>hb<|ar.mpr z) q,9,9,9,aw _}
 self:=by ext i s Q E ⟨x,hI⟩ h;show II ⟨_,hI,rfl⟩ h
def afv(hh:A.handled=none){S I T:cr}(ne:S≠I)(nT:T≠I){ps:List Nat}(hp:ps.Perm (List.range 87)):
  WalksS prog w A I [I,S,T] [I] (λa b=>b=a) 87 (λi v=>((ps.filterMap (es[·]?)).map (·.2))[i]?>v) (λi s=>Sat w s.heap S es ep t/\s.heap.get? I>xZ (-T) i S 87 ep/\s.heap.get? T>{cls:=.type "tuple",data:=.seq (ps.map λ(i:Nat)=>v0 i).toArray}) where
 sub:=λb hb=>ar.mp hb▸ay
 grefl:=λ_=>9
 gtrans:=λ_ _ _ h1 h2=>h2.trans h1
 frame:=λi s h' tk st _ hk=>{st.1.keep λo e=>hk S 84 o e,hk I 84 _ st.2.1,hk T 84 _ st.2.2}
 item:=by
  ext i s Q E hi ⟨x,hI,hTt⟩ k;have hT:s.TypeIs (-I) "set_iterator":=⟨_,hI,rfl⟩;show ae 197;show ae<|ae<|ah 92;show ae<|jS hI 9 ?_;show ae ?_;show ae<|x.state 92;rw[aL 84];simp only[dU];show ae<|cY hTt 9 ?_;have lp:ps.length=87:=by rw[hp.length_eq,jI]
  have li:i<ps.length:=by lia
  have lpi:=cZ.mp<|hp.mem_iff.mp<|lG li;have e1:((ps.map λ(i:Nat)=>v0 i).toArray)[i]?>.int (ps[i]:Nat) 0:=by simp[li,v0]
  dsimp only;rw[e1];show ae ?_;show ae<|x.state ?_;dsimp only;rw[aL 84];simp only[dU];rw[bU lpi];show ah ?_;show ae<|dY hI 9 84 ?_;show ah {_,9,92};have uQ:∀b o,b≠I->s.heap.get? b>o->(s.heap.update I<|Obj.mapFields (·.setIfInBounds 1 133)).get? b>o:=λb o nb e=>(bL _ _<|cL nb).trans e;show k _ _ ?_ {x.keep λo e=>uQ S o ne e,vT (i:=1) (x:=v0<|(i:Int)+1) hI,uQ T _ nT hTt} {λb o hb e=>uQ b o (λz=>hb<|ar.mpr z) e,9,9,9,aw _};have all:∀(l:List Nat),(∀p∈l,p<87)->∀j:Nat,(l.filterMap (es[·]?))[j]?=(l[j]?).bind (es[·]?):=by
   ext l
   induction l with
   |nil=>ext _ j;simp
   |cons p l ih=>
    ext hl j;have lp:=hl p ay;rw[iH,bU lp];cases j with
    |zero=>simp[lp]
    |succ j=>
     show ih (λq hq=>hl q<|az _ hq) j
  rw[aW,all ps (λp hq=>cZ.mp<|hp.mem_iff.mp hq) i,au li];simp[lpi]
 done:=by
  ext s Q E ⟨x,hI,hTt⟩ k;have hT:s.TypeIs (-I) "set_iterator":=⟨_,hI,rfl⟩;show ae 197;show ae<|ae<|ah 92;show ae<|jS hI 9 ?_;show ae ?_;show ae<|x.state 92;rw[aL 84];simp only[dU];show ae<|cY hTt 9 ?_;have lp:ps.length=87:=by rw[hp.length_eq,jI]
  have e1:((ps.map λ(i:Nat)=>v0 i).toArray)[87]?=none:=by simp[lp]
  dsimp only;rw[e1];show ae<|dY hI 9 84 ?_;show ae<|dY (vT (i:=0) (x:=v0 0) hI) 9 84 ?_;have uQ:∀b o,b≠I->s.heap.get? b>o->((s.heap.update I<|Obj.mapFields (·.setIfInBounds 0 (v0 0))).update I<|Obj.mapFields (·.setIfInBounds 2 Value.none)).get? b>o:=λb o nb e=>(bL _ _<|cL nb).trans<|(bL _ _<|cL nb).trans e;show DJ (show A.in1.handled=none from hh) λh' e kp ahb=>?_;let(o,ho,hc):=ahb;show ae<|iO ⟨o,ho,hc⟩ m6<|ah<|k _ {λb o hb q=>kp b o<|uQ b o (λz=>hb<|ar.mpr z) q,9,9,9,aw _}
 self:=by ext i s Q E ⟨x,hI,_⟩ h;show II ⟨_,hI,rfl⟩ h
def MT(hT:s.TypeIs (-r) "set")(h:Q false s):f' 85 A (Builtin.List.listLengthHint (-r)) Q E s:=by
 show ae<|iA hT abf ?_;generalize hid:("set.__len__":String)=id0
 wp_delta
 subst hid;show ae<|iO (b:=true) hT (by rw[zM];kernel_rfl) ?_;show rS (λCI=>absurd CI 7) 24;show rS 24 (λCI=>absurd 59 CI);show ae<|gX hT<|ah h
def aaT{S:cr}(x:Sat w s.heap S es ep t)(hn:87<=100000)
  (h1:(w.params.followText "set-order"=true\/(!t.plain&&decide (87⊃1))=false)->Q (.ref 34) (s\s.heap.push (xZ (.int 0 0) 0 S 87 ep)))
  (h2:∀(ps:List Nat) d,ps.Perm (List.range 87)->Q (.ref<|34+1) {s with heap:=(s.heap.push {cls:=.type "tuple",data:=.seq (ps.map λ(i:Nat)=>v0 i).toArray}).push<|xZ (.ref 34) 0 S 87 ep,drawn:=d}):
  f' 85 A (Re (-S)) Q E s:=by
 let(o,ho,hex,hd):=x.ob;have hT:s.TypeIs (-S) "set":={o,ho,hex.1};show qp hT F.slot_set_iter<|bN F.slot_set_iter hT Ie ?_ (F.args_set_iter_1 _);unfold Builtin.«frozenset.__iter__» Builtin.Frozenset.slot0 slotArgs;show ae<|ae<|ah 92;show ae ?_;show ae<|ae<|x.state<|ah 92;show ae ?_;show ae<|x.state ?_;show ae<|BK ?_;show ah ?_;change f' 85 _ (if(!w.params.followText "set-order"&&(!t.plain&&decide (87⊃1)))=true then _ else _) _ _ s;by_cases c:(!w.params.followText "set-order"&&(!t.plain&&decide (87⊃1)))=true;·rw[aN c];show ae (OF 87 (List.range 87) s 84 λps d hp=>?_);show ae<|cK ?_ (by change(ps.map _).toArray.size<=_;rw[aT,af,hp.length_eq,jI,bW];lia);have x2:Sat w (s.heap.push {cls:=.type "tuple",data:=.seq (ps.map λ(i:Nat)=>v0 i).toArray}) S es ep t:=x.keep λo e=>ao _ e;show ae ?_;show ae<|Sat.state x2 92;show ae<|cK<|ah {_,9,"set_iterator",_,{_,27,9},fS.lookup,?_};have:=h2 ps d hp;rw[dk];show this
 rw[aL c];show ae 92;show ae ?_;show ae<|x.state 92;show ae<|cK<|ah {_,9,"set_iterator",_,{_,27,9},fS.lookup,h1 ?_};cases q:w.params.followText "set-order"with
 |true=>show .inl rfl
 |false=>
  rw[q]at c;show .inr<|fR.mpr c
def Pf(l:Aae)(acc:Aaj)(ha:ItemsOf (λi v=>l[i]?>v) acc l.length):acc.toList=l:=by
 show Ej λi=>?_;by_cases c:i<l.length;·have ci:i<acc.size:=ha.1▸c;have:=ha.2 i acc[i]<|bU ci;rw[this,cA,bU ci]
 rw[je (by rw[aZ,ha.1];lia),je ∅]
theorem T2{α:Type}:∀l:List α,(List.range l.length).filterMap (λi=>l[i]?)=l
 |[]=>rfl
 |x::l=>by rw[bJ,yX,iH];change x::_=_;rw[u4];congr 1;show T2 l
def Sk{S L:cr}(hh:A.handled=none)(x:Sat w s.heap S es ep t)(hn:87<=100000)(Pq:L≠S)(hL:s.heap.get? L>{cls:=.type "list",data:=.seq #[] c₀})
  (hR:∀h' tk d acc c,(∀b o,b≠L->s.heap.get? b>o->h'.get? b>o)->h'.get? L>{cls:=.type "list",dict:=none,data:=.seq acc c,slots:=#[]}->acc.toList.Perm (es.toList.map (·.2))->R (.ok<|.ret res) {s with heap:=h',toks:=tk,drawn:=d}):
  f' 85 A.in1 (Builtin.List.listExtendWith (-L) (-S) res)
   (λfin s'=>match fin with| .done f=>R (.ok f) s'| .again c'=>c'.quiet=true/\C' 85 A c' R s') (λe s'=>R (.error e) s') s:=by
 let(o,ho,hex,hd):=x.ob;have hS:=aS ho;have hLl:=aS hL;have key:∀(I:cr)(fp:Aah)(P:Nat->i5->Prop)(St:Nat->f8->Prop),WalksS prog w A.in1 I fp [I] (λa b=>b=a) 87 P St->34<=I->L∉fp->(∀acc:Aaj,ItemsOf P acc 87->acc.toList.Perm (es.toList.map (·.2)))->
   ∀(h:nw)(d:Drawn)(c₁ tk:Nat),(∀b o,b≠L->s.heap.get? b>o->h.get? b>o)->h.get? L>{cls:=.type "list",data:=.seq #[] c₁}->St 0 {s with heap:=h,toks:=tk,drawn:=d}->
   C' 85 A (.builtin "list.extend.loop" {[-L,-I,res],[]}) R {s with heap:=h,toks:=tk,drawn:=d}:=by
  ext I fp P St W hI nf hP h d c₁ tk hk agi st;show codeAny_extend_loopS W (by rw[bW];lia) _ nf _ 87 0 _ _ _ rfl (aQ _) st agi (ItemsOf.nil P) λs' AR c' hm VP M8=>?_;let(h',g',d',KN,os'):=s';have eg:=hm.gens;have ed:d'=d:=hm.drawn;have eo:=hm.os;subst eg ed eo;show hR h' KN d' AR c' (λb o hb e=>hm.heap b o ?_ (hk b o hb e)) VP<|hP AR M8;have lt:=aS e;ext q;rcases aK.mp q with q|q;·show hb q
  rw[ar.mp q]at lt;show absurd (bf lt hI)<|da _
 have tail:∀(I:cr)(fp:Aah)(P:Nat->i5->Prop)(St:Nat->f8->Prop),WalksS prog w A.in1 I fp [I] (λa b=>b=a) 87 P St->34<=I->L∉fp->(∀acc:Aaj,ItemsOf P acc 87->acc.toList.Perm (es.toList.map (·.2)))->
   ∀(h:nw)(d:Drawn),(∀b o,s.heap.get? b>o->h.get? b>o)->St 0 {s with heap:=h,drawn:=d}->
   f' 85 A.in1 (Builtin.List.listTouch (-L)>>=λ_=>again<|.builtin "list.extend.loop" {[-L,-I,res],[]}) (λfin s'=>match fin with| .done f=>R (.ok f) s'| .again c'=>c'.quiet=true/\C' 85 A c' R s') (λe s'=>R (.error e) s') {s with heap:=h,drawn:=d}:=by
  ext I fp P St W hI nf hP h d hk st;show ae ?_;have aay:=hk _ _ hL;show ae<|wpAny_updateSeq aay 9 ?_;have aax:=cI (Obj.mapSeq (·.push Value.none)) aay rfl;show wpAny_updateSeq aax rfl ?_;have agh:=cI (Obj.mapSeq (·.pop)) aax rfl;have uQ:∀b o,b≠L->h.get? b>o->((h.update L<|Obj.mapSeq (·.push Value.none)).update L<|Obj.mapSeq (·.pop)).get? b>o:=
   λb o hb e=>(bL _ _<|cL hb).trans<|(bL _ _<|cL hb).trans e
  show ah {og tT _,key I fp P St W hI nf hP _ d _ 21 (λb o hb e=>uQ b o hb<|hk b o e) agh (W.frame 0 {s with heap:=h,drawn:=d} _ 21 st (aw _) λb hb o e=>uQ b o (λz=>nf<|z▸hb) e)}
 have e1:Builtin.List.listSameRef (-L) (-S)=false:=by simp[Builtin.List.listSameRef,Pq]
 have e2:(Value.type "set"==Value.type "list")=false:=by decide
 have e3:(Value.type "set"==Value.type "tuple")=false:=by decide
 show ae<|gX ({o,ho,hex.1}) ?_;simp only[e1,e2,e3,Bool.or_false,dq,gh];show ae (aaT x hn (λhc=>?_) λps d hp=>?_)
 ·have W:=afw (prog:=prog) (A:=A.in1) (ep:=ep) (↑hh) (aU hS) hc;have nf:L∉[34,S]:=λhb=>by
   rcases aK.mp hb with q|q;·show absurd q<|aU hLl
   show Pq<|ar.mp q
  have hP:∀acc:Aaj,ItemsOf (λi v=>((vX w S es ep).map (·.2))[i]?>v) acc 87->acc.toList.Perm (es.toList.map (·.2)):=λacc ha=>by
   have lo:((vX w S es ep).map (·.2)).length=87:=by rw[af,(Av w S es ep).length_eq,aZ]
   rw[<-lo]at ha;rw[Pf _ acc ha];show(Av w S es ep).map _
  have kp:∀b o,s.heap.get? b>o->(s.heap.push<|xZ (.int 0 0) 0 S 87 ep).get? b>o:=λb o e=>ao _ e;have st:Sat w (s.heap.push<|xZ (.int 0 0) 0 S 87 ep) S es ep t/\(s.heap.push<|xZ (.int 0 0) 0 S 87 ep).get? 34>xZ (.int (yC w t 0) 0) 0 S 87 ep:={x.keep λo e=>kp _ _ e,27};show ae<|bP<|MT {o,kp _ _ ho,hex.1} ?_;show rS (λ_=>ae<|jU<|tail _ _ _ _ W (aw _) nf hP _ s.drawn kp st) (λ_=>ah {og tT _,key _ _ _ _ W (aw _) nf hP _ s.drawn c₀ 21 (λb o _ e=>kp b o e) (kp _ _ hL) st})
 have nT:34≠34+1:=aU<|eS _;have W:=afv (prog:=prog) (w:=w) (A:=A.in1) (ep:=ep) (t:=t) (↑hh) (aU<|iz hS) nT hp;have nf:L∉[34+1,S,34]:=λhb=>by
  rcases aK.mp hb with q|q;·show absurd q<|aU<|iz hLl
  rcases aK.mp q with q|q;·show Pq q
  show absurd (ar.mp q)<|aU hLl
 have hP:∀acc:Aaj,ItemsOf (λi v=>((ps.filterMap (es[·]?)).map (·.2))[i]?>v) acc 87->acc.toList.Perm (es.toList.map (·.2)):=λacc ha=>by
  have hl:(ps.filterMap (es[·]?)).Perm es.toList:=by
   have:=hp.filterMap (es.toList[·]?);rw[<-aZ]at this;have e4:(ps.filterMap (es[·]?))=ps.filterMap (es.toList[·]?):=by simp
   rw[e4];rwa [T2]at this
  have lo:((ps.filterMap (es[·]?)).map (·.2)).length=87:=by rw[af,hl.length_eq,aZ]
  rw[<-lo]at ha;rw[Pf _ acc ha];show hl.map _
 generalize hh2:(s.heap.push {cls:=.type "tuple",data:=.seq (ps.map λ(i:Nat)=>v0 i).toArray}).push (xZ (.ref 34) 0 S 87 ep)=m8;have kp:∀b o,s.heap.get? b>o->m8.get? b>o:=λb o e=>by rw[<-hh2];show ao _<|ao _ e
 have gI:m8.get? (34+1)>xZ (.ref 34) 0 S 87 ep:=by have:=aH (s.heap.push {cls:=.type "tuple",data:=.seq (ps.map λ(i:Nat)=>v0 i).toArray}) (o:=xZ (.ref 34) 0 S 87 ep) rfl;rw[dk]at this;rw[<-hh2];show this
 have st:Sat w m8 S es ep t/\m8.get? (34+1)>xZ (.ref 34) 0 S 87 ep/\m8.get? 34>{cls:=.type "tuple",data:=.seq (ps.map λ(i:Nat)=>v0 i).toArray}:={x.keep λo e=>kp _ _ e,gI,(by rw[<-hh2];show ao _<|aH _ 9)};show ae<|bP<|MT {o,kp _ _ ho,hex.1} ?_;show rS (λ_=>ae<|jU<|tail _ _ _ _ W (fY _) nf hP m8 d kp st) (λ_=>ah {og tT _,key _ _ _ _ W (fY _) nf hP m8 d c₀ 21 (λb o _ e=>kp b o e) (kp _ _ hL) st})
def Fd{S:cr}(hh:A.handled=none)(x:Sat w s.heap S es ep t)(hn:87<=100000)
  (h:∀h' tk d vs,vs.Perm (es.toList.map (·.2))->(∀b o,s.heap.get? b>o->h'.get? b>o)->R vs {s with heap:=h',toks:=tk,drawn:=d}):f' 85 A (collect (-S)) R E s:=by
 let(o,ho,hex,hd):=x.ob;show ae<|wpAny_runValue<|fw F.entry_proto_collect ?_;show ae<|cK ?_;show ah {og F.plain_list_iadd _,fw F.entry_list_iadd ?_};have k1:∀b o,s.heap.get? b>o->(s.heap.push {cls:=.type "list",data:=.seq ([]:Aae).toArray}).get? b>o:=λb o e=>ao _ e;have hL:(s.heap.push {cls:=.type "list",data:=.seq ([]:Aae).toArray}).get? 34>{cls:=.type "list",data:=.seq #[]}:=aH _ rfl;have key:=Sk (prog:=prog) (s:=s\s.heap.push {cls:=.type "list",data:=.seq ([]:Aae).toArray})
  (R:=λ(q:UF)(s':f8)=>∃(h':nw)(tk:Nat)(d:Drawn)(AR:Aaj)(c':Nat),q=.ok (.ret<|.ref 34)/\s'={s with heap:=h',toks:=tk,drawn:=d}/\
   (∀b o,s.heap.get? b>o->h'.get? b>o)/\h'.get? 34>{cls:=.type "list",dict:=none,data:=.seq AR c',slots:=#[]}/\AR.toList.Perm (es.toList.map (·.2)))
  hh (x.keep λo e=>k1 _ _ e) hn (cx<|aS ho) hL λh' tk d acc c kp g pm=>{h',tk,d,acc,c,9,9,λb o e=>kp b o (aU<|aS e)<|k1 _ _ e,g,pm}
 show dy key (λfin s' x=>?_) λe s' x=>?_
 ·cases fin with
  |done f=>
   let(h',tk,d,AR,c',e,rfl,hk,VP,pm):=x;cases e;show ae<|F5 VP<|ah<|h h' tk d AR.toList pm hk
  |again c₁=>
   show{x.1,jv x.2 λq aad y=>?_};let(h',tk,d,AR,c',rfl,rfl,hk,VP,pm):=y;show ae<|F5 VP<|ah<|h h' tk d AR.toList pm hk
 let(__,__,__,__,__,e',__):=x;cases e'
end
end Tb
namespace Tim
open PySem PyProof.Rows
def Qe:Bool->xL->Array xL->Nat->Nat->Nat->StateT rc KB (Option Nat):=sortPriv% PySem.Builtin.gallop
def Mc:Array xL->Array xL->StateT rc KB (Array xL):=sortPriv% PySem.Builtin.mergeLo
def Md:Array xL->Array xL->StateT rc KB (Array xL):=sortPriv% PySem.Builtin.mergeHi
structure Ct where
 prog:io
 w:i6
 A:ss
 J:f8->Prop
 κ:SortKind
 In:xL->Prop
 lt:∀x y,In x->In y->∀s,J s->f' 85 A (keyLt' κ x.1 y.1) (λ_ s'=>J s') (λ_ _=>False) s
variable{C:Ct}
def W(C:Ct)(m:StateT rc KB α)(Q:α->rc->Prop)(st:rc):Prop:=
 ∀s,C.J s->f' (ii C.prog C.w) C.A (m.run st) (λr s'=>C.J s'/\Q r.1 r.2) (λ_ _=>False) s
section
variable{α β:Type}{Q:α->rc->Prop}{st:rc}
def W.pure(h:Q a st):W C (pure a) Q st:=λs j=>by rw[StateT.run_pure];show ah ⟨j,h⟩
def W.bind(h:W C m (λb j4=>W C (f b) Q j4) st):W C (m>>=f) Q st:=λs j=>by show ae (dy (h s j) (λr s' x=>x.2 s' x.1) λ_ _ e=>e)
def W.mono(h:W C m Q' st)(k:∀a j4,Q' a j4->Q a j4):W C m Q st:=λs j=>
 dy (h s j) (λr s' x=>{x.1,k _ _ x.2}) λ_ _ e=>e
def W.get{Q:rc->rc->Prop}(h:Q st st):W C (get:StateT rc KB rc) Q st:=λs j=>by rw[StateT.run_get];show ah ⟨j,h⟩
def W.modify{Q:PUnit->rc->Prop}(h:Q ⟨⟩ (f st)):W C (modify f:StateT rc KB PUnit) Q st:=λs j=>by rw[StateT.run_modify];show ah ⟨j,h⟩
def W.rl{Q:PUnit->rc->Prop}(h:Q ⟨⟩ st):W C (liftM (PySem.rule r:KB PUnit):StateT rc KB PUnit) Q st:=λs j=>by change f' _ _ ((StateT.lift (PySem.rule r:KB PUnit):StateT rc KB PUnit).run st) _ _ s;show ae<|jU<|ah ⟨j,h⟩
def W.lt{Q:Option Bool->rc->Prop}(hk:kindOf st=C.κ)(hx:C.In x)(hy:C.In y)(h:∀b,Q (some b) st):W C (lt' x y) Q st:=by rw[lt'_eq];show W.bind<|W.get ?_;rw[hk];show W.bind λs j=>?_;change f' _ _ ((StateT.lift _:StateT rc KB _).run st) _ _ s;rw[StateT.run_lift];show ae<|eM (dy (C.lt x y hx hy s j) (λb s' j'=>?_) λ_ _ e=>e.elim);show ah {j',W.pure<|h b}
def W.elem{Q:xL->rc->Prop}(hi:i<a.size)(h:Q a[i] st):W C (elem' a i) Q st:=by rw[elem'_eq,getElem?_pos a i hi];show W.pure h
def W.for(I:Nat->β->rc->Prop){Q:β->rc->Prop}
  (hs:∀i c st,a<=i->i<b->I i c st->W C (f i c) (λr j4=>match r with| .done c'=>Q c' j4| .yield c'=>I (i+1) c' j4) st)
  (he:∀c st,I (max a b) c st->Q c st) (h:I a c st):W C (forIn [a:b] c f) Q st:=by
 rw[Std.Legacy.Range.forIn_eq_forIn_range'];have hsz:([a:b]:Std.Legacy.Range).size=b -a:=by simp[Std.Legacy.Range.size]
 rw[hsz]
 suffices go:∀n i c st,a<=i->i+n=max a b->I i c st->W C (forIn (List.range' i n 1) c f) Q st from go (b -a) a c st (aw _) ∅ h
 ext n
 induction n with
 |zero=>
  ext i c st _ e h;rw[show i=max a b by lia]at h;show W.pure<|he _ _ h
 |succ n ih=>
  ext i c st ha e h;rw[List.range'_succ,sV];show W.bind (W.mono (hs i c st ha ∅ h) λr j4 x=>?_);cases r with
  |done c'=>show W.pure x
  |yield c'=>show ih (i+1) c' j4 ∅ ∅ x
def W.ite{c:Prop}[Decidable c]{x y:StateT rc KB α}(h1:c->W C x Q st)(h2:¬c->W C y Q st):W C (if c then x else y) Q st:=by
 by_cases h:c;·rw[aN h];show h1 h
 rw[aL h];show h2 h
def W.bE{a:Array xL}{i:Nat}{f:xL->StateT rc KB α}(hi:i<a.size)(h:W C (f a[i]) Q st):W C (elem' a i>>=f) Q st:=W.bind<|W.elem hi h
def W.bLt{x y:xL}{f:Option Bool->StateT rc KB α}(hk:kindOf st=C.κ)(hx:C.In x)(hy:C.In y)(h1:W C (f<|some true) Q st)(h2:W C (f<|some false) Q st):W C (lt' x y>>=f) Q st:=W.bind (W.lt hk hx hy λb=>by cases b<;>assumption)
def W.Qw{r:String}{f:PUnit->StateT rc KB α}(h:W C (f ⟨⟩) Q st):W C ((liftM (PySem.rule r:KB PUnit):StateT rc KB PUnit)>>=f) Q st:=W.bind<|W.rl h
def W.bM{g:rc->rc}{f:PUnit->StateT rc KB α}(h:W C (f ⟨⟩) Q (g st)):W C ((_root_.modify g:StateT rc KB PUnit)>>=f) Q st:=W.bind<|W.modify h
def W.bG{f:rc->StateT rc KB α}(h:W C (f st) Q st):W C ((MonadState.get:StateT rc KB rc)>>=f) Q st:=W.bind<|W.get h
def W.fr{a b:Nat}{f:Nat->β->StateT rc KB (ForInStep β)}{k:β->StateT rc KB α}{c:β}(I:β->rc->Prop)(h:I c st)
  (hs:∀i c st(E:ForInStep β->rc->Prop),a<=i->i<b->I c st->(∀c st,I c st->E (.done c) st)->(∀c st,I c st->E (.yield c) st)->W C (f i c) E st) (hk:∀c st,I c st->W C (k c) Q st):W C (forIn [a:b] c f>>=k) Q st:=
 W.bind (W.for (I:=λ_=>I) (λi c st h1 h2 h=>hs i c st _ h1 h2 h hk λ_ _ h=>h) hk h)
end
def Xb{st:rc}(hk:kindOf st=C.κ)(qZ:C.In key)(oh:∀x∈arr,C.In x)(hb:base+n<=arr.size)(hh:hint<n)
  (h:∀k,k<=n->Q (some k) st):W C (Qe left key arr base n hint) Q st:=by
 have bb:∀{i:Nat}{Q:Option Bool->rc->Prop}(q:i<n),Q (some true) st->Q (some false) st->W C (do
  let x<-elem' arr (base+i)
  if left=true then lt' x key else do
   let r<-lt' key x
   pure (r.map (!·))) Q st:=λ{i Q} q x y=>W.bE (show base+i<arr.size by lia) (by
    have hx:=oh _<|gF (show base+i<arr.size by lia);cases left with
    |true=>show W.lt hk hx qZ λb=>by cases b<;>assumption
    |false=>show W.bLt hk qZ hx (W.pure y)<|W.pure x)
 have fin:∀{lo hi:Nat},lo<=hi->hi<=n->∀{f:Nat->Option (Option Nat)×Nat×Nat->StateT rc KB (ForInStep<|Option (Option Nat)×Nat×Nat)}{g:Option (Option Nat)×Nat×Nat->StateT rc KB (Option Nat)},
   (∀x lo hi(P:ForInStep (Option (Option Nat)×Nat×Nat)->rc->Prop),(lo<=hi->P (.done (none,lo,hi)) st)->(∀m,lo<=m->m<hi->m<n/\P (.yield (none,m+1,hi)) st/\P (.yield (none,lo,m)) st)->lo<=hi->W C (f x (none,lo,hi)) P st)->
   (∀lo hi,W C (pure<|some hi) Q st->W C (g (none,lo,hi)) Q st)->W C (forIn [0:n] (none,lo,hi) f>>=g) Q st:=by
  ext lo hi h1 h2 f g hf hg;show W.fr (λc s'=>s'=st/\∃lo hi,c=(none,lo,hi)/\lo<=hi/\hi<=n) ⟨rfl,lo,hi,rfl,h1,h2⟩ ?_ ?_;·ext x c s' E _ _ ⟨rfl,lo,hi,rfl,a1,a2⟩ dn yd;show hf x lo hi _ (λq=>dn _ _ ⟨rfl,_,_,rfl,q,a2⟩) (λm q1 q2=>{8,yd _ _ {9,_,_,9,8,a2},yd _ _ {9,_,_,9,q1,8}}) a1
  ext c s' ⟨rfl,lo,hi,rfl,_,a⟩;show hg _ _<|W.pure<|h hi a
 show W.bind<|bb hh ?_ ?_
 ·show W.fr (λc s'=>s'=st/\∃l o,c=(none,l,o)/\l<o/\hint+l<n) {9,0,1,9,8,8} ?_ ?_;·ext x c s' E _ _ ⟨rfl,l,o,rfl,a1,a3⟩ dn yd;show W.ite (λc=>W.pure<|dn _ _ ⟨rfl,l,o,rfl,a1,a3⟩) λc=>W.bind (bb (i:=hint+o) 134 (W.pure<|yd _ _ {9,o,2*o+1,9,8,134})<|W.pure<|dn _ _ ⟨rfl,l,o,rfl,a1,a3⟩)
  ext c s' ⟨rfl,l,o,rfl,a1,a3⟩;show fin (lo:=hint+l+1) (hi:=hint+min o (n -hint)) ∅ ∅ (λx lo hi P p1 p2 q=>W.ite (λc=>W.pure<|p1 q) λc=>by let(m1,m2,m3):=p2 (lo+(hi -lo)/2) ∅ 134;show W.bind<|bb m1 (W.pure m2)<|W.pure m3) λlo hi x=>x
 show W.fr (λc s'=>s'=st/\∃l o,c=(none,l,o)/\l<o/\l<=hint) {9,0,1,9,8,8} ?_ ?_;·ext x c s' E _ _ ⟨rfl,l,o,rfl,a1,a3⟩ dn yd;show W.ite (λc=>W.pure<|dn _ _ ⟨rfl,l,o,rfl,a1,a3⟩) λc=>W.bind<|bb ∅ (W.pure<|dn _ _ ⟨rfl,l,o,rfl,a1,a3⟩) (W.pure<|yd _ _ {9,o,2*o+1,9,8,134})
 ext c s' ⟨rfl,l,o,rfl,a1,a3⟩;show fin (lo:=hint+1 -min o (hint+1)) (hi:=hint -l) ∅ ∅ (λx lo hi P p1 p2 q=>W.ite (λc=>W.pure<|p1 q) λc=>by let(m1,m2,m3):=p2 (lo+(hi -lo)/2) ∅ 134;show W.bind<|bb m1 (W.pure m2)<|W.pure m3) λlo hi x=>x
variable{C:Ct}
abbrev GS(st:rc)(g:Nat):rc:=SortSt.mk' (kindOf st) (At st) (Fk st) g<|Y' st
abbrev Res(a b m:Array xL):Prop:=m.toList.Perm<|a.toList++b.toList
def Res.sw{a b m:Array xL}(h:Res b a m):Res a b m:=List.Perm.trans h kr
abbrev Pm(a b out:Array xL)(x y:List xL):Prop:=(out.toList++(x++y)).Perm<|a.toList++b.toList
def Pm.sw{a b out:Array xL}{x y:List xL}(h:Pm a b out x y):Pm b a out y x:=(rQ _ kr).trans<|h.trans kr
abbrev Pl(a b out:Array xL)(ia ib:Nat):Prop:=Pm a b out (a.toList.drop ia)<|b.toList.drop ib
abbrev Ph(a b out:Array xL)(na nb:Nat):Prop:=Pm a b out (a.toList.take na)<|b.toList.take nb
section
variable{a b out:Array xL}{ia ib:Nat}
def Pl.go(h:Pl a b out ia ib)(k:Nat):Pl a b (out++a.extract ia (ia+k)) (ia+k) ib:=by
 have e:(out++a.extract ia (ia+k)).toList++(a.toList.drop (ia+k)++b.toList.drop ib)=out.toList++(a.toList.drop ia++b.toList.drop ib):=by rw[lJ,iq,List.extract_eq_drop_take,lV,<-List.drop_drop,cH,<-cH (List.take _ _),d5]
 change List.Perm _ _;rw[e];show h
def Ur(h:ia<a.size):a.extract ia (ia+1)=#[a[ia]]:=by apply Hx;rw[iq,List.extract_eq_drop_take,lV,eE<|↑h];simp
def Pl.put(h:Pl a b out ia ib)(q:ia<a.size):Pl a b (out.push a[ia]) (ia+1) ib:=by have:=h.go 1;rw[Ur q,Array.append_singleton]at this;show this
def Pl.end(h:Pl a b out ia ib):Res a b (out++a.extract ia a.size++b.extract ib b.size):=by simpa[Res,List.extract_eq_drop_take,cS]using h
def Ph.go(h:Ph a b out ia ib){k:Nat}(q:k<=ia):Ph a b (out++(a.extract k ia).reverse) k ib:=by
 have e:a.toList.take ia=a.toList.take k++(a.extract k ia).toList:=by rw[iq,List.extract_eq_drop_take,<-List.take_add,Nat.add_sub_cancel' q]
 have h:List.Perm _ _:=h;rw[e]at h;show List.Perm.trans ?_ h;rw[lJ,A5,cH];show rQ _ ?_;rw[<-cH];show y0 _<|((Eh _).append_right _).trans kr
def Ph.put(h:Ph a b out ia ib)(q:0<ia)(z:ia<=a.size):Ph a b (out.push<|a[ia -1]'∅) (ia -1) ib:=by have:=h.go (k:=ia -1) ∅;have e:=Ur (a:=a) (ia:=ia -1) ∅;rw[Nat.sub_add_cancel q]at e;rw[e]at this;simpa using this
def Ph.end(h:Ph a b out ia ib):Res a b (a.extract 0 ia++b.extract 0 ib++out.reverse):=by show List.Perm.trans ?_ h;rw[lJ,lJ,A5,iq,iq,List.extract_eq_drop_take,List.extract_eq_drop_take,nB,nB];show kr.trans<|(Eh _).append_right _
variable{α β:Type}{Q:α->rc->Prop}{st:rc}
def W.loop{T:Type}{a b:Array xL}{lo hi g:Nat}(mc:Option (Array xL)->Array xL->Nat->Nat->T->β){f:Nat->β->StateT rc KB (ForInStep β)}{k:β->StateT rc KB α}(P:Nat->Array xL->Nat->Nat->Prop)(B:Array xL->Nat->Nat->Prop){o:Array xL}{ia ib:Nat}{t:T}(h0:P lo o ia ib)
  (he:∀o ia ib,P (max lo hi) o ia ib->False)
  (hs:∀i g o ia ib t(E:ForInStep β->rc->Prop),P i o ia ib->(∀m g o ia ib t,Res a b m->E (.done<|mc (some m) o ia ib t) (GS st g))->(∀g o ia ib t,B o ia ib->E (.done<|mc none o ia ib t) (GS st g))->(∀g o ia ib t,P (i+1) o ia ib->E (.yield<|mc none o ia ib t) (GS st g))->W C (f i<|mc none o ia ib t) E (GS st g))
  (k1:∀m g o ia ib t,Res a b m->W C (k<|mc (some m) o ia ib t) Q (GS st g)) (k2:∀g o ia ib t,B o ia ib->W C (k<|mc none o ia ib t) Q (GS st g)):W C (forIn [lo:hi] (mc none o ia ib t) f>>=k) Q (GS st g):=by
 show W.bind (W.mono (W.for (I:=λi c s'=>∃g o ia ib t,s'=GS st g/\c=mc none o ia ib t/\P i o ia ib) ?_ ?_ ⟨_,_,_,_,_,rfl,rfl,h0⟩) λ_ _ h=>h);·ext i c s' _ _ ⟨g,o,ia,ib,t,rfl,rfl,h⟩;show hs i g o ia ib t _ h k1 k2 λg o ia ib t h=>⟨g,o,ia,ib,t,rfl,rfl,h⟩
 ext c s' ⟨g,o,ia,ib,t,rfl,rfl,h⟩;show(he _ _ _ h).elim
def W.bR{l:Bool}{key:xL}{arr:Array xL}{base n hint:Nat}{f:Option Nat->StateT rc KB α}(hk:kindOf st=C.κ)(qZ:C.In key)(oh:∀x∈arr,C.In x)(hb:base+n<=arr.size)(hh:hint<n)(h:∀k,k<=n->W C (f<|some k) Q st):W C (Qe l key arr base n hint>>=f) Q st:=W.bind<|Xb hk qZ oh hb hh h
def Ss{T p:Nat->Array xL->Prop}{G:Prop}(k:(∀j o,p j o->T j o)->G)(h:∀j o,p j o->T j o):G:=k h
def both{T:Nat->Prop}{G:Prop}(k:(∀z,T z)->G)(h:∀z,T z):G:=k h
end
structure MI(a b out:Array xL)(ia ib:Nat):Prop where
 mg:Pl a b out ia ib
 la:ia+1<a.size
 lb:ib<b.size
def S5{st:rc}(hk:kindOf st=C.κ)(ha:∀x∈a,C.In x)(hb:∀x∈b,C.In x)(a1:0<a.size)(b1:0<b.size)
  (h:∀m g,Res a b m->Q m (GS st g)):W C (Mc a b) Q st:=by
 have sw:st=GS st (gallopOf st):=9;have Vd:∀{i:Nat}(q:i<a.size),C.In a[i]:=λq=>ha _<|gF q;have Vc:∀{i:Nat}(q:i<b.size),C.In b[i]:=λq=>hb _<|gF q;unfold Mc;show(W.Qw<|(W.bE b1 ?_));have m0:Pl a b #[b[0]] 0 1:=Pm.sw<|Pl.put (out:=#[]) (by change List.Perm _ _;simp) b1;show W.ite (λc=>W.pure (by rw[sw];show h _ _ m0.end)) λc1=>?_;show W.ite (λc=>W.pure (by rw[sw];show h _ _<|Res.sw<|Pl.end<|Pm.sw m0)) λc2=>?_;have l1:0+1<a.size:=by simp at c2;lia
 have l2:1<b.size:=by simp at c1;lia
 show W.bG (W.loop (T:=Nat) (a:=a) (b:=b) (g:=gallopOf st) (λr o i j t=>(r,o,i,j,t)) (λi o ia ib=>MI a b o ia ib/\i+1<=ia+ib) (λ_ _ _=>False) {⟨m0,l1,l2⟩,aw 1} ?_ ?_ ?_ λ_ _ _ _ _ h=>h.elim);·ext o ia ib ⟨⟨_,h1,h2⟩,h3⟩;lia
 ·ext i g o ia ib mg E hM dn _ yd;let(M,n1):=hM;show W.loop (T:=Nat×Nat) (λr o i j t=>(r,o,i,j,t)) (λx o i j=>MI a b o i j/\ia+ib+x<=i+j) (λo i j=>MI a b o i j/\ia+ib+1<=i+j) {M,aw _} ?_ ?_ 183 ?_;·ext o ia ib ⟨⟨_,h1,h2⟩,h3⟩;lia
  ·ext x g o ja jb t E hM dn dN yd;let(M,n2):=hM;have l1:=M.la;have l2:=M.lb;have la:=Eg l1;show W.bE l2 (W.bE la<|W.bLt hk (Vc l2) (Vd la) ?_ ?_)
   ·have m':=Pm.sw<|Pl.put (Pm.sw M.mg) l2;show W.bE l2 (W.ite (λc=>W.pure<|dn _ _ _ _ _ _<|Pl.end m') λc=>by
     have l3:jb+1<b.size:=by simp at c;lia
     show W.ite (λ_=>W.pure<|dN _ _ ja (jb+1) _ {⟨m',l1,l3⟩,8}) λ_=>W.pure<|yd _ _ ja (jb+1) _ {⟨m',l1,l3⟩,8})
   have m':=Pl.put M.mg la;show W.bE la (W.ite (λc=>W.pure<|dn _ _ _ _ _ _<|Res.sw<|Pl.end<|Pm.sw m') λc=>by
    have l3:ja+1+1<a.size:=by simp at c;lia
    show W.ite (λ_=>W.pure<|dN _ _ (ja+1) jb _ {⟨m',l3,l2⟩,8}) λ_=>W.pure<|yd _ _ (ja+1) jb _ {⟨m',l3,l2⟩,8})
  ext g o ja jb t hM;let(M',n2):=hM;show W.Qw (W.loop (T:=Nat×Nat×Nat) (λr o i j t=>(r,o,i,j,t)) (λx o i j=>MI a b o i j/\ia+ib+1+x<=i+j) (λo i j=>MI a b o i j/\ia+ib+1<=i+j) ⟨M',n2⟩ ?_ ?_ 183 λg o i j t h=>W.bM<|W.pure<|yd _ _ i j _ {h.1,by have:=h.2;lia});·ext o ia ib ⟨⟨_,h1,h2⟩,h3⟩;lia
  ext x g out ia ib t E hM dn dN yd;let(mg,ac,bc):=t;let(M,n3):=hM;have l1:=M.la;have l2:=M.lb;dsimp only;generalize mg -1=m1;revert m1 mg;show both (λkey mg m1=>W.ite (λ_=>key m1) λ_=>key mg) λmg=>?_;show W.bM<|W.bE l2 (W.bR hk (Vc l2) ha ∅ ∅ λk q1=>?_);have M2:=Pl.go M.mg k;dsimp only;generalize hja:ia+k=ja at M2⊢;generalize out++a.extract ia ja=ou at M2⊢;revert ja ou;show Ss (p:=λja ou=>Pl a b ou ja ib/\ja+1<a.size/\ia<=ja) (λR ja hja ou M2=>W.ite (λc=>W.ite (λd=>W.pure<|dn _ _ _ _ _ _<|Res.sw<|Pl.end<|Pm.sw M2) λd=>W.ite (λd2=>W.pure<|dn _ _ _ _ _ _<|Pl.end M2) λd2=>R ja ou {M2,(by simp at d d2;lia),∅}) λc=>R ia out {M.mg,l1,aw _}) λja ou hp=>?_;let(M2,l1,le):=hp;have m3:=Pm.sw<|Pl.put (Pm.sw M2) l2;show W.bE l2 (W.ite (λd=>W.pure<|dn _ _ _ _ _ _<|Pl.end m3) λd=>?_);have l3:ib+1<b.size:=by simp at d;lia
  have la:=Eg l1;show W.bE la (W.bR hk (Vd la) hb ∅ ∅ λk2 p1=>?_);have M4:=Pm.sw<|Pl.go (Pm.sw m3) k2;dsimp only;generalize hjb:ib+1+k2=jb at M4⊢;generalize ou.push b[ib]++b.extract (ib+1) jb=ov at M4⊢;revert jb ov;show Ss (p:=λjb ov=>Pl a b ov ja jb/\jb<b.size/\ib<jb) (λR jb hjb ov M4=>W.ite (λc=>W.ite (λd=>W.pure<|dn _ _ _ _ _ _<|Pl.end M4) λd=>R jb ov {M4,(by simp at d;lia),∅}) λc=>R (ib+1) (ou.push b[ib]) {m3,l3,eS _}) λjb ov hp=>?_;let(M4,l4,lb):=hp;have m5:=Pl.put M4 la;show W.bE la (W.ite (λd=>W.pure<|dn _ _ _ _ _ _<|Res.sw<|Pl.end<|Pm.sw m5) λd=>by
   have l6:ja+1+1<a.size:=by simp at d;lia
   show W.ite (λ_=>W.pure<|dN _ _ _ _ _ {⟨m5,l6,l4⟩,8}) λ_=>W.pure<|yd _ _ _ _ _ {⟨m5,l6,l4⟩,8})
 ext m g o ia ib t R;show W.pure<|h _ _ R
structure MJ(a b out:Array xL)(na nb:Nat):Prop where
 mg:Ph a b out na nb
 la:0<na/\na<=a.size
 lb:1<nb/\nb<=b.size
def S6{st:rc}(hk:kindOf st=C.κ)(ha:∀x∈a,C.In x)(hb:∀x∈b,C.In x)(a1:0<a.size)(b1:0<b.size)
  (h:∀m g,Res a b m->Q m (GS st g)):W C (Md a b) Q st:=by
 have sw:st=GS st (gallopOf st):=9;have Vd:∀{i:Nat}(q:i<a.size),C.In a[i]:=λq=>ha _<|gF q;have Vc:∀{i:Nat}(q:i<b.size),C.In b[i]:=λq=>hb _<|gF q;unfold Md;show W.Qw<|W.bE (i:=a.size -1) ∅ ?_;have m0:Ph a b #[a[a.size -1]] (a.size -1) b.size:=Ph.put (out:=#[]) (by change List.Perm _ _;simp[cS]) a1<|aw _;show W.ite (λc1=>W.pure (by rw[sw];show h _ _<|Ph.end m0)) λc1=>?_;show W.ite (λc2=>W.pure (by rw[sw];show h _ _<|Res.sw<|Ph.end<|Pm.sw m0)) λc2=>?_;have l1:0<a.size -1:=by simp at c1;lia
 have l2:1<b.size:=by simp at c2;lia
 show W.bG (W.loop (T:=Nat) (a:=a) (b:=b) (g:=gallopOf st) (λr o i j t=>(r,i,j,o,t)) (λi o na nb=>MJ a b o na nb/\na+nb+i+1<=a.size+b.size) (λ_ _ _=>False) {{m0,{l1,8},{l2,aw _}},8} ?_ ?_ ?_ λ_ _ _ _ _ h=>h.elim);·ext o na nb ⟨⟨_,h1,h2⟩,h3⟩;lia
 ·ext i g o na nb mg E hM dn _ yd;let(M,n1):=hM;have lm:=M.la;have lm':=M.lb;show W.loop (T:=Nat×Nat) (a:=a) (b:=b) (λr o i j t=>(r,i,j,o,t)) (λx o i j=>MJ a b o i j/\i+j+x<=na+nb) (λo i j=>MJ a b o i j/\i+j+1<=na+nb) {M,aw _} ?_ ?_ 183 ?_;·ext o ia ib ⟨⟨_,h1,h2⟩,h3⟩;lia
  ·ext x g o ja jb t E hM dn dN yd;let(M,n2):=hM;have l1:=M.la;have l2:=M.lb;have la:ja -1<a.size:=by lia
   have lb:jb -1<b.size:=by lia
   show W.bE lb<|W.bE la<|W.bLt hk (Vc lb) (Vd la) ?_ ?_
   ·have m':=Ph.put M.mg l1.1 l1.2;show W.bE la (W.ite (λd=>W.pure<|dn _ _ _ _ _ _<|Ph.end m') λd=>by
     have l3:0<ja -1/\ja -1<=a.size:=by simp at d;lia
     show W.ite (λ_=>W.pure<|dN _ _ (ja -1) jb _ {⟨m',l3,l2⟩,8}) λ_=>W.pure<|yd _ _ (ja -1) jb _ {⟨m',l3,l2⟩,8})
   have m':=Pm.sw<|Ph.put (Pm.sw M.mg) ∅ l2.2;show W.bE lb (W.ite (λd=>W.pure<|dn _ _ _ _ _ _<|Res.sw<|Ph.end<|Pm.sw m') λd=>by
    have l3:1<jb -1/\jb -1<=b.size:=by simp at d;lia
    show W.ite (λ_=>W.pure<|dN _ _ ja (jb -1) _ {⟨m',l1,l3⟩,8}) λ_=>W.pure<|yd _ _ ja (jb -1) _ {⟨m',l1,l3⟩,8})
  ext g o ja jb t hM;let(M',n2):=hM;show W.Qw (W.loop (a:=a) (b:=b) (λr o i j t=>(r,i,j,o,t)) (λx o i j=>MJ a b o i j/\i+j+1+x<=na+nb) (λo i j=>MJ a b o i j/\i+j+1<=na+nb) ⟨M',n2⟩ ?_ ?_ 183 λg o i j t h=>W.bM<|W.pure<|yd _ _ i j _ {h.1,by have:=h.2;lia});·ext o ia ib ⟨⟨_,h1,h2⟩,h3⟩;lia
  clear n2 M' M n1;ext x g out na nb t E hM dn dN yd;let(mg,ac,bc):=t;let(M,n3):=hM;have l1:=M.la;have l2:=M.lb;have lb:nb -1<b.size:=by lia
  dsimp only;generalize mg -1=m1;revert m1 mg;show both (λkey mg m1=>W.ite (λ_=>key m1) λ_=>key mg) λmg=>?_;show W.bM<|W.bE lb (W.bR hk (Vc lb) ha ∅ ∅ λk q1=>?_);have M2:=Ph.go M.mg q1;dsimp only;generalize out++(a.extract k na).reverse=ou at M2⊢;generalize hct:na -k=ct;revert k ou;show Ss (p:=λja ou=>Ph a b ou ja nb/\0<ja/\ja<=na) (λR k q1 ou M2 hct=>W.ite (λc=>W.ite (λd=>W.pure<|dn _ _ _ _ _ _<|Ph.end M2) λd=>R k ou {M2,(by simp at d;lia),q1}) λc=>R na out {M.mg,l1.1,aw _}) λk ou hp=>?_;let(M2,l5,le):=hp;have la:k -1<a.size:=by lia
  have m3:=Pm.sw<|Ph.put (Pm.sw M2) ∅ l2.2;show W.bE lb (W.ite (λd=>W.pure<|dn _ _ _ _ _ _<|Res.sw<|Ph.end<|Pm.sw m3) λd=>?_);show W.bE la (W.bR hk (Vd la) hb ∅ ∅ λk2 p1=>?_);have M4:=Pm.sw<|Ph.go (Pm.sw m3) p1;dsimp only;generalize ou.push b[nb -1]++(b.extract k2<|nb -1).reverse=ov at M4⊢;generalize hcv:nb -1 -k2=cv;revert k2 ov;show Ss (p:=λjb ov=>Ph a b ov k jb/\1<jb/\jb<=nb -1) (λR k2 p1 ov M4 hcv=>W.ite (λc=>W.ite (λd=>W.pure<|dn _ _ _ _ _ _<|Res.sw<|Ph.end<|Pm.sw M4) λd=>W.ite (λd2=>W.pure<|dn _ _ _ _ _ _<|Ph.end M4) λd2=>R k2 ov {M4,(by simp at d d2;lia),p1}) λc=>R (nb -1) (ou.push b[nb -1]) {m3,(by simp at d;lia),aw _}) λk2 ov hp=>?_;let(M4,l4,lk):=hp;have m5:=Ph.put M4 l5 ∅;show W.bE la (W.ite (λd=>W.pure<|dn _ _ _ _ _ _<|Ph.end m5) λd=>by
   have l6:0<k -1/\k -1<=a.size:=by simp at d;lia
   have l7:1<k2/\k2<=b.size:=by lia
   show W.ite (λ_=>W.pure<|dN _ _ (k -1) k2 _ {⟨m5,l6,l7⟩,8}) λ_=>W.pure<|yd _ _ (k -1) k2 _ {⟨m5,l6,l7⟩,8})
 ext m g o ia ib t R;show W.pure<|h _ _ R
variable{C:Ct}{st:rc}
section
variable{α:Type}{Q:α->rc->Prop}
def W.Qx{i j:Nat}{f:Option Bool->StateT rc KB α}(hk:kindOf st=C.κ)(oh:∀x∈At st,C.In x)(hi:i<(At st).size)(hj:j<(At st).size)(h1:W C (f<|some true) Q st)(h2:W C (f<|some false) Q st):W C (ltAt' i j>>=f) Q st:=W.bind (by
 show W.bG<|W.bE hi<|W.bE hj (W.lt hk (oh _<|gF _) (oh _<|gF _) λb=>by cases b<;>assumption))
def W.Sy{i j:Nat}{f:PUnit->StateT rc KB α}(h:∀a,a.Perm (At st)->W C (f ⟨⟩) Q (TW st a)):W C (reverseSlice' i j>>=f) Q st:=W.bind (by
 show W.modify<|h _<|mirror_perm _ _ _ _)
def Ig{T p:Array xL->Prop}{G:Prop}(k:(∀a,p a->T a)->G)(h:∀a,p a->T a):G:=k h
def W.GN{α β U V:Type}{Q:α->rc->Prop}{lo hi:Nat}{f:Nat->β->StateT rc KB (ForInStep β)}{k:β->StateT rc KB α}(mc:Nat->U->V->β)(ms:U->V->rc)(P:Nat->U->V->Prop)(B:Nat->Prop){u:U}{v:V}(h0:P lo u v)(he:B (max lo hi))(hB:∀i,lo<=i->i<hi->B i)
  (hs:∀i u v(E:ForInStep β->rc->Prop),lo<=i->i<hi->P i u v->E (.done<|mc i u v) (ms u v)->(∀u v,P (i+1) u v->E (.yield<|mc (i+1) u v) (ms u v))->W C (f i<|mc i u v) E (ms u v))
  (hk:∀x u v,B x->P x u v->W C (k<|mc x u v) Q (ms u v)):W C (forIn [lo:hi] (mc lo u v) f>>=k) Q (ms u v):=by
 show W.bind (W.mono (W.for (I:=λi c s'=>∃u v,s'=ms u v/\c=mc i u v/\P i u v) ?_ ?_ ⟨_,_,rfl,rfl,h0⟩) λ_ _ h=>h);·ext i c s' h1 h2 ⟨u,v,rfl,rfl,h⟩;show hs i u v _ h1 h2 h (hk i u v (hB i h1 h2) h) λu v h=>⟨u,v,rfl,rfl,h⟩
 ext c s' ⟨u,v,rfl,rfl,h⟩;show hk _ _ _ he h
def in_of{a a':Array xL}(m:a'.Perm a)(h:∀x∈a,C.In x):∀x∈a',C.In x:=λx hx=>h x<|m.mem_iff.mp hx
end
def w_count{lo nrem:Nat}(hk:kindOf st=C.κ)(oh:∀x∈At st,C.In x)(h1:1<=nrem)(hs:lo+nrem<=(At st).size)
  (h:∀m a',a'.Perm (At st)->1<=m->m<=nrem->Q (some m) (TW st a')):W C (countRun' lo nrem) Q st:=by
 have sw:st=TW st (At st):=9;show W.GN (U:=PUnit) (V:=PUnit) (λx _ _=>(none,x)) (λ_ _=>st) (λ_ _ _=>True) (λn=>1<=n/\n<=nrem) (u:=⟨⟩) (v:=⟨⟩) trivial ∅ (λi a b=>by lia) ?_ ?_;·ext x _ _ E Vi Vh _ dn yd;show W.Qx hk oh ∅ ∅ (W.pure dn) (W.pure<|yd ⟨⟩ ⟨⟩ trivial)
 ext n _ _ hn _;let(n1,n2):=hn;show W.ite (λc=>W.pure (by rw[sw];show h n _ (.refl _) n1 n2)) λc=>?_;have n3:n<nrem:=by simp at c;lia
 show Ig (λR=>W.ite (λc=>W.Qx hk oh ∅ ∅ (W.pure (by rw[sw];show h n _ (.refl _) n1 n2)) (W.Sy λa0 ea=>R a0 ea)) λc=>R (At st)<|.refl _) λa0 M0=>?_;show W.Qw<|W.GN (λx _ q=>(none,x,q)) (λa _=>TW st a) (λ_ a' _=>a'.Perm<|At st) (λm=>n+1<=m/\m<=nrem) M0 ∅ (λi a b=>{a,8}) ?_ ?_
 ·ext x a' q E Vi Vh M dn yd;have sz:=M.size_eq;show W.Qx (i:=lo+x) (j:=lo+x -1) hk (in_of M oh) (by change _<a'.size;lia) (by change _<a'.size;lia) (W.ite (λ_=>W.ite (λ_=>W.Sy λa2 m2=>W.pure<|yd a2 0<|m2.trans M) λ_=>W.pure<|yd a' 0 M) λz=>absurd 9 z)
   (W.Qx (i:=lo+x -1) (j:=lo+x) hk (in_of M oh) (by change _<a'.size;lia) (by change _<a'.size;lia) (W.pure dn)<|W.pure<|yd a' (q+1) M)
 ext m a' q hp M;show Ig (λR=>W.ite (λ_=>W.Sy λa2 ea=>R a2<|ea.trans M) λ_=>R a' M) λa2 M2=>?_;show W.Sy λa3 ea=>?_;have M3:=ea.trans M2;have sz:=M3.size_eq;show W.GN (U:=PUnit) (V:=PUnit) (λx _ _=>(none,x)) (λ_ _=>TW st a3) (λ_ _ _=>True) (λr=>m<=r/\r<=nrem) (u:=⟨⟩) (v:=⟨⟩) trivial (by change m<=max m nrem/\max m nrem<=nrem;lia) (λi a b=>{a,8}) ?_ λr _ _ hr _=>W.pure<|h r _ M3 ∅ hr.2;ext x _ _ E Vi Vh _ dn yd;show W.Qx hk (in_of M3 oh) (by change _<a3.size;lia) (by change _<a3.size;lia) (W.pure dn)<|W.pure<|yd ⟨⟩ ⟨⟩ trivial
def afx{lo n ok:Nat}(hk:kindOf st=C.κ)(oh:∀x∈At st,C.In x)(hs:lo+n<=(At st).size)
  (h:∀a',a'.Perm (At st)->Q true (TW st a')):W C (binarySort' lo n ok) Q st:=by
 show W.GN (V:=PUnit) (λ_ _ _=>(none,())) (λa _=>TW st a) (λ_ a' _=>a'.Perm<|At st) (λ_=>True) (v:=⟨⟩) (.refl _) trivial (λ_ _ _=>trivial) ?_ λ_ a' _ _ M=>W.pure<|h a' M;ext k a' _ E k1 k2 M dn yd;have sz:=M.size_eq;show W.GN (λ_ l r=>(none,l,r)) (λ_ _=>TW st a') (λ_ l r=>l<=r/\r<=k) (λ_=>True) {8,8} trivial (λ_ _ _=>trivial) ?_ ?_;·ext x l r E _ hx hp dn yd;show W.ite (λc=>W.pure dn) λc=>W.Qx (j:=lo+(l+r)/2) hk (in_of M oh) (by change _<a'.size;lia) (by change _<a'.size;dsimp only at c;lia) (W.pure<|yd l ((l+r)/2) {8,134})<|W.pure<|yd ((l+r)/2+1) r {134,hp.2}
 ext _ l r _ hp;show W.bM<|W.pure<|yd (bubble a' (lo+k)<|lo+k -(lo+l)) ⟨⟩<|(bubble_perm _ _ _).trans M
variable{C:Ct}{st:rc}
def W.set(h:Q ⟨⟩ s'):W C (set s':StateT rc KB PUnit) Q st:=λs j=>by rw[StateT.run_set];show ah ⟨j,h⟩
def abx(sa:Nat):∀(l:List xL)(n:Nat)(a:Array xL),sa+n+l.length<=a.size->((l.zipIdx n).foldl (λa(x:xL×Nat)=>a.setIfInBounds (sa+x.2) x.1) a).toList=a.toList.take (sa+n)++l++a.toList.drop (sa+n+l.length):=by
 ext l
 induction l with
 |nil=>ext n a h;rw[eO];show(d5 _ _).symm
 |cons x l ih=>
  ext n a h;rw[bJ]at h⊢;rw[xq,gJ,ih (n+1) _ (by rw[Array.size_setIfInBounds];lia),vB];rw[show sa+(n+1)=sa+n+1 by lia,List.take_succ_eq_append_getElem (by rw[yq];show(by rw[aZ];lia)),List.getElem_set_self,List.take_set_of_le<|aw _,List.drop_set_of_lt ∅,cH,cH,cH,show sa+n+1+l.length=sa+n+(l.length+1) by lia];rfl
def S7(hk:kindOf st=C.κ)(hf:Y' st=none)(oh:∀x∈At st,C.In x)(e1:(Fk st)[i]?>(sa,na,pw))(e2:(Fk st)[i+1]?>(sb,nb,x))(hsb:sb=sa+na)(na1:0<na)(nb1:0<nb)(sz:sb+nb<=(At st).size)
  (h:∀a' g,a'.Perm (At st)->Q true (SortSt.mk' (kindOf st) a' (((Fk st).setIfInBounds i (sa,na+nb,pw)).eraseIdxIfInBounds<|i+1) g none)):W C (mergeAt' i) Q st:=by
 show(W.bG ?_);rw[e1,e2];have nx:∀{g:Nat}{a':Array xL},a'.Perm (At st)->Q true (SortSt.mk' (kindOf st) a' (((Fk st).setIfInBounds i (sa,na+nb,pw)).eraseIdxIfInBounds<|i+1) g<|Y' st):=λm=>hf▸h _ _ m;show W.bind<|W.set<|W.bE (a:=At st) ∅ (W.bR (arr:=At st) hk (oh _<|gF _) oh ∅ na1 λk q1=>?_);show W.ite (λc=>W.pure<|nx<|.refl _) λc=>?_;have c:k<na:=by simp at c;lia
 show W.bE (a:=At st) ∅ (W.bR hk (oh _<|gF _) oh ∅ ∅ λnc p1=>?_);show W.ite (λc=>W.pure<|nx<|.refl _) λc2=>?_;have c2:0<nc:=by simp at c2;lia
 have hx:∀{l h:Nat},∀x∈(At st).extract l h,C.In x:=λx hx=>oh x (by
  have hx:=nX.mpr hx;rw[iq,List.extract_eq_drop_take]at hx;show nX.mp<|AZ<|dE hx)
 have l1:0<((At st).extract (sa+k) sb).size:=by rw[pS];lia
 have l2:0<((At st).extract sb<|sb+nc).size:=by rw[pS];lia
 have fin:∀(m:Array xL),Res ((At st).extract (sa+k) sb) ((At st).extract sb<|sb+nc) m->(m.toList.zipIdx.foldl (λa(x:xL×Nat)=>a.setIfInBounds (sa+k+x.2) x.1)<|At st).Perm (At st):=λm pm=>by
  have lm:m.toList.length=sb+nc -(sa+k):=by rw[pm.length_eq,aG,aZ,aZ,pS,pS];lia
  have pl:=abx (sa+k) m.toList 0 (At st) ∅;rw[lm,sP,show sa+k+(sb+nc -(sa+k))=sb+nc by lia]at pl;show vC.mpr ?_;rw[pl];have e:(At st).toList=(At st).toList.take (sa+k)++(((At st).extract (sa+k) sb).toList++((At st).extract sb<|sb+nc).toList)++(At st).toList.drop (sb+nc):=by
   have e':((At st).extract (sa+k) sb).toList++((At st).extract sb<|sb+nc).toList=((At st).toList.drop<|sa+k).take (sb+nc -(sa+k)):=by rw[<-lJ,Array.extract_append_extract,jy ∅,Nat.max_eq_right ∅,iq,List.extract_eq_drop_take]
   rw[e']
   conv=>lhs;rw[<-d5 (sb+nc) (At st).toList,<-d5 (sa+k) ((At st).toList.take<|sb+nc)]
   rw[List.take_take,jy ∅,List.drop_take]
  conv=>rhs;rw[e]
  show y0 _<|rQ _ pm
 show W.ite (λ_=>W.bind (S5 hk hx hx l1 l2 λm g R=>?_)) (λ_=>W.bind (S6 hk hx hx l1 l2 λm g R=>?_));all_goals
  show(W.bM<|(W.bG<|W.pure ?_));have e9:Option.isNone (Y' st)=true:=by rw[hf];rfl
  rw[e9];show nx<|fin m R
abbrev R3:=Nat×Nat×Nat
def Rn:Nat->List R3->Nat->Prop
 |b,[],e=>b=e
 |b,r::l,e=>r.1=b/\0<r.2.1/\Rn (b+r.2.1) l e
theorem Rn.le:∀{l:List R3}{b e:Nat},Rn b l e->b+l.length<=e
 |[],b,e,h=>by rw[show b=e from h];show aw _
 |r::l,b,e,⟨_,h1,h⟩=>by have:=h.le;rw[bJ];lia
theorem Rn.app:∀{l m:List R3}{b e:Nat},Rn b (l++m) e↔∃k,Rn b l k/\Rn k m e
 |[],m,b,e=>{λh=>⟨b,rfl,h⟩,λzq=>by let(k,h1,h2):=zq;rw[show b=k from h1];show h2}
 |r::l,m,b,e=>⟨λ⟨h1,h2,h4⟩=>by let(k,q1,q2):=Rn.app.mp h4;show{k,⟨h1,h2,q1⟩,q2},λzq=>by obtain⟨k,⟨h1,h2,q1⟩,q2⟩:=zq;show{h1,h2,Rn.app.mpr ⟨k,q1,q2⟩}⟩
def Rn.pow{l:List R3}{r:R3}{p b e:Nat}(h:Rn b (l++[r]) e):Rn b (l++[(r.1,r.2.1,p)]) e:=by let(k,h1,h2):=Rn.app.mp h;show Rn.app.mpr ⟨k,h1,h2⟩
def Zw{i:Nat}{r s:R3}(h1:l[i]?>r)(h2:l[i+1]?>s):∃m n,l=m++r::s::n/\m.length=i:=by
 let(q1,e1):=aq.mp h1;let(q2,e2):=aq.mp h2;show{l.take i,l.drop<|i+2,?_,by rw[bo];lia}
 conv=>lhs;rw[<-d5 i l,eE q1,eE q2,e1,e2]
abbrev SS(st:rc)(a:Array xL)(P:Array R3)(g:Nat):rc:=SortSt.mk' (kindOf st) a P g none
def acT(hk:kindOf st=C.κ)(oh:∀x∈a,C.In x)(hr:Rn 0 P.toList e)(he:e<=a.size)(hi:i+1<P.size)
  (h:∀a' P' g,a'.Perm a->P'.size+1=P.size->Rn 0 P'.toList e->Q true (SS st a' P' g)):W C (mergeAt' i) Q (SS st a P g):=by
 have q1:P.toList[i]?>P[i]'∅:=by rw[cA,getElem?_pos]
 have q2:P.toList[i+1]?>P[i+1]'hi:=by rw[cA,getElem?_pos]
 let(m,n,el,lm):=Zw q1 q2;rw[el]at hr;let(b,r1,r2,r3,r5,r6,r8):=Rn.app.mp hr;have r9:=r8.le;generalize P[i]'∅=x at*;generalize P[i+1]'hi=y at*;show S7 hk rfl oh (by rw[<-cA];show q1) (by rw[<-cA];show q2) ∅ r3 r6 (by change y.1+y.2.1<=a.size;lia) λa' g' pm=>?_;have V9:(((P.setIfInBounds i (x.1,x.2.1+y.2.1,x.2.2)).eraseIdxIfInBounds<|i+1)).toList=m++(x.1,x.2.1+y.2.1,x.2.2)::n:=by rw[Array.toList_eraseIdxIfInBounds,vB,el];subst lm;simp;rw[List.eraseIdx_append_of_length_le ∅,show m.length+1 -m.length=1 by lia];rfl
 show h a' _ g' pm ?_ ?_;·rw[<-aZ,V9,<-aZ,el];simp;lia
 rw[V9];show Rn.app.mpr {b,r1,r2,by dsimp only;lia,by rw[show b+(x.2.1+y.2.1)=b+x.2.1+y.2.1 by lia];show r8}
abbrev S3(C:Ct)(a:Array xL)(P:Array R3)(g:Nat):rc:=SortSt.mk' C.κ a P g none
def Rn.push{P:Array R3}{lo n:Nat}(h:Rn 0 P.toList lo)(hn:0<n):Rn 0 (P.push (lo,n,0)).toList (lo+n):=by rw[vR];show Rn.app.mpr ⟨lo,h,rfl,hn,rfl⟩
def Rn.agM{P:Array R3}{lo pw:Nat}(h:Rn 0 P.toList lo)(hp:0<P.size):Rn 0 (P.modify (P.size -1) λx=>(x.1,x.2.1,pw)).toList lo:=by
 have ne:P.toList≠[]:=λz=>by rw[<-aZ,z]at hp;show absurd hp 7
 have e:(P.modify (P.size -1) λx=>(x.1,x.2.1,pw)).toList=P.toList.dropLast++[((P.toList.getLast ne).1,(P.toList.getLast ne).2.1,pw)]:=by rw[Array.toList_modify,List.modify_eq_take_cons_drop<|↑(Nat.sub_lt hp Nat.one_pos),List.drop_of_length_le (by simp;lia),List.dropLast_eq_take,List.getLast_eq_getElem];simp
 rw[e];rw[<-List.dropLast_concat_getLast ne]at h;show h.pow
def agp{T p:Nat->Array xL->Prop}{G:Prop}(k:(∀n b,p n b->T n b)->G)(h:∀n b,p n b->T n b):G:=k h
def W.agZ{α:Type}{c:Prop}{_:Decidable c}{x y:StateT rc KB α}{Q:α->rc->Prop}{st:rc}(h2:¬c->W C y Q st)(h1:c->W C x Q st):W C (if c then x else y) Q st:=W.ite h1 h2
def W.RO{α β:Type}{Q:α->rc->Prop}{lo hi g:Nat}{f:Nat->β->StateT rc KB (ForInStep β)}{k:β->StateT rc KB α}(mc:Nat->β)(I:Array xL->Array R3->Nat->Prop){a:Array xL}{p:Array R3}{l:Nat}(h0:I a p l)
  (hs:∀i a p g l(E:ForInStep β->rc->Prop),I a p l->(∀a p g l,I a p l->E (.done<|mc l) (S3 C a p g))->(∀a p g l,I a p l->E (.yield<|mc l) (S3 C a p g))->W C (f i<|mc l) E (S3 C a p g))
  (hk:∀a p g l,I a p l->W C (k<|mc l) Q (S3 C a p g)):W C (forIn [lo:hi] (mc l) f>>=k) Q (S3 C a p g):=by
 show W.fr (λc s'=>∃a p g l,s'=S3 C a p g/\c=mc l/\I a p l) ⟨_,_,_,_,rfl,rfl,h0⟩ ?_ ?_;·ext i c s' E _ _ ⟨a,p,g,l,rfl,rfl,h⟩ dn yd;show hs i a p g l E h (λa p g l h=>dn _ _ ⟨a,p,g,l,rfl,rfl,h⟩) λa p g l h=>yd _ _ ⟨a,p,g,l,rfl,rfl,h⟩
 ext c s' ⟨a,p,g,l,rfl,rfl,h⟩;show hk _ _ _ _ h
def acS(oh:∀x∈a0,C.In x)(h:∀a' P g,a'.Perm a0->Q () (S3 C a' P g)):W C sortRuns' Q (S3 C a0 #[] g0):=by
 unfold sortRuns';show(W.bG ?_);generalize hN:a0.size=N at*;show W.RO (g:=g0) (λl=>(none,l)) (λa P lo=>a.Perm a0/\Rn 0 P.toList lo/\lo<=N) {.refl _,9,aQ _} ?_ ?_
 ·ext x a P g lo E hp dn yd;let(pm,rn,l2):=hp;have sz:a.size=N:=by rw[pm.size_eq,hN]
  have ia:∀x∈a,C.In x:=λx hx=>oh x<|pm.mem_iff.mp hx;show W.ite (λ(c:lo≥N)=>W.pure<|dn a P g lo ⟨pm,rn,l2⟩) λ(c:¬lo≥N)=>?_;show W.bind<|w_count (lo:=lo) (nrem:=N -lo) 9 ia ∅ (show lo+(N -lo)<=a.size by lia) ?_;show agp (p:=λn b=>0<n/\lo+n<=N/\b.Perm a) (λkey m a1 mv m1 m2=>W.agZ (λc1=>key m a1 {m1,8,mv}) λc1=>W.Qw<|W.bind (afx (lo:=lo) (ok:=m) 9 (in_of mv ia) ?_ λa2 mv2=>W.ite (λz=>by simp at z) λ_=>key _ a2 {?_,?_,Array.Perm.trans mv2 mv})) ?_;·have sz1:=DI mv;change lo+min (N -lo) (minRun' N N 0)<=a1.size;have:(At<|S3 C a P g).size=a.size:=9;lia
  ·have c1:=c1;lia
  ·lia
  ext m a1 ⟨n1,n2,mv⟩;have pm1:a1.Perm a0:=mv.trans pm;show(W.bG ?_);cases hb:P.back? with
  |none=>show W.bM<|W.pure<|yd a1 (P.push (lo,m,0)) g (lo+m) {pm1,rn.push n1,8}
  |some r=>
   let(s1,k1,w1):=r;have p0:0<P.size:=by
    rcases Nat.eq_zero_or_pos P.size with z|z;·rw[Array.back?_eq_getElem?,getElem?_neg P _ ∅]at hb;cases hb
    show z
   show W.RO (λ_=>(none,())) (λa2 P2 _=>a2.Perm a1/\Rn 0 P2.toList lo/\0<P2.size) (l:=0) {.refl _,rn,p0} ?_ ?_
   ·ext y a2 P2 g2 _ E hp dn yd;let(Bb,IU,p2):=hp;show(W.bG ?_);by_cases c:P2.size⊃1
    ·have e1:(if(Fk<|S3 C a2 P2 g2).size⊃1 then(Fk<|S3 C a2 P2 g2)[(Fk<|S3 C a2 P2 g2).size -2]? else none)>((P2[P2.size -2]'∅).1,(P2[P2.size -2]'∅).2.1,(P2[P2.size -2]'∅).2.2):=by rw[aN c,getElem?_pos P2 (P2.size -2) ∅]
     dsimp only;rw[e1];show W.ite (λ_=>W.pure<|dn _ _ _ 0 ⟨Bb,IU,p2⟩) λ_=>W.bind (acT (st:=S3 C a2 P2 g2) (e:=lo) 9 (in_of (Bb.trans mv) ia) IU (by rw[Bb.size_eq,DI mv];change lo<=a.size;lia) (show P2.size -2+1<P2.size by lia) λa3 P3 g3 q1 q2 q3=>W.pure<|yd a3 P3 g3 0 {q1.trans Bb,q3,8})
    have e1:(if(Fk<|S3 C a2 P2 g2).size⊃1 then(Fk<|S3 C a2 P2 g2)[(Fk<|S3 C a2 P2 g2).size -2]? else none)=none:=aL c;dsimp only;rw[e1];show W.pure<|dn _ _ _ 0 ⟨Bb,IU,p2⟩
   ext a2 P2 g2 _ hp;let(Bb,IU,p2):=hp;show W.bM<|W.bM<|W.pure<|yd a2 _ g2 (lo+m) {Bb.trans pm1,Rn.push (IU.agM p2) n1,8}
 ext a P g lo hp;let(pm,rn,l2):=hp;show W.RO (λ_=>(none,())) (λa2 P2 _=>a2.Perm a0/\Rn 0 P2.toList lo) (l:=0) ⟨pm,rn⟩ ?_ λa2 P2 g2 _ hp=>W.pure<|h a2 P2 g2 hp.1;ext y a2 P2 g2 _ E hp dn yd;let(Bb,IU):=hp;show(W.bG (W.ite (λc=>W.pure<|dn _ _ _ 0 ⟨Bb,IU⟩) λc=>?_));have c:1<P2.size:=Nat.lt_of_not_le c;show W.bind (acT (st:=S3 C a2 P2 g2) (e:=lo) 9 (in_of Bb oh) IU (by rw[Bb.size_eq,hN];lia) ?_ λa3 P3 g3 q1 q2 q3=>W.pure<|yd a3 P3 g3 0 {q1.trans Bb,q3});have two:∀{c:Prop}[Decidable c],(if c then P2.size -2 -1 else P2.size -2)+1<P2.size:=λ{c} _=>by
  by_cases z:c;·rw[aN z];lia
  rw[aL z];lia
 show two
end Tim
namespace Br
open PySem PySem.W PyProof.Rows PySem.Calls
section
variable{prog:io}{w:i6}{A:ss}{E:Aac}{s:f8}{vs:Aae}
def Tk(s s':f8):Prop:=∃t,s'={s with toks:=t}
def Tk.refl(s:f8):Tk s s:={21,9}
abbrev mM(h:nw)(a:cr)(vs:Aae):nw:=((h.update a 164).push<|x0 "tuple" vs.toArray 0).push<|x0 "list" #[] 0
def OZ(ho:s.heap.get? a>x0 "list" vs.toArray n)(h2:2<=vs.length)(Bk:vs.length<1000000)
  (hk:∀s',Tk 132 s'->f' 85 A (keyKind' vs.toArray) (λk s2=>k=κ/\Tk 132 s2) (λ_ _=>False) s')
  (hc:∀x∈vs,∀y∈vs,∀s',Tk 132 s'->f' 85 A (keyLt' κ x y) (λ_ s2=>Tk 132 s2) (λ_ _=>False) s')
  (k:∀(us:Aae)(h':nw)(tk c:Nat),us.Perm vs->h'.get? a>x0 "list" us.toArray c->(∀b o,b≠a->s.heap.get? b>o->h'.get? b>o)->P (.done<|.ret .none) 77):
  f' 85 A (Builtin.«list.sort» {[-a],[]}) P E s:=by
 obtain⟨e1,Cz⟩:∃e1,(s.heap.update a 164).get? a>x0 "list" #[] e1:={_,FS ho λ_=>#[]};have G3:(mM s.heap a vs).get? a>x0 "list" #[] e1:=ao _<|ao _ Cz;have HM:∀b o,b≠a->s.heap.get? b>o->(mM s.heap a vs).get? b>o:=λb o nb q=>ao _<|ao _<|(cj s.heap a _).extBut b o nb q;rw[list_sort_plain];show ae<|listItems_at ho 9 ?_;show ae<|ve ho 9 ?_ (by rw[aT,bW];lia) (aQ _);show ae<|yD Cz 9 ?_;show ae<|tW ?_ (by change vs.length<=_;rw[bW];lia);show ae<|qQ ?_ (aQ _);show bP ?_;have big:¬vs.toArray.size<2:=by rw[aT];lia
 rw[aL big,aL big];show ae (dy (hk _<|Tk.refl _) (λkd s0 hq=>?_) λ_ _ x=>x.elim);let(rfl,t0):=hq
 let C:Tim.Ct:={prog,w,A,Tk 132,kd,λx=>x.2=x.1/\x.1∈vs,λx y hx hy s' tk=>hc x.1 hx.2 y.1 hy.2 s' tk}
 have hz:∀x∈vs.toArray.zip vs.toArray,x.2=x.1/\x.1∈vs:=λx hx=>by let(i,hi,e):=jz.mp<|↑hx;rw[List.getElem_zip]at e;rw[<-e];show{9,lG _}
 have ahE:=Tim.acS (C:=C) (g0:=07) (Q:=λ_ j4=>∃a',At j4=a'/\Y' j4=none/\a'.Perm (vs.toArray.zip vs.toArray)) hz (λa' P g p=>⟨a',rfl,rfl,p⟩) s0 t0;show ae (dy ahE ?_ λ_ _ e=>e.elim);ext⟨⟨⟩,j4⟩ s' ⟨⟨tk,rfl⟩,a',ea,hf,pm⟩;have sz:a'.size=vs.length:=by rw[pm.size_eq,Array.size_zip,aT,Nat.min_self]
 obtain⟨out,eo⟩:∃out,out=a'.toList.map (·.2):=⟨_,rfl⟩;have e2:(At j4).map (·.2)=out.toArray:=by rw[ea,eo];apply Hx;rw[Array.toList_map]
 have lp:out.length=vs.length:=by rw[eo,af,aZ,sz]
 have po:out.Perm vs:=by rw[eo];have:=(vC.mp pm).map (·.2);show this.trans ?_;rw[List.zip_toArray];rw[xt<|aw _]
 dsimp only;rw[e2];obtain⟨c2,G2⟩:∃c2,((mM s.heap a vs).update a (Obj.mapSeq λ_=>out.toArray)).get? a>x0 "list" out.toArray c2:={_,FS G3 λ_=>out.toArray};show ae<|yD G3 9 ?_;show ae<|ve G3 9 ?_ (aQ _) (by rw[aT,lp,bW];lia);rw[hf];simp only[Ec,dq,gh];show ah (k out _ tk c2 po G2 λb o nb q=>(cj (mM s.heap a vs) a _).extBut b o nb<|HM b o nb q)
def K2(ho:s.heap.get? a>x0 "list" vs.toArray n)(h2:vs.length<2)
  (k:∀(h':nw)(c:Nat),h'.get? a>x0 "list" vs.toArray c->(∀b o,b≠a->s.heap.get? b>o->h'.get? b>o)->P (.done<|.ret .none) (s\h')):
  f' 85 A (Builtin.«list.sort» {[-a],[]}) P E s:=by
 obtain⟨e1,Cz⟩:∃e1,(s.heap.update a 164).get? a>x0 "list" #[] e1:={_,FS ho λ_=>#[]};have G3:(mM s.heap a vs).get? a>x0 "list" #[] e1:=ao _<|ao _ Cz;have HM:∀b o,b≠a->s.heap.get? b>o->(mM s.heap a vs).get? b>o:=λb o nb q=>ao _<|ao _<|(cj s.heap a _).extBut b o nb q;rw[list_sort_plain];show ae<|listItems_at ho 9 ?_;show ae<|ve ho 9 ?_ (by rw[aT,bW];lia) (aQ _);show ae<|yD Cz 9 ?_;show ae<|tW ?_ (by change vs.length<=_;rw[bW];lia);show ae<|qQ ?_ (aQ _);show bP ?_;have jk:vs.toArray.size<2:=by rw[aT];lia
 rw[aN jk,aN jk];show ae 92;show ae 92;dsimp only;have es:(At<|SortSt.mk' general' (vs.toArray.zip vs.toArray) #[] 07 none).map (·.2)=vs.toArray:=by apply xC.mp;simp[xt]
 rw[es];obtain⟨c2,G2⟩:∃c2,((mM s.heap a vs).update a (Obj.mapSeq λ_=>vs.toArray)).get? a>x0 "list" vs.toArray c2:={_,FS G3 λ_=>vs.toArray};show ae<|yD G3 9 ?_;show ae<|ve G3 9 ?_ (aQ _) (by rw[aT,bW];lia);simp only[Ec,dq,gh];show ah (k _ c2 G2 λb o nb q=>(cj (mM s.heap a vs) a _).extBut b o nb<|HM b o nb q)
end
inductive p9:Aaf->Aae->Prop where
 |nil:p9 [] []
 |cons {z:i9} {t:Tok} {zs:Aaf} {vs:Aae}:p9 zs vs->p9 (z::zs) (.str z t::vs)
def TupIs(h:nw)(v:i5)(zs:Aaf):Prop:=∃a o aM n,v=-a/\h.get? a>o/\o.cls=.type "tuple"/\o.data=.seq aM n/\p9 zs aM.toList
def TupIs.mono(x:TupIs h v zs)(kp:∀b o,h.get? b>o->h'.get? b>o):TupIs h' v zs:=by let(a,o,aM,n,e,ho,r):=x;show{a,o,aM,n,e,kp _ _ ho,r}
section
variable{prog:io}{w:i6}{A:ss}{E:Aac}{s:f8}
def eq_str(h:Q (decide (a=b)) s):f' 85 A (eqBool (.str a t)<|.str b u) Q E s:=
 (PySem.strKind prog w).eqBool (Gd _ _ _ _) (Gd _ _ _ _) h
def ab4{xs:Aaf}{vs:Aae}(h1:p9 xs vs):∀{ys:Aaf}{us:Aae}(i:Nat)(s:f8),p9 ys us->(fin=decide (42<48))->(∀b,C b s)->KatLex prog w A true fin C (vs.zip us) i s:=by
 induction h1 with
 |nil=>
  ext ys us i s h2 hf h;show kat_nil<|h _
 |@cons a xs vs t r1 ih=>
  ext ys us i s h2 hf h;cases h2 with
  |nil=>
   show kat_nil<|h _
  |@cons b ys us u r2=>
   show kat_cons<|eq_str ?_;by_cases e:a=b;·rw[bD e];show kat_yes<|ih (i+1) s r2 ?_ h;rw[hf];simp
   rw[bQ e];show kat_no ?_;cases i with
   |zero=>show oneLt_str<|h _
   |succ i=>
    have e2:(true&&(i+1==0))=false:=by simp
    show kat_one _ _<|BB<|h _
def aea(hx:TupIs s.heap x xs)(hy:TupIs s.heap y ys)(h:∀b,C b s):f' 85 A (keyLt' (Wp true) x y) C E s:=by
 let(a,o,aM,n,rfl,ho,hc,hd,hr):=hx;let(b,p,GO,m,rfl,hp,hpc,hpd,hq):=hy;show kat_lt ho hd hp hpd<|ab4 hr 0 s hq ?_ h;have len:∀{zs:Aaf}{vs:Aae},p9 zs vs->28=vs.length:=by
  ext zs vs r
  induction r with
  |nil=>rfl
  |cons _ ih=>simp[ih]
 rw[len hr,len hq,aZ,aZ]
def Yu{vs:Aae}{rows:R1}{Q:SortKind->f8->Prop}(hl:vs.length=rows.length)(h2:2<=vs.length)(ht:∀(i:Nat) v r,vs[i]?>v->rows[i]?>r->TupIs s.heap v r)(gO:∀r∈rows,r≠[])(h:Q (Wp true) s):f' 85 A (keyKind' vs.toArray) Q E s:=by
 have key:∀(vs:Aae)(rows:R1),vs.length=rows.length->(∀(i:Nat) v r,vs[i]?>v->rows[i]?>r->TupIs s.heap v r)->(∀r∈rows,r≠[])->∃fs,KatTups s.heap vs fs/\fs.length=vs.length/\∀f∈fs,∃z t,f=Value.str z t:=by
  ext vs
  induction vs with
  |nil=>ext rows hl _ _;show{[],KatTups.nil,9,λf hf=>nomatch hf}
  |cons v vs ih=>
   ext rows hl ht gO;cases rows with
   |nil=>simp at hl
   |cons r rows=>
    let(fs,h1,h2,h3):=ih rows (↑hl) (λi v' r' e1 e2=>ht (i+1) v' r' (↑e1)<|↑e2) λr' hr=>gO r'<|az _ hr;let(a,o,aM,n,rfl,ho,hc,hd,hr):=ht 0 v r rfl rfl;cases r with
    |nil=>show(gO [] ay 9).elim
    |cons z zs=>
     generalize eL:aM.toList=L at hr;cases hr with
     |@cons _ t _ xN vI=>
      show{.str z t::fs,KatTups.cons ho hc hd (by rw[<-cA,eL];rfl) h1,by simp[h2],λf hf=>?_};rcases aK.mp hf with rfl|hf;·show⟨z,t,rfl⟩
      show h3 f hf
 let(fs,h1,h3,h4):=key vs rows hl ht gO;show kat_kind (T:=.type "str") h1 ∅ (λv hv=>?_) 7 ?_;·let(z,t,rfl):=h4 v hv;show Looks.of_pure rfl
 have e:((Value.type "str") !=Value.type "tuple")=true:=by decide
 show h
def TC{a:cr}{n:Nat}{vs:Aae}{rows:R1}{P:PySem.Fin->f8->Prop}(ho:s.heap.get? a>x0 "list" vs.toArray n)(hl:vs.length=rows.length)(ht:∀(i:Nat) v r,vs[i]?>v->rows[i]?>r->TupIs s.heap v r)(gO:2<=rows.length->∀r∈rows,r≠[])(Bk:vs.length<1000000)
  (k:∀(h':nw)(tk c:Nat)(us:Aae),h'.get? a>x0 "list" us.toArray c->(∀b o,b≠a->s.heap.get? b>o->h'.get? b>o)->us.Perm vs->P (.done<|.ret .none) 77):
  f' 85 A (Builtin.«list.sort» {[-a],[]}) P E s:=by
 by_cases c2:vs.length<2;·show K2 ho c2 λh' c g kp=>k h' 21 c vs g kp<|.refl _
 have na:∀v r,TupIs s.heap v r->v≠ .ref a:=λv r x z=>by let(b,o,aM,m,rfl,hb,hc,__):=x;cases z;rw[ho]at hb;cases hb;injection hc with z;show absurd z 7
 have GX:∀s',Tk 132 s'->∀(i:Nat) v r,vs[i]?>v->rows[i]?>r->TupIs s'.heap v r:=λs' ⟨t,e⟩ i v r e1 e2=>by subst e;have x:=ht i v r e1 e2;have ne:=na v r x;let(b,o,aM,m,rfl,hb,r):=x;show{b,o,aM,m,9,ao _<|ao _<|(cj s.heap a _).extBut b o (λz=>ne (by rw[z])) hb,r}
 have mr:∀v∈vs,∃r,∀s',Tk 132 s'->TupIs s'.heap v r:=λv hv=>by let(i,hi,rfl):=jz.mp hv;show{_,λs' tk=>GX s' tk i _ _ (au hi)<|au (l:=rows) (i:=i) ∅}
 show OZ (κ:=Wp true) ho ∅ Bk (λs' tk=>Yu hl ∅ (GX s' tk) (gO ∅) ⟨rfl,tk⟩) (λx hx y hy s' tk=>?_) λus h' tk c po g kp=>k h' tk c us g kp po;let(r,k1):=mr x hx;let(q,k2):=mr y hy;show aea (k1 s' tk) (k2 s' tk) λ_=>tk
end
end Br
namespace L2
open PySem PySem.Spec PyProof.Rows Br
abbrev fA(K:Frag)(H:Hp):Aam->R1->Prop:=Paired λ(y:V)(zs:Aaf)=>∃a,y=-a/\bA K H a 57
theorem Ls:∀{zs:Aaf}{us:Aae},Vals 57 us->p9 zs us
 |[],_,.nil=>.nil
 |z::r,_,.cons ⟨t,e⟩ h=>by subst e;show .cons<|Ls h
theorem U2:∀{zs:Aaf}{us:Aae},Vals 57 us->ItemsAre (bZ P w) (zs.map Sum.inr) us
 |[],_,.nil=>.nil
 |z::r,_,.cons ⟨t,e⟩ h=>by subst e;show .cons (EN _ _ _ _)<|U2 h
section
variable{X:Cx}{bi:Aaa}{Z:St}{H:Hp}{s:f8}
def Inv.row(I:Inv X bi Z H s)(h:bA X.K H a 57):TupIs s.heap (-a) zs/\Sc (bZ 86 X.w) s.heap (zs.map Sum.inr) a:=by obtain⟨aM,r,⟨o,e,c,n,d⟩,_⟩:=I.tuple h;show{{a,o,aM.toArray,n,9,e,c,d,by simpa using Ls r},{o,aM.toArray,n,e,c,d,by simpa using U2 r}}
theorem Inv.rows(I:Inv X bi Z H s):∀{ys:Aam}{rows:R1}{us:Aae},fA X.K H ys rows->Vals ys us->∃bs:Aah,us=bs.map Value.ref/\ys=bs.map V.ref/\bs.length=rows.length/\∀(i:Nat) z b,rows[i]?>z->bs[i]?>b->bA X.K H b (z.map V.str):=by
 ext ys rows us g q
 induction g generalizing us with
 |nil=>cases q;show{[],9,9,9,λi z b e=>by simp at e}
 |cons x _ ih=>
  cases q with
  |@cons _ u _ _ ru q=>
   let(a,e,h):=x;let(bs,h1,h2,h3,h4):=ih q;subst e;cases(show u=Value.ref a from ru);show{a::bs,by rw[h1];rfl,by rw[h2];rfl,by simp[h3],λi z b e1 e2=>?_};cases i with
   |zero=>cases e1;cases e2;show h
   |succ i=>show h4 i z b (↑e1)<|↑e2
def aaX{β:Type}(bs:List (cr×β)):Vals (bs.map λp=>V.ref p.1) (bs.map λp=>Value.ref p.1):=by
 induction bs with
 |nil=>show .nil
 |cons b bs ih=>show .cons rfl ih
def FR:R1->R1
 |[]=>[]
 |r::l=>if r∈l then FR l else r::FR l
theorem wV(x:Aaf):∀l,x∈FR l↔x∈l
 |[]=>Ip
 |r::l=>by
  unfold FR;by_cases c:r∈l;·rw[aN c,wV x l,aK];show{.inr,λh=>h.elim (λe=>e▸c) id}
  rw[aL c,aK,aK,wV x l]
theorem sg:∀l,(FR l).Nodup
 |[]=>ik
 |r::l=>by
  unfold FR;by_cases c:r∈l;·rw[aN c];show sg l
  rw[aL c];show df.mpr {λh=>c<|(wV r l).mp h,sg l}
def Aj(l:R1):R1:=FR l
def Cm(x:Aaf)(l:R1):x∈Aj l↔x∈l:=wV x l
def Xj{l rows:R1}(nd:l.Nodup)(h:∀r,r∈l↔r∈rows):l.Perm (Aj rows):=(vp nd<|sg rows).mpr λr=>by rw[h];show(wV r rows).symm
variable{prog:io}{w:i6}{A:ss}{E:Aac}
def N7{vs:Aae}{rows:R1}{Q:Aac}(hl:vs.length=rows.length)(ht:∀(i:Nat) v r,vs[i]?>v->rows[i]?>r->TupIs s.heap v r)(gO:2<=rows.length->∀r∈rows,r≠[])(Bk:vs.length<1000000)
  (k:∀(h':nw)(tk c:Nat)(us:Aae),h'.get? 34>x0 "list" us.toArray c->(∀b o,s.heap.get? b>o->h'.get? b>o)->us.Perm vs->Q (.ref 34) 77):
  f' 85 A (newList vs>>=λl=>KE [l] (Go (.builtin "list.sort") [l] [])>>=λ_=>ret l) (λfin s'=>∃v,fin=Fin.done (.ret v)/\Q v s') E s:=by
 show ae<|qQ ?_ (by rw[bW];lia);have Cy:(s.heap.push<|x0 "list" vs.toArray 0).get? 34>x0 "list" vs.toArray 0:=aH _ rfl;show ae<|bP<|bN zm ⟨_,Cy,rfl⟩ yj (TC Cy hl (λi v r e1 e2=>(ht i v r e1 e2).mono λb o e=>ao _ e) gO Bk λh' tk c us g kp pm=>{_,9,?_})<|zY _;show ah {_,9,k h' tk c us g (λb o e=>kp b o (aU<|aS e)<|ao _ e) pm}
end
section
variable{X:Cx}
def SortedTo(K:Frag)(H:Hp)(ys:Aam)(rows:R1)(Q:VK):Prop:=∀l zs rs,H l=none->rs.Perm rows->fA K H zs rs->(∀z∈zs,z∈ys)->Q (-l) (upd H l<|.lst zs)
def Gi{bi:Aaa}{Z:St}{H:Hp}{s s1:f8}{bs:Aah}{rows:R1}{Q:VK}(I:Inv X bi Z H s1)(lb:bs.length=rows.length)(hb:∀(i:Nat) z b,rows[i]?>z->bs[i]?>b->bA X.K H b (z.map V.str))(gO:2<=rows.length->∀r∈rows,r≠[])(Bk:rows.length<1000000)(q:SortedTo X.K H (bs.map V.ref) rows Q){A:ss}{E:Aac}:
  f' 91 A (newList (bs.map Value.ref)>>=λl=>KE [l] (Go (.builtin "list.sort") [l] [])>>=λ_=>ret l) (λfin s'=>∃v,fin=Fin.done (.ret v)/\EP X bi Z Q v s') E s1:=by
 show N7 (by rw[af];show lb) (λi v r e1 e2=>?_) gO 19 λh' tk c us g kp pm=>?_;·rw[aW]at e1;let(b,e3,rfl):=bw.mp e1;show(I.row<|hb i r b e2 e3).1
 let(zs,pz,rfl):=rZ pm (m:=bs.zip rows) (f:=λp=>Value.ref p.1) (by
  conv=>lhs;rw[<-List.map_fst_zip (nr lb),dF]
  rfl)
 have lz:(zs.map λp=>V.ref p.1).length<=dL:=by rw[af,pz.length_eq,List.length_zip,bW];lia
 have at_:∀p∈zs,bA X.K H p.1 (p.2.map V.str)/\p.1∈bs:=λp hp=>by let(i,hi,e):=jz.mp<|pz.mem_iff.mp hp;rw[List.getElem_zip]at e;rw[<-e];show{hb i _ _ (au _)<|au _,lG _}
 show{.ref 22,_,I.laid kp (aw _) (show cW 86 X.w _ _ _ (.lst (zs.map λp=>V.ref p.1))from{lz,zs.map λp=>Value.ref p.1,c,aaX zs,g}),rfl,q _ _ (zs.map (·.2)) 69 (by
  have:=pz.map (·.2);rw[xt<|nr lb.symm]at this;show this) ?_ λz hz=>?_}
 ·clear pz lz q g pm
  induction zs with
  |nil=>show .nil
  |cons p zs ih=>show .cons {p.1,9,(at_ p ay).1} (ih λx hx=>at_ x<|az _ hx)
 let(p,hp,rfl):=aD.mp hz;show bV (at_ p hp).2
def rV:Key->i9
 | .inr z=>z
 | .inl _=>""
def xP(z:Aaf):(z.map (Sum.inr:i9->Key)).map rV=z:=by
 induction z with
 |nil=>rfl
 |cons a z ih=>show dX (a::·) ih
def yP(P:io)(w:i6)(a:cr)(us:List (Aaf×cr)):nw->Prop:=λh=>∃o ep t,h.get? a>o/\o.ExactSet/\o.data=.set (us.map λx=>Tb.ent (Tb.F9<|bZ P w) (x.1.map Sum.inr,x.2)).toArray ep t/\t.fits us.length=true/\t.led=Tb.ot w/\Tb.oy t.place
def abg(x:yP P w a us h):cW P w H h a (.ext<|yP P w a us):=
 {x,by let(o,__,__,q,__):=x;show⟨o,q⟩,λ_ _ zq k=>by let(o,ep,t,q,r):=zq;show{o,ep,t,k _ q,r}}
variable{bi:Aaa}{Z:St}{H:Hp}{s:f8}{h':nw}
def Inv.aaq(I:Inv X bi Z H s)(k:∀b u,s.heap.get? b>u->h'.get? b>u):Inv X bi Z H {s with heap:=h',drawn:=d',toks:=t'}:=
 I.step (ch:=[]) (λ_ z=>nomatch z) (λb o _ _ _ e _=>k b o e) (λb o _ _ _ e _=>{o.slots,k b o e}) (λ_ _ _ _ n=>n) (λb o _ e=>{o,k b o e}) (λ_ _ e=>e) (λ_ _ _ e=>e) (λb ps e=>{#[],by rw[e];simp}) (λm hm=>by let(o,es,ep,ho,r):=hm;show{o,es,ep,k _ _ ho,r}) (I.bC.kept k) I.bare
end
section
variable{X:Cx}
def JL(hA:X.A.handled=none)(hu:X.A.units+64<wE):fD X (.type "set") (λxs H Q=>∃p ys rows,xs=[-p]/\bg X.K H p ys/\fA X.K H ys rows/\rows.length<=1000/\∀a us,H a=none->(us.map (·.1)).Nodup->(∀r,r∈us.map (·.1)↔r∈rows)->us.length<=rows.length->(∀x∈us,bA X.K H x.2 (x.1.map V.str)/\V.ref x.2∈ys)->Q (-a) (upd H a<|.ext<|yP 86 X.w a us)):=by
 ext bi s Z H xs us Q I r h;let(p,ys,rows,rfl,hq,hr,hz,q):=h;let(u,rfl,rx):=jn r;cases rx;let(aM,r',pl,__):=I.list hq;let(bs,rfl,rfl,lb,hb):=I.rows hr r';show Tb.JK (knd:=Tb.F9<|bZ 86 X.w) (ks:=rows.map λz=>z.map Sum.inr) (bs:=bs) hA (by change X.A.units+1+1+1<wE;lia) (.inl pl.isList) 84 (by rw[af,lb]) (λi k b e1 e2=>?_) ∅ λh' tk o ep t xs S hl hH kp=>?_;·rw[aW]at e1;let(z,e3,rfl):=bw.mp e1;show(I.row<|hb i z b e3 e2).2
 have inj:∀x∈xs,∃(j:Nat)(z:Aaf),rows[j]?>z/\x.1=z.map Sum.inr/\bs[j]?>x.2:=λx hx=>by let(j,j1,j2):=hH.G5 x hx;rw[aW]at j1;let(z,e3,e4):=bw.mp j1;show{j,z,e3,e4.symm,j2}
 have back:(xs.map λx=>(x.1.map rV,x.2)).map (λx=>((x.1.map Sum.inr:List Key),x.2))=xs:=by
  rw[dF];have:∀x∈xs,((λx:Aaf×cr=>((x.1.map Sum.inr:List Key),x.2))∘λx:List Key×cr=>(x.1.map rV,x.2)) x=x:=λx hx=>by let(j,z,__,e,__):=inj x hx;change((x.1.map rV).map Sum.inr,x.2)=x;rw[e,xP];show AV e.symm rfl
  rw[dO this,List.map_id']
 have fst:∀r,r∈(xs.map λx=>(x.1.map rV,x.2)).map (·.1)↔r∈rows:=λr=>by
  rw[dF,aD];constructor;·ext⟨x,hx,rfl⟩;let(j,z,e1,e,__):=inj x hx;change x.1.map rV∈rows;rw[e,xP];show aB e1
  ext hr;have:r.map Sum.inr∈xs.map (·.1):=(hH.mem _).mpr (by
   rw[cS (by rw[af,lb];show aw _)];show aD.mpr ⟨r,hr,rfl⟩)
  let(x,hx,e):=aD.mp this;show{x,hx,by change x.1.map rV=r;rw[e,xP]}
 have nd:((xs.map λx=>(x.1.map rV,x.2)).map (·.1)).Nodup:=by
  have h1:=S.nd;rw[<-back,dF]at h1;have h2:((xs.map λx=>(x.1.map rV,x.2)).map ((·.1)∘λx:Aaf×cr=>((x.1.map Sum.inr:List Key),x.2)))=((xs.map λx=>(x.1.map rV,x.2)).map (·.1)).map λz=>z.map Sum.inr:=by simp only[dF];rfl
  rw[h2]at h1;show(qw.mp h1).imp λne e=>ne (by rw[e])
 have hd:o.data=.set ((xs.map λx=>(x.1.map rV,x.2)).map λx=>Tb.ent (Tb.F9<|bZ 86 X.w) (x.1.map Sum.inr,x.2)).toArray ep t:=by rw[S.data];congr 2;have:=dX (List.map<|Tb.ent<|Tb.F9<|bZ 86 X.w) back;rw[dF]at this;show this.symm
 show{.ref 34,_,I.laid kp (aw _)<|abg {o,ep,t,S.ob,S.ex,hd,?_,hl,S.tab.rise},9,q _ _ 69 nd fst ?_ λx hx=>?_};·have:=S.fits;simpa using this
 ·rw[af];have:=hH.len;lia
 let(y,hy,rfl):=aD.mp hx;let(j,z,e1,e,e2):=inj y hy;show{?_,aD.mpr {y.2,aB e2,9}};rw[e,xP];show hb j z y.2 e1 e2
def zW(hA:X.A.handled=none):fD X (.builtin "sorted") (λxs H Q=>∃a us ys,xs=[-a]/\H a>.ext (yP 86 X.w a us)/\(∀x∈us,bA X.K H x.2 (x.1.map V.str)/\V.ref x.2∈ys)/\(2<=us.length->∀x∈us,x.1≠[])/\us.length<1000/\SortedTo X.K H ys (us.map (·.1)) Q):=by
 ext bi s Z H xs us Q I r h;let(a,Iy,ys,rfl,ha,hx,gO,Bk,q):=h;let(u,rfl,rx):=jn r;cases rx;obtain⟨⟨o,ep,t,ho,hex,hd,hf,hl,R4⟩,_⟩:=(show cW 86 X.w H s.heap a (.ext<|yP 86 X.w a Iy)from I.bC a _ ha);show jh yK wL xf (xl _) ?_;show ae 92;show ae (Tb.Fd (↑hA) {⟨o,ho,hex,hd⟩,by simpa using hf,λcf _=>{by rw[hl,Tb.ot,cf];rfl,R4}} (by simp;lia) λh' tk d vs pm kp=>?_);have e0:(Iy.map λx=>Tb.ent (Tb.F9<|bZ 86 X.w) (x.1.map Sum.inr,x.2)).toArray.toList.map (·.2)=Iy.map λx=>Value.ref x.2:=by simp[qx]
 rw[e0]at pm;let(xN,pv,rfl):=rZ pm rfl;have lb:(xN.map (·.2)).length=(xN.map (·.1)).length:=by rw[af,af]
 have lu:=pv.length_eq;have e1:(xN.map λx=>Value.ref x.2)=(xN.map (·.2)).map Value.ref:=by rw[dF];rfl
 rw[e1];show Gi (s:=s) (I.aaq kp) lb (λi z b e2 e3=>?_) (λh2 r hr=>?_) 19 λl zs rs lN hp hz hm=>?_;·rw[aW]at e2 e3;let(x,ex,rfl):=bw.mp e2;rw[ex]at e3;cases e3;show(hx x<|pv.mem_iff.mp<|aB ex).1
 ·let(x,hxm,rfl):=aD.mp hr;show gO (by rw[af]at h2;lia) x<|pv.mem_iff.mp hxm
 show q l zs rs lN (hp.trans<|pv.map _) hz λz hzm=>?_;let(b,hb,rfl):=aD.mp<|hm z hzm;let(x,hxm,rfl):=aD.mp hb;show(hx x<|pv.mem_iff.mp hxm).2
def xj(hA:X.A.handled=none):fD X (.builtin "sorted") (λxs H Q=>∃(a:cr)(kvs:List (Key×V))(zs:Aaf),xs=[-a]/\H a>.dK kvs/\kvs.map (·.1)=zs.map Sum.inr/\28<64/\∀l,H l=none->Q (-l) (upd H l<|.lst<|(jq zs).map V.str)):=by
 ext bi s Z H xs us Q I r h;let(a,kvs,zs,rfl,ha,hk,Bk,q):=h;let(u,rfl,ru):=jn r;cases ru;let(hz,lo,vs,rel,o,es,ep,m):=Hc I.bC ha;have hl:=rel.length;show jh yK wL xf (xl _) ?_;show ae 92;show ae (PySem.W.kdu_collect (PySem.W.kdl_dict lo) (↑hA) (⟨o,es,m⟩) (hl▸hz) λh' tk acc kp it=>?_);have hS:StrsAre acc.toList zs:=by
  have len:acc.toList.length=28:=by have e1:=dX List.length hk;simp only[af]at e1;rw[aZ,it.1];lia
  have at_:∀(j:Nat)(v:i5),acc.toList[j]?>v->∃t,v=.str (zs.getD j "") t:=λj v e=>by
   let(k,y,e3,e4):=it.2 j v (by rw[<-cA];show e);have e5:(zs.map (Sum.inr:i9->Key))[j]?>k:=by rw[<-hk,rel.keys,aW,e3];rfl
   rw[aW]at e5;let(z,e6,rfl):=bw.mp e5;let(t,e7):=(show∃t,v=Value.str z t from(wm (k:=Sum.inr z) e4));show{t,by rw[e7,b5,e6];rfl}
  have go:∀(us:Aae)(zs:Aaf),us.length=28->(∀(j:Nat)(v:i5),us[j]?>v->∃t,v=.str (zs.getD j "") t)->StrsAre us zs:=by
   ext us
   induction us with
   |nil=>ext zs hl _;rw[d9.mp hl.symm];show .nil
   |cons u us ih=>
    ext zs hl hk;cases zs with
    |nil=>simp at hl
    |cons z zs=>
     let(t,rfl):=hk 0 u rfl;show .cons z t (ih zs (↑hl) λj v e=>by let(t,e'):=hk (j+1) v<|↑e;show{t,by simpa using e'})
  show go _ _ len at_
 have ahN:acc.toList.length<64:=by have:=hS.strs;rw[<-this,af]at Bk;show Bk
 show ae<|qQ ?_ (by rw[bW];lia);have Cy:(h'.push 142).get? h'.objs.size>x0 "list" acc.toList.toArray 0:=aH _ rfl;have I1:Inv X bi Z H 77:=I.kept kp;show ae<|bP<|bN zm ⟨_,Cy,rfl⟩ yj (list_sort_treeK strKind_oneLt Cy hS.keysOf (λaiw aiv rest e=>keyKind_strs<|e▸hS) ahN λj4 hp hs=>{_,9,?_})<|zY _;let(ss',h1,h2,h3):=sorted_out_str hS hp hs;have e:=XC h2 h3;subst e;generalize (At j4).map (·.2)=out at h1;have ln:((jq zs).map V.str).length<=dL:=by rw[af,(gc zs).length_eq];show cy<|bB ∅
 obtain⟨n,he⟩:∃n,(sortedHeap (h'.push 142) h'.objs.size acc.toList out).get? h'.objs.size>x0 "list" out n:=by obtain⟨e1,Cz⟩:∃e1,((h'.push 142).update h'.objs.size 164).get? h'.objs.size>x0 "list" #[] e1:={_,FS Cy λ_=>#[]};have ho3:=ao (x0 "list" #[] 0)<|ao (x0 "tuple" acc.toList.toArray 0) Cz;show{_,FS ho3 λ_=>out}
 have old:∀b o,h'.get? b>o->(sortedHeap (h'.push 142) h'.objs.size acc.toList out).get? b>o:=λb o e=>by have nb:=aU<|aS e;have g1:=ao 142 e;have g3:=ao (x0 "list" #[] 0)<|ao (x0 "tuple" acc.toList.toArray 0)<|(cj (h'.push 142) h'.objs.size 164).extBut b o nb g1;show(cj _ h'.objs.size (Obj.mapSeq λ_=>out)).extBut b o nb g3
 show ah {_,9,.ref h'.objs.size,_,I1.laid old (aw _) (show cW 86 X.w _ _ _ (.lst<|(jq zs).map V.str)from{ln,out.toList,n,Xw h1,he}),9,q _ 16}
end
def afY(hl:53=true:=by rfl)(hb:wT 67 "get" X.env (wf 67 X.env)=wf 67 X.env:=by rfl):M2 X 67 "get" Fa 96 (.List [] pl) eR:=⟨hb,rfl,hl,rfl⟩
section
variable{prog:io}{w:i6}{A:ss}{E:Aac}{s:f8}{d it:cr}{o:J'}{es:Array Db}{ep i:Nat}
def O8(lo:(d==ww)=false)(ho:s.heap.get? d>o)(hx:o.ExactDict)(hd:o.data=.dict es ep)
  (q:Q (.ref 34) (s\s.heap.push {cls:=.type "dict_keyiterator",data:=.fields #[-d,.int 0 0,.int 87 0,.int ep 0]})):f' 85 A (Re (-d)) Q E s:=by
 have ty:s.TypeIs (-d) "dict":={o,ho,hx.1};show qp ty yR<|bN yR ty PySem.F.entry_dict_iter ?_ (PySem.F.args_dict_iter_1 _);show ae<|ae<|iU ty 92;change f' _ _ (Builtin.Dict.showsAll d>>=_) _ _ s;unfold Builtin.Dict.showsAll;rw[lo];show ae<|ah<|ae<|iy ho hd<|ae<|mf ho hd<|ae<|cK<|ah {_,9,"dict_keyiterator",_,{_,27,9},fK.lookup,q}
def adA(hit:s.heap.IsKeyIter it d i 87 ep)(ho:s.heap.get? d>o)(hd:o.data=.dict es ep)(hi:i<87)
  (q:∀h',h'.IsKeyIter it d (i+1) 87 ep->Heap.SameBut it s.heap h'->Q (some es[i].key) (s\h')):f' 85 A (pyNext (-it)) Q E s:=by
 let(oi,wZ,ci,di):=id hit;show ae<|eM<|pc hit.typeIs fK<|bN fK hit.typeIs qb ?_ (pK _);show ae<|ah<|ae<|ae<|ae<|jP hit.typeIs 92;show ae<|jS wZ di ?_;have own:Builtin.Dict_items.ownsTuple "dict_keyiterator"=false:=by decide
 change f' _ _ 182 _ _ s;show ae<|ah<|ae<|iy ho hd ?_;rw[aL 84];show ae<|ah<|ae<|mf ho hd ?_;rw[aL 84];show ah ?_;simp only[show ¬((i:Int)<0)from by lia,gh,dU,bU hi];show ae<|ae<|jP hit.typeIs<|ah<|ae<|zh hit.typeIs ?_;change f' _ _ (XV (-it) 1 133>>=_) _ _ s;show ae<|dY wZ di 84 ?_;have CC:(s.heap.update it<|Obj.mapFields (·.setIfInBounds 1 133)).IsKeyIter it d (i+1) 87 ep:=
  {_,cI _ wZ<|ko<|jc di _,(vO ..).trans ci,by rw[jc di];simp[v0]}
 show ae<|bP<|ae<|zh CC.typeIs ?_;show ah<|ah {_,9,ah<|q _ CC<|cj ..}
def TV(hh:A.handled=none)(hit:s.heap.IsKeyIter it d i 87 ep)(ho:s.heap.get? d>o)(hd:o.data=.dict es ep)(hi:87<=i)
  (q:∀h',(∀b x,b≠it->s.heap.get? b>x->h'.get? b>x)->Q none (s\h')):f' 85 A (pyNext (-it)) Q E s:=by
 let(oi,wZ,ci,di):=id hit;show ae<|eM<|pc hit.typeIs fK<|bN fK hit.typeIs qb ?_ (pK _);show ae<|ah<|ae<|ae<|ae<|jP hit.typeIs 92;show ae<|jS wZ di ?_;have own:Builtin.Dict_items.ownsTuple "dict_keyiterator"=false:=by decide
 change f' _ _ 182 _ _ s;show ae<|ah<|ae<|iy ho hd ?_;rw[aL 84];show ae<|ah<|ae<|mf ho hd ?_;rw[aL 84];show ah ?_;simp only[show ¬((i:Int)<0)from by lia,gh,dU,qO hi];show ae<|ae<|jP hit.typeIs 92;change f' _ _ (XV (-it) 0 .none>>=_) _ _ s;show ae<|dY wZ di 84 ?_;show Tb.DJ (show A.in1.handled=none from hh) λh' e kp aha=>?_;let(oe,he,ce):=aha;show ae<|iO ⟨oe,he,ce⟩ m6<|ah (q _ λb x nb g=>kp b x<|(bL _ _<|cL nb).trans g)
end
def DX(P:io)(w:i6)(d:cr)(kvs:List (Key×V))(ok ov:V):nw->Prop:=λh=>(d==ww)=false/\∃o es ep vs e,h.get? d>o/\o.ExactDict/\o.data=.dict (es.push e) ep/\KV kvs vs/\KeysOf (bZ P w) es/\Pairs (bZ P w) es.toList vs/\(vs.map (·.1)).Nodup/\RelV ok e.key/\RelV ov e.val/\kvs.length<=1000
section
variable{X:Cx}{bi:Aaa}{Z:St}{H:Hp}{s:f8}
def Inv.Qh(I:Inv X bi Z H s)(hd:H d>.ext φ)(ho:s.heap.get? d>o):Inv X bi Z (upd H d<|.fF o<|.ext φ) s:=by
 have nd:∀b u,H b>u->(∀l,u≠ .ext l)->b≠d:=λb u q n z=>by rw[z,hd]at q;show n φ (cB q).symm
 show I.un {λb u e _ _ _=>e,λb u e _ _ _=>{u.slots,e},λb u e n _=>by rw[aI<|(λb q z=>by rw[z,hd]at q;cases q) b n];show n,λb u e _=>⟨u,e⟩,λb xs q=>by rw[aI 146];show q,λb u v q=>by rw[aI 146];show q,λb ps q=>{#[],by rw[aI 146,q];simp}} λb u g=>?_;by_cases hb:b=d;·subst hb;rw[aF]at g;cases g;show{ho,I.bC b _ hd}
 rw[aI hb]at g;show(I.bC b u g).qt (λc v hc q=>q) (λc q=>by rw[aI (nd c _ q λl z=>by cases z)];show q) λc ys q=>by rw[aI (nd c _ q λl z=>by cases z)];show q
def Inv.QK(I:Inv X bi Z H s)(hd:H d>.fF o u)(hn:∀u v,X.aae d≠some (.fF u v)):Inv X bi Z (upd H d u) s:=by
 have nd:∀b u,H b>u->(∀v l,u≠ .fF v l)->b≠d:=λb u q n z=>by rw[z,hd]at q;show n _ _ (cB q).symm
 have gO:∀b,H b=none->b≠d:=λb q z=>by rw[z,hd]at q;cases q
 show{I.ok,I.os,I.bare,{I.base.keep,I.base.slot,λb u e n hx=>?_,I.base.there,λb xs q=>?_,λb u v q=>?_,λb ps q=>?_},I.loc,I.cell,?_,λx c e=>?_,λp hp=>?_,λb v g=>?_,I.len};·have z:=I.base.free b u e n hx;rw[aI<|gO b z];show z
 ·have z:=I.base.iR b xs q;rw[aI (nd b _ z λv l t=>by cases t)];show z
 ·have z:=I.base.uj b u v q;rw[aI (show b≠d fromλt=>hn u v<|t▸q)];show z
 ·let(m,z):=I.base.yA b ps q;show{m,by rw[aI (nd b _ z λv l t=>by cases t)];show z}
 ·rw[aI<|gO _ I.free];show I.free
 ·rw[aI<|gO _<|I.kN x c e];show I.kN x c e
 ·let(a1,a2,a3,a4,a5):=I.pin p hp;show{a1,by rw[aI<|gO _ a2];show a2,a3,a4,a5}
 by_cases hb:b=d;·subst hb;rw[aF]at g;cases g;show((I.bC b _ hd).2).qt (λc v hc q=>q) (λc q=>by rw[aI (nd c _ q λv l z=>by cases z)];show q) λc ys q=>by rw[aI (nd c _ q λv l z=>by cases z)];show q
 rw[aI hb]at g;show(I.bC b v g).qt (λc v hc q=>q) (λc q=>by rw[aI (nd c _ q λv l z=>by cases z)];show q) λc ys q=>by rw[aI (nd c _ q λv l z=>by cases z)];show q
end
inductive ac2(t:TE)(Z:St)(H:Hp)(Q:VK):Prop
 |mk (d:cr) (_:(∀u v,H d≠some (.fF u v))) (_:t Z H λv H'=>∃o u,H' d>.fF o u/\Q v (upd H' d u))
def LL(h:PE X e t):PE X e (ac2 t):=by ext bi s Z H Q I ht;let(d,hd,ht):=ht;show dv (h bi s Z H _ I ht) λv s1 x H1 I1 r1 zq=>by let(o,u,e,q):=zq;show{x,_,I1.QK e (λu v e=>hd u v<|I.base.uj d u v e),r1,q}
def WU(d:cr)(o:J')(u:HO)(kvs:Aak):It:=
 {λi H=>H d>.fF o u/\i<kvs.length,λi H x H'=>H'=H/\∃kv,kvs[i]?>kv/\x=kv.1,λi H=>H d>.fF o u/\kvs.length<=i}
def SM(o:J')(es:Array Db)(ep:Nat)(kvs:Aak):Prop:=o.ExactDict/\o.data=.dict es ep/\Paired 139 kvs es.toList
def Th{K:Frag}(m:SM o es ep kvs):Turn P w K tg (WU d o u kvs) [it] it (λi h=>h.IsKeyIter it d i 87 ep) where
 mem:=by simp
 obj:=λi h st b hb=>by
  have e:b=it:=by simpa using hb
  subst e;let(v,e,c,q):=st;show{v,e,λv z=>by rw[q]at z;cases z}
 keep:=λi h h' st k=>by let(v,e,r):=st;show{v,k it 84 v e,r}
 item:=by
  ext X hP hw hK hc i bi s Z H E I hf st hg;let(hd,hi):=hg;have hl:kvs.length=87:=by rw[aV m.2.2,aZ]
  let(f0,f1,f2,f3,f4,f5):=hf it 84;obtain⟨kv,oM⟩:∃kv,kvs[i]?>kv:={_,au hi};have hie:i<87:=by lia
  let(e,he,r):=Paired.at' m.2.2 oM;have ee:es[i]=e:=by rw[cA,bU hie]at he;show cB he
  show adA st ((I.bC d _ hd).1) m.2.1 hie λh' j4 sb=>?_;let(v,ev,c,q):=id j4;show{_,9,G4 ev c q 7 {kv.1,H,I.turned (t':=21) (λb o hb e=>(sb.2 b hb).trans e) f0 f1 f3 f4 f5,ee▸r.1,⟨rfl,kv,oM,rfl⟩,j4,λb hb=>(hf b hb).1}}
 done:=by
  ext X hP hw hK hc i bi s Z H E I hf st hg;let(hd,hi):=hg;have hl:kvs.length=87:=by rw[aV m.2.2,aZ]
  let(f0,f1,f2,f3,f4,f5):=hf it 84;show TV 61 st ((I.bC d _ hd).1) m.2.1 ∅ λh' eb=>{9,179}
 self:=λ_ _ _ _ _ st h=>wpAny_pyIter_keyiter st h
def SN(P:io)(w:i6)(d:cr)(u:HO)(kvs:Aak):Prop:=(∃l,u=.dK l/\kvs=l.map λp=>(kV p.1,p.2))\/∃l ok ov,u=.ext (DX P w d l ok ov)/\kvs=(l.map λp=>(kV p.1,p.2))++[(ok,ov)]
def GA(rel:KV kvs vs)(hp:Pairs (bZ P w) es vs):Paired 139 (kvs.map λp=>(kV p.1,p.2)) es:=by
 induction hp generalizing kvs with
 |nil=>cases rel;show .nil
 |@cons e kv es vs hk hv _ ih=>
  cases rel with
  |@cons p _ ps _ hr t=>show .cons {wm<|hr.1▸hk,hv▸hr.2}<|ih t
def Ic(x:cW P w H h d u)(hv:SN P w d u kvs):(d==ww)=false/\∃o es ep,h.get? d>o/\SM o es ep kvs:=by
 rcases hv with⟨l,rfl,rfl⟩|⟨l,ok,ov,rfl,rfl⟩;·let(__,lo,vs,rel,o,es,ep,ga,hx,hd,__,hp,__):=x;show{lo,o,es,ep,ga,hx,hd,GA rel hp}
 obtain⟨⟨lo,o,es,ep,vs,e,ga,hx,hd,rel,_,hp,_,r1,r2,_⟩,_⟩:=x;show{lo,o,_,ep,ga,hx,hd,?_};rw[vR];show Fi (GA rel hp) ⟨r1,r2⟩
def Inv.acf(I:Inv X bi Z H s)(hd:H d>u)(hv:SN 86 X.w d u kvs)(ho:s.heap.get? d>o):Inv X bi Z (upd H d<|.fF o u) s:=by
 rcases hv with⟨l,rfl,rfl⟩|⟨l,ok,ov,rfl,rfl⟩;·show I.freeze hd ho
 show I.Qh hd ho
inductive aca(P:io)(w:i6)(R:It->Hp->Prop)(x:V)(H1:Hp):Prop
 |mk d u kvs (_:x=-d) (_:H1 d>u) (_:SN P w d u kvs) (_:∀o,R (WU d o u kvs)<|upd H1 d<|.fF o u)
def Vg(P:io)(w:i6)(tl:TE):TI:=λZ H R=>tl Z H λx H1=>aca P w R x H1
def Ar(hl:PE X l tl):PI X tg l (Vg 86 X.w tl):=by
 ext bi s Z H R I h;show dv 135 λv s1 x H1 I1 r1 q1=>?_;let(d,u,kvs,e,hd,hv,q):=q1;subst e;cases r1;let(lo,o,es,ep,ga,m):=Ic (I1.bC d _ hd) hv;show O8 lo ga m.1 m.2.1 ?_;have I2:=I1.acf hd hv ga;show{22,[22],_,_,_,9,I2.kept λb o e=>ao _ e,Th m,{_,27,9,9},26,q o};have e:b=22:=by simpa using hb
 subst e;show I2.w6 (aw _)<|I2.bC.fresh<|aw _
inductive Tj(t:TS)(D:Ends)(Z:St)(H:Hp):Prop
 |mk (d:cr) (_:(∀u v,H d≠some (.fF u v))) (_:t {D with nx:=λσ' H'=>∃o u,H' d>.fF o u/\D.nx σ' (upd H' d u),rt:=λv H'=>∃o u,H' d>.fF o u/\D.rt v (upd H' d u)} Z H)
def FC{st:wP}(h:PS X st t):PS X st (Tj t):=by
 ext bi s Z H D I ht;let(d,hd,ht):=ht;have h0:=λu v e=>hd u v<|I.base.uj d u v e;show jK (h bi s Z H _ I ht) λf s1 q=>?_;cases f with
 |next=>
  obtain⟨σ',H',J,o,u,e,n⟩:=q;show{σ',_,J.QK e h0,n}
 |brk=>show q
 |cont=>show q
 |ret u=>
  obtain⟨v,σ',H',J,r,o,u',e,n⟩:=q;show{v,σ',_,J.QK e h0,r,n}
section
variable{d:cr}{o:J'}{u:HO}{kvs:Aak}
def VY{g:TG}{tb:TS}{D:Ends}(Pv:Nat->St->Hp->Prop)(h0:Pv 0 Z H)(hl:∀i Z H,i<=kvs.length->Pv i Z H->H d>.fF o u)
  (hs:∀i kv Z H,kvs[i]?>kv->Pv i Z H->g kv.1 Z H λσ2 H2=>tb {D with nx:=Pv<|i+1,ct:=Pv<|i+1,bk:=D.nx} σ2 H2) (hd:∀Z H,Pv kvs.length Z H->D.nx Z H):wx (WU d o u kvs) g tb D Z H:=by
 show CO Pv h0 (λi Z H hi p=>{{hl i Z H (cy hi) p,hi},?_}) λZ H p=>{{hl _ Z H (aw _) p,aw _},hd Z H p};ext x H' ⟨rfl,kv,hk,rfl⟩;show hs i kv Z _ hk p
def Hh(Pv:Nat->Aam->Hp->Prop)(hx:kvs.length<dL)(h0:Pv 0 [] H1)(hl:∀i ys H,i<=kvs.length->Pv i ys H->H d>.fF o u/\48<=i)
  (hs:∀(i:Nat)(kv:V×V)(ys:Aam)(H:Hp)(N:Aam->Hp->Prop),kvs[i]?>kv->Pv i ys H->(∀jX H',Pv (i+1) jX H'->N jX H')->
   tt (some kv.1::slotsOf fr Z) H λb H4=>if b=true then te (some kv.1::slotsOf fr Z) H4 150 else N ys H4)
  (hd:∀ys H,Pv kvs.length ys H->∀l,H l=none->R l ys H):F4 (WU d o u kvs) fr tt te Z H1 R:=by
 show{λi m ys H=>m=kvs.length -i/\i<=kvs.length/\Pv i ys H,{kvs.length,84,aQ _,h0},?_};ext i m ys H ⟨rfl,hi,p⟩;let(q,hy):=hl i ys H hi p;by_cases cb:i<kvs.length;·show .inr {⟨q,cb⟩,8,?_};ext v H3 ⟨rfl,kv,oM,rfl⟩;show hs i kv ys H3 (λjX H'=>∃m',m'<kvs.length -i/\m'=kvs.length -(i+1)/\i+1<=kvs.length/\Pv (i+1) jX H') oM p λjX H' p'=>{_,8,9,cb,p'}
 have e:i=kvs.length:=by lia
 subst e;show .inl {{q,aw _},8,hd ys H p}
def HE(r:Aaf):PyData:=.tuple<|r.map PyData.str
def Q4(rows:R1):PyData:=.list<|rows.map HE
def fA.keep{K:Frag}(h:fA K H ys rows)(k:∀a xs,bA K H a xs->bA K H' a xs):fA K H' ys rows:=by
 induction h with
 |nil=>show .nil
 |cons hr _ ih=>
  let(a,e,hr):=hr;show .cons {a,e,k _ _ hr} ih
inductive NK:Type
 |cU
 |key (k:Key)
 |tup (ks:List NK)
noncomputable instance:DecidableEq NK:=λa b=>Classical.propDecidable<|a=b
end
section
variable(P:io)(w:i6)
mutual
inductive kq(h:nw):NK->i5->Prop
 |cU:kq h .cU .none
 |key {k:Key} {v:i5}:(bZ P w).is k v=true->kq h (.key k) v
 |tup {ks:List NK} {a:cr} {o:J'} {items:Aaj} {n:Nat}:h.get? a>o->o.cls=.type "tuple"->o.data=.seq items n->lE h ks items.toList->kq h (.tup ks) (-a)
inductive lE(h:nw):List NK->Aae->Prop
 |nil:lE h [] []
 |cons {k:NK} {v:i5} {ks:List NK} {vs:Aae}:kq h k v->lE h ks vs->lE h (k::ks) (v::vs)
end
mutual
def NK.hash:NK->Int
 | .cU=>0xFCA86420
 | .key k=>(bZ P w).hash k
 | .tup ks=>reduceHash<|Builtin.Tuple.tupleHashOf<|NK.hashes ks
def NK.hashes:List NK->List Int
 |[]=>[]
 |k::ks=>NK.hash k::NK.hashes ks
end
mutual
def NK.draws:NK->Nat
 | .cU=>1
 | .key _=>1
 | .tup ks=>NK.pF ks+1
def NK.pF:List NK->Nat
 |[]=>0
 |k::ks=>NK.draws k+NK.pF ks
end
mutual
def NK.deep:NK->Nat
 | .cU=>0
 | .key _=>0
 | .tup ks=>NK.k7 ks+1
def NK.k7:List NK->Nat
 |[]=>0
 |k::ks=>max (NK.deep k)<|NK.k7 ks
end
end
section
variable{P:io}{w:i6}{A:ss}{E:Aac}{s:f8}
def Sa(q:Q 0xFCA86420 {s with toks:=21+1}):f' 97 A (pyHash .none) Q E s:=by have ty:s.TypeIs .none "NoneType":=9;show ae<|wpAny_cRoomFor_byValue 9<|ae<|iA ty kA.lookup ?_;show ae<|iA ty kA.lookup ?_;show ae<|wpAny_callSpecialIfBoundUnlessNone?_slot ty kA<|bN kA ty PySem.F.entry_NoneType_hash (show f' _ _ (do ret (<-mkInt 0xFCA86420)) _ _ s from wpAny_ret_mkInt ?_)<|PySem.F.args_NoneType_hash_1 _;show ah q
def NK.YQ(ks:List NK):NK.hash P w (.tup ks)=reduceHash (Builtin.Tuple.tupleHashOf<|NK.hashes P w ks):=by rw[NK.hash]
def VM(hu:A.units<wE)(ho:s.heap.get? a>o)(hc:o.cls=.type "tuple")(hd:o.data=.seq items n)(hi:lE P w s.heap ks items.toList)
  (ih:∀(A':ss)(k:NK)(v:i5)(t:Nat)(E':Aac)(R:Int->f8->Prop),A'.units<=A.units+4->k∈ks->kq P w s.heap k v->R (NK.hash P w k) {s with toks:=t+NK.draws k}->f' 97 A' (pyHash v) R E' {s with toks:=t})
  (h:Q (NK.hash P w<|.tup ks) {s with toks:=21+NK.draws (.tup ks)}):f' 97 A (pyHash (-a)) Q E s:=by
 have hT:s.TypeIs (-a) "tuple":=⟨o,ho,hc⟩;show ae<|wpAny_cRoomFor_or (.inr hu) ?_;show ae<|iA hT kI.lookup ?_;show ae<|iA hT kI.lookup ?_;show ae<|wpAny_callSpecialIfBoundUnlessNone?_slot hT kI<|bN kI hT F.entry_tuple_hash ?_ (F.args_tuple_hash_1 _);change f' _ _ (Builtin.Tuple.tupleItemsOf (-a)>>=_) _ _ s;show ae<|wpAny_tupleItemsOf ho hd ?_;show ae ?_;rw[<-ke];show iP _
  (λrest(b:Array Int) s'=>∃done left,ks=done++left/\lE P w s.heap left rest/\b.toList=NK.hashes P w done/\s'={s with toks:=21+NK.pF done})
  _ ?_ ?_ _ _ {[],ks,9,hi,by simp[NK.hashes],by simp[NK.pF]}
 ·ext x rest b s' ⟨done,left,e,hl,hb,rfl⟩;cases hl with
  |@cons k _ Mt _ h1 tK=>
   have e2:NK.hashes P w (done++[k])=NK.hashes P w done++[NK.hash P w k]:=by
    clear e hb
    induction done with
    |nil=>simp[NK.hashes]
    |cons a r Vf=>simp only[nV,NK.hashes,Vf]
   have e3:NK.pF (done++[k])=NK.pF done+NK.draws k:=by
    clear e hb e2
    induction done with
    |nil=>simp[NK.pF]
    |cons a r Vf=>simp only[nV,NK.pF,Vf];lia
   show ae<|ih _ k x _ _ _ ?_ (by rw[e];simp) h1 (ah {done++[k],Mt,by rw[e];simp,tK,by simp[hb,e2],by rw[e3,vo]});change A.units+1<=A.units+4;lia
 ext b s' ⟨done,left,rfl,hl,hb,rfl⟩;cases hl;rw[eO]at h;change f' _ _ (retInt<|Builtin.Tuple.tupleHashOf b.toList) _ _ _;rw[hb];show wpAny_ret_mkInt ?_;change f' _ _ (if(decide (-(2:Int)^63<=Builtin.Tuple.tupleHashOf (NK.hashes P w done))&&decide (Builtin.Tuple.tupleHashOf (NK.hashes P w done)<2^63))=true then _ else _) Q E _;rw[NK.YQ,NK.draws]at h;unfold reduceHash at h;by_cases hr:(decide (-(2:Int)^63<=Builtin.Tuple.tupleHashOf (NK.hashes P w done))&&decide (Builtin.Tuple.tupleHashOf (NK.hashes P w done)<2^63))=true;·rw[aN hr];rw[aN hr]at h;show ah (by simpa[vo]using h)
 rw[aL hr];rw[aL hr]at h;show ae<|jU<|ah (by simpa[vo]using h)
mutual
theorem VN:∀(k:NK)(A:ss)(E:Aac)(s:f8)(v:i5)(Q:Int->f8->Prop),A.units+4*NK.deep k<wE->kq P w s.heap k v->Q (NK.hash P w k) {s with toks:=21+NK.draws k}->f' 97 A (pyHash v) Q E s
 | .cU=>λA E s v Q hu r q=>by cases r;rw[NK.hash,NK.draws]at q;show Sa q
 | .key k=>λA E s v Q hu r q=>by
  cases r with
  |key h=>
   rw[NK.hash,NK.draws]at q;show(bZ P w).pyHash h q
 | .tup ks=>λA E s v Q hu r q=>by
  cases r with
  |tup ho hc hd hi=>
   rw[NK.deep]at hu;show VM ∅ ho hc hd hi (λA' k v t E' R hA hk r q=>M6 ks k hk A' E' {s with toks:=t} v R ∅ r q) q
theorem M6:∀(ks:List NK)(k:NK),k∈ks->∀(A:ss)(E:Aac)(s:f8)(v:i5)(Q:Int->f8->Prop),A.units+4*NK.k7 ks<wE->kq P w s.heap k v->Q (NK.hash P w k) {s with toks:=21+NK.draws k}->f' 97 A (pyHash v) Q E s
 |[]=>λk h A E s v Q hu r q=>by cases h
 |k0::ks=>λk h A E s v Q hu r q=>by
  rw[NK.k7]at hu;rcases aK.mp h with e|h;·rw[e]at r q;show VN k0 A E s v Q ∅ r q
  show M6 ks k h A E s v Q ∅ r q
end
end
section
variable{P:io}{w:i6}
mutual
theorem Pc:∀(k:NK)(n:Nat)(A:ss)(E:Aac)(s:f8)(v:i5)(Q:Bool->f8->Prop),kq P w s.heap k v->NK.deep k<=n->Q true s->f' 97 A (eqIsQuiet n v) Q E s
 | .cU,n=>λA E s v Q r _ q=>by cases r;rw[Eb n rfl];show ah q
 | .key k,n=>λA E s v Q r _ q=>by
  cases r with
  |key h=>
   rw[Eb n<|(bZ P w).byValue _ _ h];show ah q
 | .tup ks,0=>λA E s v Q r hn q=>by rw[NK.deep]at hn;show absurd hn ∅
 | .tup ks,n+1=>λA E s v Q r hn q=>by
  cases r with
  |@tup _ a o items m ho hc hd hi=>
   rw[NK.deep]at hn;have hT:s.TypeIs (-a) "tuple":=⟨o,ho,hc⟩;unfold eqIsQuiet;show ae<|iA hT F.slot_tuple_eq.lookup ?_;change f' _ _ (isInstance (-a) (.type "tuple")>>=_) _ _ s;show ae<|iO hT isSubtype_tuple_tuple ?_;simp only[vA,dq,gh];show ae<|cY ho hd ?_;show ae ?_;change f' _ _ (forIn items _ _) _ _ s;rw[<-ke];show iP _ (λrest r s'=>r.1=none/\s'=s/\∃left,lE P w s.heap left rest/\∀k∈left,k∈ks) _ ?_ ?_ _ _ {9,9,ks,hi,λ_ h=>h}
   ·ext v rest r s' ⟨hr,rfl,left,hl,hm⟩;cases hl with
    |@cons k _ Mt _ h1 tK=>
     show ae<|IW ks k (hm k ay) n _ _ _ v _ h1 ∅ ?_;simp only[vA,dq,gh];show ah {9,9,Mt,tK,λk' CB=>hm k'<|az _ CB}
   ext⟨r1,r2⟩ s' ⟨hr,rfl,_⟩;simp only at hr;subst hr;show ah q
theorem IW:∀(ks:List NK)(k:NK),k∈ks->∀(n:Nat)(A:ss)(E:Aac)(s:f8)(v:i5)(Q:Bool->f8->Prop),kq P w s.heap k v->NK.k7 ks<=n->Q true s->f' 97 A (eqIsQuiet n v) Q E s
 |[]=>λk h n A E s v Q r hn q=>by cases h
 |k0::ks=>λk h n A E s v Q r hn q=>by
  rw[NK.k7]at hn;rcases aK.mp h with e|h;·rw[e]at r;show Pc k0 n A E s v Q r ∅ q
  show IW ks k h n A E s v Q r ∅ q
end
mutual
def NK.toD:NK->PyData
 | .cU=>.none
 | .key (.inl i)=>.int i
 | .key (.inr z)=>.str z
 | .tup ks=>.tuple<|NK.oq ks
def NK.oq:List NK->List PyData
 |[]=>[]
 |k::ks=>NK.toD k::NK.oq ks
end
mutual
theorem HG:∀(k:NK){h:nw}{v:i5},kq P w h k v->∃as,Reads h v (NK.toD k) as
 | .cU,h,v,r=>by cases r;rw[NK.toD];show{_,.none}
 | .key (.inl i),h,v,r=>by
  cases r with
  |key q=>
   let(t,rfl):=(show RelV (.int i) v from wm (k:=Sum.inl i) q);rw[NK.toD];show{_,.int i t}
 | .key (.inr z),h,v,r=>by
  cases r with
  |key q=>
   let(t,rfl):=(show RelV (.str z) v from wm (k:=Sum.inr z) q);rw[NK.toD];show{_,.str z t}
 | .tup ks,h,v,r=>by
  cases r with
  |tup ho hc hd hi=>
   let(as,q):=Lx ks hi;rw[NK.toD];show{_,.tuple ho hc hd q}
theorem Lx:∀(ks:List NK){h:nw}{vs:Aae},lE P w h ks vs->∃as,Tl h vs (NK.oq ks) as
 |[],h,vs,r=>by cases r;rw[NK.oq];show{_,.nil}
 |k::ks,h,vs,r=>by
  cases r with
  |cons r1 r2=>
   let(as,q1):=HG k r1;let(bs,q2):=Lx ks r2;rw[NK.oq];show{_,.cons q1 q2}
end
mutual
theorem aaB:∀(x y:NK),PyData.eqv (NK.toD x) (NK.toD y)=true↔x=y
 | .cU,.cU=>by simp[NK.toD,PyData.eqv]
 | .cU,.key (.inl _)=>by simp[NK.toD,PyData.eqv]
 | .cU,.key (.inr _)=>by simp[NK.toD,PyData.eqv]
 | .cU,.tup _=>by simp[NK.toD,PyData.eqv]
 | .key (.inl _),.cU=>by simp[NK.toD,PyData.eqv]
 | .key (.inl i),.key (.inl j)=>by simp[NK.toD,PyData.eqv]
 | .key (.inl _),.key (.inr _)=>by simp[NK.toD,PyData.eqv]
 | .key (.inl _),.tup _=>by simp[NK.toD,PyData.eqv]
 | .key (.inr _),.cU=>by simp[NK.toD,PyData.eqv]
 | .key (.inr _),.key (.inl _)=>by simp[NK.toD,PyData.eqv]
 | .key (.inr a),.key (.inr b)=>by simp[NK.toD,PyData.eqv]
 | .key (.inr _),.tup _=>by simp[NK.toD,PyData.eqv]
 | .tup _,.cU=>by simp[NK.toD,PyData.eqv]
 | .tup _,.key (.inl _)=>by simp[NK.toD,PyData.eqv]
 | .tup _,.key (.inr _)=>by simp[NK.toD,PyData.eqv]
 | .tup xs,.tup ys=>by rw[NK.toD,NK.toD,PyData.eqv,V6 xs ys];show{dX NK.tup,λh=>by injection h}
theorem V6:∀(xs ys:List NK),PyData.eqvAll (NK.oq xs) (NK.oq ys)=true↔xs=ys
 |[],[]=>by simp[NK.oq,PyData.eqvAll]
 |[],_::_=>by simp[NK.oq,PyData.eqvAll]
 |_::_,[]=>by simp[NK.oq,PyData.eqvAll]
 |x::xs,y::ys=>by rw[NK.oq,NK.oq,PyData.eqvAll,bT,aaB x y,V6 xs ys];simp
end
def ET(h:(bZ P w).is k (-a)=true):False:=by have:=(bZ P w).byValue _ _ h;cases this
def Cw(h:(bZ P w).is k .none=true):False:=by
 have:=wm h;cases k with
 |inl i=>let(t,e):=(show∃t,Value.none=Value.int i t from this);cases e
 |inr z=>let(t,e):=(show∃t,Value.none=Value.str z t from this);cases e
mutual
theorem aas:∀(x y:NK){h:nw}{v:i5},kq P w h x v->kq P w h y v->x=y
 | .cU,y,h,v,r1,r2=>by
  cases r1;cases r2 with
  |cU=>rfl
  |key q=>show(Cw q).elim
 | .key k,y,h,v,r1,r2=>by
  cases r1 with
  |key q=>
   cases r2 with
   |cU=>show(Cw q).elim
   |key q2=>rw[(bZ P w).inj _ _ _ q q2]
   |tup=>show(ET q).elim
 | .tup ks,y,h,v,r1,r2=>by
  cases r1 with
  |tup ho hc hd hi=>
   cases r2 with
   |key q=>show(ET q).elim
   |@tup ks2 _ o2 aip n2 Vs G2 hd2 rM=>
    rw[ho]at Vs;cases Vs;rw[hd]at hd2;injection hd2 with e1 _;subst e1;rw[Vb ks ks2 hi rM]
theorem Vb:∀(xs ys:List NK){h:nw}{vs:Aae},lE P w h xs vs->lE P w h ys vs->xs=ys
 |[],ys,h,vs,r1,r2=>by cases r1;cases r2;rfl
 |x::xs,ys,h,vs,r1,r2=>by
  cases r1 with
  |cons a b=>
   cases r2 with
   |@cons y _ ys _ c d=>rw[aas x y a c,Vb xs ys b d]
end
mutual
theorem Mz(h h':nw)(k:∀b o,(∃aM n,o.data=.seq aM n)->h.get? b>o->h'.get? b>o):∀(x:NK){v:i5},kq P w h x v->kq P w h' x v
 | .cU,v,r=>by cases r;show .cU
 | .key _,v,r=>by
  cases r with
  |key q=>show .key q
 | .tup ks,v,r=>by
  cases r with
  |tup ho hc hd hi=>show .tup (k _ _ ⟨_,_,hd⟩ ho) hc hd<|PF h h' k ks hi
theorem PF(h h':nw)(k:∀b o,(∃aM n,o.data=.seq aM n)->h.get? b>o->h'.get? b>o):∀(xs:List NK){vs:Aae},lE P w h xs vs->lE P w h' xs vs
 |[],vs,r=>by cases r;show .nil
 |x::xs,vs,r=>by
  cases r with
  |cons a b=>show .cons (Mz h h' k x a)<|PF h h' k xs b
end
def NT(P:io)(w:i6)(h:nw)(k:NK)(a:cr):Prop:=kq P w h k (-a)/\(NK.toD k).canLay0=true/\(NK.toD k).depth<=07/\NK.deep k<=07
noncomputable def lB(P:io)(w:i6):HeapKind P w NK where
 is:=NT P w
 hash:=NK.hash P w
 draws:=NK.draws
 room:=λA=>A.units+100<wE
 inj:=λhx hy=>aas _ _ hx.1 hy.1
 keeps:=λx ho hd hs=>⟨Mz _ _ (λb o' n e=>by show(hs.2 b ?_).trans e;ext rfl;rw[ho]at e;cases e;let(__,__,z):=n;rw[hd]at z;cases z) _ x.1,x.2⟩
 pyHash:=λhu hk h=>VN _ _ _ _ _ _ (by have:=hk.2.2.2;lia) hk.1 h
 eqBool:=λ{A E s x y a b Q} hu hx hy h=>by
  let(as,r1):=HG x hx.1;let(bs,r2):=HG y hy.1;have e:PyData.eqv (NK.toD x) (NK.toD y)=decide (x=y):=by rw[f7,aaB,my]
  have:=SeqAt.eqAt_reads _ _ A s _ _ as bs r1 r2 hx.2.1 hy.2.1 (by have:=hx.2.2.1;have:=Nat.min_le_left (NK.toD x).depth (NK.toD y).depth;lia);rw[e]at this;show this P w E Q h
 quiet:=λhk h=>Pc _ 08 _ _ _ _ _ hk.1 (by have:=hk.2.2.2;lia) h
end
def DN(P:io)(w:i6)(d:cr)(kvs:List 95):nw->Prop:=λh=>(d==ww)=false/\∃xs:List (NK×cr×i5),Paired 115 kvs xs/\kvs.length<=10000000/\
 ∃o es ep,h.get? d>o/\o.ExactDict/\o.data=.dict es ep/\es.toList=xs.map (ZB<|lB P w)/\(xs.map (·.1)).Nodup
def aaD(x:DN P w d kvs h):cW P w H h d (.ext<|DN P w d kvs):=
 {x,by let(__,__,__,__,o,__,__,q,__):=x;show⟨o,q⟩,λ_ _ zq k=>by let(l,xs,p,n,o,es,ep,q,r):=zq;show{l,xs,p,n,o,es,ep,k _ q,r}}
mutual
def NV(K:Frag)(H:Hp):NK->V->Prop
 | .cU,v=>v=.cU
 | .key k,v=>v=kV k
 | .tup ks,v=>∃a xs,v=-a/\bA K H a xs/\qM K H ks xs
def qM(K:Frag)(H:Hp):List NK->Aam->Prop
 |[],xs=>xs=[]
 |k::ks,xs=>∃x r,xs=x::r/\NV K H k x/\qM K H ks r
end
section
variable{X:Cx}{bi:Aaa}{Z:St}{H:Hp}{s:f8}
mutual
theorem L6(I:Inv X bi Z H s):∀(k:NK)(v:V)(u:i5),NV X.K H k v->RelV v u->kq 86 X.w s.heap k u
 | .cU=>λv u h r=>by rw[NV]at h;subst h;cases(show u=Value.none from r);show .cU
 | .key k=>λv u h r=>by rw[NV]at h;subst h;show .key<|uB r
 | .tup ks=>λv u h r=>by rw[NV]at h;let(a,xs,rfl,hq,ha):=h;cases r;obtain⟨aM,rv,⟨o,e,c,n,d⟩,_⟩:=I.tuple hq;show .tup e c d<|↑(Je I ks xs aM ha rv)
theorem Je(I:Inv X bi Z H s):∀(ks:List NK)(xs:Aam)(us:Aae),qM X.K H ks xs->Vals xs us->lE 86 X.w s.heap ks us
 |[]=>λxs us h r=>by rw[qM]at h;subst h;cases r;show .nil
 |k::ks=>λxs us h r=>by
  rw[qM]at h;let(x,t,rfl,h1,h2):=h;cases r with
  |cons r1 r2=>show .cons (L6 I k x _ h1 r1)<|Je I ks t _ h2 r2
end
def SH(k:NK):Prop:=(NK.toD k).canLay0=true/\(NK.toD k).depth<=07/\NK.deep k<=07
end
def il(K:Frag)(H:Hp)(k:NK)(a:cr):Prop:=NV K H k (-a)/\SH k
def iw(P:io)(w:i6)(K:Frag)(H:Hp)(a:cr)(kvs:List 95):Prop:=(H a>.ext (DN P w a kvs)\/(kvs=[]/\H a>.dK []))/\∀p∈kvs,il K H p.1 p.2.1
def valN(kvs:List 95)(k:NK):Aan:=(kvs.find? λp=>decide (p.1=k)).map (·.2.2)
def putN(kvs:List 95)(k:NK)(a:cr)(v:V):List 95:=if(valN kvs k).isSome then kvs.map (λp=>if p.1=k then(p.1,p.2.1,v)else p)else kvs++[(k,a,v)]
def DP(rel:Paired 115 kvs xs)(k:NK):nR (valN kvs k) ((atKey xs k).map (·.2)):=by
 unfold valN atKey
 induction rel with
 |nil=>show trivial
 |@cons p q ps qs h _ ih=>
  by_cases c:p.1=k;·rw[iJ (p:=λp:NK×cr×V=>decide (p.1=k))<|bD c,iJ (p:=λx:NK×cr×i5=>decide (x.1=k))<|bD<|h.1.symm.trans c];show h.2.2
  rw[iK (p:=λp:NK×cr×V=>decide (p.1=k)) (λd=>c<|bz d),iK (p:=λx:NK×cr×i5=>decide (x.1=k)) (λd=>c<|h.1.trans<|bz d)];show ih
section
variable{X:Cx}{bi:Aaa}{Z:St}{H:Hp}{s:f8}{A:ss}{E:Aac}{a b:cr}{kvs:List (NK×cr×V)}{k:NK}{v:V}
def Inv.HV(I:Inv X bi Z H s)(h:il X.K H k b):(lB 86 X.w).is s.heap k b:={L6 I k (-b) (-b) h.1 rfl,h.2}
def Inv.yk(I:Inv X bi Z H s)(h:iw 86 X.w X.K H a kvs):(a==ww)=false/\∃xs,Paired 115 kvs xs/\kvs.length<=10000000/\s.heap.DictOfH (lB 86 X.w) a xs:=by
 let(h1,h2):=h;have keys:∀{l:List 95}{xs:List (NK×cr×i5)},Paired 115 l xs->(∀p∈l,il X.K H p.1 p.2.1)->∀x∈xs,(lB 86 X.w).is s.heap x.1 x.2.1:=λr=>by
  induction r with
  |nil=>ext _ x hx;cases hx
  |@cons p q ps qs h _ ih=>
   ext hk x hx;rcases aK.mp hx with rfl|hx;·rw[<-h.1,<-h.2.1];show I.HV<|hk p ay
   show ih (λp hp=>hk p<|az _ hp) x hx
 rcases h1 with h1|⟨rfl,h1⟩;·obtain⟨⟨lo,xs,rel,hl,o,es,ep,g,hx,hd,he,nd⟩,_⟩:=(show cW 86 X.w H s.heap a (.ext<|DN 86 X.w a kvs)from I.bC a _ h1);show{lo,xs,rel,hl,o,es,ep,g,hx,hd,he,keys rel h2,nd}
 let(__,lo,vs,rel,o,es,ep,g,hx,hd,__,hp,__):=Hc I.bC h1;cases rel;have e0:es.toList=[]:=by have:=hp.length;show d9.mp this
 show{lo,[],.nil,aQ _,o,es,ep,g,hx,hd,by rw[e0];rfl,λx h=>90,ik}
def ago{Q:Aac}(hu:A.units+101<wE)(I:Inv X bi Z H s)(h:iw 86 X.w X.K H a kvs)(hk:il X.K H k b)(q:∀s',Inv X bi Z H s'->Q (.bool (valN kvs k).isSome) s'):f' 91 A (v4 .In (-b) (-a)) Q E s:=by let(lo,xs,rel,hl,dd):=I.yk h;show wpAny_in_heap (show A.units+1+100<wE by lia) (I.HV hk) lo dd ?_;have e:=(DP rel k).ya;rw[mS]at e;rw[<-e];show q _ 44
def Lw(rel:Paired 115 kvs xs)(rv:RelV v r):Paired 115 (putN kvs k b v) (storedH xs k b r):=by
 have e:=(DP rel k).ya;rw[mS]at e;unfold putN storedH;rw[e];split
 next hs=>
  clear e hs
  induction rel with
  |nil=>show .nil
  |@cons p q ps qs h _ ih=>
   show .cons ?_ ih;change(if p.1=k then(p.1,p.2.1,v)else p).1=(if q.1=k then(q.1,q.2.1,r)else q).1/\(if p.1=k then(p.1,p.2.1,v)else p).2.1=(if q.1=k then(q.1,q.2.1,r)else q).2.1/\RelV (if p.1=k then(p.1,p.2.1,v)else p).2.2 (if q.1=k then(q.1,q.2.1,r)else q).2.2;by_cases c:p.1=k;·rw[aN c,aN<|h.1.symm.trans c];show{h.1,h.2.1,rv}
   rw[aL c,aL (λd=>c<|h.1.trans d)];show h
 next=>show Fi rel ⟨rfl,rfl,rv⟩
def qW:(putN kvs k b v).length<=kvs.length+1:=by
 unfold putN;split;·rw[af];lia
 rw[aG];show aw _
def afe(hu:A.units+101<wE)(I:Inv X bi Z H s)(h:iw 86 X.w X.K H a kvs)(hk:il X.K H k b)(rL:kvs.length<10000000)(rv:RelV v r)
  (q:∀s',Inv X bi Z (upd H a<|.ext<|DN 86 X.w a<|putN kvs k b v) s'->Q () s'):f' 91 A (setItem (-a) (-b) r) Q E s:=by
 let(lo,xs,rel,hl,dd):=I.yk h;have lx:42<=dL:=by rw[<-rel.length,bW];lia
 show wpAny_setItem_heap (show A.units+1+100<wE by lia) (I.HV hk) dd λh' CW hs=>q _ ?_;let(o,es,ep,g,h2,h3,h4,__,h5):=CW;have lp:=qW (kvs:=kvs) (k:=k) (b:=b) (v:=v);show DY I ?_ hs ⟨o,g⟩ (aaD {lo,_,Lw rel rv,8,o,es,ep,g,h2,h3,h4,h5});rcases h.1 with e|⟨_,e⟩<;>rw[e]<;>show True.intro
end
inductive agK(P:io)(w:i6)(K:Frag)(neg:Bool)(x:V)(y:V)(H:Hp)(Q:VK):Prop
 |mk a b kvs k (_:x=-b) (_:y=-a) (_:iw P w K H a kvs) (_:il K H k b) (_:Q (.bl (if neg then !(valN kvs k).isSome else(valN kvs k).isSome)) H)
inductive abk(P:io)(w:i6)(K:Frag)(D:Ends)(Z:St)(v:V)(x:V)(y:V)(H3:Hp):Prop
 |mk a b kvs k (_:x=-a) (_:y=-b) (_:iw P w K H3 a kvs) (_:il K H3 k b) (_:kvs.length<10000000) (_:D.nx Z (upd H3 a<|.ext<|DN P w a<|putN kvs k b v))
def adx(P:io)(w:i6)(K:Frag)(td ty tv:TE):TS:=λD Z H=>tv Z H λv H1=>td Z H1 λx H2=>ty Z H2 λy H3=>abk P w K D Z v x y H3
section
variable{X:Cx}{o i value:wv}{pos pos':Gc}{td ty tv:TE}
def adR(hu:X.A.units+101<wE):kn X (v4 .In) (agK 86 X.w X.K false):=by ext bi s Z H x y v u Q I rx ry h;let(a,b,kvs,k,rfl,rfl,g,hk,q):=h;cases rx;cases ry;show ago hu I g hk λs' I'=>{.bl _,H,I',9,q}
def Ap(hu:X.A.units+101<wE)(ho:PE X o td)(hi:PE X i ty)(hv:PE X value tv)(hs:Ev value (some<|.Subscript o i pos') pos.line X.env=pure false):
  PS X (.Assign [.Subscript o i pos'] value pos) (adx 86 X.w X.K td ty tv):=by
 ext bi s Z H D I h;show yy (dv (hv bi s Z H _ I h) λr s1 v H1 I1 rv q1=>dv (ho bi s1 Z H1 _ I1 q1) λu s2 x H2 I2 rx q2=>dv (hi bi s2 Z H2 _ I2 q2) λiv s3 y H3 I3 ry ag9=>?_) hs;let(a,b,kvs,k,ex,ey,g,hk,hl,q):=ag9;subst ex ey;obtain rfl:u=Value.ref a:=rx;obtain rfl:iv=Value.ref b:=ry;show afe hu I3 g hk hl rv λs4 I4=>⟨Z,_,I4,q⟩
end
def range_any(bs:List Bool):((List.range bs.length).any λi=>(bs[i]?).getD false)=bs.any id:=by
 rw[f7,fH,fH];constructor;·ext⟨i,hi,h⟩;have hl:=cZ.mp hi;rw[au hl]at h;show{_,lG hl,h}
 ext⟨b,hb,h⟩;let(i,hi):=gS.mp hb;show{i,cZ.mpr (aq.mp hi).1,hi▸h}
section
variable{X:Cx}
def um(hc:X.calm=true):fD X (.builtin "any") (λxs H Q=>∃(a:cr)(bs:List Bool),xs=[-a]/\bg X.K H a (bs.map V.bl)/\Q (.bl<|bs.any id) H):=by
 ext bi s Z H xs us Q I r h;let(a,bs,rfl,ha,q):=h;let(u,rfl,ru):=jn r;cases ru;let(aM,rv,p,hz):=I.list ha;have hl:aM.length=bs.length:=by have:=rv.length;simpa using this.symm
 have gO:a≠34:=by let(o,n,e,__):=id p;show aU<|aS e
 show call_any_walk<|kE p.isList ?_;show{34,_,_,aM.toArray.size,_,_,λi=>(bs[i]?).getD false,9,AS (show X.A.in1.handled=none from I.ok.hd hc) 34 a gO aM.toArray,{{_,27,9,9},p.isList.at λo e=>ao _ e},?_,λh' tk kp=>?_}
 ·ext i v s' Q' E' hP hQ;have VQ:aM[i]?>v:=by simpa using hP
  have hi:i<bs.length:=by rw[<-hl];show(aq.mp VQ).1
  let(u,hu,ru):=rv.get (by rw[aW,au hi];rfl);rw[VQ]at hu;cases hu;cases ru;show ix ?_;have e2:(bs[i]?).getD false=bs[i]:=by rw[au hi];rfl
  rw[<-e2];show hQ
 show{.bl<|bs.any id,H,I.kept λb o e=>kp b o (↑(aU<|aS e))<|ao _ e,?_,q};change Value.bool _=Value.bool _;rw[aT,hl,range_any]
def WB(hc:X.calm=true):fD X (.builtin "min") (λxs H Q=>∃(a:cr)(ns:List Int),xs=[-a]/\bg X.K H a (ns.map V.int)/\0<ns.length/\∀m,m∈ns->(∀n∈ns,m<=n)->Q (.int m) H):=by
 ext bi s Z H xs us Q I r h;let(a,ns,rfl,ha,hn,q):=h;let(u,rfl,ru):=jn r;cases ru;let(aM,rv,p,hz):=I.list ha;have hi:=ints_of rv;let(xs,e):=hi.allInts.items;have yg:ns=xs.toList.map (·.1):=by rw[<-hi.numsOf,<-nums_intItems,<-e]
 have hsz:0<xs.size:=by have h3:=hn;rw[yg,af,aZ]at h3;show h3
 have hl:=p.isList;rw[e]at hl;show min_intList (show X.A.handled=none from I.ok.hd hc) hl hsz λv h' tk hv hk=>?_;let(t,rfl):=intItems_at hv;let(h1,h2):=argBest_lt (numAt xs)<|xs.size -1;show{.int _,H,I.kept hk,⟨t,rfl⟩,q _ ?_ λb hb=>?_};·rw[yg,numAt_eq];show getD_mem (by rw[af,aZ];lia)
 rw[yg]at hb;let(j,hj,rfl):=mem_getD hb;rw[af,aZ]at hj;rw[<-numAt_eq];show h2 j ∅
def Hl:fD X 14 (λxs H Q=>∃a kvs,xs=[-a]/\Rd H a (.dK kvs)/\∀p,H p=none->Q (-p) (upd H p<|.dK kvs)):=by ext bi s Z H xs us Q I r h;let(a,kvs,rfl,ha,q):=h;let(u,rfl,ru):=jn r;cases ru;show Zj I ha λp s' hp I'=>{-p,_,I',9,q p hp}
inductive Pa(x:V)(vs:Aam)(H:Hp)(Q:VK):Prop
 |mk (a:cr) (k:Key) (z:V) (kvs:List (Key×V)) (_:x=-a) (_:vs=[kV k,z]) (_:H a>.dK kvs) (_:kvs.length<dL) (_:(∀v,jo kvs k>v->Q v H)) (_:(jo kvs k=none->Q z (upd H a<|.dK<|putK kvs k z)))
def xX:WQ X "dict.setdefault" Pa:=by
 ext bi s Z H x vs v us Q I rx rv h;let(a,k,z,kvs,rfl,rfl,hH,hl,q1,q2):=h;cases rx;let(u1,u2,rfl,r1,r2):=rv.two;let(zz,hd,ws,rel,dd):=Hc I.bC hH;show sH eK dd.typeIs tu (sM _ _ _) (kt_meets_setdefault (bZ 86 X.w) a (uB r1) hd u2) {ws,dd,(by rw[<-rel.length];show zz),λv hv=>?_,λhn h' CW hs=>?_}
 ·have:=rel.val k;rw[hv]at this;cases e:jo kvs k with
  |none=>rw[e]at this;show this.elim
  |some y=>
   rw[e]at this;show{y,H,44,this,q1 y e}
 have:=rel.val k;rw[hn]at this;cases e:jo kvs k with
 |some y=>rw[e]at this;show this.elim
 |none=>
  show{z,_,DY I (hH▸True.intro) hs (let⟨o,_,_,ho,_⟩:=CW;⟨o,ho⟩)<|CV (by have:=ER kvs k z;lia) hd (rel.put k r2) CW,r2,q2 e}
variable{K:Frag}
def LI{tg l:wv}{tl:TE}(hl:PE X l tl)(h:X.K=K:=by rfl):PI X tg l (Km K tl):=h▸eC hl
def Hm(hc:X.calm=true)(h:X.K=K:=by rfl):fD X (.builtin "any") (λxs H Q=>∃(a:cr)(bs:List Bool),xs=[-a]/\bg K H a (bs.map V.bl)/\Q (.bl<|bs.any id) H):=h▸um hc
end
end L2
namespace L2
open PySem PySem.Spec PyProof.Rows
theorem C3(n:Nat):∀(b:List (i9×Ch))(acc:List (i9×cr)),(∀y∈b,y.2≠ .cell)->cellsFrom n b acc=acc
 |[]=>λ_ _=>9
 |(y,k)::r=>λacc h=>by
  have hk:(k==NameKind.cell)=false:=by simpa using h (y,k) ay
  unfold cellsFrom;rw[hk];show C3 n r acc λz hz=>h z<|az _ hz
theorem B9(hp:nw):∀(b:List (i9×Ch)),(∀y∈b,y.2≠ .cell)->pushCells hp b=hp
 |[],_=>rfl
 |(y,k)::r,h=>by
  have hk:(k==NameKind.cell)=false:=by simpa using h (y,k) ay
  unfold pushCells;rw[hk];show B9 hp r λz hz=>h z<|az _ hz
theorem Bo(n:Nat)(x:i9)(b:List (i9×Ch))(acc:List (i9×cr))(hb:∀y∈b,y.2≠ .cell):∀(a:List (i9×Ch)),(∀y∈a,y.2≠ .cell)->cellsFrom n (a++(x,.cell)::b) acc=(x,n)::acc
 |[],_=>by change(if(NameKind.cell==NameKind.cell)=true then cellsFrom (n+1) b ((x,n)::acc)else cellsFrom n b acc)=_;show C3 _ b _ hb
 |(y,k)::r,h=>by
  have hk:(k==NameKind.cell)=false:=by simpa using h (y,k) ay
  change(if(k==NameKind.cell)=true then cellsFrom (n+1) (r++(x,.cell)::b) ((y,n)::acc)else cellsFrom n (r++(x,.cell)::b) acc)=_;rw[hk];show Bo n x b acc hb r λz hz=>h z<|az _ hz
theorem A9(hp:nw)(x:i9)(b:List (i9×Ch))(hb:∀y∈b,y.2≠ .cell):∀(a:List (i9×Ch)),(∀y∈a,y.2≠ .cell)->pushCells hp (a++(x,.cell)::b)=hp.push {cls:=.type "cell",data:=.cell none}
 |[],_=>by change(if(NameKind.cell==NameKind.cell)=true then pushCells (hp.push {cls:=.type "cell",data:=.cell none}) b else pushCells hp b)=_;show B9 _ b hb
 |(y,k)::r,h=>by
  have hk:(k==NameKind.cell)=false:=by simpa using h (y,k) ay
  change(if(k==NameKind.cell)=true then pushCells (hp.push {cls:=.type "cell",data:=.cell none}) (r++(x,.cell)::b)else pushCells hp (r++(x,.cell)::b))=_;rw[hk];show A9 hp x b hb r λz hz=>h z<|az _ hz
section
variable{M:Model}{A:ss}{E:Aac}{s:f8}
def u7{scope:AC}{globals:cr}{cl:List (i9×cr)}{Do:i9}{outer:V'}{x:i9}{Q:V'->f8->Prop}
  (hx:∃a b,scope.names=a++(x,.cell)::b/\(∀y∈a,y.2≠ .cell)/\∀y∈b,y.2≠ .cell)
  (hQ:∀h',h'.Ns 34 (λ_=>none)->h'.IsCell (34+1) none->(∀b o,s.heap.get? b>o->h'.get? b>o)->
   Q (newEnv scope 34 globals ((x,34+1)::cl) Do none .none (some outer) Rs) (s\(h',21))):
  f' M A (X' scope globals cl [] Do none .none<|some outer) Q E s:=by
 let(a,b,e,ha,hb):=hx;simp only[X',Dg,lZ];show ae<|wpAny_alloc ?_;show ae<|wpAny_layCells _ (λname kind cells=>by cases hkc:kind==NameKind.cell<;>simp[hkc]) _ _ _ _ ?_;rw[e,Bo _ x b _ hb a ha,A9 _ x b hb a ha,Ab];show ae<|ah 92;rw[show(222:f8).heap.objs.size=34+1 from dk ..];show hQ _ ((Heap.Ns.new s.heap 14).keeps λb o e=>ao _ e) {_,by rw[<-dk s.heap {cls:=.type "dict",data:=.dict #[]}];show aH _ rfl,9} λb o e=>ao _<|ao _ e
structure qg(X:Cx)(scope:AC)(x:i9)(fs:Aaf)(fr:List Nat):Prop where
 kind:scope.kind=.function
 loc:scope.names.lookup x>.cell
 names:∀y∈scope.names,y.2=.local->scope.names.lookup y.1>.local
 one:∃a b,scope.names=a++(x,.cell)::b/\(∀y∈a,y.2≠ .cell)/\∀y∈b,y.2≠ .cell
 free:∀n∈frees scope,X.env.kindOf n>.cell/\scope.names.lookup n>.free
 nd:(x::fs).Nodup
 len:fr.length=fs.length
 slots:∀(j:Nat)(y:i9)(k:Nat),fs[j]?>y->fr[j]?>k->X.N[k]?>y/\y∈frees scope
def qg.only{X:Cx}{scope:AC}{x:i9}{fs:Aaf}{fr:List Nat}(S:qg X scope x fs fr)(y:i9)(h:(y,NameKind.cell)∈scope.names):y=x:=by
 let(a,b,e,ha,hb):=S.one;rw[e]at h;rcases aE.mp h with h|h;·show absurd rfl (ha _ h)
 rcases aK.mp h with h|h;·show dX Prod.fst h
 show absurd rfl (hb _ h)
def Lv{env:V'}{scope:AC}{x:i9}(h:scope.names.lookup x>.cell):(NE scope env).names.lookup x>.cell:=by rw[mX,h];rfl
end
abbrev uY(X:Cx)(N':Aaf)(scope:AC)(x:i9)(C:cr)(s:f8)(H:Hp)(ex:Aah):Cx:=
 {X with N:=N',aab:=s,aae:=H,env:=compEnvC scope ((x,C+1)::nO scope X.env) C X.env,outer:=37,stack:=37,ex:=ex,fn:=λy=>y==x,pn:=[],xe:=λ_ _=>False}
section
variable{X:Cx}
def Zm{bi:Aaa}{Z:St}{H:Hp}{s:f8}{scope:AC}{x:i9}{fs:Aaf}{fr:List Nat}{D:cr}{fp:Aah}{s2:f8}(S:qg X scope x fs fr)(I2:Inv X bi Z H s2)(I3:Inv X bi Z H s)
  (hD:D=94) (hs:34=D+1) (cb:∀b∈fp,b<D) (f2:∀b∈fp,oC X bi H b):(uY X (x::fs) scope x 34 s H<|D::fp).Ok:=by
 have qm:=λn hn=>I3.ok.has n<|.inl (S.free n hn).1;have sub:∀{y:i9}{c:cr},(nO scope X.env).lookup y>c->X.env.cells.lookup y>c:=λh=>((jV qm).mp h).2;have low:∀{y:i9}{c:cr},(nO scope X.env).lookup y>c->c<34:=λh=>by let(v,q):=I3.cell _ _<|sub h;show q.lt
 have two:∀{y:i9}{c:cr},((x,34+1)::nO scope X.env).lookup y>c->(y=x/\c=34+1)\/(nO scope X.env).lookup y>c:=λ{y c} h=>by
  rw[iS]at h;cases e:(y==x)with
  |true=>rw[e]at h;show .inl {d8 e,(cB h).symm}
  |false=>rw[e]at h;show .inr h
 show{I3.ok.mod,S.kind,I3.ok.glob,I3.ok.blt,aw _,λa b c h1 h2=>?_,λy hy=>?_,(λy c h hl=>?_),I3.ok.hd,I3.ok.frames,.inl rfl,26,I3.bs,aR I3.ok.yp I3.sz,λb o e hb=>?_,λb hb hf=>?_,I3.stack,I3.DM}
 ·rcases two h1 with⟨e1,e2⟩|h1'
  ·rcases two h2 with⟨e3,_⟩|h2';·rw[e1,e3]
   show absurd (low h2') (by rw[e2];show sO.mpr<|fY _)
  rcases two h2 with⟨_,e2⟩|h2';·show absurd (low h1') (by rw[e2];show sO.mpr<|fY _)
  show I3.ok.inj a b c (sub h1')<|sub h2'
 ·by_cases MD:y=x;·subst MD;show⟨_,Aa⟩
  have q:(NE scope X.env).names.lookup y>.cell\/(NE scope X.env).names.lookup y>.free:=hy;have nf:scope.names.lookup y>.free:=by
   rw[mX]at q;cases e:scope.names.lookup y with
   |none=>rw[e]at q;simp at q
   |some k=>
    rw[e]at q;cases k with
    |free=>rfl
    |cell=>
     have hm:(y,NameKind.cell)∈scope.names:=by have:=lW.mp e;let(l1,l2,z,__):=this;rw[z];simp
     show absurd (S.only y hm) MD
    |_=>simp at q
  have hm:y∈frees scope:=by let(l1,l2,z,__):=lW.mp nf;unfold frees;rw[z];simp
  let(c,hc):=qm y hm;show{c,?_};change((x,34+1)::nO scope X.env).lookup y>c;rw[iS,cG.mpr MD];show(jV qm).mpr ⟨hm,hc⟩
 ·have e:=d8 h;subst e;rcases two hl with⟨_,e2⟩|h1';·rw[e2];show fY _
  show absurd (S.loc.symm.trans (S.free y ((jV qm).mp h1').1).2) 84
 ·rcases aK.mp hb with rfl|hb
  ·show{λz=>?_,λy c h z=>?_};·show absurd (hs.symm.trans z.symm:b+1=b) (rp b)
   rcases two h with⟨_,e2⟩|h;·rw[e2,hs]at z;show absurd (z:b+1+1=b)<|cx<|bf (eS _)<|fY _
   let(v,q):=I2.cell y c<|sub h;have:=q.lt;rw[z,hD]at this;show absurd this<|da _
  show{λz=>?_,λy c h=>?_};·have q:=iz<|cb b hb;rw[z]at q;show absurd q (by change ¬34<D+1;rw[hs];show da _)
  rcases two h with⟨_,e2⟩|h;·ext z;have q:=cb b hb;rw[e2,hs]at z;rw[<-z]at q;show absurd (show D+1+1<D from q)<|sO.mpr<|aR (fY _)<|fY _
  show(f2 b hb).2.2.2.2.1 y c<|sub h
 ·have gm:=aS e;have h1:=I2.ok.yp;rcases aK.mp hb with rfl|hb;·rw[hD]at gm;show absurd (bf gm<|aR h1 I2.sz) (da _)
  rcases(f2 b hb).2.2.2.1 with z|z;·show I2.ok.Ay b o e z
  show absurd (bf gm<|aR h1 z)<|da _
 have hf':=hf;rcases aK.mp (I2.Ge b hf')with z|z
 ·rcases aK.mp hb with rfl|hb;·have:=I2.lt;rw[<-z,hD]at this;show absurd this (da _)
  show(f2 b hb).2.1 z
 rcases aK.mp hb with rfl|hb;·show I2.Yn (nr hD.symm) z
 show(f2 b hb).2.2.1 z
def Wu{bi:Aaa}{Z:St}{H:Hp}{s:f8}{scope:AC}{x:i9}{fs:Aaf}{fr:List Nat}{ex:Aah}{h4:nw}{m:Aab}{t:Nat}(S:qg X scope x fs fr)(I3:Inv X bi Z H s)
  (ok:(uY X (x::fs) scope x 34 s H ex).Ok) (hn:h4.Ns 34 m) (hc4:h4.IsCell (34+1) none) (old:∀b o,s.heap.get? b>o->h4.get? b>o):
  Inv (uY X (x::fs) scope x 34 s H ex) [] (none::slotsOf fr Z) H (s\(h4,t)):=by
 have qm:=λn hn=>I3.ok.has n<|.inl (S.free n hn).1;have sub:∀{y:i9}{c:cr},(nO scope X.env).lookup y>c->X.env.cells.lookup y>c:=λh=>((jV qm).mp h).2;have two:∀{y:i9}{c:cr},((x,34+1)::nO scope X.env).lookup y>c->(y=x/\c=34+1)\/(nO scope X.env).lookup y>c:=λ{y c} h=>by
  rw[iS]at h;cases e:(y==x)with
  |true=>rw[e]at h;show .inl {d8 e,(cB h).symm}
  |false=>rw[e]at h;show .inr h
 show{ok,9,I3.bare,Un.kept old,{m,hn,λi y v e1 e2 e3=>?_},λy c h=>?_,I3.bC.fresh<|aw _,λy c h=>?_,λp hp=>absurd hp 84,I3.bC.kept old,?_}
 ·cases i with
  |zero=>
   have uX:(none:Aan)>v:=by simpa using e2
   cases uX
  |succ j=>
   have uX:(slotsOf fr Z)[j]?>some v:=by simpa using e2
   unfold slotsOf at uX;rw[aW]at uX;cases hk:fr[j]? with
   |none=>rw[hk]at uX;cases uX
   |some k=>
    rw[hk]at uX;have e4:(Z[k]?).getD none>v:=by simpa using uX
    have e5:Z[k]?>some v:=by
     cases q:Z[k]? with
     |none=>rw[q]at e4;cases e4
     |some z=>rw[q]at e4;show dX some e4
    let(n1,n2):=S.slots j y k (↑e1) hk;let(m0,__,hl):=I3.loc;let(u,ru,l):=hl k y v n1 e5<|.inr<|.inl (S.free y n2).1;have kc:=(S.free y n2).1;rcases l with⟨l,_⟩|⟨_,c,hc,cl⟩;·rw[kc]at l;cases l
    show{u,ru,.inr {.inl ?_,c,?_,uC old cl}};rotate_left;·have MD:y≠x:=λz=>absurd (S.loc.symm.trans<|z▸(S.free y n2).2) 84;change((x,34+1)::nO scope X.env).lookup y>c;rw[iS,cG.mpr MD];show(jV qm).mpr ⟨n2,hc⟩
    change(NE scope X.env).names.lookup y>.cell;rw[mX,(S.free y n2).2,I3.ok.kind,kc];rfl
 ·rcases two h with⟨_,e2⟩|h;·rw[e2];show⟨none,hc4⟩
  let(v,z):=I3.cell y c<|sub h;show{v,uC old z}
 ·rcases two h with⟨_,e2⟩|h;·rw[e2];show I3.bC.fresh (fY _)
  show I3.kN y c<|sub h
 change(none::slotsOf fr Z).length=(x::fs).length;simp[slotsOf,S.len]
def afj{scope:AC}{x:i9}{fs:Aaf}{fr:List Nat}(S:qg X scope x fs fr):N4 X scope (x::fs) (λC=>(x,C+1)::nO scope X.env) (λy=>y==x) 1 fr:=
 {S.kind,S.names,λn hn=>(S.free n hn).1,λbi Z s2 H2 fp g3 Q I2 I3 hC cb f2 q=>u7 S.one λh4 YG hc4 Cj=>
  have ok:=Zm (s:=s2\g3) (D:=94) (fp:=fp) S I2 I3 rfl hC cb f2
  q h4 _ ok (Wu S I3 ok YG hc4 Cj) Cj}
def Jb{elt iter:wv}{x:i9}{px:Gc}{ifs:List wv}{scope:AC}{pos:Gc}{wi:TI}{fs:Aaf}{fr:List Nat}{tt:TT}{te:TE}(hc:X.calm=true)(S:qg X scope x fs fr)(hi:PI X 96 iter wi)
  (ht:∀C s H ex,CT 155 ifs tt) (he:∀C s H ex,PE 155 elt te) (hs:∀z,sK iter X.env z=pure z:=by intro _;rfl):
  PE X (.ListComp elt [{96,iter,ifs,0}] scope pos) (ux wi fr tt te):=by
 rw[BP];show Jc hc (afj S) hi (λC s H ex=>om (i:=0) S.nd 9 (Or.inr<|Lv S.loc)<|.inl<|nP x) ht he hs
def X4{elt iter:wv}{x:i9}{px:Gc}{scope:AC}{pos:Gc}{wi:TI}{fs:Aaf}{fr:List Nat}{te:TE}(hc:X.calm=true)(S:qg X scope x fs fr)(hi:PI X 96 iter wi)
  (he:∀C s H ex,PE 155 elt te) (hs:∀z,sK iter X.env z=pure z:=by intro _;rfl):
  PE X (.ListComp elt [{96,iter,[],0}] scope pos) (ux wi fr DL te):=Jb hc S hi (λ_ _ _ _=>Hg) he hs
def Ra{elt iter c:wv}{x:i9}{px:Gc}{scope:AC}{pos:Gc}{wi:TI}{fs:Aaf}{fr:List Nat}{tc:TT}{te:TE}(hc:X.calm=true)(S:qg X scope x fs fr)(hi:PI X 96 iter wi)
  (ht:∀C s H ex,PT 155 c tc) (he:∀C s H ex,PE 155 elt te) (hs:∀z,sK iter X.env z=pure z:=by intro _;rfl):
  PE X (.ListComp elt [{96,iter,[c],0}] scope pos) (ux wi fr tc te):=Jb hc S hi (λC s H ex=>ND<|ht C s H ex) he hs
def Ws(osc:AC)(N:Aaf)(scope:AC)(x:i9)(fs:Aaf)(fr:List Nat):Bool:=
 scope.kind==.function&&scope.names.lookup x==some .cell&&scope.names.all (λy=>y.2 !=.local||scope.names.lookup y.1==some .local)&&(scope.names.filter λy=>y.2==.cell)==[(x,.cell)]&&
  (frees scope).all (λn=>osc.names.lookup n==some .cell&&scope.names.lookup n==some .free)&&decide ((x::fs).Nodup)&&fr.length==fs.length&&
  (List.range fs.length).all (λj=>match fs[j]?,fr[j]? with|some y,some k=>N[k]?==some y&&decide (y∈frees scope)|_,_=>false)
theorem LX{x:i9}:∀{l:List (i9×Ch)},(l.filter λy=>y.2==.cell)=[(x,.cell)]->∃a b,l=a++(x,.cell)::b/\(∀y∈a,y.2≠ .cell)/\∀y∈b,y.2≠ .cell
 |[],h=>by cases h
 |(y,k)::r,h=>by
  rw[eT]at h;cases hk:(k==NameKind.cell)with
  |true=>
   simp only[hk,lZ]at h;let(h1,h2):=List.cons.inj h;show{[],r,by rw[<-h1];rfl,84,λz hz e=>?_};have:z∈r.filter λy=>y.2==.cell:=gH.mpr {hz,by rw[e];rfl};rw[h2]at this;cases this
  |false=>
   simp only[hk,dq,gh]at h;let(a,b,e,ha,hb):=LX h;show{(y,k)::a,b,by rw[e];rfl,λz hz=>?_,hb};rcases aK.mp hz with rfl|hz;·exactλe=>by rw[show k=.cell from e]at hk;cases hk
   show ha z hz
def Hi{scope:AC}{x:i9}{fs:Aaf}{fr:List Nat}(h:Ws X.env.scope X.N scope x fs fr=true:=by kernel_rfl):qg X scope x fs fr:=by
 unfold Ws at h;simp only[bT]at h;obtain⟨⟨⟨⟨⟨⟨⟨h1,h2⟩,h3⟩,h4⟩,h5⟩,h6⟩,h7⟩,h8⟩:=h;show{d8 h1,d8 h2,λy hy e=>?_,LX<|d8 h4,λn hn=>?_,bz h6,d8 h7,λj y k e1 e2=>?_};·have:=cz.mp h3 y hy;rw[e]at this;simpa using this
 ·have:=cz.mp h5 n hn;rw[bT]at this;show{d8 this.1,d8 this.2}
 have:=cz.mp h8 j<|cZ.mpr (aq.mp e1).1;rw[e1,e2]at this;simp only[bT]at this;show{d8 this.1,bz this.2}
end
end L2
namespace L2
open PySem PySem.Spec PyProof.Rows Br
section
variable{prog:io}{w:i6}{κ:Type}[DecidableEq κ]{kd:HeapKind prog w κ}{A:ss}{E:Aac}{s:f8}
def Gn(hu:kd.room A)(qZ:kd.is s.heap k a)(hm:s.heap.DictOfH kd d xs)
  (h1:∀p,atKey xs k>p->Q p.2 {s with toks:=21+kd.draws k})
  (h2:atKey xs k=none->∀h',h'.DictOfH kd d (storedH xs k a v)->Heap.SameBut d s.heap h'->Q v {s with heap:=h',toks:=21+kd.draws k}) (hsz:42<=dL):
  f' 85 A (dictSetDefault d (-a) v) Q E s:=by
 let(o,es,ep,ho,hc,hd,he,his,hn):=hm;unfold dictSetDefault
 try with_reducible show bP ?_
 have lz:=xQ he;show ae<|kd.pyHash hu qZ<|ae<|wpAny_dictFind_heap hu qZ ho hd he his hn (λzN=>?_) (λj p hj=>?_)
 ·have nk:=not_mem_keys_of_get zN;have e0:=atKey_none_of_get zN;have e1:=storedH_new e0;show ae<|jU<|ae<|wpAny_updateDictKeys ho hd<|ah<|h2 e0 _ {_,_,ep+1,cI _ ho<|Obj.isFreed_of_dict<|AW hd _,hc.mapDictKeys _,AW hd _,?_,?_,?_}<|cj ..;·rw[e1,aJ,<-he];simp[ZB]
  ·rw[e1];ext x hx;rcases aE.mp hx with q|q;·show kd.keeps (his x q) ho hd (cj ..)
   rw[ar.mp q];show kd.keeps qZ ho hd<|cj ..
  rw[e1,aJ];show dG.mpr {hn,84,λx hx y hy e=>?_};have hy':y=k:=by simpa using hy
  show nk (by rw[<-hy',<-e];show hx)
 show ae<|iy ho hd ?_;rw[PySem.entry_at he j,hj];show ae<|jU<|ah<|h1 p<|atKey_of_get hn hj
def D9(kd:HeapKind prog w κ)(d a:cr)(hd:(d==ww)=false)(z:i5):
  MeetsIn prog w (Builtin.«dict.setdefault» {[-d,-a,z],[]}) (λA R s=>kd.room A.in1/\∃k xs,kd.is s.heap k a/\s.heap.DictOfH kd d xs/\42<=dL/\
   (∀p,atKey xs k>p->R (.ok<|.ret p.2) {s with toks:=21+kd.draws k})/\
   (atKey xs k=none->∀h',h'.DictOfH kd d (storedH xs k a z)->Heap.SameBut d s.heap h'->R (.ok<|.ret z) {s with heap:=h',toks:=21+kd.draws k})):=
 .of_wp λA R s hx=>by let(hu,k,xs,qZ,hm,hz,h1,h2):=hx;unfold Builtin.«dict.setdefault»;show ae ?_;unfold Builtin.Dict.keyAndDefault;show ae<|iU hm.typeIs ?_;change f' _ _ (pure (d,Value.ref a,some z)) _ _ s;show ah ?_;change f' _ _ (if(d==ww)=true then _ else(dictSetDefault d (-a) z>>=_)) _ _ s;rw[aL (by rw[hd];show bX)];show ae<|Gn hu qZ hm (λp hp=>ah {_,9,h1 p hp}) (λhn h' m' b'=>ah {z,9,h2 hn h' m' b'}) hz
def ab5(hd:(d==ww)=false)(ho:s.heap.get? d>o)(hx:o.ExactDict)(ahV:o.data=.dict es ep)(aiG:(87:Int)<2^63)
  (h:∀t t',Q (.int 87 t) {s with toks:=t'}):f' 85 A (Go (.builtin "len") [-d]) Q E s:=by
 have ty:s.TypeIs (-d) "dict":={o,ho,hx.1};show jh kind_len plain_len entry_len (args_len1 _) ?_;show ae 92;show ae (pc ty F.slot_dict_len
  (bN F.slot_dict_len ty F.entry_dict_len ?_ (F.args_dict_len_1 _)))
 change f' _ _ (dictSize d>>=_) _ _ s;show ae<|ae<|iy ho ahV 92;show ae<|wpAny_pendingCount_other hd ?_;show ae<|wpAny_mkInt<|ah {_,9,?_};show ae<|bP 92;show ae<|Ew ?_;rw[aL ∅];rw[aL ∅];show ae<|wpAny_mkInt<|ah {_,9,h _ _}
end
section
variable{X:Cx}{bi:Aaa}{Z:St}{H:Hp}{s:f8}{A:ss}{E:Aac}{a b:cr}{kvs:List (NK×cr×V)}{k:NK}{z:V}
def Wf(hu:A.units+101<wE)(I:Inv X bi Z H s)(h:iw 86 X.w X.K H a kvs)(hk:il X.K H k b)(rL:kvs.length<10000000)(rv:RelV z r)
  (q1:∀v w' s',valN kvs k>v->Inv X bi Z H s'->RelV v w'->Q w' s')
  (q2:valN kvs k=none->∀s',Inv X bi Z (upd H a<|.ext<|DN 86 X.w a<|putN kvs k b z) s'->Q r s'):f' 91 A (Go (.builtin "dict.setdefault") [-a,-b,r]) Q E s:=by
 let(lo,xs,rel,hl,dd):=I.yk h;have lx:42<=dL:=by rw[<-rel.length,bW];lia
 have e:=DP rel k;show sH eK dd.typeIs tu (sM _ _ _) (D9 (lB 86 X.w) a b lo r)
  {show A.units+1+100<wE by lia,k,xs,I.HV hk,dd,lx,λp hp=>?_,λhn h' CW hs=>?_}
 ·rw[hp]at e;cases ev:valN kvs k with
  |none=>rw[ev]at e;show e.elim
  |some v=>rw[ev]at e;show q1 v _ _ ev 44 e
 rw[hn]at e;cases ev:valN kvs k with
 |some v=>rw[ev]at e;show e.elim
 |none=>
  let(o,es,ep,g,x2,x3,x4,__,x5):=CW;have lp:=qW (kvs:=kvs) (k:=k) (b:=b) (v:=z);show q2 ev _<|DY I ?_ hs ⟨o,g⟩ (aaD {lo,_,Lw rel rv,8,o,es,ep,g,x2,x3,x4,x5});rcases h.1 with e|⟨_,e⟩<;>rw[e]<;>show True.intro
def acw(hu:A.units+101<wE)(I:Inv X bi Z H s)(h:iw 86 X.w X.K H a kvs)(hk:il X.K H k b)(rv:RelV z r)(q:∀w' s',Inv X bi Z H s'->RelV ((valN kvs k).getD z) w'->Q w' s'):
  f' 91 A (Go (.builtin "dict.get") [-a,-b,r]) Q E s:=by
 let(lo,xs,rel,hl,dd):=I.yk h;show sH i7 dd.typeIs qJ (xI _ _ _) (meetsH_dict_get_default (lB 86 X.w) a b lo r)
  {show A.units+1+100<wE by lia,k,xs,I.HV hk,dd,q _ _ 44<|(DP rel k).getD rv}
def PL(I:Inv X bi Z H s)(h:iw 86 X.w X.K H a kvs):s.TypeIs (-a) "dict"/\∀b,Value.ref a=.ref b->∃ob,s.heap.get? b>ob/\ob.dict=none:=by let(lo,xs,rel,hl,dd):=I.yk h;show{dd.typeIs,λb q=>?_};cases q;let(ob,__,__,h1,h2,__):=dd;show{ob,h1,h2.2.1}
def aff(I:Inv X bi Z H s)(h:iw 86 X.w X.K H a kvs)(q:∀t s',Inv X bi Z H s'->Q (.int kvs.length t) s'):f' 91 A (Go (.builtin "len") [-a]) Q E s:=by
 let(lo,xs,rel,hl,o,es,ep,g,hx,hd,he,__):=I.yk h;have l1:87=kvs.length:=by rw[xQ he,rel.length]
 show ab5 lo g hx hd ∅ λt t'=>?_;rw[l1];show q t _ 44
end
inductive To(P:io)(w:i6)(K:Frag)(ty:TE)(tz:TE)(Z:St)(Q:VK)(x:V)(H1:Hp):Prop
 |mk a Mr (_:x=-a) (_:iw P w K H1 a Mr) (_:ty Z H1 λy H2=>tz Z H2 λz H3=>∃b kvs k,y=-b/\iw P w K H3 a kvs/\il K H3 k b/\kvs.length<10000000/\(∀v,valN kvs k>v->Q v H3)/\(valN kvs k=none->Q z (upd H3 a<|.ext<|DN P w a<|putN kvs k b z)))
def Xo(P:io)(w:i6)(K:Frag)(td ty tz:TE):TE:=λZ H Q=>td Z H λx H1=>To P w K ty tz Z Q x H1
inductive Xs(P:io)(w:i6)(K:Frag)(ty:TE)(tz:TE)(Z:St)(Q:VK)(x:V)(H1:Hp):Prop
 |mk a Mr (_:x=-a) (_:iw P w K H1 a Mr) (_:ty Z H1 λy H2=>tz Z H2 λz H3=>∃b kvs k,y=-b/\iw P w K H3 a kvs/\il K H3 k b/\Q ((valN kvs k).getD z) H3)
def aa9(P:io)(w:i6)(K:Frag)(td ty tz:TE):TE:=λZ H Q=>td Z H λx H1=>Xs P w K ty tz Z Q x H1
section
variable{X:Cx}{o e f:wv}{Fa eR:Gc}{td ty tz:TE}
def Gz(hu:X.A.units+101<wE)(ho:PE X o td)(he:PE X e ty)(hf:PE X f tz)(m:M2 X o "setdefault" Fa e f eR):PE X (.Call (.Attribute o "setdefault" Fa) [e,f] [] eR) (Xo 86 X.w X.K td ty tz):=by ext bi s Z H Q I h;show qr m.base m.jk m.line dM eK ig (dv 111 λu s1 x H1 I1 rx ag8=>?_);let(a,Mr,ex,d,q1):=ag8;subst ex;obtain rfl:u=Value.ref a:=rx;let(t1,t2):=PL I1 d;show{t1,t2,?_};rw[m.trees];show eI rfl (jF<|f9 (dv (he bi s1 Z H1 _ I1 q1) λiv s2 y H2 I2 ry q2=>f9 (dv (hf bi s2 Z H2 _ I2 q2) λfv s3 z H3 I3 rz ⟨b,kvs,k,ey,g,hk,hl,k1,k2⟩=>kJ ?_)));subst ey;obtain rfl:iv=Value.ref b:=ry;show Wf hu I3 g hk hl rz (λv w' s4 ev I4 r4=>{v,H3,I4,r4,k1 v ev}) λev s4 I4=>{z,_,I4,rz,k2 ev}
def I0(hu:X.A.units+101<wE)(ho:PE X o td)(he:PE X e ty)(hf:PE X f tz)(m:M2 X o "get" Fa e f eR):PE X (.Call (.Attribute o "get" Fa) [e,f] [] eR) (aa9 86 X.w X.K td ty tz):=by ext bi s Z H Q I h;show qr m.base m.jk m.line dM i7 rP (dv 111 λu s1 x H1 I1 rx ag7=>?_);let(a,Mr,ex,d,q1):=ag7;subst ex;obtain rfl:u=Value.ref a:=rx;let(t1,t2):=PL I1 d;show{t1,t2,?_};rw[m.trees];show eI rfl (jF<|f9 (dv (he bi s1 Z H1 _ I1 q1) λiv s2 y H2 I2 ry q2=>f9 (dv (hf bi s2 Z H2 _ I2 q2) λfv s3 z H3 I3 rz ⟨b,kvs,k,ey,g,hk,k1⟩=>kJ ?_)));subst ey;obtain rfl:iv=Value.ref b:=ry;show acw hu I3 g hk rz λw' s4 I4 r4=>⟨_,H3,I4,r4,k1⟩
def JM:fD X (.builtin "len") (λxs H Q=>∃a kvs,xs=[V.ref a]/\iw 86 X.w X.K H a kvs/\Q (.int kvs.length) H):=by ext bi s Z H xs us Q I r h;let(a,kvs,rfl,ha,q):=h;let(u,rfl,ru):=jn r;cases ru;show aff I ha λt s' I'=>{.int kvs.length,H,I',⟨t,rfl⟩,q}
inductive acb(P:io)(w:i6)(K:Frag)(R:It->Hp->Prop)(x:V)(H1:Hp):Prop
 |mk d u kvs (_:x=-d) (_:H1 d>u) (_:iw P w K H1 d kvs) (_:∀o,R (WU d o u (kvs.map λp=>(.ref p.2.1,p.2.2)))<|upd H1 d<|.fF o u)
def aeu(P:io)(w:i6)(K:Frag)(tl:TE):TI:=λZ H R=>tl Z H λx H1=>acb P w K R x H1
def XW(hl:PE X l tl):PI X tg l (aeu 86 X.w X.K tl):=by
 ext bi s Z H R I h;show dv 135 λv s1 x H1 I1 r1 q1=>?_;let(d,u,kvs,e,hd,hv,q):=q1;subst e;cases r1;let(lo,xs,rel,__,o,es,ep,ga,hx,hdt,he,__):=I1.yk hv;have ents:∀{l:List 95}{xs:List (NK×cr×i5)},Paired 115 l xs->Paired 139 (l.map λp=>(V.ref p.2.1,p.2.2)) (xs.map<|ZB<|lB 86 X.w):=λr=>by
  induction r with
  |nil=>show .nil
  |@cons p q ps qs h _ ih=>show .cons {by change Value.ref q.2.1=Value.ref p.2.1;rw[h.2.1],h.2.2} ih
 have m:SM o es ep (kvs.map λp=>(V.ref p.2.1,p.2.2)):={hx,hdt,he▸ents rel};have I2:Inv X bi Z (upd H1 d<|.fF o u) s1:=by
  rcases hv.1 with e|⟨_,e⟩;·rw[hd]at e;cases e;show I1.Qh hd ga
  rw[hd]at e;cases e;show I1.freeze hd ga
 show O8 lo ga m.1 m.2.1 ?_;show{22,[22],_,_,_,9,I2.kept λb o e=>ao _ e,Th m,{_,27,9,9},26,q o};have e:b=22:=by simpa using hb
 subst e;show I2.w6 (aw _)<|I2.bC.fresh<|aw _
def mD(n:Nat)(k:NK):Prop:=(NK.toD k).canLay0=true/\(NK.toD k).depth<=n/\NK.deep k<=n
def YT{n:Nat}:mD n .cU:={by simp[NK.toD,PyData.canLay0],by simp[NK.toD,PyData.depth],by simp[NK.deep]}
def FO{n:Nat}(i:Int):mD n (.key<|.inl i):={by simp[NK.toD,PyData.canLay0],by simp[NK.toD,PyData.depth],by simp[NK.deep]}
def q9(h:PyData.strOk z=true):mD n (.key<|.inr z):={by simp[NK.toD,PyData.canLay0,h],by simp[NK.toD,PyData.depth],by simp[NK.deep]}
theorem Nc:∀{ks:List NK},(∀k∈ks,mD n k)->PyData.canLayAll0 (NK.oq ks)=true/\PyData.depthAll (NK.oq ks)<=n/\NK.k7 ks<=n
 |[],_=>{by simp[NK.oq,PyData.canLayAll0],by simp[NK.oq,PyData.depthAll],by simp[NK.k7]}
 |k::ks,h=>by
  let(a1,a2,a3):=h k ay;let(b1,b2,b3):=Nc λk hk=>h k<|az _ hk;show{by simp[NK.oq,PyData.canLayAll0,a1,b1],?_,?_};·simp only[NK.oq,PyData.depthAll];lia
  simp only[NK.k7];lia
def mJ(h:∀k∈ks,mD n k):mD (n+1) (.tup ks):=by let(b1,b2,b3):=Nc h;show{by simp only[NK.toD,PyData.canLay0];show b1,by simp only[NK.toD,PyData.depth];lia,by simp only[NK.deep];lia}
def mD.good(h:mD n k)(hn:n<=07):SH k:={h.1,aR h.2.1 hn,aR h.2.2 hn}
def iV(zs:Aaf):NK:=.tup (zs.map λz=>.key<|.inr z)
def DR(h:iV xs=iV ys):xs=ys:=by injection h with h;show Dn (λa b e=>by injection e with e;injection e)|>.mp h
def AG(h:∀z∈zs,PyData.strOk z=true):mD 1 (iV zs):=mJ λk hk=>by let(z,hz,rfl):=aD.mp hk;show q9<|h z hz
theorem L3{K:Frag}:∀zs:Aaf,qM K H (zs.map λz=>NK.key<|.inr z) 57
 |[]=>by rw[gB,qM];rfl
 |z::r=>by show{_,_,9,by rw[NV];rfl,L3 r}
def GH{K:Frag}(h:bA K H a 57):NV K H (iV zs) (-a):=by unfold iV;show{a,_,9,h,L3 zs}
def Mw{K:Frag}(h:bA K H a 57)(hz:∀z∈zs,PyData.strOk z=true):il K H (iV zs) a:={GH h,(AG hz).good 7}
def ad4{K:Frag}(h:NV K H (iV zs) (-a)):bA K H a 57:=by
 have all:∀{zs:Aaf}{xs:Aam},qM K H (zs.map λz=>NK.key<|.inr z) xs->xs=zs.map V.str:=by
  ext zs
  induction zs with
  |nil=>ext xs h;rw[gB,qM]at h;show h
  |cons z r ih=>
   ext xs h;let(x,t,rfl,h1,h2):=h;rw[h1,ih h2];rfl
 unfold iV at h;let(b,xs,e,hq,h):=h;cases e;rw[<-all h];show hq
def zF(z:i9)(n:Nat):NK:=.tup [.key<|.inr z,.key<|.inl n]
def xW(z:i9)(n i:Nat)(t:i9):NK:=.tup [.key<|.inr z,.key<|.inl n,.key<|.inl i,.key<|.inr t]
def My{K:Frag}{H:Hp}{a:cr}{z:i9}{n:Nat}(h:bA K H a [.str z,.int n])(hz:PyData.strOk z=true):il K H (zF z n) a:=by
 show{?_,(mJ (n:=0) λk hk=>?_).good 7};·unfold zF;show{a,_,9,h,?_};show⟨_,_,rfl,rfl,_,_,rfl,rfl,rfl⟩
 simp only[aK,lF,uc]at hk;rcases hk with rfl|rfl;·show q9 hz
 show FO _
def Mx{K:Frag}{H:Hp}{a:cr}{z t:i9}{n i:Nat}(h:bA K H a [.str z,.int n,.int i,.str t])(hz:PyData.strOk z=true)(ht:PyData.strOk t=true):il K H (xW z n i t) a:=by
 show{?_,(mJ (n:=0) λk hk=>?_).good 7};·unfold xW;show{a,_,9,h,?_};show⟨_,_,rfl,rfl,_,_,rfl,rfl,_,_,rfl,rfl,_,_,rfl,rfl,rfl⟩
 simp only[aK,lF,uc]at hk;rcases hk with rfl|rfl|rfl|rfl;·show q9 hz
 ·show FO _
 ·show FO _
 show q9 ht
def abZ{z z':i9}{n n':Nat}:zF z n=zF z' n'↔z=z'/\n=n':=by unfold zF;simp only[NK.tup.injEq,oS,NK.key.injEq,vh,Sum.inl.injEq,AQ,Int.ofNat_inj]
def abY{z z' t t':i9}{n n' i i':Nat}:xW z n i t=xW z' n' i' t'↔z=z'/\n=n'/\i=i'/\t=t':=by unfold xW;simp only[NK.tup.injEq,oS,NK.key.injEq,vh,Sum.inl.injEq,AQ,Int.ofNat_inj]
def ad5{z z' t':i9}{n n' i':Nat}:zF z n≠xW z' n' i' t':=by unfold zF xW;simp
def oW(e:p.1=k):valN (p::r) k>p.2.2:=by unfold valN;rw[iJ (p:=λp:NK×cr×V=>decide (p.1=k))<|bD e];rfl
def oX(e:¬p.1=k):valN (p::r) k=valN r k:=by unfold valN;rw[iK (p:=λp:NK×cr×V=>decide (p.1=k)) (λq=>e<|bz q)]
theorem Kw:∀kvs:List 95,valN (kvs.map λp=>if p.1=k then(p.1,p.2.1,v)else p) j=(valN kvs j).map λx=>if j=k then v else x
 |[]=>rfl
 |p::r=>by
  have ih:=Kw (k:=k) (j:=j) (v:=v) r;rw[a9];by_cases h:p.1=k
  ·rw[aN h];by_cases e:p.1=j;·rw[oW (p:=(p.1,p.2.1,v)) e,oW e,km,aN<|e.symm.trans h]
   rw[oX (p:=(p.1,p.2.1,v)) e,oX e,ih]
  rw[aL h];by_cases e:p.1=j;·rw[oW e,oW e,km,aL (λz=>h<|e.trans z)]
  rw[oX e,oX e,ih]
theorem Iw:∀kvs:List 95,valN kvs k=none->valN (kvs++[(k,a,v)]) j=if j=k then some v else valN kvs j
 |[],_=>by
  by_cases e:k=j;·rw[aN e.symm];show oW e
  rw[aL (λz=>e z.symm)];show oX e
 |p::r,hn=>by
  rw[nV];have hk:¬p.1=k:=λz=>by rw[oW z]at hn;cases hn
  rw[oX hk]at hn;by_cases e:p.1=j;·rw[oW e,oW e,aL (λz=>hk<|e.trans z)]
  rw[oX e,oX e,Iw (j:=j) (a:=a) (v:=v) r hn]
def uH:valN (putN kvs k a v) j=if j=k then some v else valN kvs j:=by
 unfold putN;split
 ·next hs=>
  rw[Kw];by_cases c:j=k;·let(x,hx):=lD.mp hs;rw[aN c,c,hx,km,aN rfl]
  rw[aL c];cases valN kvs j with
  |none=>rfl
  |some x=>rw[km,aL c]
 next hs=>
 show Iw kvs ?_;cases e:valN kvs k with
 |none=>rfl
 |some x=>rw[e]at hs;show absurd rfl hs
def Me(h:p∈putN kvs k a v):(∃q∈kvs,p.1=q.1/\p.2.1=q.2.1)\/(p.1=k/\p.2.1=a):=by
 unfold putN at h;split at h;·let(q,hq,rfl):=aD.mp h;show .inl {q,hq,?_};split<;>show⟨rfl,rfl⟩
 rcases aE.mp h with h|h;·show .inl ⟨p,h,rfl,rfl⟩
 rw[ar.mp h];show .inr ⟨rfl,rfl⟩
def Cu{kvs:List 95}{k j:NK}{a:cr}{v:V}:(∃p∈putN kvs k a v,p.1=j)↔j=k\/∃p∈kvs,p.1=j:=by
 have key:∀(l:List 95)(j:NK),(∃p∈l,p.1=j)↔(valN l j).isSome=true:=by ext l j;unfold valN;rw[mS,Ei];show⟨λzq=>by let(p,hp,e):=zq;show{p,hp,bD e},λuF=>by let(p,hp,e):=uF;show{p,hp,bz e}⟩
 rw[key,key,uH];by_cases c:j=k;·rw[aN c];simp[c]
 rw[aL c];simp[c]
def PB{kvs:List 95}{j:NK}:(∃p∈kvs,p.1=j)↔(valN kvs j).isSome=true:=by unfold valN;rw[mS,Ei];show⟨λzq=>by let(p,hp,e):=zq;show{p,hp,bD e},λuF=>by let(p,hp,e):=uF;show{p,hp,bz e}⟩
end
end L2
namespace L2
open PySem PySem.Spec PyProof.Rows PySem.W Br
section
variable{X:Cx}
inductive abu(x:V)(vs:Aam)(H:Hp)(Q:VK):Prop
 |mk (l:cr) (zs:List Int) (z:Int) (j:Nat) (_:x=-l) (_:vs=[.int z]) (_:H l>.lst (zs.map V.int)) (_:zs[j]?>z) (_:(∀m,m<j->zs[m]?≠some z)) (_:Q (.int (j:Int)) H)
def UN:NU X "list.index" abu:=by
 ext bi s Z H x vs v us Q I rx rv h;let(l,zs,z,j,rfl,rfl,hH,hj,zN,q):=h;cases rx;let(u,rfl,ru):=rv.one;let(t,rfl):=ru;let(z',aM,n,r,hl,e):=I.AD hH;have Wa:∀m,(m:Nat)<aM.length->∃y t',aM[m]?>.int y t'/\zs[m]?>y:=λm hm=>by
  have hz:m<28:=by have:=r.length;rw[af]at this;lia
  let(u',tI,ru'):=r.get (by rw[aW,au hz];rfl);let(t',rfl):=ru';show{zs[m],t',tI,au hz}
 have lz:=r.length;rw[af]at lz;have uT:j<aM.length:=by have:=(aq.mp hj).1;lia
 have sl:=wW
 let eq:i5->Bool:=λy=>match y with| .int a _=>a==z|_=>false
 have YK:∀y,y∈aM.toArray->MeetsSeq.EqGives y (.int z t) (eq y):=λy hy=>by let(m,hm):=A1 (by simpa using hy:y∈aM);let(a,t',e1,__):=Wa m (aq.mp hm).1;rw[hm]at e1;cases e1;show MeetsSeq.EqGives.int a z t' t
 have MG:∀m(hm:m<aM.toArray.size),∃a t',aM.toArray[m]=.int a t'/\zs[m]?>a:=λm hm=>by let(a,t',e1,e2):=Wa m<|↑hm;show{a,t',?_,e2};have:=(aq.mp e1).2;simpa using this
 have VC:j<aM.toArray.size:=by simpa using uT
 show mB Eo ⟨_,e,rfl⟩ Dw (BI _ _) (BD l aM.toArray n (.int z t) eq YK j VC ∅ ?_ λm hm cb=>?_) {e,{.int _,H,44,66,q}};·let(a,t',e1,e2):=MG j VC;rw[e1];rw[hj]at e2;cases e2;change(z==z)=true;simp
 let(a,t',e1,e2):=MG m hm;rw[e1];show cG.mpr λh=>zN m cb (by rw[e2,h])
variable{bi:Aaa}{Z:St}{H:Hp}{s:f8}
theorem Inv.WJ{lo:cr}(hlo:58<=lo/\23<lo/\(∀x c,X.env.cells.lookup x>c->c<lo)/\∀p∈X.pn++bi,p.1<lo):
  ∀(as:Aah)(ps:Aak)(H:Hp),Inv X bi Z H s->as.length=ps.length->as.Nodup->(∀a∈as,lo<=a/\H a=none)->
   (∀(j:Nat) a p,as[j]?>a->ps[j]?>p->∃t u,RelV p.1 t/\RelV p.2 u/\s.heap.get? a>{cls:=.type "tuple",data:=.seq #[t,u]})->
   ∃H',Inv X bi Z H' s/\(∀b u,H b>u->H' b>u)/\(∀b,b∉as->H' b=H b)/\∀(j:Nat) a p,as[j]?>a->ps[j]?>p->H' a>.tup [p.1,p.2]
 |[],[]=>λH I _ _ _ _=>{H,I,λ_ _ h=>h,λ_ _=>9,λj a p e=>by simp at e}
 |[],_::_=>λ_ _ e _ _ _=>by simp at e
 |_::_,[]=>λ_ _ e _ _ _=>by simp at e
 |a::as,p::ps=>λH I e nd fr tp=>by
  let(n1,n2):=df.mp nd;let(l1,l2,l3,l4):=hlo;let(ha,hna):=fr a ay;let(t,u,r1,r2,g):=tp 0 a p rfl rfl;have I1:=I.WK (o:=.tup [p.1,p.2]) hna {31,[t,u],.cons r1<|.cons r2 .nil,{_,g,9,0,9},_,g,9} (aR l1 ha) (cx<|bf l2 ha)
   (λx c h=>aU<|bf (l3 x c h) ha) (λq hq=>aU<|bf (l4 q hq) ha)
  let(H',I2,k1,k2,k3):=Inv.WJ ⟨l1,l2,l3,l4⟩ as ps _ I1 (↑e) n2 (λb hb=>{(fr b<|az _ hb).1,by rw[aI (show b≠a fromλz=>n1<|z▸hb)];show(fr b<|az _ hb).2})
   (λj b q e1 e2=>tp (j+1) b q (↑e1)<|↑e2)
  show{H',I2,λb v h=>k1 b v (by rw[aI<|bx h hna];show h),26,λj b q e1 e2=>?_};·rw[k2 b (λz=>hb<|az _ z),aI (λz=>hb (by rw[z];show ay))]
  cases j with
  |zero=>
   obtain rfl:a=b:=by simpa using e1
   obtain rfl:p=q:=by simpa using e2
   rw[k2 a n1];show aF
  |succ j=>show k3 j b q (↑e1)<|↑e2
def WV(r d:cr):nw->Prop:=λh=>h.IsItemsView r d
end
def aem(x:WV r d h):cW P w H h r (.ext<|WV r d):=
 {x,by let(o,q,__):=x;show⟨o,q⟩,λ_ _ zq k=>by let(o,q,z):=zq;show{o,k _ q,z}}
inductive aa7(Q:VK)(x:V)(H1:Hp):Prop
 |mk d kvs (_:x=-d) (_:H1 d>.dK kvs) (_:∀p,H1 p=none->Q (-p) (upd H1 p<|.ext<|WV p d))
def adb(td:TE):TE:=λZ H Q=>td Z H λx H1=>aa7 Q x H1
def XX{X:Cx}{Fa eR:Gc}{l:wv}{tl:TE}(hl:PE X l tl)(v8:wT l "items" X.env (wf l X.env)=wf l X.env:=by rfl)(v7:53=true:=by rfl):
  PE X (.Call (.Attribute l "items" Fa) [] [] eR) (adb tl):=by
 ext bi s Z H R I h;show qj v8 v7 (dv 135 λv s1 x H1 I1 r1 q1=>?_);let(d,kvs,e,hd,q):=q1;subst e;cases r1;let(lo,o,es,ep,ga,m):=Ic (I1.bC d _ hd)<|.inl ⟨kvs,rfl,rfl⟩;have ty:s1.TypeIs (-d) "dict":={o,ga,m.1.1};show{"dict","dict.items",dM,xH,PySem.F.type_dict_items,ty,λb q=>?_,eI rfl (tO ?_)};·cases q;show{o,ga,m.1.2.1}
 show bN xH ty PySem.F.entry_dict_items ?_ (PySem.F.args_dict_items_1 _);show ae<|ae<|iU ty 92;unfold Builtin.Dict.showsAll;rw[lo];show ae<|ah<|ae<|cK<|ah {_,9,?_};show{.ref 22,_,I1.laid (λb o e=>ao _ e) (aw _)<|aem {_,27,9,9},9,q _ 16}
def rowsOf(g:List (i9×i9)):R1:=g.map λp=>[p.1,p.2]
abbrev Kt(H:Hp):Aam->R1->Prop:=Paired λ(y:V)(zs:Aaf)=>∃a,y=-a/\H a>.tup 57
def XI{X:Cx}{bi:Aaa}{Z:St}{H:Hp}{s:f8}(I:Inv X bi Z H s):∀{zs:Aam}{rows:R1},fA X.K H zs rows->(∀z∈zs,∃a xs,z=-a/\H a>.tup xs)->Kt H zs rows:=by
 ext zs rows g h
 induction g with
 |nil=>show .nil
 |cons x _ ih=>
  let(a,e,hq):=x;subst e;let(a',xs,e',h'):=h _ ay;cases e';show .cons {a,9,?_} (ih λz hz=>h z<|az _ hz);rw[h',I.uJ (bA.of h') hq]
def FV{X:Cx}(hA:X.A.handled=none):fD X (.builtin "sorted") (λxs H Q=>∃(r d:cr)(g:List (i9×i9)),xs=[-r]/\H r>.ext (WV r d)/\H d>.dK (g.map λp=>(Sum.inr p.1,.str p.2))/\g.length<64/\
  ∀l zs rs H',(∀b u,H b>u->H' b>u)->H' l=none->H l=none->rs.Perm (rowsOf g)->Kt H' zs rs->Q (-l) (upd H' l<|.lst zs)):=by
 ext bi s Z H xs us Q I r h;let(v,d,g,rfl,hv,hd,Bk,q):=h;let(u,rfl,ru):=jn r;cases ru;let(iv,__):=(show cW 86 X.w H s.heap v (.ext<|WV v d)from I.bC v _ hv);let(hz,lo,vs,rel,o,es,ep,m):=Hc I.bC hd;have at':s.heap.DictAt (bZ 86 X.w) d vs ep:=⟨o,es,m⟩;have hl:g.length=vs.length:=by have:=rel.length;rw[af]at this;show this
 show jh yK wL xf (xl _) ?_;unfold Builtin.«sorted»;show ae (m:=checkCount "sorted" 1 1 _) 92;show ae (PySem.W.kdx_collect (A:=X.A.in1) (knd:=bZ 86 X.w) (↑hA) iv at' (by rw[<-hl,bW];lia) λh' tk as kp la G=>?_);have I1:Inv X bi Z H 77:=I.kept (t':=tk) kp;have la':as.length=g.length:=by rw[la,hl]
 let(H',I2,k1,k2,k3):=Inv.WJ (lo:=34) {I.sz,I.lt,λx c hc=>let⟨_,z⟩:=I.cell x c hc;z.lt,λp hp=>aS (I.pin p hp).1} as ((g.map λp=>((Sum.inr p.1:Key),V.str p.2)).map λkv=>(kV kv.1,kv.2)) H I1 (by rw[af,af,la']) (G.rise.imp (λh=>aU h)) (λa ha=>{cy<|G.above a ha,I.bC.fresh<|cy<|G.above a ha}) (λj a p e1 e2=>by let(key,k,x,e3,e4,e5):=G.pairs j a e1;rw[aW]at e2;let(kv,e6,rfl):=bw.mp e2;unfold KV at rel;let(q',e7,e8,e9):=Paired.at' rel e6;rw[e3]at e7;cases e7;show{key,x,by rw[show kv.1=k from e8];show wm e4,e9,e5})
 have k3:∀(j:Nat) a p,as[j]?>a->g[j]?>p->H' a>.tup [.str p.1,.str p.2]:=λj a p e1 e2=>k3 j a _ e1 (by rw[aW,aW,e2];rfl);have lb:as.length=(rowsOf g).length:=by rw[la'];show(af _).symm
 show Gi (s:=s) I2 lb (λi z b e1 e2=>?_) (λ_ r hr=>?_) (by rw[<-lb,la'];lia) λl zs rs lN m8 vF Vx=>q l zs rs H' k1 lN ?_ m8 (XI I2 vF λz hz=>?_);·unfold rowsOf at e1;rw[aW]at e1;let(p,e3,rfl):=bw.mp e1;show bA.of<|k3 i b p e2 e3
 ·let(p,__,rfl):=aD.mp hr;simp
 ·cases e:H l with
  |none=>rfl
  |some o=>rw[k1 l o e]at lN;cases lN
 let(b,hb,rfl):=aD.mp<|Vx z hz;let(j,hj):=gS.mp hb;have uT:j<g.length:=by have:=(aq.mp hj).1;lia
 show{b,_,9,k3 j b _ hj<|au uT}
section
variable{K:Frag}{a:cr}{xs:Aam}{fr:List Nat}{tt:TT}{te:TE}{Z:St}{H1:Hp}{R:cr->Aam->Hp->Prop}
def Oq(Pv:Nat->Aam->Hp->Prop)(hx:42<dL)(h0:Pv 0 [] H1)(hl:∀i ys H,i<=42->Pv i ys H->bA K H a xs/\48<=i)
  (hs:∀(i:Nat)(x:V)(ys:Aam)(H:Hp)(p:cr)(N:Aam->Hp->Prop),xs[i]?>x->Pv i ys H->H p=none->(∀jX H',Pv (i+1) jX H'->N jX H')->
   tt (some (.int i)::some x::slotsOf fr Z) (upd H p<|.tup [.int i,x]) λt H4=>if t=true then te (some (.int i)::some x::slotsOf fr Z) H4 150 else N ys H4)
  (hd:∀ys H,Pv 42 ys H->∀l,H l=none->R l ys H):DA (Io K a) 2 fr (Ks K) tt te Z H1 R:=by
 show{λi m ys H=>m=42 -i/\i<=42/\Pv i ys H,{42,84,aQ _,h0},?_};ext i m ys H ⟨rfl,hi,p⟩;let(q,hy):=hl i ys H hi p;by_cases cb:i<42;·show .inr {{xs,xs[i],q,by simp[cb]},8,?_};ext v H3 y own ho;let(r,z,rfl,hr,rfl,y):=y;show HK ho rfl (bA.of aF) {[some<|.int i,some z],9,9,(hs i z ys H r (λjX H'=>∃m',m'<42 -i/\m'=42 -(i+1)/\i+1<=42/\Pv (i+1) jX H') (y xs q) p hr λjX H' p'=>{_,8,9,cb,p'})}
 have e:i=42:=by lia
 subst e;show .inl {⟨xs,q,rfl⟩,8,hd ys H p}
end
section
variable{X:Cx}
def J0{elt iter tg c:wv}{x y:i9}{py tZ:Gc}{j:Nat}{more:Aaf}{g:TG}{scope:AC}{pos:Gc}{wi:TI}{fs:Aaf}{fr:List Nat}{tc:TT}{te:TE}(hN:X.N.Nodup)(hj:X.N[j]?>y)(hy:X.env.scope.names.lookup y>.local)(hc:X.calm=true)(S:uv X scope x more fs fr)(hi:PI X tg iter wi)(hg:∀C s H ex,PG 68 tg g)
  (ht:∀C s H ex,PT 68 c tc) (he:∀C s H ex,PE 68 elt te) (hs:∀z,sK iter X.env z=pure z:=by intro _;rfl)
  (GY:Ev (.ListComp elt [{tg,iter,[c],0}] scope pos) (some<|.Name y py) tZ.line X.env=pure true:=by rfl):
  PS X (.Assign [.Name y py] (.ListComp elt [{tg,iter,[c],0}] scope pos) tZ) (Ga j<|qB wi (more.length+1) fr g tc te):=Cb hN hj hy hc S hi hg (λC s H ex=>ND<|ht C s H ex) he hs GY
def sQ(P:io)(w:i6)(K:Frag)(mg:Aab)(base:nw)(C:cr)(k:Nat)(m:i9)(ps:Aaf)(sp:Sp):Prop:=
 ∃f fd,cN P w K mg base fZ k f fd ps sp/\Meth K C m f/\Binds K fd ps []
def UP(c:Bw X.K C)(D:sQ 86 X.w X.K X.mg X.base C k m ps sp)(hr:gx j X.A)(ho:PE X o ta)(ha:PA X (e::es) t)(hk:k<=j:=by decide)
  (qG:jp (e::es) X.env=(false,wf e X.env)::jp es X.env:=by rfl) (iu:(Da pos 73).any (·.1)=false:=by rfl)
  (ht:wf 185 X.env=(do
   let ov<-wf o X.env
   standAt Fa.atName
   let(f,first)<-KE [ov] (Uf ov m pl)
   callWith pos f first (Da pos<|jp (e::es) X.env) (Pi pos<|G' [] X.env)):=by rfl):
  PE X 185 (ZW C m sp [] E0 ta t):=by
 let(f,fd,F,me,b):=D;show abF ho c me F (hr.mono hk) b .nil Kk ha qG iu ht
def Kr(hr:gx k A):A.units+101<wE:=by have:=hr.un;lia
def Rx{kvs:List 95}{k:NK}{a:cr}{v:V}(h:(kvs.map (·.1)).Nodup):((putN kvs k a v).map (·.1)).Nodup:=by
 unfold putN;split
 ·have e:(kvs.map λp=>if p.1=k then(p.1,p.2.1,v)else p).map (·.1)=kvs.map (·.1):=by rw[dF];show dO λp _=>?_;change(if p.1=k then(p.1,p.2.1,v)else p).1=p.1;split<;>rfl
  rw[e];show h
 next hs=>
 rw[aJ];show dG.mpr {h,84,λx hx y hy e=>hs ?_};have hy':y=k:=by simpa using hy
 let(p,hp,hpe):=aD.mp hx;show PB.mp {p,hp,by rw[hpe,e,hy']}
theorem js{α:Type}[DecidableEq α]:∀{l m:List α},l.Nodup->(∀x∈l,x∈m)->l.length<=m.length
 |[],m,_,_=>aQ _
 |x::l,m,h,s=>by let(h1,h2):=df.mp h;have hx:=s x ay;have:=js h2 λy hy=>(List.mem_erase_of_ne (show y≠x fromλe=>h1<|e▸hy)).mpr<|s y<|az _ hy;rw[List.length_erase_of_mem hx]at this;have hp:=yZ hx;rw[bJ];lia
variable{K:Frag}
def Hn(hc:X.calm=true)(h:X.K=K:=by rfl):fD X (.builtin "all") (λxs H Q=>∃(a:cr)(bs:List Bool),xs=[-a]/\bg K H a (bs.map V.bl)/\Q (.bl<|bs.all id) H):=h▸uo hc
end
end L2
namespace A4
section
variable{α:Type}[DecidableEq α]
abbrev Rw(α:Type):=List α
abbrev DF(α:Type):=α×List α
def GR(xs vs:List α)(t:α):α:=if t∈xs then vs.getD (xs.idxOf t) t else t
def image(xs vs ts:List α):List α:=ts.map<|GR xs vs
def aih(m:List (Rw α×Int))(r:Rw α)(c:Int):List (Rw α×Int):=if r∈m.map (·.1)then m.map (λx=>if x.1=r then(x.1,x.2+c)else x)else m++[(r,c)]
def agQ(l:List (Rw α×Int))(xs ts:List α):List (Rw α×Int):=l.foldl (λm x=>aih m (image xs x.1 ts) x.2) []
def af3(r ts:List α):Bool:=decide (r.length=52)&&(ts.zip r).all λx=>decide (r[ts.idxOf x.1]?>x.2)
def atT(r ts:List α)(t:α):α:=r.getD (ts.idxOf t) t
def afA(rows:List (Rw α))(ts known fresh:List α)(key:Rw α):List (Rw α):=(rows.filter λr=>af3 r ts&&decide (known.map (atT r ts)=key)).map λr=>fresh.map<|atT r ts
def longer(yJ:List (Rw α×Int))(rows:List (Rw α))(ts kept known fresh:List α):List (Rw α×Int):=yJ.flatMap λx=>(afA rows ts known fresh<|image kept x.1 known).map λt=>(x.1++t,x.2)
def Sol(un:α->Bool)(db:α->List (Rw α))(S:List (DF α))(g:α->α):Prop:=(∀t,un t=false->g t=t)/\∀a∈S,a.2.map g∈db a.1
def Kp(un:α->Bool)(db:α->List (Rw α))(S:List (DF α))(kept:List α)(yJ:List (Rw α×Int)):Prop:=∀v,v∈yJ.map (·.1)↔∃g,Sol un db S g/\v=kept.map g
end
section
variable{α:Type}[DecidableEq α]
def fits(un:α->Bool)(db:α->List (Rw α))(atoms:List (DF α))(known v:List α):Bool:=atoms.all λa=>!decide (a.2.filter (λt=>un t&&decide (t∉known))=[])||decide (image known v a.2∈db a.1)
end
section
variable{α:Type}[DecidableEq α]
structure aiK(un:α->Bool)(db:α->List (Rw α))(atoms:List (DF α))(head:List α)(S left:List (DF α))(kept:List α)(yJ:List (Rw α×Int)):Prop where
 kp:Kp un db S kept yJ
 at_:∀a,a∈atoms↔a∈S\/a∈left
 kt:∀t,t∈kept↔un t=true/\(∃b∈S,t∈b.2)/\(t∈head\/∃b∈left,t∈b.2)
 nd:kept.Nodup
 md:(yJ.map (·.1)).Nodup
variable{un:α->Bool}{db:α->List (Rw α)}{atoms:List (DF α)}{head:List α}{S left:List (DF α)}{kept:List α}{yJ:List (Rw α×Int)}
end
section
variable{α:Type}[DecidableEq α]
def agB{β:Type}(l:List β)(f:β->Int):Int:=(l.map f).sum
abbrev ind(p:Prop)[Decidable p]:Int:=if p then 1 else 0
structure aiL(un:α->Bool)(db:α->List (Rw α))(S:List (DF α))(kept:List α)(yJ:List (Rw α×Int))(bs:List α)(L:List (Rw α)):Prop where
 bt:∀t,t∈bs↔un t=true/\∃b∈S,t∈b.2
 bn:bs.Nodup
 ln:L.Nodup
 lm:∀v,v∈L↔∃g,Sol un db S g/\v=bs.map g
 ct:∀x∈yJ,x.2=agB L λv=>ind<|image bs v kept=x.1
variable{un:α->Bool}{db:α->List (Rw α)}{atoms:List (DF α)}{head:List α}{S left:List (DF α)}{kept:List α}{yJ:List (Rw α×Int)}{bs:List α}{L:List (Rw α)}
end
section
variable{α:Type}[DecidableEq α]
variable{un:α->Bool}{db:α->List (Rw α)}{S S1 S2:List (DF α)}{us us1 us2 vals h1 h2:List α}
end
end A4
namespace aC
open PySem
abbrev Atom:=i9×Aaf
abbrev du:=List<|i9×i9
section
variable(bY:i9->Bool)
def ap(h:i9->i9)(t:i9):i9:=if bY t then h t else t
def Fits(D:List Atom)(h:i9->i9)(as:List Atom):Prop:=∀a∈as,(a.1,a.2.map<|ap bY h)∈D
def hZ(g:du)(h:i9->i9):Prop:=∀p∈g,h p.1=p.2
def tU(D:List Atom)(g:du)(as:List Atom):Prop:=∃h,hZ g h/\Fits bY D h as
def lq(as:List Atom):Aaf:=(as.map λa=>a.2.filter bY).flatten
def keys(g:du):Aaf:=g.map (·.1)
def get(g:du)(u:i9):Option i9:=(g.find? λp=>decide (p.1=u)).map (·.2)
def nA(g g':du):Prop:=∀u v,get g u>v->get g' u>v
end
section
variable{bY:i9->Bool}{D as bs:List Atom}{g g':du}{h h':i9->i9}
def agq{t:i9}(e:bY t=true->h t=h' t):ap bY h t=ap bY h' t:=by
 unfold ap;split;·show e ‹_›
 rfl
def ad8{ts:Aaf}(e:∀t∈ts,bY t=true->h t=h' t):ts.map (ap bY h)=ts.map (ap bY h'):=dO λt ht=>agq<|e t ht
def dI{u:i9}:u∈lq bY as↔∃a∈as,u∈a.2/\bY u=true:=by
 unfold lq;rw[nU];constructor;·ext⟨l,hl,hu⟩;let(a,ha,rfl):=aD.mp hl;show{a,ha,gH.mp hu}
 ext⟨a,ha,hu⟩;show{_,bV ha,gH.mpr hu}
def Fits.congr(f:Fits bY D h as)(e:∀u∈lq bY as,h u=h' u):Fits bY D h' as:=λa ha=>by rw[<-ad8 λt ht ut=>e t<|dI.mpr ⟨a,ha,ht,ut⟩];show f a ha
def Fits.app:Fits bY D h (as++bs)↔Fits bY D h as/\Fits bY D h bs:=
 {λf=>{λa ha=>f a<|ba _ ha,λa ha=>f a<|bq _ ha},λf a ha=>(aE.mp ha).elim (f.1 a)<|f.2 a}
def Fits.sub(f:Fits bY D h as)(e:∀a∈bs,a∈as):Fits bY D h bs:=λa ha=>f a<|e a ha
def get_some{u v:i9}(h:get g u>v):(u,v)∈g:=by let(p,hp,rfl):=bw.mp h;have:=yr hp;rw[<-(bz this)];show jg hp
def get_none{u:i9}:get g u=none↔u∉keys g:=by
 unfold get keys;rw[qL,pP];constructor;·ext h q;let(p,hp,e):=aD.mp q;show h p hp<|bD e
 ext h p hp q;show h<|aD.mpr {p,hp,bz q}
def get_mem(nd:(keys g).Nodup){u v:i9}(h:(u,v)∈g):get g u>v:=by
 induction g with
 |nil=>cases h
 |cons p r ih=>
  unfold keys at nd;rw[a9,df]at nd;unfold get;rcases aK.mp h with e|h;·rw[iJ (p:=λp:i9×i9=>decide (p.1=u))<|bD (by rw[<-e])];rw[<-e];rfl
  have ne:¬decide (p.1=u)=true:=λq=>nd.1 (by
   rw[bz q];show aD.mpr ⟨_,h,rfl⟩)
  rw[iK (p:=λp:i9×i9=>decide (p.1=u)) ne];show ih nd.2 h
def hZ.get(a:hZ g h){u v:i9}(e:get g u>v):h u=v:=a (u,v)<|get_some e
def JS(nd:(keys g).Nodup)(e:∀u v,get g u>v->h u=v):hZ g h:=λp hp=>e p.1 p.2<|get_mem nd hp
def hZ.longer(nd:(keys g).Nodup)(l:nA g g')(a:hZ g' h):hZ g h:=JS nd λu v e=>a.get<|l u v e
def over(g:du)(h:i9->i9)(u:i9):i9:=(get g u).getD<|h u
def oo(nd:(keys g).Nodup):hZ g (over g h):=JS nd λu v e=>by unfold over;rw[e];rfl
def X8{g gi:du}{p:List Atom}(ndi:(keys gi).Nodup)(l:nA g gi)(dis:∀u∈lq bY p,u∈keys gi->u∈keys g)(c:tU bY D g p):tU bY D gi p:=by
 let(h,ag,f):=c;show{over gi h,oo ndi,f.congr λu hu=>?_};unfold over;cases e:get gi u with
 |none=>rfl
 |some v=>
  have:u∈keys gi:=by
   by_cases q:u∈keys gi;·show q
   rw[get_none.mpr q]at e;cases e
  have:=dis u hu this;cases e2:get g u with
  |none=>show absurd this<|get_none.mp e2
  |some v2=>
   have:=l u v2 e2;rw[e]at this;cases this;show ag.get e2
def Zo{g g2:du}{p:List Atom}(tG:(keys g2).Nodup)(e:∀a∈p,∀t∈a.2,get g t=get g2 t)(c:tU bY D g p):tU bY D g2 p:=by
 let(h,ag,f):=c;show{over g2 h,oo tG,f.congr λu hu=>?_};let(a,ha,ht,__):=dI.mp hu;unfold over;rw[<-e a ha u ht];cases q:get g u with
 |none=>rfl
 |some v=>show ag.get q
def fit(bY:i9->Bool)(g:du):Aaf->Aaf->Option du
 |[],[]=>some g
 |t::ts,a::as=>if bY t then(match get g t with
   |some m=>if m=a then fit bY g ts as else none
   |none=>fit bY (g++[(t,a)]) ts as)else if t=a then fit bY g ts as else none
 |_,_=>none
def Qd{u v x:i9}(n:get g u=none):get (g++[(u,v)]) x=if x=u then some v else get g x:=by
 unfold get at n⊢;rw[List.find?_append];by_cases c:x=u;·subst c;rw[aN rfl,qL.mp n];simp
 rw[aL c];cases q:g.find? λp=>decide (p.1=x)with
 |none=>
  have:([(u,v)]:du).find? (λp=>decide (p.1=x))=none:=by rw[pP];ext p hp;rw[ar.mp hp];simpa usingλe=>c e.symm
  rw[this];rfl
 |some p=>rfl
def RP{u v:i9}(n:get g u=none):nA g (g++[(u,v)]):=λx y e=>by
 rw[Qd n];split
 next c=>rw[c,n]at e;cases e
 next=>show e
def nA.refl(g:du):nA g g:=λ_ _ h=>h
def nA.trans{g1 g2 g3:du}(a:nA g1 g2)(b:nA g2 g3):nA g1 g3:=λu v h=>b u v<|a u v h
def xV{u v:i9}(nd:(keys g).Nodup)(n:get g u=none):(keys<|g++[(u,v)]).Nodup:=by unfold keys;rw[aJ];show dG.mpr {nd,84,λa ha b hb=>?_};rw[List.map_singleton,ar]at hb;rw[hb];ext rfl;show get_none.mp n ha
theorem pD:∀{ts as:Aaf}{g g':du},(keys g).Nodup->fit bY g ts as>g'->(keys g').Nodup/\nA g g'/\(∀u,u∈keys g'↔u∈keys g\/(u∈ts/\bY u=true))/\∀h,hZ g' h->ts.map (ap bY h)=as
 |[],[],g,g',nd,e=>by cases e;show{nd,nA.refl g,λu=>by simp,λh _=>9}
 |[],_::_,g,g',nd,e=>by cases e
 |_::_,[],g,g',nd,e=>by cases e
 |t::ts,a::as,g,g',nd,e=>by
  unfold fit at e;split at e
  next ut=>
   split at e
   next m em=>
    split at e
    next ma=>
     let(n1,l1,k1,f1):=pD nd e;have tk:t∈keys g:=by
      by_cases q:t∈keys g;·show q
      rw[get_none.mpr q]at em;cases em
     show{n1,l1,λu=>?_,λh ag=>?_}
     ·rw[k1];constructor
      ·ext(h|⟨h,h2⟩);·show .inl h
       show .inr {az _ h,h2}
      ext(h|⟨h,h2⟩);·show .inl h
      rcases aK.mp h with rfl|h;·show .inl tk
      show .inr ⟨h,h2⟩
     rw[a9,f1 h ag];have:ap bY h t=a:=by unfold ap;rw[aN ut,ag.get<|l1 t m em,ma]
     rw[this]
    next=>cases e
   next em=>
    let(n1,l1,k1,f1):=pD (xV nd em) e;show{n1,(RP em).trans l1,λu=>?_,λh ag=>?_}
    ·rw[k1];have:u∈keys (g++[(t,a)])↔u∈keys g\/u=t:=by unfold keys;rw[aJ,aE];show or_congr_right ar
     rw[this];constructor
     ·ext((h|rfl)|⟨h,h2⟩);·show .inl h
      ·show .inr ⟨ay,ut⟩
      show .inr {az _ h,h2}
     ext(h|⟨h,h2⟩);·show .inl<|.inl h
     rcases aK.mp h with rfl|h;·show .inl<|.inr 9
     show .inr ⟨h,h2⟩
    rw[a9,f1 h ag];have:ap bY h t=a:=by unfold ap;rw[aN ut];show ag.get<|l1 t a (by rw[Qd em,aN rfl])
    rw[this]
  next ut=>
   split at e
   next ta=>
    let(n1,l1,k1,f1):=pD nd e;show{n1,l1,λu=>?_,λh ag=>?_}
    ·rw[k1];constructor
     ·ext(h|⟨h,h2⟩);·show .inl h
      show .inr {az _ h,h2}
     ext(h|⟨h,h2⟩);·show .inl h
     rcases aK.mp h with rfl|h;·show absurd h2 ut
     show .inr ⟨h,h2⟩
    rw[a9,f1 h ag];have:ap bY h t=a:=by unfold ap;rw[aL ut,ta]
    rw[this]
   next=>cases e
theorem xb:∀{ts:Aaf}{g:du},(keys g).Nodup->hZ g h->∃g',fit bY g ts (ts.map<|ap bY h)>g'/\hZ g' h
 |[],g,nd,ag=>⟨g,rfl,ag⟩
 |t::ts,g,nd,ag=>by
  rw[a9];unfold fit;by_cases ut:bY t=true
  ·rw[aN ut];have ea:ap bY h t=h t:=by unfold ap;rw[aN ut]
   cases em:get g t with
   |some m=>
    rw[ea];change∃g',(if m=h t then fit bY g ts (ts.map<|ap bY h)else none)>g'/\_;rw[aN (ag.get em).symm];show xb nd ag
   |none=>
    show xb (xV nd em) λp hp=>?_;rcases aE.mp hp with q|q;·show ag p q
    rw[ar.mp q];show ea.symm
  rw[aL ut];have ea:ap bY h t=t:=by unfold ap;rw[aL ut]
  rw[ea,aN rfl];show xb nd ag
end
section
variable(bY:i9->Bool)(g:du)
def Ak(p:List Atom)(a:Atom):Bool:=p.any λo=>(a.2.filter λt=>bY t&&(get g t).isNone).any λt=>decide (t∈o.2)
def step(a:Atom):List (List Atom)->List Atom×List (List Atom)
 |[]=>([a],[])
 |ps=>ps.foldl (λacc p=>if Ak bY g p a then(p++acc.1,acc.2)else(acc.1,acc.2++[p])) ([a],[])
def rh(ps:List (List Atom))(a:Atom):List (List Atom):=(step bY g a ps).2++[(step bY g a ps).1]
def partsOf(as:List Atom):List (List Atom):=as.foldl (rh bY g) []
def Apart(p q:List Atom):Prop:=∀u,u∈lq bY p->u∈lq bY q->u∈keys g
end
section
variable{bY:i9->Bool}{g:du}
def Apart.symm{p q:List Atom}(h:Apart bY g p q):Apart bY g q p:=λu h1 h2=>h u h2 h1
def KA{p q:List Atom}{u:i9}:u∈lq bY (p++q)↔u∈lq bY p\/u∈lq bY q:=by
 rw[dI,dI,dI];constructor
 ·ext⟨a,ha,h⟩;rcases aE.mp ha with ha|ha;·show .inl ⟨a,ha,h⟩
  show .inr ⟨a,ha,h⟩
 ext(⟨a,ha,h⟩|⟨a,ha,h⟩);·show{a,ba _ ha,h}
 show{a,bq _ ha,h}
def Apart.app{p q r:List Atom}(h1:Apart bY g p r)(h2:Apart bY g q r):Apart bY g (p++q) r:=λu hu hr=>(KA.mp hu).elim (λh=>h1 u h hr) (λh=>h2 u h hr)
def Xm{p:List Atom}{a:Atom}(h:Ak bY g p a=false):Apart bY g p [a]:=λu hp ha=>by
 let(o,ho,hu,uu):=dI.mp hp;let(a',CJ,tI,__):=dI.mp ha;rw[ar.mp CJ]at tI;by_cases q:u∈keys g;·show q
 exfalso;have:Ak bY g p a=true:=by show fH.mpr {o,ho,fH.mpr {u,gH.mpr {tI,?_},bD hu}};rw[uu,get_none.mpr q];rfl
 rw[h]at this;cases this
structure Stp(bY:i9->Bool)(g:du)(a:Atom)(done:List (List Atom))(x:List Atom×List (List Atom)):Prop where
 mem:∀b,(b∈x.1\/∃p∈x.2,b∈p)↔(b=a\/∃p∈done,b∈p)
 len:x.1.length+(x.2.map List.length).sum=1+(done.map List.length).sum
 one:∀p∈x.2,Apart bY g p x.1
 two:x.2.Pairwise (Apart bY g)
 sub:∀p∈x.2,p∈done
 mrg:∀r,Apart bY g r [a]->(∀p∈done,Apart bY g r p)->Apart bY g r x.1
 ne:x.1≠[]
theorem OQ(a:Atom):∀(ps done:List (List Atom))(x:List Atom×List (List Atom)),Stp bY g a done x->(done++ps).Pairwise (Apart bY g)->
  Stp bY g a (done++ps) (ps.foldl (λacc p=>if Ak bY g p a then(p++acc.1,acc.2)else(acc.1,acc.2++[p])) x)
 |[]=>λdone x h _=>eO _▸h
 |p::ps=>λdone x h hp=>by
  have pd:=λr hr=>(sS.mp hp).2.2 r hr p ay;rw[gJ,show done++p::ps=(done++[p])++ps by rw[cH];rfl];show OQ a ps (done++[p]) _ ?_ (by rw[cH];show hp);split
  next c=>
   show{λb=>?_,?_,λr hr=>((pd r<|h.sub r hr).symm.app (h.one r hr).symm).symm,h.two,λr hr=>ba _<|h.sub r hr,λr h1 h2=>((h2 p 84).symm.app (h.mrg r h1 λq hq=>h2 q<|ba _ hq).symm).symm,?_}
   ·constructor
    ·ext(hb|⟨q,hq,hb⟩)
     ·rcases aE.mp hb with hb|hb;·show .inr {p,84,hb}
      rcases(h.mem b).mp (.inl hb)with e|⟨q,hq,e⟩;·show .inl e
      show .inr {q,ba _ hq,e}
     rcases(h.mem b).mp (.inr ⟨q,hq,hb⟩)with e|⟨q,hq,e⟩;·show .inl e
     show .inr {q,ba _ hq,e}
    ext(e|⟨q,hq,e⟩)
    ·rcases(h.mem b).mpr (.inl e)with e|e;·show .inl (bq _ e)
     show .inr e
    rcases aE.mp hq with hq|hq
    ·rcases(h.mem b).mpr (.inr ⟨q,hq,e⟩)with e|e;·show .inl (bq _ e)
     show .inr e
    rw[ar.mp hq]at e;show .inl<|ba _ e
   ·have:=h.len;simp only[aG,aJ,sR,a9,gB,kC,Dk];lia
   ext e;have:=dX List.length e;rw[aG]at this;show h.ne<|d9.mp (by simpa using(Nat.add_eq_zero_iff.mp this).2)
  next c=>
   show{λb=>?_,?_,λr hr=>?_,?_,λr hr=>?_,λr h1 h2=>h.mrg r h1 λq hq=>h2 q<|ba _ hq,h.ne}
   ·constructor
    ·ext(hb|⟨q,hq,hb⟩)
     ·rcases(h.mem b).mp (.inl hb)with e|⟨q,hq,e⟩;·show .inl e
      show .inr {q,ba _ hq,e}
     rcases aE.mp hq with hq|hq
     ·rcases(h.mem b).mp (.inr ⟨q,hq,hb⟩)with e|⟨q,hq,e⟩;·show .inl e
      show .inr {q,ba _ hq,e}
     show .inr {q,bq _ hq,hb}
    ext(e|⟨q,hq,e⟩)
    ·rcases(h.mem b).mpr (.inl e)with e|⟨r,hr,e⟩;·show .inl e
     show .inr {r,ba _ hr,e}
    rcases aE.mp hq with hq|hq
    ·rcases(h.mem b).mpr (.inr ⟨q,hq,e⟩)with e|⟨r,hr,e⟩;·show .inl e
     show .inr {r,ba _ hr,e}
    show .inr {q,bq _ hq,e}
   ·have:=h.len;simp only[aJ,sR,a9,gB,kC,Dk];lia
   ·rcases aE.mp hr with hr|hr;·show h.one r hr
    rw[ar.mp hr];show h.mrg p (Xm<|↑c) λq hq=>(pd q hq).symm
   ·show sS.mpr {h.two,84,λr hr q hq=>?_};rw[ar.mp hq];show pd r<|h.sub r hr
   rcases aE.mp hr with hr|hr;·show ba _<|h.sub r hr
   show bq _ hr
def Xx(a:Atom)(ps:List (List Atom))(hp:ps.Pairwise (Apart bY g)):Stp bY g a ps (step bY g a ps):=by
 have h0:Stp bY g a [] ([a],[]):={λb=>by simp,84,λp hp=>(by cases hp),.nil,λp hp=>(by cases hp),λr h1 _=>h1,84};cases ps with
 |nil=>show h0
 |cons p ps=>show OQ a (p::ps) [] _ h0 hp
theorem FD:∀(as done:List Atom)(ps:List (List Atom)),ps.Pairwise (Apart bY g)->(∀b,b∈done↔∃p∈ps,b∈p)->(ps.map List.length).sum=done.length->(∀p∈ps,p≠[])->
  (as.foldl (rh bY g) ps).Pairwise (Apart bY g)/\(∀b,b∈done++as↔∃p∈as.foldl (rh bY g) ps,b∈p)/\((as.foldl (rh bY g) ps).map List.length).sum=(done++as).length/\∀p∈as.foldl (rh bY g) ps,p≠[]
 |[]=>λdone ps h1 h2 h3 h4=>by rw[eO];show⟨h1,h2,h3,h4⟩
 |a::as=>λdone ps h1 h2 h3 h4=>by
  have s:=Xx a ps h1;rw[gJ,show done++a::as=(done++[a])++as by rw[cH];rfl];show FD as (done++[a]) _ ?_ (λb=>?_) ?_ λp hp=>?_;·show sS.mpr {s.two,84,λr hr q hq=>?_};rw[ar.mp hq];show s.one r hr
  ·unfold rh;constructor
   ·ext hb;have:b=a\/∃p∈ps,b∈p:=by
     rcases aE.mp hb with hb|hb;·show .inr<|(h2 b).mp hb
     show .inl<|ar.mp hb
    rcases(s.mem b).mpr this with e|⟨p,hp,e⟩;·show{_,bq _ ay,e}
    show{p,ba _ hp,e}
   ext⟨p,hp,e⟩;have:b∈(step bY g a ps).1\/∃p∈(step bY g a ps).2,b∈p:=by
    rcases aE.mp hp with hp|hp;·show .inr ⟨p,hp,e⟩
    rw[ar.mp hp]at e;show .inl e
   rcases(s.mem b).mp this with rfl|e;·simp
   show ba _<|(h2 b).mpr e
  ·unfold rh;have:=s.len;simp only[aJ,sR,a9,gB,kC,Dk,aG,bJ,jA];lia
  unfold rh at hp;rcases aE.mp hp with hp|hp;·show h4 p<|s.sub p hp
  rw[ar.mp hp];show s.ne
end
section
variable(bY:i9->Bool)(D:List Atom)
structure Got(g g':du)(as:List Atom):Prop where
 nd:(keys g').Nodup
 lg:nA g g'
 ks:∀u,u∈keys g'↔u∈keys g\/u∈lq bY as
 ft:∀h,hZ g' h->Fits bY D h as
def Res(g:du)(as:List Atom):Option du->Prop
 |none=>¬tU bY D g as
 |some g'=>Got bY D g g' as
end
section
variable{bY:i9->Bool}{D as bs p:List Atom}{g g' gi way:du}{a:Atom}
def Got.nil(nd:(keys g).Nodup):Got bY D g g []:={nd,nA.refl g,λu=>{.inl,λh=>h.elim id λq=>by let(__,h,__):=dI.mp q;cases h},λh _ a ha=>by cases ha}
def Got.trans(ndi:(keys gi).Nodup)(x:Got bY D g gi as)(y:Got bY D gi g' bs):Got bY D g g' (as++bs):=
 {y.nd,x.lg.trans y.lg,λu=>by rw[y.ks,x.ks,KA,or_assoc],λh ag=>Fits.app.mpr {x.ft h<|hZ.longer ndi y.lg ag,y.ft h ag}}
def Got.perm(x:Got bY D g g' as)(e:∀b,b∈as↔b∈bs):Got bY D g g' bs:=
 {x.nd,x.lg,λu=>by rw[x.ks];show or_congr_right ?_;rw[dI,dI];show⟨λzq=>by let(a,ha,h):=zq;show{a,(e a).mp ha,h},λuF=>by let(a,ha,h):=uF;show{a,(e a).mpr ha,h}⟩,λh ag=>(x.ft h ag).sub λa ha=>(e a).mpr ha}
def tU.sub(c:tU bY D g as)(e:∀b∈bs,b∈as):tU bY D g bs:=by let(h,ag,f):=c;show{h,ag,f.sub e}
def UT(x:Got bY D g gi as)(hp:∀q,q∈lq bY p->q∈lq bY as->q∈keys g)(n:¬tU bY D gi p)(sub:∀b∈p,b∈bs):¬tU bY D g bs:=λc=>
 n (X8 x.nd x.lg (λu hu hk=>((x.ks u).mp hk).elim id λq=>hp u hu q)<|c.sub sub)
def Xg{u:i9}:u∈lq bY [a]↔u∈a.2/\bY u=true:=by rw[dI];show⟨λzq=>by let(b,hb,h):=zq;rw[ar.mp hb]at h;show h,λh=>⟨a,ay,h⟩⟩
def Qc{row:Aaf}(nd:(keys g).Nodup)(e:fit bY g a.2 row>way)(hD:(a.1,row)∈D):Got bY D g way [a]:=by let(n1,l1,k1,f1):=pD nd e;show{n1,l1,λu=>by rw[k1,Xg],λh ag b hb=>?_};rw[ar.mp hb,f1 h ag];show hD
def Uk{row:Aaf}{rest:List Atom}(nd:(keys g).Nodup)(e:fit bY g a.2 row>way)(hD:(a.1,row)∈D)(y:Got bY D way g' rest)(pm:∀b,b∈p↔b=a\/b∈rest):Got bY D g g' p:=by have x:=Qc nd e hD;show(x.trans x.nd y).perm λb=>?_;rw[pm,aE];show or_congr_left ar
def Ul{C6:R1}{rest:List Atom}(nd:(keys g).Nodup)(all:∀h,hZ g h->(a.1,a.2.map<|ap bY h)∈D->a.2.map (ap bY h)∈C6)
  (no:∀row∈C6,∀way,fit bY g a.2 row>way->¬tU bY D way rest) (pm:∀b,b∈p↔b=a\/b∈rest):¬tU bY D g p:=by
 ext⟨h,ag,f⟩;let(way,e,ag2):=xb (bY:=bY) (h:=h) (ts:=a.2) nd ag;show no _ (all h ag<|f a<|(pm a).mpr<|.inl 9) way e {h,ag2,f.sub λb hb=>(pm b).mpr<|.inr hb}
def SA(bY:i9->Bool)(D:List Atom)(p:List Atom)(m:List 81):Prop:=∀g,(keys g).Nodup->p.map (λa=>a.2.map<|get g)=m->¬tU bY D g p
def aaZ(nd:(keys g).Nodup)(n:¬tU bY D g p):SA bY D p (p.map λa=>a.2.map<|get g):=λg2 tG e c=>n<|Zo nd (λa ha t ht=>by
 have:∀{l:List Atom},l.map (λa=>a.2.map<|get g2)=l.map (λa=>a.2.map<|get g)->∀a∈l,∀t∈a.2,get g2 t=get g t:=by
  ext l
  induction l with
  |nil=>ext _ a ha;cases ha
  |cons b r ih=>
   ext e a ha t ht;rw[a9,a9]at e;injection e with e1 e2;rcases aK.mp ha with rfl|ha;·show List.map_inj_left.mp e1 t ht
   show ih e2 a ha t ht
 show this e a ha t ht) c
end
end aC
namespace L2
open PySem PySem.Spec PyProof.Rows
end L2
namespace L2
open PySem PySem.Spec PyProof.Rows PySem.W
end L2
namespace L2
open PySem PySem.Spec PyProof.Rows
section
variable{it d:cr}{i ep:Nat}
abbrev xZ(f0:i5)(b:Bool)(d:cr)(i n ep:Nat)(ok ov:i5):J':={cls:=.type "dict_itemiterator",dict:=none,data:=.fields #[f0,.bool b,-d,.int i 0,.int n 0,.int ep 0,ok,ov],slots:=#[]}
def RI(h:nw)(it d:cr)(i n ep:Nat):Prop:=∃f0 b ok ov,h.get? it>xZ f0 b d i n ep ok ov/\(f0=.none\/∃a:Nat,f0=v0 a)
structure Tk(es:Array Db)(lo:cr)(h:nw)(as:Aah):Prop where
 up:as.Pairwise (·<·)
 ab:∀a∈as,lo<=a
 tp:∀(j:Nat)(a:cr),as[j]?>a->∃hj:j<87,h.get? a>{cls:=.type "tuple",data:=.seq #[es[j].key,es[j].val]}
end
section
variable{X:Cx}{bi:Aaa}{Z:St}{H:Hp}{s:f8}
def Inv.aaC(I:Inv X bi Z H s)(h:iw 86 X.w X.K H d kvs):(d==ww)=false/\∃o es ep,s.heap.get? d>o/\87<=10000000/\SM o es ep (kvs.map λp=>(V.ref p.2.1,p.2.2)):=by
 let(lo,xs,rel,hl,o,es,ep,ga,hx,hdt,he,__):=I.yk h;have ents:∀{l:List 95}{xs:List (NK×cr×i5)},Paired 115 l xs->Paired 139 (l.map λp=>(V.ref p.2.1,p.2.2)) (xs.map<|ZB<|lB 86 X.w):=λr=>by
  induction r with
  |nil=>show .nil
  |@cons p q ps qs h _ ih=>show .cons {by change Value.ref q.2.1=Value.ref p.2.1;rw[h.2.1],h.2.2} ih
 show{lo,o,es,ep,ga,by rw[xQ he,<-rel.length];show hl,hx,hdt,he▸ents rel}
variable{ep:Nat}
structure Zi(h:nw)(z ti to i1 i2 d l:cr)(f:i5)(k n ep:Nat):Prop where
 self:GE h z ti to f
 ins:wS h ti (-i1) (-i2)
 outs:∃a b,wS h to a b
 w1:RI h i1 d k n ep
 w2:h.IsListIter i2 l k
variable{K:Frag}{a d:cr}{o:J'}{u:HO}{kvs:Aak}{xs:Aam}{lo:Int}{n:Nat}{g:TG}{tb:TS}{D:Ends}
def AH(Pv:Nat->St->Hp->Prop)(h0:Pv 0 Z H)(hl:∀i Z H,i<=42->Pv i Z H->bA K H a xs)
  (hs:∀i x Z H(D':Ends),xs[i]?>x->Pv i Z H->(∀σ' H',Pv (i+1) σ' H'->D'.nx σ' H')->(∀v H',D.rt v H'->D'.rt v H')->g x Z H λσ2 H2=>tb D' σ2 H2) (hd:∀Z H,Pv 42 Z H->D.nx Z H):=
 Qk (K:=K) (a:=a) (xs:=xs) (g:=g) (tb:=tb) (D:=D) (Z:=Z) (H:=H) Pv h0 hl (λi x Z H hx hp=>hs i x Z H _ hx hp (λ_ _ h=>h) λ_ _ h=>h) hd
def iC(Pv:Nat->St->Hp->Prop)(h0:Pv 0 Z H)(hl:∀i Z H,i<=42->Pv i Z H->bg K H a xs)
  (hs:∀i x Z H(D':Ends),xs[i]?>x->Pv i Z H->(∀σ' H',Pv (i+1) σ' H'->D'.nx σ' H')->(∀v H',D.rt v H'->D'.rt v H')->g x Z H λσ2 H2=>tb D' σ2 H2) (hd:∀Z H,Pv 42 Z H->D.nx Z H):=
 Y3 (K:=K) (a:=a) (xs:=xs) (g:=g) (tb:=tb) (D:=D) (Z:=Z) (H:=H) Pv h0 hl (λi x Z H hx hp=>hs i x Z H _ hx hp (λ_ _ h=>h) λ_ _ h=>h) hd
def sE(Pv:Nat->St->Hp->Prop)(h0:Pv 0 Z H)
  (hs:∀i Z H(D':Ends),i<n->Pv i Z H->(∀σ' H',Pv (i+1) σ' H'->D'.nx σ' H')->(∀v H',D.rt v H'->D'.rt v H')->g (.int<|lo+i) Z H λσ2 H2=>tb D' σ2 H2) (hd:∀Z H,Pv n Z H->D.nx Z H):=
 yi (lo:=lo) (n:=n) (g:=g) (tb:=tb) (D:=D) (Z:=Z) (H:=H) Pv h0 (λi Z H hx hp=>hs i Z H _ hx hp (λ_ _ h=>h) λ_ _ h=>h) hd
def G6(Pv:Nat->St->Hp->Prop)(h0:Pv 0 Z H)(hl:∀i Z H,i<=kvs.length->Pv i Z H->H d>.fF o u)
  (hs:∀i kv Z H(D':Ends),kvs[i]?>kv->Pv i Z H->(∀σ' H',Pv (i+1) σ' H'->D'.nx σ' H')->(∀v H',D.rt v H'->D'.rt v H')->g kv.1 Z H λσ2 H2=>tb D' σ2 H2) (hd:∀Z H,Pv kvs.length Z H->D.nx Z H):=
 VY (d:=d) (o:=o) (u:=u) (kvs:=kvs) (g:=g) (tb:=tb) (D:=D) (Z:=Z) (H:=H) Pv h0 hl (λi kv Z H hx hp=>hs i kv Z H _ hx hp (λ_ _ h=>h) λ_ _ h=>h) hd
def V0(Pv:Nat->St->Hp->Prop)(h0:Pv 0 Z H)(hl:∀i Z H,i<=42->Pv i Z H->bg K H a xs)
  (hs:∀i x p Z H(D':Ends),xs[i]?>x->Pv i Z H->H p=none->(∀σ' H',Pv (i+1) σ' H'->D'.nx σ' H')->g (-p) Z (upd H p<|.tup [.int i,x]) λσ2 H2=>tb D' σ2 H2) (hd:∀Z H,Pv 42 Z H->D.nx Z H):=
 Y4 (K:=K) (a:=a) (xs:=xs) (g:=g) (tb:=tb) (D:=D) (Z:=Z) (H:=H) Pv h0 hl (λi x p Z H hx hp hn=>hs i x p Z H _ hx hp hn λ_ _ h=>h) hd
end
def PN(a b:TI):TI:=λZ H R=>a Z H R\/b Z H R
def Uc{X:Cx}{tg l:wv}{a b:TI}(h1:PI X tg l a)(h2:PI X tg l b):PI X tg l (PN a b):=λbi s Z H R I h=>h.elim (h1 bi s Z H R I)<|h2 bi s Z H R I
def Z2{K:Frag}{a:cr}{xs:Aam}{H H':Hp}(s:aX H H'):(bg K H a xs->bg K H' a xs)/\(bA K H a xs->bA K H' a xs):=by
 constructor<;>ext q<;>rcases q with(q|⟨o,q⟩)|q;all_goals first
  |show .inr q
  |show .inl<|.inl<|s _ _ q
  |show .inl<|.inr ⟨o,s _ _ q⟩
def Y2{K:Frag}{a:cr}{xs:Aam}{g:TG}{tb:TS}{D:Ends}{Z:St}{H0 H:Hp}{tl:TE}(ht:∀Q:VK,Q (-a) H->tl Z H Q)(hx:bg K H0 a xs\/bA K H0 a xs)(Pv:Nat->St->Hp->Prop)(h0:Pv 0 Z H)(hk:∀i σ' H',Pv i σ' H'->aX H0 H')
  (hs:∀i x Z H(D':Ends),xs[i]?>x->Pv i Z H->(∀σ' H',Pv (i+1) σ' H'->D'.nx σ' H')->(∀v H',D.rt v H'->D'.rt v H')->g x Z H λσ2 H2=>tb D' σ2 H2) (hd:∀Z H,Pv 42 Z H->D.nx Z H):QM (PN (Km K tl)<|Yy K tl) g tb D Z H:=by
 rcases hx with hx|hx;·show .inl<|ht _ {a,9,{_,(Z2<|hk _ _ _ h0).1 hx},iC Pv h0 (λi σ' H' hi p=>(Z2<|hk _ _ _ p).1 hx) hs hd}
 show .inr<|ht _ {a,9,{_,(Z2<|hk _ _ _ h0).2 hx},AH Pv h0 (λi σ' H' hi p=>(Z2<|hk _ _ _ p).2 hx) hs hd}
def got_of{H H':Hp}{c:cr}{o:HO}(e:upd H c o=H'):H' c>o:=e▸aF
def same_of{H H':Hp}{c:cr}{o:HO}(e:upd H c o=H')(h:H c=none):aX H H':=λb u q=>by rw[<-e,aI λz=>by rw[z,h]at q;cases q];show q
end L2
namespace nL
open PySem PySem.Spec PyProof.Rows L2 Br aC
seal L2.PE L2.PT L2.PW L2.PA L2.PS L2.mP L2.PI L2.PO L2.PPs L2.PG L2.Ht
abbrev Gs:wP:=top 3
abbrev B3:wP:=top 4
abbrev IJ:wP:=top 10
abbrev Lm:wP:=top 038
abbrev Gr:wP:=top 040
abbrev B4:wP:=top 041
abbrev TQ:wP:=top 049
abbrev TN:wP:=top 050
abbrev BZ:wP:=top 051
abbrev B5:wP:=top 052
abbrev Gu:wP:=top 053
abbrev IS:wP:=top 054
abbrev EC:wP:=top 060
abbrev O6:wP:=top 061
abbrev Le:wP:=top 62
abbrev Fy:wP:=top 63
abbrev Ll:wP:=top 64
abbrev B1:wP:=top 65
abbrev B2:wP:=top 066
abbrev Ld:wP:=top 067
abbrev IK:wP:=top 068
abbrev O5:wP:=top 069
abbrev Lh:wP:=top 070
abbrev IM:wP:=top 071
abbrev IP:wP:=top 072
abbrev ED:wP:=top 073
abbrev Lf:wP:=top 074
abbrev Lj:wP:=top 075
abbrev Li:wP:=top 076
abbrev Lg:wP:=top 077
abbrev Lk:wP:=top 078
abbrev IQ:wP:=top 079
abbrev EB:wP:=top 080
abbrev xT:wP:=top 081
abbrev IL:wP:=top 082
abbrev QZ:wP:=top 083
abbrev mF:wP:=inClass (top 39) 0
abbrev O4:wP:=inClass (top 39) 1
abbrev vV:wP:=inClass (top 39) 2
abbrev oF:wP:=inClass (top 39) 3
abbrev Ez:wP:=inClass (top 39) 4
def Fh(K:Frag)(H:Hp)(a:cr)(xs:Aam):Prop:=
 (∃o,H a>.fF o (.lst xs))\/∃(o:J')(aM:Aaj)(n:Nat),K.lookup a>o/\o.cls=.type "list"/\o.dict=none/\o.data=.seq aM n/\aM.size<=dL/\Vals xs aM.toList
def Fh.sq{K:Frag}(h:Fh K H a xs):bg K H a xs:=by
 rcases h with⟨o,h⟩|h;·show .inl<|.inr ⟨o,h⟩
 show .inr h
def dc(_K:Frag)(f:cr)(H:Hp):Prop:=∃x p q:Int,H f>.lst [.int x,.int p,.int q]
def Ext(f:cr)(H H':Hp):Prop:=∀b o,b≠f->H b>o->H' b>o
def Ext.refl(f:cr)(H:Hp):Ext f H H:=λ_ _ _ h=>h
def Ext.trans(a:Ext f H H1)(b:Ext f H1 H2):Ext f H H2:=λc o n h=>b c o n<|a c o n h
def Ext.new(a:Ext f H H1)(h:H1 p=none)(o:HO):Ext f H (upd H1 p o):=λb u n q=>by rw[aI<|bx (a b u n q) h];show a b u n q
def Ext.own(a:Ext f H H1)(h:H p=none)(o:HO):Ext f H (upd H1 p o):=λb u n q=>by rw[aI<|bx q h];show a b u n q
def Ext.feed(a:Ext f H H1)(o:HO):Ext f H (upd H1 f o):=λb u n q=>by rw[aI n];show a b u n q
def Ext.none(a:Ext f H H1)(n:p≠f)(h:H1 p=Option.none):H p=Option.none:=by
 cases q:H p with
 |none=>rfl
 |some o=>
  rw[a p o n q]at h;cases h
def dc.new{K:Frag}(h:dc K f H)(hp:H p=none)(o:HO):dc K f (upd H p o):=by let(x,y,z,hf):=h;show{x,y,z,by rw[aI<|bx hf hp];show hf}
def dc.lst{K:Frag}(h:dc K f H)(hp:H p>.lst xs)(n:p≠f)(o:HO):dc K f (upd H p o):=by let(x,y,z,hf):=h;show{x,y,z,by rw[aI n.symm];show hf}
def dc.lC{K:Frag}(h:dc K f H)(hp:H p=none):p≠f:=by let(x,y,z,hf):=h;show(bx hf hp).symm
def dc.same{K:Frag}{f:cr}{H H':Hp}(h:dc K f H)(sm:aX H H'):dc K f H':=by let(x,y,z,hf):=h;show{x,y,z,sm _ _ hf}
inductive uK(K:Frag)(vs:Aam)(H:Hp)(Q:VK)(_x3:XK):Prop
 |mk (f:cr) (many:Int) (_:vs=[-f,.int many]) (_:dc K f H) (_:0<many) (_:many<1073741824) (_:∀(i:Int)(H':Hp),0<=i->i<many->dc K f H'->Ext f H H'->Q (.int i) H')
inductive QS(K:Frag)(vs:Aam)(H:Hp)(Q:VK)(_x3:XK):Prop
 |mk (a:cr) (ns:List Int) (k:Int) (_:vs=[-a,.int k]) (_:Fh K H a (ns.map V.int)) (_:ns.length<=63) (_:0<=k) (_:∀(r:cr)(H':Hp),dc K r H'->aX H H'->H r=none->Q (-r) H')
inductive Tx(K:Frag)(vs:Aam)(H:Hp)(Q:VK)(_x3:XK):Prop
 |mk (a:cr) (ns:List Int) (k:Int) (_:vs=[-a,.int k]) (_:Fh K H a (ns.map V.int)) (_:ns.length<=63) (_:0<=k) (_:∀i:Int,Q (.int i) H)
section
variable{P:io}{w:i6}{K:Frag}{mg:Aab}{base:nw}
structure Txt(K:Frag)(mg:Aab):Prop where
 fJ:mg "len"=none
 mZ:mg "range"=none
 jH:mg "tuple"=none
 GK:mg "list"=none
 eP:mg "isinstance"=none
 RD:mg "all"=none
 RC:mg "any"=none
 GJ:mg "str"=none
 Ma:mg "bool"=none
 aan:mg "int"=none
 zH:mg "dict"=none
 yI:mg "enumerate"=none
 aam:mg "zip"=none
 qX:mg "sorted"=none
 RA:mg "set"=none
 afW:mg "max"=none
 RB:mg "min"=none
 zG:mg "repr"=none
 Mb:mg "ValueError"=none
 Hz:∃o,K.lookup ww>o
 ace:∃t,mg "SIGNS">.str AbN t
 Ng:∃t,mg "MOST_SIGNS">.int 08 t
def u96(r:gx k A):A.units+096<wE:=by have:=r.un;lia
def int_at{ns:List Int}{i:Int}(h0:0<=i)(h1:i<(ns.length:Int)):∃v,rO (ns.map V.int) i>.int v:=by
 obtain⟨v,hv⟩:∃v,ns[i.toNat]?>v:={_,au ∅};show{v,?_};have e:i=((i.toNat:Nat):Int):=by lia
 rw[e];show iF (by rw[aW,hv];rfl)
def wG:b7 [Abr,AaZ,"_law_seed"] [Abr,AaZ] (bI EC):=iM 59
def uL(h:∀R:L2.St->Hp->Prop,(∀σ' H',u D σ' H'->R σ' H')->t {D with nx:=R} Z H):QL t u D Z H:=h (u D) λ_ _ x=>x
def abR{f:cr}{fd:re}(F:d6 K "_law_cell_at" "_law_cell_at" EC f fd)(T:Txt K mg):cN P w K mg base fZ 1 f fd [Abr,AaZ] (Tx K):=by
 show F.ok wG 98;let(a,ns,kk,rfl,hS,hn,hk,k):=h;show{_,aA (dP (cD Rm (pv 1) (bu dD 9 T.fJ bK 78)<|cM _) (aP<|b8<|cm eJ (pv 0) (pv 1) (λ_ _=>9)) cP)<|aA (dW 2 wG aO)<|aA (dP (cD vY (bu dD 9 T.fJ bK 78) aO<|cM _) (aP<|dW 2 wG<|cm eJ (pv 0) (c9 qD (pv 1)<|bu dD 9 T.fJ bK 78) (λ_ _=>9)) cP)<|aP<|b8<|c9 qD (c9 ir (c9 ir (c9 Cg (c9 qD (pv 2) aO) aO)<|c9 Cg (pv 1) aO) aO) aO,?_}
 have nl:(ns.map V.int).length=ns.length:=af _;show{_,9,_,9,_,_,9,.inl {_,hS.sq,9},_,_,9,9,_,9,?_};show dQ 93 93;·have c:=bz c;let(v,ev):=int_at (ns:=ns) hk ∅;show{_,9,_,9,_,_,_,_,9,9,hS.sq,ev,k v}
 dsimp only;show uL λR0 hR0=>hR0 _ _ ?_;show uL λR1 hR1=>hR1 _ _ ?_;show uL λR hR=>?_;have fin:∀sd:Int,R [some (-a),some<|.int kk,some<|.int sd] H:=λsd=>hR _ _ (by
  show{_,9,_,_,9,9,(by change(0:Int)<1000000007;decide),_,_,9,9,.inr {7,7},_,9,_,_,9,9,.inr {7,7},_,_,9,9,_,_,9,9,_,_,9,9,(by change(0:Int)<2147483647;decide),k _})
 show{_,9,_,_,9,.inl {_,hS.sq,9},_,_,9,9,_,9,?_};show dQ (λc1=>?_) (λc1=>fin 0);have c1:=bz c1;have c5:=u5 kk c1;let(v,ev):=int_at (ns:=ns) (yt kk (show((ns.map V.int).length:Int)≠0 by lia)) ∅;show{_,9,_,9,_,9,_,_,9,.inl {_,hS.sq,9},_,_,9,9,c1,_,_,_,_,9,9,hS.sq,ev,fin v}
def K8:b7 [Abr,AaZ,"_law_cell"] [Abr,AaZ] (bI O6):=iM 59
def adW{f:cr}{fd:re}(F:d6 K "_law_box" "_law_box" O6 f fd)(T:Txt K mg)(Ox:dh P w K mg base 1 "_law_cell_at" [Abr,AaZ] (Tx K)):cN P w K mg base fZ 2 f fd [Abr,AaZ] (QS K):=by
 show F.ok K8 98;let(a,ns,kk,rfl,hS,hn,hk,k):=h;show{_,aA (dW 2 K8<|cl Ox hr<|b6 (pv 0)<|pv 1)<|aP<|b8<|c8<|kj (bu (WD 9) 9 T.afW 59<|b6 aO<|c9 FE (pv 2)<|c9 adP aO aO) (c9 qD (pv 2) aO) aO,?_}
 show{_,9,_,9,a,ns,kk,9,hS,hn,hk,93};show{_,9,_,_,9,9,{7,7,7},_,_,9,9,{7,59},_,_,9,_,9,_,_,9,9,(by change(0:Int)<2147483629;decide),(by change 3<=dL;decide),λp hp=>k p _ ⟨_,_,_,aF⟩ (λb u q=>by rw[aI<|bx q hp];show q) hp}
def BW:b7 [AaK,Aa4,AaR,"_law_mixed"] [AaK,Aa4] (bI Le):=iM 59
def abL(F:d6 K Abx Abx Le f fd)(T:Txt K mg):cN P w K mg base fZ 1 f fd [AaK,Aa4] (uK K):=by
 show F.ok BW 98;obtain⟨fe,many,rfl,⟨x,p,q,hf⟩,hm,Vx,k⟩:=h;show{_,aA (dP (cD vY (cm eJ (pv 0) aO (λ_ _=>9)) aO<|cM _) (aA (dW 2 BW<|c9 qD (cm eJ (pv 0) aO (λ_ _=>9))<|pv 1)<|aA (rX (c9 FE (cm eJ (pv 0) aO (λ_ _=>9))<|pv 1)<|LK (pv 0) aO set_list)<|aP<|b8<|pv 2) cP)<|aA (rX (c9 ir (cm eJ (pv 0) aO (λ_ _=>9)) aO)<|LK (pv 0) aO set_list)<|aA (dW 3 BW<|c9 qD (c9 ir (c9 ir (c9 Cg (cm eJ (pv 0) aO (λ_ _=>9)) aO)<|c9 Cg (cm eJ (pv 0) aO (λ_ _=>9)) aO) aO) aO)<|aP<|b8<|c9 qD (c9 FE (c9 qD (c9 ir (c9 Cg (pv 3) aO)<|cm eJ (pv 0) aO (λ_ _=>9)) aO) aO)<|pv 1,?_}
 show{_,9,fe,_,_,_,9,9,bg.of hf,9,_,_,9,9,_,9,?_};show dQ 93 93
 ·show{_,9,fe,_,_,_,9,9,bg.of hf,9,_,9,_,_,9,9,hm,?_};have l2:many.natAbs.log2<9000:=by
   by_cases hz:many.natAbs=0;·rw[hz];decide
   rw[Nat.log2_lt hz];show gA (show many.natAbs<2^030 by lia)<|Nat.pow_lt_pow_right 7 7
  show{_,9,fe,_,_,_,9,9,bg.of hf,9,_,9,_,_,9,9,⟨hm,l2⟩,_,9,fe,_,_,_,9,9,hf,9,{_,9,k _ _ (yt _ ∅) (u5 _ hm) ⟨_,_,_,aF⟩<|(Ext.refl fe H).feed _}}
 show{_,9,fe,_,_,_,9,9,bg.of hf,9,_,_,9,9,_,9,fe,_,_,_,9,9,hf,9,?_};have sr:upd H fe (.lst [.int x,.int p,.int<|q+1]) fe>.lst [.int x,.int p,.int<|q+1]:=aF;show{_,9,fe,_,_,_,9,9,bg.of sr,9,_,_,9,9,.inr {7,7},_,9,fe,_,_,_,9,9,bg.of sr,9,_,_,9,9,.inr {7,7},_,_,9,9,_,_,9,9,_,_,9,9,(by change(0:Int)<2147483629;decide),?_};show{_,9,_,_,9,9,.inr {7,7},_,9,fe,_,_,_,9,9,bg.of sr,9,_,_,9,9,_,_,9,9,(by change(0:Int)<2147483647;decide),_,_,9,9,{7,59},_,9,_,_,9,9,hm,k _ _ (yt _ ∅) (u5 _ hm) ⟨_,_,_,sr⟩<|(Ext.refl fe H).feed _}
def oH(hg:Gl X x)(hm:X.mg x=none)(hv:FM x>.type n)(hn:x≠"__name__":=by decide)(hd:35=false:=by decide):PE X 46 (tC<|.ty n):=abI hg hm hv rfl hn hd
def aaH:i9:=AbN
def sgn(c:Nat):Bool:=!(Builtin.Str.occurrences aaH ⟨#[c]⟩ 0 aaH.length 1).isEmpty
def isVal(s:i9):Bool:=decide ((1:Int)<=(s.length:Int))&&(decide ((s.length:Int)<=08)&&(s.cps.toList.map sgn).all id)
def bF(s:i9):Bool:=Txt.startswith s "?"&&isVal (Txt.slice s (some 1) none)
inductive Z3(vs:Aam)(H:Hp)(Q:VK)(_x3:XK):Prop
 |mk (z:i9) (_:vs=[.str z]) (_:z.length<=1000) (_:∀H',aX H H'->Q (.bl<|isVal z) H')
inductive Z4(vs:Aam)(H:Hp)(Q:VK)(_x3:XK):Prop
 |mk (z:i9) (_:vs=[.str z]) (_:z.length<=1000) (_:∀H',aX H H'->Q (.bl<|bF z) H')
def bh(h:H p=none)(o:HO):aX H (upd H p o):=λb u q=>by rw[aI<|bx q h];show q
def Mv(t:i5):kitOne K t t>true:=by unfold kitOne;rw[aN<|nP t]
def N9:b7 ["thing"] ["thing"] (bI Gs):=iM 59
def Oe(F:d6 K "is_value" "is_value" Gs f fd)(T:Txt K mg):cN P w K mg base fZ 1 f fd ["thing"] Z3:=by
 show F.ok N9 98;let(z,rfl,hz,k):=h;show{_,aA (dP (zx<|kF<|bu kX 9 T.eP 59<|b6 (pv 0)<|oH (n:="str") 9 T.GJ 59) (aP<|b8 oJ) cP)<|aP<|b8<|uO (X5 aah aah aO (bu dD 9 T.fJ bK 78)<|XZ 9 T.Ng)<|zC<|bu (uo 9) 9 T.RD boot_all<|bS<|lY 9 (eF (fs:=[]) (fr:=[])) (adJ<|pv 0) (λ_ _ _ _=>kZ Uo (pv 0) (XY 9 T.ace) 74),?_}
 show{_,9,_,_,_,true,9,rj.str z,Mv _,_,9,?_};show mH ?_;show{_,9,_,_,9,{cy<|bB hz,9},_,_,9,9,_,9,?_};show dQ (λc1=>?_) (λc1=>?_)
 ·show{_,_,9,9,_,9,?_};show dQ 80 80
  ·show{_,9,_,9,λi m ys H2=>H2=H/\i<=z.cps.size/\m=z.cps.size -i/\ys=((z.cps.toList.take i).map sgn).map V.bl,{_,9,aQ _,9,9},?_};ext i m ys H2 ⟨rfl,hi,rfl,rfl⟩;have hl:∀j,(((z.cps.toList.take j).map sgn).map V.bl).length<=1000:=λj=>by
    rw[af,af,bo];have:z.cps.toList.length=z.length:=by simp[Str.length]
    lia
   by_cases cb:i<z.cps.size
   ·show .inr {cb,bB<|hl i,?_};ext v H3 ⟨rfl,c,hc,rfl⟩;show{_,9,_,_,9,9,_,Nat.sub_lt_sub_left cb<|eS i,9,cb,9,?_};have tL:z.cps.toList[i]?>c:=by simpa using hc
    rw[aY,tL,aJ,aJ];rfl
   have e:i=z.cps.size:=by lia
   show .inl {e,cy<|bB<|hl i,λl tK=>?_};show{_,(z.cps.toList.take i).map sgn,9,bg.of aF,?_};have ev:isVal z=((z.cps.toList.take i).map sgn).all id:=by unfold isVal;rw[c1,c2,cS (by rw[e];simp),Bx,Bx]
   rw[<-ev];show k _<|bh tK _
  have ev:isVal z=false:=by unfold isVal;rw[fR.mpr c2,qh,Bool.and_false]
  have q:=k H<|aX.refl H;rw[ev]at q;show q
 have ev:isVal z=false:=by unfold isVal;rw[fR.mpr c1,qh]
 have q:=k H<|aX.refl H;rw[ev]at q;show{_,9,mH q}
def JZ:b7 ["thing"] ["thing"] (bI B3):=iM 59
def slice_le(z:i9):(Txt.slice z (some 1) none).length<=z.length:=pH z _ _
def Ka(F:d6 K "is_unknown" "is_unknown" B3 f fd)(T:Txt K mg)(SV:dh P w K mg base 1 "is_value" ["thing"] Z3):cN P w K mg base fZ 2 f fd ["thing"] Z4:=by
 show F.ok JZ 98;let(z,rfl,hz,k):=h;show{_,aP<|b8<|uO (bu kX 9 T.eP 59<|b6 (pv 0)<|oH (n:="str") 9 T.GJ 59)<|uO (jr yS PySem.F.slot_str_startswith PySem.F.type_str_startswith Kd (pv 0)<|bS cQ)<|zC<|cl SV hr<|bS<|pB TJ (pv 0) (pV aO) ub,?_};show{_,9,_,_,_,true,9,rj.str z,Mv _,_,9,?_};show ug ?_;show{_,9,9,_,_,9,9,_,9,?_};show dQ (λc1=>?_) (λc1=>?_)
 ·show{_,9,_,9,_,9,cy<|bB hz,_,9,aR (slice_le z) hz,λH' sm=>?_};have ev:bF z=isVal (Txt.slice z (some 1) none):=by unfold bF;rw[c1,Bx]
  rw[<-ev];show k H' sm
 have ev:bF z=false:=by unfold bF;rw[fR.mpr c1,qh]
 have q:=k H<|aX.refl H;rw[ev]at q;show q
def step(acc:Aaf)(t:i9):Aaf:=if bF t=true then(if t∈acc then acc else acc++[t])else acc
def iQ(fl:Aaf):Aaf:=fl.foldl step []
def Yr(acc:Aaf)(t:i9):(step acc t).length<=acc.length+1:=by
 unfold step;split
 ·split;·lia
  rw[aG];show aw _
 lia
theorem Mj:∀(fl acc:Aaf),(fl.foldl step acc).length<=acc.length+fl.length
 |[],acc=>by simp
 |t::r,acc=>by have h1:=Mj r<|step acc t;have h2:=Yr acc t;rw[gJ,bJ];lia
def DS(fl:Aaf):(iQ fl).length<=fl.length:=by have:=Mj fl [];simpa[iQ]using this
def Xh(fl:Aaf)(t:i9):iQ (fl++[t])=step (iQ fl) t:=by unfold iQ;rw[mU];rfl
def dj(H H':Hp):Prop:=∀b xs,H b>.tup xs->H' b>.tup xs
def dj.trans(a:dj H H1)(b:dj H1 H2):dj H H2:=λc xs h=>b c xs<|a c xs h
def dj.of{H H':Hp}(a:aX H H'):dj H H':=λc xs h=>a c _ h
def dj.refl(H:Hp):dj H H:=λ_ _ h=>h
def dj.new(a:dj H H1)(h:H1 p=none)(o:HO):dj H (upd H1 p o):=λb xs q=>by rw[aI<|bx (a b xs q) h];show a b xs q
def dj.lst(a:dj H H1)(h:H1 p>.lst ys)(o:HO):dj H (upd H1 p o):=λb xs q=>by rw[aI (aal (a b xs q) h λz=>by cases z)];show a b xs q
def dj.ext(hf:H f>.lst ys)(a:Ext f H H1):dj H H1:=λb xs q=>a b _ (aal q hf λz=>by cases z) q
def dc.iR{K:Frag}(h:dc K f H)(a:Ext f H H1):dj H H1:=by let(__,__,__,hf):=h;show dj.ext hf a
def Ad(H:Hp)(v:V)(a:i9×Aaf):Prop:=∃(p t:cr),v=-p/\H p>.tup [.str a.1,-t]/\H t>.tup (a.2.map V.str)
abbrev dJ(H:Hp):Aam->R0->Prop:=Paired<|Ad H
def Ad.keep(a:dj H H')(h:Ad H v b):Ad H' v b:=by let(p,t,e,h1,h2):=h;show{p,t,e,a _ _ h1,a _ _ h2}
def dJ.keep(a:dj H H')(h:dJ H vs br):dJ H' vs br:=Paired.imp' (λ_ _ q=>q.keep a) h
def Dc(H:Hp)(v:V)(hz:Aaf)(br:R0):Prop:=∃(q h a:cr)(vs:Aam),v=-q/\H q>.tup [-h,-a]/\H h>.tup (hz.map V.str)/\H a>.tup vs/\dJ H vs br
def Dc.keep{H H':Hp}{v:V}{hz:Aaf}{br:R0}(t:dj H H')(x:Dc H v hz br):Dc H' v hz br:=by let(q,h,a,vs,e,h1,h2,h3,h4):=x;show{q,h,a,vs,e,t _ _ h1,t _ _ h2,t _ _ h3,dJ.keep t h4}
def Paired.Gk(h:Paired F l₁ aac)(q:F a b):Paired F (l₁++[a]) (aac++[b]):=h.snoc q
theorem Paired.at:∀{l₁:List α}{aac:List β}{i:Nat}{x:α},Paired F l₁ aac->l₁[i]?>x->∃y,aac[i]?>y/\F x y
 |_,_,_,_,.nil,e=>by simp at e
 |_,_,0,_,.cons r _,e=>by simp at e;subst e;show⟨_,rfl,r⟩
 |_,_,i+1,x,.cons _ t,e=>by let(y,h1,h2):=Paired.at (i:=i) (x:=x) t<|↑e;show{y,by simpa using h1,h2}
def eA(br:R0):Aaf:=(br.map (·.2)).flatten
def Sj(l:R0)(a:i9×Aaf):eA (l++[a])=eA l++a.2:=by unfold eA;simp
def Si{br:R0}(h:br[i]?>a):eA (br.take<|i+1)=eA (br.take i)++a.2:=by rw[aY,h];show Sj _ _
def pj{zs:Aaf}(h0:0<=i)(h1:i<(28:Int)):∃z,z∈zs/\rO 57 i>.str z:=by
 obtain⟨z,hz⟩:∃z,zs[i.toNat]?>z:={_,au ∅};show{z,aB hz,?_};have e:i=((i.toNat:Nat):Int):=by lia
 rw[e];show iF (by rw[aW,hz];rfl)
theorem Py:∀l:R0,(∀a∈l,a.2.length<=4)->(eA l).length<=4*l.length
 |[],_=>aw _
 |a::r,q=>by have h1:=Py r λts qF=>q ts<|az _ qF;have h2:=q a ay;change(a.2++eA r).length<=_;rw[aG,bJ];lia
def nJ{br:R0}{z:i9}:z∈eA br↔∃a∈br,z∈a.2:=by
 unfold eA;rw[nU];constructor;·ext⟨l,h1,h2⟩;let(a,ha,rfl):=aD.mp h1;show⟨a,ha,h2⟩
 ext⟨a,ha,h⟩;show{a.2,bV ha,h}
noncomputable def mq:Aaf:=["?x","?y","?z","?x1","?w","a","b","x","zz"]
noncomputable def wQ:Aaf:=["r","s","rs","t"]
def nK(z:i9):Prop:=z.length<=100/\PyData.strOk z=true
def LW(c d:Nat):decide ((⟨#[c]⟩:i9)=⟨#[d]⟩)=(c==d):=by
 by_cases h:c=d;·subst h;simp
 have:¬((⟨#[c]⟩:i9)=⟨#[d]⟩):=λe=>h (by injection e with e;simpa using e);rw[bQ this];show(cG.mpr h).symm
def Q5:("?":i9)=⟨#[63]⟩:=by decide+kernel
def Ft{z:i9}{c:Nat}(h:z.cps.toList[0]?>c):Txt.startswith z "?"=decide ((⟨#[c]⟩:i9)="?"):=by rw[Q5,LW];rw[f7,jx];unfold Txt.startswith;rw[bT,my,Ed,h];show{λe=>cB e,λe=>by rw[e]}
def N6{z:i9}(h:z.cps.toList[0]?=none):Txt.startswith z "?"=false:=by rw[Q5];show fR.mpr λe=>?_;unfold Txt.startswith at e;rw[bT,my,Ed,h]at e;cases e
def Y5{z:i9}(h:z≠""):∃c,z.cps.toList[0]?>c:=by
 cases e:z.cps.toList with
 |cons c r=>show⟨c,rfl⟩
 |nil=>
  show absurd (PyProof.Rows.ext_toList<|e.trans 9) h
def zE(h:q none H):OM Z H q:=h
def TK:sgn 63=false:=by decide+kernel
def aaY{z:i9}(h:isVal z=true):bF z=false:=by
 unfold isVal at h;rw[bT,bT]at h;have h1:=bz h.1;unfold bF;cases e:z.cps.toList with
 |nil=>
  have:z.length=0:=by change z.cps.size=0;rw[<-aZ,e];rfl
  lia
 |cons c r=>
  have hc:=cz.mp h.2.2 _<|bV<|e▸ay;have nc:c≠63:=λz=>by rw[z,TK]at hc;cases hc
  rw[Ft (by rw[e];rfl),Q5,LW,cG.mpr nc,qh]
def HX(z:i9)(l:Aaf):PM (.str z) (l.map V.str)=decide (z∈l):=by
 unfold PM;rw[sW,f7,fH];constructor;·ext⟨y,hy,e⟩;rw[d8 e]at hy;show bD hy
 ext h;show{z,bz h,by change(z==z)=true;simp}
def Nk(l:Aaf):(l.map V.str).all v9=true:=by rw[List.all_map];show cz.mpr λ_ _=>9
def ui(z:i9):Bool:=isVal z||bF z
def F0(acc:Aaf)(t:i9):Aaf:=if t∈acc then acc else acc++[t]
def Sn(g:Aaf):Aaf:=g.foldl F0 []
theorem Mf:∀(g acc:Aaf)(z:i9),z∈g.foldl F0 acc↔z∈acc\/z∈g
 |[]=>λacc z=>by simp
 |t::r=>λacc z=>by
  rw[gJ,Mf r (F0 acc t) z];unfold F0;by_cases d:t∈acc
  ·rw[aN d];constructor
   ·ext(h|h);·show .inl h
    show .inr<|az _ h
   ext(h|h);·show .inl h
   rcases aK.mp h with rfl|h;·show .inl d
   show .inr h
  rw[aL d];constructor
  ·ext(h|h)
   ·rcases aE.mp h with h|h;·show .inl h
    rw[ar.mp h];show .inr ay
   show .inr<|az _ h
  ext(h|h);·show .inl<|ba _ h
  rcases aK.mp h with rfl|h;·show .inl<|bq _<|ar.mpr 9
  show .inr h
def ab1(g:Aaf)(z:i9):z∈Sn g↔z∈g:=by unfold Sn;rw[Mf];simp
theorem Hq:∀(g acc:Aaf),acc.Nodup->(g.foldl F0 acc).Nodup
 |[]=>λacc h=>h
 |t::r=>λacc h=>by
  show Hq r _ ?_;unfold F0;split;·show h
  rename_i d;rw[dG];show{h,84,λa ha b hb e=>?_};rw[ar.mp hb]at e;show d<|e▸ha
def Wc(g:Aaf):(Sn g).Nodup:=Hq g [] .nil
theorem IB:∀(fl acc:Aaf),fl.foldl step acc=(fl.filter bF).foldl F0 acc
 |[],acc=>rfl
 |t::r,acc=>by
  rw[gJ,eT,IB r];unfold step;by_cases c:bF t=true;·rw[aN c,aN c,gJ];rfl
  rw[aL c,aL c]
def OH(fl:Aaf):iQ fl=Sn (fl.filter bF):=IB fl []
def Ta(fl:Aaf):(iQ fl).Nodup:=by rw[OH];show Wc _
def ac0{z:i9}(h:ui z=true):Txt.startswith z "?"=bF z:=by
 have h':(isVal z||bF z)=true:=h;cases e:isVal z with
 |true=>
  rw[aaY e];cases e1:z.cps.toList with
  |nil=>show N6 (by rw[e1];rfl)
  |cons c r=>
   unfold isVal at e;rw[bT,bT]at e;have hc:=cz.mp e.2.2 _<|bV<|e1▸ay;have nc:c≠63:=λz=>by rw[z,TK]at hc;cases hc
   rw[Ft (by rw[e1];rfl),Q5,LW,cG.mpr nc]
 |false=>
  rw[e,Bool.false_or]at h';rw[h'];unfold bF at h';rw[bT]at h';show h'.1
def KP{z:i9}(h:ui z=true):∃c,z.cps.toList[0]?>c:=by
 show Y5 λe=>?_;rw[e]at h;have:ui ""=false:=by decide+kernel
 cases h
def KQ{z:i9}(h:ui z=true){c:Nat}(hc:z.cps.toList[0]?>c):decide (V.str ⟨#[c]⟩=V.str "?")=bF z:=by rw[<-ac0 h,Ft hc,f7];simp
def NC(xs:Aam)(j:Nat):lR xs none (some (j:Int))=xs.take j:=by
 unfold lR;rw[HT.Fz,HT.zp,nB,Dh];by_cases h:j<=42;·rw[jy h]
 rw[rq ∅,bj,cS ∅]
def WM(z:i9):Prop:=ui z=true/\z.length<=100/\PyData.strOk z=true
def afo(z:i9):Prop:=isVal z=true/\z.length<=100/\PyData.strOk z=true
def acY:(mq.all λz=>ui z&&decide (z.length<=100)&&PyData.strOk z)=true:=by decide+kernel
def ad3:(wQ.all λz=>isVal z&&decide (z.length<=100)&&PyData.strOk z)=true:=by decide+kernel
def QJ{z:i9}(h:z∈mq):WM z:=by have:=cz.mp acY z h;rw[bT,bT]at this;show{this.1.1,bz this.1.2,this.2}
def Rz{z:i9}(h:z∈wQ):afo z:=by have:=cz.mp ad3 z h;rw[bT,bT]at this;show{this.1.1,bz this.1.2,this.2}
def k9{zs:Aaf}{i:Nat}(h:(zs.map V.str)[i]?>y):∃z,zs[i]?>z/\y=V.str z:=by
 rw[aW]at h;cases e:zs[i]? with
 |none=>rw[e]at h;cases h
 |some z=>rw[e]at h;show{z,9,(cB h).symm}
def cX(H H':Hp):Prop:=∀b xs,Rd H b (.tup xs)->Rd H' b (.tup xs)
def cX.refl(H:Hp):cX H H:=λ_ _ h=>h
def cX.trans(a:cX H H1)(b:cX H1 H2):cX H H2:=λx xs h=>b x xs<|a x xs h
def cX.same(s:aX H H'):cX H H':=λb xs h=>by
 rcases h with h|⟨o,h⟩;·show .inl<|s _ _ h
 show .inr {o,s _ _ h}
def wg(H:Hp)(a:cr):Prop:=∀xs,¬Rd H a (.tup xs)
def cX.upd(h:wg H a):cX H (upd H a o):=λb xs q=>by
 have hb:b≠a:=λe=>h xs<|e▸q;rcases q with q|⟨o',q⟩;·show .inl (by rw[aI hb];show q)
 show .inr {o',by rw[aI hb];show q}
def Ry{H:Hp}{a:cr}(h:H a=none):wg H a:=λxs q=>by rcases q with q|⟨o,q⟩<;>rw[h]at q<;>cases q
def UB(h:H a>.ext φ):wg H a:=λxs q=>by rcases q with q|⟨o,q⟩<;>rw[h]at q<;>cases q
def wO(h:H a>.dK l):wg H a:=λxs q=>by rcases q with q|⟨o,q⟩<;>rw[h]at q<;>cases q
def Ck(h:H a>.ins C dx l):wg H a:=λxs q=>by rcases q with q|⟨o,q⟩<;>rw[h]at q<;>cases q
def gn(q:bA K H a xs)(t:cX H H'):bA K H' a xs:=by
 rcases q with q|q;·show .inl<|t _ _ q
 show .inr q
mutual
theorem aai(t:cX H H'):∀(k:NK)(v:V),NV K H k v->NV K H' k v
 | .cU=>λv h=>by rw[NV]at h⊢;show h
 | .key k=>λv h=>by rw[NV]at h⊢;show h
 | .tup ks=>λv h=>by rw[NV]at h⊢;let(a,xs,e,hq,hs):=h;show{a,xs,e,gn hq t,Uy t ks xs hs}
theorem Uy(t:cX H H'):∀(ks:List NK)(vs:Aam),qM K H ks vs->qM K H' ks vs
 |[]=>λvs h=>by rw[qM]at h⊢;show h
 |k::ks=>λvs h=>by rw[qM]at h⊢;let(x,r,e,h1,h2):=h;show{x,r,e,aai t k x h1,Uy t ks r h2}
end
def pW{H H':Hp}{k:NK}{a:cr}(h:il K H k a)(t:cX H H'):il K H' k a:={aai t _ _ h.1,h.2}
def _root_.L2.iw.tp{H H':Hp}{d:cr}{kvs:List 95}(h:iw P w K H d kvs)(t:cX H H')(e:H' d=H d):iw P w K H' d kvs:={e▸h.1,λp hp=>pW (h.2 p hp) t}
def _root_.L2.iw.some{H:Hp}{d:cr}{kvs:List 95}(h:iw P w K H d kvs):∃u,H d>u:=by rcases h.1 with h|⟨_,h⟩<;>show⟨_,h⟩
def _root_.L2.iw.oK{H:Hp}{d:cr}{kvs:List 95}(h:iw P w K H d kvs):wg H d:=by
 rcases h.1 with h|⟨_,h⟩;·show UB h
 show wO h
def _root_.L2.iw.put{H:Hp}{d b:cr}{kvs:List 95}{k:NK}{v:V}(h:iw P w K H d kvs)(hk:il K H k b):iw P w K (upd H d<|.ext<|DN P w d<|putN kvs k b v) d (putN kvs k b v):=by
 have t:cX H (upd H d<|.ext<|DN P w d<|putN kvs k b v):=cX.upd h.oK;show{.inl aF,λp hp=>?_};rcases Me hp with⟨q,hq,e1,e2⟩|⟨e1,e2⟩;·rw[e1,e2];show pW (h.2 q hq) t
 rw[e1,e2];show pW hk t
def zX{H:Hp}{p:cr}(h:H p=Option.some (.dK [])):iw P w K H p []:={.inr ⟨rfl,h⟩,λ_ hp=>by cases hp}
def kY(h:fA K H ys rs)(t:cX H H'):fA K H' ys rs:=h.keep λa xs q=>gn q t
def dR{H H':Hp}{a:cr}{xs:Aam}(q:bA K H a xs)(s:aX H H'):bA K H' a xs:=by
 rcases q with(q|⟨o,q⟩)|q;·show .inl<|.inl<|s _ _ q
 ·show .inl<|.inr {o,s _ _ q}
 show .inr q
def o8{H H':Hp}{a:cr}{xs:Aam}(q:bg K H a xs)(s:aX H H'):bg K H' a xs:=by
 rcases q with(q|⟨o,q⟩)|q;·show .inl<|.inl<|s _ _ q
 ·show .inl<|.inr {o,s _ _ q}
 show .inr q
def eU{α β:Type}{R:α->β->Prop}:∀{xs zs:List α}{ys ws:List β},Paired R xs ys->Paired R zs ws->Paired R (xs++zs) (ys++ws):=by
 ext xs zs ys ws r h
 induction r with
 |nil=>show h
 |cons a _ ih=>show .cons a ih
def Ae(K:Frag)(H:Hp)(v:V)(a:aC.Atom):Prop:=∃b c,v=-b/\bA K H b [.str a.1,-c]/\bA K H c (a.2.map V.str)
abbrev dw(K:Frag)(H:Hp):Aam->List aC.Atom->Prop:=Paired<|Ae K H
def Ae.same{H H':Hp}{v:V}{a:aC.Atom}(h:Ae K H v a)(s:aX H H'):Ae K H' v a:=by let(b,c,e,h1,h2):=h;show{b,c,e,dR h1 s,dR h2 s}
def dw.same{H H':Hp}{ys:Aam}{as:List aC.Atom}(h:dw K H ys as)(s:aX H H'):dw K H' ys as:=by
 induction h with
 |nil=>show .nil
 |cons h _ ih=>show .cons (h.same s) ih
def jD(a:aC.Atom):Prop:=a.2.length<=100/\PyData.strOk a.1=true/\∀z∈a.2,z.length<=100/\PyData.strOk z=true
structure En where
 nm:i9
 ad:cr
 ys:Aam
 rows:R1
def gv(e:En):Key×V:=(Sum.inr e.nm,.ref e.ad)
def jT(r:Aaf):Prop:=1<=r.length/\r.length<=4/\∀z∈r,nK z
def L8(es:List En):(es.map gv).map (·.1)=(es.map (·.nm)).map (Sum.inr:i9->Key):=by rw[dF,dF];rfl
def Uz{l:Aaf}:(l.map (Sum.inr:i9->Key)).Nodup↔l.Nodup:=by
 induction l with
 |nil=>show{λ_=>ik,λ_=>ik}
 |cons a r ih=>
  rw[a9,df,df,ih];show and_congr_left λ_=>not_congr {λh=>?_,λh=>bV h};let(b,hb,e):=aD.mp h;cases e;show hb
theorem wk:∀{es:List En},(es.map (·.nm)).Nodup->∀{e:En},e∈es->jo (es.map gv) (Sum.inr e.nm)>.ref e.ad
 |[],_,e,h=>by cases h
 |a::r,nd,e,h=>by
  rw[a9,df]at nd;rcases aK.mp h with rfl|h;·show tX rfl
  have ne:¬(gv a).1=Sum.inr e.nm:=λq=>nd.1 (by
   have:a.nm=e.nm:=by injection q
   rw[this];show bV h)
  rw[a9,oV ne];show wk nd.2 h
theorem tY:∀{es:List En}{z:i9},z∉es.map (·.nm)->jo (es.map gv) (Sum.inr z:Key)=none
 |[],_,_=>rfl
 |a::r,z,h=>by rw[a9,aK]at h;rw[a9,oV (λq=>h<|.inl (by injection q with q;show q.symm))];show tY λq=>h<|.inr q
def kh(es:List En)(z:i9):R1:=match es.find? (λe=>decide (e.nm=z))with
 |some e=>e.rows
 |none=>[]
theorem ph:∀{es:List En},(es.map (·.nm)).Nodup->∀{e:En},e∈es->kh es e.nm=e.rows
 |[],_,e,h=>by cases h
 |a::r,nd,e,h=>by
  rw[a9,df]at nd;unfold kh;rcases aK.mp h with rfl|h;·rw[iJ (p:=λx:En=>decide (x.nm=e.nm))<|bD 9]
  have ne:¬decide (a.nm=e.nm)=true:=λq=>nd.1 (by
   rw[bz q];show bV h)
  rw[iK (p:=λx:En=>decide (x.nm=e.nm)) ne];show ph nd.2 h
structure kP(K:Frag)(H:Hp)(p:cr)(fs:List En):Prop where
 at_:H p>.dK (fs.map gv)
 nm:(fs.map (·.nm)).Nodup
 en:∀e∈fs,H e.ad>.lst e.ys/\fA K H e.ys e.rows/\e.rows.length<=25/\∀r∈e.rows,jT r
def qC(h:fA K H ys rows)(s:aX H H'):fA K H' ys rows:=h.keep λa xs q=>by
 rcases q with(q|⟨o,q⟩)|q;·show .inl<|.inl<|s _ _ q
 ·show .inl<|.inr {o,s _ _ q}
 show .inr q
def XB(q:bA K H a xs)(s:aX H H'):bA K H' a xs:=by
 rcases q with(q|⟨o,q⟩)|q;·show .inl<|.inl<|s _ _ q
 ·show .inl<|.inr {o,s _ _ q}
 show .inr q
def kP.same(x:kP K H p fs)(s:aX H H'):kP K H' p fs:={s _ _ x.at_,x.nm,λe he=>by let(h1,h2,h3):=x.en e he;show{s _ _ h1,qC h2 s,h3}}
def YR(x:kP K H p fs)(h0:H l0>.lst [])(z:i9):∃q ys,(jo (fs.map gv) (Sum.inr z:Key)).getD (-l0)=-q/\H q>.lst ys/\fA K H ys (kh fs z)/\(kh fs z).length<=25/\∀r∈kh fs z,jT r:=by
 cases q:fs.find? (λe=>decide (e.nm=z))with
 |none=>
  have n:z∉fs.map (·.nm):=λh=>by let(e,he,rfl):=aD.mp h;have:=pP.mp q e he;show this<|bD 9
  have er:kh fs z=[]:=by unfold kh;rw[q]
  rw[er,tY n];show{l0,[],9,h0,.nil,aQ _,λr h=>by cases h}
 |some e=>
  have he:=jg q;have e1:=bz<|yr (p:=λe:En=>decide (e.nm=z)) q;subst e1;rw[wk x.nm he,ph x.nm he];let(h1,h2,h3,h4):=x.en e he;show{e.ad,e.ys,9,h1,h2,h3,h4}
inductive KZ(K:Frag)(vs:Aam)(H:Hp)(Q:VK)(_x3:XK):Prop
 |mk (d:cr) (fs:List En) (z:i9) (_:vs=[-d,.str z]) (_:kP K H d fs) (_:∀(l:cr)(zs:Aam)(rs:R1)(H':Hp),aX H H'->H l=none->H' l>.lst zs->rs.Perm (Aj<|kh fs z)->fA K H' zs rs->Q (-l) H')
def QV:b7 [Ac3,"name"] [Ac3,"name"] (bI IJ):=iM 59
def Ro(F:d6 K "rows_of" "rows_of" IJ f fd)(T:Txt K mg):cN P w K mg base fZ 1 f fd [Ac3,"name"] (KZ K):=by
 show F.ok QV 98;let(d,fs,z,rfl,hT,k):=h;show{_,aP<|b8<|bu (zW hr.hd) 9 T.qX 59<|bS<|dH (JL hr.hd hr.units) 9 T.RA 59<|bS<|As (pX hr) (pv 0) (pv 1) (c8 hU) afY,?_};show{_,9,d,9,.inl {_,.inl hT.at_},_,9,56,?_}
 intros l0 EZ H0 Z8 h0
 let(q,ys,eq,hq,hR,hlr,hg):=YR (hT.same Z8) h0 z;show{_,jQ.k (k:=Sum.inr z)<|Z8 _ _ hT.at_,?_};rw[eq];show{q,ys,kh fs z,9,bg.of hq,hR,8,λa us ha0 nu mu lu EU=>?_};have sm1:aX H0 (upd H0 a<|.ext<|yP P w a us):=bh ha0 _;show{a,us,ys,9,aF,λx hx=>{XB (EU x hx).1 sm1,(EU x hx).2},λ_ x hx=>?_,8,λl zs rs hl hp MN _=>?_};·have:=hg x.1<|(mu x.1).mp<|bV hx;ext q;have:=this.1;rw[q]at this;cases this
 replace hl:upd H0 a (.ext<|yP P w a us) l=none:=hl
 have Ex:aX (upd H0 a<|.ext<|yP P w a us) (upd (upd H0 a<|.ext<|yP P w a us) l<|.lst zs):=bh hl _;show k l zs rs _ (Z8.trans<|sm1.trans Ex) ?_ aF (hp.trans<|Xj nu mu) (qC MN Ex);cases q:H l with
 |none=>rfl
 |some o=>
  rw[sm1 _ _<|Z8 _ _ q]at hl;cases hl
end
inductive OX(K:Frag)(vs:Aam)(H:Hp)(Q:VK)(_x3:XK):Prop
 |mk (f pl:cr) (us:Aaf) (_:vs=[-f,-pl]) (_:dc K f H) (_:pl≠f) (_:H pl>.lst (us.map V.str)) (_:1<=us.length) (_:us.length<=4) (_:(∀z∈us,z∈mq)) (_:∀(r:cr)(a:i9×Aaf)(H':Hp),dc K f H'->Ext f H H'->Ad H' (-r) a->a.1∈wQ->1<=a.2.length->a.2.length<=3->(∀z∈a.2,z∈mq)->Q (-r) H')
section
variable{P:io}{w:i6}{K:Frag}{mg:Aab}{base:nw}
def NQ(H:Hp)(v:V):Prop:=∃(p:cr)(z:i9)(n:Int),v=-p/\H p>.tup [.str z,.int n]/\z∈wQ/\1<=n/\n<=3
def NQ.sm{H H':Hp}{v:V}(h:NQ H v)(s:aX H H'):NQ H' v:=by let(p,z,n,e,h1,h2):=h;show{p,z,n,e,s _ _ h1,h2}
def zy{H:Hp}{p:cr}{z:i9}{n:Int}(h:H p=none)(o:z∈wQ/\1<=n/\n<=3):aX H (upd H p<|.tup [.str z,.int n])/\NQ (upd H p<|.tup [.str z,.int n]) (-p):={bh h _,p,z,n,9,aF,o}
def abB{vs:Aam}{i:Int}(h0:0<=i)(h1:i<(vs.length:Int)):∃v,v∈vs/\rO vs i>v:=by obtain⟨v,hv⟩:∃v,vs[i.toNat]?>v:={_,au ∅};show{v,aB hv,?_};rw[show i=((i.toNat:Nat):Int) by lia];show iF hv
def pb:b7 [AaK,"_law_pool",Aba,Aa4,Abz,AaZ,"_law_term"] [AaK,"_law_pool"] (bI Ll):=iM 59
def Yk{f:cr}{fd:re}(F:d6 K "_law_atom" "_law_atom" Ll f fd)(T:Txt K mg)(cE:dh P w K mg base 1 Abx [AaK,Aa4] (uK K)):cN P w K mg base fZ 2 f fd [AaK,"_law_pool"] (OX K):=by
 show F.ok pb 98;let(fe,pl,us,rfl,hF,EL,iu,hu1,PR,huu,k):=h;have lu:(us.map V.str).length=us.length:=af _;show cut 1 (λZ H2=>∃(z:i9)(lg:Int),Z=[some (-fe),some (-pl),some<|.str z,some<|.int lg,none,none,none]/\z∈wQ/\1<=lg/\lg<=3/\dc K fe H2/\Ext fe H H2)
  {_,aA (dW 4 pb<|c8 hU)<|aA (eB bH 9 (j5 9 T.mZ 47) (gL 5 pb)<|aA (dW 6 pb<|cm eJ (pv 1) (cl cE hr<|b6 (pv 0)<|bu dD 9 T.fJ bK 79) (λ_ _=>9))<|aA (dP (cD mQ 55 aO<|cM _) (aP<|dW 6 pb<|cm eJ (c8<|kj cQ cQ cQ) 55 (λ_ _=>9)) cP)<|aP<|fW<|jr bO cw cn iB (pv 4)<|bS<|pv 6)<|aP<|b8<|dS<|b6 (pv 2)<|dH fq 9 T.jH 59<|bS<|pv 4,?_} (λt2 ht=>{_,aA (rX (cm eJ (c8<|eX (dS<|b6 cQ aO)<|eX (dS<|b6 cQ aO)<|eX (dS<|b6 cQ aO)<|kj (dS<|b6 cQ aO) (dS<|b6 cQ aO)<|dS<|b6 cQ aO) 55 (λ_ _=>9))<|lA 9<|cJ (gL 2 pb)<|cJ (gL 3 pb) ic) ht,λtl=>?_})
 ·ext Z H2 ⟨nm,lg,rfl,hnm,l0,l1,iN,kG⟩;show{56,λt ht=>?_};have nt:=iN.lC ht;have ht0:=kG.none nt ht;show{_,rfl,lg,rfl,by lia,by lia,yi
   (λj Z H3=>∃(y7 y8:Aan)(ts:Aaf),Z=[some (-fe),some (-pl),some<|.str nm,some<|.int lg,some (-t),y7,y8]/\dc K fe H3/\Ext fe H H3/\H3 t>.lst (ts.map V.str)/\52=j/\∀z∈ts,z∈mq)
   {none,none,[],9,iN.new ht _,kG.new ht _,aF,9,λz h=>by cases h} ?_ ?_}
  ·ext j Z H3 hj ⟨y7,y8,ts,rfl,ju,iX,GX,cb,qF⟩;show{_,9,_,9,_,9,_,_,9,.inl {_,bg.of<|iX _ _ EL iu,9},fe,_,9,ju,8,8,λi4 H4 i0 i1 ji gP=>?_};have ae6:=iX.trans gP;let(z,hz,ev):=pj (zs:=us) i0 ∅;show{_,_,_,_,9,9,bg.of<|ae6 _ _ EL iu,ev,?_};show{_,9,fe,07,9,ji,7,7,λi5 H5 j0 j1 j8 lP=>{9,_,9,?_}};have ae5:=ae6.trans lP;have Vm:=lP _ _ nt<|gP _ _ nt GX;show dQ 93 93
   ·show{(by change 3<=dL;decide),λp hp=>?_};show{_,9,fe,3,9,j8.new hp _,7,7,λi6 H6 k0 k1 oj kW=>?_};let(y,hy,ev6):=pj (zs:=["a","b","x"]) k0 k1;have ML:=kW _ _ nt (by rw[aI<|bx Vm hp];show Vm);show{_,_,_,_,9,9,bg.of<|kW _ _ (j8.lC hp) aF,ev6,?_};show{_,9,.inl {9,_,bg.of ML},_,9,_,_,_,9,9,ML,75,?_};show{_,_,ts++[y],9,oj.lst ML nt _,((ae5.new hp<|.lst<|(["a","b","x"]:Aaf).map V.str).trans kW).own ht0 _,by rw[aF,aJ];rfl,by rw[aG,cb];rfl,λz' h=>?_};rcases aE.mp h with q|q;·show qF z' q
    rw[ar.mp q];show((by decide+kernel:∀y∈(["a","b","x"]:Aaf),y∈mq) y hy)
   show{_,9,.inl {9,_,bg.of Vm},_,9,_,_,_,9,9,Vm,75,?_};show{_,_,ts++[z],9,j8.lst Vm nt _,ae5.own ht0 _,by rw[aF,aJ];rfl,by rw[aG,cb];rfl,λz' h=>?_};rcases aE.mp h with q|q;·show qF z' q
   rw[ar.mp q];show huu z hz
  ext Z H3 ⟨y7,y8,ts,rfl,ju,iX,GX,cb,qF⟩;show{_,9,_,9,t,_,9,.inl {bg.of GX,λtt ye=>?_}};show{31,λap w4=>?_};show k ap (nm,ts) _ ((ju.new ye<|.tup<|ts.map V.str).new w4<|.tup [.str nm,-tt]) ((iX.new ye _).new w4 _) {ap,tt,9,aF,by rw[aI (λe=>by rw[<-e,aF]at w4;cases w4),aF]} hnm (by change 1<=52;lia) (by change 52<=3;lia) qF
 show{31,λp1 h1=>?_};let(s1,o1):=zy h1 (z:="r") (n:=2) 59;generalize upd H p1 _=H1 at s1 o1⊢;show{31,λp2 h2=>?_};let(s2,o2):=zy h2 (z:="r") (n:=2) 59;generalize upd H1 p2 _=H2 at s2 o2⊢;show{31,λp3 h3=>?_};let(s3,o3):=zy h3 (z:="s") (n:=2) 59;generalize upd H2 p3 _=H3 at s3 o3⊢;show{31,λp4 h4=>?_};let(s4,o4):=zy h4 (z:="rs") (n:=1) 59;generalize upd H3 p4 _=H4 at s4 o4⊢;show{31,λp5 h5=>?_};let(s5,o5):=zy h5 (z:="t") (n:=3) 59;generalize upd H4 p5 _=H5 at s5 o5⊢;show{31,λp6 h6=>?_};let(s6,o6):=zy h6 (z:="r") (n:=1) 59;generalize upd H5 p6 _=H6 at s6 o6⊢;have aif:∀v∈[V.ref p1,-p2,-p3,-p4,-p5,-p6],NQ H6 v:=λv hv=>by
  simp only[aK,lF,uc]at hv;rcases hv with rfl|rfl|rfl|rfl|rfl|rfl;·show((((o1.sm s2).sm s3).sm s4).sm s5).sm s6
  ·show(((o2.sm s3).sm s4).sm s5).sm s6
  ·show((o3.sm s4).sm s5).sm s6
  ·show(o4.sm s5).sm s6
  ·show o5.sm s6
  show o6
 have s16:=((((s1.trans s2).trans s3).trans s4).trans s5).trans s6;show{(by change 6<=dL;decide),λl hl=>?_};have oj:=hF.same s16;show{_,9,fe,6,9,oj.new hl _,7,7,λ_ H7 a0 a1 mN lO=>?_};have CS:=((Ext.refl fe H6).new hl _).trans lO;let(v,hv,ev):=abB (vs:=[V.ref p1,-p2,-p3,-p4,-p5,-p6]) a0 a1;let(p,z,n,rfl,hp,hz,hn):=aif v hv;show{_,_,_,_,9,9,bg.of<|lO _ _ (oj.lC hl) aF,ev,p,_,9,bA.of<|oj.iR CS _ _ hp,9,_,_,9,_,_,9,9,tl _ _ {z,n,9,hz,hn.1,hn.2,mN,λb o nb q=>CS b o nb<|s16 b o q}}
def qz(br:R0):Prop:=∀a∈br,a.1∈wQ/\1<=a.2.length/\a.2.length<=3/\∀z∈a.2,z∈mq
def qz.len{br:R0}(g:qz br)(n:Nat):(eA<|br.take n).length<=4*br.length:=by
 have h1:=Py (br.take n) λa ha=>fQ (g a<|dE ha).2.2.1;have h2:(br.take n).length<=br.length:=by rw[bo];lia
 lia
inductive Gf(vs:Aam)(H:Hp)(Q:VK)(_x3:XK):Prop
 |mk (l:cr) (jM:Aam) (br:R0) (_:vs=[-l]) (_:(H l>.lst jM\/H l>.tup jM)) (_:dJ H jM br) (_:qz br) (_:br.length<=08) (_:∀(r:cr)(H':Hp),aX H H'->H r=none->H' r>.lst ((iQ<|eA br).map V.str)->Q (-r) H')
def qS:b7 [AaH,AaR,AaG,"_law_term"] [AaH] (bI B1):=iM 59
def LY{f:cr}{fd:re}(F:d6 K AbC AbC B1 f fd)(T:Txt K mg):cN P w K mg base fZ 1 f fd [AaH] Gf:=by
 show F.ok qS 98;let(al,jM,br,rfl,M7,jt,good,l8,k):=h;show{_,aA (dW 1 qS<|c8 hU)<|aA (eB bH 9 (Uc (eC<|pv 0)<|pk<|pv 0) (gL 2 qS)<|aP<|eB bH 9 (pk<|cm fh (pv 2) aO (λ_ _=>9)) (gL 3 qS)<|aP<|dP (PW.pt<|zw (cD mQ (cm U6 (pv 3) aO (λ_ _=>9)) cQ<|cM _)<|wo<|cD Ce (pv 3) (pv 1) 74) (aP<|fW<|jr bO cw cn iB (pv 1) 47) cP)<|aP<|b8<|pv 1,?_}
 show{56,λd sx=>?_};show Y2 (λQ h=>⟨_,rfl,h⟩) (M7.elim (λh=>.inl<|bg.of h) λh=>.inr<|bA.of h) (λi Z H2=>∃(x2 x3:Aan),Z=[some (-al),some (-d),x2,x3]/\aX H H2/\H2 d>.lst ((iQ<|eA<|br.take i).map V.str)) {none,none,9,bh sx _,aF} (λi Z H2 zq=>by let(__,__,__,sm,__):=zq;show sm) ?_ ?_
 ·ext i x Z H2 D1 hx ⟨x2,x3,rfl,sm,hd2⟩ m9 _;let(ta,ht,p,t,rfl,hp,ye):=Paired.at jt hx;have g:=good ta<|aB ht;have lf:=good.len i;show{_,rfl,_,_,_,_,rfl,rfl,bA.of<|sm _ _ hp,rfl,t,rfl,{_,bA.of<|sm _ _ ye},Qk
   (λj Z H3=>∃(x3:Aan),Z=[some (-al),some (-d),some (-p),x3]/\aX H H3/\H3 d>.lst ((iQ<|eA (br.take i)++ta.2.take j).map V.str)) {x3,9,sm,by rw[qe,eO];show hd2} (λj Z H3 _ zq=>by let(__,__,sm',__):=zq;show bA.of<|sm' _ _ ye) ?_ ?_}
  ·ext j y Z H3 hy ⟨x3,rfl,TF,sv⟩;let(z,hz,rfl):=k9 hy;have hzz:=QJ<|g.2.2.2 z<|aB hz;have air:=hzz.2.1;let(c,VJ):=KP hzz.1;have en:iQ (eA (br.take i)++ta.2.take (j+1))=step (iQ<|eA (br.take i)++ta.2.take j) z:=by rw[aY,hz,<-cH];show Xh _ _
   have lu:=DS<|eA (br.take i)++ta.2.take j;rw[aG,bo]at lu;rw[en];generalize iQ (eA (br.take i)++ta.2.take j)=ws at sv lu⊢;show{_,9,_,_,_,9,9,cy<|bB ∅,iF (j:=0) VJ,9,_,9,?_};rw[KQ hzz.1 VJ];show dQ (λc1=>?_) (λc1=>?_)
   ·show{_,9,_,9,d,_,9,.inl<|bg.of sv,9,Nk _,_,9,?_};rw[HX];show dQ 80 80
    ·have c2:z∉ws:=by simpa using c2
     show{_,9,.inl {9,_,bg.of sv},_,9,_,_,_,9,9,sv,75,?_};show{_,9,λb u e=>?_,?_};·rw[aI<|bx e sx];show TF _ _ e
     unfold step;rw[aF,aN c1,aL c2,aJ];rfl
    have c2:z∈ws:=by simpa using c2
    show{_,9,TF,?_};unfold step;rw[aN c1,aN c2];show sv
   show{_,9,TF,?_};unfold step;rw[aL c1];show sv
  ext Z H3 ⟨x3,rfl,TF,sv⟩;show m9 _ _ {_,_,9,TF,?_};rw[Si ht];rw[af,bj]at sv;show sv
 ext Z H2 ⟨x2,x3,rfl,sm,hd2⟩;rw[(aV jt),bj]at hd2;show{_,9,k d _ sm sx hd2}
end
inductive Fu(K:Frag)(vs:Aam)(H:Hp)(Q:VK)(_x3:XK):Prop
 |mk (f:cr) (most:Int) (_:vs=[-f,.int most]) (_:dc K f H) (_:1<=most) (_:most<=5) (_:∀(r:cr)(hz:Aaf)(br:R0)(H':Hp),dc K f H'->Ext f H H'->Dc H' (-r) hz br->1<=br.length->(br.length:Int)<=most->qz br->Q (-r) H')
section
variable{P:io}{w:i6}{K:Frag}{mg:Aab}{base:nw}
def ag0{i:Int}(h0:0<=i)(h1:i<07):∃n:Int,rO [V.int 0,.int 1,.int 1,.int 2,.int 2,.int 3,.int 4] i>.int n/\0<=n/\n<=4:=by
 have c:i=0\/i=1\/i=2\/i=3\/i=4\/i=5\/i=6:=by lia
 rcases c with rfl|rfl|rfl|rfl|rfl|rfl|rfl<;>show{_,9,7,7}
noncomputable def ki:Aaf:=["?x","?y","?z","?x1"]
inductive Qu1(K:Frag)(fe:cr)(most:Int)(H:Hp)(Z:L2.St)(H2:Hp):Prop
 |mk (pl al:cr) (ys:Aam) (br:R0) (_:Z=[some (-fe),some<|.int most,some (-pl),some (-al),none,none,none,none]) (_:al≠fe) (_:H2 al>.lst ys) (_:dJ H2 ys br) (_:qz br) (_:1<=br.length) (_:(br.length:Int)<=most) (_:dc K fe H2) (_:Ext fe H H2)
def jL:b7 [AaK,"_law_most","_law_pool",AaH,AaV,"_law_unknowns_here",AaZ,"_law_term"] [AaK,"_law_most"] (bI B2):=iM 59
def Uu{f:cr}{fd:re}(F:d6 K Abh Abh B2 f fd)(T:Txt K mg)(cE:dh P w K mg base 1 Abx [AaK,Aa4] (uK K))(ZG:dh P w K mg base 2 "_law_atom" [AaK,"_law_pool"] (OX K))(nE:dh P w K mg base 1 AbC [AaH] Gf):cN P w K mg base fZ 3 f fd [AaK,"_law_most"] (Fu K):=by
 show F.ok jL 98;let(fe,most,rfl,hF,hm1,Vx,k):=h;show cut 2 (Qu1 K fe most H)
  {_,aA (dW 4 jL<|c8 hU)<|aA (dW 5 jL<|cl nE hr 47)<|aA (eB bH 9 (j5 9 T.mZ<|bS<|cm eJ (c8<|eX aO<|eX aO<|eX aO<|eX aO<|kj aO aO aO) 55 (λ_ _=>9)) (gL 6 jL)<|aA (dW 07 jL<|cm eJ (c8<|b6 cQ cQ) 55 (λ_ _=>9))<|aA (dP (PW.pt<|zw (cD vY (bu dD 9 T.fJ bK<|bS<|pv 5) aO<|cM _)<|wo<|cD vY 55 aO<|cM _) (aP<|dW 07 jL<|cm eJ (pv 5) (cl cE hr<|b6 (pv 0)<|bu dD 9 T.fJ bK<|bS<|pv 5) (λ_ _=>9)) cP)<|aP<|fW<|jr bO cw cn iB (pv 4)<|bS<|pv 07)<|aP<|b8<|dS<|b6 (dH fq 9 T.jH 59<|bS<|pv 4)<|dH fq 9 T.jH 59 47,?_} (λt2 ht=>{_,aA (nZ (i:=2) jL.nd 9 (Or.inr 9)<|pB zo (c8<|eX cQ<|kj cQ cQ cQ) ub<|pV<|c9 ir aO 55)<|aA (vW (j:=3) jL.nd 9 9 9 (eF (fs:=[AaK,"_law_pool"]) (fr:=[0,2])) (j5 9 T.mZ<|bS<|c9 ir aO<|cl cE hr<|b6 (pv 0)<|pv 1) (λ_ _ _ _=>cl ZG hr<|b6 (pv 1)<|pv 2)) ht,λtl=>?_})
 ·ext Z H2 ⟨pl,al,ys,br,rfl,nal,M7,jt,good,l1,l2,iN,kG⟩;show{56,λt ht=>?_};have nt:=iN.lC ht;have s3:=bh ht<|.lst [];show{_,9,al,ys,br,9,.inl<|s3 _ _ M7,dJ.keep (dj.of s3) jt,good,8,λul H3 s4 nul Bf=>?_};have ju:=(iN.same s3).same s4;have L5:=(iN.same s3).lC nul;have iX:Ext fe H2 H3:=λb o _ h=>s4 _ _<|s3 _ _ h;have lus:(iQ<|eA br).length<=020:=by have a:=DS<|eA br;have b:=good.len br.length;rw[bj]at b;lia
  generalize iQ (eA br)=us at Bf lus;have lu:(us.map V.str).length=us.length:=af _;show{(by change 07<=dL;decide),λp hp=>?_};show{_,9,fe,07,9,ju.new hp _,7,7,λi5 H5 a0 a1 j8 lP=>?_};let(n,ev,n0,n4):=ag0 a0 a1;have Y6:=((Ext.refl fe H3).new hp _).trans lP;show{_,_,_,_,rfl,rfl,bg.of<|lP _ _ (ju.lC hp) aF,ev,_,rfl,by lia,by lia,yi
   (λj Z H6=>∃(x6 x7:Aan)(hs:Aaf),Z=[some (-fe),some<|.int most,some (-pl),some (-al),some (-t),some (-ul),x6,x7]/\dc K fe H6/\Ext fe H2 H6/\H6 ul>.lst (us.map V.str)/\H6 t>.lst (hs.map V.str)/\hs.length=j)
   {none,none,[],9,j8,iX.trans Y6,Y6 _ _ L5 Bf,Y6 _ _ nt<|s4 _ _<|aF (H:=H2) (a:=t) (o:=.lst []),9} ?_ ?_}
  ·ext j Z H6 hj ⟨x6,x7,hs,rfl,oj,kW,aeC,ML,hl⟩;show{31,λq hq=>?_};show{_,9,fe,2,9,oj.new hq _,7,7,λ_ H7 b0 b1 mN lO=>?_};let(y,hy,ev7):=pj (zs:=["a","zz"]) b0 b1;have CS:=((Ext.refl fe H6).new hq _).trans lO;show{_,_,_,_,9,9,bg.of<|lO _ _ (oj.lC hq) aF,ev7,?_};have RT:=CS _ _ L5 aeC;have EW:=CS _ _ nt ML;have nx:∀(z:i9)(H8:Hp)(v6:V),dc K fe H8->Ext fe H2 H8->H8 ul>.lst (us.map V.str)->∃(x6 x7:Aan)(vG:Aaf),[some<|V.ref fe,some<|.int most,some (-pl),some (-al),some (-t),some (-ul),some v6,some<|.str z]=[some<|V.ref fe,some<|.int most,some (-pl),some (-al),some (-t),some (-ul),x6,x7]/\dc K fe (upd H8 t<|.lst<|hs.map V.str++[.str z])/\Ext fe H2 (upd H8 t<|.lst<|hs.map V.str++[.str z])/\upd H8 t (.lst<|hs.map V.str++[.str z]) ul>.lst (us.map V.str)/\upd H8 t (.lst<|hs.map V.str++[.str z]) t>.lst (vG.map V.str)/\vG.length=j+1:=λz H8 v6 sy iW RS=>by let(x,y',z',hf):=sy;show{_,_,hs++[z],9,{x,y',z',aI nt.symm▸hf},iW.own ht _,by rw[aI (λe=>by rw[e,aF]at nul;cases nul)];show RS,by rw[aF,aJ];rfl,by rw[aG,hl];rfl}
   have lh:(hs.map V.str).length<dL:=by rw[af];show bB ∅
   show{_,9,_,_,9,.inl {_,bg.of RT,9},_,_,9,9,_,9,dQ (λcu=>?_) (λc=>{_,9,.inl {9,_,bg.of EW},_,9,_,_,_,9,9,EW,lh,nx y H7 _ mN (kW.trans CS) RT})};show{_,9,fe,6,9,mN,7,7,λi8 H8 c0 c1 sy iW=>{_,_,9,9,_,9,dQ 93 93}};·have RS:=iW _ _ L5 RT;have u1:=bz cu;show{_,9,_,9,_,9,_,_,9,.inl {_,bg.of RS,9},fe,_,9,sy,8,8,λi9 H9 d0 d1 VR E9=>?_};let(z,__,ev9):=pj (zs:=us) d0 ∅;have aeB:=E9 _ _ L5 RS;have ht9:=E9 _ _ nt<|iW _ _ nt EW;show{_,_,_,_,9,9,bg.of aeB,ev9,_,9,.inl {9,_,bg.of ht9},_,9,_,_,_,9,9,ht9,lh,nx z H9 _ VR (((kW.trans CS).trans iW).trans E9) aeB}
   have Vl:=iW _ _ nt EW;show{_,9,.inl {9,_,bg.of Vl},_,9,_,_,_,9,9,Vl,lh,nx y H8 _ sy ((kW.trans CS).trans iW)<|iW _ _ L5 RT}
  ext Z H6 ⟨x6,x7,hs,rfl,oj,kW,aeC,ML,hl⟩;show{_,9,t,_,9,.inl {bg.of ML,λtp tJ=>?_}};have s7:=bh tJ<|.tup<|hs.map V.str;show{_,9,al,_,9,.inl {bg.of<|s7 _ _<|kW _ _ nal M7,λta wY=>?_}};have s8:=bh wY<|.tup ys;show{31,λqa Vn=>?_};have s9:=bh Vn<|.tup [-tp,-ta];have Ln:=(s7.trans s8).trans s9;show k qa hs br _ (oj.same Ln) (λb o n h=>Ln _ _<|kW b o n<|kG b o n h) {qa,tp,ta,ys,9,aF,s9 _ _<|s8 _ _ aF,s9 _ _ aF,dJ.keep ((iN.iR kW).trans<|dj.of Ln) jt} l1 l2 good
 show{130,λp hp=>zE ?_};show{_,9,fe,3,9,hF.new hp _,7,7,λi1 H1 a0 a1 E4 Bn=>{_,_,9,9,_,9,_,_,9,bg.of<|Bn _ _ (hF.lC hp) aF,λpl iu=>?_}};have ec:lR (ki.map V.str) none (some<|2+i1)=(ki.take (2+i1).toNat).map V.str:=by rw[show 2+i1=(((2+i1).toNat:Nat):Int) by lia,NC,Bt];rfl
 have EL:=E4.lC iu;have iN:=E4.new iu<|.lst<|lR (ki.map V.str) none<|some<|2+i1;have kG:Ext fe H (upd H1 pl<|.lst<|lR (ki.map V.str) none<|some<|2+i1):=(((Ext.refl fe H).new hp _).trans Bn).new iu _;have R7:upd H1 pl (.lst<|lR (ki.map V.str) none<|some<|2+i1) pl>.lst ((ki.take (2+i1).toNat).map V.str):=by rw[aF,ec]
 have lp:(ki.take (2+i1).toNat).length=min (2+i1).toNat 4:=bo;have vK:∀z∈ki.take (2+i1).toNat,z∈mq:=λz hz=>(by decide+kernel:∀y∈ki,y∈mq) z<|dE hz;have el:ki.map V.str=[V.str "?x",.str "?y",.str "?z",.str "?x1"]:=9;rw[el]at iN kG R7;generalize upd H1 pl (.lst<|lR [V.str "?x",.str "?y",.str "?z",.str "?x1"] none<|some<|2+i1)=H2 at iN kG R7⊢;generalize ki.take (2+i1).toNat=us at R7 lp vK;show{_,9,_,9,fe,most,9,iN,8,8,λi3 H3 b0 b1 ju iX=>{_,_,rfl,rfl,_,rfl,by lia,by lia,λj m ys H4=>j<=(1+i3).toNat/\m=(1+i3).toNat -j/\dc K fe H4/\Ext fe H2 H4/\∃br:R0,dJ H4 ys br/\br.length=j/\qz br,{_,aQ _,9,ju,iX,[],.nil,9,λa h=>by cases h},?_}};ext j m ys H4 ⟨hj,rfl,ji,gP,br,jt,hla,hg⟩;have ly:48=j:=hla▸aV jt;by_cases cb:j<(1+i3).toNat
 ·show .inr {cb,by rw[ly];show bB ∅,?_};ext v H5 ⟨rfl,rfl⟩;show{_,9,_,9,fe,pl,us,9,ji,EL,gP _ _ EL R7,8,8,vK,λr a H6 oj kW hA ha1 rL P0 qF=>?_};show{(1+i3).toNat -(j+1),8,cb,9,oj,gP.trans kW,br++[a],Paired.Gk (dJ.keep (ji.iR kW) jt) hA,by rw[aG,hla];rfl,26};rcases aE.mp hb with q|q;·show hg b q
  rw[ar.mp q];show⟨ha1,rL,P0,qF⟩
 show .inl {by change(1+i3).toNat<=j;lia,by rw[ly];show cy<|bB ∅,λl hl=>?_};show tl _ _ {pl,l,ys,br,9,ji.lC hl,aF,dJ.keep ((dj.refl H4).new hl _) jt,hg,8,8,ji.new hl _,(kG.trans gP).new hl _}
def gD(g:List (i9×i9)):List (Key×V):=g.map λp=>(Sum.inr p.1,V.str p.2)
def Mg(g:List (i9×i9))(z:i9):Option i9:=(g.find? λp=>decide (p.1=z)).map (·.2)
def kM(g:List (i9×i9))(z:i9):i9:=(Mg g z).getD z
def yH(g:List (i9×i9))(u t:i9):List (i9×i9):=if(g.any λp=>decide (p.1=u))=true then g.map (λp=>if p.1=u then(p.1,t)else p)else g++[(u,t)]
theorem Hy(z:i9):∀g:List (i9×i9),jo (gD g) (Sum.inr z:Key)=(Mg g z).map V.str
 |[]=>rfl
 |p::r=>by
  unfold jo Mg at*;change Option.map _ (List.find? _<|(Sum.inr p.1,V.str p.2)::gD r)=_;rw[jB,jB];by_cases h:p.1=z;·rw[bD h,bD (show(Sum.inr p.1:Key)=Sum.inr z from dX _ h)];rfl
  rw[bQ h,bQ (show ¬(Sum.inr p.1:Key)=Sum.inr z fromλe=>h (by injection e))];show(Hy z r)
def afk(u:i9)(g:List (i9×i9)):((gD g).any λkv=>decide (kv.1=(Sum.inr u:Key)))=g.any λp=>decide (p.1=u):=by
 unfold gD;rw[sW];congr 1;funext p;change decide ((Sum.inr p.1:Key)=Sum.inr u)=_;by_cases h:p.1=u;·rw[bD h,bD (show(Sum.inr p.1:Key)=Sum.inr u from dX _ h)]
 rw[bQ h,bQ (show ¬(Sum.inr p.1:Key)=Sum.inr u fromλe=>h (by injection e))]
def Pd(g:List (i9×i9))(u t:i9):putK (gD g) (Sum.inr u:Key) (V.str t)=gD (yH g u t):=by
 unfold putK yH;rw[afk];by_cases c:(g.any λp=>decide (p.1=u))=true
 ·rw[aN c,aN c];unfold gD;rw[dF,dF];show dO λp _=>?_;change(if(Sum.inr p.1:Key)=Sum.inr u then((Sum.inr p.1:Key),V.str t)else(Sum.inr p.1,V.str p.2))=(Sum.inr (if p.1=u then(p.1,t)else p).1,V.str (if p.1=u then(p.1,t)else p).2);by_cases h:p.1=u;·rw[aN<|dX _ h,aN h]
  rw[aL (λe=>h (by injection e)),aL h]
 rw[aL c,aL c];unfold gD;rw[aJ];rfl
def Lz(g:List (i9×i9))(u t:i9):(yH g u t).length<=g.length+1:=by
 unfold yH;split;·rw[af];lia
 rw[aG];show aw _
def T6{g:List (i9×i9)}{u t:i9}{l:Aaf}(h:∀p∈g,p.2∈l)(ht:t∈l):∀p∈yH g u t,p.2∈l:=λp hp=>by
 unfold yH at hp;split at hp
 ·let(q,hq,rfl):=aD.mp hp;split;·show ht
  show h q hq
 rcases aE.mp hp with hp|hp;·show h p hp
 rw[ar.mp hp];show ht
def ab7{g:List (i9×i9)}{z:i9}{l:Aaf}(h:∀p∈g,p.2∈l)(hz:z∈l):kM g z∈l:=by
 unfold kM Mg;cases e:g.find? λp=>decide (p.1=z)with
 |none=>show hz
 |some p=>show h p<|jg e
inductive QR(vs:Aam)(H:Hp)(Q:VK)(_x3:XK):Prop
 |mk (t d:cr) (ts:Aaf) (g:List (i9×i9)) (_:vs=[-t,-d]) (_:H t>.tup (ts.map V.str)) (_:H d>.dK (gD g)) (_:ts.length<=100) (_:∀(r:cr)(H':Hp),aX H H'->H' r>.tup ((ts.map<|kM g).map V.str)->Q (-r) H')
def QW:b7 [Abz,AaP] [Abz,AaP] (bI IM):=iM 59
def adU{f:cr}{fd:re}(F:d6 K AaY AaY IM f fd)(T:Txt K mg):cN P w K mg base fZ 1 f fd [Abz,AaP] QR:=by
 show F.ok QW 98;let(t,d,ts,g,rfl,ht,hd,hl,k):=h;show{_,aP<|b8<|dH fq 9 T.jH 59<|bS<|lY 9 (eF (fs:=[AaP]) (fr:=[1])) (pk<|pv 0) (λ_ _ _ _=>As (pX hr) (pv 1) (pv 0) (pv 0) aao),?_};show{_,9,t,9,{_,bA.of ht},xi (xs:=ts.map V.str) (λi ys H2=>H2=H/\i<=52/\ys=((ts.take i).map<|kM g).map V.str) 75 {9,aQ _,9} ?_ ?_ ?_};·ext i ys H2 hi ⟨rfl,_,rfl⟩;show{bA.of ht,?_};rw[af,af,bo];lia
 ·ext i x ys H2 N hc ⟨rfl,hi,rfl⟩ hN;let(z,hz,rfl):=k9 hc;have cb:=(aq.mp hz).1;show{_,9,d,9,.inl {_,.inl hd},_,9,_,9,_,jQ.k (k:=Sum.inr z) hd,?_};have e:(jo (gD g) (Sum.inr z:Key)).getD (.str z)=.str (kM g z):=by rw[Hy];unfold kM;cases Mg g z<;>rfl
  rw[e];show hN _ _ {9,cb,?_};rw[aY,hz,aJ,aJ];rfl
 ext ys H2 ⟨rfl,_,rfl⟩ l tK;rw[af,bj];show{l,_,9,.inl {bg.of aF,λp hp=>k p _ ((bh tK _).trans<|bh hp _) aF}}
end
structure Du(P:io)(w:i6)(K:Frag)(mg:Aab)(base:nw):Prop where
 AF:dh P w K mg base 2 "is_unknown" ["thing"] Z4
section
variable{P:io}{w:i6}{K:Frag}{mg:Aab}{base:nw}
def gK(g:du):List (Key×V):=g.map λp=>(Sum.inr p.1,.str p.2)
def rU(g:du)(u:i9):jo (gK g) (Sum.inr u:Key)=(aC.get g u).map V.str:=by
 unfold gK aC.get
 induction g with
 |nil=>rfl
 |cons p r ih=>
  by_cases c:p.1=u;·rw[a9,tX<|dX Sum.inr c,iJ (p:=λp:i9×i9=>decide (p.1=u))<|bD c];rfl
  rw[a9,oV (λe=>c (by injection e)),iK (p:=λp:i9×i9=>decide (p.1=u)) (λd=>c<|bz d)];show ih
def T5{g:du}{u v:i9}(n:aC.get g u=none):putK (gK g) (Sum.inr u) (.str v)=gK (g++[(u,v)]):=by rw[wK _ (by rw[rU,n];rfl)];unfold gK;rw[aJ];rfl
inductive Fw(K:Frag)(vs:Aam)(H:Hp)(Q:VK)(_x3:XK):Prop
 |mk (d t a:cr) (g:du) (ts as:Aaf) (_:vs=[-d,-t,-a]) (_:H d>.dK (gK g)) (_:g.length<=1000) (_:(keys g).Nodup) (_:bA K H t (ts.map V.str)) (_:bA K H a (as.map V.str)) (_:ts.length<=1000) (_:as.length<=1000) (_:(∀z∈ts,z.length<=1000)) (_:(∀H',aX H H'->aC.fit bF g ts as=none->Q .cU H')) (_:∀p g' H',aX H H'->H p=none->H' p>.dK (gK g')->aC.fit bF g ts as>g'->Q (-p) H')
def uN:b7 [Aci,"terms","aim","longer","term","aimed","meant"] [Aci,"terms","aim"] (bI Lm):=iM 59
theorem zU:∀{ts as:Aaf}{g:du},52≠as.length->aC.fit bF g ts as=none
 |[],[],_,h=>absurd rfl h
 |[],_::_,_,_=>rfl
 |_::_,[],_,_=>rfl
 |t::ts,a::as,g,h=>by
  have h':52≠as.length:=λe=>h (by rw[bJ,bJ,e]);unfold aC.fit;split
  ·split
   ·split;·show zU h'
    rfl
   show zU h'
  split;·show zU h'
  rfl
def Uv{f:cr}{fd:re}(F:d6 K "fitted" "fitted" Lm f fd)(T:Txt K mg)(D:Du P w K mg base):cN P w K mg base fZ 3 f fd [Aci,"terms","aim"] (Fw K):=by
 show F.ok uN 98;let(d,t,a,g,ts,as,rfl,hd,lg,nd,ht,ha,lt,la,hz,k1,k2):=h;show{_,aA (dP (cD uz (bu dD 9 T.fJ bK 79) (bu dD 9 T.fJ bK<|bS<|pv 2)<|cM _) (aP<|b8 j6) cP)<|aA (dW 3 uN<|dH Hl 9 T.zH 59 78)<|aA (eB bH 9 (abC 9 T.aam<|b6 (pv 1)<|pv 2) (lA 9<|cJ (gL 4 uN)<|cJ (gL 5 uN) ic)<|aA (dW 6 uN<|wM (kF<|cl D.AF hr<|bS<|pv 4) (jr dM eK ig xX (pv 3)<|b6 (pv 4)<|pv 5)<|pv 4)<|aP<|dP (cD uz (pv 6) (pv 5)<|cM _) (aP<|b8 j6) cP)<|aP<|b8<|pv 3,?_}
 have Jl:(ts.map V.str).length=52:=af _;have las:(as.map V.str).length=as.length:=af _;show{_,9,_,_,9,.inr ⟨_,ht,rfl⟩,_,9,_,_,9,.inr ⟨_,ha,rfl⟩,9,_,9,?_};show dQ 93 93;·show k1 H (aX.refl H) (zU λe=>?_);rw[Jl,las,e]at c;simp at c
 have le:52=as.length:=by have:¬¬(V.int (52:Int)=V.int (as.length:Int)):=λh=>c<|↑h;have:=jJ.mp this;injection this with this;lia
 show{_,9,d,gK g,9,.inl hd,?_}
 intros p hp H1 s1 vL
 show{_,rfl,_,rfl,t,a,rfl,{_,dR ht s1},{_,dR ha s1},Y1 (ys:=as.map V.str)
  (λi Z H2=>∃(x4 x5 x6:Aan)(gi:du),Z=[some (-d),some (-t),some (-a),some (-p),x4,x5,x6]/\aX H H2/\H2 p>.dK (gK gi)/\(keys gi).Nodup/\gi.length<=g.length+i/\aC.fit bF g ts as=aC.fit bF gi (ts.drop i) (as.drop i))
  (by rw[Jl,las,le]) {_,_,_,g,9,s1,vL,nd,aw _,9} ?_ ?_ ?_}
 ·ext i Z H2 hi ⟨x4,x5,x6,gi,rfl,s2,_⟩;show{dR ht s2,dR ha s2}
 ·ext i x y q Z H2 hx hy ⟨x4,x5,x6,gi,rfl,s2,m8,tG,lg2,ef⟩ hq;rw[aW]at hx hy;let(z,GU,rfl):=bw.mp hx;let(b,MZ,rfl):=bw.mp hy;have li:=(aq.mp GU).1;have dz:ts.drop i=z::ts.drop (i+1):=by rw[eE li];rw[au li]at GU;cases GU;rfl
  have db:as.drop i=b::as.drop (i+1):=by
   have Pu:i<as.length:=by lia
   rw[eE Pu];rw[au Pu]at MZ;cases MZ;rfl
  rw[dz,db]at ef;have s3:aX H2 (upd H2 q<|.tup [.str z,.str b]):=bh hq _;have mM:=s3 _ _ m8;show{q,_,9,bA.of aF,9,_,_,9,_,_,9,9,?_};show{_,9,z,9,hz z<|aB GU,λH4 s4=>{_,9,?_}};have mL:=s2.trans<|s3.trans s4;have MP:=s4 _ _ mM;have lgk:(gK gi).length=gi.length:=af _;show dQ (λc1=>?_) (λc1=>?_)
  ·have c1:=c1;show{_,9,.inr<|.inr<|.inl {9,.inl ⟨_,MP⟩},_,9,_,9,p,Sum.inr z,.str b,gK gi,9,9,MP,by rw[lgk];show bf (show gi.length<3000 by lia) (by rw[bW];decide),λv hv=>?_,λhv=>?_}
   ·rw[rU]at hv;let(m,hm,rfl):=bw.mp hv;show{_,9,_,9,9,_,9,?_};show dQ 80 80;·show k1 H4 mL ?_;rw[ef];unfold aC.fit;rw[aN c1,hm];change(if m=b then _ else none)=none;rw[aL (λe=>by rw[e]at c2;simp at c2)]
    have e2:m=b:=by have:¬¬(V.str m=V.str b):=λh=>c2<|↑h;have:=jJ.mp this;injection this
    show{_,_,_,gi,9,mL,MP,tG,8,?_};rw[ef]
    conv=>lhs;unfold aC.fit
    rw[aN c1,hm];change(if m=b then _ else none)=_;rw[aN e2]
   rw[rU]at hv;have hm:=qL.mp hv;rw[T5 hm];show{_,9,_,9,9,_,9,?_};show dQ 80 80;·simp at c2
   show{_,_,_,gi++[(z,b)],9,λb' u h=>?_,aF,xV tG hm,by rw[aG];change gi.length+1<=_;lia,?_};·rw[aI<|bx h hp];show mL _ _ h
   rw[ef]
   conv=>lhs;unfold aC.fit
   rw[aN c1,hm]
  have c1:=c1;show{_,9,?_};show{_,9,_,9,9,_,9,?_};show dQ 80 80;·show k1 H4 mL ?_;rw[ef];unfold aC.fit;rw[aL c1,aL (λe=>by rw[e]at c2;simp at c2)]
  have e2:z=b:=by have:¬¬(V.str z=V.str b):=λh=>c2<|↑h;have:=jJ.mp this;injection this
  show{_,_,_,gi,9,mL,MP,tG,8,?_};rw[ef]
  conv=>lhs;unfold aC.fit
  rw[aL c1,aN e2]
 ext Z H2 ⟨x4,x5,x6,gi,rfl,s2,m8,tG,lg2,ef⟩;rw[Jl,jW<|aw _,jW ∅]at ef;show{_,9,k2 p gi H2 s2 hp m8 ef}
structure Df(P:io)(w:i6)(K:Frag)(mg:Aab)(base:nw):Prop extends Du P w K mg base where
 ae4:dh P w K mg base 3 "fitted" [Aci,"terms","aim"] (Fw K)
def XO{g:du}{u v:i9}(nd:(keys g).Nodup)(h:aC.get g u>v):putK (gK g) (Sum.inr u) (.str v)=gK g:=by
 unfold putK;rw[Fq,aN (by rw[rU,h];rfl)];unfold gK;rw[dF];show dO λp hp=>?_;change(if(Sum.inr p.1:Key)=Sum.inr u then((Sum.inr p.1:Key),V.str v)else(Sum.inr p.1,V.str p.2))=(Sum.inr p.1,V.str p.2);by_cases c:p.1=u;·rw[aN<|dX Sum.inr c];have:=aC.get_mem nd hp;rw[c,h]at this;rw[cB this]
 rw[aL (λe=>c (by injection e))]
def ff(g:du)(a b:i9×Aaf):Option du:=if a.1=b.1 then aC.fit bF g a.2 b.2 else none
inductive Z5(K:Frag)(vs:Aam)(H:Hp)(Q:VK)(_x3:XK):Prop
 |mk (u v:V) (d:cr) (g:du) (a b:i9×Aaf) (_:vs=[u,v,-d]) (_:Ad H u a) (_:Ae K H v b) (_:H d>.dK (gK g)) (_:g.length<=1000) (_:(keys g).Nodup) (_:a.2.length<=1000) (_:b.2.length<=1000) (_:(∀z∈a.2,ui z=true/\z.length<=100)) (_:(∀H',aX H H'->ff g a b=none->Q .cU H')) (_:∀p g' H',aX H H'->H p=none->H' p>.dK (gK g')->ff g a b>g'->Q (-p) H')
def An:b7 [AaG,"_law_goal",AaP,"_law_more",AaZ,"_law_term"] [AaG,"_law_goal",AaP] (bI O5):=iM 59
def adT{f:cr}{fd:re}(F:d6 K "_law_put" "_law_put" O5 f fd)(T:Txt K mg):cN P w K mg base fZ 1 f fd [AaG,"_law_goal",AaP] (Z5 K):=by
 show F.ok An 98;obtain⟨u,v,d,g,⟨na,ts⟩,⟨nb,as⟩,rfl,⟨ap,t,rfl,w4,ht⟩,⟨bp,a,rfl,P9,ha⟩,hd,lg,nd,lt,la,hz,k1,k2⟩:=h;have hu:=pX hr;have ht:H t>.tup (ts.map V.str):=ht;have la:as.length<=1000:=la;have Jl:(ts.map V.str).length=52:=af _;have las:(as.map V.str).length=as.length:=af _;show cut 1 (λZ H2=>Z=[some (-ap),some (-bp),some (-d),none,none,none]/\H2=H/\na=nb/\52=as.length)
  {_,aA (dW 3 An<|dH Hl 9 T.zH 59<|bS<|pv 2)<|aA (eB bH 9 (j5 9 T.mZ<|bS<|bu dD 9 T.fJ bK<|bS<|cm fh (pv 0) aO (λ_ _=>9)) (gL 4 An)<|aA (dW 5 An<|cm fh (cm fh (pv 0) aO (λ_ _=>9)) (pv 4) (λ_ _=>9))<|aP<|dP (cD uz (cm U6 (pv 5) aO (λ_ _=>9)) cQ<|cM _) (aP<|dP (cD uz (pv 5) (cm fh (cm fh (pv 1) aO (λ_ _=>9)) (pv 4) (λ_ _=>9))<|cM _) (aP<|b8 j6) cP)<|aP<|dP (PW.pt<|zw (Ca<|Uj hu (pv 5)<|pv 3)<|wo<|cD uz (rJ hu (pv 3) (pv 5) (λ_ _=>9)) (cm fh (cm fh (pv 1) aO (λ_ _=>9)) (pv 4) (λ_ _=>9))<|cM _) (aP<|b8 j6)<|aP<|wq hu (pv 3) (pv 5) (cm fh (cm fh (pv 1) aO (λ_ _=>9)) (pv 4) (λ_ _=>9)) 9)<|aP<|b8<|pv 3,?_} (λt2 h2=>{_,aA (dP (PW.pt<|DQ (cD uz (cm fh (pv 0) aO (λ_ _=>9)) (cm fh (pv 1) aO (λ_ _=>9))<|cM _)<|zv<|cD uz (bu dD 9 T.fJ bK<|bS<|cm fh (pv 0) aO (λ_ _=>9)) (bu dD 9 T.fJ bK<|bS<|cm fh (pv 1) aO (λ_ _=>9))<|cM _) (aP<|b8 j6) cP) h2,λtl=>?_})
 ·ext Z H2 ⟨rfl,rfl,en,le⟩;have ep:ff g (na,ts) (nb,as)=aC.fit bF g ts as:=aN en;rw[ep]at k1 k2;show{_,9,d,gK g,9,.inl hd,?_}
  intros p hp H1 s1 vL
  show{_,rfl,_,_,_,_,rfl,rfl,bA.of<|s1 _ _ w4,rfl,_,_,rfl,.inr {_,bA.of<|s1 _ _ ht,9},_,rfl,by lia,by lia,yi
   (λi Z H3=>∃(x4 x5:Aan)(gi:du),Z=[some (-ap),some (-bp),some (-d),some (-p),x4,x5]/\aX H2 H3/\H3 p>.dK (gK gi)/\(keys gi).Nodup/\gi.length<=g.length+i/\aC.fit bF g ts as=aC.fit bF gi (ts.drop i) (as.drop i))
   {_,_,g,9,s1,vL,nd,aw _,9} ?_ ?_}
  ·ext i Z H3 hi ⟨x4,x5,gi,rfl,s2,m8,tG,lg2,ef⟩;have li:i<52:=by lia
   have Pu:i<as.length:=by lia
   obtain⟨z,GU⟩:∃z,ts[i]?>z:={_,au li};obtain⟨b,MZ⟩:∃z,as[i]?>z:={_,au Pu};have dz:ts.drop i=z::ts.drop (i+1):=by rw[eE li];rw[au li]at GU;cases GU;rfl
   have db:as.drop i=b::as.drop (i+1):=by rw[eE Pu];rw[au Pu]at MZ;cases MZ;rfl
   rw[dz,db]at ef;have evz:rO (ts.map V.str) (0+(i:Int))>.str z:=by rw[pQ];show iF (by rw[aW,GU];rfl)
   have evb:rO (as.map V.str) (0+(i:Int))>.str b:=by rw[pQ];show iF (by rw[aW,MZ];rfl)
   show{_,9,_,_,_,_,9,9,bA.of<|s2 _ _ w4,9,_,9,_,_,_,_,9,9,bA.of<|s2 _ _ ht,evz,?_};let(zT,zl):=hz z<|aB GU;let(c,VJ):=KP zT;show{_,9,_,_,_,9,9,cy<|bB ∅,iF VJ,9,_,9,?_};rw[KQ zT VJ];have lgk:(gK gi).length=gi.length:=af _;have small:(gK gi).length<dL:=by rw[lgk];show bf (show gi.length<3000 by lia) (by rw[bW];decide)
   show dQ (λc1=>?_) (λc1=>?_)
   ·have c1:¬bF z=true:=by simpa using c1
    show{_,9,_,9,_,_,_,_,9,9,dR P9 s2,9,_,9,_,_,_,_,9,9,dR ha s2,evb,9,_,9,?_};show dQ 80 80;·show k1 H3 s2 ?_;rw[ef];unfold aC.fit;rw[aL c1,aL (λe=>by rw[e]at c2;simp at c2)]
    have e2:z=b:=by have:¬¬(V.str z=V.str b):=λh=>c2<|↑h;have:=jJ.mp this;injection this
    show{_,_,gi,9,s2,m8,tG,8,?_};rw[ef]
    conv=>lhs;unfold aC.fit
    rw[aL c1,aN e2]
   have c1:bF z=true:=by simpa using c1
   have dg:=jQ.k (k:=Sum.inr z) m8;have ev:=rU gi z;show{_,9,_,9,p,_,9,dg,_,9,?_};have own:∀x:HO,aX H2 (upd H3 p x):=λx b' u h=>by rw[aI<|bx h hp];show s2 _ _ h
   cases hm:aC.get gi z with
   |some m=>
    rw[hm]at ev;rw[ev]at dg;show dQ 24 (λc=>absurd (by rw[ev];rfl) c);show{_,9,_,9,p,_,9,dg,_,9,_,_,_,_,9,9,dR P9 s2,9,_,9,_,_,_,_,9,9,dR ha s2,evb,9,_,9,?_};show dQ 80 80;·show k1 H3 s2 ?_;rw[ef];unfold aC.fit;rw[aN c1,hm];change(if m=b then _ else none)=none;rw[aL (λe=>by rw[e]at c2;simp at c2)]
    have e2:m=b:=by have:¬¬(V.str m=V.str b):=λh=>c2<|↑h;have:=jJ.mp this;injection this
    show{_,9,_,_,_,_,9,9,dR P9 s2,9,_,9,_,_,_,_,9,9,dR ha s2,evb,_,9,_,9,p,_,9,xB.k (k:=Sum.inr z) m8 small,?_};rw[XO tG (by rw[hm,e2])];show{_,_,gi,9,own _,aF,tG,8,?_};rw[ef]
    conv=>lhs;unfold aC.fit
    rw[aN c1,hm];change(if m=b then _ else none)=_;rw[aN e2]
   |none=>
    rw[hm]at ev;show dQ (λc=>absurd c (by rw[ev];simp)) 24;show{_,9,_,_,_,_,9,9,dR P9 s2,9,_,9,_,_,_,_,9,9,dR ha s2,evb,_,9,_,9,p,_,9,xB.k (k:=Sum.inr z) m8 small,?_};rw[T5 hm];show{_,_,gi++[(z,b)],9,own _,aF,xV tG hm,by rw[aG];change gi.length+1<=_;lia,?_};rw[ef]
    conv=>lhs;unfold aC.fit
    rw[aN c1,hm]
  ext Z H3 ⟨x4,x5,gi,rfl,s2,m8,tG,lg2,ef⟩;rw[jW ∅,jW ∅]at ef;show{_,9,k2 p gi H3 s2 hp m8 ef}
 show{_,9,_,_,_,_,9,9,bA.of w4,9,_,9,_,_,_,_,9,9,P9,9,9,_,9,?_};show dQ 93 93;·show k1 H (aX.refl H) (aL λe=>?_);rw[show na=nb from e]at c;simp at c
 have en:na=nb:=by have:¬¬(V.str na=V.str nb):=λh=>c<|↑h;have:=jJ.mp this;injection this
 show{_,9,_,_,_,_,9,9,bA.of w4,9,_,_,9,.inr {_,bA.of ht,9},_,9,_,_,_,_,9,9,P9,9,_,_,9,.inr ⟨_,ha,rfl⟩,9,_,9,?_};show dQ 93 93;·show k1 H (aX.refl H)<|(aN en).trans (zU λe=>?_);rw[Jl,las,e]at c;simp at c
 show tl _ _ {9,9,en,?_};have:¬¬(V.int (52:Int)=V.int (as.length:Int)):=λh=>c<|↑h;have:=jJ.mp this;injection this with this;lia
end
end nL
namespace L2
open PySem PySem.Spec PyProof.Rows PySem.W
section
variable{X:Cx}{bi:Aaa}{Z:St}{H:Hp}{s:f8}
def TyS(K:Frag)(H:Hp)(x:V)(t:i5):Prop:=rj K H x t\/∃a xs,x=-a/\t=.type "tuple"/\bA K H a xs
def GP{x:V}{u t:i5}(I:Inv X bi Z H s)(rx:RelV x u)(ty:TyS X.K H x t):∃G:nw->Prop,KitX X.K u t G/\G s.heap/\u≠ .builtin "__main__.__loader__#opaque":=by
 rcases ty with ty|⟨a,xs,rfl,rfl,hq⟩;rotate_left;·cases(show u=Value.ref a from rx);obtain⟨aM,r',⟨o,h1,h2,_⟩,_⟩:=I.tuple hq;show{_,kitx_tuple,⟨o,h1,h2⟩,83}
 show U0 I rx ty
theorem Kv:∀{ns:List String}{us:Aae},Vals (ns.map V.ty) us->us=ns.map Value.type
 |[],_,.nil=>rfl
 |c::r,_,.cons e h=>by rw[Kv h];rw[e];rfl
def NJ:fD X 120 (λxs H Q=>∃(x:V)(t:i5)(p:cr)(ns:List String)(b:Bool),xs=[x,-p]/\TyS X.K H x t/\H p>.tup (ns.map V.ty)/\kitAny X.K t (ns.map Value.type)>b/\Q (.bl b) H):=by ext bi s Z H xs us Q I r h;let(x,t,p,ns,b,rfl,ty,hp,hb,q):=h;let(v,w',rfl,rv,pf):=uw r;cases pf;let(G,kx,g,hx):=GP I rv ty;obtain⟨aM,r',⟨⟨c0,d0,da0,s0⟩,e1,e2,n,e3⟩,_⟩:=I.tuple<|bA.of hp;subst e2 e3;rw[Kv r']at e1;show kia_tup kx I.lK g e1 hb hx λtk=>{.bl b,H,I.tok tk,9,q}
def xk:fD X 120 (λxs H Q=>∃(x:V)(t:i5)(n:String)(b:Bool),xs=[x,.ty n]/\TyS X.K H x t/\kitOne X.K t (.type n)>b/\Q (.bl b) H):=by ext bi s Z H xs us Q I r h;let(x,t,n,b,rfl,ty,hb,q):=h;let(v,w',rfl,rv,pf):=uw r;cases pf;let(G,kx,g,hx):=GP I rv ty;show kia_one kx I.lK g hb hx λtk=>{.bl b,H,I.tok tk,9,q}
end
end L2
namespace L2
open PySem PySem.Spec PyProof.Rows Br
section
variable{P:io}{w:i6}
def JH(n:Nat){v:i5}(hv:AT v=true):ofAClassStatement n v=pure false:=by
 cases v with
 |ref a=>simp[AT]at hv
 |_=>cases n<;>first|rfl|(unfold ofAClassStatement;rfl)
def L7:AT .none=true:=9
mutual
theorem Qt:∀(k:NK)(n:Nat)(A:ss)(E:Aac)(s:f8)(v:i5)(Q:Bool->f8->Prop),kq P w s.heap k v->NK.deep k<=n->Q false s->f' 97 A (ofAClassStatement n v) Q E s
 | .cU,n=>λA E s v Q r _ q=>by cases r;rw[JH n L7];show ah q
 | .key k,n=>λA E s v Q r _ q=>by
  cases r with
  |key h=>
   rw[JH n<|(bZ P w).byValue _ _ h];show ah q
 | .tup ks,0=>λA E s v Q r hn q=>by rw[NK.deep]at hn;show absurd hn ∅
 | .tup ks,n+1=>λA E s v Q r hn q=>by
  cases r with
  |@tup _ a o items m ho hc hd hi=>
   rw[NK.deep]at hn;have hT:s.TypeIs (-a) "tuple":=⟨o,ho,hc⟩;unfold ofAClassStatement;show ae<|gX hT ?_;dsimp only;rw[aN 7];show ae 92;simp only[vA,dq,gh];show ae<|cY ho hd ?_;show ae ?_;change f' _ _ (forIn items _ _) _ _ s;rw[<-ke];show iP _ (λrest r s'=>r.1=none/\s'=s/\∃left,lE P w s.heap left rest/\∀k∈left,k∈ks) _ ?_ ?_ _ _ {9,9,ks,hi,λ_ h=>h}
   ·ext v rest r s' ⟨hr,rfl,left,hl,hm⟩;cases hl with
    |@cons k _ Mt _ h1 tK=>
     show ae<|JI ks k (hm k ay) n _ _ _ v _ h1 ∅ ?_;simp only[dq,gh];show ah {9,9,Mt,tK,λk' CB=>hm k'<|az _ CB}
   ext⟨r1,r2⟩ s' ⟨hr,rfl,_⟩;simp only at hr;subst hr;show ah q
theorem JI:∀(ks:List NK)(k:NK),k∈ks->∀(n:Nat)(A:ss)(E:Aac)(s:f8)(v:i5)(Q:Bool->f8->Prop),kq P w s.heap k v->NK.k7 ks<=n->Q false s->f' 97 A (ofAClassStatement n v) Q E s
 |[]=>λk h n A E s v Q r hn q=>by cases h
 |k0::ks=>λk h n A E s v Q r hn q=>by
  rw[NK.k7]at hn;rcases aK.mp h with e|h;·rw[e]at r;show Qt k0 n A E s v Q r ∅ q
  show JI ks k h n A E s v Q r ∅ q
end
mutual
theorem aaw:∀(k:NK)(n:Nat)(A:ss)(E:Aac)(s:f8)(v:i5)(Q:Bool->f8->Prop),kq P w s.heap k v->NK.deep k<=n->(∀c,Q c s)->f' 97 A (hashByValue n v) Q E s
 | .cU,n=>λA E s v Q r _ q=>by cases r;let(b,e):=Tb.yM n L7;rw[e];show ah<|q b
 | .key k,n=>λA E s v Q r _ q=>by
  cases r with
  |key h=>
   let(b,e):=Tb.yM n<|(bZ P w).byValue _ _ h;rw[e];show ah<|q b
 | .tup ks,0=>λA E s v Q r hn q=>by rw[NK.deep]at hn;show absurd hn ∅
 | .tup ks,n+1=>λA E s v Q r hn q=>by
  cases r with
  |@tup _ a o items m ho hc hd hi=>
   rw[NK.deep]at hn;have hT:s.TypeIs (-a) "tuple":=⟨o,ho,hc⟩;unfold hashByValue;show ae<|iA hT kI.lookup ?_;dsimp only;show ae<|cY ho hd ?_;show ae ?_;change f' _ _ (forIn items _ _) _ _ s;rw[<-ke];show iP _ (λrest r s'=>r.1=none/\s'=s/\∃left,lE P w s.heap left rest/\∀k∈left,k∈ks) _ ?_ ?_ _ _ {9,9,ks,hi,λ_ h=>h}
   ·ext v rest r s' ⟨hr,rfl,left,hl,hm⟩;cases hl with
    |@cons k _ Mt _ h1 tK=>
     show ae (P8 ks k (hm k ay) n _ _ _ v _ h1 ∅ λc=>?_);cases c with
     |false=>
      simp only[Bool.not_false,lZ];show ah<|ah<|q false
     |true=>
      simp only[vA,dq,gh];show ah {9,9,Mt,tK,λk' CB=>hm k'<|az _ CB}
   ext⟨r1,r2⟩ s' ⟨hr,rfl,_⟩;simp only at hr;subst hr;show ah<|q true
theorem P8:∀(ks:List NK)(k:NK),k∈ks->∀(n:Nat)(A:ss)(E:Aac)(s:f8)(v:i5)(Q:Bool->f8->Prop),kq P w s.heap k v->NK.k7 ks<=n->(∀c,Q c s)->f' 97 A (hashByValue n v) Q E s
 |[]=>λk h n A E s v Q r hn q=>by cases h
 |k0::ks=>λk h n A E s v Q r hn q=>by
  rw[NK.k7]at hn;rcases aK.mp h with e|h;·rw[e]at r;show aaw k0 n A E s v Q r ∅ q
  show P8 ks k h n A E s v Q r ∅ q
end
def wR(P:io)(w:i6):Tb.SK P w NK where
 hash:=NK.hash P w
 draws:=NK.draws
 room:=λA=>A.units+100<wE
 is:=NT P w
 keep:=λx k=>{Mz _ _ k _ x.1,x.2}
 cls:=λhk h=>Qt _ 08 _ _ _ _ _ hk.1 (by have:=hk.2.2.2;lia) h
 quiet:=λhk h=>(lB P w).quiet hk h
 eq:=λhu hx hy h=>(lB P w).eqBool hu hx hy h
 hashes:=λhu hk h=>(lB P w).pyHash hu hk h
 zP:=λhk h=>aaw _ 08 _ _ _ _ _ hk.1 (by have:=hk.2.2.2;lia) h
end
end L2
namespace Br
open PySem PySem.W PyProof.Rows PySem.Calls
section
open PySem.SeqAt
open PySem.AutoSeq1 (wpAny_loadPart')
open PySem.MeetsSeq PySem.MeetsSeq2 PySem.MeetsSeq3
def acX{l b:cr}{aM GO:Aaj}{n m:Nat}{dd de:Aai}{sl sm:Aad}{xs ys:Aaf}(hi:p9 xs aM.toList)(hj:p9 ys GO.toList):
  Meets (Builtin.«tuple.__lt__» {[-l,-b],[]})
   (λ_ R s=>s.heap.get? l>{cls:=.type "tuple",dict:=dd,data:=.seq aM n,slots:=sl}/\s.heap.get? b>{cls:=.type "tuple",dict:=de,data:=.seq GO m,slots:=sm}/\∀b,R (.ok<|.ret<|.bool b) s):=
 .of_wp λprog w A R s h=>by
  let(hp,g,d,tk,os):=s;let(hl,hb,h):=h;have f2:=AutoSeq1.sub_tuple_tuple
  wp_walk using wpAny_loadPart' hl,wpAny_loadPart' hb,iP _ (λrest b s'=>b.1=none/\s'=⟨hp,g,d,tk,os⟩/\∃(vs ws:Aae)(x' y':Aaf),rest=vs.zip ws/\p9 x' vs/\p9 y' ws) _
  case turn=>
   ext⟨y,x⟩ rest b s' ⟨gm,rfl,vs,ws,x',y',hz,hvi,hwi⟩;cases hvi with
   |nil=>rw[List.zip_nil_left]at hz;cases hz
   |@cons a t _ _ ahA=>
    cases hwi with
    |nil=>rw[List.zip_nil_right]at hz;cases hz
    |@cons c u _ _ ahz=>
     rw[u0]at hz;injection hz with MD aga;injection MD with hy hx;subst hy hx;have he:SeqAt.EqAt A.in1 ⟨hp,g,d,tk,os⟩ (.str a t) (.str c u) (a==c):=uZ a t c u;show ae<|he prog w _ _ ?_;by_cases e:a=c
     ·rw[show(a==c)=true from jx.mpr e]
      wp_walk
      show⟨rfl,rfl,_,_,_,_,aga,ahA,ahz⟩
     rw[show(a==c)=false from cG.mpr e];have hri:∀(E:Aac)(Q:Aac),Q (.bool<|decide (a.cps.toList<c.cps.toList)) ⟨hp,g,d,tk,os⟩->f' 85 A.in1 (richCompare .Lt (.str a t)<|.str c u) Q E ⟨hp,g,d,tk,os⟩:=λE Q h=>(BB h:f' 85 A.in1 (v4 .Lt (.str a t)<|.str c u) Q E _)
     wp_walk using hri
     show{_,9,by simpa using h _}
  case fin=>
   ext⟨b1,b2⟩ s' ⟨gm,rfl,vs,ws,x',y',hz,hvi,hwi⟩;simp only at gm;subst gm
   wp_walk
   show{_,9,by simpa[Builtin.Tuple.tupleCompareSizes]using h _}
  case h=>
   show{9,9,aM.toList,GO.toList,xs,ys,9,hi,hj}
end
section
variable{prog:io}{w:i6}{A:ss}{E:Aac}{s:f8}
def ad9{x y:cr}{xs ys:Aaf}{Q:Aac}(hx:TupIs s.heap (-x) xs)(hy:TupIs s.heap (-y) ys)(hu:A.units<wE)(h:∀b,Q (.bool b) s):f' 85 A (v4 .Lt (-x) (-y)) Q E s:=by obtain⟨_,⟨c,dd,dt,sl⟩,aM,n,e,ho,hc,hd,hi⟩:=hx;obtain⟨_,⟨c2,de,dt2,sm⟩,GO,m,e2,Vs,G2,hd2,hj⟩:=hy;cases e;cases e2;simp only at hc hd G2 hd2;subst hc hd G2 hd2;show richCompare_meets_room (op:=.Lt) ⟨_,ho,rfl⟩ ⟨_,Vs,rfl⟩ PySem.F.slot_tuple_lt PySem.F.entry_tuple_lt (PySem.F.args_tuple_lt_2 _ _) (acX hi hj) {ho,Vs,λb=>show Value.bool b≠Value.notImplemented/\Q (.bool b) s from{(λx=>nomatch x),h b}} hu
theorem Pz{P:io}{w:i6}:∀{zs:Aaf}{us:Aae},p9 zs us->ItemsAre (PySem.strKind P w) zs us
 |_,_,.nil=>.nil
 |_,_,.cons r=>.cons (Gd _ _ _ _)<|Pz r
def TupIs.key{P:io}{w:i6}{h:nw}{a:cr}{zs:Aaf}(x:TupIs h (-a) zs):Sc (PySem.strKind P w) h zs a:=by let(__,o,aM,n,e,ho,hc,hd,hr):=x;cases e;show{o,aM,n,ho,hc,hd,Pz hr}
def qK(h:nw)(v:i5)(r:Aaf):Prop:=∃a o aM n g t z zs,v=-a/\h.get? a>o/\o.cls=.type "tuple"/\o.data=.seq aM n/\aM.toList=[.str z t,-g]/\r=z::zs/\TupIs h (-g) zs
def ab3{x y:i5}{xs ys:Aaf}{C:Bool->f8->Prop}(hu:A.units<wE)(hx:qK s.heap x xs)(hy:qK s.heap y ys)(h:∀b,C b s):f' 85 A (keyLt' (Wp true) x y) C E s:=by
 let(a,o,aM,n,g,t,z,zs,rfl,ho,hc,hd,el,rfl,hg):=hx;let(b,p,GO,m,g',u,z',za,rfl,hp,hpc,hpd,V9,rfl,E2):=hy;have z1:aM.size=2:=by rw[<-aZ,el];rfl
 have z2:GO.size=2:=by rw[<-aZ,V9];rfl
 show kat_lt ho hd hp hpd ?_;rw[el,V9,z1,z2];show kat_cons<|eq_str ?_;by_cases e:z=z'
 ·rw[bD e];show kat_yes<|kat_cons<|BL hu hg.key E2.key ?_;by_cases e2:zs=za;·subst e2;rw[bD rfl];show kat_yes (kat_nil<|h _)
  rw[bQ e2];show kat_no<|kat_one _ _<|ad9 hg E2 hu h
 rw[bQ e];show kat_no<|oneLt_str<|h _
def U1{vs:Aae}{rows:R1}{Q:SortKind->f8->Prop}(hl:vs.length=rows.length)(h2:2<=vs.length)(ht:∀(i:Nat) v r,vs[i]?>v->rows[i]?>r->qK s.heap v r)(h:Q (Wp true) s):f' 85 A (keyKind' vs.toArray) Q E s:=by
 have key:∀(vs:Aae)(rows:R1),vs.length=rows.length->(∀(i:Nat) v r,vs[i]?>v->rows[i]?>r->qK s.heap v r)->∃fs,KatTups s.heap vs fs/\fs.length=vs.length/\∀f∈fs,∃z t,f=Value.str z t:=by
  ext vs
  induction vs with
  |nil=>ext rows hl _;show{[],KatTups.nil,9,λf hf=>nomatch hf}
  |cons v vs ih=>
   ext rows hl ht;cases rows with
   |nil=>simp at hl
   |cons r rows=>
    let(fs,h1,h2,h3):=ih rows (↑hl) λi v' r' e1 e2=>ht (i+1) v' r' (↑e1)<|↑e2;let(a,o,aM,n,g,t,z,zs,rfl,ho,hc,hd,el,er,hg):=ht 0 v r rfl rfl;show{.str z t::fs,KatTups.cons ho hc hd (by rw[<-cA,el];rfl) h1,by simp[h2],λf hf=>?_};rcases aK.mp hf with rfl|hf;·show⟨z,t,rfl⟩
    show h3 f hf
 let(fs,h1,h3,h4):=key vs rows hl ht;show kat_kind (T:=.type "str") h1 ∅ (λv hv=>?_) 7 ?_;·let(z,t,rfl):=h4 v hv;show Looks.of_pure rfl
 have e:((Value.type "str") !=Value.type "tuple")=true:=by decide
 show h
def qK.mono{h h':nw}{v:i5}{r:Aaf}(x:qK h v r)(kp:∀b o,o.cls=.type "tuple"->h.get? b>o->h'.get? b>o):qK h' v r:=by let(a,o,aM,n,g,t,z,zs,e,ho,hc,hd,el,er,b,p,GO,m,e2,hp,hpc,r):=x;show{a,o,aM,n,g,t,z,zs,e,kp _ _ hc ho,hc,hd,el,er,b,p,GO,m,e2,kp _ _ hpc hp,hpc,r}
def QT{a:cr}{n:Nat}{vs:Aae}{rows:R1}{P:PySem.Fin->f8->Prop}(hu:A.units<wE)(ho:s.heap.get? a>x0 "list" vs.toArray n)(hl:vs.length=rows.length)(ht:∀(i:Nat) v r,vs[i]?>v->rows[i]?>r->qK s.heap v r)(Bk:vs.length<64)
  (k:∀(h':nw)(tk c:Nat)(us:Aae),h'.get? a>x0 "list" us.toArray c->(∀b o,b≠a->s.heap.get? b>o->h'.get? b>o)->us.Perm vs->P (.done<|.ret .none) 77):
  f' 85 A (Builtin.«list.sort» {[-a],[]}) P E s:=by
 by_cases c2:vs.length<2;·show K2 ho c2 λh' c g kp=>k h' 21 c vs g kp<|.refl _
 have k3:∀s',Tk 132 s'->∀b o,o.cls=.type "tuple"->s.heap.get? b>o->s'.heap.get? b>o:=λs' ⟨t,e⟩ b o hc hb=>by
  subst e;have nb:b≠a:=λz=>by rw[z,ho]at hb;cases hb;injection hc with z;show absurd z 7
  show ao _<|ao _<|(cj s.heap a _).extBut b o nb hb
 have mr:∀v∈vs,∃r,qK s.heap v r:=λv hv=>by let(i,hi,rfl):=jz.mp hv;show{_,ht i _ _ (au hi)<|au ∅}
 show OZ (κ:=Wp true) ho ∅ ∅ (λs' tk=>U1 hl ∅ (λi v r e1 e2=>(ht i v r e1 e2).mono<|k3 s' tk) ⟨rfl,tk⟩) (λx hx y hy s' tk=>?_) λus h' tk c po g kp=>k h' tk c us g kp po;let(r,t1):=mr x hx;let(q,t2):=mr y hy;show ab3 hu (t1.mono<|k3 s' tk) (t2.mono<|k3 s' tk) λ_=>tk
end
end Br
namespace L2
open PySem PySem.Spec PyProof.Rows Br
def EM:Aaf->NK
 |[]=>.cU
 |z::zs=>.tup [.key<|.inr z,iV zs]
theorem abX:∀{x y:Aaf},EM x=EM y->x=y
 |[],[],_=>rfl
 |[],_::_,h=>by cases h
 |_::_,[],h=>by cases h
 |z::zs,z'::za,h=>by simp only[EM,NK.tup.injEq,oS,NK.key.injEq,vh,AQ]at h;rw[h.1,DR h.2]
def LQ(P:io)(w:i6):Tb.SK P w (Aaf) where
 hash:=λr=>NK.hash P w<|EM r
 draws:=λr=>NK.draws<|EM r
 room:=(wR P w).room
 is:=λh r a=>NT P w h (EM r) a
 keep:=λx k=>(wR P w).keep x k
 cls:=λhk h=>(wR P w).cls hk h
 quiet:=λhk h=>(wR P w).quiet hk h
 eq:=λ{A E s x y a b Q} hu hx hy h=>(wR P w).eq hu hx hy (by
  rw[show decide (EM x=EM y)=decide (x=y)from decide_eq_decide.mpr {abX,λe=>by rw[e]}];show h)
 hashes:=λhu hk h=>(wR P w).hashes hu hk h
 zP:=λhk h=>(wR P w).zP hk h
def D4(P:io)(w:i6)(a:cr)(us:List (Aaf×cr)):nw->Prop:=λh=>∃o ep t,h.get? a>o/\o.ExactSet/\o.data=.set (us.map<|Tb.ent<|LQ P w).toArray ep t/\t.fits us.length=true/\t.led=Tb.ot w/\Tb.oy t.place
def XD{P:io}{w:i6}{H:Hp}{h:nw}{a:cr}{us:List (Aaf×cr)}(x:D4 P w a us h):cW P w H h a (.ext<|D4 P w a us):=
 {x,by let(o,__,__,q,__):=x;show⟨o,q⟩,λ_ _ zq k=>by let(o,ep,t,q,r):=zq;show{o,ep,t,k _ q,r}}
def De(K:Frag)(H:Hp)(v:V)(r:Aaf):Prop:=∃p g z zs,v=-p/\r=z::zs/\bA K H p [.str z,-g]/\bA K H g 57
section
variable{X:Cx}{bi:Aaa}{Z:St}{H:Hp}{s:f8}
def Inv.prB(I:Inv X bi Z H s){p:cr}{r:Aaf}(h:De X.K H (-p) r):qK s.heap (-p) r:=by let(__,g,z,zs,e,rfl,h1,h2):=h;cases e;obtain⟨aM,rv,⟨o,e,c,n,d⟩,_⟩:=I.tuple h1;have t:=(I.row h2).1;let(__,__,rfl,ra,rb):=uw rv;let(tk,rfl):=(show∃t,_=Value.str z t from ra);cases(show _=Value.ref g from rb);show{p,o,_,n,g,tk,z,zs,9,e,c,d,84,9,t}
def aek{K:Frag}{p:cr}{r:Aaf}(h:De K H (-p) r)(hz:∀z∈r,PyData.strOk z=true):il K H (EM r) p:=by
 let(__,g,z,zs,e,rfl,h1,h2):=h;cases e;show{?_,(mJ (n:=1) λk hk=>?_).good 7};·unfold EM;show{p,_,9,h1,?_};show{_,_,9,by rw[NV];rfl,_,_,9,GH h2,9}
 simp only[aK,lF,uc]at hk;rcases hk with rfl|rfl;·show q9<|hz z ay
 show AG λy hy=>hz y<|az _ hy
theorem Inv.adI(I:Inv X bi Z H s):∀{ys:Aam}{rows:R1}{us:Aae},Paired (De X.K H) ys rows->Vals ys us->∃bs:Aah,us=bs.map Value.ref/\ys=bs.map V.ref/\bs.length=rows.length/\∀(i:Nat) z b,rows[i]?>z->bs[i]?>b->De X.K H (-b) z
 |_,_,_,.nil,.nil=>{[],9,9,9,λi z b e=>by simp at e}
 |_,_,_,.cons ⟨a,g,z,rr,e,h⟩ r,.cons (b:=u) ru q=>by
  let(bs,h1,h2,h3,h4):=I.adI r q;subst e;cases(show u=Value.ref a from ru);show{a::bs,by rw[h1];rfl,by rw[h2];rfl,by simp[h3],λi y b e1 e2=>?_};cases i with
  |zero=>cases e1;cases e2;show⟨a,g,z,rr,rfl,h⟩
  |succ i=>show h4 i y b (↑e1)<|↑e2
end
section
variable{X:Cx}
def Wz(hA:X.A.handled=none)(hu:X.A.units+110<wE):fD X (.type "set") (λxs H Q=>∃p ys rows,xs=[-p]/\(bg X.K H p ys\/bA X.K H p ys)/\Paired (De X.K H) ys rows/\rows.length<=1000/\(∀r∈rows,∀z∈r,PyData.strOk z=true)/\∀a us,H a=none->(us.map (·.1)).Nodup->(∀r,r∈us.map (·.1)↔r∈rows)->us.length<=rows.length->(∀x∈us,De X.K H (.ref x.2) x.1/\∃j:Nat,ys[j]?>V.ref x.2/\rows[j]?>x.1)->Q (-a) (upd H a<|.ext<|D4 86 X.w a us)):=by
 ext bi s Z H xs us Q I r h;let(p,ys,rows,rfl,hq,hr,hz,bC,q):=h;let(u,rfl,rx):=jn r;cases rx;obtain⟨aM,r',pl⟩:∃aM:Aae,Vals ys aM/\(s.heap.IsList p aM.toArray\/s.heap.IsTuple p aM.toArray):=by
  rcases hq with hq|hq;·let(aM,r',pl,__):=I.list hq;show{aM,r',.inl pl.isList}
  let(aM,r',pl,__):=I.tuple hq;show{aM,r',.inr pl}
 let(bs,rfl,rfl,lb,hb):=I.adI hr r';show Tb.JK (knd:=LQ 86 X.w) hA (by change X.A.units+1+1+1+100<wE;lia) pl 84 lb.symm (λi k b e1 e2=>I.HV<|aek (hb i k b e1 e2)<|bC k<|aB e1) ∅ λh' tk o ep t xs S hl hH kp=>?_;show{.ref 34,_,I.laid kp (aw _)<|XD {o,ep,t,S.ob,S.ex,S.data,?_,hl,S.tab.rise},9,q _ _ 69 S.nd (λr=>?_) ?_ λx hx=>?_};·have:=S.fits;simpa using this
 ·rw[hH.mem,cS ∅]
 ·have:=hH.len;lia
 let(j,e1,e2):=hH.G5 x hx;show{hb j x.1 x.2 e1 e2,j,by rw[aW,e2];rfl,e1}
def NG(hA:X.A.handled=none)(hu:X.A.units+096<wE):fD X (.builtin "sorted") (λxs H Q=>∃(a:cr)(us:List (Aaf×cr)),xs=[-a]/\H a>.ext (D4 86 X.w a us)/\(∀x∈us,De X.K H (.ref x.2) x.1)/\us.length<64/\∀l(vs:List (Aaf×cr)),H l=none->vs.Perm us->Q (-l) (upd H l<|.lst (vs.map λx=>.ref x.2))):=by
 ext bi s Z H xs us Q I r h;let(a,Iy,rfl,ha,hx,Bk,q):=h;let(u,rfl,rx):=jn r;cases rx;obtain⟨⟨o,ep,t,ho,hex,hd,hf,hl,R4⟩,_⟩:=(show cW 86 X.w H s.heap a (.ext<|D4 86 X.w a Iy)from I.bC a _ ha);show jh yK wL xf (xl _) ?_;show ae 92;show ae (Tb.Fd (↑hA) {⟨o,ho,hex,hd⟩,by simpa using hf,λcf _=>{by rw[hl,Tb.ot,cf];rfl,R4}} (by simp;lia) λh' tk d vs pm kp=>?_);have e0:(Iy.map<|Tb.ent<|LQ 86 X.w).toArray.toList.map (·.2)=Iy.map λx=>Value.ref x.2:=by simp[qx]
 rw[e0]at pm;let(xN,pv,rfl):=rZ pm rfl;have lu:=pv.length_eq;have I1:=I.aaq (t':=tk) (d':=d) kp;show ae<|qQ ?_ (by rw[af,bW];lia);generalize ({s with heap:=h',drawn:=d,toks:=tk}:f8)=s1 at I1⊢;have Cy:(s1.heap.push<|x0 "list" (xN.map λx=>Value.ref x.2).toArray 0).get? 22>x0 "list" (xN.map λx=>Value.ref x.2).toArray 0:=aH _ rfl;show ae<|bP<|bN zm ⟨_,Cy,rfl⟩ yj (QT (rows:=xN.map (·.1)) ?_ Cy (by rw[af,af]) (λi v r e1 e2=>?_) 19 λh' tk c us g kp pm=>{_,9,?_})<|zY _;·change X.A.units+1+1<wE;lia
 ·rw[aW]at e1 e2;let(x,ex,rfl):=bw.mp e1;rw[ex]at e2;cases e2;show(I1.prB<|hx x<|pv.mem_iff.mp<|aB ex).mono λb o _ e=>ao _ e
 let(ws,pw,rfl):=rZ pm rfl;have lw:=pw.length_eq;have rv:∀l:List (Aaf×cr),Vals (l.map λx=>V.ref x.2) (l.map λx=>Value.ref x.2):=λl=>by
  induction l with
  |nil=>show .nil
  |cons b bs ih=>show .cons rfl ih
 show ah {_,9,.ref 22,_,I1.laid (λb o e=>kp b o (aU<|aS e)<|ao _ e) (aw _) (show cW 86 X.w _ _ _ (.lst (ws.map λx=>V.ref x.2))from{by rw[af,bW];lia,ws.map λx=>Value.ref x.2,c,rv ws,g}),9,q _ ws 16<|pw.trans pv}
end
end L2
namespace L2
open PySem PySem.Spec PyProof.Rows
section
variable{P:io}{w:i6}{A:ss}{E:Aac}{s:f8}{d it v:cr}{o:J'}{es:Array Db}{ep i:Nat}
def abm{Q:Aac}(hv:s.heap.IsValuesView v d)(ho:s.heap.get? d>o)(hd:o.data=.dict es ep)
  (q:Q (.ref 34) (s\s.heap.push {cls:=.type "dict_valueiterator",data:=.fields #[-d,.int 0 0,.int 87 0,.int ep 0]})):f' 97 A (Re (-v)) Q E s:=by
 let(ov,hov,hcv,hdv):=id hv;show qp hv.typeIs sZ<|bN sZ hv.typeIs PySem.F.entry_dict_values_iter ?_ (PySem.F.args_dict_values_iter_1 _);unfold Builtin.«dict_values.__iter__» Builtin.Dict_items.dictOf Builtin.Dict_items.newIterator;show ae<|ah<|ae<|ae<|cR hov hdv (x:=-d) 9 92;show ae<|ae<|iy ho hd<|ae<|mf ho hd ?_;have own:Builtin.Dict_items.ownsTuple "dict_valueiterator"=false:=by decide
 simp only[own,dq,gh];show cK<|ah {_,9,"dict_valueiterator",_,{_,27,9},fB.lookup,?_};simpa[v0]using q
def abl{Q:Aag->f8->Prop}(hit:s.heap.IsValIter it d i 87 ep)(ho:s.heap.get? d>o)(hd:o.data=.dict es ep)(hi:i<87)
  (q:∀h',h'.IsValIter it d (i+1) 87 ep->Heap.SameBut it s.heap h'->Q (some es[i].val) (s\h')):f' 97 A (pyNext (-it)) Q E s:=by
 let(oi,wZ,ci,di):=id hit;unfold pyNext;show ae<|eM<|pc (name:=Str.ofString "__next__") hit.typeIs fB<|bN fB hit.typeIs oU ?_ (oA _);show ae<|ah<|ae<|ae<|ae<|jO hit.typeIs 92;show ae<|jS wZ di ?_;have own:Builtin.Dict_items.ownsTuple "dict_valueiterator"=false:=by decide
 simp only[own,dq,gh];change f' _ _ 182 _ _ s;rw[aL (show ¬((Value.ref d==Value.none)=true)from bX)];show ae<|ah<|ae<|iy ho hd ?_;rw[aL 84];show ae<|ah<|ae<|mf ho hd ?_;rw[aL 84];show ah ?_;simp only[show ¬((i:Int)<0)from by lia,gh,dU,bU hi];show ae<|ae<|jO hit.typeIs<|ah<|ae<|rF hit.typeIs ?_;change f' _ _ (XV (-it) 1 133>>=_) _ _ s;show ae<|dY wZ di 84 ?_;have CC:(s.heap.update it<|Obj.mapFields (·.setIfInBounds 1 133)).IsValIter it d (i+1) 87 ep:=
  {_,cI _ wZ<|ko<|jc di _,(vO ..).trans ci,by rw[jc di];simp[v0]}
 show ae<|bP<|ae<|rF (s:=s\s.heap.update it (Obj.mapFields (·.setIfInBounds 1 133))) CC.typeIs ?_;show ae<|rF (s:=s\s.heap.update it (Obj.mapFields (·.setIfInBounds 1 133))) CC.typeIs ?_;change f' _ _ (pure es[i].val) _ _ _;show ah<|ah {_,9,ah<|q _ CC<|cj ..}
def adB{Q:Aag->f8->Prop}(hh:A.handled=none)(hit:s.heap.IsValIter it d i 87 ep)(ho:s.heap.get? d>o)(hd:o.data=.dict es ep)(hi:87<=i)
  (q:∀h',(∀b x,b≠it->s.heap.get? b>x->h'.get? b>x)->Q none (s\h')):f' 97 A (pyNext (-it)) Q E s:=by
 let(oi,wZ,ci,di):=id hit;unfold pyNext;show ae<|eM<|pc (name:=Str.ofString "__next__") hit.typeIs fB<|bN fB hit.typeIs oU ?_ (oA _);show ae<|ah<|ae<|ae<|ae<|jO hit.typeIs 92;show ae<|jS wZ di ?_;have own:Builtin.Dict_items.ownsTuple "dict_valueiterator"=false:=by decide
 simp only[own,dq,gh];change f' _ _ 182 _ _ s;rw[aL (show ¬((Value.ref d==Value.none)=true)from bX)];show ae<|ah<|ae<|iy ho hd ?_;rw[aL 84];show ae<|ah<|ae<|mf ho hd ?_;rw[aL 84];show ah ?_;simp only[show ¬((i:Int)<0)from by lia,gh,dU,qO hi];show ae<|ae<|jO hit.typeIs 92;change f' _ _ (XV (-it) 0 .none>>=_) _ _ s;show ae<|dY wZ di 84 ?_;show Tb.DJ (s:=s) (show A.in1.handled=none from hh) λh' e kp ag6=>?_;let(oe,he,ce):=ag6;show ae<|iO (T:="StopIteration") (b:=true) ⟨oe,he,ce⟩ m6<|ah (q _ λb x nb g=>kp b x<|(bL _ _<|cL nb).trans g)
def XA(hd:o.data=.dict es ep):PySem.W.KdlSrc P w "dict_values" v d 87 (λi u=>∃hi:i<87,u=es[i].val) (λh=>h.IsValuesView v d/\h.get? d>o) where
 type:=λ_ g=>g.1.typeIs
 there:=λ_ zq=>by obtain⟨⟨_,q,_⟩,g⟩:=zq;show{aS q,aS g}
 keep:=λ_ _ zq k=>by obtain⟨⟨ov,q,r⟩,g⟩:=zq;show{{ov,k v (.inl 9) _ q,r},k d (.inr 9) _ g}
 notList:=by decide
 notTuple:=by decide
 hint:=λ_ _ _ _ g q=>PySem.W.kdl_hint_values g.1.typeIs q
 iter:=λA s hh g=>{_,λi h=>h.IsValIter 34 d i 87 ep/\h.get? d>o,λ_ _ q=>abm g.1 g.2 hd q,{
  sub:=λb hb=>by simp at hb;simp[hb]
  frame:=λi h h' st k=>by obtain⟨⟨v,e,c⟩,g'⟩:=st;show{{v,k _ 84 _ e,c},k d 84 _ g'}
  item:=λi s' Q E hi st q=>abl st.1 st.2 hd hi λh' it' sb=>q _ h' s'.toks ⟨hi,rfl⟩ {it',sb.extBut _ _ (aU<|aS g.2) st.2} λb x hb e=>sb.extBut b x (λz=>hb (by simp[z])) e
  done:=λs' Q E st q=>adB hh st.1 st.2 hd (aw _) λh' kp=>q h' s'.toks λb x hb e=>kp b x (λz=>hb (by simp[z])) e
  self:=λ_ _ _ _ st q=>wpAny_pyIter_valiter st.1 q},{{_,27,9,9},ao _ g.2}}
end
def WL(r d:cr):nw->Prop:=λh=>h.IsValuesView r d
def acU{P:io}{w:i6}{H:Hp}{h:nw}{r d:cr}(x:WL r d h):cW P w H h r (.ext<|WL r d):=
 {x,by let(o,q,__):=x;show⟨o,q⟩,λ_ _ zq k=>by let(o,q,z):=zq;show{o,k _ q,z}}
inductive aa6(P:io)(w:i6)(K:Frag)(Q:VK)(x:V)(H1:Hp):Prop
 |mk d kvs (_:x=-d) (_:iw P w K H1 d kvs) (_:∀p,H1 p=none->Q (-p) (upd H1 p<|.ext<|WL p d))
def ac1(P:io)(w:i6)(K:Frag)(td:TE):TE:=λZ H Q=>td Z H λx H1=>aa6 P w K Q x H1
section
variable{X:Cx}
def Q8{Fa eR:Gc}{l:wv}{tl:TE}(hl:PE X l tl)(v8:wT l "values" X.env (wf l X.env)=wf l X.env:=by rfl)(v7:53=true:=by rfl):
  PE X (.Call (.Attribute l "values" Fa) [] [] eR) (ac1 86 X.w X.K tl):=by
 ext bi s Z H R I h;show qj v8 v7 (dv 135 λv s1 x H1 I1 r1 q1=>?_);let(d,kvs,e,hd,q):=q1;subst e;cases r1;let(lo,o,es,ep,ga,__,m):=I1.aaC hd;have ty:s1.TypeIs (-d) "dict":={o,ga,m.1.1};show{"dict","dict.values",dM,xo,PySem.F.type_dict_values,ty,λb q=>?_,eI rfl (tO ?_)};·cases q;show{o,ga,m.1.2.1}
 show bN xo ty PySem.F.entry_dict_values ?_ (PySem.F.args_dict_values_1 _);unfold Builtin.«dict.values»;show ae<|ae<|iU ty<|ah (a:=d) ?_;change f' _ _ (Builtin.Dict.showsAll d>>=_) _ _ s1;unfold Builtin.Dict.showsAll;rw[lo];show ae<|ah<|ae<|cK<|ah {_,9,?_};show{.ref 22,_,I1.laid (t':=s1.toks) (λb o e=>ao _ e) (aw _)<|acU {_,27,9,9},9,q _ 16}
theorem Nt:∀{ps:Aak}{l:List Db}{us:Aae},Paired 139 ps l->us=l.map (·.val)->Vals (ps.map (·.2)) us
 |_,_,_,.nil,e=>by rw[e];show .nil
 |_,_,_,.cons h t,e=>by rw[e];show .cons h.2<|Nt t 9
def FW(hA:X.A.handled=none):fD X (.type "list") (λxs H Q=>∃(r d:cr)(kvs:List 95),xs=[-r]/\H r>.ext (WL r d)/\iw 86 X.w X.K H d kvs/\∀l,H l=none->Q (-l) (upd H l<|.lst<|kvs.map (·.2.2))):=by
 ext bi s Z H xs us Q I r h;let(v,d,kvs,rfl,hv,hd,q):=h;let(u,rfl,ru):=jn r;cases ru;let(iv,__):=(show cW 86 X.w H s.heap v (.ext<|WL v d)from I.bC v _ hv);let(lo,o,es,ep,ga,hz,m):=I.aaC hd;have hl:(kvs.map λp=>(V.ref p.2.1,p.2.2)).length=87:=by rw[aV m.2.2,aZ]
 have hs:87<=dL:=by rw[bW];lia
 show PySem.W.kdl_call (XA m.2.1) hA ⟨iv,ga⟩ hs λh' tk acc c kp gl M8=>?_;have ea:acc.toList=es.toList.map (·.val):=by
  show Ej λj=>?_;by_cases hj:j<87
  ·have P1:j<acc.size:=by rw[M8.1];show hj
   let(hi,e):=M8.2 j acc[j]<|bU P1;rw[cA,bU P1,e,aW,cA,bU hi];rfl
  rw[je (by rw[aZ,M8.1];lia),je (by rw[af,aZ];lia)]
 have e2:kvs.map (·.2.2)=(kvs.map λp=>(V.ref p.2.1,p.2.2)).map (·.2):=by rw[dF];rfl
 show{.ref 34,_,I.laid (t':=tk) kp (aw _) (o:=.lst<|kvs.map (·.2.2)) {by rw[e2,af,hl];show hs,acc.toList,c,by rw[e2];show Nt m.2.2 ea,gl},9,q _ 69}
end
end L2
namespace nL
open PySem PySem.Spec PyProof.Rows L2 Br aC
seal L2.PE L2.PT L2.PW L2.PA L2.PS L2.mP L2.PI L2.PO L2.PPs L2.PG L2.Ht
def Flt(u v:V):Prop:=(∃z,u=.bl z/\v=.bl z)\/∃i:Int,u=.int i/\v=.int i
def tV(K:Frag):Nat->Hp->V->V->Prop
 |0,_,u,v=>Flt u v
 |n+1,H,u,v=>Flt u v\/∃(a b:cr)(xs ys:Aam),u=-a/\v=-b/\H a>.lst xs/\H b>.lst ys/\Paired (tV K n H) xs ys/\42<=100000
inductive HB(K:Frag)(n:Nat)(vs:Aam)(H:Hp)(Q:VK)(_x3:XK):Prop
 |mk (u v:V) (_:vs=[u,v]) (_:tV K n H u v) (_:∀H',aX H H'->Q (.bl true) H')
def ado:Sp:=λ_ _ _ _=>False
def afL(K:Frag):Nat->Sp
 |0=>ado
 |n+1=>HB K n
section
variable{P:io}{w:i6}{K:Frag}{mg:Aab}{base:nw}
def tV.bl{n:Nat}{H:Hp}(z:Bool):tV K n H (.bl z) (.bl z):=by
 cases n with
 |zero=>show .inl ⟨z,rfl,rfl⟩
 |succ n=>show .inl<|.inl ⟨z,rfl,rfl⟩
def tV.num{n:Nat}{H:Hp}(i:Int):tV K n H (.int i) (.int i):=by
 cases n with
 |zero=>show .inr ⟨i,rfl,rfl⟩
 |succ n=>show .inl<|.inr ⟨i,rfl,rfl⟩
def Rg{α β:Type}{R S:α->β->Prop}{xs:List α}{ys:List β}(f:∀u v,R u v->S u v)(h:Paired R xs ys):Paired S xs ys:=by
 induction h with
 |nil=>show .nil
 |cons h _ ih=>show .cons (f _ _ h) ih
theorem tV.sm{H H':Hp}(s:aX H H'):∀{n:Nat}{u v:V},tV K n H u v->tV K n H' u v
 |0,_,_,h=>h
 |n+1,_,_,.inl h=>.inl h
 |n+1,_,_,.inr ⟨a,b,xs,ys,e1,e2,h1,h2,hp,l⟩=>.inr {a,b,xs,ys,e1,e2,s _ _ h1,s _ _ h2,Rg (λ_ _ h=>tV.sm s h) hp,l}
def BX:b7 [AaR,AaN,"_law_kind"] [AaR,AaN] (bI Fy):=iM 59
def abV{f:cr}{fd:re}(F:d6 K Abp Abp Fy f fd):cN P w K mg base fZ 1 f fd [AaR,AaN] ado:=F.ok BX (λdC A outer s H vs Q E hr h=>False.elim h) (λvs H Q E h=>False.elim h)
def Pk{n:Nat}{f:cr}{fd:re}(F:d6 K Abp Abp Fy f fd)(T:Txt K mg)(rD:dh P w K mg base (n+1) Abp [AaR,AaN] (afL K n)):cN P w K mg base fZ (n+2) f fd [AaR,AaN] (HB K n):=by
 show F.ok BX 98;let(u,v,rfl,ha,k):=h;show{_,aA (dP (kF<|bu NJ 9 T.eP 59<|b6 (pv 1)<|dS<|b6 (oH (n:="tuple") 9 T.jH 59)<|oH (n:="list") 9 T.GK 59) (aA (dW 2 BX<|wM (kF<|bu xk 9 T.eP 59<|b6 (pv 1)<|oH (n:="tuple") 9 T.jH 59) (bu xk 9 T.eP 59<|b6 (pv 0)<|oH (n:="tuple") 9 T.jH 59)<|bu xk 9 T.eP 59<|b6 (pv 0)<|oH (n:="list") 9 T.GK 59)<|aA (dP (PW.pt<|DQ (zx<|kF<|pv 2)<|zv<|cD uz (bu dD 9 T.fJ bK 78) (bu dD 9 T.fJ bK 79)<|cM _) (aP<|b8 oJ) cP)<|aP<|b8<|kZ Ce oJ (lY 9 (eF (fs:=[AaR,AaN]) (fr:=[0,1])) (j5 9 T.mZ<|bS<|bu dD 9 T.fJ bK 79) (λ_ _ _ _=>cl (hk:=aw<|n+1) rD hr<|b6 (cm (wX (K:=K)) (pv 1) (pv 0) (λ_ _=>9))<|cm (wX (K:=K)) (pv 2) (pv 0) (λ_ _=>9))) 74) cP)<|aA (dP (cD GC (pv 1) j6<|cM _) (aP<|b8<|kZ GC (pv 0) j6<|cM _) cP)<|aA (dP (kF<|bu kX 9 T.eP 59<|b6 (pv 1)<|oH (n:="str") 9 T.GJ 59) (aP<|b8<|uO (bu kX 9 T.eP 59<|b6 (pv 0)<|oH (n:="str") 9 T.GJ 59)<|zC<|kZ mQ (pv 0) (pv 1)<|cM _) cP)<|aA (dP (kF<|bu kX 9 T.eP 59<|b6 (pv 1)<|oH (n:="bool") 9 T.Ma 59) (aP<|b8<|uO (bu kX 9 T.eP 59<|b6 (pv 0)<|oH (n:="bool") 9 T.Ma 59)<|zC<|kZ mQ (pv 0) (pv 1)<|cM _) cP)<|aP<|b8<|uO (bu kX 9 T.eP 59<|b6 (pv 0)<|oH (n:="int") 9 T.aan 59)<|uO (adL<|bu kX 9 T.eP 59<|b6 (pv 0)<|oH (n:="bool") 9 T.Ma 59)<|zC<|kZ mQ (pv 0) (pv 1)<|cM _,?_}
 have hc:Flt u v\/∃m,n=m+1/\∃(a b:cr)(xs ys:Aam),u=-a/\v=-b/\H a>.lst xs/\H b>.lst ys/\Paired (tV K m H) xs ys/\42<=100000:=by
  cases n with
  |zero=>show .inl ha
  |succ m=>show ha.imp id λh=>⟨m,rfl,h⟩
 rcases hc with(⟨z,rfl,rfl⟩|⟨i,rfl,rfl⟩)|⟨m,rfl,a,b,xs,ys,rfl,rfl,h1,h2,hp,lx⟩;·show{_,9,31,λtp tJ=>{_,_,tp,["tuple","list"],_,9,.inl<|.bl z,aF,9,_,9,mH ?_}};show{_,9,9,_,9,mH ?_};show{_,9,_,_,_,_,9,.bl z,9,_,9,mH ?_};show{_,9,_,_,_,_,9,.bl z,9,_,9,ug ?_};show{_,9,_,_,_,_,9,.bl z,9,_,9,ug ?_};show{_,9,_,9,9,by rw[bD rfl];show k _<|bh tJ _}
 ·show{_,9,31,λtp tJ=>{_,_,tp,["tuple","list"],_,9,.inl<|.int i,aF,9,_,9,mH ?_}};show{_,9,9,_,9,mH ?_};show{_,9,_,_,_,_,9,.int i,9,_,9,mH ?_};show{_,9,_,_,_,_,9,.int i,9,_,9,mH ?_};show{_,9,_,_,_,_,9,.int i,9,_,9,ug ?_};show{_,9,_,_,_,_,9,.int i,9,_,9,_,9,ug ?_};show{_,9,_,9,9,by rw[bD rfl];show k _<|bh tJ _}
 have lxy:42=48:=aV hp;show{_,9,31,?_}
 intros tp tJ H1 s1 ahB
 have l1:=bg.of (K:=K)<|s1 _ _ h1;have l2:=bg.of (K:=K)<|s1 _ _ h2;show{_,.type "list",tp,["tuple","list"],_,9,.inl<|.lst<|s1 _ _ h2,ahB,9,_,9,ug {_,9,_,_,_,_,9,.inl<|.lst<|s1 _ _ h2,9,_,9,mH {_,9,_,_,_,_,9,.inl<|.lst<|s1 _ _ h1,9,?_}}};show{_,9,_,9,mH {_,9,_,_,9,.inl ⟨_,l1,rfl⟩,_,9,_,_,9,.inl ⟨_,l2,rfl⟩,9,_,9,dQ (λc=>absurd c (by simp[lxy])) 24}};show{_,9,_,_,9,.inl ⟨_,l2,rfl⟩,_,9,8,8,λj m' zs H4=>j<=42/\m'=(48:Int).toNat -j/\aX H H4/\zs=List.replicate j (V.bl true),{_,aQ _,9,s1,9},?_};ext j m' zs H4 ⟨hj,rfl,s4,rfl⟩;have lz:(List.replicate j<|V.bl true).length=j:=eZ;have big:42<dL:=fC lx (by rw[bW];decide);by_cases cb:j<42
 ·show .inr {by change j<(48:Int).toNat;lia,by rw[lz];lia,?_};ext v H5 ⟨rfl,rfl⟩;show pT ?_;have e1:xs[j]?>xs[j]:=au cb;have e2:ys[j]?>ys[j]'∅:=au ∅;have al:tV K m H xs[j] (ys[j]'∅):=by let(y,hy,h):=Paired.at hp e1;rw[e2]at hy;cases hy;show h
  show{_,9,_,9,_,_,_,_,9,9,bg.of<|s4 _ _ h1,(by rw[pQ];show iF e1),{_,9,_,9,_,_,_,_,9,9,bg.of<|s4 _ _ h2,(by rw[pQ];show iF e2),(show HB K m _ _ _ _ from{_,_,9,al.sm s4,λH6 s6=>?_})}};show{(48:Int).toNat -(j+1),8,cb,9,s4.trans s6,List.replicate_succ'.symm}
 show .inl {by change(48:Int).toNat<=j;lia,by rw[lz];lia,λl hl=>?_};have e0:PM (.bl false) (List.replicate j<|V.bl true)=false:=Ek.mpr λy hy=>by rw[(Dl.mp hy).2];decide
 show{l,_,9,.inl<|bg.of aF,9,cz.mpr λy hy=>by rw[(Dl.mp hy).2];rfl,?_};change Q (.bl<|!PM (.bl false) (List.replicate j<|V.bl true)) _;rw[e0];show k _<|s4.trans<|bh hl _
def Good(br:R0):Prop:=∀a∈br,a.2.length<=4/\(∀z∈a.2,WM z)/\1<=a.2.length/\PyData.strOk a.1=true
def Ud{g g':du}(h:(rowsOf g).Perm (rowsOf g')):g.Perm g':=by
 have inv:∀l:du,(rowsOf l).map (λr=>(r.getD 0 "",r.getD 1 ""))=l:=λl=>by
  unfold rowsOf;rw[dF]
  conv=>rhs;rw[<-List.map_id l]
  show dO λp _=>9
 rw[<-inv g,<-inv g'];show h.map _
def Bc(rows:R1):NK:=.tup<|rows.map iV
def abW{xs ys:R1}(h:Bc xs=Bc ys):xs=ys:=by injection h with h;show(Dn λa b e=>DR e).mp h
def xv(k:NK)(g:du):Prop:=∃rs:R1,rs.Perm (rowsOf g)/\k=Bc rs
def xv.perm{k:NK}{g g':du}(h:xv k g)(h':xv k g'):g.Perm g':=by let(rs,p,e):=h;let(rs',p',e'):=h';rw[abW<|e.symm.trans e']at p;show Ud<|p.symm.trans p'
def NR(gG as:R0)(g:du):Prop:=(keys g).Nodup/\(∀u,u∈keys g↔u∈aC.lq bF as)/\(∀h,hZ g h->Fits bF gG h as)/\∀p∈g,nK p.2
structure yW(gG as:R0)(gs:List du):Prop where
 ok:∀g∈gs,NR gG as g
 all:∀h,Fits bF gG h as->∃g∈gs,hZ g h
def yW.nil(gG:R0):yW gG [] [[]]:={λg hg=>by rw[ar.mp hg];show{ik,λu=>Ip,λh _ a ha=>(by cases ha),λp hp=>(by cases hp)},λh _=>{[],ar.mpr rfl,λp hp=>(by cases hp)}}
def IY{g g':du}{a b:i9×Aaf}(h:ff g a b>g'):a.1=b.1/\aC.fit bF g a.2 b.2>g':=by
 unfold ff at h;by_cases c:a.1=b.1;·rw[aN c]at h;show⟨c,h⟩
 rw[aL c]at h;cases h
def NR.put{gG as:R0}{g g':du}{a b:i9×Aaf}(o:NR gG as g)(hb:b∈gG)(gb:jT b.2)(e:ff g a b>g'):NR gG (as++[a]) g':=by
 let(e1,e2):=IY e;let(nd,ks,fi,vs):=o;let(f1,f2,f3,f4):=aC.pD nd e2;show{f1,λu=>?_,λh ag=>?_,λp hp=>?_}
 ·rw[f3,ks];simp only[aC.dI,aE,ar];constructor
  ·ext(⟨x,hx,r⟩|r);·show{x,.inl hx,r}
   show{a,.inr rfl,r}
  ext⟨x,hx|rfl,r⟩;·show .inl ⟨x,hx,r⟩
  show .inr r
 ·show aC.Fits.app.mpr {fi h<|ag.longer nd f2,λx hx=>?_};rw[ar.mp hx,f4 h ag,e1];show hb
 have ag:hZ g' (aC.over g' λu=>u):=aC.oo f1;rcases(f3 p.1).mp (bV hp)with q|⟨q1,q2⟩
 ·cases e3:aC.get g p.1 with
  |none=>show absurd q<|aC.get_none.mp e3
  |some v=>
   have e4:=f2 _ _ e3;rw[aC.get_mem f1 (show(p.1,p.2)∈g' from hp)]at e4;cases e4;show vs _<|aC.get_some e3
 have e3:=f4 _ ag;have:aC.ap bF (aC.over g' λu=>u) p.1∈b.2:=e3▸bV q1;unfold aC.ap at this;rw[aN q2,ag p hp]at this;show gb.2.2 _ this
def yW.step{gG as:R0}{gs Qb:List du}{a:i9×Aaf}(m:yW gG as gs)(gq:∀b∈gG,jT b.2)(sound:∀g'∈Qb,∃g∈gs,∃b∈gG,ff g a b>g')(complete:∀g∈gs,∀b∈gG,∀g2,ff g a b>g2->∃g'∈Qb,g'.Perm g2):yW gG (as++[a]) Qb:=by
 show{λg' E2=>?_,λh hf=>?_};·let(g,hg,b,hb,e):=sound g' E2;show(m.ok g hg).put hb (gq b hb) e
 let(h1,h2):=aC.Fits.app.mp hf;let(g,hg,ag):=m.all h h1;let(nd,__):=m.ok g hg;have hb:=h2 a<|ar.mpr 9;let(g2,e,ag2):=aC.xb (ts:=a.2) (bY:=bF) nd ag;let(g',E2,pm):=complete g hg _ hb g2 (by unfold ff;rw[aN rfl];show e);show{g',E2,λp hp=>ag2 p<|pm.mem_iff.mp hp}
theorem Kz:∀{as:R0},(∀a∈as,a.2.length<=4)->(aC.lq bF as).length<=4*as.length
 |[],_=>aQ _
 |a::as,la=>by have h3:=la a ay;have h4:=jd bF a.2;have h5:=Kz λb hb=>la b<|az _ hb;unfold aC.lq at h5⊢;rw[a9,kH,aG,bJ];lia
def NR.len{gG as:R0}{g:du}(o:NR gG as g)(la:∀a∈as,a.2.length<=4):g.length<=4*as.length:=by let(nd,ks,__):=o;have h1:=js nd λu hu=>(ks u).mp hu;have h2:=Kz la;unfold keys at h1;rw[af]at h1;lia
def F3(br:R0):Prop:=∃l r,br=l++r/\(∀a∈l,∀z∈a.2,bF z=false)/\r.length<=2
def wt(a:i9×Aaf):Nat:=if a.2.any bF=true then 25 else 1
def acP(a:i9×Aaf):1<=wt a:=by unfold wt;split<;>decide
def yo(br:R0):Nat:=(br.map wt).foldr (·*·) 1
def Ii(l r:R0):yo (l++r)=yo l*yo r:=by
 unfold yo
 induction l with
 |nil=>simp
 |cons a l ih=>rw[nV,a9,a9,List.foldr_cons,List.foldr_cons,ih,kB]
def acy(l:R0):1<=yo l:=by
 induction l with
 |nil=>show aw _
 |cons a l ih=>show ni (acP a) ih
def Qu{br:R0}(f:F3 br)(i:Nat):yo (br.take i)<=625:=by
 have h:yo br<=625:=by
  let(l,r,rfl,no,l2):=f;have c1:yo l=1:=by
   induction l with
   |nil=>rfl
   |cons a l ih=>
    have e:wt a=1:=aL λh=>by let(z,hz,u):=fH.mp h;rw[no a ay z hz]at u;cases u
    change wt a*yo l=1;rw[e,ih λb hb=>no b<|az _ hb]
  have w25:∀a:i9×Aaf,wt a<=25:=λa=>by unfold wt;split<;>decide
  rw[Ii,c1,Fl]
  match r,l2 with
  |[],_=>change 1<=625;decide
  |[a],_=>have:=w25 a;change wt a*1<=625;lia
  |[a,b],_=>show aR (ni (w25 a)<|ni (w25 b)<|aw 1) 7
 have:=Ii (br.take i)<|br.drop i;rw[d5]at this;rw[this]at h;show aR (Nat.le_mul_of_pos_right _<|acy _) h
def aeU{goals:R0}{g:du}{a:i9×Aaf}(nd:goals.Nodup)(Jn:goals.length<=25)(n:(keys g).Nodup):(goals.countP λb=>(ff g a b).isSome)<=wt a:=by
 unfold wt;split;·show aR List.countP_le_length Jn
 rename_i c;have h:(goals.countP λb=>(ff g a b).isSome)<=goals.count a:=by
  show List.countP_mono_left λb _ q=>jx.mpr ?_;let(g',e):=lD.mp q;let(e1,e2):=IY e;let(__,__,__,f4):=aC.pD n e2;have e3:=f4 _<|aC.oo (h:=λu=>u) (aC.pD n e2).1;rw[dO λz hz=>?_,List.map_id]at e3;·show AV e1.symm e3.symm
  unfold aC.ap;rw[aL λu=>c<|fH.mpr ⟨z,hz,u⟩];rfl
 show aR h<|List.nodup_iff_count.mp nd a
def HR(g:du)(z:i9):Mg g z=aC.get g z:=9
def D5(H:Hp)(v:V)(g:du):Prop:=∃q,v=-q/\H q>.dK (gK g)
end
inductive Tv(K:Frag)(vs:Aam)(H:Hp)(Q:VK)(_x3:XK):Prop
 |mk (ta gl d0:cr) (jM uV:Aam) (br goals:R0) (_:vs=[-ta,-gl,-d0]) (_:bA K H ta jM) (_:dJ H jM br) (_:H gl>.lst uV) (_:dw K H uV goals) (_:H d0>.dK []) (_:br.length<=4) (_:goals.length<=25) (_:goals.Nodup) (_:F3 br) (_:Good br) (_:(∀b∈goals,jT b.2)) (_:∀l vs gs H',aX H H'->H l=none->H' l>.lst vs->Paired (D5 H') vs gs->yW goals br gs->gs.length<=625->Q (-l) H')
section
variable{P:io}{w:i6}{K:Frag}{mg:Aab}{base:nw}
def D5.sm{H H':Hp}(s:aX H H'){v:V}{g:du}(h:D5 H v g):D5 H' v g:=by let(q,e,h):=h;show{q,e,s _ _ h}
def Xc{kvs:List 95}{k:NK}{a:cr}{v:V}{p:NK×cr×V}(h:p∈putN kvs k a v):p∈kvs\/(p.1=k/\p.2.2=v):=by
 unfold putN at h;split at h
 ·let(q,hq,rfl):=aD.mp h;by_cases c:q.1=k;·rw[aN c];show .inr ⟨c,rfl⟩
  rw[aL c];show .inl hq
 rcases aE.mp h with h|h;·show .inl h
 rw[ar.mp h];show .inr ⟨rfl,rfl⟩
theorem L4{H:Hp}:∀{zs:Aam}{rows:R1},Kt H zs rows->qM K H (rows.map iV) zs
 |_,_,.nil=>by rw[gB,qM]
 |_,_,.cons ⟨a,e,h⟩ r=>by show{_,_,9,by rw[e];show GH<|bA.of h,L4 r}
def aej{H:Hp}{t:cr}{zs:Aam}{rows:R1}(ht:H t>.tup zs)(hr:Kt H zs rows)(ok:∀r∈rows,∀z∈r,PyData.strOk z=true):il K H (Bc rows) t:=by
 show{?_,(mJ (n:=1) λk hk=>?_).good 7};·unfold Bc;show{t,_,9,bA.of ht,L4 hr}
 let(r,h,rfl):=aD.mp hk;show AG<|ok r h
structure JT(P:io)(w:i6)(K:Frag)(H:Hp)(wd:cr)(kvs:List 95)(F:du->Prop):Prop where
 at_:iw P w K H wd kvs
 vals:∀p∈kvs,∃g,D5 H p.2.2 g/\xv p.1 g/\F g
def JT.sm{H H':Hp}{wd:cr}{kvs:List 95}{F:du->Prop}(x:JT P w K H wd kvs F)(s:aX H H'):JT P w K H' wd kvs F:=⟨x.at_.tp (cX.same s) (by
 let(u,e):=x.at_.some;rw[e,s _ _ e]),λp hp=>by let(g,h1,h2):=x.vals p hp;show{g,h1.sm s,h2}⟩
def JT.put{H:Hp}{wd t q:cr}{kvs:List 95}{F:du->Prop}{g:du}{kg:NK}(x:JT P w K H wd kvs F)(hk:il K H kg t)(hg:xv kg g)(hq:H q>.dK (gK g))(nq:q≠wd)(f:F g):JT P w K (upd H wd<|.ext<|DN P w wd<|putN kvs kg t (-q)) wd (putN kvs kg t (-q)) F:={x.at_.put hk,λp hp=>by
 rcases Xc hp with h|⟨h1,h2⟩
 ·obtain⟨g',⟨q',e,vJ⟩,h2⟩:=x.vals p h;show{g',{q',e,?_},h2};rw[aI λz=>?_];·show vJ
  rcases x.at_.1 with c|⟨c,_⟩;·rw[z,c]at vJ;cases vJ
  rw[c]at h;cases h
 show{g,{q,h2,by rw[aI nq];show hq},h1▸hg,f}}
def Rc{α β:Type}{R:α->β->Prop}{xs:List α}{ys:List β}(h:Paired R xs ys):(∀y∈ys,∃x∈xs,R x y)/\∀x∈xs,∃y∈ys,R x y:=by
 induction h with
 |nil=>show{λy hy=>(by cases hy),λx hx=>(by cases hx)}
 |@cons x y xs ys h _ ih=>
  show{λz hz=>?_,λz hz=>?_}
  ·rcases aK.mp hz with e|q;·show{x,ay,e▸h}
   let(u,hu,r):=ih.1 z q;show{u,az _ hu,r}
  rcases aK.mp hz with e|q;·show{y,ay,e▸h}
  let(u,hu,r):=ih.2 z q;show{u,az _ hu,r}
def Rf{α β γ:Type}{R:α->β->Prop}{S:γ->β->Prop}{f:α->γ}{xs:List α}{ys:List β}(h:Paired R xs ys)(k:∀x y,R x y->S (f x) y):Paired S (xs.map f) ys:=by
 induction h with
 |nil=>show .nil
 |cons h _ ih=>show .cons (k _ _ h) ih
theorem LH{α β:Type}{R:α->β->Prop}:∀{xs:List α},(∀x∈xs,∃y,R x y)->∃ys,Paired R xs ys
 |[],_=>{[],.nil}
 |x::xs,h=>by let(y,hy):=h x ay;let(ys,rK):=LH λz hz=>h z<|az _ hz;show{y::ys,.cons hy rK}
inductive Mp1(goals br:R0)(ta gl d0:cr)(H:Hp)(i:Nat)(Z:L2.St)(H2:Hp):Prop
 |mk (l:cr) (x4 x5 x6 x7 x8:Aan) (ms:Aam) (gs:List du) (_:Z=[some (-ta),some (-gl),some (-d0),some (-l),x4,x5,x6,x7,x8]) (_:i<=br.length) (_:aX H H2) (_:H l=none) (_:H2 l>.lst ms) (_:Paired (D5 H2) ms gs) (_:yW goals (br.take i) gs) (_:gs.length<=yo (br.take i))
def nF:b7 [AaH,AaU,AaQ,"_law_maps_here",AaG,"_law_wider",AaP,"_law_goal","_law_more"] [AaH,AaU,AaQ] (bI Lh):=iM 59
def Yg{f:cr}{fd:re}(F:d6 K "_law_maps" "_law_maps" Lh f fd)(T:Txt K mg)(acK:dh P w K mg base 1 "_law_put" [AaG,"_law_goal",AaP] (Z5 K)):cN P w K mg base fZ 2 f fd [AaH,AaU,AaQ] (Tv K):=by
 show F.ok nF 98;let(ta,gl,d0,jM,uV,br,goals,rfl,wY,jt,CD,P5,sx,l4,l5,UH,jk,good,gq,k):=h;show{_,aA (dW 3 nF<|c8<|bS<|pv 2)<|aA (eB bH 9 (pk<|pv 0) (gL 4 nF)<|aA (dW 5 nF hJ)<|aA (eB bH 9 (eC<|pv 3) (gL 6 nF)<|aP<|eB bH 9 (eC<|pv 1) (gL 07 nF)<|aA (dW 08 nF<|cl acK hr<|kj (pv 4) (pv 07)<|pv 6)<|aP<|dP (cD HL (pv 08) j6<|cM _) (aP<|Ap (Kr hr) (pv 5) (dH fq 9 T.jH 59<|bS<|bu (FV hr.hd) 9 T.qX 59<|bS<|XX<|pv 08) (pv 08) rfl) cP)<|aP<|dW 3 nF<|dH (FW hr.hd) 9 T.GK 59<|bS<|Q8<|pv 5)<|aP<|b8<|pv 3,?_}
 show{_,9,104,?_}
 intros l0 EZ H1 s1 rL
 show{_,9,ta,9,{_,dR wY s1},AH (Mp1 goals br ta gl d0 H) {l0,_,_,_,_,_,[-d0],[[]],9,aQ _,s1,EZ,rL,.cons {d0,9,s1 _ _ sx} .nil,yW.nil _,(by change 1<=1;decide)} (λi Z H2 _ zq=>by let(__,__,__,__,__,__,__,__,__,__,s2,__,__,__,__,__):=zq;show dR wY s2) ?_ ?_}
 ·ext i x Z H2 D1 hx ⟨l,x4,x5,x6,x7,x8,ms,gs,rfl,hi,s2,l0',lN,MR,mi,lgs⟩ m9 _;let(a,VL,ha):=Paired.at jt hx;have ilt:=(aq.mp VL).1;have ga:=good a<|aB VL;have lgm:=aV MR;have agW:=aR lgs<|Qu jk i;have ltk:(br.take i).length<=4:=by rw[bo];lia
  show ?_
  intros wd hwd H3 s3 hw3
  show{_,9,l,9,{_,bg.of<|s3 _ _ lN},iC (λj Z H4=>∃(x6 x7 x8:Aan)(kvs:List 95),Z=[some (-ta),some (-gl),some (-d0),some (-l),some x,some (-wd),x6,x7,x8]/\j<=gs.length/\aX H2 H4/\JT P w K H4 wd kvs (λg=>∃g0∈gs,∃b∈goals,ff g0 a b>g)/\(∀g∈gs.take j,∀b∈goals,∀g2,ff g a b>g2->∃p∈kvs,xv p.1 g2)/\kvs.length<=25*j/\kvs.length<=wt a*j) {_,_,_,[],9,aQ _,s3,{zX hw3,λp hp=>(by cases hp)},λg hg=>(by cases hg),aw _,aw _} (λj Z H4 _ zq=>by let(__,__,__,__,__,__,s4,__):=zq;show bg.of<|s4 _ _ lN) ?_ ?_}
  ·ext j y Z H4 D2 hy ⟨x6,x7,x8,kvs,rfl,hj,s4,wi,cp,lk,Mh⟩ Nb _;let(g0,hg0,q0,rfl,Ju):=Paired.at MR hy;have jlt:=(aq.mp hg0).1;have mg0:=aB hg0;have ok0:=mi.ok g0 mg0;have lg0:=ok0.len λa ha=>(good a<|dE ha).1;show{_,9,gl,9,{_,bg.of<|(s2.trans s4) _ _ CD},iC (λm Z H5=>∃(x7 x8:Aan)(kvs:List 95),Z=[some (-ta),some (-gl),some (-d0),some (-l),some x,some (-wd),some (-q0),x7,x8]/\m<=goals.length/\aX H2 H5/\JT P w K H5 wd kvs (λg=>∃g0∈gs,∃b∈goals,ff g0 a b>g)/\(∀g∈gs.take j,∀b∈goals,∀g2,ff g a b>g2->∃p∈kvs,xv p.1 g2)/\(∀b∈goals.take m,∀g2,ff g0 a b>g2->∃p∈kvs,xv p.1 g2)/\kvs.length<=25*j+m/\kvs.length<=wt a*j+(goals.take m).countP λb=>(ff g0 a b).isSome) {_,_,kvs,9,aQ _,s4,wi,cp,λb hb=>(by cases hb),lk,Mh} (λm Z H5 _ zq=>by let(__,__,__,__,__,s5,__):=zq;show bg.of<|(s2.trans s5) _ _ CD) ?_ ?_}
   ·ext m v Z H5 D3 hv ⟨x7,x8,kvs,rfl,hm,s5,wi,cp,cq,lk,Mh⟩ hD3 _;let(b,hb,hb2):=Paired.at P5 hv;have mlt:=(aq.mp hb).1;have gb:=gq b<|aB hb;have Lo:=s2.trans s5;have ZS:goals.take (m+1)=goals.take m++[b]:=by rw[aY,hb];rfl
    show{_,rfl,_,rfl,_,rfl,x,v,q0,g0,a,b,rfl,ha.keep<|dj.of Lo,hb2.same Lo,s5 _ _ Ju,by lia,ok0.1,by have:=ga.1;lia,by have:=gb.2.1;lia,λz hz=>{(ga.2.1 z hz).1,(ga.2.1 z hz).2.1},λH6 s6 no=>?_,λq g' H6 s6 q0' Vo yes=>?_}
    ·show{_,9,9,_,9,mH ?_};show hD3 _ _ {_,_,kvs,9,mlt,s5.trans s6,wi.sm s6,cp,λb' gm g2 e=>?_,8,by rw[ZS,Dr];lia};rw[ZS]at gm;rcases aE.mp gm with h|h;·show cq b' h g2 e
     rw[ar.mp h,no]at e;cases e
    show{_,9,9,_,9,ug ?_};have okg:=ok0.put (aB hb) gb yes;have tk2:br.take (i+1)=br.take i++[a]:=by rw[aY,VL];rfl
    rw[<-tk2]at okg;have lg':=okg.len λa ha=>(good a<|dE ha).1;have aiy:(br.take<|i+1).length<=4:=by rw[bo];lia
    have O3:∀r∈rowsOf g',∀z∈r,PyData.strOk z=true:=λr hr z hz=>by
     let(p,hp,rfl):=aD.mp hr;rcases aK.mp hz with e|hz;·let(c,hc,hzc,__):=aC.dI.mp<|(okg.2.1 p.1).mp<|bV hp;rw[e];show((good c<|dE hc).2.1 _ hzc).2.2
     rw[ar.mp hz];show(okg.2.2.2 p hp).2
    have nq:q≠wd:=λz=>by let(u,e):=wi.at_.some;rw[<-z,q0']at e;cases e
    show{_,9,_,9,_,9,q,gK g',9,Vo,?_}
    intros iv hiv H7 s7 ahR
    show{iv,q,g',9,ahR,s7 _ _ Vo,8,λl8 zs rs H8 k8 hl8 hl7 aeJ Ko=>?_};have s8:aX H7 H8:=k8;rename_i l8 hl8 H9 s9 hl9;show{l8,_,9,.inl {bg.of hl9,?_}}
    intros tt ye HA sA htA
    have s6A:=s7.trans<|s8.trans<|s9.trans sA;have hk:il K HA (Bc rs) tt:=aej htA (Paired.imp' (λ_ _ zq=>by let(a,e,h):=zq;show{a,e,sA _ _<|s9 _ _ h}) Ko) λr hr=>O3 r<|aeJ.mem_iff.mp hr;have hkg:xv (Bc rs) g':=⟨rs,aeJ,rfl⟩;have on:∀{g2:du},(∃p∈kvs,xv p.1 g2)->∃p∈putN kvs (Bc rs) tt (-q),xv p.1 g2:=λ⟨p,hp,h⟩=>by let(p',Vr,e):=Cu.mpr<|.inr ⟨p,hp,rfl⟩;show{p',Vr,e▸h}
    have wi2:=wi.sm<|s6.trans s6A;show{wd,tt,kvs,Bc rs,9,9,wi2.at_,hk,8,hD3 _ _ {_,_,putN kvs (Bc rs) tt (-q),9,mlt,λc u e=>?_,wi2.put hk hkg (s6A _ _ Vo) nq {g0,mg0,b,aB hb,yes},λg hg b' gm g2 e=>on<|cp g hg b' gm g2 e,λb' gm g2 e=>?_,?_,?_}};·rw[aI<|bx e hwd];show s6A _ _<|s6 _ _<|s5 _ _ e
    ·rw[ZS]at gm;rcases aE.mp gm with h|h;·show on (cq b' h g2 e)
     rw[ar.mp h,yes]at e;cases e;let(p',Vr,e'):=Cu.mpr<|.inl 9;show{p',Vr,e'▸hkg}
    ·have:=qW (kvs:=kvs) (k:=Bc rs) (b:=tt) (v:=-q);lia
    have:=qW (kvs:=kvs) (k:=Bc rs) (b:=tt) (v:=-q);rw[ZS,Dr];have e1:([b].countP λb=>(ff g0 a b).isSome)=1:=by rw[List.countP_cons,List.countP_nil,yes];rfl
    lia
   ext Z H5 ⟨x7,x8,kvs,rfl,_,s5,wi,cp,cq,lk,Mh⟩;rw[(aV P5),bj]at cq Mh;have hl:=aeU (a:=a) UH l5 ok0.1;show Nb _ _ {_,_,_,kvs,9,jlt,s5,wi,λg hg b hb g2 e=>?_,8,by rw[Nat.mul_succ];lia};rw[aY,hg0]at hg;rcases aE.mp hg with h|h;·show cp g h b hb g2 e
   rw[ar.mp h]at e;show cq b hb g2 e
  ext Z H4 ⟨x6,x7,x8,kvs,rfl,_,s4,wi,cp,lk,Mh⟩;rw[lgm,bj]at cp;rw[lgm]at Mh;show{_,9,wd,kvs,9,wi.at_,?_}
  intros vv hvv H5 s5 hv5
  have wi5:=wi.sm s5;show{vv,wd,kvs,9,hv5,wi5.at_,λl2 aeS=>?_};let(Qb,YM):=LH wi5.vals;have pm:=Rc YM;have s6:aX H5 (upd H5 l2<|.lst<|kvs.map (·.2.2)):=bh aeS _;have wH:=s2.trans<|s4.trans s5;have mi':yW goals (br.take<|i+1) Qb:=by
   rw[aY,VL];show mi.step gq (λg' E2=>?_) λg hg b hb g2 e=>?_;·let(p,__,__,__,h):=pm.1 g' E2;show h
   let(p,hp,ep):=cp g hg b hb g2 e;let(g',E2,__,e2,__):=pm.2 p hp;show{g',E2,e2.perm ep}
  show m9 _ _ {l2,_,_,_,_,_,kvs.map (·.2.2),Qb,9,ilt,wH.trans s6,wH.free aeS,aF,Rf YM λp g h=>h.1.sm s6,mi',?_};rw[aY,VL,Ii,<-(aV YM)];change kvs.length<=yo (br.take i)*(wt a*1);rw[Nat.mul_one,Nat.mul_comm];show aR Mh<|tQ _ lgs
 ext Z H2 ⟨l,x4,x5,x6,x7,x8,ms,gs,rfl,hi,s2,l0',lN,MR,mi,lgs⟩;rw[(aV jt),bj]at mi;show{_,9,k l ms gs H2 s2 l0' lN MR mi<|aR lgs<|Qu jk _}
abbrev View:=i9×Aaf×R0
def nQ(H:Hp)(v:V)(x:View):Prop:=∃p q,v=-p/\H p>.tup [.str x.1,q]/\Dc H q x.2.1 x.2.2
def nQ.keep{H H':Hp}(t:dj H H'){v:V}{x:View}(h:nQ H v x):nQ H' v x:=by let(p,q,e,h1,h2):=h;show{p,q,e,t _ _ h1,h2.keep t}
def oY:z∈iQ ts↔bF z=true/\z∈ts:=by rw[OH,ab1,gH];show and_comm
def ZN:i9×Aaf:=("rs",["?w"])
end
inductive OS(K:Frag)(vs:Aam)(H:Hp)(Q:VK)(_x3:XK):Prop
 |mk (f:cr) (v:V) (hz:Aaf) (gG:R0) (_:vs=[-f,v]) (_:dc K f H) (_:Dc H v hz gG) (_:1<=gG.length) (_:gG.length<=5) (_:qz gG) (_:∀(r:cr)(m7:Aaf)(br:R0)(H':Hp),dc K f H'->Ext f H H'->Dc H' (-r) m7 br->qz br->br.length<=3->m7.length<=4->(∀z∈m7,z∈iQ (eA br))->F3 br->m7.Nodup->m7≠[]->Q (-r) H')
section
variable{P:io}{w:i6}{K:Frag}{mg:Aab}{base:nw}
def adq{a:cr}{lo hi:Option Int}{H:Hp}{Q:VK}{xs:Aam}(ha:H a>.tup xs)(k:∀p H',aX H H'->H' p>.tup (lR xs lo hi)->Q (-p) H'):adD K (-a) lo hi H Q:=
 {a,xs,9,bA.of ha,λ⟨e1,e2⟩=>k a H 51 (by unfold lR;rw[e1,e2,nB,Dh,bj];show ha),λ_ p hp=>k p _ (bh hp _) aF}
def Rh{α β:Type}{R:α->β->Prop}{xs:List α}{ys:List β}(h:Paired R xs ys):∀a b:Nat,Paired R ((xs.drop a).take b) ((ys.drop a).take b):=by
 induction h with
 |nil=>ext a b;rw[Bu,Bs,Bu,Bs];show .nil
 |@cons x y xs ys h hp ih=>
  ext a b;cases a with
  |succ a=>show ih a b
  |zero=>
   cases b with
   |zero=>rw[qe,qe];show .nil
   |succ b=>show .cons h<|ih 0 b
inductive Vw1(K:Frag)(fe q:cr)(H:Hp)(Z:L2.St)(H2:Hp):Prop
 |mk (x2:V) (ta:cr) (mj:Aam) (br:R0) (_:Z=[some (-fe),some (-q),some x2,some (-ta),none,none,none,none,none,none,none,none,none,none]) (_:H2 ta>.tup mj) (_:dJ H2 mj br) (_:qz br) (_:1<=br.length) (_:br.length<=2) (_:dc K fe H2) (_:Ext fe H H2)
inductive Vw2(K:Frag)(fe q:cr)(H:Hp)(Z:L2.St)(H2:Hp):Prop
 |mk (x2 x3 x4 x5 x6:V) (x7 x9 xM uG:Aan) (tl:cr) (mj:Aam) (br:R0) (_:Z=[some (-fe),some (-q),some x2,some x3,some x4,some x5,some x6,x7,some (-tl),x9,xM,uG,none,none]) (_:tl≠fe) (_:H tl=none) (_:H2 tl>.lst mj) (_:dJ H2 mj br) (_:qz br) (_:1<=br.length) (_:br.length<=2) (_:dc K fe H2) (_:Ext fe H H2)
inductive Vw3(K:Frag)(fe q:cr)(H:Hp)(Z:L2.St)(H2:Hp):Prop
 |mk (x2 x3 x4 x5 x6:V) (x7 x9 xM uG:Aan) (tl:cr) (mj:Aam) (br:R0) (_:Z=[some (-fe),some (-q),some x2,some x3,some x4,some x5,some x6,x7,some (-tl),x9,xM,uG,none,none]) (_:tl≠fe) (_:H2 tl>.lst mj) (_:dJ H2 mj br) (_:qz br) (_:br.length<=3) (_:F3 br) (_:iQ (eA br)≠[]) (_:dc K fe H2) (_:Ext fe H H2)
inductive Vw4(K:Frag)(fe q:cr)(H:Hp)(Z:L2.St)(H2:Hp):Prop
 |mk (x2 x3 x4 x5 x6:V) (x7 x9 xM uG:Aan) (x12:V) (tl hl:cr) (mj:Aam) (br:R0) (hs:Aaf) (_:Z=[some (-fe),some (-q),some x2,some x3,some x4,some x5,some x6,x7,some (-tl),x9,xM,uG,some x12,some (-hl)]) (_:tl≠fe) (_:H2 tl>.lst mj) (_:dJ H2 mj br) (_:qz br) (_:br.length<=3) (_:F3 br) (_:hl≠fe) (_:hl≠tl) (_:H hl=none) (_:H2 hl>.lst (hs.map V.str)) (_:hs.length<=4) (_:(∀z∈hs,z∈iQ (eA br))) (_:hs.Nodup) (_:hs≠[]) (_:dc K fe H2) (_:Ext fe H H2)
inductive Vw5(K:Frag)(fe q ta np rd qA:cr)(x2:V)(tn:Int)(x7:Aan)(g:du)(H H2:Hp)(i:Nat)(Z:L2.St)(H8:Hp):Prop
 |mk (x9 xM uG:Aan) (vc:Aam) (FY:R0) (_:Z=[some (-fe),some (-q),some x2,some (-ta),some (-np),some<|.int tn,some (-rd),x7,some (-qA),x9,xM,uG,none,none]) (_:dj H2 H8) (_:H8 rd>.dK (gD g)) (_:H8 qA>.lst vc) (_:dJ H8 vc FY) (_:FY.length=i) (_:qz FY) (_:dc K fe H8) (_:Ext fe H H8)
def gZ:b7 [AaK,Abi,"_law_start",AaH,"_law_names","_law_turn","_law_renamed",AaZ,"_law_told",Aba,Abz,"_law_more","_law_unknowns_here",AaV] [AaK,Abi] (bI Ld):=iM 59
def Yd{f:cr}{fd:re}(F:d6 K "_law_view" "_law_view" Ld f fd)(T:Txt K mg)(cE:dh P w K mg base 1 Abx [AaK,Aa4] (uK K))(xA:dh P w K mg base 3 Abh [AaK,"_law_most"] (Fu K))(nE:dh P w K mg base 1 AbC [AaH] Gf):cN P w K mg base fZ 4 f fd [AaK,Abi] (OS K):=by
 show F.ok gZ 98;have hu:=pX hr;obtain⟨fe,v,hz,gG,rfl,hF,⟨q,hd,aa,jM,rfl,hq,vM,yh,jt⟩,l1,l5,a6,k⟩:=h;have la:=aV jt;show cut 3 (Vw1 K fe q H)
  (Ig 6 (Vw2 K fe q H)
   (Ig 1 (Vw3 K fe q H)
    (Ig 3 (Vw4 K fe q H)
     {_,aA (dP (cD mQ 55 aO<|cM _) (aP<|fW<|adN bO PySem.F.slot_list_reverse PySem.F.type_list_reverse RE<|pv 13) cP)<|aP<|b8<|dS<|b6 (dH fq 9 T.jH 59<|bS<|pv 13)<|dH fq 9 T.jH 59<|bS<|pv 08,?_} (λt2 ht=>{_,aA (dW 12 gZ<|cl nE hr<|bS<|pv 08)<|aA (dW 13 gZ<|pB zo (xU 9 (eF (fs:=[AaK]) (fr:=[0])) (eC<|pv 12) (λ_ _ _ _=>cD vY (cl cE hr<|b6 (pv 1) aO) aO<|cM _) (λ_ _ _ _=>pv 0)) ub<|pV aO)<|aA (dP (cD (LV hr.F7) (pv 13) (c8 hU)<|cM _) (aP<|dW 13 gZ<|pB zo (pv 12) ub<|pV aO) cP) ht,λtl=>?_}))
    (λt2 ht=>{_,aA (dP (cD (LV hr.F7) (cl nE hr<|bS<|pv 08) (c8 hU)<|cM _) (aP<|fW<|jr bO cw cn iB (pv 08)<|bS<|dS<|b6 cQ<|dS<|bS cQ) cP) ht,λtl=>?_}))
   (λt2 ht=>{_,aA (dW 4 gZ<|c8<|eX cQ<|kj cQ cQ cQ)<|aA (dW 5 gZ 55)<|aA (nZ (i:=6) gZ.nd 9 (Or.inr 9) hJ)<|aA (eB bH 9 (j5 9 T.mZ<|bS aO) (gL 07 gZ)<|aP<|wq hu (pv 6) (cm eJ (pv 4) (pv 07) (λ_ _=>9)) (cm eJ (pv 4) (c9 qD (c9 ir (pv 07)<|pv 5) aO) (λ_ _=>9)) 9)<|aA (dW 08 gZ<|c8 hU)<|aA (eB bH 9 (pk<|pv 3) (lA 9<|cJ (gL 09 gZ)<|cJ (gL 10 gZ) ic)<|aA (vW (j:=11) gZ.nd 9 9 9 (eF (fs:=["_law_renamed"]) (fr:=[6])) (pk<|pv 10) (λ_ _ _ _=>As hu (pv 1) (pv 0) (pv 0) aao))<|aA (dP (cD mQ 55 aO<|cM _) (aP<|rX cQ<|LK (pv 11) (cl cE hr<|b6 (pv 0)<|bu dD 9 T.fJ bK<|bS<|pv 11) set_list) cP)<|aP<|fW<|jr bO cw cn iB (pv 08)<|bS<|dS<|b6 (pv 09)<|dH fq 9 T.jH 59<|bS<|pv 11) ht,λtl=>?_}))
  (λt2 ht=>{_,aA (dW 2 gZ<|cl cE hr<|b6 (pv 0)<|bu dD 9 T.fJ bK<|bS<|cm fh (pv 1) aO (λ_ _=>9))<|aA (dW 3 gZ<|pB abd (cm fh (pv 1) aO (λ_ _=>9)) (pV<|pv 2)<|pV<|c9 ir (c9 ir (pv 2) aO) 55)<|aA (dP (cD mQ 55 aO<|cM _) (aP<|dW 3 gZ<|cm fh (cl xA hr<|b6 (pv 0) aO) aO (λ_ _=>9)) cP) ht,λtl=>?_})
 ·ext Z H2 ⟨x2,x3,x4,x5,x6,x7,x9,xM,uG,x12,tl,hl,mj,br,hs,rfl,wN,EV,qF,g6,l3,jk,UG,nht,EZ,P4,lh,hh,hnd,gO,iN,kG⟩;show{_,9,fe,2,9,iN,7,7,λi3 H3 a0 a1 ju iX=>?_};have fin:∀(vG:Aaf)(H4:Hp),dc K fe H4->Ext fe H H4->dJ H4 mj br->vG.length<=4->(∀z∈vG,z∈iQ (eA br))->vG.Nodup->vG≠[]->∀tp,H4 tp=none->∀ta,upd H4 tp (.tup<|vG.map V.str) ta=none->∀qa,upd (upd H4 tp<|.tup<|vG.map V.str) ta (.tup mj) qa=none->Q (-qa) (upd (upd (upd H4 tp<|.tup<|vG.map V.str) ta<|.tup mj) qa<|.tup [-tp,-ta]):=λvG H4 ji gP RV lh4 hh4 nd4 ne4 tp tJ ta wY qa Vn=>by have s8:=bh wY<|.tup mj;have s9:=bh Vn<|.tup [-tp,-ta];have Ln:=((bh tJ<|.tup<|vG.map V.str).trans s8).trans s9;show k qa vG br _ (ji.same Ln) (λb o n h=>Ln _ _<|gP b o n h) {qa,tp,ta,mj,9,aF,s9 _ _<|s8 _ _ aF,s9 _ _ aF,dJ.keep (dj.of Ln) RV} g6 l3 lh4 hh4 jk nd4 ne4
  have GX:=iN.iR iX;have MV:=iX _ _ UG P4;have RX:=iX _ _ wN EV;show{9,_,9,dQ 24 (λ_=>{_,9,hl,_,9,.inl {bg.of MV,λtp tJ=>{_,9,tl,_,9,.inl {bg.of<|bh tJ _ _ _ RX,λta wY=>{31,fin hs _ ju (kG.trans iX) (dJ.keep GX qF) lh hh hnd gO tp tJ ta wY}}}}})};show{_,9,.inl {9,_,bg.of MV},hl,_,9,9,MV,?_};show{_,9,hl,_,9,.inl {bg.of (by rw[aF,List.map_reverse]),λtp tJ=>{_,9,tl,_,9,.inl {bg.of<|bh tJ _ _ _ (by rw[aI nht.symm];show RX),λta wY=>{31,fin hs.reverse _ (ju.lst MV UG _) ((kG.trans iX).own EZ _) (dJ.keep (GX.lst MV _) qF) (by rw[BF];show lh) (λz m7=>hh z<|xr.mp m7) (by unfold List.Nodup;rw[List.pairwise_reverse];show hnd.imp λh=>h.symm) (λe=>gO<|List.reverse_eq_nil_iff.mp e) tp tJ ta wY}}}}}
 ·ext Z H2 ⟨x2,x3,x4,x5,x6,x7,x9,xM,uG,qA,mj,br,rfl,wN,EV,qF,g6,l3,jk,hun,iN,kG⟩;show{_,9,qA,mj,br,9,.inl EV,qF,g6,8,λul H3 s3 ZQ Bf=>?_};have lu:(iQ<|eA br).length<=12:=by have h1:=DS<|eA br;have h2:=g6.len br.length;rw[bj]at h2;lia
  have nul:=iN.lC ZQ;have ju:=iN.same s3;have iX:Ext fe H H3:=λb o n h=>s3 _ _<|kG b o n h;have MH:=dJ.keep (dj.of s3) qF;have RX:=s3 _ _ EV;have und:=Ta<|eA br;generalize EU:iQ (eA br)=us at Bf lu hun und;have u1:us.take 1≠[]:=by
   cases us with
   |nil=>show absurd rfl hun
   |cons=>exactλe=>by cases e
  show{_,9,ul,9,{_,bg.of Bf},j9 (xs:=us.map V.str) (λj ys H4=>dc K fe H4/\Ext fe H3 H4/\∃hs:Aaf,ys=hs.map V.str/\(∀z∈hs,z∈us)/\hs.length<=j/\hs.Sublist (us.take j)) 75 {ju,Ext.refl _ _,[],9,λz h=>90,aw _,List.nil_sublist _} ?_ ?_ ?_};·ext j ys H4 hj ⟨ji,gP,hs,rfl,_,lj,_⟩;show{bg.of<|gP _ _ nul Bf,by rw[af];show lj}
  ·ext j z ys H4 N m7 ⟨ji,gP,hs,rfl,sub,lj,sb⟩ hN;let(z,vF,rfl):=k9 m7;show{_,9,fe,4,9,ji,7,7,λi5 H5 a0 a1 j8 lP=>{_,_,9,9,_,9,dQ (λ_=>{_,9,hN _ _ {j8,gP.trans lP,hs++[z],by rw[aJ];rfl,λy hy=>?_,aG▸d7 lj,by rw[aY,vF];show sb.append<|List.Sublist.refl _}}) (λ_=>hN _ _ {j8,gP.trans lP,hs,9,sub,fQ lj,sb.trans<|List.take_sublist_take_left<|fY j})}};rcases aE.mp hy with h|h;·show sub y h
   rw[ar.mp h];show aB vF
  ext ys H4 ⟨ji,gP,hs,rfl,sub,lj,sb⟩ l4 P0;rename_i l4 P0 H5 s5 hl5;show zE {_,9,_,_,9,bg.of hl5,λhl P4=>?_};rw[show lR (hs.map V.str) none (some 4)=(hs.take 4).map V.str by rw[show(4:Int)=((4:Nat):Int)from rfl,NC,Bt]];have s6:aX H5 (upd H5 hl<|.lst<|(hs.take 4).map V.str):=bh P4 _;have MS:upd H5 hl (.lst<|(hs.take 4).map V.str) hl>.lst ((hs.take 4).map V.str):=aF;have lP:Ext fe H H5:=λb o n h=>s5 _ _<|iX.trans gP b o n h;have YB:=s5 _ _<|gP _ _ wN RX;have j8:=ji.same s5;have UG:=j8.lC P4;generalize upd H5 hl (.lst<|(hs.take 4).map V.str)=H6 at s6 MS⊢;show{_,9,56,?_}
  intros e0 Bi H7 s7 h7
  have zr:=s6.trans s7;have lO:Ext fe H H7:=λb o n h=>zr _ _<|lP b o n h;have mN:=j8.same zr;have aeD:=dJ.keep (((ju.iR gP).trans<|dj.of<|s5.trans s6).trans<|dj.of s7) MH;show{hl,e0,_,9,9,bg.of<|s7 _ _ MS,bg.of h7,_,9,dQ 24 (λce=>?_)};·show{_,9,zE {_,9,_,_,9,bg.of<|zr _ _<|s5 _ _<|gP _ _ nul Bf,λh8 VE=>?_}};rw[show lR (us.map V.str) none (some 1)=(us.take 1).map V.str by rw[show(1:Int)=((1:Nat):Int)from rfl,NC,Bt]];have s8:aX H7 (upd H7 h8<|.lst<|(us.take 1).map V.str):=bh VE _;have RW:=zr _ _ YB;show tl _ _ {_,_,_,_,_,_,_,_,_,_,qA,h8,mj,br,us.take 1,9,wN,s8 _ _ RW,dJ.keep (dj.of s8) aeD,g6,l3,jk,mN.lC VE,(bx RW VE).symm,lO.none (mN.lC VE) VE,aF,by rw[bo];lia,λz h=>by rw[EU];show dE h,(qu _ us).nodup und,u1,mN.same s8,λb o n h=>s8 _ _<|lO b o n h}
  show tl _ _ {_,_,_,_,_,_,_,_,_,_,qA,hl,mj,br,hs.take 4,9,wN,zr _ _ YB,aeD,g6,l3,jk,UG,(bx YB P4).symm,lP.none UG P4,s7 _ _ MS,by rw[bo];lia,λz h=>by rw[EU];show sub z<|dE h,(qu 4 hs).nodup<|sb.nodup<|(qu _ us).nodup und,λe=>ce (by rw[e];rfl),mN,lO}
 ·ext Z H2 ⟨x2,x3,x4,x5,x6,x7,x9,xM,uG,qA,mj,br,rfl,wN,KL,EV,qF,g6,l1',l2,iN,kG⟩;show{_,9,qA,mj,br,9,.inl EV,qF,g6,8,λul H3 s3 ZQ Bf=>{56,?_}}
  intros e0 Bi H4 s4 h4
  have mL:=s3.trans s4;have ji:=iN.same mL;have gP:=λb o n h=>mL _ _<|kG b o n h;have RV:=dJ.keep (dj.of mL) qF;have YC:=mL _ _ EV;have lt:=aV qF;show{ul,e0,_,9,9,bg.of<|s4 _ _ Bf,bg.of h4,_,9,dQ 93 (λc=>tl _ _ {_,_,_,_,_,_,_,_,_,qA,mj,br,9,wN,YC,RV,g6,8,{[],br,9,λa ha=>(by cases ha),l2},λe=>c (by rw[e];rfl),ji,gP})};show{_,9,.inl {9,_,bg.of YC},104,?_}
  intros p1 h1 H5 s5 h5
  show{31,?_}
  intros p2 h2 H6 s6 h6
  have wH:=s5.trans s6;have YA:=wH _ _ YC;have kW:Ext fe H H6:=λb o n h=>wH _ _<|gP b o n h;have t7:dj H6 (upd H6 qA<|.lst<|mj++[-p2]):=(dj.refl H6).lst YA _;have e0':iQ (eA br)=[]:=by
   cases e:iQ (eA br)with
   |nil=>rfl
   |cons z r=>rw[e]at c;cases c
  show{_,_,_,9,9,YA,bB ∅,tl _ _ {_,_,_,_,_,_,_,_,_,qA,mj++[-p2],br++[ZN],9,wN,aF,Paired.Gk (dJ.keep ((dj.of wH).trans t7) RV) {p2,p1,9,t7 _ _ h6,t7 _ _<|s6 _ _ h5},λa ha=>?_,aG▸d7 l2,{br,[ZN],9,λa ha z m7=>?_,7},λe=>?_,(ji.same wH).lst YA wN _,kW.own KL _}}
  ·rcases aE.mp ha with h|h;·show g6 a h
   rw[ar.mp h];show{59,7,7,λz m7=>by rw[ar.mp m7];decide+kernel}
  ·cases e:bF z with
   |false=>rfl
   |true=>
    have:z∈iQ (eA br):=oY.mpr {e,nJ.mpr ⟨a,ha,m7⟩};rw[e0']at this;cases this
  have:("?w":i9)∈iQ (eA<|br++[ZN]):=oY.mpr {59,nJ.mpr {ZN,bq _ ay,59}};rw[e]at this;cases this
 ·ext Z H2 ⟨x2,ta,mj,br,rfl,wY,qF,g6,l1',l2,iN,kG⟩;show{130,λnp hnp=>?_};have s3:aX H2 (upd H2 np<|.lst<|ki.map V.str):=bh hnp _;have aeP:upd H2 np (.lst<|ki.map V.str) np>.lst (ki.map V.str):=aF;have el:ki.map V.str=[V.str "?x",.str "?y",.str "?z",.str "?x1"]:=9;rw[<-el];generalize upd H2 np (.lst<|ki.map V.str)=H3 at s3 aeP⊢;have ju:=iN.same s3;have iX:Ext fe H H3:=λb o n h=>s3 _ _<|kG b o n h;show{_,9,fe,4,9,ju,7,7,λtn H4 a0 a1 ji gP=>λrd hrd=>?_};have nrd:=ji.lC hrd;have ah7:=iX.trans gP;have YI:=gP _ _ (iN.lC hnp) aeP;rename_i rd hrd H5 s5 ahF;show{4,9,7,7,sE (λj Z H6=>∃(x7:Aan)(g:du),Z=[some (-fe),some (-q),some x2,some (-ta),some (-np),some<|.int tn,some (-rd),x7,none,none,none,none,none,none]/\aX H4 H6/\H6 rd>.dK (gD g)/\g.length<=j/\∀p∈g,p.2∈mq) {_,[],9,s5,ahF,aw _,λp hp=>(by cases hp)} ?_ ?_};·ext j Z H6 D1 hj ⟨x7,g,rfl,s6,R5,lg,vg⟩ m9 _;have aeO:=s6 _ _ YI;have l4:(ki.length:Int)=4:=9;let(y,hy,ev):=pj (zs:=ki) (i:=(0+(j:Int)+tn) % 4) ∅ ∅;let(z,__,ev2):=pj (zs:=ki) (i:=0+(j:Int)) ∅ ∅;show{_,9,_,9,_,9,_,_,9,9,_,_,9,9,7,_,_,_,_,9,9,bg.of aeO,ev,_,9,_,9,_,9,_,_,_,_,9,9,bg.of aeO,ev2,rd,_,9,xB.k (k:=Sum.inr z) R5 (by unfold gD;rw[af];show bB ∅),?_};rw[Pd];have lp:=Lz g z y;show m9 _ _ {_,yH g z y,9,λb u e=>by rw[aI<|bx e hrd];show s6 _ _ e,aF,8,T6 vg<|(by decide+kernel:∀y∈ki,y∈mq) y hy}
  ext Z H6 ⟨x7,g,rfl,s6,R5,lg,vg⟩;show{56,λqA RY=>?_};have oj:=ji.same s6;have wN:=oj.lC RY;have kW:Ext fe H H6:=λb o n h=>s6 _ _<|ah7 b o n h;have KL:=kW.none wN RY;rename_i qA RY H7 s7 RW;have aeG:=((dj.of s3).trans<|ju.iR gP).trans<|dj.of<|s6.trans s7;have ltv:=aV qF;show{_,9,ta,9,{_,bA.of<|aeG _ _ wY},AH (Vw5 K fe q ta np rd qA x2 tn x7 g H H2) {_,_,_,[],[],9,aeG,s7 _ _ R5,RW,.nil,9,λa ha=>(by cases ha),oj.same s7,λb o n h=>s7 _ _<|kW b o n h} (λi Z H8 _ zq=>by let(__,__,__,__,__,__,t8,__,__,__,__,__,__,__):=zq;show bA.of<|t8 _ _ wY) ?_ ?_}
  ·ext i x Z H8 D1 hx ⟨x9,xM,uG,vc,FY,rfl,t8,HZ,MK,RU,li,g8,sy,iW⟩ m9 _;let(a,ha,p,t,rfl,hp,ht'):=Paired.at qF hx;let(an,al1,al3,att):=g6 a<|aB ha;have cb:=(aq.mp ha).1;have lt':vc.length=i:=li▸aV RU;have Vl:=t8 _ _ ht';show{p,_,9,bA.of<|t8 _ _ hp,9,_,_,9,_,_,9,9,?_};show{_,9,t,9,{_,bA.of Vl},xi (xs:=a.2.map V.str) (λi ys H9=>H9=H8/\i<=a.2.length/\ys=((a.2.take i).map<|kM g).map V.str) 75 {9,aQ _,9} ?_ ?_ ?_};·ext i ys H9 hi ⟨rfl,_,rfl⟩;show{bA.of Vl,?_};rw[af,af,bo];lia
   ·ext i x ys H9 N hc ⟨rfl,hi,rfl⟩ hN;let(z,m7,rfl):=k9 hc;have cb:=(aq.mp m7).1;show{_,9,rd,9,.inl {_,.inl HZ},_,9,_,9,_,jQ.k (k:=Sum.inr z) HZ,?_};have e:(jo (gD g) (Sum.inr z:Key)).getD (.str z)=.str (kM g z):=by rw[Hy];unfold kM;cases Mg g z<;>rfl
    rw[e];show hN _ _ {9,cb,?_};rw[aY,m7,aJ,aJ];rfl
   ext ys H9 ⟨rfl,_,rfl⟩ ml PZ;rw[af,bj];have lms:(a.2.map<|kM g).length=a.2.length:=af _;have vms:∀z∈a.2.map (kM g),z∈mq:=λz m7=>by let(y,hy,rfl):=aD.mp m7;show ab7 vg<|att y hy
   generalize a.2.map (kM g)=ms at lms vms;have fE:aX H9 (upd H9 ml<|.lst<|ms.map V.str):=bh PZ _;have Kq:upd H9 ml (.lst<|ms.map V.str) ml>.lst (ms.map V.str):=aF;have UD:=sy.lC PZ;generalize upd H9 ml (.lst<|ms.map V.str)=ky at fE Kq⊢;have Na:=sy.same fE;have fin:∀(Be:Aaf)(HA:Hp),Be.length=a.2.length->(∀z∈Be,z∈mq)->dc K fe HA->Ext fe H HA->dj H9 HA->HA rd>.dK (gD g)->HA qA>.lst vc->∀tt,HA tt=none->∀ap,upd HA tt (.tup<|Be.map V.str) ap=none->upd (upd HA tt<|.tup<|Be.map V.str) ap (.tup [.str a.1,-tt]) qA>.lst vc/\D1.nx [some (-fe),some (-q),some x2,some (-ta),some (-np),some<|.int tn,some (-rd),x7,some (-qA),some<|.str a.1,some (-t),some (-ml),none,none] (upd 213 qA<|.lst<|vc++[-ap]):=λBe HA lm vm hFA exA tA hrA ahC tt ye ap w4=>by
    have sC:=bh w4<|.tup [.str a.1,-tt];have TR:=(bh ye<|.tup<|Be.map V.str).trans sC;have Yz:=TR _ _ ahC;have tD:dj 213 (upd 213 qA<|.lst<|vc++[-ap]):=(dj.refl _).lst Yz _;have t9D:=(tA.trans<|dj.of TR).trans tD;show{Yz,m9 _ _ {_,_,_,vc++[-ap],FY++[(a.1,Be)],9,t8.trans t9D,?_,aF,Paired.Gk (dJ.keep t9D RU) {ap,tt,9,tD _ _ aF,tD _ _<|sC _ _ aF},by rw[aG,li];rfl,26,(hFA.same TR).lst Yz wN _,(show Ext fe H _ fromλb o n h=>TR _ _<|exA b o n h).own KL _}};·rw[aI<|bx R5 RY];show TR _ _ hrA
    rcases aE.mp hb with h|h;·show g8 b h
    rw[ar.mp h];show{an,by change 1<=Be.length;lia,by change Be.length<=3;lia,vm}
   show{_,9,fe,6,9,Na,7,7,λi11 xw b0 b1 aeZ FQ=>{9,_,9,dQ 24 24}}
   ·show{_,9,_,9,_,9,_,_,9,.inl {_,bg.of<|FQ _ _ UD Kq,9},fe,_,9,aeZ,19,19,λi12 Bv c0 c1 ah3 vf=>?_};rw[af]at c1;have V4:=FQ.trans vf;have YJ:=V4 _ _ UD Kq;have e13:upd Bv ml (.lst<|(ms.map V.str).set i12.toNat<|.str "?w") ml>.lst ((ms.set i12.toNat "?w").map V.str):=by rw[aF,List.map_set]
    have aeF:upd Bv ml (.lst<|(ms.map V.str).set i12.toNat<|.str "?w") qA>.lst vc:=by rw[aI ((bx MK PZ).symm).symm];show(V4 _ _ wN<|fE _ _ MK)
    show{ml,_,_,i12.toNat,9,9,YJ,by unfold Jr;rw[aN c0,aN (by rw[af];show c1)],?_};show{_,9,.inl {9,_,bg.of aeF},_,9,_,9,ml,_,9,.inl {bg.of e13,λtt ye=>{31,λap w4=>?_}}};let(h1,h2):=fin (ms.set i12.toNat "?w") (upd Bv ml<|.lst<|(ms.map V.str).set i12.toNat<|.str "?w") (by rw[yq];show lms) (λz m7=>(List.mem_or_eq_of_mem_set m7).elim (vms z) λe=>by rw[e];decide+kernel) (ah3.lst YJ UD _) (((show Ext fe H ky fromλb o n h=>fE _ _<|iW b o n h).trans V4).own (iW.none UD PZ) _) (((dj.of fE).trans<|Na.iR V4).lst YJ _) (by rw[aI ((bx HZ PZ).symm).symm];show V4 _ _ nrd<|fE _ _ HZ) aeF tt ye ap w4;show{_,_,_,9,9,h1,bB ∅,h2}
   have aeE:=FQ _ _ wN<|fE _ _ MK;show{_,9,.inl {9,_,bg.of aeE},_,9,_,9,ml,_,9,.inl {bg.of<|FQ _ _ UD Kq,λtt ye=>{31,λap w4=>?_}}};let(h1,h2):=fin ms xw lms vms aeZ ((show Ext fe H ky fromλb o n h=>fE _ _<|iW b o n h).trans FQ) ((dj.of fE).trans<|Na.iR FQ) (FQ _ _ nrd<|fE _ _ HZ) aeE tt ye ap w4;show{_,_,_,9,9,h1,bB ∅,h2}
  ext Z H8 ⟨x9,xM,uG,vc,FY,rfl,t8,HZ,MK,RU,li,g8,sy,iW⟩;show tl _ _ {_,_,_,_,_,_,_,_,_,qA,vc,FY,9,wN,KL,MK,RU,g8,8,8,sy,iW}
 show{_,9,_,9,_,_,_,_,9,9,bA.of hq,9,_,_,9,.inr {_,bA.of yh,9},fe,_,9,hF,8,8,λi0 H1 a0 a1 E4 Bn=>?_};show{_,9,_,_,_,_,9,9,bA.of<|(hF.iR Bn) _ _ hq,9,_,9,_,9,_,9,_,_,9,9,_,9,fe,2,9,E4,7,7,λi2 H2 b0 b1 iN kG=>{_,_,9,9,_,9,adq ((hF.iR<|Bn.trans kG) _ _ yh) λpt H3 s3 hpt=>?_}};have vf:=Bn.trans kG;have ju:=iN.same s3;have iX:Ext fe H H3:=λb o n h=>s3 _ _<|vf b o n h;obtain⟨n0,rfl⟩:∃n:Nat,i0=n:={i0.toNat,8};obtain⟨n2,rfl⟩:∃n:Nat,i2=n:={i2.toNat,8};have ec:lR jM (some (n0:Int)) (some<|(n0:Int)+1+(n2:Int))=(jM.drop n0).take (1+n2):=by
  rw[show(n0:Int)+1+(n2:Int)=((n0+1+n2:Nat):Int) by lia];unfold lR;rw[HT.zp,HT.zp,jy (show n0<=jM.length by lia)];by_cases c:n0+1+n2<=jM.length;·rw[jy c,show n0+1+n2 -n0=1+n2 by lia]
  rw[rq ∅,cS (by rw[fG];lia),cS (by rw[fG];lia)]
 rw[ec]at hpt;have MH:=dJ.keep ((hF.iR vf).trans<|dj.of s3)<|Rh jt n0<|1+n2;have l12:1<=((gG.drop n0).take<|1+n2).length/\((gG.drop n0).take<|1+n2).length<=2:=by rw[bo,fG];lia
 have g3:qz ((gG.drop n0).take<|1+n2):=λa ha=>a6 a<|AZ<|dE ha;generalize (jM.drop n0).take (1+n2)=mj at hpt MH;generalize (gG.drop n0).take (1+n2)=br at MH l12 g3;show{_,9,fe,4,9,ju,7,7,λi4 H4 c0 c1 ji gP=>{9,_,9,dQ 24 24}};·show{_,9,fe,2,9,ji,7,7,λr hz5 aie H5 j8 lP ag5 m1 m2 g5=>?_};let(q5,hd5,aa5,aid,e5,hq5,aiF,ah1,agg):=ag5;cases e5;show{_,_,_,_,9,9,bA.of hq5,9,tl _ _ {_,aa5,aid,aie,9,ah1,agg,g5,m1,8,j8,(iX.trans gP).trans lP}}
 have t4:=ju.iR gP;show tl _ _ {_,pt,mj,br,9,t4 _ _ hpt,dJ.keep t4 MH,g3,l12.1,l12.2,ji,iX.trans gP}
noncomputable def mV:Aaf:=["v","vv","r","w1"]
structure pG(x:View):Prop where
 a6:qz x.2.2
 l3:x.2.2.length<=3
 jk:F3 x.2.2
 lh:x.2.1.length<=4
 hh:∀z∈x.2.1,z∈iQ (eA x.2.2)
 nd:x.2.1.Nodup
 ne:x.2.1≠[]
 EL:x.1∈mV
def AI{f:cr}{H H1 H2:Hp}(s:aX H H1)(n:H f=none)(e:Ext f H1 H2):aX H H2:=λb o h=>e b o (bx h n)<|s _ _ h
end
inductive KY(K:Frag)(vs:Aam)(H:Hp)(Q:VK)(_x3:XK):Prop
 |mk (a:cr) (ns:List Int) (first:Int) (v:V) (hz:Aaf) (gG:R0) (_:vs=[-a,.int first,v]) (_:Fh K H a (ns.map V.int)) (_:ns.length<=63) (_:0<=first) (_:Dc H v hz gG) (_:1<=gG.length) (_:gG.length<=5) (_:qz gG) (_:∀(l:cr)(dZ:Aam)(xs:List View)(H':Hp),aX H H'->H l=none->H' l>.lst dZ->Paired (nQ H') dZ xs->(∀x∈xs,pG x)->(xs.map (·.1)).Nodup->1<=xs.length->xs.length<=4->Q (-l) H')
def BM(t i:Nat):i9:=mV.getD ((i+t) % 4) ""
def aaW:∀t<4,∀m<5,((List.range m).map<|BM t).Nodup:=by decide+kernel
def aaV:∀t<4,∀m<5,BM t m∈mV:=by decide+kernel
def pG.Po{x:View}(v:pG x):nK x.1:=(by decide+kernel:∀z∈mV,z.length<=100/\PyData.strOk z=true) x.1 v.EL
def afy{t:Int}{j:Nat}(h0:0<=t)(h4:t<4):rO (mV.map V.str) ((0+(j:Int)+t) % 4)>.str (BM t.toNat j):=by
 have e:(0+(j:Int)+t) % 4=(((j+t.toNat) % 4:Nat):Int):=by lia
 rw[e];show iF ?_;have hl:(j+t.toNat) % 4<mV.length:=qd _ 7;rw[aW];unfold BM;rw[b5,au hl];rfl
section
variable{P:io}{w:i6}{K:Frag}{mg:Aab}{base:nw}
def Fh.same{H H':Hp}{a:cr}{xs:Aam}(h:Fh K H a xs)(s:aX H H'):Fh K H' a xs:=by
 rcases h with⟨ob,h⟩|h;·show .inl {ob,s _ _ h}
 show .inr h
def rW:b7 [Abr,AaQ,Abi,"_law_names",AaK,Aa4,"_law_turn"] [Abr,AaQ,Abi] (bI IK):=iM 59
def Ut{f:cr}{fd:re}(F:d6 K "_law_views" "_law_views" IK f fd)(T:Txt K mg)(cE:dh P w K mg base 1 Abx [AaK,Aa4] (uK K))(Ac:dh P w K mg base 2 "_law_box" [Abr,AaZ] (QS K))(Zy:dh P w K mg base 4 "_law_view" [AaK,Abi] (OS K)):cN P w K mg base fZ 5 f fd [Abr,AaQ,Abi] (KY K):=by
 show F.ok rW 98;let(a,ns,first,v,hz,gG,rfl,ha,ln,f0,hq,l1,l5,a6,k):=h;show{_,aA (nZ (i:=3) rW.nd 9 (Or.inr 9)<|c8<|eX cQ<|kj cQ cQ cQ)<|aA (dW 4 rW<|cl Ac hr<|b6 (pv 0)<|pv 1)<|aA (dW 5 rW<|c9 ir aO<|cl cE hr<|b6 (pv 4) aO)<|aA (nZ (i:=6) rW.nd 9 (Or.inr 9)<|cl cE hr<|b6 (pv 4) aO)<|aP<|b8<|lY 9 (eF (fs:=["_law_names","_law_turn",Abr,AaQ,Abi]) (fr:=[3,6,0,1,2])) (j5 9 T.mZ<|bS<|pv 5) (λ_ _ _ _=>dS<|b6 (cm (wX) (pv 1) (c9 qD (c9 ir (pv 0)<|pv 2) aO) (λ_ _=>9))<|cl Zy hr<|b6 (cl Ac hr<|b6 (pv 3)<|c9 ir (c9 ir (pv 4) aO)<|pv 0)<|pv 5),?_}
 show{130,λnp hnp=>?_};have s1:aX H (upd H np<|.lst<|mV.map V.str):=bh hnp _;have aeQ:upd H np (.lst<|mV.map V.str) np>.lst (mV.map V.str):=aF;have el:mV.map V.str=[V.str "v",.str "vv",.str "r",.str "w1"]:=9;rw[<-el];generalize upd H np (.lst<|mV.map V.str)=H1 at s1 aeQ⊢;show{_,9,_,9,a,ns,first,9,ha.same s1,ln,f0,λfe H2 iN s2 fe0=>?_};show{_,9,fe,4,9,iN,7,7,λi3 H3 a0 a1 ju iX=>{_,_,9,9,?_}};show{_,9,fe,4,9,ju,7,7,λtn H4 b0 b1 ji gP=>?_};have s14:=AI s2 fe0<|iX.trans gP;have YI:=s14 _ _ aeQ;show{_,rfl,_,rfl,by lia,by lia,λj m ys H5=>j<=(1+i3).toNat/\m=(1+i3).toNat -j/\aX H4 H5/\∃xs:List View,Paired (nQ H5) ys xs/\42=j/\xs.map (·.1)=(List.range j).map (BM tn.toNat)/\∀x∈xs,pG x,{_,aQ _,9,51,[],.nil,9,9,λx hx=>(by cases hx)},?_};ext j m ys H5 ⟨hj,rfl,s5,xs,Js,lx,nx,vk⟩;have ly:48=j:=lx▸aV Js;have Lq:=(s1.trans s14).trans s5;by_cases cb:j<(1+i3).toNat
 ·show .inr {cb,by rw[ly];show bB ∅,?_};ext u H6 ⟨rfl,rfl⟩;have ev:=afy (j:=j) b0 b1;have Po:BM tn.toNat j∈mV:=aaV _ ∅ _ ∅;generalize enm:BM tn.toNat j=nm at ev Po;show{_,9,_,9,_,9,_,_,9,9,_,_,9,9,7,_,_,_,_,9,9,bg.of<|s5 _ _ YI,ev,_,9,_,9,_,_,9,9,_,9,_,_,9,9,a,ns,first+1+(0+(j:Int)),9,ha.same Lq,ln,8,λfb H7 mN s7 fb0=>{_,9,fb,v,hz,gG,9,mN,hq.keep<|dj.of<|Lq.trans s7,l1,l5,a6,λr m7 br H8 sy iW Vn g6 l3 lh hh jk nd ne=>{31,λp hp=>?_}}};have s8:=AI s7 fb0 iW;have s9:aX H8 (upd H8 p<|.tup [.str nm,-r]):=bh hp _;show{(1+i3).toNat -(j+1),8,cb,9,s5.trans<|s8.trans s9,xs++[(nm,m7,br)],Paired.Gk (Paired.imp' (λ_ _ h=>h.keep<|dj.of<|s8.trans s9) Js) {p,-r,9,aF,Vn.keep<|dj.of s9},by rw[aG,lx];rfl,by rw[aJ,nx,List.range_succ,aJ];change _++[nm]=_++[BM tn.toNat j];rw[enm],λx hx=>?_};rcases aE.mp hx with h|h;·show vk x h
  rw[ar.mp h];show⟨g6,l3,jk,lh,hh,nd,ne,Po⟩
 show .inl {by change(1+i3).toNat<=j;lia,by rw[ly];show cy<|bB ∅,λl hl=>?_};have s6:=bh hl 49;show k l ys xs _ (Lq.trans s6) (Lq.free hl) aF (Paired.imp' (λ_ _ h=>h.keep<|dj.of s6) Js) vk (by rw[nx];show aaW _ ∅ _ ∅) ∅ ∅
inductive Gg(C:cr)(fld:i9)(vs:Aam)(H:Hp)(Q:VK)(_x3:XK):Prop
 |mk (a:cr) (v:V) (_:vs=[-a,v]) (_:aaJ H a C none) (_:((∃z:i9,v=.str z/\z.length<=1000)\/∃i:Int,v=.int i/\i.natAbs.log2<1920)) (_:∀d,H d=none->d≠a->Q .cU (upd (upd H a<|.ext<|lX a C<|some d) d<|.xd [(fld,v)]))
def acW{H:Hp}{a:cr}{o:HO}(h:H a>o):upd H a o=H:=by
 funext b;by_cases hb:b=a;·rw[hb,aF,h]
 rw[aI hb]
end
structure Ba(K:Frag)(mg:Aab)(A0:cr):Prop where
 RM:mg "AskError">.ref A0
 s:PySem.W.specialIn K (-A0) "__getattribute__">some (.builtin "type.__getattribute__")
 r:PySem.W.readsIn K A0 72=true
 f:PySem.W.findCls K (-A0) 72 "__init__">.val (.builtin "ValueError.__init__")
section
variable{P:io}{w:i6}{K:Frag}{mg:Aab}{base:nw}
abbrev FK:wP:=inClass (top 028) 0
def Oa:b7 [AcY,AcP] [AcY,AcP] (bI FK):=iM 59
def Of{A0 C:cr}{f:cr}{fd:re}(F:d6 K "__init__" "NoView.__init__" FK f fd)(B:Ba K mg A0)(q:pE K C Ho "ValueError.__new__"=true)(ek:rC K C)(hf:findIn K (-C) AcP>none):cN P w K mg base fZ 1 f fd [AcY,AcP] (Gg C AcP):=by show F.ok Oa 98;let(a,v,rfl,ha,hv,k):=h;have CJ:=ha;show{_,aA (fW<|X6 (nN 9 B.RM) B.s B.r B.f<|b6 (pv 0)<|X0 (pv 1) 59)<|aP<|XR (pv 0)<|pv 1,?_};show{9,_,9,_,9,hv,λy=>{a,C,none,_,9,by change 1<=1000;decide,CJ,q,?_}};rw[acW CJ];show⟨_,rfl,_,rfl,a,C,rfl,ha,ek,hf,k⟩
def viewOf(xs:List View)(nm:i9):Option View:=xs.find? λx=>decide (x.1=nm)
def vS{xs:List View}{nm:i9}{x:View}(h:viewOf xs nm>x):x∈xs/\x.1=nm:=by show{jg h,?_};have:=yr h;show bz this
def KD(H:Hp):List (Key×V)->List View->Prop:=Paired λ(kv:Key×V)(x:View)=>kv.1=Sum.inr x.1/\Dc H kv.2 x.2.1 x.2.2
def KD.keep{H H':Hp}(t:dj H H'){kvs:List (Key×V)}{xs:List View}(h:KD H kvs xs):KD H' kvs xs:=Paired.imp' (λ_ _ q=>{q.1,q.2.keep t}) h
theorem KD.none{H:Hp}{nm:i9}{kvs:List (Key×V)}{xs:List View}(q:KD H kvs xs)(h:viewOf xs nm=none):jo kvs (Sum.inr nm:Key)=none:=by
 induction q with
 |nil=>rfl
 |@cons kv x _ _ r _ ih=>
  unfold viewOf at h;rw[jB]at h;by_cases c:x.1=nm;·rw[bD c]at h;cases h
  rw[bQ c]at h;rw[oV (by rw[r.1];exactλe=>c<|yO e)];show ih h
theorem KD.some{H:Hp}{nm:i9}{x:View}{kvs:List (Key×V)}{xs:List View}(p:KD H kvs xs)(h:viewOf xs nm>x):∃q,jo kvs (Sum.inr nm:Key)>q/\Dc H q x.2.1 x.2.2:=by
 induction p with
 |nil=>cases h
 |@cons kv y _ _ r _ ih=>
  unfold viewOf at h;rw[jB]at h;by_cases c:y.1=nm;·rw[bD c]at h;cases h;show{kv.2,tX (by rw[r.1,c]),r.2}
  rw[bQ c]at h;let(q,h1,h2):=ih h;show{q,by rw[oV (by rw[r.1];exactλe=>c<|yO e)];show h1,h2}
def acD{κ:Type}[DecidableEq κ]{l:List (κ×V)}{k:κ}(h:k∉l.map (·.1)):(l.any λkv=>decide (kv.1=k))=false:=by rw[fR];ext e;let(kv,h1,h2):=fH.mp e;show h<|aD.mpr {kv,h1,bz h2}
def abw{k:Key}{v:V}(h:k∉l.map (·.1)):putK l k v=l++[(k,v)]:=by unfold putK;rw[acD h];rfl
theorem FH:∀(kvs l:List (Key×V)),((l++kvs).map (·.1)).Nodup->sh l kvs=l++kvs
 |[]=>λl _=>by rw[eO];rfl
 |kv::r=>λl h=>by
  have hn:kv.1∉l.map (·.1):=by rw[aJ,dG]at h;ext e;show h.2.2 _ e _ (a9▸ay) rfl
  change sh (putK l kv.1 kv.2) r=_;rw[abw hn,FH r (l++[(kv.1,kv.2)]) (by rw[cH];show h),cH];rfl
abbrev PrD(H:Hp):Aam->List (Key×V)->Prop:=Paired λ(y:V)(kv:Key×V)=>∃t,y=-t/\H t=Option.some (.tup [kV kv.1,kv.2])
def QD{H:Hp}{dZ:Aam}{xs:List View}(h:Paired (nQ H) dZ xs):∃kvs:List (Key×V),PrD H dZ kvs/\KD H kvs xs/\kvs.map (·.1)=xs.map λx=>(Sum.inr x.1:Key):=by
 induction h with
 |nil=>show{[],.nil,.nil,9}
 |@cons _ x _ _ y _ ih=>
  let(p,q,e,hp,hq):=y;let(kvs,h1,h2,h3):=ih;show{(Sum.inr x.1,q)::kvs,.cons ⟨p,e,hp⟩ h1,.cons ⟨rfl,hq⟩ h2,by rw[a9,a9,h3]}
def ad7{xs:List View}(h:(xs.map (·.1)).Nodup):(xs.map λx=>(Sum.inr x.1:Key)).Nodup:=by
 induction xs with
 |nil=>show .nil
 |cons x r ih=>
  rw[a9,df]at h⊢;show{λe=>?_,ih h.2};let(y,hy,e):=aD.mp e;show h.1<|aD.mpr {y,hy,yO e}
def Ah{H:Hp}{dZ:Aam}{xs:List View}(hV:Paired (nQ H) dZ xs)(nd:(xs.map (·.1)).Nodup):∃kvs:List (Key×V),PrD H dZ kvs/\KD H kvs xs/\sh [] kvs=kvs:=by let(kvs,h1,h2,h3):=QD hV;show{kvs,h1,h2,FH kvs [] (by rw[iE,h3];show ad7 nd)}
def sf(xs:List View)(fs:List En)(nm:i9):Bool:=match viewOf xs nm with
 |some x=>(kh fs nm).all λr=>decide (r.length=x.2.1.length)
 |none=>false
def mY(xs:List View)(fs:List En):Option Nat:=(jq<|fs.map (·.nm)).findIdx? λnm=>!sf xs fs nm
def EG{xs:List View}{fs:List En}{n:Nat}{a:i9}(h:∀i b,i<n->(jq<|fs.map (·.nm))[i]?>b->sf xs fs b=true)(e:(jq<|fs.map (·.nm))[n]?>a)(hb:sf xs fs a=false):mY xs fs>n:=by unfold mY;rw[List.findIdx?_eq_some_iff_getElem];let(hl,e):=aq.mp e;show{hl,by rw[e,hb];rfl,λj hj=>?_};rw[h j _ hj<|au _];simp
def Aq{xs:List View}{fs:List En}(h:∀(i:Nat) b,(jq<|fs.map (·.nm))[i]?>b->sf xs fs b=true):mY xs fs=none:=by unfold mY;rw[wj];ext a ha;let(i,hi):=gS.mp ha;rw[h i a hi];rfl
def AM(E:XK)(H:Hp)(C:cr)(fld:i9)(v:V):Prop:=∀(d:cr)(H':Hp),aX H H'->H' d>.xd [(fld,v)]->E (-C) (some d) H'
def IV{K:Frag}{E:XK}{H H1:Hp}{C:cr}{fld:i9}{v:V}(h:AM E H C fld v)(sm:aX H H1)(hv:(∃z:i9,v=.str z/\z.length<=1000)\/∃i:Int,v=.int i/\i.natAbs.log2<1920)(q:pE K C Ho "ValueError.__new__"=true):
  [v].length<=1000/\∀a,H1 a=none->Gg C fld (.ref a::[v]) (upd H1 a<|.ext<|lX a C none) (λu H2=>u=.cU/\OL K E (-a) H2) E0:=by
 show{by change 1<=1000;decide,λa ha=>{a,v,9,aF,hv,λd hd nd=>{9,a,C,some d,9,?_,q,?_}}};·rw[aI<|cL nd,aF]
 show h d _ (λb u e=>?_) ?_
 ·have e1:=sm _ _ e;have n1:=bx e1 ha;have n2:b≠d:=λz=>by rw[<-z,aI n1,e1]at hd;cases hd
  rw[ng n1,aI n2,aI n1,aI n1];show e1
 rw[ng nd,aF]
def BR(n:Nat)(h:n<=100000):((n:Int)).natAbs.log2<1920:=by
 rw[Int.natAbs_natCast];by_cases h0:n=0;·rw[h0];decide
 rw[Nat.log2_lt h0];show fC h 59
end
inductive Am(K:Frag)(cV:cr)(vs:Aam)(H:Hp)(Q:VK)(E:XK):Prop
 |mk (xs:List View) (vl hd:cr) (dZ:Aam) (fs:List En) (_:vs=[-vl,-hd]) (_:H vl>.lst dZ) (_:Paired (nQ H) dZ xs) (_:(xs.map (·.1)).Nodup) (_:kP K H hd fs) (_:fs.length<64) (_:(match mY xs fs with|some n=>AM E H cV AcP (.int (n:Int))|none=>∀H',aX H H'->Q .cU H'))
structure Dnv(P:io)(w:i6)(K:Frag)(mg:Aab)(base:nw)(cV:cr):Prop where
 Yq:mg "NoView">.ref cV
 Yx:keepIn K (-cV)=true
 FA:pE K cV Ho "ValueError.__new__"=true
 W8:∃(f:cr)(fd:re),findIn K (-cV) "__init__">some (-f)/\isFn K (-f)=true/\cN P w K mg base fZ 1 f fd [AcY,AcP] (Gg cV AcP)/\Binds K fd [AcY,AcP] []
section
variable{P:io}{w:i6}{K:Frag}{mg:Aab}{base:nw}{cV:cr}
def Ue{X:Cx}{D:Dnv 86 X.w X.K X.mg X.base cV}{j:Nat}{e:wv}{t:TA}{p pos:Gc}(hr:gx j X.A)(ha:PA X [e] t)(hj:2<=j:=by decide)(hg:Gl X "NoView":=by rfl)(he:jp [e] X.env=(false,wf e X.env)::jp [] X.env:=by rfl):PE X (.Call (.Name "NoView" p) [e] [] pos) (ZY cV (Gg cV AcP) E0 t):=by let(f,fd,h1,h2,h3,h4):=D.W8;show abH D.FA D.Yx h1 h2 h3 (hr.mono hj) h4 Kk hg D.Yq ha 7 he rfl
def DW(m n:Nat):decide (V.int (m:Int)=V.int (n:Int))=decide (m=n):=decide_eq_decide.mpr ⟨λh=>by injection h with h;lia,λh=>by rw[h]⟩
def qT:b7 [Adl,Ack,"kept",AcP,"name"] [Adl,Ack] (bI B5):=iM 59
def Kc{f:cr}{fd:re}(F:d6 K Ab3 Ab3 B5 f fd)(T:Txt K mg)(DE:Dnv P w K mg base cV):cN P w K mg base (yw P w) 4 f fd [Adl,Ack] (Am K cV):=by
 show F.Uw qT (λvs H Q E h=>?_) 98;·let(y,a,b,c,d,rfl,__):=h;rfl
 let(xs,vl,hd,dZ,fs,rfl,pC,hV,j7,hT,lf,k):=h;have hu:=pX hr;let(kvs,Vz,hK,hm):=Ah hV j7;show{_,aA (nZ (i:=2) qT.nd 9 (Or.inr 9)<|dH (sI hr.hd) 9 T.zH 59 78)<|aP<|eB PassesOwn.leaving 9 (abE 9 T.yI<|bS<|bu (xj hr.hd) 9 T.qX 59 79) (lA 9<|cJ (gL 3 qT)<|cJ (om (i:=4) qT.nd 9<|Or.inr 9) ic)<|aP<|dP (PW.pt<|DQ (Ca<|Cd hu (pv 4)<|pv 2)<|zv<|kF<|bu (um 9) 9 T.RC 59<|bS<|lY 9 (eF (fs:=["kept","name"]) (fr:=[2,4])) (eC<|rJ hu (pv 1) (pv 4) (λ_ _=>9)) (λ_ _ _ _=>kZ uz (bu (C4) 9 T.fJ bK 78) (bu (C4) 9 T.fJ bK<|bS<|cm (zL) (rJ hu (pv 1) (pv 2) (λ_ _=>9)) aO (λ_ _=>9))<|cM _)) (aP<|XQ (Ue (D:=DE) hr 47) ue hr.hd) cP,?_}
 show{_,9,vl,_,kvs,9,bg.of pC,Vz,?_};rw[hm]
 intros kd ahP H1 s1 VA
 have vN:=hT.same s1;show{_,9,hd,_,fs.map (·.nm),9,vN.at_,L8 fs,by rw[af];show lf,?_}
 intros sl MM H2 s2 kT
 have wI:=s1.trans s2;show{sl,9,{_,bg.of kT},V0 (λi Z H3=>∃(x3 x4:Aan),Z=[some (-vl),some (-hd),some (-kd),x3,x4]/\aX H2 H3/\∀j b,j<i->(jq<|fs.map (·.nm))[j]?>b->sf xs fs b=true) {none,none,9,51,λj b h=>absurd h<|fX _} (λi Z H3 _ zq=>by let(__,__,__,s3,__):=zq;show bg.of<|s3 _ _ kT) ?_ ?_}
 ·ext i x p Z H3 D1 hx ⟨x3,x4,rfl,s3,hb⟩ hp uR;let(z,hz,rfl):=k9 hx;rename_i p hp H4 s4 vK;have mL:=s3.trans s4;have Bj:=(vN.same s2).same mL;have hK4:=(hK.keep<|dj.of s1).keep<|dj.of<|s2.trans mL;have aeT:=mL _ _<|s2 _ _ VA;have O7:=wI.trans mL;have hi:i<fs.length:=by have:=(aq.mp hz).1;rw[(gc _).length_eq,af]at this;show this
  let(e,he,ez):=aD.mp<|(gc _).mem_iff.mp<|aB hz;subst ez;have bad:=λh=>by rw[EG hb hz h]at k;show k
  have FP:sf xs fs e.nm=true->∀j b,j<i+1->(jq<|fs.map (·.nm))[j]?>b->sf xs fs b=true:=λh j b hj e=>by
   rcases Nat.lt_succ_iff_lt_or_eq.mp hj with hj|rfl;·show hb j b hj e
   rw[hz]at e;cases e;show h
  show{p,_,9,bA.of vK,9,_,_,9,_,_,9,9,?_};cases ev:viewOf xs e.nm with
  |none=>
   show{_,9,_,9,kd,none,9,by rw[<-hK4.none ev];show jQ.k (k:=Sum.inr e.nm) aeT,_,9,ug ?_};show{_,9,IV (bad (by unfold sf;rw[ev])) O7 (.inr {_,9,BR i ∅}) DE.FA}
  |some x=>
   obtain⟨qv,h1,⟨q2,hd2,aa2,aiI,e2,PV,ahT,aiH,aiu⟩⟩:=hK4.some ev;subst e2;have dg:jQ H4 kd (kV<|Sum.inr e.nm) (some (-q2)):=by rw[<-h1];show jQ.k aeT
   let(g1,g2,g3,g4):=Bj.en e he;have ly:=aV g2;have eo:sf xs fs e.nm=e.rows.all λr=>decide (r.length=x.2.1.length):=by unfold sf;rw[ev];change(kh fs e.nm).all _=_;rw[ph Bj.nm he]
   show{_,9,_,9,kd,_,9,dg,_,9,mH ?_};show{_,9,_,9,hd,_,9,(by rw[<-wk Bj.nm he];show jQ.k (k:=Sum.inr e.nm) Bj.at_),e.ad,9,{_,bg.of g1},j9 (xs:=e.ys) (λj ys H5=>H5=H4/\ys=((e.rows.take j).map λr=>!decide (r.length=x.2.1.length)).map V.bl) (bB ∅) ⟨rfl,rfl⟩ ?_ ?_ ?_};·ext j ys H5 hj ⟨rfl,rfl⟩;show{bg.of g1,by rw[af,af,bo];lia}
   ·ext j y ys H5 N hy ⟨rfl,rfl⟩ hN;let(r,vI,a,rfl,ha):=Paired.at' g2 hy;show{_,9,_,_,9,.inr ⟨_,ha,rfl⟩,_,9,_,9,kd,_,9,dg,_,_,_,_,9,9,bA.of PV,9,_,_,9,.inr {_,bA.of ahT,9},9,hN _ _ {9,?_}};rw[aY,vI,aJ,aJ,af,af,DW];rfl
   ext ys H5 ⟨rfl,rfl⟩;rw[ly,bj]
   intros bl hbl H6 s6 hb6
   show{bl,_,9,bg.of hb6,_,9,dQ 93 93};·show{_,9,IV (bad ?_) (O7.trans s6) (.inr {_,9,BR i ∅}) DE.FA};rw[eo,fR];ext q;let(b,gm,rfl):=fH.mp c;let(r,vI,e3):=aD.mp gm;rw[cz.mp q r vI]at e3;cases e3
   show uR _ _ {_,_,9,mL.trans s6,FP ?_};rw[eo,cz];ext r vI;cases q:decide (r.length=x.2.1.length)with
   |true=>rfl
   |false=>show absurd (fH.mpr {true,aD.mpr {r,vI,by rw[q];rfl},9}) c
 ext Z H3 ⟨x3,x4,rfl,s3,hb⟩;rw[af]at hb;rw[Aq λi b e=>hb i b (aq.mp e).1 e]at k;show k H3<|wI.trans s3
inductive ID(K:Frag)(vs:Aam)(H:Hp)(Q:VK)(_x3:XK):Prop
 |mk (pl d:cr) (v:V) (ys:Aam) (p:List aC.Atom) (a:aC.Atom) (g:du) (_:vs=[-pl,v,-d]) (_:bg K H pl ys) (_:dw K H ys p) (_:Ae K H v a) (_:p.length<=1000) (_:(∀b∈p,jD b)) (_:jD a) (_:H d>.dK (gK g)) (_:∀H',aX H H'->Q (.bl<|aC.Ak bF g p a) H')
def A7:b7 ["part","atom",Aci,"free"] ["part","atom",Aci] (bI B4):=iM 59
def Kb{f:cr}{fd:re}(F:d6 K "is_touched" "is_touched" B4 f fd)(T:Txt K mg)(D:Du P w K mg base):cN P w K mg base fZ 3 f fd ["part","atom",Aci] (ID K):=by
 show F.ok A7 98;let(pl,d,v,ys,p,a,g,rfl,iu,hp,ha,lp,fp,fa,hd,k):=h;let(ab,ac,rfl,CI,w5):=ha;show{_,aA (nZ (i:=3) A7.nd 9 (Or.inr 9)<|xU 9 (eF (fs:=[Aci]) (fr:=[2])) (pk<|cm fh (pv 1) aO (λ_ _=>9)) (λ_ _ _ _=>PW.pt<|zw (kF<|cl D.AF hr 78)<|wo<|Ca<|Cd (pX hr) (pv 0)<|pv 1) (λ_ _ _ _=>pv 0))<|aP<|b8<|bu (um 9) 9 T.RC 59<|bS<|X4 9 (Hi (fs:=["free"]) (fr:=[3])) (eC<|pv 0) (λ_ _ _ _=>bu (Hm 9) 9 T.RC 59<|bS<|lY 9 (eF (fs:=["other"]) (fr:=[0])) (LI<|pv 1) (λ_ _ _ _=>kZ (GD) (pv 0) (cm (zL) (pv 1) aO (λ_ _=>9)) 74)),?_}
 let(fl,f0,fz):=fa
 let fr:i9->Bool:=λt=>bF t&&(aC.get g t).isNone
 show{_,9,_,_,_,_,9,9,CI,9,ac,9,⟨_,w5⟩,xi (xs:=a.2.map V.str) (λi zs H2=>aX H H2/\i<=a.2.length/\zs=((a.2.take i).filter fr).map V.str) 75 {aX.refl H,aQ _,9} ?_ ?_ ?_};·ext i zs H2 hi ⟨s2,rM,rfl⟩;show{dR w5 s2,?_};rw[af];have:=jd fr<|a.2.take i;rw[bo]at this;lia
 ·ext i x zs H2 N hc ⟨s2,rM,rfl⟩ hN;let(z,hz,rfl):=k9 hc;have cb:=(aq.mp hz).1;show{_,rfl,z,rfl,by have:=(fz z<|aB hz).1;lia,λH3 s3=>{_,9,?_}};have zu:=s2.trans s3;have fin:∀H4,aX H H4->if fr z=true then N ((((a.2.take i).filter fr).map V.str)++[.str z]) H4 else N (((a.2.take i).filter fr).map V.str) H4:=λH4 s4=>by
   show dQ 93 93;·show hN _ _ {s4,cb,?_};rw[aY,hz,mC,aJ];change _=_++List.map V.str (List.filter fr [z]);rw[eT,aN c];rfl
   show hN _ _ {s4,cb,?_};rw[aY,hz,mC,aJ];change _=_++List.map V.str (List.filter fr [z]);rw[eT,aL c];simp
  show dQ 93 93
  ·show{_,9,_,9,d,_,9,jQ.k (k:=Sum.inr z)<|zu _ _ hd,_,9,?_};have e:(!(jo (gK g) (Sum.inr z:Key)).isSome)=fr z:=by rw[rU];change _=(bF z&&_);rw[show bF z=true from c];cases aC.get g z<;>rfl
   rw[e];have:=fin H3 zu;cases q:fr z with
   |true=>rw[q]at this;show⟨_,rfl,this⟩
   |false=>rw[q]at this;show this
  have q:fr z=false:=by change(bF z&&_)=false;rw[show bF z=false by simpa using c];rfl
  have:=fin H3 zu;rw[q]at this;show this
 ext zs H2 ⟨s2,_,rfl⟩ l hl;rw[af,bj];generalize hfe:a.2.filter fr=E7;have lfe:E7.length<=100:=by rw[<-hfe];have:=jd fr a.2;lia
 have s3:aX H (upd H2 l<|.lst<|E7.map V.str):=s2.trans<|bh hl _;have Jx:upd H2 l (.lst<|E7.map V.str) l>.lst (E7.map V.str):=aF;generalize (upd H2 l<|.lst<|E7.map V.str)=H3 at s3 Jx⊢;have lys:=aV hp;show{_,9,pl,9,{_,o8 iu s3},j9 (xs:=ys) (λi zs H4=>aX H3 H4/\i<=p.length/\zs=((p.take i).map λo=>E7.any λt=>decide (t∈o.2)).map V.bl) (bB ∅) {51,aQ _,9} ?_ ?_ ?_};·ext i zs H4 hi ⟨s4,rM,rfl⟩;show{o8 iu<|s3.trans s4,?_};rw[af,af,bo];lia
 ·ext i x zs H4 N hc ⟨s4,rM,rfl⟩ hN;let(o,ho,hxo):=Paired.at' hp hc;have cb:=(aq.mp ho).1;let(ob,oc,rfl,hob,hoc):=hxo.same<|s3.trans s4;let(ol,__,oz):=fp o<|aB ho;show{_,9,l,9,{_,bg.of<|s4 _ _ Jx},j9 (xs:=E7.map V.str) (λj us H5=>H5=H4/\j<=E7.length/\us=((E7.take j).map λt=>decide (t∈o.2)).map V.bl) 75 {9,aQ _,9} ?_ ?_ ?_};·ext j us H5 hj ⟨rfl,G0,rfl⟩;show{bg.of<|s4 _ _ Jx,?_};rw[af,af,bo];lia
  ·ext j y us H5 M hcy ⟨rfl,G0,rfl⟩ hM;let(t,ht,rfl):=k9 hcy;have hjt:=(aq.mp ht).1;show{_,9,_,9,_,_,_,_,9,9,hob,9,oc,_,9,.inr hoc,9,Nk _,?_};rw[HX];show hM _ _ {9,hjt,?_};rw[aY,ht,aJ,aJ];rfl
  ext us H5 ⟨rfl,_,rfl⟩ q hq;rw[af,bj];show{q,_,9,bg.of aF,hN _ _ {s4.trans<|bh hq _,cb,?_}};rw[aY,ho,aJ,aJ,sW];rfl
 ext zs H4 ⟨s4,_,rfl⟩ q hq;rw[lys,bj];show{q,_,9,bg.of aF,?_};have e:((p.map λo=>E7.any λt=>decide (t∈o.2)).any id)=aC.Ak bF g p a:=by rw[sW,<-hfe];rfl
 rw[e];show k _<|s3.trans<|s4.trans<|bh hq _
structure Dt2(P:io)(w:i6)(K:Frag)(mg:Aab)(base:nw):Prop extends Df P w K mg base where
 RR:dh P w K mg base 3 "is_touched" ["part","atom",Aci] (ID K)
def DG(K:Frag)(H:Hp):Aam->List (List aC.Atom)->Prop:=Paired λv p=>∃l ys,v=-l/\H l>.lst ys/\dw K H ys p
def DG.same{H H':Hp}{vs:Aam}{ps:List (List aC.Atom)}(h:DG K H vs ps)(s:aX H H'):DG K H' vs ps:=by
 unfold DG at h⊢
 induction h with
 |nil=>show .nil
 |cons h _ ih=>
  let(l,ys,e,h1,h2):=h;show .cons {l,ys,e,s _ _ h1,h2.same s} ih
inductive IF(K:Frag)(vs:Aam)(H:Hp)(Q:VK)(_x3:XK):Prop
 |mk (l d:cr) (ys:Aam) (as:List aC.Atom) (g:du) (_:vs=[-l,-d]) (_:bg K H l ys) (_:dw K H ys as) (_:as.length<=100) (_:(∀b∈as,jD b)) (_:H d>.dK (gK g)) (_:∀p xN H',aX H H'->H p=none->H' p>.lst xN->DG K H' xN (aC.partsOf bF g as)->Q (-p) H')
def kS:b7 [AbV,Aci,"parts","atom","part","beside","earlier"] [AbV,Aci] (bI Gr):=iM 59
theorem Az{n:Nat}:∀{l:List Nat},n∈l->n<=l.sum
 |[],h=>by cases h
 |m::l,h=>by
  rw[kC];rcases aK.mp h with rfl|h;·lia
  have:=Az h;lia
def Rb{g:du}(as:List aC.Atom)(fa:∀b∈as,jD b):∀q∈as.foldl (aC.rh bF g) [],q.length<=as.length/\∀b∈q,jD b:=λq hq=>by let(__,h2,h3,__):=aC.FD as [] [] .nil 84 84 84;rw[iE]at h3;show{?_,λb hb=>fa b (by simpa using(h2 b).mpr ⟨q,hq,hb⟩)};rw[<-h3];show Az<|aD.mpr ⟨q,hq,rfl⟩
inductive Pa1(K:Frag)(l d:cr)(as:List aC.Atom)(g:du)(H:Hp)(i:Nat)(Z:L2.St)(H2:Hp):Prop
 |mk (x3 x4 x5 x6:Aan) (pq:cr) (vs:Aam) (_:Z=[some (-l),some (-d),some (-pq),x3,x4,x5,x6]) (_:i<=as.length) (_:aX H H2) (_:H pq=none) (_:H2 pq>.lst vs) (_:DG K H2 vs ((as.take i).foldl (aC.rh bF g) [])) (_:vs.length<=i)
def Od{f:cr}{fd:re}(F:d6 K "parts_of" "parts_of" Gr f fd)(T:Txt K mg)(D:Dt2 P w K mg base):cN P w K mg base fZ 4 f fd [AbV,Aci] (IF K):=by
 show F.ok kS 98;let(l,d,ys,as,g,rfl,hl,rK,la,fa,hd,k):=h;show{_,aA (dW 2 kS<|c8 hU)<|aA (eB bH 9 (eC<|pv 0) (gL 3 kS)<|aA (dW 4 kS<|c8 47)<|aA (dW 5 kS<|c8 hU)<|aA (eB bH 9 (eC<|pv 2) (gL 6 kS)<|aP<|dP (kF<|cl D.RR hr<|kj (pv 6) (pv 3)<|pv 1) (aP<|dW 4 kS<|c9 Ci (pv 6)<|pv 4)<|aP<|fW<|jr bO cw cn iB (pv 5)<|bS<|pv 6)<|aP<|dW 2 kS<|c9 Ci (pv 5)<|c8<|bS<|pv 4)<|aP<|b8<|pv 2,?_}
 show{56,?_}
 intros pp vK H1 s0 ql
 show{_,rfl,l,rfl,{_,o8 hl s0},iC (xs:=ys) (Pa1 K l d as g H)
  {_,_,_,_,pp,[],9,aQ _,s0,vK,ql,.nil,aw _} ?_ ?_ ?_}
 ·ext i Z H2 hi ⟨_,_,_,_,pq,vs,rfl,rM,s2,_⟩;show o8 hl s2
 ·ext i x Z H2 D1 hx ⟨_,_,_,_,pq,vs,rfl,rM,s2,Ju,PV,EY,lvs⟩ uR _;let(a,ha,MF):=Paired.at' rK hx;have cb:=(aq.mp ha).1;have fa1:=fa a<|aB ha;show{_,9,104,?_}
  intros p1 vL H3 s3 mM
  show{56,λbs CH=>?_};have s4:aX H3 (upd H3 bs<|.lst []):=bh CH _;have hb4:upd H3 bs (.lst []) bs>.lst []:=aF;have zu:=s2.trans s3;have aez:=MF.same zu;have aeI:=EY.same s3;have e0:(as.take<|i+1).foldl (aC.rh bF g) []=aC.rh bF g ((as.take i).foldl (aC.rh bF g) []) a:=by rw[aY,ha,mU];rfl
  have VX:=Rb (g:=g) (as.take i) λb hb=>fa b<|dE hb;generalize (as.take i).foldl (aC.rh bF g) []=ps at EY aeI VX e0;have VX:∀q∈ps,q.length<=i/\∀b∈q,jD b:=λq hq=>{aR (VX q hq).1 (by rw[bo];lia),(VX q hq).2};have lps:=aV EY
  let st:List aC.Atom×List (List aC.Atom)->List aC.Atom->List aC.Atom×List (List aC.Atom):=λacc p=>if aC.Ak bF g p a then(p++acc.1,acc.2)else(acc.1,acc.2++[p])
  show{_,rfl,pq,rfl,{_,bg.of<|s4 _ _<|s3 _ _ PV},iC (xs:=vs) (λj Z H5=>∃(x6:Aan)(p2:cr)(IX Fe:Aam),Z=[some (-l),some (-d),some (-pq),some x,some (-p2),some (-bs),x6]/\j<=ps.length/\aX H3 H5/\H5 p2>.lst IX/\p2≠bs/\H5 bs>.lst Fe/\
    dw K H3 IX ((ps.take j).foldl st ([a],[])).1/\DG K H3 Fe ((ps.take j).foldl st ([a],[])).2/\Fe.length<=j/\((ps.take j).foldl st ([a],[])).1.length<=1+i*j/\(∀b∈((ps.take j).foldl st ([a],[])).1,jD b)/\∀q∈((ps.take j).foldl st ([a],[])).2,q∈ps)
   {_,p1,[x],[],9,aQ _,s4,s4 _ _ mM,(λe=>by rw[<-e,mM]at CH;cases CH),hb4,.cons aez .nil,.nil,aw _,84,λb hb=>ar.mp hb▸fa1,λq hq=>(by cases hq)} ?_ ?_ ?_}
  ·ext j Z H5 hj ⟨_,p2,IX,Fe,rfl,G0,s5,_⟩;show bg.of<|s5 _ _<|s3 _ _ PV
  ·ext j y Z H5 D2 hy ⟨_,p2,IX,Fe,rfl,G0,s5,Jw,n5,zQ,Jv,zP,lbv,US,Qj,sub⟩ nx2 _;let(p,hp,e,Ql,rfl,MX,G1):=Paired.at' aeI hy;have uT:=(aq.mp hp).1;have mp:=aB hp;have e1:(ps.take<|j+1).foldl st ([a],[])=st ((ps.take j).foldl st ([a],[])) p:=by rw[aY,hp,mU];rfl
   generalize (ps.take j).foldl st ([a],[])=acc at Jv zP US Qj sub e1;let(lp1,fp1):=VX p mp;show{_,9,_,9,_,9,e,d,x,Ql,p,a,g,9,bg.of<|s5 _ _ MX,G1.same s5,aez.same s5,8,fp1,fa1,s5 _ _<|zu _ _ hd,λH6 s6=>{_,9,?_}};have s56:=s5.trans s6;show dQ 93 93
   ·have c:=c;have e2:st acc p=(p++acc.1,acc.2):=aN c;rw[e1,e2]at nx2;have le1:=aV G1;have le2:=aV Jv;have NM:acc.1.length<=1+100*100:=aR US<|BC (ni ∅ ∅) 1;show{_,9,_,9,e,p2,Ql,IX,9,9,s56 _ _ MX,s6 _ _ Jw,by rw[bW];lia,λp3 mM=>?_};show nx2 _ _ {_,p3,_,Fe,9,uT,s56.trans<|bh mM _,aF,λe=>?_,?_,eU G1 Jv,zP,8,?_,26,sub};·rw[e,s6 _ _ zQ]at mM;cases mM
    ·rw[aI<|bx (s6 _ _ zQ) mM];show s6 _ _ zQ
    ·change(p++acc.1).length<=_;rw[aG,mK];lia
    rcases aE.mp hb with hb|hb;·show fp1 b hb
    show Qj b hb
   have c:=c;have e2:st acc p=(acc.1,acc.2++[p]):=aL c;rw[e1,e2]at nx2;show{_,9,.inl {9,_,bg.of<|s6 _ _ zQ},_,9,bs,Fe,_,9,9,s6 _ _ zQ,by rw[bW];lia,?_};show nx2 _ _ {_,p2,IX,_,9,uT,λb u h=>?_,?_,n5,aF,Jv,eU zP<|.cons ⟨e,Ql,rfl,MX,G1⟩ .nil,aG▸d7 lbv,?_,Qj,λq hq=>?_};·rw[aI<|bx h CH];show s56 _ _ h
   ·rw[aI n5];show s6 _ _ Jw
   ·change acc.1.length<=_;rw[mK];lia
   rcases aE.mp hq with hq|hq;·show sub q hq
   rw[ar.mp hq];show mp
  ext Z H5 ⟨_,p2,IX,Fe,rfl,_,s5,Jw,n5,zQ,Jv,zP,lbv,US,Qj,sub⟩;rw[lps,bj]at Jv zP US Qj sub;have es:ps.foldl st ([a],[])=aC.step bF g a ps:=by
   cases ps with
   |nil=>rfl
   |cons q r=>rfl
  rw[es]at Jv zP US Qj sub;show{_,9,_,9,104,?_}
  intros q1 hq1 H6 s6 Vo
  show{bs,q1,Fe,_,9,9,s6 _ _ zQ,Vo,by rw[bW,gW];lia,λr hr=>?_};have s7:aX H6 (upd H6 r<|.lst<|Fe++[-p2]):=bh hr _;have s37:=s5.trans<|s6.trans s7;have r0:H r=none:=by
   cases e:H r with
   |none=>rfl
   |some u=>
    have:=s5.trans s6 _ _<|zu _ _ e;rw[hr]at this;cases this
  show uR _ _ {_,_,_,_,r,_,9,cb,zu.trans s37,r0,aF,?_,?_};·rw[e0];show eU (DG.same zP s37)<|.cons {p2,IX,9,s7 _ _<|s6 _ _ Jw,dw.same Jv s37} .nil
  rw[aG,gW];lia
 ext Z H2 ⟨_,_,_,_,pq,vs,rfl,rM,s2,Ju,PV,EY,_⟩;rw[(aV rK),bj]at EY;show{_,9,k pq vs H2 s2 Ju PV EY}
def Ae.tp{H H':Hp}{v:V}{a:aC.Atom}(h:Ae K H v a)(t:cX H H'):Ae K H' v a:=by let(b,c,e,h1,h2):=h;show{b,c,e,gn h1 t,gn h2 t}
def dw.tp{H H':Hp}{ys:Aam}{as:List aC.Atom}(h:dw K H ys as)(t:cX H H'):dw K H' ys as:=by
 induction h with
 |nil=>show .nil
 |cons h _ ih=>show .cons (h.tp t) ih
abbrev Rl:=NK->Aaf->Prop
structure gC(P:io)(w:i6)(K:Frag)(H0 H:Hp)(A:cr)(kvs:List 95)(R:Rl)(n:Nat):Prop where
 at_:iw P w K H A kvs
 len:kvs.length<=n
 own:H0 A=none
 vals:∀k v,valN kvs k>v->∃d inner,v=-d/\d≠A/\H0 d=none/\iw P w K H d inner/\inner.length<=n/\(inner.map (·.1)).Nodup/\(∀p∈inner,p.2.2=.bl true)/\∀j,(∃p∈inner,p.1=j)↔∃zs,R k zs/\j=iV zs
 no:∀k,valN kvs k=none->∀zs,¬R k zs
 inj:∀k k' d,valN kvs k>.ref d->valN kvs k'>.ref d->k=k'
def gC.congr{H0 H:Hp}{A:cr}{kvs:List 95}{R R':Rl}{n:Nat}(x:gC P w K H0 H A kvs R n)(e:∀k zs,R k zs↔R' k zs):gC P w K H0 H A kvs R' n:=
 {x.at_,x.len,x.own,λk v h=>by let(d,inner,h1,h2,h3,h4,h5,h6,h7,h8):=x.vals k v h;show{d,inner,h1,h2,h3,h4,h5,h6,h7,λj=>(h8 j).trans ⟨λzq=>by let(zs,a,b):=zq;show{zs,(e _ _).mp a,b},λuF=>by let(zs,a,b):=uF;show{zs,(e _ _).mpr a,b}⟩},λk h zs q=>x.no k h zs<|(e _ _).mpr q,x.inj}
def gC.mono{H0 H:Hp}{A:cr}{kvs:List 95}{R:Rl}{n m:Nat}(x:gC P w K H0 H A kvs R n)(e:n<=m):gC P w K H0 H A kvs R m:=
 {x.at_,aR x.len e,x.own,λk v h=>by let(d,inner,h1,h2,h3,h4,h5,h6,h7,h8):=x.vals k v h;show{d,inner,h1,h2,h3,h4,aR h5 e,h6,h7,h8},x.no,x.inj}
def gC.move{H0 H H':Hp}{A:cr}{kvs:List 95}{R:Rl}{n:Nat}(x:gC P w K H0 H A kvs R n)(t:cX H H')(e:∀b,H0 b=none->(b=A\/∃k,valN kvs k>-b)->H' b=H b):gC P w K H0 H' A kvs R n:=
 {x.at_.tp t<|e A x.own<|.inl 9,x.len,x.own,λk v h=>by let(d,inner,h1,h2,h3,h4,h5,h6,h7,h8):=x.vals k v h;show{d,inner,h1,h2,h3,h4.tp t<|e d h3<|.inr {k,by rw[h,h1]},h5,h6,h7,h8},x.no,x.inj}
def gC.ad6{H0 H:Hp}{A b p:cr}{kvs:List 95}{R:Rl}{n:Nat}{k:NK}(x:gC P w K H0 H A kvs R n)(hn:valN kvs k=none)(hk:il K H k b)(hp:H p>.dK [])(h0:H0 p=none)(pA:p≠A)(pd:∀k' d,valN kvs k'>.ref d->d≠p):
  gC P w K H0 (upd H A 18) A (putN kvs k b (-p)) R (n+1):=by
 have t:cX H (upd H A 18):=cX.upd x.at_.oK;show{x.at_.put hk,aR qW<|d7 x.len,x.own,λk' v h=>?_,λk' h=>?_,λk1 k2 d h1 h2=>?_}
 ·rw[uH]at h;by_cases c:k'=k;·rw[aN c]at h;cases h;show{p,[],9,pA,h0,(zX hp).tp t (by rw[aI pA]),aQ _,84,λq hq=>(by cases hq),λj=>⟨λzq=>by let(q,hq,__):=zq;show(by cases hq),λuF=>by let(zs,hz,__):=uF;show absurd (c▸hz)<|x.no k hn zs⟩}
  rw[aL c]at h;let(d,inner,h1,h2,h3,h4,h5,h6,h7,h8):=x.vals k' v h;show{d,inner,h1,h2,h3,h4.tp t (by rw[aI h2]),fQ h5,h6,h7,h8}
 ·rw[uH]at h;by_cases c:k'=k;·rw[aN c]at h;cases h
  rw[aL c]at h;show x.no k' h
 rw[uH]at h1 h2;by_cases c1:k1=k
 ·by_cases c2:k2=k;·rw[c1,c2]
  rw[aN c1]at h1;rw[aL c2]at h2;cases h1;show absurd rfl (pd k2 _ h2)
 by_cases c2:k2=k;·rw[aL c1]at h1;rw[aN c2]at h2;cases h2;show absurd rfl (pd k1 _ h1)
 rw[aL c1]at h1;rw[aL c2]at h2;show x.inj k1 k2 d h1 h2
def gC.put{H0 H:Hp}{A c d:cr}{kvs:List 95}{R:Rl}{n:Nat}{k:NK}{zs:Aaf}(x:gC P w K H0 H A kvs R n)(hv:valN kvs k>-d)(hc:il K H (iV zs) c):
  ∃inner,iw P w K H d inner/\inner.length<=n/\H0 d=none/\d≠A/\gC P w K H0 (upd H d<|.ext<|DN P w d 140) A kvs (λk' z'=>R k' z'\/(k'=k/\z'=zs)) (n+1):=by
 let(d',inner,e,h2,h3,h4,h5,h6,h7,h8):=x.vals k _ hv;cases e;have t:cX H (upd H d<|.ext<|DN P w d 140):=cX.upd h4.oK;show{inner,h4,h5,h3,h2,x.at_.tp t (by rw[aI<|cL h2]),fQ x.len,x.own,λk' v h=>?_,λk' h za q=>?_,x.inj}
 ·by_cases ck:k'=k
  ·subst ck;rw[hv]at h;cases h;show{d,_,9,h2,h3,h4.put hc,aR qW<|d7 h5,Rx h6,λq hq=>?_,λj=>?_}
   ·unfold putN at hq;split at hq
    ·let(q0,Ju,rfl):=aD.mp hq;split;·rfl
     show h7 q0 Ju
    rcases aE.mp hq with hq|hq;·show h7 q hq
    rw[ar.mp hq]
   rw[Cu,h8 j];constructor
   ·ext(rfl|⟨z',a,b⟩);·show{zs,.inr ⟨rfl,rfl⟩,9}
    show{z',.inl a,b}
   ext⟨z',a|⟨_,a⟩,b⟩;·show .inr ⟨z',a,b⟩
   show .inl (by rw[b,a])
  let(d1,aep,e1,g2,g3,g4,g5,g6,g7,g8):=x.vals k' v h;have nd:d1≠d:=λe=>ck<|x.inj k' k d (by rw[h,e1,e]) hv;show{d1,aep,e1,g2,g3,g4.tp t (by rw[aI nd]),fQ g5,g6,g7,λj=>(g8 j).trans ⟨λzq=>by let(za,a,b):=zq;show{za,.inl a,b},λuF=>by let(za,a,b):=uF;show{za,a.elim id λq=>absurd q.1 ck,b}⟩}
 rcases q with q|⟨q,_⟩;·show x.no k' h za q
 rw[q,hv]at h;cases h
variable{C:cr}
def tS(H H':Hp):Prop:=∀b C dx fs,H b>.ins C dx fs->H' b>.ins C dx fs
def tS.refl(H:Hp):tS H H:=λ_ _ _ _ h=>h
def tS.trans{H H1 H2:Hp}(a:tS H H1)(b:tS H1 H2):tS H H2:=λx c d f h=>b x c d f<|a x c d f h
def tS.same{H H':Hp}(s:aX H H'):tS H H':=λb _ _ _ h=>s _ _ h
def tS.dict{H:Hp}{d:cr}{kvs:List 95}{o:HO}(h:iw P w K H d kvs):tS H (upd H d o):=λb c dx fs q=>by
 have:b≠d:=λe=>by rw[e]at q;rcases h.1 with h|⟨_,h⟩<;>rw[h]at q<;>cases q
 rw[aI this];show q
structure Hs(P:io)(w:i6)(K:Frag)(H0 H H':Hp)(A:cr)(R:Rl)(n:Nat):Prop where
 sm:aX H0 H'
 tp:cX H H'
 is:tS H H'
 ai:∃kvs,gC P w K H0 H' A kvs R n
def gC.same{H0 H H':Hp}{A:cr}{kvs:List 95}{R:Rl}{n:Nat}(x:gC P w K H0 H A kvs R n)(s:aX H H'):gC P w K H0 H' A kvs R n:=x.move (cX.same s) λq _ h=>by
 rcases h with rfl|⟨k',h⟩;·let(u,hu):=x.at_.some;rw[hu,s _ _ hu]
 let(d',__,e',__,__,h4,__):=x.vals k' _ h;cases e';let(u,hu):=h4.some;rw[hu,s _ _ hu]
def acG{H0 H:Hp}{A b c p:cr}{kvs:List 95}{R R':Rl}{n:Nat}{k:NK}{zs:Aaf}{Nx:Hp->Prop}(x:gC P w K H0 H A kvs R n)(sm:aX H0 H)(hk:il K H k b)(hc:il K H (iV zs) c)(hn:n+2<10000000)(hp:H p>.dK [])(h0:H0 p=none)(pA:p≠A)(pd:∀k' d,valN kvs k'>.ref d->d≠p)
  (hR:∀k' z',R' k' z'↔R k' z'\/(k'=k/\z'=zs)) (nx:∀H',Hs P w K H0 H H' A R' (n+2)->Nx H'):
  (∀v,valN kvs k>v->∃a inner,v=-a/\iw P w K H a inner/\il K H (iV zs) c/\inner.length<10000000/\Nx (upd H a<|.ext<|DN P w a 140))/\
  (valN kvs k=none->∃inner,iw P w K (upd H A 18) p inner/\il K (upd H A 18) (iV zs) c/\inner.length<10000000/\
   Nx (upd (upd H A 18) p<|.ext<|DN P w p 140)):=by
 have own:∀{d:cr}{o:HO}{H1:Hp},aX H0 H1->H0 d=none->aX H0 (upd H1 d o):=λ{d o H1} s h q u e=>by rw[aI<|bx e h];show s _ _ e
 show{λv hv=>?_,λhv=>?_};·let(a,__,rfl,__):=x.vals k v hv;let(inner,g1,g2,g3,g4,g5):=x.put hv hc;show{a,inner,9,g1,hc,8,nx _ {own sm g3,cX.upd g1.oK,tS.dict g1,kvs,(g5.congr λk' z'=>(hR k' z').symm).mono ∅}}
 have y:=x.ad6 hv hk hp h0 pA pd;have t1:cX H (upd H A 18):=cX.upd x.at_.oK;have hc1:=pW hc t1;let(inner,g1,g2,g3,g4,g5):=y.put (by rw[uH,aN rfl]) hc1;show{inner,g1,hc1,8,nx _ {own (own sm x.own) g3,t1.trans<|cX.upd g1.oK,(tS.dict x.at_).trans<|tS.dict g1,_,g5.congr λk' z'=>(hR k' z').symm}}
def T4{H0 H H2:Hp}{A b c p:cr}{xs:Aam}{kvs:List 95}{R R':Rl}{n:Nat}{k:NK}{zs:Aaf}{Nx:Hp->Prop}(Ex:aX H0 H2)(KG:cX H H2)(yb:tS H H2)(x:gC P w K H0 H2 A kvs R n)(hb:H2 b=none)(hp:upd H2 b (.tup xs) p=none)
  (qZ:∀H3,bA K H3 b xs->il K H3 k b) (hc:il K H2 (iV zs) c) (hn:n+2<10000000) (hR:∀k' z',R' k' z'↔R k' z'\/(k'=k/\z'=zs)) (nx:∀H',Hs P w K H0 H H' A R' (n+2)->Nx H'):
  iw P w K 50 A kvs/\il K 50 k b/\kvs.length<10000000/\
  (∀v,valN kvs k>v->∃a inner,v=-a/\iw P w K 50 a inner/\il K 50 (iV zs) c/\inner.length<10000000/\Nx (upd 50 a<|.ext<|DN P w a 140))/\
  (valN kvs k=none->∃inner,iw P w K (upd 50 A 18) p inner/\il K (upd 50 A 18) (iV zs) c/\inner.length<10000000/\
   Nx (upd (upd 50 A 18) p<|.ext<|DN P w p 140)):=by
 have s3:aX H2 (upd H2 b<|.tup xs):=bh hb _;have s4:aX (upd H2 b<|.tup xs) 50:=bh hp _;have mL:=s3.trans s4;have hb4:bA K 50 b xs:=bA.of<|s4 _ _ aF;have MP:upd (upd H2 b<|.tup xs) p (.dK []) p>.dK []:=aF;have p2:H2 p=none:=by
  cases e:H2 p with
  |none=>rfl
  |some u=>rw[s3 _ _ e]at hp;cases hp
 have p0:H0 p=none:=by
  cases e:H0 p with
  |none=>rfl
  |some u=>rw[Ex _ _ e]at p2;cases p2
 let(uA,hA):=x.at_.some;have pd:∀k' d,valN kvs k'>.ref d->d≠p:=λk' d h e=>by let(d',__,e',__,__,h4,__):=x.vals k' _ h;cases e';let(u,hu):=h4.some;rw[e,p2]at hu;cases hu
 have x4:=x.move (cX.same mL) λq _ h=>by
  rcases h with rfl|⟨k',h⟩;·rw[hA,mL _ _ hA]
  let(d',__,e',__,__,h4,__):=x.vals k' _ h;cases e';let(u,hu):=h4.some;rw[hu,mL _ _ hu]
 let(q1,q2):=acG x4 (Ex.trans mL) (qZ _ hb4) (pW hc<|cX.same mL) hn MP p0 (λe=>by rw[e,hA]at p2;cases p2) pd hR λH' pt=>nx H' {pt.sm,KG.trans<|(cX.same mL).trans pt.tp,yb.trans<|(tS.same mL).trans pt.is,pt.ai};show{x4.at_,qZ _ hb4,fC x4.len ∅,q1,q2}
def Hit(k:NK)(a:aC.Atom):Prop:=k=zF a.1 a.2.length\/∃i t,a.2[i]?>t/\k=xW a.1 a.2.length i t
def hits(L:List aC.Atom):Rl:=λk zs=>∃a∈L,Hit k a/\zs=a.2
structure Own(K:Frag)(C:cr):Prop where
 c:Bw K C
 C6:sN K C AbR
 QE:sN K C "vain"
inductive Z6(P:io)(w:i6)(K:Frag)(C:cr)(vs:Aam)(H:Hp)(Q:VK)(_x3:XK):Prop
 |mk (self t dx A:cr) (fs:List (i9×V)) (ys:Aam) (L M:List aC.Atom) (kvs:List (NK×cr×V)) (H0:Hp) (n:Nat) (_:vs=[-self,-t]) (_:H self>.ins C dx fs) (_:fs.lookup (AbR:i9)>-A) (_:fs.length<1000) (_:H0 self=none) (_:H0 t>.lst ys) (_:dw K H ys M) (_:M.length<=100) (_:(∀a∈M,jD a)) (_:aX H0 H) (_:gC P w K H0 H A kvs (hits L) n) (_:n<=1000000) (_:∀H' Ms B,aX H0 H'->cX H H'->H0 B=none->H' self>.ins C dx (L2.ff "vain" (-B) fs)->H' B>.dK []->gC P w K H0 H' A Ms (hits<|L++M) (n+300*M.length)->A≠B->(∀k d,valN Ms k>.ref d->d≠B)->Q .cU H')
def wF:b7 [AcY,AbV,"name","terms",AcP,"term"] [AcY,AbV] (bI O4):=iM 59
def adY{f:cr}{fd:re}(F:d6 K "add" "MapSearch.add" O4 f fd)(T:Txt K mg)(O:Own K C):cN P w K mg base fZ 2 f fd [AcY,AbV] (Z6 P w K C):=by
 show F.ok wF 98;let(self,t,dx,A,fs,ys,L,M,kvs,H0,n,rfl,hs,lk,lf,VT,ht,rK,lM,fM,sm,ax,hn,k):=h;have hN:=Kr hr;show{_,aA (eB bH 9 (eC<|pv 1) (lA 9<|cJ (gL 2 wF)<|cJ (gL 3 wF) ic)<|aA (Ap hN (Gz hN (zD (pv 0) 9) (dS<|b6 (pv 2)<|bu dD 9 T.fJ bK 47) hJ ⟨rfl,rfl,rfl,rfl⟩) (pv 3) oJ 9)<|aP<|eB bH 9 (LJ 9 T.yI 47) (lA 9<|cJ (gL 4 wF)<|cJ (gL 5 wF) ic)<|aP<|Ap hN (Gz hN (zD (pv 0) 9) (dS<|eX (pv 2)<|kj (bu dD 9 T.fJ bK 47) (pv 4)<|pv 5) hJ ⟨rfl,rfl,rfl,rfl⟩) (pv 3) oJ 9)<|aP<|LB (pv 0) hJ 9,?_}
 show{_,9,t,9,{_,bg.of<|sm _ _ ht},iC (xs:=ys) (λi Z H2=>∃x2 x3 x4 x5:Aan,Z=[some (-self),some (-t),x2,x3,x4,x5]/\i<=M.length/\Hs P w K H0 H H2 A (hits<|L++M.take i) (n+300*i)) {_,_,_,_,9,aQ _,sm,cX.refl H,tS.refl H,kvs,by simpa using ax} ?_ ?_ ?_};·ext i Z H2 hi ⟨_,_,_,_,rfl,_,pt⟩;show bg.of<|pt.sm _ _ ht
 ·ext i x Z H2 D1 hx ⟨_,_,_,_,rfl,hi,Ex,KG,yb,UY,NO⟩ uR _;let(a,ha,MF):=Paired.at' rK hx;have cb:=(aq.mp ha).1;let(ab,ac,rfl,ah0,M9):=MF;have w5:=gn M9 KG;let(fl,f0,fz):=fM a<|aB ha;show{ab,_,9,gn ah0 KG,9,_,_,9,_,_,9,9,?_};have lt:(a.2.map V.str).length=a.2.length:=af _
  let Rj:Nat->Rl:=λj k' z'=>hits (L++M.take i) k' z'\/(z'=a.2/\(k'=zF a.1 a.2.length\/∃i' t',i'<j/\a.2[i']?>t'/\k'=xW a.1 a.2.length i' t'))
  show uL λNX hNX=>?_;have go:∀(x4 x5:Aan)(H3:Hp),Hs P w K H0 H H3 A (Rj 0) (n+300*i+2)->NX [some (-self),some (-t),some<|.str a.1,some (-ac),x4,x5] H3:=λx4 x5 H3 pt=>by
   show hNX _ _ ?_;show{_,9,ac,9,{_,gn M9 pt.tp},VZ (xs:=a.2.map V.str) (λj Z H4=>∃x4 x5:Aan,Z=[some (-self),some (-t),some<|.str a.1,some (-ac),x4,x5]/\j<=a.2.length/\Hs P w K H0 H H4 A (Rj j) (n+300*i+2+2*j)) {_,_,9,aQ _,pt} ?_ ?_ ?_};·ext j Z H4 hj ⟨_,_,rfl,_,pt4⟩;show gn M9 pt4.tp
   ·ext j y q Z H4 hy ⟨_,_,rfl,hj,sm4,tp4,is4,kv4,ax4⟩ hq;let(z,hz,rfl):=k9 hy;have uT:=(aq.mp hz).1;have s5:aX H4 (upd H4 q<|.tup [.int j,.str z]):=bh hq _;show{q,_,9,bA.of aF,9,_,_,9,_,_,9,9,?_};have sm5:=sm4.trans s5;have OK:=tp4.trans<|cX.same s5;have is5:=is4.trans<|tS.same s5;have ax5:=ax4.same s5;show{_,9,self,C,dx,fs,_,9,is5 _ _ _ _ hs,O.c,O.C6,lk,A,kv4,9,ax5.at_,_,9,_,9,_,_,9,.inr {_,gn M9 OK,9},_,9,_,9,130,λb hb p hp=>?_};rw[lt]at hp⊢;have hR:∀k' z',Rj (j+1) k' z'↔Rj j k' z'\/(k'=xW a.1 a.2.length j z/\z'=a.2):=λk' z'=>by
     constructor
     ·ext(h|⟨e,h|⟨i',t',h1,h2,h3⟩⟩);·show .inl (.inl h)
      ·show .inl<|.inr {e,.inl h}
      rcases Nat.lt_or_eq_of_le (Nat.lt_succ_iff.mp h1)with h1|rfl;·show .inl<|.inr {e,.inr ⟨i',t',h1,h2,h3⟩}
      rw[hz]at h2;cases h2;show .inr ⟨h3,e⟩
     ext((h|⟨e,h|⟨i',t',h1,h2,h3⟩⟩)|⟨h3,e⟩);·show .inl h
     ·show .inr {e,.inl h}
     ·show .inr {e,.inr {i',t',iz h1,h2,h3}}
     show .inr {e,.inr {j,z,eS _,hz,h3}}
    let(q1,q2,q3,q4,q5):=T4 sm5 OK is5 ax5 hb hp (λH3 h=>Mx h f0 (fz z<|aB hz).2) (pW (Mw M9 λz hz=>(fz z hz).2) OK) ∅ hR (λH' pt=>pt);show{b,kv4,xW a.1 a.2.length j z,9,q1,q2,q3,λv hv=>?_,λhv=>?_};·let(a',inner,rfl,r1,r2,r3,r4):=q4 v hv;show{_,9,a',ac,inner,iV a.2,9,9,r1,r2,r3,_,_,9,uT,r4}
    let(inner,r1,r2,r3,r4):=q5 hv;show{_,9,p,ac,inner,iV a.2,9,9,r1,r2,r3,_,_,9,uT,r4}
   ext Z H4 ⟨_,_,rfl,_,sm4,tp4,is4,kv4,ax4⟩;rw[lt]at ax4;show uR _ _ {_,_,_,_,9,cb,sm4,tp4,is4,kv4,(ax4.congr λk' z'=>?_).mono ∅};rw[aY,ha];constructor
   ·ext(⟨b,hb,h⟩|⟨e,h⟩);·show{b,by rw[<-cH];show ba _ hb,h}
    show{a,84,?_,e};rcases h with h|⟨i',t',_,h2,h3⟩;·show .inl h
    show .inr ⟨i',t',h2,h3⟩
   ext⟨b,hb,h,e⟩;rw[<-cH]at hb;rcases aE.mp hb with hb|hb;·show .inl ⟨b,hb,h,e⟩
   have gm:b=a:=by simpa using hb
   subst gm;show .inr {e,?_};rcases h with h|⟨i',t',h2,h3⟩;·show .inl h
   show .inr {i',t',(aq.mp h2).1,h2,h3}
  show{_,9,self,C,dx,fs,_,9,yb _ _ _ _ hs,O.c,O.C6,lk,A,UY,9,NO.at_,_,9,_,9,_,_,9,.inr ⟨_,w5,rfl⟩,31,λb hb p hp=>?_};rw[lt]at hp⊢;let(q1,q2,q3,q4,q5):=T4 Ex KG yb NO hb hp (λH3 h=>My h f0) (Mw w5 λz hz=>(fz z hz).2) ∅ (λk' z'=>⟨λh=>h.imp id λ⟨e1,e2⟩=>⟨e2.elim id λzq=>by let(i',__,h,__):=zq;show absurd h<|fX _,e1⟩,λh=>h.imp id λ⟨e1,e2⟩=>{e2,.inl e1}⟩) (λH' pt=>go _ _ H' pt);show{b,UY,zF a.1 a.2.length,9,q1,q2,q3,λv hv=>?_,λhv=>?_};·let(a',inner,rfl,r1,r2,r3,r4):=q4 v hv;show{_,9,a',ac,inner,iV a.2,9,9,r1,r2,r3,r4}
  let(inner,r1,r2,r3,r4):=q5 hv;show{_,9,p,ac,inner,iV a.2,9,9,r1,r2,r3,r4}
 ext Z H2 ⟨_,_,_,_,rfl,_,Ex,KG,yb,UY,NO⟩;have kT:=yb _ _ _ _ hs;rw[(aV rK),bj]at NO
 refineλB hB=>?_
 have s3:aX H2 (upd H2 B<|.dK []):=bh hB _;have hB3:upd H2 B (.dK []) B>.dK []:=aF;have B0:H0 B=none:=by
  cases e:H0 B with
  |none=>rfl
  |some u=>rw[Ex _ _ e]at hB;cases hB
 have AB:A≠B:=λe=>by let(u,hu):=NO.at_.some;rw[e,hB]at hu;cases hu
 have dB:∀k d,valN UY k>.ref d->d≠B:=λk' d h e=>by let(d',__,e',__,__,h4,__):=NO.vals k' _ h;cases e';let(u,hu):=h4.some;rw[e,hB]at hu;cases hu
 have ax3:=NO.same s3;generalize (upd H2 B<|.dK [])=H3 at s3 hB3 ax3⊢;show{_,9,self,C,dx,fs,9,s3 _ _ kT,O.c,O.QE,lf,?_};have t4:cX H3 (upd H3 self<|.ins C dx<|L2.ff "vain" (-B) fs):=cX.upd<|Ck<|s3 _ _ kT;have nd:∀b Ms,iw P w K H3 b Ms->b≠self:=λb Ms h e=>by have Jt:=s3 _ _ kT;rw[<-e]at Jt;rcases h.1 with h|⟨_,h⟩<;>rw[h]at Jt<;>cases Jt
 show k _ UY B (λb u h=>?_) (KG.trans<|(cX.same s3).trans t4) B0 aF ?_ (ax3.move t4 λb _ h=>?_) AB dB;·rw[aI<|bx h VT];show s3 _ _<|Ex _ _ h
 ·rw[aI (λe=>by rw[e,s3 _ _ kT]at hB3;cases hB3)];show hB3
 show aI ?_;rcases h with rfl|⟨k',h⟩;·show nd _ _ ax3.at_
 let(d',__,e',__,__,h4,__):=ax3.vals k' _ h;cases e';show nd _ _ h4
inductive QQ(P:io)(w:i6)(K:Frag)(C:cr)(vs:Aam)(H:Hp)(Q:VK)(_x3:XK):Prop
 |mk (self t dx:cr) (ys:Aam) (L:List aC.Atom) (H0:Hp) (_:vs=[-self,-t]) (_:H self>.ins C dx []) (_:H0 self=none) (_:H0 t>.lst ys) (_:dw K H ys L) (_:L.length<=100) (_:(∀a∈L,jD a)) (_:aX H0 H) (_:∀H' A B kvs,aX H0 H'->H0 A=none->H0 B=none->H' self>.ins C dx [(AbR,-A),("vain",-B)]->H' B>.dK []->gC P w K H0 H' A kvs (hits L) (300*L.length)->A≠B->(∀k d,valN kvs k>.ref d->d≠B)->Q .cU H')
def xE:b7 [AcY,AbV] [AcY,AbV] (bI mF):=iM 59
def abP{f:cr}{fd:re}(F:d6 K "__init__" "MapSearch.__init__" mF f fd)(T:Txt K mg)(O:Own K C)(acJ:sQ P w K mg base C 2 "add" [AcY,AbV] (Z6 P w K C)):cN P w K mg base fZ 3 f fd [AcY,AbV] (QQ P w K C):=by
 show F.ok xE 98;let(self,t,dx,ys,L,H0,rfl,hs,VT,ht,rK,lL,fL,sm,k):=h;show{_,aA (LB (pv 0) hJ 9)<|aA (LB (pv 0) hJ 9)<|aP<|fW<|UP O.c acJ hr (pv 0) 79 ∅,?_}
 have own:∀{d:cr}{o:HO}{H1:Hp},aX H0 H1->H0 d=none->aX H0 (upd H1 d o):=λ{d o H1} s h q u e=>by rw[aI<|bx e h];show s _ _ e
 have z0:∀{p:cr}{H1:Hp},aX H0 H1->H1 p=none->H0 p=none:=λ{p H1} s h=>by
  cases e:H0 p with
  |none=>rfl
  |some u=>rw[s _ _ e]at h;cases h
 ext A hA;have s1:aX H (upd H A<|.dK []):=bh hA _;have hA1:upd H A (.dK []) A>.dK []:=aF;have A0:=z0 sm hA;have sA:A≠self:=λe=>by rw[e,hs]at hA;cases hA
 have m1:=sm.trans s1;generalize (upd H A<|.dK [])=H1 at s1 hA1 m1⊢;show{_,9,self,C,dx,[],9,s1 _ _ hs,O.c,O.C6,7,?_};have t2:cX H1 (upd H1 self 156):=cX.upd<|Ck<|s1 _ _ hs;have m2:aX H0 (upd H1 self 156):=own m1 VT;have kT:upd H1 self 156 self>.ins C dx [(AbR,-A)]:=aF;have VS:upd H1 self 156 A>.dK []:=aI sA▸hA1;generalize (upd H1 self 156)=H2 at t2 m2 kT VS⊢;ext B hB;have s3:aX H2 (upd H2 B<|.dK []):=bh hB _;have m3:=m2.trans s3;generalize (upd H2 B<|.dK [])=H3 at s3 m3⊢;show{_,9,self,C,dx,_,9,s3 _ _ kT,O.c,O.QE,by change 1<1000;decide,?_};have t4:cX H3 (upd H3 self 186):=cX.upd<|Ck<|s3 _ _ kT;have m4:aX H0 (upd H3 self 186):=own m3 VT;have hs4:upd H3 self 186 self>.ins C dx [(AbR,-A),("vain",-B)]:=by rw[aF];rfl
 have E5:upd H3 self 186 A>.dK []:=aI sA▸s3 _ _ VS;have t04:=(cX.same s1).trans<|t2.trans<|(cX.same s3).trans t4;show{_,9,self,dx,_,9,hs4,9,_,9,self,t,dx,A,_,ys,[],L,[],H0,0,9,hs4,9,by change 2<1000;decide,VT,ht,rK.tp t04,lL,fL,m4,{zX E5,aQ _,A0,λk v h=>90,λk _ zs zq=>by let(a,ha,__):=zq;show(by cases ha),λk k' d h=>90},aQ _,λH5 kvs B' m5 t5 B0 hs5 hB5 ax5 ab db=>k H5 A B' kvs m5 A0 B0 hs5 hB5 (↑ax5) ab db}
structure Fg(P:io)(w:i6)(K:Frag)(C:cr)(H:Hp)(me A B dx:cr)(kvs:List 95)(L:List aC.Atom):Prop where
 ins:H me>.ins C dx [(AbR,-A),("vain",-B)]
 ai:gC P w K (λ_=>none) H A kvs (hits L) 100000
 ab:A≠B
 db:∀k d,valN kvs k>.ref d->d≠B
def Fg.same{H H':Hp}{self A B dx:cr}{kvs:List 95}{L:List aC.Atom}(x:Fg P w K C H self A B dx kvs L)(s:aX H H'):Fg P w K C H' self A B dx kvs L:=
 {s _ _ x.ins,x.ai.move (cX.same s) (λb _ h=>by
  rcases h with rfl|⟨k,h⟩;·let(u,hu):=x.ai.at_.some;rw[hu,s _ _ hu]
  let(d,inner,e,__,__,h4,__):=x.ai.vals k _ h;cases e;let(u,hu):=h4.some;rw[hu,s _ _ hu]),x.ab,x.db}
def gC.got{H0 H:Hp}{A p:cr}{kvs:List 95}{R:Rl}{n:Nat}(x:gC P w K H0 H A kvs R n)(hp:H p>.dK [])(k:NK):∃d inner,(valN kvs k).getD (-p)=-d/\iw P w K H d inner/\inner.length<=n/\(inner.map (·.1)).Nodup/\∀j,(∃q∈inner,q.1=j)↔∃zs,R k zs/\j=iV zs:=by
 cases e:valN kvs k with
 |some v=>
  let(d,inner,rfl,__,__,h4,h5,h6,__,h8):=x.vals k v e;show⟨d,inner,rfl,h4,h5,h6,h8⟩
 |none=>show{p,[],9,zX hp,aQ _,84,λj=>⟨λzq=>by let(q,hq,__):=zq;show(by cases hq),λuF=>by let(zs,hz,__):=uF;show absurd hz<|x.no k e zs⟩}
def CN(g:du)(t:i9):Bool:=(aC.get g t).isSome||!bF t
def GR(g:du)(t:i9):i9:=(aC.get g t).getD t
def CM(g:du)(ts:Aaf)(n:Nat):List Nat:=(List.range n).filter λj=>CN g<|ts.getD j ""
def NM(g:du)(ts:Aaf)(ns:List Nat):List (Nat×i9):=ns.map λj=>(j,GR g<|ts.getD j "")
abbrev DD(K:Frag)(H:Hp):Aam->List (Nat×i9)->Prop:=Paired λ(y:V)(p:Nat×i9)=>∃q,y=-q/\bA K H q [.int p.1,.str p.2]
def Ax(bs:List (Nat×i9))(zs:Aaf):Bool:=bs.all λp=>decide (zs.getD p.1 ""=p.2)
def QC(L:List aC.Atom)(a:aC.Atom)(bs:List (Nat×i9))(inner:List 95):Prop:=(inner.map (·.1)).Nodup/\(∀p∈inner,∃zs,p.1=iV zs/\(a.1,zs)∈L/\28=a.2.length)/\
 ∀zs,(a.1,zs)∈L->28=a.2.length->Ax bs zs=true->∃p∈inner,p.1=iV zs
def Nh{g:du}{ts:Aaf}{i:Nat}:CM g ts (i+1)=CM g ts i++if CN g (ts.getD i "")=true then[i]else[]:=by unfold CM;rw[List.range_succ,mC,eT,List.filter_nil]
def Qg{g:du}{ts:Aaf}{i:Nat}:(CM g ts i).length<=i:=by have:=jd (λj=>CN g<|ts.getD j "")<|List.range i;rw[jI]at this;show this
def Qf{g:du}{ts:Aaf}{j:Nat}:j∈CM g ts 52↔∃t,ts[j]?>t/\CN g t=true:=by
 unfold CM;rw[gH,cZ,b5];constructor;·ext⟨h1,h2⟩;rw[au h1]at h2;show{_,au h1,h2}
 ext⟨t,h1,h2⟩;rw[h1];show{(aq.mp h1).1,h2}
def DD.same{H H':Hp}{ys:Aam}{bs:List (Nat×i9)}(h:DD K H ys bs)(s:aX H H'):DD K H' ys bs:=by
 induction h with
 |nil=>show .nil
 |cons h _ ih=>
  let(q,e,hq):=h;show .cons {q,e,dR hq s} ih
def Ni{L:List aC.Atom}{a:aC.Atom}{bs:List (Nat×i9)}{inner:List 95}{k:NK}(nd:(inner.map (·.1)).Nodup)(h:∀j,(∃q∈inner,q.1=j)↔∃zs,hits L k zs/\j=iV zs)(hb:∀p∈bs,p.1<a.2.length)(hk:k=zF a.1 a.2.length\/∃p∈bs,k=xW a.1 a.2.length p.1 p.2):QC L a bs inner:=by
 show{nd,λp hp=>?_,λzs hz lz ok=>?_}
 ·obtain⟨zs,⟨b,hbL,hit,rfl⟩,e⟩:=(h p.1).mp ⟨p,hp,rfl⟩;have:b.1=a.1/\b.2.length=a.2.length:=by
   rcases hk with rfl|⟨p0,_,rfl⟩
   ·rcases hit with hit|⟨i,t,_,hit⟩;·let(e1,e2):=abZ.mp hit;show{e1.symm,e2.symm}
    show absurd hit ad5
   rcases hit with hit|⟨i,t,_,hit⟩;·show absurd hit.symm ad5
   let(e1,e2,__):=abY.mp hit;show{e1.symm,e2.symm}
  show{b.2,e,?_,this.2};rw[<-this.1];show hbL
 show(h<|iV zs).mpr {zs,{(a.1,zs),hz,?_,9},9};rcases hk with rfl|⟨p0,ql,rfl⟩;·show .inl (by rw[lz])
 show .inr {p0.1,p0.2,?_,by rw[lz]};have h1:=bz<|cz.mp ok p0 ql;have h2:p0.1<28:=lz▸hb p0 ql;rw[b5,au h2]at h1;rw[au h2];show dX some h1
theorem A8{L:List aC.Atom}{a:aC.Atom}{bs:List (Nat×i9)}:∀{inner:List 95},(∀p∈inner,∃zs,p.1=iV zs/\(a.1,zs)∈L/\28=a.2.length)->∃rs:R1,inner.map (·.1)=rs.map iV/\∀zs∈rs,(a.1,zs)∈L/\28=a.2.length
 |[],_=>{[],9,λ_ h=>by cases h}
 |p::r,h=>by
  let(zs,e,h1,h2):=h p ay;let(rs,e',h'):=A8 (bs:=bs) λq hq=>h q<|az _ hq;show{zs::rs,by rw[a9,a9,e,e'],λz hz=>?_};rcases aK.mp hz with rfl|hz;·show⟨h1,h2⟩
  show h' z hz
def DD.tp{H H':Hp}{ys:Aam}{bs:List (Nat×i9)}(h:DD K H ys bs)(t:cX H H'):DD K H' ys bs:=by
 induction h with
 |nil=>show .nil
 |cons h _ ih=>
  let(q,e,hq):=h;show .cons {q,e,gn hq t} ih
def adX{g:du}{ts:Aaf}{ns:List Nat}{bs:List (Nat×i9)}{h:i9->i9}(CH:NM g ts ns=bs)(yg:CM g ts 52=ns)(ag:aC.hZ g h)(gu:∀u∈keys g,bF u=true):Ax bs (ts.map<|aC.ap bF h)=true:=by
 show cz.mpr λp hp=>bD ?_;rw[<-CH]at hp;let(j,hj,rfl):=aD.mp hp;rw[<-yg]at hj;let(t,ht,hf):=Qf.mp hj;rw[b5,b5,aW,ht];change aC.ap bF h t=GR g t;unfold GR aC.ap;cases q:aC.get g t with
 |some v=>
  have hk:t∈keys g:=by
   cases e:(decide (t∈keys g))with
   |true=>show bz e
   |false=>rw[aC.get_none.mpr<|of_decide_eq_false e]at q;cases q
  rw[gu t hk,aN rfl];show ag.get q
 |none=>
  unfold CN at hf;rw[q]at hf;have:bF t=false:=by simpa using hf
  rw[this,aL 84];rfl
inductive TB(P:io)(w:i6)(K:Frag)(C:cr)(vs:Aam)(H:Hp)(Q:VK)(_x3:XK):Prop
 |mk (self A B dx d:cr) (kvs:List (NK×cr×V)) (L:List aC.Atom) (v:V) (a:aC.Atom) (g:du) (_:vs=[-self,v,-d]) (_:Fg P w K C H self A B dx kvs L) (_:Ae K H v a) (_:jD a) (_:(∀b∈L,jD b)) (_:L.length<=1000) (_:H d>.dK (gK g)) (_:(keys g).Nodup) (_:(∀u∈keys g,bF u=true)) (_:(∀q∈g,PyData.strOk q.2=true)) (_:∀p ys rE H',aX H H'->H p=none->H' p>.lst ys->fA K H' ys rE->rE.length<=L.length->(∀zs∈rE,(a.1,zs)∈L)->(∀h,aC.hZ g h->(a.1,a.2.map<|aC.ap bF h)∈L->a.2.map (aC.ap bF h)∈rE)->Q (-p) H')
def iI:b7 [AcY,"atom",Aci,"name","terms","fixed","bound","found",AcP,"term","closer"] [AcY,"atom",Aci] (bI Ez):=iM 59
def Rv{f:cr}{fd:re}(F:d6 K "aims_of" "MapSearch.aims_of" Ez f fd)(T:Txt K mg)(O:Own K C)(D:Du P w K mg base):cN P w K mg base fZ 3 f fd [AcY,"atom",Aci] (TB P w K C):=by
 show F.ok iI 98;let(self,A,B,dx,d,kvs,L,v,a,g,rfl,se,ha,fa,fL,lL0,hd,nd,gu,gs,k):=h;have hu:=pX hr;have hN:=Kr hr;let(ab,ac,rfl,CI,w5):=ha;let(fl,f0,fz):=fa;show{_,aA (rX (pv 1)<|lA 9<|cJ (gL 3 iI)<|cJ (om (i:=4) iI.nd 9<|Or.inr 9) ic)<|aA (J0 (j:=5) iI.nd 9 9 9 (sG (more:=["term"]) (fs:=[Aci]) (fr:=[2])) (LJ 9 T.yI<|bS<|pv 4) (λ_ _ _ _=>zB (n:=2) 9 152) (λ_ _ _ _=>PW.pt<|DQ (Ca<|Uj hu (pv 1)<|pv 2)<|zv<|zx<|kF<|cl D.AF hr 79) (λ_ _ _ _=>pv 0))<|aA (nZ (i:=6) iI.nd 9 (Or.inr 9)<|lY 9 (eF (fs:=[Aci,"terms"]) (fr:=[2,4])) (eC<|pv 5) (λ_ _ _ _=>dS<|b6 (pv 0)<|As hu (pv 1) (cm (zL) (pv 2) (pv 0) (λ_ _=>9)) (cm (zL) (pv 2) (pv 0) (λ_ _=>9)) ⟨rfl,rfl,rfl,rfl⟩))<|aA (dW 07 iI<|I0 hN (zD (pv 0) 9) (dS<|b6 (pv 3)<|bu dD 9 T.fJ bK<|bS<|pv 4) hJ ⟨rfl,rfl,rfl,rfl⟩)<|aA (eB bH 9 (eC<|pv 6) (lA 9<|cJ (gL 08 iI)<|cJ (gL 09 iI) ic)<|aA (dW 10 iI<|I0 hN (zD (pv 0) 9) (dS<|eX (pv 3)<|kj (bu dD 9 T.fJ bK<|bS<|pv 4) (pv 08)<|pv 09) hJ ⟨rfl,rfl,rfl,rfl⟩)<|aP<|dW 07 iI<|wM (cD Rm (bu JM 9 T.fJ bK<|bS<|pv 10) (bu JM 9 T.fJ bK<|bS<|pv 07)<|cM _) (pv 10)<|pv 07)<|aP<|b8<|LL<|Ra 9 (Hi (fs:=["bound"]) (fr:=[6])) (XW<|pv 07) (λ_ _ _ _=>kF<|bu (Hn 9) 9 T.RD boot_all<|bS<|Au 9 (sG (more:=["term"]) (fs:=["aim"]) (fr:=[0])) (LI<|pv 1) (λ_ _ _ _=>zB (n:=2) 9 152) (λ_ _ _ _=>kZ mQ (cm (zL) (pv 2) (pv 0) (λ_ _=>9)) (pv 1)<|cM _)) (λ_ _ _ _=>pv 0),?_}
 have lt:(a.2.map V.str).length=a.2.length:=af _;show{_,9,ab,_,9,CI,9,_,_,9,_,_,9,9,?_};show{_,9,ac,9,⟨_,w5⟩,Oq (λi zs H2=>aX H H2/\i<=a.2.length/\zs=(CM g a.2 i).map λj:Nat=>V.int (j:Int)) (by rw[lt];show bB ∅) {aX.refl H,aQ _,9} ?_ ?_ ?_};·ext i zs H2 hi ⟨s2,rM,rfl⟩;show{gn w5<|cX.same s2,?_};rw[af];show Qg
 ·ext i x zs H2 q N hc ⟨s2,rM,rfl⟩ hq zR;let(z,hz,rfl):=k9 hc;have cb:=(aq.mp hz).1;have s3:aX H (upd H2 q<|.tup [.int i,.str z]):=s2.trans<|bh hq _;generalize (upd H2 q<|.tup [.int i,.str z])=H3 at s3⊢;have ez:a.2.getD i ""=z:=by rw[b5,hz];rfl
  have yes:∀H4,aX H H4->CN g z=true->N (((CM g a.2 i).map λj:Nat=>V.int (j:Int))++[.int i]) H4:=λH4 s4 c=>zR _ _ {s4,cb,by rw[Nh,ez,aN c,aJ];rfl};have no:∀H4,aX H H4->CN g z=false->N ((CM g a.2 i).map λj:Nat=>V.int (j:Int)) H4:=λH4 s4 c=>zR _ _ {s4,cb,by rw[Nh,ez,c];simp};show{_,9,_,9,d,_,9,jQ.k (k:=Sum.inr z)<|s3 _ _ hd,_,9,?_};have e0:(jo (gK g) (Sum.inr z:Key)).isSome=(aC.get g z).isSome:=by rw[rU,mS]
  rw[e0];show dQ 93 93;·show ug {_,9,yes H3 s3 ?_};unfold CN;rw[c];rfl
  show{_,rfl,z,rfl,by have:=(fz z<|aB hz).1;lia,λH4 s4=>{_,9,?_}};have e1:CN g z=!bF z:=by unfold CN;rw[show(aC.get g z).isSome=false by simpa using c];rfl
  rw[<-e1];show dQ (λc2=>{_,9,yes H4 (s3.trans s4) c2}) (λc2=>no H4 (s3.trans s4)<|↑c2)
 ext zs H2 ⟨s2,_,rfl⟩ fx hfx;rw[lt];generalize yg:CM g a.2 a.2.length=ns;have lns:ns.length<=100:=by rw[<-yg];show aR Qg fl
 have YH:∀j∈ns,∃t,a.2[j]?>t/\CN g t=true:=λj hj=>by rw[<-yg]at hj;show Qf.mp hj
 have s3:aX H (upd H2 fx<|.lst (ns.map λj:Nat=>V.int (j:Int))):=s2.trans<|bh hfx _;have Bh:upd H2 fx (.lst (ns.map λj:Nat=>V.int (j:Int))) fx>.lst (ns.map λj:Nat=>V.int (j:Int)):=aF;generalize (upd H2 fx<|.lst (ns.map λj:Nat=>V.int (j:Int)))=H3 at s3 Bh⊢;have lnv:(ns.map λj:Nat=>V.int (j:Int)).length=ns.length:=af _;show{_,9,fx,9,{_,bg.of Bh},j9 (λi zs H4=>aX H3 H4/\i<=ns.length/\DD K H4 zs (NM g a.2<|ns.take i)) (by rw[lnv];show bB ∅) {51,aQ _,.nil} ?_ ?_ ?_};·ext i zs H4 hi ⟨s4,rM,hb⟩;show{bg.of<|s4 _ _ Bh,?_};have:=aV hb;rw[this];unfold NM;rw[af,bo];lia
 ·ext i x zs H4 N hc ⟨s4,rM,hb⟩ zR;rw[aW]at hc;let(j,hj,rfl):=bw.mp hc;have cb:=(aq.mp hj).1;let(z,hz,__):=YH j<|aB hj;have ez:a.2.getD j ""=z:=by rw[b5,hz];rfl
  have s34:=s3.trans s4;have aeY:=gn w5<|cX.same s34;have at':rO (a.2.map V.str) (j:Int)>.str z:=iF (by rw[aW,hz];rfl);show{_,9,_,9,d,9,.inl {_,.inl<|s34 _ _ hd},_,9,_,9,_,_,_,_,9,9,aeY,at',_,9,_,9,_,_,_,_,9,9,aeY,at',_,jQ.k (k:=Sum.inr z)<|s34 _ _ hd,31,λq hq=>?_};have e1:(jo (gK g) (Sum.inr z:Key)).getD (.str z)=.str (GR g z):=by rw[rU];unfold GR;cases aC.get g z<;>rfl
  rw[e1];show zR _ _ {s4.trans<|bh hq _,cb,?_};unfold NM;rw[aY,hj,aJ];show eU (DD.same hb<|bh hq _)<|.cons {q,9,bA.of ?_} .nil;change upd H4 q _ q>.tup [.int j,.str<|GR g<|a.2.getD j ""];rw[ez];show aF
 ext zs H4 ⟨s4,_,hb⟩ bl hbl;rw[lnv,bj]at hb;generalize CH:NM g a.2 ns=bs at hb;have s5:aX H (upd H4 bl<|.lst zs):=s3.trans<|s4.trans<|bh hbl _;have zQ:upd H4 bl (.lst zs) bl>.lst zs:=aF;have R9:=DD.same hb<|bh hbl<|.lst zs;generalize (upd H4 bl<|.lst zs)=H5 at s5 zQ R9⊢;have lbs:bs.length<=100:=by rw[<-CH];unfold NM;rw[af];show lns
 have hb1:∀p∈bs,p.1<a.2.length:=λp hp=>by rw[<-CH]at hp;let(j,hj,rfl):=aD.mp hp;let(t,ht,__):=YH j hj;show(aq.mp ht).1
 have lzb:=aV R9;have K6:=se.same s5;have aeX:=gn w5<|cX.same s5;show{_,9,self,C,dx,_,_,9,K6.ins,O.c,O.C6,9,A,kvs,9,K6.ai.at_,_,9,_,9,_,_,9,.inr ⟨_,aeX,rfl⟩,31,λb hb p hp=>?_};rw[lt]at hp⊢;have s6:aX H5 (upd H5 b<|.tup [.str a.1,.int a.2.length]):=bh hb _;have hb6:bA K (upd H5 b<|.tup [.str a.1,.int a.2.length]) b [.str a.1,.int a.2.length]:=bA.of aF;rename_i p hp H7 s7 hp7;have zr:=s6.trans s7;have TL:=K6.same zr;let(dd,inner,e0,g1,g2,g3,g4):=TL.ai.got hp7<|zF a.1 a.2.length;show{b,kvs,zF a.1 a.2.length,9,TL.ai.at_,My (dR hb6 s7) f0,?_};rw[e0];show{_,rfl,bl,rfl,{_,bg.of<|zr _ _ zQ},iC (xs:=zs) (λi Z H8=>∃(dd:cr)(inner:List 95)(x8 x9 xM:Aan),Z=[some (-self),some (-ab),some (-d),some<|.str a.1,some (-ac),some (-fx),some (-bl),some (-dd),x8,x9,xM]/\aX H5 H8/\iw P w K H8 dd inner/\QC L a bs inner)
  {dd,inner,_,_,_,9,zr,g1,Ni g3 g4 hb1<|.inl 9} ?_ ?_ ?_}
 ·ext i Z H8 hi ⟨_,_,_,_,_,rfl,s8,_⟩;show bg.of<|s8 _ _ zQ
 ·ext i x Z H8 D1 hx ⟨dd,inner,_,_,_,rfl,s8,g1,g2⟩ uR _;obtain⟨⟨j,z⟩,VB,q,rfl,hq⟩:=Paired.at' (DD.same R9 s8) hx;have mjz:=aB VB;have se8:=K6.same s8;have hz:PyData.strOk z=true:=by
   rw[<-CH]at mjz;let(j',P1,e):=aD.mp mjz;let(t,ht,__):=YH j' P1;have e2:GR g (a.2.getD j' "")=z:=dX Prod.snd e;rw[b5,ht]at e2;rw[<-e2];change PyData.strOk ((aC.get g t).getD t)=true;cases q2:aC.get g t with
   |none=>show(fz t<|aB ht).2
   |some v=>show gs _<|aC.get_some q2
  show{q,_,9,hq,9,_,_,9,_,_,9,9,?_};show{_,9,self,C,dx,_,_,9,se8.ins,O.c,O.C6,9,A,kvs,9,se8.ai.at_,_,9,_,9,_,_,9,.inr {_,gn aeX<|cX.same s8,9},_,9,_,9,130,λb hb p hp=>?_};rw[lt]at hp⊢;have s9:aX H8 (upd H8 b<|.tup [.str a.1,.int a.2.length,.int j,.str z]):=bh hb _;have hb9:bA K (upd H8 b<|.tup [.str a.1,.int a.2.length,.int j,.str z]) b [.str a.1,.int a.2.length,.int j,.str z]:=bA.of aF;rename_i p hp ky fE ahI;have Ao:=s9.trans fE;have ads:=se8.same Ao;let(cd,cin,e1,c1,c2,c3,c4):=ads.ai.got ahI<|xW a.1 a.2.length j z;show{b,kvs,xW a.1 a.2.length j z,9,ads.ai.at_,Mx (dR hb9 fE) f0 hz,?_};rw[e1];have g10:iw P w K ky dd inner:=by let(u,hu):=g1.some;show g1.tp (cX.same Ao) (by rw[hu,Ao _ _ hu])
  show{_,9,cd,cin,9,c1,_,9,dd,inner,9,g10,_,_,9,9,_,9,?_};show dQ 93 (λc=>{_,9,uR _ _ {dd,inner,_,_,_,9,s8.trans Ao,g10,g2}});show{_,9,uR _ _ {cd,cin,_,_,_,9,s8.trans Ao,c1,Ni c3 c4 hb1<|.inr {(j,z),mjz,9}}}
 ext Z H8 ⟨dd,inner,_,_,_,rfl,s8,g1,GI,g2,g3⟩;let(rs,ers,hrs):=A8 (bs:=bs) g2;have lrs:inner.length=rs.length:=by have:=dX List.length ers;rw[af,af]at this;show this
 have lL:rs.length<=L.length:=by
  have:=js (m:=L.map λb=>iV b.2) GI λj hj=>by let(p,hp,rfl):=aD.mp hj;let(za,e,h1,__):=g2 p hp;show aD.mpr {_,h1,e.symm}
  rw[af,af]at this;lia
 let(u,Vj):=g1.some;have nfz:∀o v,H8 dd≠some (.fF o v):=λo v e=>by rcases g1.1 with h|⟨_,h⟩<;>rw[h]at e<;>cases e
 have lkv:(inner.map λp=>((V.ref p.2.1,p.2.2):V×V)).length=inner.length:=af _;have aic:bl≠dd:=λe=>by have:=s8 _ _ zQ;rw[e]at this;rcases g1.1 with h|⟨_,h⟩<;>rw[h]at this<;>cases this
 show{dd,nfz,_,9,dd,u,inner,9,Vj,g1,λo=>?_};have t9:cX H8 (upd H8 dd<|.fF o u):=cX.upd g1.oK;have bl9:upd H8 dd (.fF o u) bl>.lst zs:=aI aic▸s8 _ _ zQ;have hb9:=(DD.same R9 s8).tp t9;have VI:upd H8 dd (.fF o u) dd>.fF o u:=aF;have back:∀b v,b≠dd->H8 b>v->upd H8 dd (.fF o u) b>v:=λb v n h=>aI n▸h;have aap:=λp hp=>pW (g1.2 p hp) t9;generalize (upd H8 dd<|.fF o u)=H9 at t9 bl9 hb9 VI back aap⊢;show Hh (λi ys ky=>aX H9 ky/\i<=rs.length/\fA K ky ys ((rs.take i).filter<|Ax bs)) (by rw[lkv,bW];lia) {51,aQ _,.nil} ?_ ?_ ?_;·ext i ys ky hi ⟨fE,rM,hr⟩;show{fE _ _ VI,?_};rw[aV hr];have:=jd (Ax bs)<|rs.take i;rw[bo]at this;lia
 ·ext i kv ys ky N oM ⟨fE,rM,hr⟩ zR;rw[aW]at oM;let(p,hp,rfl):=bw.mp oM;have hil:=(aq.mp hp).1;have vH:i<rs.length:=by lia
  have ep:p.1=iV rs[i]:=by have:=dX (λl=>l[i]?) ers;simp only[aW,hp,au vH,km]at this;show cB this
  generalize hri:rs[i]=row at ep;have YE:rs[i]?>row:=by rw[au vH,hri]
  let(RF,agT):=hrs row<|aB YE;have HY:=dR (ad4 (by rw[<-ep];show(aap p<|aB hp).1)) fE;show{_,9,bl,9,{_,bg.of<|fE _ _ bl9},AO (xs:=zs) (λj us xw=>aX ky xw/\j<=bs.length/\us=((bs.take j).map λq=>decide (row.getD q.1 ""=q.2)).map V.bl) (bB ∅) {51,aQ _,9} ?_ ?_ ?_};·ext j us xw hj ⟨oG,G0,rfl⟩;show{bg.of<|oG _ _<|fE _ _ bl9,?_};rw[af,af,bo];lia
  ·ext j y us xw M hy ⟨oG,G0,rfl⟩ hM;obtain⟨⟨jj,z⟩,VB,q,rfl,hq⟩:=Paired.at' (hb9.same<|fE.trans oG) hy;have uT:=(aq.mp VB).1;have jl:jj<row.length:=by rw[agT];show hb1 (jj,z) (aB VB)
   show{q,_,_,9,hq,pT ?_};show{_,9,_,9,_,_,_,_,9,9,dR HY oG,iF (by rw[aW,au jl];rfl),_,9,9,?_};have e1:decide (V.str row[jj]=V.str z)=decide (row.getD jj ""=z):=by rw[b5,au jl];simp
   rw[e1];show hM _ _ {oG,uT,?_};rw[aY,VB,aJ,aJ];rfl
  ext us xw ⟨oG,_,rfl⟩ q hq;rw[lzb,bj];show{q,_,9,bg.of aF,_,9,?_};have e1:((bs.map λq=>decide (row.getD q.1 ""=q.2)).all id)=Ax bs row:=by rw[List.all_map];rfl
  rw[e1];have tF:aX ky (upd xw q<|.lst<|(bs.map λq=>decide (row.getD q.1 ""=q.2)).map V.bl):=oG.trans<|bh hq _;generalize (upd xw q<|.lst<|(bs.map λq=>decide (row.getD q.1 ""=q.2)).map V.bl)=Bv at tF⊢;show dQ (λc=>{_,9,zR _ _ {fE.trans tF,vH,?_}}) (λc=>zR _ _ {fE.trans tF,vH,?_});·rw[aY,YE,mC];show eU (kY hr<|cX.same tF) ?_;change fA K Bv _ (List.filter (Ax bs) [row]);rw[eT,aN c];show .cons {p.2.1,9,dR HY tF} .nil
  rw[aY,YE,mC];change fA K Bv _ (_++List.filter (Ax bs) [row]);rw[eT,aL c,List.filter_nil,eO];show kY hr<|cX.same tF
 ext ys ky ⟨fE,_,hr⟩ l hl;rw[lkv,lrs,bj]at hr;have ld:l≠dd:=λe=>by rw[e,fE _ _ VI]at hl;cases hl
 show{o,u,by rw[aI<|cL ld];show fE _ _ VI,?_};have st:aX H (upd (upd ky l 49) dd u):=λb v h=>by
  by_cases c:b=dd;·rw[c,aF];have:=s8 _ _<|s5 _ _ h;rw[c,Vj]at this;show this
  have tM:=fE _ _<|back b v c<|s8 _ _<|s5 _ _ h;rw[aI c,aI<|bx tM hl];show tM
 have l0:H l=none:=by
  cases e:H l with
  |none=>rfl
  |some v=>rw[fE _ _<|back l v ld<|s8 _ _<|s5 _ _ e]at hl;cases hl
 have tpp:cX ky (upd (upd ky l 49) dd u):=(cX.upd<|Ry hl).trans (cX.upd λxs q=>by
  have h0:upd ky l 49 dd>.fF o u:=by rw[aI<|cL ld];show fE _ _ VI
  have nu:∀xs,u≠ .tup xs:=λxs e=>by rw[e]at Vj;rcases g1.1 with h|⟨_,h⟩<;>rw[h]at Vj<;>cases Vj
  rcases q with q|⟨o',q⟩<;>rw[h0]at q;·cases q
  injection q with q;injection q with _ q;show nu _ q)
 show k l ys _ _ st l0 (aI ld▸aF) (kY hr tpp) (aR (jd _ _) lL) (λz hz=>(hrs z (gH.mp hz).1).1) λh ag hm=>?_;have bC:=adX CH yg ag gu;show gH.mpr {?_,bC};let(p,hp,e):=g3 _ hm (by rw[af]) bC;have:iV (a.2.map<|aC.ap bF h)∈rs.map iV:=by rw[<-ers,<-e];show aD.mpr ⟨p,hp,rfl⟩
 let(z,hz,ez):=aD.mp this;rw[<-DR ez];show hz
def atK(a:aC.Atom):NK:=.tup [.key<|.inr a.1,iV a.2]
def Uq:Option i9->NK
 |none=>.cU
 |some z=>.key<|.inr z
def Pr(m:List (Option i9)):NK:=.tup<|m.map Uq
def vb(p:List aC.Atom)(m:List 81):NK:=.tup [.tup<|p.map atK,.tup<|m.map Pr]
theorem map_inj{α β:Type}{f:α->β}(h:∀x y,f x=f y->x=y):∀{l m:List α},l.map f=m.map f->l=m
 |[],[],_=>rfl
 |[],_::_,e=>by cases e
 |_::_,[],e=>by cases e
 |x::l,y::m,e=>by injection e with e1 e2;rw[h x y e1,map_inj h e2]
def acC(a b:aC.Atom)(h:atK a=atK b):a=b:=by unfold atK at h;simp only[NK.tup.injEq,oS,NK.key.injEq,vh,AQ]at h;show AV h.1<|DR h.2
def abK(a b:Option i9)(h:Uq a=Uq b):a=b:=by cases a<;>cases b<;>simp_all [Uq]
def ab2(a b:List (Option i9))(h:Pr a=Pr b):a=b:=by injection h with h;show map_inj abK h
def Xf{p p':List aC.Atom}{m m':List 81}(h:vb p m=vb p' m'):p=p'/\m=m':=by unfold vb at h;simp only[NK.tup.injEq,oS,AQ]at h;show{map_inj acC h.1,map_inj ab2 h.2}
def YV{a:aC.Atom}(h:jD a):mD 2 (atK a):=mJ λk hk=>by
 simp only[aK,lF,uc]at hk;rcases hk with rfl|rfl;·show q9 h.2.1
 show AG λz hz=>(h.2.2 z hz).2
def YU{m:List (Option i9)}(h:∀z,some z∈m->PyData.strOk z=true):mD 1 (Pr m):=mJ λk hk=>by
 let(o,ho,rfl):=aD.mp hk;cases o with
 |none=>show YT
 |some z=>show q9<|h z ho
def _root_.L2.mD.mono{n m:Nat}{k:NK}(h:mD n k)(e:n<=m):mD m k:={h.1,aR h.2.1 e,aR h.2.2 e}
def VU{p:List aC.Atom}{m:List 81}(h1:∀a∈p,jD a)(h2:∀r∈m,∀z,some z∈r->PyData.strOk z=true):SH (vb p m):=(mJ λk hk=>by
 simp only[aK,lF,uc]at hk;rcases hk with rfl|rfl;·show mJ λk hk=>by let(a,ha,rfl):=aD.mp hk;show YV<|h1 a ha
 show mJ λk hk=>by let(r,hr,rfl):=aD.mp hk;show(YU<|h2 r hr).mono 7).good 7
def adZ{H:Hp}{v:V}{a:aC.Atom}(h:Ae K H v a):NV K H (atK a) v:=by let(b,c,rfl,h1,h2):=h;unfold atK;show{b,_,9,h1,?_};show{_,_,9,by rw[NV];rfl,_,_,9,GH h2,9}
def abU{H:Hp}{ys:Aam}{p:List aC.Atom}(h:dw K H ys p):qM K H (p.map atK) ys:=by
 induction h with
 |nil=>rw[gB,qM]
 |cons h _ ih=>
  show{_,_,9,adZ h,ih}
def opV:Option i9->V
 |none=>.cU
 |some z=>.str z
abbrev Im(K:Frag)(H:Hp):Aam->List 81->Prop:=Paired λ(y:V)(m:List (Option i9))=>∃q,y=-q/\bA K H q (m.map opV)
theorem Pn{H:Hp}:∀m:List (Option i9),qM K H (m.map Uq) (m.map opV)
 |[]=>by rw[gB,qM];rfl
 |o::r=>by
  show{_,_,9,?_,Pn r};cases o with
  |none=>change NV K H .cU .cU;rw[NV]
  |some z=>change NV K H (.key<|.inr z) (.str z);rw[NV];rfl
def abT{H:Hp}{ys:Aam}{ms:List 81}(h:Im K H ys ms):qM K H (ms.map Pr) ys:=by
 induction h with
 |nil=>rw[gB,qM]
 |cons h _ ih=>
  let(q,rfl,hq):=h;show{_,_,9,?_,ih};unfold Pr;show{q,_,9,hq,Pn _}
def U3{H:Hp}{b b1 b2:cr}{ys zs:Aam}{p:List aC.Atom}{ms:List 81}(hb:bA K H b [-b1,-b2])(h1:bA K H b1 ys)(h2:bA K H b2 zs)(hp:dw K H ys p)(hm:Im K H zs ms)(g1:∀a∈p,jD a)(g2:∀r∈ms,∀z,some z∈r->PyData.strOk z=true):il K H (vb p ms) b:=by
 show{?_,VU g1 g2};unfold vb;show{b,_,9,hb,?_};show{_,_,9,?_,_,_,9,?_,9};·rw[NV];show{b1,ys,9,h1,abU hp}
 rw[NV];show{b2,zs,9,h2,abT hm}
def gw(P:io)(w:i6)(K:Frag)(H:Hp)(B:cr)(L:List aC.Atom)(n:Nat):Prop:=∃kvs,iw P w K H B kvs/\kvs.length<=n/\∀q∈kvs,∃p m,q.1=vb p m/\aC.SA bF L p m
def gw.mono{H:Hp}{B:cr}{L:List aC.Atom}{n m:Nat}(h:gw P w K H B L n)(e:n<=m):gw P w K H B L m:=by let(kvs,h1,h2,h3):=h;show{kvs,h1,aR h2 e,h3}
def gw.same{H H':Hp}{B:cr}{L:List aC.Atom}{n:Nat}(h:gw P w K H B L n)(s:aX H H'):gw P w K H' B L n:=by let(kvs,h1,h2,h3):=h;let(u,hu):=h1.some;show{kvs,h1.tp (cX.same s) (by rw[hu,s _ _ hu]),h2,h3}
def gw.put{H:Hp}{B b:cr}{L:List aC.Atom}{n:Nat}{kvs:List 95}{p:List aC.Atom}{m:List 81}{v:V}(h1:iw P w K H B kvs)(h2:kvs.length<=n)(h3:∀q∈kvs,∃p m,q.1=vb p m/\aC.SA bF L p m)(hb:il K H (vb p m) b)(hv:aC.SA bF L p m):
  gw P w K (upd H B<|.ext<|DN P w B<|putN kvs (vb p m) b v) B L (n+1):=by
 show{_,h1.put hb,aR qW<|d7 h2,λq hq=>?_};rcases Me hq with⟨q0,Ju,e,_⟩|⟨e,_⟩;·let(p',m',e',PQ):=h3 q0 Ju;show{p',m',e.trans e',PQ}
 show⟨p,m,e,hv⟩
def SB(B:cr)(H H':Hp):Prop:=∀b u,b≠B->H b>u->H' b>u
def SB.refl(B:cr)(H:Hp):SB B H H:=λ_ _ _ h=>h
def SB.trans{B:cr}{H H1 H2:Hp}(a:SB B H H1)(b:SB B H1 H2):SB B H H2:=λx u n h=>b x u n<|a x u n h
def SB.same{B:cr}{H H':Hp}(s:aX H H'):SB B H H':=λx u _ h=>s x u h
def SB.upd{B:cr}{H:Hp}{o:HO}:SB B H (upd H B o):=λx u n h=>by rw[aI n];show h
def gw.oK{H:Hp}{B:cr}{L:List aC.Atom}{n:Nat}(h:gw P w K H B L n):wg H B:=by let(kvs,h1,__):=h;show h1.oK
def SB.tp{B:cr}{H H':Hp}(s:SB B H H')(h:wg H B):cX H H':=λb xs q=>by
 have hb:b≠B:=λe=>h xs<|e▸q;rcases q with q|⟨o,q⟩;·show .inl<|s _ _ hb q
 show .inr {o,s _ _ hb q}
def gw.Kl{H:Hp}{B:cr}{L:List aC.Atom}{n:Nat}(h:gw P w K H B L n):∀xs,¬Rd H B (.lst xs):=λxs q=>by let(kvs,h1,__):=h;rcases h1.1 with e|⟨_,e⟩<;>rcases q with q|⟨o,q⟩<;>rw[e]at q<;>cases q
def KW{B a:cr}{H H':Hp}{xs:Aam}(q:bg K H a xs)(s:SB B H H')(h:∀xs,¬Rd H B (.lst xs)):bg K H' a xs:=by
 rcases q with q|q
 ·have hb:a≠B:=λe=>h xs<|e▸q;rcases q with q|⟨o,q⟩;·show .inl (.inl<|s _ _ hb q)
  show .inl<|.inr {o,s _ _ hb q}
 show .inr q
def Fg.sb{H H':Hp}{self A B dx:cr}{kvs:List 95}{L:List aC.Atom}{n:Nat}(x:Fg P w K C H self A B dx kvs L)(v:gw P w K H B L n)(s:SB B H H'):Fg P w K C H' self A B dx kvs L:=by
 have sB:self≠B:=λe=>by let(kv,h1,__):=v;have:=x.ins;rw[e]at this;rcases h1.1 with h|⟨_,h⟩<;>rw[h]at this<;>cases this
 show{s _ _ sB x.ins,x.ai.move (s.tp v.oK) (λb _ h=>?_),x.ab,x.db};rcases h with rfl|⟨k,h⟩;·let(u,hu):=x.ai.at_.some;rw[hu,s _ _ x.ab hu]
 have:=x.db k b h;let(d,inner,e,__,__,h4,__):=x.ai.vals k _ h;cases e;let(u,hu):=h4.some;rw[hu,s _ _ this hu]
def tn:Nat->Nat
 |0=>0
 |n+1=>25*tn n+1
theorem KJ:∀a b,tn a+tn b<=tn (a+b)
 |0,b=>by simp[tn]
 |a+1,b=>by
  have ih:=KJ a b;rw[show a+1+b=(a+b)+1 by lia];simp only[tn];have:tn b<=25*tn b:=by lia
  lia
def aa4{a b:Nat}(h:a<=b):tn a<=tn b:=by have:=KJ a<|b -a;rw[show a+(b -a)=b by lia]at this;lia
theorem KH:∀ps:List (List aC.Atom),(ps.map λp=>tn p.length).sum<=tn (ps.map List.length).sum
 |[]=>by simp[tn]
 |p::ps=>by have:=KH ps;have h2:=KJ p.length (ps.map List.length).sum;simp only[a9,kC];lia
structure Ask(P:io)(w:i6)(K:Frag)(C:cr)(H:Hp)(me A B dx:cr)(kvs:List 95)(L:List aC.Atom)(c:Nat)(U:Aaf)(d:cr)(g:du)(p:List aC.Atom)(n:Nat):Prop where
 se:Fg P w K C H me A B dx kvs L
 va:gw P w K H B L c
 lL:L.length<=25
 fL:∀b∈L,jD b
 fp:∀b∈p,jD b
 ln:p.length<=n
 n8:n<=08
 lc:c+tn p.length<=9000000
 hd:H d>.dK (gK g)
 dB:d≠B
 nd:(keys g).Nodup
 gu:∀u∈keys g,bF u=true
 fg:∀q∈g,PyData.strOk q.2=true
 gU:∀u∈keys g,u∈U
 pU:∀u∈aC.lq bF p,u∈U
 lU:U.length<=1000
def Tells(P:io)(w:i6)(K:Frag)(H:Hp)(B:cr)(L:List aC.Atom)(c:Nat)(g:du)(p:List aC.Atom)(Q:VK):Prop:=
 (∀H',SB B H H'->gw P w K H' B L (c+tn p.length)->¬aC.tU bF L g p->Q .cU H')/\
 ∀H' d' g',SB B H H'->gw P w K H' B L (c+tn p.length)->H' d'>.dK (gK g')->d'≠B->(∀q∈g',PyData.strOk q.2=true)->aC.Got bF L g g' p->Q (-d') H'
inductive K0(P:io)(w:i6)(K:Frag)(C:cr)(n:Nat)(vs:Aam)(H:Hp)(Q:VK)(_x3:XK):Prop
 |mk (self A B dx pl d:cr) (kvs:List (NK×cr×V)) (L:List aC.Atom) (c:Nat) (U:Aaf) (g:du) (p:List aC.Atom) (ys:Aam) (_:vs=[-self,-pl,-d]) (_:Ask P w K C H self A B dx kvs L c U d g p n) (_:bg K H pl ys) (_:dw K H ys p) (_:p≠[]) (_:Tells P w K H B L c g p Q)
inductive Al(P:io)(w:i6)(K:Frag)(C:cr)(n:Nat)(vs:Aam)(H:Hp)(Q:VK)(_x3:XK):Prop
 |mk (self A B dx pl d:cr) (kvs:List (NK×cr×V)) (L:List aC.Atom) (c:Nat) (U:Aaf) (g:du) (p:List aC.Atom) (ys:Aam) (_:vs=[-self,-pl,-d]) (_:Ask P w K C H self A B dx kvs L c U d g p n) (_:bg K H pl ys) (_:dw K H ys p) (_:Tells P w K H B L c g p Q)
structure Dp(P:io)(w:i6)(K:Frag)(mg:Aab)(base:nw)(C:cr):Prop extends Dt2 P w K mg base where
 X7:dh P w K mg base 4 "parts_of" [AbV,Aci] (IF K)
 Co:sQ P w K mg base C 3 "aims_of" [AcY,"atom",Aci] (TB P w K C)
structure Dm(P:io)(w:i6)(K:Frag)(mg:Aab)(base:nw)(C:cr)(n:Nat):Prop extends Dp P w K mg base C where
 Ke:sQ P w K mg base C (6+2*n) AcC [AcY,"part",Aci] (K0 P w K C n)
structure Dq(P:io)(w:i6)(K:Frag)(mg:Aab)(base:nw)(C:cr)(n:Nat):Prop extends Dp P w K mg base C where
 FI:sQ P w K mg base C (07+2*n) "mapped" [AcY,AbV,Aci] (Al P w K C n)
theorem KR:∀(l:List (List aC.Atom))(i:Nat),((l.take i).map λp=>tn p.length).sum<=(l.map λp=>tn p.length).sum
 |[],i=>by simp
 |x::r,0=>by simp
 |x::r,i+1=>by have:=KR r i;rw[BE,a9,a9,kC,kC];lia
def yE:b7 [AcY,AbV,Aci,"part"] [AcY,AbV,Aci] (bI vV):=iM 59
def Jd{f:cr}{fd:re}{n:Nat}(F:d6 K "mapped" "MapSearch.mapped" vV f fd)(T:Txt K mg)(O:Own K C)(D:Dm P w K mg base C n):cN P w K mg base fZ (07+2*n) f fd [AcY,AbV,Aci] (Al P w K C n):=by
 rw[show 07+2*n=(6+2*n)+1 by lia];show F.ok yE 98;let(self,A,B,dx,pl,d,kvs,L,c,U,g,p,ys,rfl,ak,iu,rK,k1,k2):=h;show{_,aA (eB bH 9 (eC<|cl D.X7 hr (b6 (pv 1)<|pv 2) ∅) (gL 3 yE)<|aA (dW 2 yE<|UP O.c D.Ke hr (pv 0) (b6 (pv 3)<|pv 2) ∅)<|aP<|dP (cD GC (pv 2) j6<|cM _) (aP<|b8 j6) cP)<|aP<|b8<|pv 2,?_}
 let(po1,Ua,T9,po4):=aC.FD p [] [] .nil 84 84 84;rw[iE]at T9;have l8:=aR ak.ln ak.n8;show{_,9,_,9,pl,d,ys,p,g,9,iu,rK,8,ak.fp,ak.hd,λq xN H1 s1 hq hq1 EY=>?_};generalize ahH:aC.partsOf bF g p=ps at EY;have ahG:p.foldl (aC.rh bF g) []=ps:=ahH;rw[ahG]at po1 Ua T9 po4;have S9:=ak.va.same s1;have lps:ps.length<=08:=by
  have:∀l:List (List aC.Atom),(∀q∈l,q≠[])->l.length<=(l.map List.length).sum:=by
   ext l
   induction l with
   |nil=>ext _;simp
   |cons x r ih=>
    ext h;have h1:x.length≠0:=λe=>h x ay<|d9.mp e;have h2:=ih λq hq=>h q<|az _ hq;rw[a9,kC,bJ];lia
  have:=this ps po4;lia
 show{q,rfl,{_,bg.of hq1},iC (xs:=xN) (λi Z H2=>∃(di:cr)(gi:du)(x3:Aan),Z=[some (-self),some (-pl),some (-di),x3]/\i<=ps.length/\SB B H1 H2/\gw P w K H2 B L (c+((ps.take i).map λp=>tn p.length).sum)/\H2 di>.dK (gK gi)/\di≠B/\(∀q∈gi,PyData.strOk q.2=true)/\aC.Got bF L g gi (ps.take i).flatten)
  {d,g,_,9,aQ _,SB.refl B H1,by simpa using S9,s1 _ _ ak.hd,ak.dB,ak.fg,aC.Got.nil ak.nd} ?_ ?_ ?_}
 ·ext i Z H2 hi ⟨di,gi,_,rfl,_,Gq,_⟩;show KW (bg.of hq1) Gq S9.Kl
 ·ext i x Z H2 D1 hx ⟨di,gi,_,rfl,hi,Gq,ZO,hd2,dB2,fg2,got⟩ uR rt1;let(pi,Vq,l,Ql,rfl,hl,G1):=Paired.at' EY hx;have cb:=(aq.mp Vq).1;have mpi:=aB Vq;have Xu:=λb hb=>by simpa using(Ua b).mpr ⟨pi,mpi,hb⟩
  have e1:((ps.take<|i+1).map λp=>tn p.length).sum=((ps.take i).map λp=>tn p.length).sum+tn pi.length:=by rw[aY,Vq,aJ,sR];simp
  have e2:(ps.take<|i+1).flatten=(ps.take i).flatten++pi:=by rw[aY,Vq,List.flatten_append];simp
  have le1:((ps.take<|i+1).map λp=>tn p.length).sum<=tn p.length:=aR (KR _ _)<|aR (KH ps)<|nr (by rw[T9]);have lpi:pi.length<=p.length:=by rw[<-T9];show Az<|aD.mpr ⟨pi,mpi,rfl⟩
  have uu:=λu hu=>ak.pU u (by
   let(b,hb,h):=aC.dI.mp hu;show aC.dI.mpr {b,Xu b hb,h})
  have gk:=λu hu=>((got.ks u).mp hu).imp id λh=>by let(b,hb,h):=aC.dI.mp h;let(r,hr,hb):=nU.mp hb;show aC.dI.mpr {b,by simpa using(Ua b).mpr {r,dE hr,hb},h}
  have ask:Ask P w K C H2 self A B dx kvs L (c+((ps.take i).map λp=>tn p.length).sum) U di gi pi n:=
   {(ak.se.same s1).sb S9 Gq,ZO,ak.lL,ak.fL,λb hb=>ak.fp b<|Xu b hb,aR lpi ak.ln,ak.n8,by have:=ak.lc;lia,hd2,dB2,got.nd,λu hu=>(gk u hu).elim (ak.gu u) λh=>(aC.dI.mp h).elim λb h=>h.2.2,fg2,λu hu=>(gk u hu).elim (ak.gU u)<|ak.pU u,uu,ak.lU}
  show{_,9,self,dx,_,9,ask.se.ins,9,_,9,_,9,self,A,B,dx,l,di,kvs,L,_,U,gi,pi,Ql,9,ask,bg.of<|Gq _ _ (λe=>S9.Kl Ql<|.inl<|e▸hl) hl,G1.tp<|Gq.tp S9.oK,po4 pi mpi,λH3 sb3 va3 nc=>?_,λH3 d3 g3 sb3 va3 sv dB3 fg3 ah4=>?_}
  ·show{_,9,9,_,9,ug ?_};show rt1 _ _<|k1 H3 ((SB.same s1).trans<|Gq.trans sb3) (va3.mono ∅)<|aC.UT got (λu hu hq=>?_) nc Xu;let(b,hb,h):=aC.dI.mp hq;let(r,hr,hb):=nU.mp hb;let(j,hj):=gS.mp hr;have hji:j<i:=by have:=(aq.mp hj).1;rw[bo]at this;lia
   have P1:ps[j]?>r:=by rw[List.getElem?_take,aN hji]at hj;show hj
   have ap:=jf.mp po1 j i ∅ cb hji;rw[(aq.mp P1).2,(aq.mp Vq).2]at ap;show ap u (aC.dI.mpr ⟨b,hb,h⟩) hu
  show{_,9,9,_,9,mH ?_};show uR _ _ {d3,g3,_,9,cb,Gq.trans sb3,?_,sv,dB3,fg3,?_};·rw[e1,<-vo];show va3
  rw[e2];show got.trans got.nd ah4
 ext Z H2 ⟨di,gi,_,rfl,_,Gq,ZO,hd2,dB2,fg2,got⟩;rw[(aV EY),bj]at ZO got;have le2:=KH ps;rw[T9]at le2;show{_,9,k2 H2 di gi ((SB.same s1).trans Gq) (ZO.mono ∅) hd2 dB2 fg2 (got.perm λb=>?_)};rw[nU];show⟨λzq=>by let(r,hr,hb):=zq;simpa using(Ua b).mpr ⟨r,hr,hb⟩,λhb=>(Ua b).mp<|↑hb⟩
def abD{X:Cx}{tg l:wv}{tl:TE}(hl:PE X l tl)(h:X.K=K:=by rfl):PI X tg l (Yy K tl):=h▸pk hl
def HQ{H H':Hp}{ys:Aam}{ms:List 81}(h:Im K H ys ms)(s:aX H H'):Im K H' ys ms:=by
 induction h with
 |nil=>show .nil
 |cons h _ ih=>
  let(q,e,hq):=h;show .cons {q,e,dR hq s} ih
abbrev SX(K:Frag)(H:Hp)(L:List aC.Atom)(g:du):Aam->List aC.Atom->Prop:=Paired λ(v:V)(a:aC.Atom)=>∃l rH rE,v=-l/\H l>.lst rH/\fA K H rH rE/\rE.length<=L.length/\(∀zs∈rE,(a.1,zs)∈L)/\∀h,aC.hZ g h->(a.1,a.2.map<|aC.ap bF h)∈L->a.2.map (aC.ap bF h)∈rE
def C7{H H':Hp}{L:List aC.Atom}{g:du}{ys:Aam}{p:List aC.Atom}(h:SX K H L g ys p)(s:aX H H'):SX K H' L g ys p:=by
 induction h with
 |nil=>show .nil
 |cons h _ ih=>
  let(l,rH,rE,e,h1,h2,h3):=h;show .cons {l,rH,rE,e,s _ _ h1,kY h2<|cX.same s,h3} ih
def WI{H:Hp}{L:List aC.Atom}{g:du}{ys:Aam}{p:List aC.Atom}(h:SX K H L g ys p):∃Cs:List Int,Cs.length=p.length/\∀(i:Nat) l rH,ys[i]?>.ref l->H l>.lst rH->Cs[i]?>(rH.length:Int):=by
 induction h with
 |nil=>show{[],9,λi l rH e=>by simp at e}
 |cons h _ ih=>
  let(l,rH,rE,rfl,h1,__):=h;let(Cs,e1,e2):=ih;show{(rH.length:Int)::Cs,by rw[bJ,bJ,e1],λi l' agD e h=>?_};cases i with
  |zero=>
   cases e;rw[h1]at h;cases h;rfl
  |succ i=>show e2 i l' agD (↑e) h
theorem Nl{m:Int}:∀{l:List Int},m∈l->∃j:Nat,l[j]?>m/\∀i,i<j->l[i]?≠some m
 |[],h=>by cases h
 |x::l,h=>by
  by_cases c:x=m;·show{0,by rw[c];rfl,λi hi=>absurd hi<|fX _}
  have h':=(aK.mp h).elim (λe=>absurd e.symm c) id;let(j,h1,h2):=Nl h';show{j+1,by simpa using h1,λi hi=>?_};cases i with
  |zero=>exactλe=>c<|↑e
  |succ i=>simpa using h2 i ∅
def Zl{xs:Aam}{j:Nat}:lR xs none (some (j:Int))=xs.take j:=by
 unfold lR;rw[HT.Fz,HT.zp,nB,Dh];by_cases h:j<=42;·rw[jy h]
 rw[rq ∅,bj,cS ∅]
def Zk{xs:Aam}{j:Nat}:lR xs (some (j:Int)) none=xs.drop j:=by
 unfold lR;rw[HT.zp,HT.Fz];by_cases h:j<=42;·rw[jy h];show cS (by rw[fG];lia)
 rw[rq ∅,Di,qe,jW ∅]
theorem EI{α β:Type}{R:α->β->Prop}:∀{xs:List α}{ys:List β}(j:Nat),Paired R xs ys->Paired R (xs.take j) (ys.take j)
 |_,_,_,.nil=>by simp only[Bs];show .nil
 |_,_,0,.cons _ _=>by simp only[qe];show .nil
 |_,_,j+1,.cons a r=>by simp only[BE];show .cons a<|EI j r
theorem EJ{α β:Type}{R:α->β->Prop}:∀{xs:List α}{ys:List β}(j:Nat),Paired R xs ys->Paired R (xs.drop j) (ys.drop j)
 |_,_,_,.nil=>by simp only[Bu];show .nil
 |_,_,0,.cons a r=>by simp only[nB];show .cons a r
 |_,_,j+1,.cons a r=>by simp only[List.drop_succ_cons];show EJ j r
theorem xa:∀{ts as:Aaf}{g g':du},aC.fit bF g ts as>g'->∀q∈g',q∈g\/q.2∈as
 |[],[],g,g',h,q,hq=>by cases h;show .inl hq
 |[],_::_,g,g',h,q,hq=>by cases h
 |_::_,[],g,g',h,q,hq=>by cases h
 |t::ts,a::as,g,g',h,q,hq=>by
  unfold aC.fit at h;split at h
  ·split at h
   ·split at h;·show(xa h q hq).imp id λh=>az _ h
    cases h
   rcases xa h q hq with h|h
   ·rcases aE.mp h with h|h;·show .inl h
    rw[ar.mp h];show .inr ay
   show .inr<|az _ h
  split at h;·show(xa h q hq).imp id λh=>az _ h
  cases h
def gY:b7 [AcY,"part",Aci,"key",AbR,"counts",AcP,"aim","way","whole"] [AcY,"part",Aci] (bI oF):=iM 59
def HN{f:cr}{fd:re}{n:Nat}(F:d6 K AcC "MapSearch.mapped_part" oF f fd)(T:Txt K mg)(O:Own K C)(D:Dq P w K mg base C n):cN P w K mg base fZ (6+2*(n+1)) f fd [AcY,"part",Aci] (K0 P w K C<|n+1):=by
 rw[show 6+2*(n+1)=(07+2*n)+1 by lia];show F.ok gY 98;let(self,A,B,dx,pl,d,kvs,L,c,U,g,p,ys,rfl,ak,iu,rK,gO,k1,k2):=h;have cC:=O.c;have hu:=pX hr;have hN:=Kr hr;show{_,aA (dW 3 gY<|dS<|b6 (dH fq 9 T.jH 59 79)<|dH fq 9 T.jH 59<|bS<|Au 9 (sG (more:=["terms"]) (fs:=[Aci]) (fr:=[2])) (eC<|pv 1) (λ_ _ _ _=>zB (n:=2) 9 152) (λ_ _ _ _=>dH (Ij) 9 T.jH 59<|bS<|lY 9 (eF (fs:=[Aci]) (fr:=[2])) (abD<|pv 1) (λ_ _ _ _=>X3 hu (pv 1) (pv 0) agS)))<|aA (dP (cD (adR hN) (pv 3) (zD (pv 0) 9) 74) (aP<|b8 j6) cP)<|aA (vW (j:=4) gY.nd 9 9 9 (eF (fs:=[AcY,Aci]) (fr:=[0,2])) (eC<|pv 1) (λ_ _ _ _=>UP cC D.Co hr (pv 1) (b6 (pv 0)<|pv 2) ∅))<|aA (vW (j:=5) gY.nd 9 9 9 (eF (fs:=[]) (fr:=[])) (eC<|pv 4) (λ_ _ _ _=>bu (C4) 9 T.fJ bK 78))<|aA (dW 6 gY<|jr bO xG xF UN (pv 5)<|bS<|bu (WB 9) 9 T.RB 59<|bS<|pv 5)<|aA (eB bH 9 (eC<|cm eJ (pv 4) (pv 6) (λ_ _=>9)) (gL 07 gY)<|aA (dW 08 gY<|cl D.ae4 hr (kj (pv 2) (cm fh (cm eJ (pv 1) (pv 6) (λ_ _=>9)) aO (λ_ _=>9))<|pv 07) ∅)<|aA (dW 09 gY<|wM (cD GC (pv 08) j6<|cM _) j6<|UP cC D.FI hr (pv 0) (b6 (c9 Ci (pB zo (pv 1) ub<|pV<|pv 6)<|pB zo (pv 1) (pV<|c9 ir (pv 6) aO) ub)<|pv 08) ∅)<|aP<|dP (cD HL (pv 09) j6<|cM _) (aP<|b8<|pv 09) cP)<|aA (Ap hN (zD (pv 0) 9) (pv 3) oJ 9)<|aP<|b8 j6,?_}
 have l8:=aR ak.ln ak.n8;have lys:=aV rK
 let mem:List 81:=p.map λa=>a.2.map<|aC.get g
 show{_,9,pl,ys,9,.inl {iu,λt1 ht1=>?_}};have s1:aX H (upd H t1<|.tup ys):=bh ht1 _;have Bl:bA K (upd H t1<|.tup ys) t1 ys:=bA.of aF;generalize (upd H t1<|.tup ys)=H1 at s1 Bl⊢;show{_,9,pl,9,{_,o8 iu s1},AO (xs:=ys) (λi zs H2=>aX H1 H2/\i<=p.length/\Im K H2 zs ((p.take i).map λa=>a.2.map<|aC.get g)) (bB ∅) {51,aQ _,.nil} ?_ ?_ ?_};·ext i zs H2 hi ⟨s2,rM,hm⟩;show{o8 iu<|s1.trans s2,?_};rw[aV hm,af,bo];lia
 ·ext i x zs H2 N hx ⟨s2,rM,hm⟩ zR;let(a,ha,MF):=Paired.at' rK hx;have cb:=(aq.mp ha).1;let(ab,ac,rfl,CI,w5):=MF.same<|s1.trans s2;have lt:(a.2.map V.str).length=a.2.length:=af _;have fa:=(ak.fp a<|aB ha).1;show{ab,_,_,9,CI,pT ?_};show{_,9,ac,9,⟨_,w5⟩,xi (λj us H3=>H3=H2/\j<=a.2.length/\us=((a.2.take j).map<|aC.get g).map opV) (by rw[lt];show bB ∅) {9,aQ _,9} ?_ ?_ ?_};·ext j us H3 hj ⟨rfl,G0,rfl⟩;show{w5,?_};rw[af,af,bo];lia
  ·ext j y us H3 M hy ⟨rfl,G0,rfl⟩ hM;let(z,hz,rfl):=k9 hy;have uT:=(aq.mp hz).1;show{_,9,d,9,.inl {_,.inl<|s2 _ _<|s1 _ _ ak.hd},_,9,_,jQ.k (k:=Sum.inr z)<|s2 _ _<|s1 _ _ ak.hd,?_};have e1:(jo (gK g) (Sum.inr z:Key)).getD .cU=opV (aC.get g z):=by rw[rU];cases aC.get g z<;>rfl
   rw[e1];show hM _ _ {9,uT,?_};rw[aY,hz,aJ,aJ];rfl
  ext us H3 ⟨rfl,_,rfl⟩ l hl;rw[lt,bj];show{l,_,9,.inl {bg.of aF,λt ht=>zR _ _ {s2.trans<|(bh hl _).trans<|bh ht _,cb,?_}}};rw[aY,ha,aJ];show eU (HQ hm<|(bh hl _).trans<|bh ht _)<|.cons {t,9,bA.of aF} .nil
 ext zs H2 ⟨s2,_,hm⟩ l2 lN;rw[lys,bj]at hm;show{l2,_,9,.inl {bg.of aF,λt2 ht2=>?_}};have s3:aX H1 194:=s2.trans<|(bh lN _).trans<|bh ht2 _;have h32:bA K 194 t2 zs:=bA.of aF;have Vw:Im K 194 zs mem:=HQ hm<|(bh lN _).trans<|bh ht2 _;generalize 194=H3 at s3 h32 Vw⊢;show{31,λkt hkt=>?_};have s4:aX H (upd H3 kt<|.tup [-t1,-t2]):=s1.trans<|s3.trans<|bh hkt _;have Yw:=U3 (bA.of aF) (dR Bl<|s3.trans<|bh hkt _) (dR h32<|bh hkt _) (rK.same s4) (HQ Vw<|bh hkt _) ak.fp λr hr z hz=>by let(a,__,rfl):=aD.mp hr;let(t,__,e):=aD.mp hz;show ak.fg _<|aC.get_some e
 generalize (upd H3 kt<|.tup [-t1,-t2])=H4 at s4 Yw⊢;have se4:=ak.se.same s4;have OG:=ak.va.same s4;let(vkv,v1,v2,v3):=id OG;show{_,9,_,9,self,C,dx,_,_,9,se4.ins,O.c,O.QE,9,B,kt,vkv,vb p mem,9,9,v1,Yw,_,9,?_};show dQ (λcc=>?_) (λcc=>?_);·have cc:=cc;let(q,hq,eq):=PB.mpr cc;let(p',m',e',hv):=v3 q hq;let(rfl,rfl):=Xf<|eq.symm.trans e';show k1 H4 (SB.same s4) (OG.mono<|gj _ _)<|hv g ak.nd 9
 have aeN:=o8 iu s4;have aey:=rK.same s4;show{_,9,pl,9,⟨_,aeN⟩,j9 (xs:=ys) (λi zs H5=>aX H4 H5/\i<=p.length/\SX K H5 L g zs (p.take i)) (bB ∅) {51,aQ _,.nil} ?_ ?_ ?_};·ext i zs H5 hi ⟨s5,rM,hm⟩;show{o8 aeN s5,?_};rw[aV hm,bo];lia
 ·ext i x zs H5 N hx ⟨s5,rM,hm⟩ zR;let(a,ha,MF):=Paired.at' aey hx;have cb:=(aq.mp ha).1;have K6:=se4.same s5;show{_,rfl,self,dx,_,rfl,K6.ins,rfl,_,rfl,_,rfl,self,A,B,dx,d,kvs,L,x,a,g,rfl,K6,MF.same s5,ak.fp a<|aB ha,ak.fL,by have:=ak.lL;lia,s5 _ _<|s4 _ _ ak.hd,ak.nd,ak.gu,ak.fg,λl rH rE H6 s6 EZ MS hr h1 h2 h3=>zR _ _ {s5.trans s6,cb,?_}};rw[aY,ha];show eU (C7 hm s6)<|.cons ⟨l,rH,rE,rfl,MS,hr,h1,h2,h3⟩ .nil
 ext jM H5 ⟨s5,_,hm⟩ al M7;rw[lys,bj]at hm;have s6:aX H4 (upd H5 al<|.lst jM):=s5.trans<|bh M7 _;have Sb:upd H5 al (.lst jM) al>.lst jM:=aF;have Bg:=C7 hm<|bh M7<|.lst jM;generalize (upd H5 al<|.lst jM)=H6 at s6 Sb Bg⊢;have lav:=aV Bg;let(Cs,agc,e6):=WI Bg;show{_,9,al,9,{_,bg.of Sb},j9 (xs:=jM) (λi zs H7=>H7=H6/\i<=p.length/\zs=(Cs.take i).map V.int) (bB ∅) {9,aQ _,9} ?_ ?_ ?_};·ext i zs H7 hi ⟨rfl,rM,rfl⟩;show{bg.of Sb,?_};rw[af,bo];lia
 ·ext i x zs H7 N hx ⟨rfl,rM,rfl⟩ zR;let(a,ha,l,rH,rE,rfl,hl,hr,__):=Paired.at' Bg hx;have cb:=(aq.mp ha).1;show{_,9,_,_,9,.inl {_,bg.of hl,9},zR _ _ {9,cb,?_}};rw[aY,e6 i l rH hx hl,aJ];rfl
 ext cvs H7 ⟨e7,_,rfl⟩ cl qm;rw[e7]at qm⊢;rw[lav,cS ∅];rename_i cl qm H7 s7 YO;show{_,9,.inl {9,_,bg.of YO},_,9,cl,Cs,9,bg.of YO,?_,λm hm aiD=>?_};·rw[agc];show tR.mpr gO
 let(j,hj,zN):=Nl hm;show{cl,Cs,m,j,9,9,YO,hj,zN,?_};have hjp:j<p.length:=by have:=(aq.mp hj).1;lia
 have IT:=s6.trans s7;have Vu:=C7 Bg s7;have ahZ:=s7 _ _ Sb;obtain⟨va,hva,haj⟩:∃va,jM[j]?>va/\True:={_,au ∅,trivial};let(a,ha,al_,rH,rE,rfl,vH,Ko,lz,snd,cmp):=Paired.at' Vu hva;obtain⟨vy,hvy⟩:∃vy,ys[j]?>vy:={_,au ∅};let(a',CJ,hya):=Paired.at' aey hvy;rw[ha]at CJ;cases CJ;let(ab,ac,rfl,CI,w5):=hya.same IT;have Lp:=s4.trans IT;have Ky:=ak.va.same Lp;have TL:=ak.se.same Lp
 let rest:List aC.Atom:=p.take j++p.drop (j+1)
 have afZ:rest.length+1=p.length:=by rw[aG,bo,fG];lia
 have pm:∀b,b∈p↔b=a\/b∈rest:=λb=>by
  have e:p=p.take j++a::p.drop (j+1):=by
   conv=>lhs;rw[<-d5 j p]
   rw[eE hjp,(aq.mp ha).2]
  conv=>lhs;rw[e]
  change b∈p.take j++a::p.drop (j+1)↔b=a\/b∈p.take j++p.drop (j+1);simp only[aE,aK];show{λh=>h.elim (λh=>.inr<|.inl h) λh=>h.elim .inl λh=>.inr<|.inr h,λh=>h.elim (λh=>.inr<|.inl h) λh=>h.elim .inl λh=>.inr<|.inr h}
 have fa:=ak.fp a<|aB ha;have tnp:tn p.length=25*tn rest.length+1:=by rw[<-afZ];rfl
 show{_,rfl,_,rfl,_,_,_,_,rfl,rfl,bg.of ahZ,iF hva,al_,rfl,{_,bg.of vH},iC (xs:=rH) (λi Z H8=>∃x7 x8 x9:Aan,Z=[some (-self),some (-pl),some (-d),some (-kt),some (-al),some (-cl),some<|.int j,x7,x8,x9]/\i<=rE.length/\SB B H7 H8/\gw P w K H8 B L (c+i*tn rest.length)/\∀row∈rE.take i,∀way,aC.fit bF g a.2 row>way->¬aC.tU bF L way rest)
  {_,_,_,9,aQ _,SB.refl _ _,by simpa using Ky,λrow h=>by simp at h} ?_ ?_ ?_}
 ·ext i Z H8 hi ⟨_,_,_,rfl,_,xS,_⟩;show KW (bg.of vH) xS Ky.Kl
 ·ext i x Z H8 D1 hx ⟨_,_,_,rfl,hi,xS,Kx,no8⟩ uR rt1;let(row,HY,ra,rfl,hra):=Paired.at' Ko hx;have cb:=(aq.mp HY).1;have ZR:=xS.tp Ky.oK;have RF:=snd row<|aB HY;have ae3:=ak.fL _ RF;have aeM:=KW (o8 iu Lp) xS Ky.Kl;have lg:g.length<=1000:=by have:=js ak.nd ak.gU;have h2:=ak.lU;unfold keys at this;rw[af]at this;lia
  have Z1:∀σ' H9,SB B H7 H9->gw P w K H9 B L (c+(i+1)*tn rest.length)->(∀way,aC.fit bF g a.2 row>way->¬aC.tU bF L way rest)->(∃x7 x8 x9:Aan,σ'=[some (-self),some (-pl),some (-d),some (-kt),some (-al),some (-cl),some<|.int j,x7,x8,x9])->
    ∃x7 x8 x9:Aan,σ'=[some (-self),some (-pl),some (-d),some (-kt),some (-al),some (-cl),some<|.int j,x7,x8,x9]/\i+1<=rE.length/\SB B H7 H9/\gw P w K H9 B L (c+(i+1)*tn rest.length)/\∀row∈rE.take (i+1),∀way,aC.fit bF g a.2 row>way->¬aC.tU bF L way rest:=λσ' H9 Lb va9 no9 ⟨x7,x8,x9,e⟩=>{x7,x8,x9,e,cb,Lb,va9,λr hr=>by
   rw[aY,HY]at hr;rcases aE.mp hr with hr|hr;·show no8 r hr
   have:r=row:=by simpa using hr
   rw[this];show no9}
  show{_,rfl,_,rfl,_,rfl,_,_,_,_,rfl,rfl,aeM,iF hvy,_,_,_,_,rfl,rfl,gn CI ZR,rfl,_,rfl,d,ac,ra,g,a.2,row,rfl,xS _ _ ak.dB<|Lp _ _ ak.hd,lg,ak.nd,gn w5 ZR,gn hra ZR,by have:=fa.1;lia,by have:=ae3.1;show aR this 7,λz hz=>aR (fa.2.2 z hz).1 7,λH9 s9 e9=>?_,λwp g9 H9 s9 hw0 hw9 e9=>?_};·show{_,9,9,_,9,ug ?_};show{_,9,9,_,9,mH<|uR _ _<|Z1 _ H9 (xS.trans<|SB.same s9) ((Kx.same s9).mono (by rw[uE];lia)) (λway hw=>by rw[e9]at hw;cases hw) ⟨_,_,_,rfl⟩}
  show{_,9,9,_,9,mH ?_};have YS:=aC.Qc ak.nd e9 RF;have Lb:=xS.trans<|SB.same s9;have se9:=(TL.sb Ky xS).same s9;have wB:wp≠B:=λe=>by let(kv,h1,__):=Kx;let(u,hu):=h1.some;rw[e,hu]at hw0;cases hw0
  have aeL:=o8 aeM s9;show{_,9,self,dx,_,9,se9.ins,9,_,9,zE {_,9,_,9,pl,ys,9,aeL,λc1 hc1=>?_}};rw[Zl];rename_i c1 hc1 ky fE tM;show{_,9,_,9,_,_,9,9,_,9,zE {pl,ys,9,o8 aeL fE,λc2 G2=>?_}};rw[show((j:Int)+1)=((j+1:Nat):Int)from rfl,Zk];rename_i c2 G2 xw oG Bl;show{c1,c2,_,_,9,9,oG _ _ tM,Bl,by rw[bo,fG,bW];lia,?_}
  intros c3 hc3 Bv tF h12
  have HD:=fE.trans<|oG.trans tF;have ur:∀u,u∈aC.lq bF rest->u∈aC.lq bF p:=λu hu=>by let(b,hb,h):=aC.dI.mp hu;show aC.dI.mpr {b,(pm b).mpr<|.inr hb,h}
  have ua:∀u,u∈aC.lq bF [a]->u∈aC.lq bF p:=λu hu=>by let(b,hb,h):=aC.dI.mp hu;show aC.dI.mpr {b,(pm b).mpr<|.inl<|ar.mp hb,h}
  have mi:(i+1)*tn rest.length<=25*tn rest.length:=AY _ (by have:=ak.lL;lia);have mi2:(i+1)*tn rest.length=i*tn rest.length+tn rest.length:=by rw[uE,Fl]
  have ask:Ask P w K C Bv self A B dx kvs L (c+i*tn rest.length) U wp g9 rest n:=
   {se9.same HD,(Kx.same s9).same HD,ak.lL,ak.fL,λb hb=>ak.fp b<|(pm b).mpr<|.inr hb,by have:=ak.ln;lia,by have:=ak.n8;lia,by have:=ak.lc;lia,HD _ _ hw9,wB,YS.nd,λu hu=>((YS.ks u).mp hu).elim (ak.gu u) λh=>(aC.dI.mp h).elim λb h=>h.2.2,λq hq=>(xa e9 q hq).elim (ak.fg q) λh=>(ae3.2.2 _ h).2,λu hu=>((YS.ks u).mp hu).elim (ak.gU u) λh=>ak.pU u<|ua u h,λu hu=>ak.pU u<|ur u hu,ak.lU}
  show{_,9,self,A,B,dx,c3,wp,kvs,L,_,U,g9,rest,_,9,ask,bg.of h12,?_,λJU XG Xe nc=>?_,λJU d13 g13 XG Xe ahW aia ah6 agj=>?_};·have aex:=((rK.same Lp).tp<|ZR.trans<|cX.same s9).same HD;show eU (EI j aex)<|EJ (j+1) aex
  ·show{_,9,9,_,9,mH ?_};show uR _ _<|Z1 _ JU (Lb.trans<|(SB.same HD).trans XG) (Xe.mono ∅) (λway hw=>?_) ⟨_,_,_,rfl⟩;rw[e9]at hw;cases hw;show nc
  show{_,9,9,_,9,ug ?_};show{_,9,rt1 _ _<|k2 JU d13 g13 ((SB.same Lp).trans<|Lb.trans<|(SB.same HD).trans XG) (Xe.mono ∅) ahW aia ah6<|aC.Uk ak.nd e9 RF agj pm}
 ext Z H8 ⟨_,_,_,rfl,_,xS,Kx,no8⟩;rw[(aV Ko),bj]at no8;have nc:=aC.Ul ak.nd cmp no8 pm;have ael:=pW (pW Yw<|cX.same IT)<|xS.tp Ky.oK;let(kv8,w1,w2,w3):=Kx;have mi:rH.length*tn rest.length<=25*tn rest.length:=AY _ (by have:=ak.lL;lia);have lc:=ak.lc;show{_,9,self,C,dx,_,_,9,(TL.sb Ky xS).ins,O.c,O.QE,9,_,9,B,kt,kv8,vb p mem,9,9,w1,ael,8,k1 _ ((SB.same Lp).trans<|xS.trans SB.upd) ((gw.put w1 w2 w3 ael<|aC.aaZ ak.nd nc).mono ∅) nc}
def uS(h:H a>.lst l):wg H a:=λxs q=>by rcases q with q|⟨o,q⟩<;>rw[h]at q<;>cases q
def sJ(fs:List En)(zs:Aaf):List aC.Atom:=zs.flatMap λz=>(Aj<|kh fs z).map λr=>(z,r)
def Ou(fs:List En)(zs:Aaf)(z:i9):sJ fs (zs++[z])=sJ fs zs++(Aj<|kh fs z).map λr=>(z,r):=by unfold sJ;simp
def iZ(fs:List En):List aC.Atom:=sJ fs<|jq<|fs.map (·.nm)
def Xi(rs:R1):(Aj rs).length<=rs.length:=js (sg _) λr hr=>(Cm r _).mp hr
def CL{K:Frag}{H:Hp}{p:cr}{fs:List En}(x:kP K H p fs)(z:i9):(kh fs z).length<=25/\∀r∈kh fs z,jT r:=by
 unfold kh;cases q:fs.find? (λe=>decide (e.nm=z))with
 |none=>show{aQ _,λr h=>by cases h}
 |some e=>
  let(__,__,h3,h4):=x.en e<|jg q;show⟨h3,h4⟩
end
inductive IG(K:Frag)(vs:Aam)(H:Hp)(Q:VK)(_x3:XK):Prop
 |mk (d:cr) (fs:List En) (_:vs=[-d]) (_:kP K H d fs) (_:fs.length<64) (_:∀(l:cr)(ws:Aam)(cs:List aC.Atom)(H':Hp),aX H H'->H l=none->H' l>.lst ws->cs.Perm (iZ fs)->dw K H' ws cs->Q (-l) H')
section
variable{P:io}{w:i6}{K:Frag}{mg:Aab}{base:nw}
def yF:b7 [Ac3,"found","name"] [Ac3] (bI Gu):=iM 59
def Og{f:cr}{fd:re}(F:d6 K "atoms_of" "atoms_of" Gu f fd)(T:Txt K mg)(WW:dh P w K mg base 1 "rows_of" [Ac3,"name"] (KZ K)):cN P w K mg base fZ 2 f fd [Ac3] (IG K):=by
 show F.ok yF 98;let(d,fs,rfl,hT,lf,k):=h;show{_,aA (dW 1 yF<|c8 hU)<|aA (eB bH 9 (eC<|bu (xj hr.hd) 9 T.qX 59 78) (om (i:=2) yF.nd 9<|Or.inr 9)<|aP<|fW<|jr bO PySem.F.slot_list_extend PySem.F.type_list_extend UO (pv 1)<|bS<|lY 9 (eF (fs:=["name"]) (fr:=[2])) (eC<|cl WW hr<|b6 (pv 0)<|pv 2) (λ_ _ _ _=>dS<|b6 (pv 1)<|pv 0))<|aP<|b8<|pv 1,?_}
 show{56,?_}
 intros fl E8 H1 s1 sr
 show{_,9,d,_,fs.map (·.nm),9,(hT.same s1).at_,L8 fs,by rw[af];show lf,?_}
 intros sl MM H2 s2 kT
 have lns:(jq<|fs.map (·.nm)).length=fs.length:=by rw[(gc _).length_eq,af]
 show{sl,9,{_,bg.of kT},iC (λi Z H3=>∃(x2:Aan)(ws:Aam)(cs:List aC.Atom),Z=[some (-d),some (-fl),x2]/\aX H H3/\H3 sl>.lst ((jq<|fs.map (·.nm)).map V.str)/\H3 fl>.lst ws/\cs.Perm (sJ fs<|(jq<|fs.map (·.nm)).take i)/\dw K H3 ws cs/\ws.length<=25*i) {_,[],[],9,s1.trans s2,kT,s2 _ _ sr,.nil,.nil,aw _} (λi Z H3 _ zq=>by let(__,__,__,__,__,h,__):=zq;show bg.of h) ?_ ?_}
 ·ext i x Z H3 D1 hx ⟨x2,ws,cs,rfl,s3,Jt,Bh,hp,hA,lw⟩ m9 _;let(z,hz,rfl):=k9 hx;have hi:i<fs.length:=by have:=(aq.mp hz).1;lia
  have Qa:=hT.same s3;have lu:=aR (Xi<|kh fs z)<|(CL Qa z).1;show{_,9,.inl {9,_,bg.of Bh},_,9,_,9,d,fs,z,9,Qa,λl zs rs H4 s4 EZ P0 Vp hR=>?_};have lz:=aV hR;have lpr:=Vp.length_eq;have hsn:sJ fs ((jq<|fs.map (·.nm)).take<|i+1)=sJ fs ((jq<|fs.map (·.nm)).take i)++(Aj<|kh fs z).map λr=>(z,r):=by rw[aY,hz];show Ou _ _ _
  show{l,9,{_,bg.of P0},j9 (xs:=zs) (λj ys H5=>aX H4 H5/\j<=rs.length/\dw K H5 ys ((rs.take j).map λr=>(z,r))) (bB ∅) {51,aQ _,.nil} ?_ ?_ ?_};·ext j ys H5 hj ⟨s5,G0,GW⟩;show{bg.of<|s5 _ _ P0,?_};rw[aV GW,af,bo];lia
  ·ext j y ys H5 N m7 ⟨s5,G0,GW⟩ hN;let(r,vI,a,rfl,ha):=Paired.at' hR m7;have ahL:=(aq.mp vI).1;show pT {_,9,_,9,31,λpp vK=>hN _ _ {s5.trans<|bh vK _,ahL,?_}};rw[aY,vI,aJ];show eU (dw.same GW<|bh vK _)<|.cons {pp,a,9,bA.of aF,dR ha<|s5.trans<|bh vK _} .nil
  ext ys H5 ⟨s5,_,GW⟩;rw[lz,bj]at GW;have ly:48=rs.length:=by rw[aV GW,af]
  intros l5 hl5 H6 s6 h6
  have s36:=s4.trans<|s5.trans s6;have VF:=s36 _ _ Bh;show{_,_,_,_,9,9,VF,h6,cy<|fC (show ws.length+48<=100000 by lia) 7,?_};have t7:cX H6 (upd H6 fl<|.lst<|ws++ys):=cX.upd<|uS VF;have o7:∀b u,b≠fl->H6 b>u->upd H6 fl (.lst<|ws++ys) b>u:=λb u n e=>aI n▸e;show m9 _ _ {_,ws++ys,_,9,λb u e=>o7 b u (bx e E8)<|s36 _ _<|s3 _ _ e,o7 _ _ ((bx sr MM).symm)<|s36 _ _ Jt,aF,(by rw[hsn];show hp.append<|Vp.map _),eU (dw.tp (dw.same hA s36) t7)<|dw.tp (dw.same GW s6) t7,by rw[aG];lia}
 ext Z H3 ⟨x2,ws,cs,rfl,s3,Jt,Bh,hp,hA,lw⟩;rw[af,bj]at hp;show{_,9,k fl ws cs H3 s3 E8 Bh hp hA}
def we(L:List aC.Atom)(hz:Aaf)(br:List aC.Atom)(r:Aaf):Prop:=∃h,hz.map (aC.ap bF h)=r/\aC.Fits bF L h br
def ae1{hz:Aaf}(nd:hz.Nodup)(u:∀z∈hz,bF z=true):∀{r:Aaf},r.length=hz.length->∃h,hz.map (aC.ap bF h)=r:=by
 induction hz with
 |nil=>
  ext r l;show{id,(List.eq_nil_of_length_eq_zero l).symm}
 |cons z hz ih=>
  ext r l;cases r with
  |nil=>cases l
  |cons a r=>
   let(n1,n2):=df.mp nd;let(h,e):=ih n2 (λy hy=>u y<|az _ hy)<|Nat.succ.inj l;show{λt=>if t=z then a else h t,?_};rw[a9];congr 1;·unfold aC.ap;rw[aN<|u z ay];show aN rfl
   rw[<-e];show dO λy hy=>?_;unfold aC.ap;dsimp only;rw[aL (show ¬y=z fromλq=>n1<|q▸hy)]
end
inductive K1(P:io)(w:i6)(K:Frag)(C:cr)(vs:Aam)(H:Hp)(Q:VK)(_x3:XK):Prop
 |mk (v:V) (rv self A B dx:cr) (hz r:Aaf) (br L:List aC.Atom) (kvs:List (NK×cr×V)) (c:Nat) (_:vs=[v,-rv,-self]) (_:Dc H v hz br) (_:bA K H rv (r.map V.str)) (_:hz.Nodup) (_:(∀z∈hz,bF z=true/\z.length<=100)) (_:hz.length<=4) (_:r.length=hz.length) (_:(∀z∈r,PyData.strOk z=true)) (_:(∀b∈br,jD b)) (_:br.length<=3) (_:(eA br).length<=12) (_:Fg P w K C H self A B dx kvs L) (_:gw P w K H B L c) (_:L.length<=25) (_:(∀b∈L,jD b)) (_:c+tn 3<=9000000) (_:∀H' b,SB B H H'->gw P w K H' B L (c+tn 3)->(b=true↔we L hz br r)->Q (.bl b) H')
section
variable{P:io}{w:i6}{K:Frag}{mg:Aab}{base:nw}{C:cr}
def Qz{H:Hp}{vs:Aam}{br:R0}(h:dJ H vs br):dw K H vs br:=by
 induction h with
 |nil=>show .nil
 |cons h _ ih=>
  let(p,t,e,h1,h2):=h;show .cons {p,t,e,bA.of h1,bA.of h2} ih
def QY:b7 ["view","row","search"] ["view","row","search"] (bI IS):=iM 59
def Rt{f:cr}{fd:re}(F:d6 K "is_seen" "is_seen" IS f fd)(T:Txt K mg)(O:Own K C)(ZH:dh P w K mg base 3 "fitted" [Aci,"terms","aim"] (Fw K))(SO:sQ P w K mg base C 13 "mapped" [AcY,AbV,Aci] (Al P w K C 3)):cN P w K mg base fZ 014 f fd ["view","row","search"] (K1 P w K C):=by
 show F.ok QY 98;obtain⟨v,pf,self,A,B,dx,hz,r,br,L,kvs,c,rfl,⟨q,hd,aa,jM,rfl,hq,vM,yh,jt⟩,hrw,nd,uh,lh,lr,rok,fa,l3,l12,se,va,lL,fL,lc,k⟩:=h;show{_,aP<|b8<|kZ HL (UP O.c SO hr (pv 2) (b6 (dH NH 9 T.GK 59<|bS<|cm fh (pv 0) aO (λ_ _=>9))<|cl ZH hr<|kj hJ (cm fh (pv 0) aO (λ_ _=>9))<|pv 1) ∅) j6<|cM _,?_};show{_,9,self,dx,_,9,se.ins,9,_,9,_,_,_,_,9,9,bA.of hq,9,aa,jM,9,.inr<|bA.of yh,?_}
 intros l hl H1 s1 rL
 intros e0 Bi H2 s2 kU
 have wI:=s1.trans s2;show{_,9,_,_,_,_,9,9,bA.of<|wI _ _ hq,9,_,9,e0,hd,pf,[],hz,r,9,kU,aQ _,ik,bA.of<|wI _ _ vM,dR hrw wI,8,8,λz h=>aR (uh z h).2 7,λH3 s3 e3=>?_,λd g0 H3 s3 sx sv e3=>?_};·let(h,e):=ae1 nd (λz h=>(uh z h).1) lr;let(g',e',__):=aC.xb (g:=[]) ik (λp hp=>by cases hp);rw[e,e3]at e';cases e'
 let(n0,__,ks0,ahX):=aC.pD (g:=[]) ik e3;have s03:=wI.trans s3;have k0:=λu hu=>((ks0 u).mp hu).elim (λh=>by cases h) id;have uf:∀u,u∈aC.lq bF br->u∈eA br:=λu hu=>by let(b,hb,h,__):=aC.dI.mp hu;show nJ.mpr ⟨b,hb,h⟩
 have dB:d≠B:=λe=>by let(__,hB,__):=va.same wI;let(o,hB):=hB.some;rw[<-e,sx]at hB;cases hB
 have t3:=aa4 l3;have sb0:∀H4,SB B H3 H4->SB B H H4:=λH4 sb b u n h=>sb b u n<|s03 _ _ h;show{self,A,B,dx,l,d,kvs,L,c,_,g0,br,jM,9,{se.same s03,va.same s03,lL,fL,fa,l3,7,8,sv,dB,n0,λu hu=>(k0 u hu).2,λq hq=>(xa e3 q hq).elim (λh=>by cases h) λh=>rok _ h,λu hu=>ba _ (k0 u hu).1,λu hu=>bq _<|uf u hu,by rw[aG];lia},bg.of<|s3 _ _<|s2 _ _ rL,Qz<|jt.keep<|dj.of s03,λH4 sb OG nc=>?_,λH4 d4 g4 sb OG hd4 dB4 fg4 got=>?_};·show{9,k H4 _ (sb0 H4 sb) (OG.mono ∅) {λe=>(by cases e),λ⟨h,e1,e2⟩=>absurd {h,?_,e2} nc}};let(g',e,ag):=aC.xb (g:=[]) ik (λp hp=>by cases hp);rw[e1,e3]at e;cases e;show ag
 show{9,k H4 _ (sb0 H4 sb) (OG.mono ∅) {24,λ_=>9}};have ag:=aC.oo (h:=λu=>u) got.nd;show{_,ahX _<|aC.hZ.longer n0 got.lg ag,got.ft _ ag}
theorem Gp{fm fp:cr}{dm dp:re}(Fm:d6 K "mapped" "MapSearch.mapped" vV fm dm)(Fp:d6 K AcC "MapSearch.mapped_part" oF fp dp)(Mm:Meth K C "mapped" fm)(Mp:Meth K C AcC fp)(bm:Binds K dm [AcY,AbV,Aci] [])(bp:Binds K dp [AcY,"part",Aci] [])
  (T:Txt K mg) (O:Own K C) (D:Dp P w K mg base C):∀n,sQ P w K mg base C (07+2*n) "mapped" [AcY,AbV,Aci]<|Al P w K C n
 |0=>by
  have ad1:∀vs H Q E,¬K0 P w K C 0 vs H Q E:=λvs H Q E zq=>by let(__,__,__,__,__,__,__,__,__,__,__,p,__,__,ak,__,__,gO,__):=zq;show gO<|d9.mp<|Fn.mp ak.ln
  show{fm,dm,Jd Fm T O {D,{fp,dp,{λvs H Q E h=>absurd h<|ad1 vs H Q E,λA outer s H args us vs Q E _ _ _ _ h=>absurd h<|ad1 vs H Q E},Mp,bp}},Mm,bm}
 |n+1=>by show{fm,dm,Jd Fm T O {D,{fp,dp,HN Fp T O {D,Gp Fm Fp Mm Mp bm bp T O D n},Mp,bp}},Mm,bm}
def NW(P:io)(w:i6)(K:Frag)(mg:Aab)(base:nw)(C:cr)(k:Nat)(x:i9)(ps:Aaf)(sp:Sp):Prop:=∃f fd,Mk K C f/\cN P w K mg base fZ k f fd ps sp/\mg x>-C/\Binds K fd ps []
def mkO(D:NW 86 X.w X.K X.mg X.base C k x ps sp)(hr:gx j X.A)(ha:PA X (e::es) t)(hk:k+1<=j)(hg:Gl X x:=by rfl)
  (su:35=false:=by decide) (he:jp (e::es) X.env=(false,wf e X.env)::jp es X.env:=by rfl) (iu:(Da pos 73).any (·.1)=false:=by rfl):
  PE X 116 (ZX C sp [] E0 t):=by
 let(f,fd,M,F,m,b):=D;show abG M F (hr.mono hk) hg m b .nil Kk ha su he iu
def gC.free{H0 H:Hp}{A:cr}{kvs:List 95}{R:Rl}{n:Nat}(x:gC P w K H0 H A kvs R n):gC P w K (λ_=>none) H A kvs R n:={x.at_,x.len,rfl,λk v h=>by let(d,inner,h1,h2,h3,h4):=x.vals k v h;show⟨d,inner,h1,h2,rfl,h4⟩,x.no,x.inj}
def Af(xs:List View)(L:List aC.Atom)(as:List aC.Atom):Prop:=∀a∈as,∃x,viewOf xs a.1>x/\we L x.2.1 x.2.2 a.2
end
inductive Gh(K:Frag)(cV:cr)(vs:Aam)(H:Hp)(Q:VK)(E:XK):Prop
 |mk (xs:List View) (vl hd tb:cr) (dZ:Aam) (fs ts:List En) (_:vs=[-vl,-hd,-tb]) (_:H vl>.lst dZ) (_:Paired (nQ H) dZ xs) (_:(∀x∈xs,pG x)) (_:(xs.map (·.1)).Nodup) (_:kP K H hd fs) (_:fs.length<64) (_:(iZ fs).length<=25) (_:kP K H tb ts) (_:ts.length<64) (_:(iZ ts).length<=25) (_:(∀e∈ts,nK e.nm)) (_:(match mY xs fs with|some n=>AM E H cV AcP (.int (n:Int))|none=>∀H' b,aX H H'->(b=true↔Af xs (iZ ts) (iZ fs))->Q (.bl b) H'))
def Fx{L L':List aC.Atom}(h:∀a,a∈L↔a∈L'){hz:Aaf}{br:List aC.Atom}{r:Aaf}:we L hz br r↔we L' hz br r:=CQ λg=>oP λ_=>{λf a ha=>(h _).mp<|f a ha,λf a ha=>(h _).mpr<|f a ha}
def acE{xs:List View}{L L' as as':List aC.Atom}(h:L.Perm L')(h2:as.Perm as'):Af xs L as↔Af xs L' as':=by have e:∀a:aC.Atom,(∃x,viewOf xs a.1>x/\we L x.2.1 x.2.2 a.2)↔∃x,viewOf xs a.1>x/\we L' x.2.1 x.2.2 a.2:=λa=>CQ λx=>oP λ_=>Fx λ_=>h.mem_iff;show{λf a ha=>(e a).mp<|f a<|h2.mem_iff.mpr ha,λf a ha=>(e a).mpr<|f a<|h2.mem_iff.mp ha}
def qE{fs:List En}{a:aC.Atom}:a∈iZ fs↔a.1∈fs.map (·.nm)/\a.2∈kh fs a.1:=by
 unfold iZ sJ;rw[rA];constructor;·ext⟨z,hz,h⟩;let(r,hr,rfl):=aD.mp h;show{(gc _).mem_iff.mp hz,(Cm r _).mp hr}
 ext⟨h1,h2⟩;show{a.1,(gc _).mem_iff.mpr h1,aD.mpr {a.2,(Cm _ _).mpr h2,9}}
def XS{xs:List View}{fs:List En}{nm:i9}{r:Aaf}(h:mY xs fs=none)(h1:nm∈fs.map (·.nm))(h2:r∈kh fs nm):∃x,viewOf xs nm>x/\r.length=x.2.1.length:=by
 unfold mY at h;rw[wj]at h;have q:sf xs fs nm=true:=by simpa using h nm ((gc _).mem_iff.mpr h1)
 unfold sf at q;cases e:viewOf xs nm with
 |none=>rw[e]at q;cases q
 |some x=>
  rw[e]at q;show{x,9,bz<|cz.mp q r h2}
def pG.FP{x:View}(v:pG x):∀b∈x.2.2,jD b:=λb hb=>by let(h1,h2,h3,h4):=v.a6 b hb;show{8,(Rz h1).2.2,λz hz=>(QJ<|h4 z hz).2}
def pG.flat{x:View}(v:pG x):(eA x.2.2).length<=12:=by have:=v.a6.len x.2.2.length;rw[bj]at this;have:=v.l3;lia
def pG.hlen{x:View}(v:pG x):∀z∈x.2.1,z.length<=100:=λz hz=>by let(__,h):=oY.mp<|v.hh z hz;let(a,ha,h):=nJ.mp h;show(v.FP a ha).2.2 z h|>.1
section
variable{P:io}{w:i6}{K:Frag}{mg:Aab}{base:nw}{C cV:cr}
def HC:b7 [Adl,Ack,Ac3,"kept","search"] [Adl,Ack,Ac3] (bI TQ):=iM 59
def abQ(F:d6 K "fits" "fits" TQ f fd)(T:Txt K mg)(O:Own K C)(pR:mE P w K mg base 4 Ab3 [Adl,Ack] (Am K cV))(Hv:dh P w K mg base 2 "atoms_of" [Ac3] (IG K))(W7:dh P w K mg base 014 "is_seen" ["view","row","search"] (K1 P w K C))(Kg:NW P w K mg base C 3 "MapSearch" [AcY,AbV] (QQ P w K C)):cN P w K mg base (yw P w) 015 f fd [Adl,Ack,Ac3] (Gh K cV):=by
 show F.Uw HC (λvs H Q E h=>?_) 98;·let(__,__,__,__,__,__,__,rfl,__):=h;rfl
 let(xs,vl,hd,tb,dZ,fs,ts,rfl,pC,hV,j3,j7,hT,lf,lfa,hS,lt,lta,tok,k):=h;have FP:∀a∈iZ ts,jD a:=λa ha=>by let(h1,h2):=qE.mp ha;let(e,he,ee):=aD.mp h1;let(g1,g2,g3):=(CL hS a.1).2 _ h2;show{8,by rw[<-ee];show(tok e he).2,g3}
 show{_,aA (fW<|JJ pR hr ue<|b6 (pv 0)<|pv 1)<|aA (nZ (i:=3) HC.nd 9 (Or.inr 9)<|dH (sI hr.hd) 9 T.zH 59 78)<|aA (nZ (i:=4) HC.nd 9 (Or.inr 9)<|mkO Kg hr (bS<|cl Hv hr<|bS<|pv 2) ∅)<|aP<|b8<|bu (uo 9) 9 T.RD boot_all<|bS<|Au 9 (sG (more:=["row"]) (fs:=["kept","search"]) (fr:=[3,4])) (eC<|cl Hv hr 79) (λ_ _ _ _=>zB (n:=2) 9 152) (λ_ _ _ _=>cl W7 hr<|kj (rJ (pX hr) (pv 2) (pv 0) (λ_ _=>9)) (pv 1)<|pv 3),?_}
 cases ep:mY xs fs with
 |some n=>
  rw[ep]at k;show{_,9,_,9,xs,vl,hd,dZ,fs,9,pC,hV,j7,hT,lf,?_};rw[ep];show k
 |none=>
  rw[ep]at k;show{_,9,_,9,xs,vl,hd,dZ,fs,9,pC,hV,j7,hT,lf,?_};rw[ep];ext H1 s1;let(kvs,Vz,hK,hm):=Ah (Paired.imp' (λ_ _ h=>h.keep<|dj.of s1) hV) j7;show{_,9,vl,_,kvs,9,bg.of<|s1 _ _ pC,Vz,?_};rw[hm]
  intros kd ahP H2 s2 VA
  have wI:=s1.trans s2;show{_,9,tb,ts,9,hS.same wI,lt,λl ws c1 H3 s3 EZ Jx vL hA=>λx dx hx hdx ne=>?_};have aaA:=λa ha=>FP a<|vL.mem_iff.mp ha;have lc1:=vL.length_eq;have s4:aX H3 (upd (upd H3 dx<|.own x) x<|.ins C dx []):=λb u h=>by rw[aI<|bx h hx,aI<|bx h hdx];show h
  have hx4:upd (upd H3 dx<|.own x) x (.ins C dx []) x>.ins C dx []:=aF;show{x,l,dx,ws,c1,H3,9,hx4,hx,Jx,dw.same hA s4,8,aaA,s4,λH5 A' B kv5 s5 A0 B0 hs5 hB5 ax ab db=>{9,?_}};show{_,9,hd,fs,9,hT.same<|wI.trans<|s3.trans s5,lf,λl2 ws2 c2 H6 s6 ahO aeR m8 VS=>?_};have lc2:=m8.length_eq;have lw:=aV VS;have va6:gw P w K H6 B (c1) 0:={[],zX<|s6 _ _ hB5,aw _,λq hq=>by cases hq};have se6:Fg P w K C H6 x A' B dx kv5 (c1):={s6 _ _ hs5,(ax.free.mono ∅).same s6,ab,db};have old:∀{H7},SB B H6 H7->aX H3 H7:=λsb b u h=>sb b u (bx h B0)<|s6 _ _<|s5 _ _ h;show{l2,9,{_,bg.of aeR},AO (xs:=ws2) (λj ys H7=>SB B H6 H7/\gw P w K H7 B (c1) (j*tn 3)/\∃bs:List Bool,ys=bs.map V.bl/\bs.length=j/\(bs.all id=true↔Af xs (c1) (c2.take j))) (bB ∅) {SB.refl _ _,va6.mono<|aQ _,[],9,9,{λ_ a ha=>(by cases ha),λ_=>9}} ?_ ?_ ?_};·ext j ys H7 hj ⟨sb,va,bs,rfl,lb,_⟩;show{bg.of<|sb _ _ ((bx hB5 ahO).symm) aeR,19}
  ·ext j y ys H7 N hy ⟨sb,va,bs,rfl,lb,iff⟩ hN;let(a,ha,b,c,rfl,hb,hc):=Paired.at' VS hy;have hj:=(aq.mp ha).1;have tp:=sb.tp va6.oK;have t3:tn 3=651:=by decide
   let(h1,h2):=qE.mp<|m8.mem_iff.mp<|aB ha;let(x',ev,el):=XS ep h1 h2;let(xm,__):=vS ev;have vk:=j3 x' xm;let(qv,q1,q2):=hK.some ev;show{_,_,_,9,gn hb tp,pT ?_};show{_,9,_,9,kd,_,9,(by rw[<-q1];show jQ.k (k:=Sum.inr a.1)<|old sb _ _<|s3 _ _ VA),_,9,_,9,qv,c,x,A',B,dx,x'.2.1,a.2,x'.2.2,c1,kv5,j*tn 3,9,q2.keep<|dj.of<|s2.trans<|s3.trans<|old sb,gn hc tp,vk.nd,λz hz=>{(oY.mp<|vk.hh z hz).1,vk.hlen z hz},vk.lh,el,λz hz=>(((CL hT a.1).2 _ h2).2.2 z hz).2,vk.FP,vk.l3,vk.flat,se6.sb va6 sb,va,8,aaA,by rw[t3];lia,λH8 b' xS Kx gm=>?_};show hN _ _ {sb.trans xS,Kx.mono (by rw[Nat.succ_mul];show aw _),bs++[b'],by rw[aJ];rfl,by rw[aG,lb];rfl,?_};rw[aY,ha,List.all_append,bT,iff];constructor
   ·ext⟨g1,g2⟩ a' CJ;rcases aE.mp CJ with h|h;·show g1 a' h
    rw[ar.mp h];show{x',ev,gm.mp<|↑g2}
   ext g;show{λa' CJ=>g a'<|ba _ CJ,?_};let(x2,ev2,sp):=g a<|bq _ ay;rw[ev]at ev2;cases ev2;simpa using gm.mpr sp
  ext ys H7 ⟨sb,va,bs,rfl,lb,iff⟩
  intros bl hbl H8 s8 hb8
  rw[lw,bj,acE vL m8]at iff;show{bl,bs,9,bg.of hb8,k H8 _ ((wI.trans s3).trans<|(old sb).trans s8) iff}
def dA(a:i9×Aaf):PyData:=.tuple [.str a.1,.tuple<|a.2.map PyData.str]
def Wq(a b:i9×Aaf):PyData.eqv (dA a) (dA b)=decide (a=b):=by unfold dA;let(a1,a2):=a;let(b1,b2):=b;simp only[PyData.eqv,PyData.eqvAll,Fb,Bool.and_true];by_cases h:a1=b1<;>by_cases h':a2=b2<;>simp[h,h']
def Wr(br:R0)(b:i9×Aaf):((br.map dA).any λe=>PyData.eqv e<|dA b)=decide (b∈br):=by
 rw[sW,f7,fH,my];constructor;·ext⟨x,hx,e⟩;have e:PyData.eqv (dA x) (dA b)=true:=e;rw[Wq,my]at e;show e▸hx
 ext h;show{b,h,by change PyData.eqv (dA b) (dA b)=true;rw[Wq];show bD rfl}
def Mq{a:i9×Aaf}(h1:PyData.strOk a.1=true)(h2:∀z∈a.2,PyData.strOk z=true):(dA a).canLay0=true:=by unfold dA;simp[PyData.canLay0,PyData.canLayAll0,h1,Mn a.2 h2]
theorem HS:∀{br:R0},(∀a∈br,PyData.strOk a.1=true/\∀z∈a.2,PyData.strOk z=true)->PyData.canLayAll0 (br.map dA)=true
 |[],_=>rfl
 |a::r,h=>by simp[PyData.canLayAll0,Mq (h a ay).1 (h a ay).2,(HS (br:=r) λb hb=>h b<|az _ hb)]
def Nw(a:i9×Aaf):(dA a).depth<=060:=by unfold dA;simp[PyData.depth,PyData.depthAll,He]
def Sm{K:Frag}{H:Hp}{v:V}{a:i9×Aaf}(h:Ae K H v a):Dt K H (dA a) v:=by let(p,t,rfl,hp,ht):=h;unfold dA;show{p,_,9,hp,?_};show{_,_,9,by rw[Dt],?_};show{_,_,9,?_,by rw[nW]};show{t,_,9,ht,AN _}
def Nu{K:Frag}{H:Hp}{vs:Aam}{br:R0}(h:dw K H vs br):nW K H (br.map dA) vs:=by
 induction h with
 |nil=>rw[gB,nW]
 |cons r _ ih=>
  show{_,_,9,Sm r,ih}
def mw(gs:List aC.Atom)(a:aC.Atom):List aC.Atom:=if a∈gs then gs else gs++[a]
def zS(e:En):List aC.Atom:=e.rows.map λr=>(e.nm,r)
def jR(fs:List En):List aC.Atom:=(fs.flatMap zS).foldl mw []
end
inductive DO(K:Frag)(vs:Aam)(H:Hp)(Q:VK)(_x3:XK):Prop
 |mk (d:cr) (fs:List En) (_:vs=[-d]) (_:kP K H d fs) (_:fs.length<64) (_:(∀e∈fs,nK e.nm)) (_:∀(l:cr)(ws:Aam)(H':Hp),aX H H'->H l=none->H' l>.lst ws->dw K H' ws (jR fs)->Q (-l) H')
section
variable{P:io}{w:i6}{K:Frag}{mg:Aab}{base:nw}
def Nd{d:cr}{fs:List En}{H:Hp}{Q:VK}(hT:kP K H d fs)(lf:fs.length<64)(tok:∀e∈fs,nK e.nm)(k:∀(l:cr)(ws:Aam)(H':Hp),aX H H'->H l=none->H' l>.lst ws->dw K H' ws (jR fs)->Q (-l) H'):QL (QO (ada BO)<|sD 1) (QL (Tj<|QM (Vg P w<|vd 0) (sD 2)<|QM (Km K<|Z0 (vd 0)<|vd 2) (sD 3)<|Xp (ZU<|Tq (XN K true) (Xn<|qR (vd 2)<|qR (vd 3) BO)<|vd 1) (ZZ<|tBM K "list" Pb (vd 1)<|qR (Xn<|qR (vd 2)<|qR (vd 3) BO) BO) ZV)<|ac4<|vd 1) {nx:=λx H'=>Q V.cU H',rt:=Q} [some (-d),none,none,none] H:=by
 show{56,?_}
 intros fl E8 H1 s1 sr
 have vN:=hT.same s1;show{d,(λo v e=>by rw[vN.at_]at e;cases e),_,9,d,_,_,9,vN.at_,.inl ⟨_,rfl,rfl⟩,λo=>?_};have Pp:fl≠d:=λe=>by have h:=vN.at_;rw[<-e,sr]at h;cases h
 have hd2:upd H1 d (.fF o 41) d>.fF o 41:=aF;have t2:cX H1 (upd H1 d<|.fF o 41):=cX.upd<|wO vN.at_;have b2:∀b u,b≠d->H1 b>u->upd H1 d (.fF o 41) b>u:=λb u n h=>aI n▸h;generalize (upd H1 d<|.fF o 41)=H2 at hd2 t2 b2⊢;have en2:∀e∈fs,e.ad≠fl/\H2 e.ad>.lst e.ys/\fA K H2 e.ys e.rows:=λe he=>by let(h1,h2,__):=vN.en e he;show{λq=>?_,b2 _ _ (λq=>by rw[q,vN.at_]at h1;cases h1) h1,kY h2 t2};let(h3,__):=hT.en e he;rw[q,E8]at h3;cases h3
 show G6 (λi Z H3=>∃(x2 x3:Aan)(ws:Aam),Z=[some (-d),some (-fl),x2,x3]/\SB fl H2 H3/\H3 fl>.lst ws/\dw K H3 ws (((fs.take i).flatMap zS).foldl mw [])/\ws.length<=25*i/\(∀a∈((fs.take i).flatMap zS).foldl mw [],jD a)) {_,_,[],9,SB.refl _ _,b2 _ _ Pp sr,.nil,aw _,λa h=>90} ?_ ?_ ?_;·ext i Z H3 hi ⟨_,_,_,rfl,sb,_⟩;show sb _ _ Pp.symm hd2
 ·ext i kv Z H3 D0 oM ⟨x2,x3,ws,rfl,sb,Bh,hA,lw,fin⟩ nx0 _;rw[dF,aW]at oM;let(e,Bi,Ha):=bw.mp oM;subst Ha;have he:=aB Bi;let(ne,G1,hR):=en2 e he;let(__,__,Jn,gR):=hT.en e he;have ly:=aV hR;have hi:=(aq.mp Bi).1;have nt:=uS<|b2 _ _ Pp sr;rw[show fs.take (i+1)=fs.take i++[e] by rw[aY,Bi];rfl,List.flatMap_append,mU]at nx0;have eg:[e].flatMap zS=zS e:=by simp
  rw[eg]at nx0;generalize ((fs.take i).flatMap zS).foldl mw []=gs at hA fin nx0;show{_,9,_,9,d,.ref e.ad,9,.inl {fs.map gv,Sum.inr e.nm,.inr {o,sb _ _ Pp.symm hd2},9,(wk hT.nm he).symm},?_};show{e.ad,9,{_,bg.of<|sb _ _ ne G1},iC (λj Z H4=>∃(x3:Aan)(Et:Aam),Z=[some (-d),some (-fl),some<|.str e.nm,x3]/\SB fl H2 H4/\H4 fl>.lst Et/\dw K H4 Et (((e.rows.take j).map λr=>(e.nm,r)).foldl mw gs)/\Et.length<=25*i+j/\(∀a∈((e.rows.take j).map λr=>(e.nm,r)).foldl mw gs,jD a)) ⟨_,ws,rfl,sb,Bh,hA,lw,fin⟩ (λj Z H4 _ zq=>by let(__,__,__,Lc,__):=zq;show bg.of<|Lc _ _ ne G1) ?_ ?_}
  ·ext j y Z H4 D1 hy ⟨x3,Et,rfl,Lc,CF,E5,lw4,CP⟩ m9 _;let(r,vI,a,rfl,ha):=Paired.at' hR hy;have gr:=gR r<|aB vI;have fr:jD (e.nm,r):=⟨by have:=gr.2.1;change r.length<=100;lia,(tok e he).2,gr.2.2⟩;have hj:=(aq.mp vI).1;rw[show e.rows.take (j+1)=e.rows.take j++[r] by rw[aY,vI];rfl,aJ,mU]at m9;generalize ((e.rows.take j).map λr=>(e.nm,r)).foldl mw gs=CK at E5 CP m9;have ha4:=gn ha<|Lc.tp nt;show{_,9,_,9,31,?_}
   intros p1 vL H5 s5 Jw
   have hA5:=dw.same E5 s5;show{_,9,dA (e.nm,r),CK.map dA,Sm<|{p1,a,9,bA.of Jw,dR ha4 s5},.inr (by rw[Dt];show{fl,_,9,bg.of<|s5 _ _ CF,Nu hA5}),HS λb hb=>{(CP b hb).2.1,λz hz=>((CP b hb).2.2 z hz).2},Mq fr.2.1 λz hz=>(fr.2.2 z hz).2,Nw _,_,9,?_};rw[Wr];show dQ (λq=>?_) (λq=>?_)
   ·have c:(e.nm,r)∉CK:=λh=>by rw[bD h]at q;cases q
    have st:mw CK (e.nm,r)=CK++[(e.nm,r)]:=aL c;show{_,9,.inl {9,_,bg.of<|s5 _ _ CF},_,9,_,9,31,?_}
    intros p2 m8 H6 s6 hp6
    have wH:=s5.trans s6;have VF:=wH _ _ CF;show{fl,_,_,9,9,VF,fC (show Et.length<=2000 by lia) 7,m9 _ _ {_,Et++[-p2],9,λb u n h=>by rw[aI n];show wH _ _<|Lc _ _ n h,aF,?_,aG▸d7 lw4,26}};·have t7:cX H6 (upd H6 fl<|.lst<|Et++[-p2]):=cX.upd<|uS VF;change dw K _ _ (mw CK (e.nm,r));rw[st];show eU (dw.tp (dw.same E5 wH) t7)<|.cons {p2,a,9,gn (bA.of hp6) t7,gn (dR ha4 wH) t7} .nil
    have hb:b∈mw CK (e.nm,r):=hb;rw[st]at hb;rcases aE.mp hb with h|h;·show CP b h
    rw[ar.mp h];show fr
   have c:=kR λh=>q (by change(!decide ((e.nm,r)∈CK))=true;rw[bQ h];rfl);have st:mw CK (e.nm,r)=CK:=aN c;show m9 _ _ {_,Et,9,Lc.trans<|SB.same s5,s5 _ _ CF,?_,fQ lw4,λb hb=>CP b ?_};·change dw K _ _ (mw CK (e.nm,r));rw[st];show hA5
   have hb:b∈mw CK (e.nm,r):=hb;rw[st]at hb;show hb
  ext Z H4 ⟨x3,Et,rfl,Lc,CF,E5,lw4,CP⟩;rw[ly,bj]at E5 CP;show nx0 _ _ {_,_,Et,9,Lc,CF,E5,8,CP}
 ext Z H3 ⟨x2,x3,ws,rfl,sb,Bh,hA,lw,fin⟩;have sv:=sb _ _ Pp.symm hd2;show{o,41,sv,_,9,?_};rw[af,af,bj]at hA;show k fl ws _ (λb u h=>?_) E8 (aI Pp▸Bh)<|dw.tp hA (cX.upd λxs q=>by rcases q with q|⟨o',q⟩<;>rw[sv]at q<;>cases q);by_cases c:b=d;·subst c;rw[hT.at_]at h;cases h;show aF
 rw[aI c];show sb _ _ (bx h E8)<|b2 _ _ c<|s1 _ _ h
def vU:b7 ["_law_tables",AaR,Aba,"_law_row"] ["_law_tables"] (bI IP):=iM 59
def Yi{f:cr}{fd:re}(F:d6 K "_law_goals" "_law_goals" IP f fd)(T:Txt K mg):cN P w K mg base fZ 1 f fd ["_law_tables"] (DO K):=by
 show F.ok vU 98;let(d,fs,rfl,hT,lf,tok,k):=h;show{_,aA (dW 1 vU<|c8 hU)<|aA (FC<|eB bH 9 (Ar<|pv 0) (gL 2 vU)<|aP<|eB bH 9 (eC<|rJ (pX hr) (pv 0) (pv 2) (λ_ _=>9)) (gL 3 vU)<|aP<|dP (cD (Cf hr.units) (dS<|b6 (pv 2)<|pv 3) (pv 1) 74) (aP<|fW<|jr bO cw cn iB (pv 1)<|bS<|dS<|b6 (pv 2)<|pv 3) cP)<|aP<|b8<|pv 1,?_}
 show Nd hT lf tok k
theorem join_le{m:Nat}:∀{ts:Aaf},(∀t∈ts,t.length<=m)->(Str.join ", " ts).length<=(m+2)*52
 |[],_=>aQ _
 |[x],h=>by have:=h x ay;change x.length<=(m+2)*1;lia
 |x::y::r,h=>by have h1:=h x ay;have h2:=join_le λt ht=>h t<|az _ ht;have h3:(", ":i9).length=2:=9;change(x++", "++Str.join ", " (y::r)).length<=(m+2)*((y::r).length+1);rw[fo,fo,Nat.mul_succ];lia
theorem UX{m:Nat}:∀{kvs:List (PyData×PyData)},(∀p∈kvs,p.1.shown.length+p.2.shown.length<=m)->(∀t∈PyData.shownKv kvs,t.length<=m+2)/\(PyData.shownKv kvs).length=kvs.length
 |[],_=>by show{λt h=>90,9}
 |(k,v)::r,h=>by
  have h1:k.shown.length+v.shown.length<=m:=h _ ay;let(h2,h3):=UX λx hx=>h x<|az _ hx;have e:(": ":i9).length=2:=9;rw[PyData.shownKv_cons];show{λt ht=>?_,by rw[bJ,h3];rfl};rcases aK.mp ht with q|q;·rw[q,fo,fo];lia
  show h2 t q
def adn{z:i9}(h:∀c∈z.cps.toList,c<0x110000):(PyData.str z).shown.length<=10*z.length+2:=by show StrLaws.reprText_len z λc hc=>bf (h c hc) 7
inductive PD:Nat->Nat->PyData->Prop
 |str {z:i9} (h:nK z):PD 0 1002 (.str z)
 |tup {k m n:Nat} {ds:List PyData} (h:∀d∈ds,PD k m d) (l:ds.length<=n):PD (k+1) ((m+2)*n+3) (.tuple ds)
 |lst {k m n:Nat} {ds:List PyData} (h:∀d∈ds,PD k m d) (l:ds.length<=n):PD (k+1) ((m+2)*n+3) (.list ds)
 |more {k m k' m':Nat} {d:PyData} (h:PD k m d) (hk:k<=k') (hm:m<=m'):PD k' m' d
def PDs(k m:Nat)(d:PyData):Prop:=d.showable=true/\d.hasDict=false/\d.depth<=k/\d.shown.length<=m
def Ui{k m:Nat}{ds:List PyData}(h:∀d∈ds,PDs k m d):PyData.showableAll ds=true/\PyData.hasDictAll ds=false/\PyData.depthAll ds<=k/\∀t∈PyData.shownAll ds,t.length<=m:=by
 induction ds with
 |nil=>show{9,9,aQ _,λt ht=>by rw[PyData.shownAll_nil]at ht;cases ht}
 |cons d r ih=>
  let(a1,a2,a3,a4):=h d ay;let(b1,b2,b3,b4):=ih λx hx=>h x<|az _ hx;rw[PyData.showableAll,PyData.hasDictAll,PyData.depthAll,a1,a2,b1,b2,PyData.shownAll_cons];show{9,9,8,λt ht=>?_};rcases aK.mp ht with e|e;·rw[e];show a4
  show b4 t e
def PD.ok{k m:Nat}{d:PyData}(h:PD k m d):PDs k m d:=by
 induction h with
 |str h=>
  show{9,9,aw _,?_};have:=h.1;have:=adn λc hc=>by simpa using DH.mp h.2 c (↑hc)
  lia
 |@tup k m n ds h l ih=>
  let(b1,b2,b3,b4):=Ui ih;have j:=join_le b4;rw[yT]at j;have j2:=tQ (m+2) l;have e1:("(":i9).length=1:=9;have e2:((if ds.length==1 then ",)"else ")":String):i9).length<=2:=by split<;>decide
  show{by rw[PyData.showable];show b1,by rw[PyData.hasDict];show b2,by rw[PyData.depth];lia,?_};rw[PyData.shown_tuple,fo,fo];lia
 |@lst k m n ds h l ih=>
  let(b1,b2,b3,b4):=Ui ih;have j:=join_le b4;rw[yT]at j;have j2:=tQ (m+2) l;have e1:("[":i9).length=1:=9;have e2:("]":i9).length=1:=9;show{by rw[PyData.showable];show b1,by rw[PyData.hasDict];show b2,by rw[PyData.depth];lia,?_};rw[PyData.shown_list,fo,fo];lia
 |more h hk hm ih=>show{ih.1,ih.2.1,aR ih.2.2.1 hk,aR ih.2.2.2 hm}
def LO{n:Nat}{r:Aaf}(h:∀z∈r,nK z)(l:r.length<=n):PD 1 ((1002+2)*n+3) (HE r):=.tup (λd hd=>by let(z,hz,rfl):=aD.mp hd;show .str<|h z hz) (by rw[af];show l)
def LN{k m:Nat}{a b:PyData}(ha:PD k m a)(hb:PD k m b):PD (k+1) ((m+2)*2+3) (.tuple [a,b]):=.tup (λd hd=>by
 rcases aK.mp hd with e|e;·rw[e];show ha
 rw[ar.mp e];show hb)<|aw _
def Jo(e:En):PyData×PyData:=(.str e.nm,Q4 e.rows)
def Ku(x:View):PyData:=.tuple [.str x.1,.tuple [HE x.2.1,.tuple<|x.2.2.map dA]]
def afU{x:View}(v:pG x):PD 5 96597 (Ku x):=by
 have h1:PD 3 24144 (.tuple<|x.2.2.map dA):=.tup (λd hd=>by let(a,ha,rfl):=aD.mp hd;let(n1,__,n3,n4):=v.a6 a ha;show LN (.more (.str (Rz n1).2) 7 7)<|LO (n:=4) (λz hz=>(QJ<|n4 z hz).2) ∅) (by rw[af];show v.l3)
 show LN (m:=48295) (.more (.str v.Po) 7 7)<|.more (LN (.more (LO (λz hz=>{v.hlen z hz,by
  let(__,h):=oY.mp<|v.hh z hz;let(a,ha,h):=nJ.mp h;show((v.FP a ha).2.2 z h).2}) v.lh) 7 7) h1) (aw _) 7
def afM{fs:List En}(h:∀e∈fs,PDs 2 100528<|Q4 e.rows):PyData.showableKv (fs.map Jo)=true/\PyData.depthKv (fs.map Jo)<=2:=by
 induction fs with
 |nil=>show{9,aQ _}
 |cons e t ih=>
  let(a1,a2,a3,a4):=h e ay;let(b1,b2):=ih λx hx=>h x<|az _ hx;rw[a9,Jo,PyData.showableKv,PyData.depthKv,b1,PyData.showable,PyData.depth,a1];show{9,8}
def agm{H:Hp}{v:V}{x:View}(h:nQ H v x):Dt K H (Ku x) v:=by
 let(p,qv,rfl,hp,q,hd,aa,jM,rfl,hq,vM,yh,jt):=h;unfold Ku;show{p,_,9,bA.of hp,?_};show{_,_,9,by rw[Dt],?_};show{_,_,9,?_,by rw[nW]};show{q,_,9,bA.of hq,?_};show{_,_,9,?_,?_};·unfold HE;show{hd,_,9,bA.of vM,AN _}
 show{_,_,9,?_,by rw[nW]};show{aa,_,9,bA.of yh,Nu<|Qz jt}
def afc{H:Hp}{vs:Aam}{xs:List View}(h:Paired (nQ H) vs xs):nW K H (xs.map Ku) vs:=by
 induction h with
 |nil=>rw[gB,nW]
 |cons r _ ih=>
  show{_,_,9,agm r,ih}
inductive Rp(K:Frag)(H:Hp):V->PyData->Prop
 |dZ (a:cr) (vs:Aam) (xs:List View) (ha:H a>.lst vs) (hV:Paired (nQ H) vs xs) (j3:∀x∈xs,pG x) (l:xs.length<=4):Rp K H (-a) (.list<|xs.map Ku)
 |tab (p:cr) (fs:List En) (tb:kP K H p fs) (lf:fs.length<=25) (tn:∀e∈fs,nK e.nm):Rp K H (-p) (.dict<|fs.map Jo)
theorem Gb{h:nw}:∀{zs:Aaf}{us:Aae},Vals 57 us->Tl h us (zs.map PyData.str) []
 |[],_,.nil=>.nil
 |z::_,_,.cons ⟨t,e⟩ q=>by subst e;show .cons (.str z t)<|Gb q
variable{X:Cx}{bi:Aaa}{Z:L2.St}{H:Hp}{s:f8}
def row_reads(I:Inv X bi Z H s){a:cr}{r:Aaf}(h:bA X.K H a (r.map V.str)):Reads s.heap (-a) (HE r) []:=by obtain⟨aM,rv,⟨o,e,c,n,d⟩,_⟩:=I.tuple h;show .tuple e c d<|↑(Gb rv)
theorem Gv(I:Inv X bi Z H s):∀{ys:Aam}{rows:R1}{us:Aae},fA X.K H ys rows->Vals ys us->Tl s.heap us (rows.map HE) []
 |_,_,_,.nil,.nil=>.nil
 |_,_,_,.cons ⟨a,e,h⟩ t,.cons r q=>by subst e;cases r;show .cons (row_reads I h)<|Gv I t q
def RQ(I:Inv X bi Z H s){a:cr}{ys:Aam}{rows:R1}(ha:H a>.lst ys)(ra:fA X.K H ys rows):Reads s.heap (-a) (Q4 rows) [a]:=by obtain⟨aM,rv,⟨o,n,e,c,_,d⟩,_⟩:=I.list<|bg.of ha;show .list e c d<|↑(Gv I ra rv)
theorem G8(I:Inv X bi Z H s):∀{fs:List En}{es:List Db},(∀e∈fs,H e.ad>.lst e.ys/\fA X.K H e.ys e.rows)->Paired 139 ((fs.map gv).map λp=>(kV p.1,p.2)) es->
  Tl s.heap (es.map (·.key)) ((fs.map Jo).map (·.1)) []/\Tl s.heap (es.map (·.val)) ((fs.map Jo).map (·.2)) (fs.map (·.ad))
 |[],_,_,.nil=>{.nil,.nil}
 |f::fs,e::es,h,.cons ⟨⟨t,e1⟩,r2⟩ q=>by
  let(a,b):=G8 I (λx hx=>h x<|az _ hx) q;let(g1,g2):=h f ay;have e2:e.val=.ref f.ad:=by generalize e.val=v at r2;cases r2;rfl
  show{.cons (as:=[]) ?_ a,.cons (as:=[f.ad]) ?_ b};·change Reads s.heap e.key _ _;rw[e1];show .str _ t
  change Reads s.heap e.val _ _;rw[e2];show RQ I g1 g2
def rN{K:Frag}(hg:X.A.guards>[])(hu:X.A.units+64<wE)(sm:∃o,K.lookup ww>o)(hK:X.K=K:=by rfl):fD X (.builtin "repr") (λxs H Q=>∃x d,xs=[x]/\Rp K H x d/\Q (.str d.shown) H):=by
 subst hK;ext bi s Z H xs us Q I rs h;let(x,d,rfl,h,q):=h;let(u,rfl,ru):=jn rs;have fin:∀h' u tk,(∀b o,s.heap.get? b>o->h'.get? b>o)->EP X bi Z Q (.str d.shown u) 77:=λh' u tk hk=>{.str d.shown,H,I.kept hk,66,q};cases h with
 |dZ a vs xs ha hV j3 l=>
  cases ru;have p:PD 6 386399 (.list<|xs.map Ku):=.lst (λd hd=>by let(x,hx,rfl):=aD.mp hd;show afU<|j3 x hx) (by rw[af];show l)
  let(p1,p2,p3,p4):=p.ok;let(as,r):=wJ I (.list<|xs.map Ku) (-a) (-a) (by rw[Dt];show{a,vs,9,bg.of ha,afc hV}) rfl;show repr_of_reads' r p1 (PyData.noDict_hsm p2) hg ∅ (λ_ _ e=>e) fin (aR p4 7)
 |tab p fs tb lf tn=>
  cases ru;have no:H ww=none:=by let(o,e):=sm;show(I.bs _ _<|I.mod.Jq _ _ e).2
  have nn:∀b v,H b>v->ww≠b:=λb v e z=>by rw[<-z,no]at e;cases e
  have pr:=λe he=>by
   let(__,__,h3,h4):=tb.en e he;show(PD.lst (λd hd=>by let(r,hr,rfl):=aD.mp hd;show LO (λz hz=>(h4 r hr).2.2 z hz) (h4 r hr).2.1) (by rw[af];show h3)).ok
  let(s1,s2):=afM pr;let(lo,o,es,ep,ga,ex,hd,pq):=Ic (I.bC p _ tb.at_)<|.inl ⟨_,rfl,rfl⟩;let(k1,k2):=G8 I (λe he=>{(tb.en e he).1,(tb.en e he).2.1}) pq;have rd:Reads s.heap (-p) (.dict<|fs.map Jo) (p::fs.map (·.ad)):=by have:=Reads.dict ga ex.1 hd k1 k2;simpa using this
  show repr_of_reads' rd (by rw[PyData.showable];show s1) (λ_ hm=>?_) hg (by rw[PyData.depth];lia) (λ_ _ e=>e) fin ?_
  ·rcases aK.mp hm with e|e;·show nn _ _ tb.at_ e
   let(x,hx,e):=aD.mp e;show nn _ _ (tb.en x hx).1 e.symm
  let(a,b):=UX (kvs:=fs.map Jo) λx hx=>by let(e,he,rfl):=aD.mp hx;show Nat.add_le_add ((PD.str<|tn e he).ok.2.2.2)<|(pr e he).2.2.2
  have c:=join_le a;rw[b,af]at c;have e1:("{":i9).length=1:=9;have e2:("}":i9).length=1:=9;rw[PyData.shown_dict,fo,fo];have sl:(3000000:Nat)<=dL:=by decide
  lia
theorem Nr{A:ss}:∀{zs:Aaf}{us ws:Aae},Vals 57 us->Vals 57 ws->∀j(h1:j<us.length)(h2:j<ws.length),SeqAt.EqAt A s us[j] ws[j] true
 |[],_,_,.nil,.nil,j,h,_=>absurd h<|fX _
 |z::_,_,_,.cons ⟨t,e⟩ q,.cons ⟨t2,e2⟩ q2,0,_,_=>by subst e e2;have:=uZ (A:=A) (s:=s) z t z t2;rw[nP]at this;show this
 |_::_,_,_,.cons _ q,.cons _ q2,j+1,h1,h2=>Nr q q2 j (yV h1)<|yV h2
def adQ{X:Cx}(hu:X.A.units<wE):kn X (v4 .NotEq) (λx y H Q=>∃(a b:cr)(zs:Aaf),x=-a/\y=-b/\bg X.K H a 57/\bg X.K H b 57/\Q (.bl false) H):=by
 ext bi s Z H x y v u Q I rx ry h;let(a,b,zs,rfl,rfl,ha,hb,q):=h;cases rx;cases ry;let(i1,r1,p1,__):=I.list ha;let(i2,r2,p2,__):=I.list hb;have l1:=r1.length;have l2:=r2.length;show SeqAt.RcNeAt.lists (e:=λ_=>true) p1.isList p2.isList (by simp;lia) hu (λj j1 j2=>?_) 86 X.w _ _ ?_;·simpa using Nr r1 r2 j (↑j1) (↑j2)
 have:(List.range i1.toArray.size).all (λ_=>true)=true:=by simp
 rw[this];show{.bl false,H,I,9,q}
def Xd{es:List En}{z:i9}{v:V}(h:jo (es.map gv) (Sum.inr z:Key)>v):∃e∈es,e.nm=z/\v=.ref e.ad:=by
 induction es with
 |nil=>cases h
 |cons e r ih=>
  by_cases c:e.nm=z;·rw[a9,tX (show(gv e).1=Sum.inr z by rw[<-c];rfl)]at h;show{e,ay,c,(cB h).symm}
  rw[a9,oV (λq=>c (by injection q))]at h;let(e',h1,h2):=ih h;show{e',az _ h1,h2}
def HU{α β:Type}{f:α->β}{l:List α}(nd:(l.map f).Nodup){x y:α}(hx:x∈l)(hy:y∈l)(e:f x=f y):x=y:=by
 induction l with
 |nil=>cases hx
 |cons a l ih=>
  rw[a9,df]at nd;rcases aK.mp hx with h1|h1
  ·rcases aK.mp hy with h2|h2;·rw[h1,h2]
   show absurd (by rw[<-h1,e];show bV h2) nd.1
  rcases aK.mp hy with h2|h2;·show absurd (by rw[<-h2,<-e];show bV h1) nd.1
  show ih nd.2 h1 h2
end
structure oQ(K:Frag)(H0 H:Hp)(fe d:cr)(W:i9->Prop)(es:List En)(S:List aC.Atom)(n:Nat):Prop where
 tb:kP K H d es
 ad:(es.map (·.ad)).Nodup
 own:∀e∈es,H0 e.ad=none/\e.ad≠d/\e.ad≠fe
 d0:H0 d=none
 dn:d≠fe
 Jf:∀e∈es,W e.nm
 ins:∀e∈es,∀r∈e.rows,(e.nm,r)∈S
 lr:∀e∈es,e.rows.length<=n
def dc.KC{K:Frag}{f:cr}{H H':Hp}(h:dc K f H)(x:Ext f H H'):cX H H':=λb xs q=>by
 let(a,c,d,h):=h;rcases q with q|⟨o,q⟩;·show .inl<|x b _ (λe=>by rw[e,h]at q;cases q) q
 show .inr {o,x b _ (λe=>by rw[e,h]at q;cases q) q}
def dc.upd{K:Frag}{f p:cr}{H:Hp}(h:dc K f H)(n:p≠f)(o:HO):dc K f (upd H p o):=by let(a,c,d,h):=h;show{a,c,d,by rw[aI n.symm];show h}
section
variable{K:Frag}{H0 H H':Hp}{fe d:cr}{W:i9->Prop}{es:List En}{S:List aC.Atom}{n:Nat}
def oQ.ext(u:oQ K H0 H fe d W es S n)(hF:dc K fe H)(x:Ext fe H H'):oQ K H0 H' fe d W es S n:=
 ⟨{x _ _ u.dn u.tb.at_,u.tb.nm,λe he=>by let(h1,h2,h3):=u.tb.en e he;show{x _ _ (u.own e he).2.2 h1,kY h2<|hF.KC x,h3}},u.ad,u.own,u.d0,u.dn,u.Jf,u.ins,u.lr⟩
def oQ.same(u:oQ K H0 H fe d W es S n)(x:aX H H'):oQ K H0 H' fe d W es S n:={u.tb.same x,u.ad,u.own,u.d0,u.dn,u.Jf,u.ins,u.lr}
def oQ.more{S':List aC.Atom}{n':Nat}(u:oQ K H0 H fe d W es S n)(hS:∀a∈S,a∈S')(hn:n<=n'):oQ K H0 H fe d W es S' n':={u.tb,u.ad,u.own,u.d0,u.dn,u.Jf,λe he r hr=>hS _<|u.ins e he r hr,λe he=>aR (u.lr e he) hn}
def oQ.new{lp:cr}{nm:i9}(u:oQ K H0 H fe d W es S n)(hl:H lp>.lst [])(l0:H0 lp=none)(ld:lp≠d)(lf:lp≠fe)(la:lp∉es.map (·.ad))(hn:nm∉es.map (·.nm))(wn:W nm):oQ K H0 (upd H d<|.dK<|putK (es.map gv) (Sum.inr nm) (-lp)) fe d W (es++[{nm,lp,[],[]}]) S n:=by
 have t:cX H (upd H d<|.dK<|putK (es.map gv) (Sum.inr nm) (-lp)):=cX.upd<|wO u.tb.at_;show{{?_,?_,λe he=>?_},?_,λe he=>?_,u.d0,u.dn,λe he=>?_,λe he r hr=>?_,λe he=>?_};·rw[aF,wK _<|tY hn,aJ];rfl
 ·rw[aJ];show dG.mpr {u.tb.nm,84,λa ha b hb e=>hn (by have hb:b=nm:=ar.mp hb;rw[<-hb,<-e];show ha)}
 ·rcases aE.mp he with h|h;·let(h1,h2,h3):=u.tb.en e h;show{by rw[aI (u.own e h).2.1];show h1,kY h2 t,h3}
  cases ar.mp h;show{by rw[aI ld];show hl,.nil,aQ _,λr h=>90}
 ·rw[aJ];show dG.mpr {u.ad,84,λa ha b hb e=>la (by have hb:b=lp:=ar.mp hb;rw[<-hb,<-e];show ha)}
 ·rcases aE.mp he with h|h;·show u.own e h
  cases ar.mp h;show⟨l0,ld,lf⟩
 ·rcases aE.mp he with h|h;·show u.Jf e h
  cases ar.mp h;show wn
 ·rcases aE.mp he with h|h;·show u.ins e h r hr
  cases ar.mp h;cases hr
 rcases aE.mp he with h|h;·show u.lr e h
 cases ar.mp h;show aQ _
def K5{lp:cr}{nm:i9}{Q:VK}(u:oQ K H0 H fe d W es S n)(hF:dc K fe H)(x:Ext fe H0 H)(h:H lp>.lst [])(l0:H0 lp=none)(lf:lp≠fe)(ld:lp≠d)(la:lp∉es.map (·.ad))(wn:W nm)(le:es.length<=1000)(put:∀tN e2 H9,dc K fe H9->Ext fe H0 H9->oQ K H0 H9 fe d W tN S n->tN.length<=es.length+1->e2∈tN->e2.nm=nm->SB d H H9->Q (.ref e2.ad) H9):Pa (-d) [.str nm,-lp] H Q:=by
 show{d,Sum.inr nm,-lp,es.map gv,9,9,u.tb.at_,by rw[af];show bB le,λv hv=>?_,λhv=>?_};·let(e,he,hen,rfl):=Xd hv;show put es e H hF x u ∅ he hen (SB.refl _ _)
 show put (es++[{nm,lp,[],[]}]) {nm,lp,[],[]} _ (hF.upd u.dn _) (x.own u.d0 _) (u.new h l0 ld lf la (λh=>?_) wn) (aG▸aw _) (bq _ ay) rfl λb o n h=>aI n▸h;let(e,he,q):=aD.mp h;rw[<-q,wk u.tb.nm he]at hv;cases hv
def oQ.free(u:oQ K H0 H fe d W es S n){lp:cr}(h:H lp=none):lp≠d/\lp∉es.map (·.ad):=by show{(bx u.tb.at_ h).symm,λq=>?_};let(e,he,q):=aD.mp q;have:=(u.tb.en e he).1;rw[q,h]at this;cases this
def wD(es:List En)(ad:cr)(ys:Aam)(rows:R1):List En:=es.map λe=>if e.ad=ad then{e.nm,e.ad,ys,rows}else e
def abh(es:List En)(ad:cr)(ys:Aam)(rows:R1):(wD es ad ys rows).map (·.nm)=es.map (·.nm)/\(wD es ad ys rows).map (·.ad)=es.map (·.ad)/\(wD es ad ys rows).map gv=es.map gv:=by unfold wD;show{?_,?_,?_}<;>rw[dF]<;>show dO λe _=>?_<;>by_cases c:e.ad=ad<;>simp[c,gv]
def oQ.set{e:En}{ys:Aam}{rows:R1}{S':List aC.Atom}{n':Nat}(u:oQ K H0 H fe d W es S n)(he:e∈es)(hR:fA K H ys rows)(gr:∀r∈rows,jT r/\(e.nm,r)∈S')(hS:∀a∈S,a∈S')(hn:n<=n')(lr:rows.length<=n')(Jn:n'<=25):
  oQ K H0 (upd H e.ad 49) fe d W (wD es e.ad ys rows) S' n'/\({e.nm,e.ad,ys,rows}:En)∈wD es e.ad ys rows:=by
 let(m1,m2,m3):=abh es e.ad ys rows;have t:cX H (upd H e.ad 49):=cX.upd<|uS (u.tb.en e he).1;have of:∀e'∈wD es e.ad ys rows,(e'={e.nm,e.ad,ys,rows})\/(e'∈es/\e'.ad≠e.ad):=λe' h=>by
  let(x,hx,rfl):=aD.mp h;by_cases c:x.ad=e.ad;·rw[aN c,HU u.ad hx he c];show .inl rfl
  rw[aL c];show .inr ⟨hx,c⟩
 show{{{?_,m1▸u.tb.nm,λe' h=>?_},m2▸u.ad,λe' h=>?_,u.d0,u.dn,λe' h=>?_,λe' h r hr=>?_,λe' h=>?_},aD.mpr {e,he,aN rfl}};·rw[m3,aI (u.own e he).2.1.symm];show u.tb.at_
 ·rcases of e' h with rfl|⟨h,c⟩;·show{aF,kY hR t,aR lr Jn,λr hr=>(gr r hr).1}
  let(h1,h2,h3):=u.tb.en e' h;show{aI c▸h1,kY h2 t,h3}
 ·rcases of e' h with rfl|⟨h,c⟩;·show u.own e he
  show u.own e' h
 ·rcases of e' h with rfl|⟨h,c⟩;·show u.Jf e he
  show u.Jf e' h
 ·rcases of e' h with rfl|⟨h,c⟩;·show(gr r hr).2
  show hS _<|u.ins e' h r hr
 rcases of e' h with rfl|⟨h,c⟩;·show lr
 show aR (u.lr e' h) hn
noncomputable def nY:Aaf:=["a","b","x","c"]
end
def SOk(xs:List View)(S:List aC.Atom):Prop:=∀a∈S,∃x∈xs,x.1=a.1/\a.2.length=x.2.1.length/\∀z∈a.2,z∈nY
structure ka(xs:List View)(S:List aC.Atom)(fs:List En):Prop where
 nm:∀e∈fs,e.nm∈xs.map (·.1)
 ins:∀e∈fs,∀r∈e.rows,(e.nm,r)∈S
 rs:SOk xs S
 l8:S.length<=08
 lf:fs.length<=08
inductive OV(K:Frag)(vs:Aam)(H:Hp)(Q:VK)(_x3:XK):Prop
 |mk (f vl:cr) (dZ:Aam) (xs:List View) (_:vs=[-f,-vl,.int 08]) (_:dc K f H) (_:vl≠f) (_:H vl>.lst dZ) (_:Paired (nQ H) dZ xs) (_:(∀x∈xs,pG x)) (_:1<=xs.length) (_:xs.length<=4) (_:∀(d:cr)(fs:List En)(S:List aC.Atom)(H':Hp),dc K f H'->Ext f H H'->H d=none->d≠f->kP K H' d fs->(∀e∈fs,e.ad≠f)->ka xs S fs->Q (-d) H')
def Kh:∀z∈nY,nK z:=(by decide+kernel:∀z∈nY,z.length<=100/\PyData.strOk z=true)
section
variable{P:io}{w:i6}{K:Frag}{mg:Aab}{base:nw}
inductive Un1(K:Frag)(fe vl fa:cr)(xs:List View)(H:Hp)(j:Nat)(Z:L2.St)(H3:Hp):Prop
 |mk (x4 x5 x6 x7:Aan) (es:List En) (S:List aC.Atom) (_:Z=[some (-fe),some (-vl),some<|.int 08,some (-fa),x4,x5,x6,x7]) (_:dc K fe H3) (_:Ext fe H H3) (_:oQ K H H3 fe fa (λz=>z∈xs.map (·.1)) es S (2*j)) (_:S.length<=j) (_:es.length<=j) (_:SOk xs S)
def rG:b7 [AaK,AbH,Aa4,AaR,AaZ,Aba,"_law_asked_here",Abo] [AaK,AbH,Aa4] (bI Lj):=iM 59
def Yh{f:cr}{fd:re}(F:d6 K "_law_held" "_law_held" Lj f fd)(T:Txt K mg)(cE:dh P w K mg base 1 Abx [AaK,Aa4] (uK K)):cN P w K mg base fZ 2 f fd [AaK,AbH,Aa4] (OV K):=by
 show F.ok rG 98;let(fe,vl,dZ,xs,rfl,hF,GG,pC,hV,j3,l1,l4,k):=h;have lv:=aV hV;show{_,aA (dW 3 rG hJ)<|aA (eB bH 9 (j5 9 T.mZ<|bS<|cl cE hr<|b6 (pv 0)<|c9 ir (pv 2) aO) (gL 4 rG)<|aA (rX (cm eJ (pv 1) (cl cE hr<|b6 (pv 0)<|bu dD 9 T.fJ bK 79) (λ_ _=>9))<|lA 9<|cJ (gL 5 rG)<|cJ (gL 6 rG) ic)<|aA (dW 07 rG<|jr dM eK ig xX (pv 3)<|b6 (pv 5)<|c8 hU)<|aA (dP (cD vY 55 aO<|cM _) (aP<|fW<|jr bO cw cn iB (pv 07)<|bS<|dH fq 9 T.jH 59<|bS<|lY 9 (eF (fs:=[AaK]) (fr:=[0])) (pk<|cm fh (pv 6) aO (λ_ _=>9)) (λ_ _ _ _=>cm (wX) (c8<|eX cQ<|kj cQ cQ cQ) (cl cE hr<|b6 (pv 1) aO) (λ_ _=>9))) cP)<|aP<|dP (PW.pt<|zw (cD vY (bu dD 9 T.fJ bK<|bS<|pv 07) aO<|cM _)<|wo<|cD mQ 55 aO<|cM _) (aP<|fW<|jr bO cw cn iB (pv 07)<|bS<|cm eJ (pv 07) aO (λ_ _=>9)) cP)<|aP<|b8<|pv 3,?_}
 intros fa Bm H1 s1 sr
 have Jj:=hF.lC Bm;show{_,9,_,9,_,_,9,9,fe,09,9,hF.same s1,7,7,λi2 H2 a0 a1 iN kG=>?_};show{_,9,8,8,sE (Un1 K fe vl fa xs H) {_,_,_,_,[],[],9,iN,(λb o n h=>kG b o n<|s1 _ _ h),{{kG _ _ Jj sr,.nil,λe h=>90},.nil,λe h=>90,Bm,Jj,λe h=>90,λe h=>90,λe h=>90},aw _,aw _,λa h=>90} ?_ ?_}
 ·ext j Z H3 D1 hj ⟨x4,x5,x6,x7,es,S,rfl,ju,iX,un,lS,le,O3⟩ m9 _;have aeA:=iX _ _ GG pC;show{_,9,_,9,_,9,_,_,9,.inl {_,bg.of aeA,9},fe,_,9,ju,8,8,λi4 H4 b0 b1 ji gP=>?_};have AL:=iX.trans gP;have hi4:i4.toNat<dZ.length:=by lia
  let(x,hx,p,qv,ep,hp,q,hd,aa,jM,rfl,hq,vM,yh,jt):=Paired.at hV<|au hi4;have ev:rO dZ i4>.ref p:=by rw[<-BG b0,<-ep];show iF<|au hi4
  have xm:=aB hx;have vk:=j3 x xm;show{_,_,_,_,9,9,bg.of<|gP _ _ GG aeA,ev,p,_,9,bA.of<|(hF.iR AL) _ _ hp,9,_,_,9,_,_,9,9,?_};dsimp only;show uL λR hR=>?_;have go:∀(tN:List En)(e2:En)(H6:Hp),dc K fe H6->Ext fe H H6->oQ K H H6 fe fa (λz=>z∈xs.map (·.1)) tN S (2*j)->tN.length<=j+1->e2∈tN->e2.nm=x.1->R [some (-fe),some (-vl),some<|.int 08,some (-fa),some<|.int<|0+(j:Int),some<|.str x.1,some (-q),some<|.ref e2.ad] H6:=λtN e2 H6 oj kW un6 le6 kU GZ=>hR _ _ (by
   show uL λR2 hR2=>?_;have go2:∀(Qn:List En)(e3:En)(S3:List aC.Atom)(H7:Hp),dc K fe H7->Ext fe H H7->oQ K H H7 fe fa (λz=>z∈xs.map (·.1)) Qn S3 (2*j+1)->Qn.length<=j+1->S3.length<=j+1->SOk xs S3->e3∈Qn->e3.ad=e2.ad->R2 [some (-fe),some (-vl),some<|.int 08,some (-fa),some<|.int<|0+(j:Int),some<|.str x.1,some (-q),some<|.ref e2.ad] H7:=λQn e3 S3 H7 mN lO zi le7 ls7 so7 Jy G3=>hR2 _ _ (by
    rw[<-G3];have nd:=λ{H8}=>m9 [some (-fe),some (-vl),some<|.int 08,some (-fa),some<|.int<|0+(j:Int),some<|.str x.1,some (-q),some<|.ref e3.ad] H8;let(g1,g2,g3,g4):=zi.tb.en e3 Jy;have lyr:=aV g2;have lr7:=zi.lr e3 Jy;show{_,9,_,_,9,.inl {_,bg.of g1,9},_,_,9,9,_,9,dQ 93 93}
    ·show{_,9,fe,5,9,mN,7,7,λi8 H8 c0 c1 sy iW=>{9,_,9,dQ 24 24}}
     ·have OI:=zi.ext mN iW;let(g1,g2,g3,g4):=OI.tb.en e3 Jy;have EZ:0<e3.ys.length:=by have:=bz c;lia
      let(r0,hr0,a,ea,ha):=Paired.at' g2<|au EZ;have mr:=aB hr0;let(u9,__):=OI.set (n':=2*(j+1)) Jy (eU g2<|.cons ⟨a,rfl,ha⟩ .nil) (λr hr=>(aE.mp hr).elim (λh=>{g4 r h,OI.ins e3 Jy r h}) λh=>by rw[ar.mp h];show{g4 r0 mr,OI.ins e3 Jy r0 mr}) (λ_ h=>h) ∅ (by rw[aG];change e3.rows.length+1<=_;lia) ∅;show{_,9,.inl {9,_,bg.of g1},_,9,_,_,_,_,9,9,bg.of g1,iF (by rw[au EZ,ea]),_,_,_,9,9,g1,bB ∅,nd {_,_,_,_,_,S3,9,sy.upd (OI.own e3 Jy).2.2 _,(lO.trans iW).own (OI.own e3 Jy).1 _,u9,ls7,by unfold wD;rw[af];show le7,so7}}
     show nd {_,_,_,_,Qn,S3,9,sy,lO.trans iW,(zi.ext mN iW).more (λ_ h=>h) ∅,ls7,le7,so7}
    show nd {_,_,_,_,Qn,S3,9,mN,lO,zi.more (λ_ h=>h) ∅,ls7,le7,so7})
   show{_,9,fe,6,9,oj,7,7,λ_ H7 c0 c1 mN lO=>{_,_,9,9,_,9,dQ 24 24}}
   ·have zi:=un6.ext oj lO;have g1:=(zi.tb.en e2 kU).1;have t07:=hF.iR<|kW.trans lO;have lh:=vk.lh;have lh':(x.2.1.map V.str).length=x.2.1.length:=af _;show{_,9,.inl {9,_,bg.of g1},_,9,_,_,_,_,9,9,bA.of<|t07 _ _ hq,9,hd,9,{_,bA.of<|t07 _ _ vM},xi (xs:=x.2.1.map V.str) (λi ys H8=>∃zs:Aaf,ys=zs.map V.str/\28=i/\(∀z∈zs,z∈nY)/\dc K fe H8/\Ext fe H7 H8) (bB ∅) {[],9,9,λz h=>90,mN,Ext.refl _ _} ?_ ?_ ?_};·ext i ys H8 hi ⟨zs,rfl,lz,_,_,iW⟩;show{bA.of<|mN.iR iW _ _<|t07 _ _ vM,19}
    ·ext i y ys H8 N hc ⟨zs,rfl,lz,vz,sy,iW⟩ hN;show pT {130,λlp hlp=>?_};have hl9:upd H8 lp (.lst<|nY.map V.str) lp>.lst (nY.map V.str):=aF;have s9:=bh hlp<|.lst<|nY.map V.str;have el:nY.map V.str=[V.str "a",.str "b",.str "x",.str "c"]:=9;rw[<-el];show{_,9,fe,4,9,sy.same s9,7,7,λi9 ky d0 d1 Na Np=>?_};have l4:(nY.length:Int)=4:=9;let(z,hz,ev):=pj (zs:=nY) d0 ∅;show{_,_,_,_,9,9,bg.of<|Np _ _ (sy.lC hlp) hl9,ev,hN _ _ {zs++[z],by rw[aJ];rfl,by rw[aG,lz];rfl,λt ht=>(aE.mp ht).elim (vz t) λh=>by rw[ar.mp h];show hz,Na,λb o n h=>Np b o n<|s9 _ _<|iW b o n h}}
    ext ys H8 ⟨zs,rfl,lz,vz,sy,iW⟩
    intros ml PZ H9 s9 h9
    show{ml,_,9,.inl {bg.of h9,?_}}
    intros tp tJ ky fE tM
    have Ao:=s9.trans fE;have mW:=(zi.ext mN iW).same Ao;let(g1,g2,g3,g4):=mW.tb.en e2 kU;have lyr:=aV g2;have aec:=mW.lr e2 kU;rw[lh']at lz;let(Td,m11):=mW.set (S':=S++[(e2.nm,zs)]) (n':=2*j+1) kU (eU g2<|.cons {tp,9,bA.of tM} .nil) (λr hr=>(aE.mp hr).elim (λh=>{g4 r h,ba _<|mW.ins e2 kU r h}) λh=>by rw[ar.mp h];show{⟨by have:=tR.mpr vk.ne;lia,by lia,λz hz=>Kh z<|vz z hz⟩,bq _ ay}) (λ_ h=>ba _ h) ∅ (by rw[aG];change e2.rows.length+1<=_;lia) ∅;show{_,_,_,9,9,g1,bB ∅,go2 _ _ _ _ ((sy.same Ao).upd (mW.own e2 kU).2.2 _) ((show Ext fe H ky fromλb o n h=>Ao _ _<|iW b o n<|lO b o n<|kW b o n h).own (mW.own e2 kU).1 _) Td (by unfold wD;rw[af];show le6) (aG▸d7 lS) (λa ha=>?_) m11 rfl};rcases aE.mp ha with h|h;·show O3 a h
    rw[ar.mp h];show{x,xm,GZ.symm,lz,vz}
   show go2 tN e2 S H7 mN (kW.trans lO) ((un6.ext oj lO).more (λ_ h=>h) ∅) le6 ∅ O3 kU rfl)
  have ZP:=un.ext ju gP;show{_,9,.inr<|.inr<|.inl {9,.inl {_,ZP.tb.at_}},_,9,56,?_}
  intros lp xY H5 s5 h5
  have Jh:=ji.lC xY;show K5 (ZP.same s5) (ji.same s5) (λb o n h=>s5 _ _<|AL b o n h) h5 (AL.none Jh xY) Jh (ZP.free xY).1 (ZP.free xY).2 (bV xm) ∅ λtN e2 H9 f1 f2 f3 f4 f5 f6 _=>go tN e2 H9 f1 f2 f3 ∅ f5 f6
 ext Z H3 ⟨x4,x5,x6,x7,es,S,rfl,ju,iX,un,lS,le,O3⟩;show{_,9,k fa es S H3 ju iX Bm Jj un.tb (λe he=>(un.own e he).2.2) {un.Jf,un.ins,O3,8,8}}
def agu{k:Nat}{A:ss}(r:gx k A):A.units+110<wE:=by have:=r.un;lia
def QA(z:i9):Prop:=z.length<=050/\PyData.strOk z=true
def QA.t{z:i9}(h:QA z):nK z:=⟨by have:=h.1;lia,h.2⟩
def MAt(a:aC.Atom):Prop:=nK a.1/\1<=a.2.length/\a.2.length<=3/\∀z∈a.2,QA z
def acZ:∀z∈mq,z.length<=3/\PyData.strOk z=true:=by decide+kernel
def agt:∀z∈nY,QA z:=(by decide+kernel:∀z∈nY,z.length<=050/\PyData.strOk z=true)
def afV:∀n:Nat,n<08->(Str.ofString<|toString (n:Int)).length<=09/\PyData.strOk (Str.ofString<|toString (n:Int))=true:=by decide+kernel
def BQ{x y:i9}(hx:PyData.strOk x=true)(hy:PyData.strOk y=true):PyData.strOk (x++y)=true:=by unfold PyData.strOk at*;change(x.cps++y.cps).all _=true;rw[Array.all_append,hx,hy];rfl
def acO:∀(a b:Aaf),(a.map (Sum.inr:i9->Key)).zip (b.map V.str)=gD (a.zip b):=by
 ext a
 induction a with
 |nil=>ext b;rfl
 |cons x a ih=>
  ext b;cases b with
  |nil=>rfl
  |cons y b=>
   unfold gD;rw[a9,a9,u0,ih,u0,a9];rfl
def Yo{a b:Aaf}(nd:a.Nodup)(l:a.length=b.length):sh [] ((a.map (Sum.inr:i9->Key)).zip<|b.map V.str)=gD (a.zip b):=by rw[FH _ [] ?_,iE,acO];rw[iE,List.map_fst_zip (by rw[af,af];lia),Uz];show nd
end
inductive Tw(K:Frag)(vs:Aam)(H:Hp)(Q:VK)(_x3:XK):Prop
 |mk (vl rl:cr) (dZ O9:Aam) (xs:List View) (as:List aC.Atom) (_:vs=[-vl,-rl]) (_:H vl>.lst dZ) (_:Paired (nQ H) dZ xs) (_:(∀x∈xs,pG x)) (_:(xs.map (·.1)).Nodup) (_:H rl>.lst O9) (_:dw K H O9 as) (_:as.length<=08) (_:(∀a∈as,(∃x∈xs,x.1=a.1/\a.2.length=x.2.1.length)/\∀z∈a.2,QA z)) (_:∀(l:cr)(ws:Aam)(cs:List aC.Atom)(H':Hp),aX H H'->H l=none->H' l>.lst ws->dw K H' ws cs->cs.length<=024->(∀a∈cs,MAt a)->Q (-l) H')
def xO{xs:List View}(nd:(xs.map (·.1)).Nodup){x:View}(h:x∈xs):viewOf xs x.1>x:=by
 cases e:viewOf xs x.1 with
 |none=>
  have:=pP.mp e x h;show absurd (bD 9) this
 |some y=>
  let(h1,h2):=vS e;rw[HU nd h1 h h2]
section
variable{P:io}{w:i6}{K:Frag}{mg:Aab}{base:nw}
def Zu(a:i9×Aaf):Aaf:=a.1::a.2
def unB(r:Aaf):i9×Aaf:=(r.headD "",r.tail)
def abA{H:Hp}{vs:Aam}{br:List aC.Atom}(h:dw K H vs br):Paired (De K H) vs (br.map Zu):=by
 induction h with
 |nil=>show .nil
 |@cons _ a _ _ h _ ih=>
  let(p,t,e,h1,h2):=h;show .cons {p,t,a.1,a.2,e,9,h1,h2} ih
def acB{H:Hp}{us:List (Aaf×cr)}(at_:∀x∈us,De K H (.ref x.2) x.1):dw K H (us.map λx=>.ref x.2) (us.map λx=>unB x.1):=by
 induction us with
 |nil=>show .nil
 |cons x us ih=>
  let(p,g,z,zs,e,e2,h1,h2):=at_ x ay;show .cons ?_ (ih λy hy=>at_ y<|az _ hy);change Ae K H (.ref x.2) (unB x.1);rw[e2];show⟨p,g,e,h1,h2⟩
def T7{H H':Hp}{v:V}{r:Aaf}(h:De K H v r)(s:aX H H'):De K H' v r:=by let(p,g,z,zs,e1,e2,h1,h2):=h;show{p,g,z,zs,e1,e2,dR h1 s,dR h2 s}
def aee{p:i9->Prop}{g:List (i9×i9)}{z:i9}(h:∀q∈g,p q.2)(hz:p z):p (kM g z):=by
 unfold kM;rw[HR];cases e:aC.get g z with
 |none=>show hz
 |some v=>show h _<|aC.get_some e
def adH{p:i9->Prop}{g:List (i9×i9)}{u t:i9}(h:∀q∈g,p q.2)(ht:p t):∀q∈yH g u t,p q.2:=λq hq=>by
 unfold yH at hq;split at hq
 ·let(y,hy,rfl):=aD.mp hq;split;·show ht
  show h y hy
 rcases aE.mp hq with q1|q1;·show h q q1
 rw[ar.mp q1];show ht
inductive Ma1(K:Frag)(vl rl:cr)(H:Hp)(j:Nat)(Z:L2.St)(H2:Hp):Prop
 |mk (fa:cr) (x3 x4 x5 x6 x7 x8:Aan) (ws:Aam) (cs:List aC.Atom) (_:Z=[some (-vl),some (-rl),some (-fa),x3,x4,x5,x6,x7,x8]) (_:aX H H2) (_:H fa=none) (_:H2 fa>.lst ws) (_:dw K H2 ws cs) (_:cs.length<=3*j) (_:∀a∈cs,MAt a)
def mx:b7 [AbH,Abo,AaR,AaZ,Aba,"_law_row","_law_asked_here",AaP,"_law_term"] [AbH,Abo] (bI Li):=iM 59
def abO{f:cr}{fd:re}(F:d6 K "_law_made" "_law_made" Li f fd)(T:Txt K mg)(nE:dh P w K mg base 1 AbC [AaH] Gf)(Dy:dh P w K mg base 1 AaY [Abz,AaP] QR):cN P w K mg base fZ 2 f fd [AbH,Abo] (Tw K):=by
 show F.ok mx 98;have hu:=pX hr;let(vl,rl,dZ,O9,xs,as,rfl,pC,hV,j3,j7,vH,hA,l8,oka,k):=h;have lr:=aV hA;show{_,aA (dW 2 mx<|c8 hU)<|aA (eB bH 9 (j5 9 T.mZ<|bS<|bu dD 9 T.fJ bK 79) (gL 3 mx)<|aA (rX (cm eJ (pv 1) (pv 3) (λ_ _=>9))<|lA 9<|cJ (gL 4 mx)<|cJ (gL 5 mx) ic)<|aA (dW 6 mx<|rJ hu (dH (sI hr.hd) 9 T.zH 59 78) (pv 4) (λ_ _=>9))<|aA (nZ (i:=07) mx.nd 9 (Or.inr 9)<|adM (c:=false) 9 T.zH 9 T.aam hr.hd<|b6 (cm fh (pv 6) aO (λ_ _=>9))<|pv 5)<|aA (eB bH 9 (eC<|cl nE hr<|bS<|cm fh (pv 6) aO (λ_ _=>9)) (gL 08 mx)<|aP<|dP (Ca<|Cd hu (pv 08)<|pv 07) (aP<|wq hu (pv 07) (pv 08) (c9 Aw (c9 Aw (dH Wx 9 T.GJ 59 47) cQ)<|pv 08) rfl) cP)<|aP<|dW 2 mx<|c9 Ci (pv 2)<|Au 9 (sG (more:=[Abz]) (fs:=[AaP]) (fr:=[07])) (pk<|cm fh (pv 6) aO (λ_ _=>9)) (λ_ _ _ _=>zB (n:=2) 9 152) (λ_ _ _ _=>dS<|b6 (pv 0)<|cl Dy hr<|b6 (pv 1)<|pv 2))<|aP<|b8<|bu (NG hr.hd<|u96 hr) 9 T.qX 59<|bS<|dH (Wz hr.hd<|agu hr) 9 T.RA 59<|bS<|pv 2,?_}
 show{56,?_}
 intros fl E8 H1 s1 sr
 show{_,9,_,_,9,.inl {_,bg.of<|s1 _ _ vH,9},_,9,8,8,sE (Ma1 K vl rl H) {fl,_,_,_,_,_,_,[],[],9,s1,E8,sr,.nil,aw _,λa h=>90} ?_ ?_}
 ·ext j Z H2 D1 hj ⟨fa,x3,x4,x5,x6,x7,x8,ws,cs,rfl,s2,Bm,MW,hC,lc,Us⟩ m9 _;let(a,ha,p,t,ep,hp,ht):=Paired.at hA<|au (show j<O9.length by lia);have ev:rO O9 (0+(j:Int))>.ref p:=by rw[pQ,<-ep];show iF (au (show j<O9.length by lia))
  obtain⟨⟨x,xm,ex,el⟩,mz⟩:=oka a<|aB ha;have vk:=j3 x xm;show{_,9,_,9,_,_,_,_,9,9,bg.of<|s2 _ _ vH,ev,p,_,9,dR hp s2,9,_,_,9,_,_,9,9,?_};let(kvs,Vz,hK,hm):=Ah (Paired.imp' (λ_ _ h=>h.keep<|dj.of s2) hV) j7;let(qv,q1,q2,hd,aa,jM,rfl,hq,vM,yh,jt):=hK.some<|ex▸xO j7 xm;show{_,9,vl,_,kvs,9,bg.of<|s2 _ _ pC,Vz,?_};rw[hm]
  intros kd kd0 H3 s3 VA
  have l4:=vk.lh;show{_,9,kd,_,9,(by rw[<-q1];show jQ.k (k:=Sum.inr a.1) VA),?_};have ek:(x.2.1.map (Sum.inr:i9->Key)).map kV=x.2.1.map V.str:=by rw[dF];rfl
  show{_,9,_,_,_,_,9,9,bA.of<|s3 _ _ hq,9,_,9,hd,t,x.2.1.map Sum.inr,a.2.map V.str,9,by rw[ek];show bA.of<|s3 _ _ vM,dR ht<|s2.trans s3,by rw[af,af];lia,?_};rw[Yo vk.nd el.symm]
  intros dz dz0 H4 s4 hdz
  have mL:=s3.trans s4;have l3:=vk.l3;show{_,9,_,_,_,_,9,9,bA.of<|mL _ _ hq,9,aa,jM,x.2.2,9,.inr<|mL _ _ yh,jt.keep<|dj.of mL,vk.a6,8,λul H5 s5 ZQ Bf=>?_};have lu:=aR (DS _) vk.flat;show{ul,9,{_,bg.of Bf},iC (λi Z H6=>∃(x8:Aan)(g:du),Z=[some (-vl),some (-rl),some (-fa),some<|.int<|0+(j:Int),some<|.str a.1,some (-t),some (-q2),some (-dz),x8]/\SB dz H5 H6/\H6 dz>.dK (gD g)/\g.length<=4+i/\∀q∈g,QA q.2) {_,x.2.1.zip a.2,9,SB.refl _ _,s5 _ _ hdz,by rw[List.length_zip];lia,λq hq=>mz _ (sT hq).2} (λi Z H6 _ zq=>by let(__,__,__,sb,__):=zq;show bg.of<|sb _ _ ((bx hdz ZQ).symm) Bf) ?_ ?_}
  ·ext i y Z H6 D2 hy ⟨x8,g,rfl,sb,MY,lg,mg'⟩ Nb _;let(z,hz,rfl):=k9 hy;have hi:=(aq.mp hz).1;let(__,zf):=oY.mp<|aB hz;let(b,hb,zf):=nJ.mp zf;have zt:=acZ z<|(vk.a6 b hb).2.2.2 z zf;have nj:=afV j ∅;show{_,9,_,9,dz,_,9,jQ.k (k:=Sum.inr z) MY,_,9,dQ 93 (λc=>Nb _ _ {_,g,9,sb,MY,8,mg'})};have e0:(0:Int)+(j:Int)=(j:Int):=pQ _;have e1:(".":i9).length=1:=9;have sl:(100:Nat)<=dL:=by decide
   show{_,9,0+(j:Int),9,by rw[e0];show BR j ∅,_,_,9,9,by rw[e0];lia,_,9,_,_,9,9,by rw[fo,e0];lia,_,9,_,9,dz,_,9,xB.k (k:=Sum.inr z) MY (by unfold gD;rw[af];show bB ∅),?_};rw[Pd];have lp:=Lz g z<|Str.ofString (toString<|0+(j:Int))++"."++z;show Nb _ _ {_,yH g z<|Str.ofString (toString<|0+(j:Int))++"."++z,9,λb u n h=>by rw[aI n];show sb b u n h,aF,8,adH mg' {?_,?_}};·rw[fo,fo,e0];lia
   rw[e0];show BQ (BQ nj.2 59) zt.2
  ext Z H6 ⟨x8,g,rfl,sb,MY,lg,mg'⟩;have TU:=s3.trans (λb u h=>sb b u (bx h dz0)<|s5 _ _<|s4 _ _ h);have la:=aV jt;show{_,9,_,9,_,_,_,_,9,9,bA.of<|TU _ _ hq,9,aa,9,{_,bA.of<|TU _ _ yh},Wv (xs:=jM) (λi ys H7=>aX H6 H7/\i<=x.2.2.length/\dw K H7 ys ((x.2.2.take i).map λb=>(b.1,b.2.map<|kM g))) (bB ∅) {51,aQ _,.nil} ?_ ?_ ?_};·ext i ys H7 hi ⟨s7,_,ME⟩;show{bA.of<|s7 _ _<|TU _ _ yh,?_};rw[aV ME,af,bo];lia
  ·ext i y ys H7 N hy ⟨s7,_,ME⟩ hN;let(b,hb,pp,tt,rfl,vK,ye):=Paired.at jt hy;have s27:=TU.trans s7;have lb:=(vk.a6 b<|aB hb).2.2.1;show{_,_,_,9,bA.of<|s27 _ _ vK,pT {_,9,_,9,_,9,tt,dz,b.2,g,9,s27 _ _ ye,s7 _ _ MY,8,λr H8 s8 hr8=>{31,λpr Vp=>hN _ _ {s7.trans<|s8.trans<|bh Vp _,(aq.mp hb).1,?_}}}};have s9:=bh Vp<|.tup [.str b.1,-r];rw[aY,hb,aJ];show eU (dw.same ME<|s8.trans s9)<|.cons {pr,r,9,bA.of aF,bA.of<|s9 _ _ hr8} .nil
  ext ys H7 ⟨s7,_,ME⟩;rw[la,bj]at ME;have lw:=aV hC;have ly:48=x.2.2.length:=by rw[aV ME,af]
  intros l7 hl7 H8 s8 h8
  have s28:=TU.trans<|s7.trans s8;show{fa,l7,ws,ys,9,9,s28 _ _ MW,h8,cy<|bB ∅,?_}
  intros fb hfb H9 s9 h9
  have s29:=s28.trans s9;show m9 _ _ {fb,_,_,_,_,_,_,ws++ys,cs++x.2.2.map λb=>(b.1,b.2.map<|kM g),9,s2.trans s29,(s2.trans s28).free hfb,h9,eU (dw.same hC s29)<|dw.same ME<|s8.trans s9,by rw[aG,af];lia,26};rcases aE.mp hb with h|h;·show Us b h
  let(c,hc,rfl):=aD.mp h;let(c1,c2,c3,c4):=vk.a6 c hc;show{(Rz c1).2,by rw[af];show c2,by rw[af];show c3,λz hz=>?_};let(y,hy,rfl):=aD.mp hz;have ty:=acZ y<|c4 y hy;show aee mg' {8,ty.2}
 ext Z H2 ⟨fa,x3,x4,x5,x6,x7,x8,ws,cs,rfl,s2,Bm,MW,hC,lc,Us⟩;have lb:(cs.map Zu).length=cs.length:=af _;show{_,9,fa,ws,cs.map Zu,9,.inl<|bg.of MW,abA hC,8,λr hr z hz=>?_,λsa us hsa nd mem le at_=>?_}
 ·let(b,hb,rfl):=aD.mp hr;rcases aK.mp hz with e|h;·rw[e];show(Us b hb).1.2
  show((Us b hb).2.2.2 z h).2
 have s3:=bh hsa<|.ext<|D4 P w sa us;show{sa,us,9,aF,λx hx=>T7 (at_ x hx).1 s3,8,λl ws hl hp=>?_};have s4:=bh hl<|.lst (ws.map λx=>.ref x.2);have lw:=hp.length_eq;show k l _ _ _ (s2.trans<|s3.trans s4) ((s2.trans s3).free hl) aF (acB λx hx=>T7 (at_ x<|hp.mem_iff.mp hx).1<|s3.trans s4) 19 λb hb=>?_;let(x,hx,rfl):=aD.mp hb;let(c,hc,e):=aD.mp<|(mem x.1).mp<|bV<|hp.mem_iff.mp hx;rw[<-e];show Us c hc
end
end nL
namespace L2
open PySem PySem.Spec PyProof.Rows PySem.W
section
variable{X:Cx}
inductive afT(x:V)(vs:Aam)(H:Hp)(Q:VK):Prop
 |mk a b (_:x=.str a) (_:vs=[.str b]) (_:∀i,Q (.int i) H)
def ab0:NU X "str.find" afT:=by ext bi s Z H x vs v us Q I rx rv h;let(a,b,rfl,rfl,q):=h;let(t,rfl):=rx;let(u,rfl,ru):=rv.one;let(t',rfl):=ru;show call_gives F.slot_str_find (kK s a t) F.entry_str_find (F.args_str_find_2 _ _) (gives_str_find a b t t') {.int _,H,44,66,q _}
def acA(f:Nat->List Nat):∀k,argBest (λi j=>decide (f i<f j)) k<=k/\∀j,j<=k->f (argBest (λi j=>decide (f i<f j)) k)<=f j:=by
 ext k
 induction k with
 |zero=>
  show{aw _,λj hj=>?_};cases Fn.mp hj;show List.le_refl _
 |succ k ih=>
  let(h1,h2):=ih;unfold argBest;by_cases c:f (k+1)<f (argBest (λi j=>decide (f i<f j)) k)
  ·rw[aN<|bD c];show{aw _,λj hj=>?_};rcases Dj j (k+1)with q|q;·show List.le_trans (List.le_of_lt c) (h2 j ∅)
   cases Nat.le_antisymm hj q;show List.le_refl _
  rw[aL λe=>c<|bz e];show{8,λj hj=>?_};rcases Dj j (k+1)with q|q;·show h2 j ∅
  cases Nat.le_antisymm hj q;show c
def WA(hc:X.calm=true):fD X (.builtin "min") (λxs H Q=>∃(a:cr)(zs:Aaf),xs=[-a]/\bg X.K H a 57/\0<28/\∀m,m∈zs->(∀n∈zs,sj m n=true)->Q (.str m) H):=by
 ext bi s Z H xs us Q I r h;let(a,zs,rfl,ha,hn,q):=h;let(u,rfl,ru):=jn r;cases ru;let(aM,rv,p,hz):=I.list ha;have lr:=rv.length;rw[af]at lr;have at_:∀{i:Nat}{v:i5},aM.toArray[i]?>v->∃t,v=.str (zs.getD i "") t/\i<28:=λ{i v} hv=>by
  have hv:aM[i]?>v:=by simpa using hv
  have hi:i<28:=by rw[lr];show(aq.mp hv).1
  let(v',PQ,t,e):=rv.get (by rw[aW,au hi];rfl);rw[hv]at PQ;cases PQ;show{t,by rw[e,b5,au hi];rfl,hi}
 have hl:=p.isList;have cb:a<34:=by let(__,e,__):=hl;show aS e
 show call_min_walk<|kE hl {_,[34,a],[34],aM.toArray.size,λi v=>aM.toArray[i]?>v,_,λi j=>decide ((zs.getD i "").cps.toList<(zs.getD j "").cps.toList),9,AS (show X.A.in1.handled=none from I.ok.hd hc) _ a (aU cb) aM.toArray,{{_,27,9,9},hl.push _},26,by rw[aT];lia,λi j vi vj s1 Q1 E1 hi hj h1=>?_,λv h' tk hP hk=>?_}
 ·change b<(s.heap.push _).objs.size;rw[dk];rcases aK.mp hb with rfl|hb;·show eS _
  rw[ar.mp hb];show iz cb
 ·let(t1,rfl,__):=at_ hi;let(t2,rfl,__):=at_ hj;show richCompare_gives (kK s1 _ t1) (kK s1 _ t2) F.slot_str_lt F.entry_str_lt (F.args_str_lt_2 _ _) (gives_str_lt _ _ t1 t2) (λx=>nomatch x) h1
 let(h1,h2):=acA (λi=>(zs.getD i "").cps.toList)<|aM.toArray.size -1;let(t,rfl,hi):=at_ hP;show{.str _,H,I.kept<|old_kept hk,⟨t,rfl⟩,q _ ?_ λb hb=>?_};·rw[b5,au hi];show lG hi
 let(j,hj,rfl):=jz.mp hb;rw[zJ];have:=h2 j (by rw[aT];lia);rw[show zs.getD j ""=zs[j] by rw[b5,au hj];rfl]at this;show this
end
end L2
namespace nL
open PySem PySem.Spec PyProof.Rows L2 Br aC
seal L2.PE L2.PT L2.PW L2.PA L2.PS L2.mP L2.PI L2.PO L2.PPs L2.PG L2.Ht
def Tr{z:i9}{a b:Option Int}(h:PyData.strOk z=true):PyData.strOk (Txt.slice z a b)=true:=by
 unfold Txt.slice;split;·show h
 unfold PyData.strOk at h⊢;rw[DH]at h⊢;ext c hc;let(i,__,e):=pO.mp<|List.mem_toArray.mp hc;show h c<|Array.mem_of_getElem? e
def af4{c:TT}{t u:TS}{D:Ends}{Z:L2.St}{H:Hp}(h:∀R:Bool->Hp->Prop,(∀H',t D Z H'->R true H')->(∀H',u D Z H'->R false H')->c Z H R):Xp c t u D Z H:=h _ (λH' x=>by show x) λH' x=>by show x
inductive OW(K:Frag)(vs:Aam)(H:Hp)(Q:VK)(_x3:XK):Prop
 |mk (f gl:cr) (uV:Aam) (gs:List aC.Atom) (_:vs=[-f,-gl]) (_:dc K f H) (_:gl≠f) (_:H gl>.lst uV) (_:dw K H uV gs) (_:gs.length<=024) (_:(∀a∈gs,MAt a)) (_:∀(d:cr)(fs:List En)(S:List aC.Atom)(H':Hp),dc K f H'->Ext f H H'->H d=none->d≠f->kP K H' d fs->(∀e∈fs,H e.ad=none/\e.ad≠f/\nK e.nm)->(∀e∈fs,∀r∈e.rows,(e.nm,r)∈S)->S.length<=25->fs.length<=25->Q (-d) H')
section
variable{P:io}{w:i6}{K:Frag}{mg:Aab}{base:nw}
inductive Be1(K:Frag)(fe gl fa:cr)(i2 i3:Int)(H:Hp)(i:Nat)(Z:L2.St)(H4:Hp):Prop
 |mk (x5 x6 x7 x8:Aan) (es:List En) (S:List aC.Atom) (_:Z=[some (-fe),some (-gl),some (-fa),some<|.int<|1+i2,some<|.int i3,x5,x6,x7,x8]) (_:dc K fe H4) (_:Ext fe H H4) (_:oQ K H H4 fe fa nK es S i) (_:S.length<=i) (_:es.length<=i)
def nG:b7 [AaK,AaU,AaR,"_law_few","_law_alike",Aba,"_law_row","_law_told","_law_value"] [AaK,AaU] (bI Lk):=iM 59
def Yj{f:cr}{fd:re}(F:d6 K "_law_bent" "_law_bent" Lk f fd)(T:Txt K mg)(cE:dh P w K mg base 1 Abx [AaK,Aa4] (uK K)):cN P w K mg base fZ 2 f fd [AaK,AaU] (OW K):=by
 show F.ok nG 98;let(fe,gl,uV,gs,rfl,hF,ngf,CD,hG,l24,gok,k):=h;have lg:=aV hG;show{_,aA (dW 2 nG hJ)<|aA (dW 3 nG<|c9 ir aO 55)<|aA (dW 4 nG 55)<|aA (eB bH 9 (eC<|pv 1) (lA 9<|cJ (gL 5 nG)<|cJ (gL 6 nG) ic)<|aP<|dP (PW.pt<|DQ (cD vY (cl cE hr<|b6 (pv 0)<|pv 3) aO<|cM _)<|zv<|cD vY (pv 3) aO<|cM _) (aA (dW 07 nG<|c8 hU)<|aA (eB bH 9 (pk<|pv 6) (gL 08 nG)<|aP<|fW<|jr bO cw cn iB (pv 07)<|bS<|wM (cD LU cQ (pv 08) 74) (pv 08)<|cm eJ (c8<|b6 (c9 Aw cQ<|pB TJ (pv 08) ub<|pV<|jr yS PySem.F.slot_str_find PySem.F.type_str_find ab0 (pv 08)<|bS cQ) cQ) (pv 4) (λ_ _=>9))<|aP<|fW<|jr bO PySem.F.slot_list_insert PySem.F.type_list_insert UL (jr dM eK ig xX (pv 2)<|b6 (pv 5)<|c8 hU)<|b6 aO<|dH fq 9 T.jH 59<|bS<|pv 07) cP)<|aA (dP (cD mQ 55 aO<|cM _) (aP<|fW<|jr bO cw cn iB (jr dM eK ig xX (pv 2)<|b6 cQ<|c8 hU)<|bS<|dS<|b6 cQ cQ) cP)<|aP<|b8<|pv 2,?_}
 intros fa Bm H1 s1 sr
 have Jj:=hF.lC Bm;show{_,9,fe,09,9,hF.same s1,7,7,λi2 H2 a0 a1 iN kG=>{_,_,9,9,?_}};show{_,9,fe,2,9,iN,7,7,λi3 H3 b0 b1 ju iX=>?_};have ae7:=λb o n h=>iX b o n<|kG b o n<|s1 _ _ h;show{_,9,gl,9,{_,bg.of<|ae7 _ _ ngf CD},iC (Be1 K fe gl fa i2 i3 H) {_,_,_,_,[],[],9,ju,ae7,{{iX _ _ Jj<|kG _ _ Jj sr,.nil,λe h=>90},.nil,λe h=>90,Bm,Jj,λe h=>90,λe h=>90,λe h=>90},aw _,aw _} (λi Z H4 _ zq=>by let(__,__,__,__,__,__,__,__,gP,__,__,__):=zq;show bg.of<|gP _ _ ngf CD) ?_ ?_}
 ·ext i y Z H4 D1 hy ⟨x5,x6,x7,x8,es,S,rfl,ji,gP,un,lS,le⟩ m9 _;let(a,ha,p,t,rfl,hp,ht):=Paired.at hG hy;have hi:=(aq.mp ha).1;let(m1,m2,m3,m4):=gok a<|aB ha;show{p,_,9,gn hp<|hF.KC gP,9,_,_,9,_,_,9,9,?_};show af4 λR h1 h2=>?_;have go:∀H5,dc K fe H5->Ext fe H4 H5->R true H5:=λH5 j8 lP=>h1 _ (by
   have Nq:=gP.trans lP;have OK:=hF.KC Nq;have zj:=un.ext ji lP;show{56,?_}
   intros tl KL H6 s6 h6
   show{_,9,t,9,{_,gn ht<|OK.trans<|cX.same s6},AH (λj Z H7=>∃(x8:Aan)(zs:Aaf),Z=[some (-fe),some (-gl),some (-fa),some<|.int<|1+i2,some<|.int i3,some<|.str a.1,some (-t),some (-tl),x8]/\SB tl H6 H7/\H7 tl>.lst 57/\28=j/\∀z∈zs,nK z) {_,[],9,SB.refl _ _,h6,9,λz h=>90} (λj Z H7 _ zq=>by let(__,__,__,sb,__):=zq;show gn ht<|OK.trans<|(cX.same s6).trans<|sb.tp<|uS h6) ?_ ?_}
   ·ext j v Z H7 D2 hv ⟨x8,zs,rfl,sb,EW,lz,tz⟩ Nb _;let(z,hz,rfl):=k9 hv;have hj:=(aq.mp hz).1;have mz:=m4 z<|aB hz;have sl:(200:Nat)<=dL:=by decide
    have lzs:(zs.map V.str).length=28:=af _;have fin:∀(v:i9)(H8:Hp),nK v->aX H7 H8->∃(x8:Aan)(za:Aaf),[some<|V.ref fe,some (-gl),some (-fa),some<|.int<|1+i2,some<|.int i3,some<|.str a.1,some (-t),some (-tl),some<|.str z]=[some (-fe),some (-gl),some (-fa),some<|.int<|1+i2,some<|.int i3,some<|.str a.1,some (-t),some (-tl),x8]/\SB tl H6 (upd H8 tl<|.lst<|zs.map V.str++[.str v])/\upd H8 tl (.lst<|zs.map V.str++[.str v]) tl>.lst (za.map V.str)/\za.length=j+1/\∀z∈za,nK z:=λv H8 tv s8=>{_,zs++[v],9,λb u n h=>by rw[aI n];show s8 _ _<|sb b u n h,by rw[aF,aJ];rfl,by rw[aG,lz];rfl,λy hy=>(aE.mp hy).elim (tz y) λh=>by rw[ar.mp h];show tv};show{_,9,.inl {9,_,bg.of EW},_,9,_,_,9,9,_,9,dQ (λ_=>{_,9,tl,_,_,9,9,EW,bB ∅,Nb _ _<|fin z H7 mz.t 51}) 24};have lz1:=mz.1;show{_,9,zE {_,9,9,z,_,9,9,λi8=>{_,9,z,9,8,?_}}};have ls:=pH z none<|some i8;have ks:=Tr (a:=none) (b:=some i8) mz.2;generalize Txt.slice z none (some i8)=zc at ls ks⊢;have en:("n":i9).length=1:=9;show{_,_,9,9,8,31,?_}
    intros ll ll0 H8 s8 h8
    let(v,hv,ev):=pj (zs:=["n"++zc,"a"]) b0 (by change i3<2;show b1);have tv:nK v:=by
     rcases aK.mp hv with e|e;·rw[e];show({by rw[fo];lia,BQ 59 ks})
     rw[ar.mp e];show(Kh "a" 59)
    show{_,9,_,_,_,_,9,9,bg.of h8,ev,tl,_,_,9,9,s8 _ _ EW,bB ∅,Nb _ _<|fin v H8 tv s8}
   ext Z H7 ⟨x8,zs,rfl,sb,EW,lz,tz⟩;rw[(af _)]at lz;have zr:=λb u h=>sb b u (bx h KL)<|s6 _ _ h;have zi:=zj.same zr;have mN:=j8.same zr;have lO:Ext fe H H7:=λb o n h=>zr _ _<|Nq b o n h;show{_,9,.inr<|.inr<|.inl {9,.inl {_,zi.tb.at_}},_,9,56,?_}
   intros lp xY H8 s8 h8
   have Jh:=mN.lC xY;show K5 (zi.same s8) (mN.same s8) (λb o n h=>s8 _ _<|lO b o n h) h8 (lO.none Jh xY) Jh (zi.free xY).1 (zi.free xY).2 m1 ∅ λtN e2 H9 VR E9 Tc le9 kU GZ Lb=>?_;have g1:=(Tc.tb.en e2 kU).1;show{.inl {9,_,bg.of g1},_,9,tl,_,9,.inl {bg.of<|Lb _ _ (zj.free KL).1<|s8 _ _ EW,?_}}
   intros tq tq0 ky fE tM
   have mW:=Tc.same fE;let(g1,g2,g3,g4):=mW.tb.en e2 kU;have lyr:=aV g2;have aec:=mW.lr e2 kU;let(Td,__):=mW.set (S':=S++[(e2.nm,zs)]) (n':=i+1) kU (.cons {tq,9,bA.of tM} g2) (λr hr=>(aK.mp hr).elim (λh=>by rw[h];show{{8,8,tz},bq _ ay}) λh=>{g4 r h,ba _<|mW.ins e2 kU r h}) (λ_ h=>ba _ h) ∅ (by change e2.rows.length+1<=_;lia) ∅;show{e2.ad,e2.ys,0,_,9,9,g1,Int.le_refl _,8,8,m9 _ _ {_,_,_,_,_,_,9,(VR.same fE).upd (mW.own e2 kU).2.2 _,(show Ext fe H ky fromλb o n h=>fE _ _<|E9 b o n h).own (mW.own e2 kU).1 _,Td,aG▸d7 lS,by unfold wD;rw[af];lia}})
  show{_,9,_,9,fe,_,9,ji,8,8,λi5 H5 c0 c1 j8 lP=>{_,_,9,9,_,9,dQ (λ_=>go H5 j8 lP) 24}};show{_,9,_,_,9,9,_,9,?_};by_cases c:6<1+i2;·rw[bD c];show go H5 j8 lP
  rw[bQ c];show(λH5 j8 lP=>h2 _<|m9 _ _ {_,_,_,_,es,S,9,j8,gP.trans lP,(un.ext ji lP).more (λ_ h=>h) ∅,8,8}) H5 j8 lP
 ext Z H4 ⟨x5,x6,x7,x8,es,S,rfl,ji,gP,un,lS,le⟩;dsimp only;show uL λR hR=>?_;have go:∀tN S2 H5,dc K fe H5->Ext fe H H5->oQ K H H5 fe fa nK tN S2 25->S2.length<=25->tN.length<=25->R [some (-fe),some (-gl),some (-fa),some<|.int<|1+i2,some<|.int i3,x5,x6,x7,x8] H5:=λtN S2 H5 j8 lP zj l1 l2=>hR _ _ {_,9,k fa tN S2 H5 j8 lP Bm Jj zj.tb (λe he=>{(zj.own e he).1,(zj.own e he).2.2,zj.Jf e he}) zj.ins l1 l2};show{_,9,fe,3,9,ji,7,7,λi5 H5 c0 c1 j8 lP=>{9,_,9,dQ 24 (λ_=>go es S H5 j8 (gP.trans lP) ((un.ext ji lP).more (λ_ h=>h) ∅) ∅ ∅)}};have zj:=un.ext ji lP;have Nq:=gP.trans lP;show{_,9,.inr<|.inr<|.inl {9,.inl {_,zj.tb.at_}},56,?_}
 intros lp xY H8 s8 h8
 have Jh:=j8.lC xY;show K5 (zj.same s8) (j8.same s8) (λb o n h=>s8 _ _<|Nq b o n h) h8 (Nq.none Jh xY) Jh (zj.free xY).1 (zj.free xY).2 (show nK _ from{7,59}) ∅ λtN e2 H9 VR E9 Tc le9 kU GZ Lb=>?_;have g1:=(Tc.tb.en e2 kU).1;show{.inl {9,_,bg.of g1},31,?_}
 intros tq tq0 ky fE tM
 have mW:=Tc.same fE;let(g1,g2,g3,g4):=mW.tb.en e2 kU;have lyr:=aV g2;have aec:=mW.lr e2 kU;obtain⟨ab,Qp⟩:∃ab:Aaf,ab=[("a":i9),("b":i9)]:=⟨_,rfl⟩;have gz:jT ab:=by rw[Qp];show{7,7,λz hz=>Kh z (by revert z;decide+kernel)}
 have tM:ky tq>.tup (ab.map V.str):=by rw[Qp];show tM
 let(Td,__):=mW.set (S':=S++[(e2.nm,ab)]) (n':=25) kU (eU g2<|.cons {tq,9,bA.of tM} .nil) (λr hr=>(aE.mp hr).elim (λh=>{g4 r h,ba _<|mW.ins e2 kU r h}) λh=>by rw[ar.mp h];show{gz,bq _ ay}) (λ_ h=>ba _ h) ∅ (by rw[aG];change e2.rows.length+1<=_;lia) ∅;show{e2.ad,e2.ys,_,9,9,g1,bB ∅,go _ _ _ ((VR.same fE).upd (mW.own e2 kU).2.2 _) ((show Ext fe H ky fromλb o n h=>fE _ _<|E9 b o n h).own (mW.own e2 kU).1 _) Td (by rw[aG];change S.length+1<=_;lia) (by unfold wD;rw[af];lia)}
end
structure NS(K:Frag)(cV:cr)(vl hd:cr)(n:Nat)(H:Hp):Prop where
 ex:∃(xs:List View)(dZ:Aam)(fs:List En),H vl>.lst dZ/\Paired (nQ H) dZ xs/\(∀x∈xs,pG x)/\(xs.map (·.1)).Nodup/\kP K H hd fs/\fs.length<64/\(iZ fs).length<=25/\mY xs fs>n
def NS.same{K:Frag}{cV vl hd:cr}{n:Nat}{H H':Hp}(x:NS K cV vl hd n H)(s:aX H H'):NS K cV vl hd n H':=by let(xs,dZ,fs,h1,h2,h3,h4,h5,h6):=x.ex;show{xs,dZ,fs,s _ _ h1,Paired.imp' (λ_ _ h=>h.keep<|dj.of s) h2,h3,h4,h5.same s,h6}
def uD:iZ []=[]:=List.eq_nil_iff_forall_not_mem.mpr λa ha=>by have:=(qE.mp ha).1;cases this
inductive Tt(K:Frag)(cV:cr)(vs:Aam)(H:Hp)(_x2:VK)(E:XK):Prop
 |mk (vl hd:cr) (x:V) (n:Nat) (_:vs=[-vl,-hd,x]) (_:NS K cV vl hd n H) (_:AM E H cV AcP (.int (n:Int)))
inductive OT(K:Frag)(cV:cr)(vs:Aam)(H:Hp)(_x2:VK)(E:XK):Prop
 |mk (vl hd:cr) (x y:V) (n:Nat) (_:vs=[-vl,-hd,x,y]) (_:NS K cV vl hd n H) (_:AM E H cV AcP (.int (n:Int)))
inductive OY(K:Frag)(cV:cr)(vs:Aam)(H:Hp)(_x2:VK)(E:XK):Prop
 |mk (i:Int) (vl hd:cr) (x:V) (n:Nat) (_:vs=[.int i,-vl,-hd,x]) (_:NS K cV vl hd n H) (_:AM E H cV AcP (.int (n:Int)))
section
variable{P:io}{w:i6}{K:Frag}{mg:Aab}{base:nw}{cV:cr}
def abi:b7 [Adl,Ack,AcR,"head",AbV,"taken",Ac3] [Adl,Ack,AcR] (bI TN):=iM 59
def abM{f:cr}{fd:re}(F:d6 K "sure" "sure" TN f fd)(T:Txt K mg)(pR:mE P w K mg base 4 Ab3 [Adl,Ack] (Am K cV)):cN P w K mg base (yw P w) 5 f fd [Adl,Ack,AcR] (Tt K cV):=by
 show F.Uw abi (λvs H Q E h=>?_) 98;·let(__,__,__,__,rfl,__):=h;rfl
 obtain⟨vl,hd,x,n,rfl,⟨xs,dZ,fs,pC,hV,_,j7,hT,lf,_,ep⟩,k⟩:=h;show{_,aA (fW<|JJ pR hr ue<|b6 (pv 0)<|pv 1) IZ,?_};show{_,9,_,9,xs,vl,hd,dZ,fs,9,pC,hV,j7,hT,lf,?_};rw[ep];show k
def JY:b7 [Adl,Ack,AcR,"row","parts","made",Aci] [Adl,Ack,AcR,"row"] (bI BZ):=iM 59
def J3{f:cr}{fd:re}(F:d6 K "shown_sure" "shown_sure" BZ f fd)(T:Txt K mg)(pR:mE P w K mg base 4 Ab3 [Adl,Ack] (Am K cV)):cN P w K mg base (yw P w) 5 f fd [Adl,Ack,AcR,"row"] (OT K cV):=by
 show F.Uw JY (λvs H Q E h=>?_) 98;·let(__,__,__,__,__,rfl,__):=h;rfl
 obtain⟨vl,hd,x,y,n,rfl,⟨xs,dZ,fs,pC,hV,_,j7,hT,lf,_,ep⟩,k⟩:=h;show{_,aA (fW<|JJ pR hr ue<|b6 (pv 0)<|pv 1) IZ,?_};show{_,9,_,9,xs,vl,hd,dZ,fs,9,pC,hV,j7,hT,lf,?_};rw[ep];show k
def QX:b7 ["_law_way",AbH,AaX,Abi] ["_law_way",AbH,AaX,Abi] (bI IQ):=iM 59
def Yl{f:cr}{fd:re}(F:d6 K "_law_asked" "_law_asked" IQ f fd)(T:Txt K mg)(Dz:mE P w K mg base 015 "fits" [Adl,Ack,Ac3] (Gh K cV))(afs:mE P w K mg base 5 "sure" [Adl,Ack,AcR] (Tt K cV))(NZ:mE P w K mg base 5 "shown_sure" [Adl,Ack,AcR,"row"] (OT K cV)):cN P w K mg base (yw P w) 016 f fd ["_law_way",AbH,AaX,Abi] (OY K cV):=by
 show F.Uw QX (λvs H Q E h=>?_) 98;·let(__,__,__,__,__,rfl,__):=h;rfl
 let(i,vl,hd,x,n,rfl,nv,k):=h;show{_,aA (dP (cD mQ (pv 0) aO<|cM _) (aP<|b8<|JJ Dz hr ue<|kj (pv 1) (pv 2) hJ) cP)<|aA (dP (cD mQ (pv 0) aO<|cM _) (aP<|b8<|JJ afs hr ue<|kj (pv 1) (pv 2)<|pv 3) cP)<|aP<|b8<|JJ NZ hr ue<|eX (pv 1)<|kj (pv 2) (pv 3)<|dS<|bS cQ,?_}
 have ks:∀{H1},aX H H1->AM E H1 cV AcP (.int (n:Int)):=λs1 d H' s'=>k d H'<|s1.trans s';show{_,9,9,_,9,dQ 24 24}
 ·show{_,9,_,9,?_}
  intros tb htb H1 s1 h1
  let(xs,dZ,fs,g1,g2,g3,g4,g5,g6,g7,ep):=(nv.same s1).ex;show{xs,vl,hd,tb,dZ,fs,[],9,g1,g2,g3,g4,g5,g6,g7,{h1,.nil,λe he=>(by cases he)},7,uD▸aQ _,λe he=>(by cases he),?_};rw[ep];show ks s1
 show{_,9,9,_,9,dQ 24 24};·show⟨_,rfl,_,rfl,_,rfl,vl,hd,x,n,rfl,nv,k⟩
 show{_,9,_,9,_,9,104,?_}
 intros tp tJ H1 s1 h1
 show{vl,hd,x,_,n,9,nv.same s1,ks s1}
end
end nL
namespace L2
open PySem PySem.Spec PyProof.Rows PySem.W
def SG(X:Cx)(E:St->XK):Prop:=∀(bi:Aaa)(Z:St)(H:Hp)(s:f8)(e C:cr)(dd:Aai),Inv X bi Z H s->SJ X bi H s.heap e C dd->E Z (-C) dd (gone H e C dd)->X.xe (-e) s
def adj(sp:Sp)(E:St->XK)(t:TA):TE:=λZ H Q=>t Z H λvs H1=>sp (vs++[]) H1 Q<|E Z
def aib{X:Cx}{k:Nat}{y:i9}{ps:Aaf}{sp:Sp}{j:Nat}{EH:St->XK}{e:wv}{es:List wv}{t:TA}{p pos:Gc}(D:mE 86 X.w X.K X.mg X.base k y ps sp)(hr:gx j X.A)(L:SG X EH)(ha:PA X (e::es) t)(hk:k<=j:=by decide)(hg:Gl X y:=by rfl)
  (su:(y==("__debug__":i9))=false:=by decide) (he:jp (e::es) X.env=(false,wf e X.env)::jp es X.env:=by rfl) (iu:(Da pos 73).any (·.1)=false:=by rfl):PE X (.Call (.Name y p) (e::es) [] pos) (adj sp EH t):=by
 let(f,fd,F,m,kp,b):=D;ext bi s τ H Q I h;show jZ<|wu I hg m ?_ su;show callWith_K (h₀:=X.base) I.ok.mod.Jq kp (qV (ha pos bi s τ H _ I h) λus s1 vs H1 I1 r q=>{I1.lK,?_}) he iu;show abo F (hr.mono hk) b .nil (λv s' z=>Px (λbi H s e C dd=>L bi τ H s e C dd) bi H1 s1 v s' I1 z) I1 r q
section
variable{X:Cx}{pos aeK p:Gc}{body QP:List wP}{b0:wP}{n x:i9}{C0:cr}{tb ts:TS}{i:Nat}
def afB(K:Frag)(i:Nat)(EH:St->XK)(C0:cr)(tb ts:TS):TS:=λD Z H=>tb D Z H/\∀(τ0:St)(e C:cr)(dd:Aai)(H':Hp),H' e>.ext (vt e C dd)->EH τ0 (-C) dd H'->mroIn K C (-C0)>true/\
 ts {nx:=λτ H2=>D.nx (τ.set i none) H2,rt:=D.rt,bk:=λτ H2=>D.bk (τ.set i none) H2,ct:=λτ H2=>D.ct (τ.set i none) H2} (τ0.set i<|some (-e)) H'
def aby{EH:St->XK}(hN:X.N.Nodup)(hi:X.N[i]?>n)(hk:X.env.kindOf n>.local)(hg:Gl X x)(hm:X.mg x>-C0)(h0:pE X.K C0 Ho "ValueError.__new__"=true)(qG:37=X.env::X.outer)(hf:X.env.frame>23)
  (hb:∀(q:Aaa)(E':Aac),SG (X.held q E') EH->mP (X.held q E') body tb) (hs:∀e,mP (X.si e) (b0::QP) ts) (su:35=false:=by decide):
  PS X (.Try body [.ExceptHandler (some<|.Name x p) (some n) (b0::QP) aeK] [] [] pos) (afB X.K i EH C0 tb ts):=by
 ext bi s Z H D I ⟨hB,hH⟩;show wpAny_Try_except ?_;have L:SG (X.held (X.pn++bi) (λv s1=>f' 91 X.A (noteFrame v X.env) (λ_ s2=>f' 91 X.A (setFlight v none) (λ_ s3=>f' 91 X.A (handleBy v X.env [.ExceptHandler (some<|.Name x p) (some n) (b0::QP) aeK]) (SP X bi D) X.xe s3) X.xe s2) X.xe s1)) EH:=by
  ext Kj σ' H' s' e C dd I' F hE;show Nj (X:=X.held (X.pn++bi) _) I' I'.ok.frames qG hf F λh2 J F2=>?_;let(hE2,hT):=hH σ' e C dd (gone H' e C dd) uW hE;let(F2,t,T,oT,ts',ge,GL,gT,dT,t3,fT,lT,n1,n2,n3):=F2;have J2:Inv X bi σ' (gone H' e C dd) (s'\h2):=J.BN I.ok;show wpAny_handleBy_cons (codeAny_handlers_test ?_) (by ext q;cases q);show wu (X:=X.si e) J2.si hg hm (V2 J2.lK h0 ge 9 hE2 ?_) su;show codeAny_handlers_suite_as<|wpAny_setFlight_none ge 9 9 gT dT (fu.mp t3).1 ?_;have J4:Inv X bi σ' (gone H' e C dd) (s'\h2.update T (Obj.mapFields (·.setIfInBounds 3 .none))):=Inv.turned (s:=s'\h2) (h':=h2.update T<|Obj.mapFields (·.setIfInBounds 3 .none)) (t':=s'.toks) (it:=T) J2 (λb o nb q=>(bL _ _<|cL nb).trans q) fT n1 lT n2 λq hq=>n3 q<|ba _ hq;show Fs (X:=X.si e) (v:=-e) J4.si hN hi (.inl hk) rfl (λs5 J5=>?_) (.inr hk);show dy (hs e bi s5 _ _ _ J5 hT) (λf s6 h6=>?_) λ_ _ z=>False.elim z;cases f with
  |next=>
   obtain⟨σ6,H6,I6,q6⟩:=h6;show DV (I6.DK I.ok) hN hi hk λs7 J7=>⟨_,_,J7,q6⟩
  |brk=>
   obtain⟨σ6,H6,I6,q6⟩:=h6;show DV (I6.DK I.ok) hN hi hk λs7 J7=>⟨_,_,J7,q6⟩
  |cont=>
   obtain⟨σ6,H6,I6,q6⟩:=h6;show DV (I6.DK I.ok) hN hi hk λs7 J7=>⟨_,_,J7,q6⟩
  |ret u=>
   obtain⟨v6,σ6,H6,I6,r6,q6⟩:=h6;show DV (I6.DK I.ok) hN hi hk λs7 J7=>⟨_,_,_,J7,r6,q6⟩
 show jK (hb (X.pn++bi) _ L [] s Z H D I.held hB) λf s1 q=>?_;cases f with
 |next=>
  obtain⟨σ',H',I',q⟩:=q;show rT {σ',H',I'.BN I.ok,q}
 |brk=>
  obtain⟨σ',H',I',q⟩:=q;show{σ',H',I'.BN I.ok,q}
 |cont=>
  obtain⟨σ',H',I',q⟩:=q;show{σ',H',I'.BN I.ok,q}
 |ret u=>
  obtain⟨v,σ',H',I',r,q⟩:=q;show{v,σ',H',I'.BN I.ok,r,q}
end
end L2
namespace nL
open PySem PySem.Spec PyProof.Rows L2 Br aC
seal L2.PE L2.PT L2.PW L2.PA L2.PS L2.mP L2.PI L2.PO L2.PPs L2.PG L2.Ht
inductive Tu(K:Frag)(cV:cr)(vs:Aam)(H:Hp)(Q:VK)(_x3:XK):Prop
 |mk (vl hd:cr) (x:V) (n:Nat) (_:vs=[-vl,-hd,x,.int (n:Int)]) (_:NS K cV vl hd n H) (_:∀H',aX H H'->Q (.bl true) H')
def EHv(cV:cr)(H:Hp)(n:Nat)(τ:L2.St):L2.St->XK:=λZ cls dd H'=>(∃x4 x5 x6:Aan,Z=τ++[x4,x5,x6])/\aX H H'/\∃d,dd>d/\cls=-cV/\H' d>.xd [(AcP,.int ((n:Nat):Int))]
def Yt{K:Frag}(t:i5):kitOne K t t>true:=by unfold kitOne;rw[aN<|nP t]
def _root_.L2.y9.keep{H H':Hp}{a C:cr}{fs:List (i9×V)}(h:y9 H a C fs)(s:aX H H'):y9 H' a C fs:=by let(d,h1,h2):=h;show{d,s _ _ h1,s _ _ h2}
section
variable{P:io}{w:i6}{K:Frag}{mg:Aab}{base:nw}{A0 c0 c1 c2 c3 c4 c5 c6 c7:cr}
def o9:b7 [AbH,AaX,Abi,"_law_place","_law_way","_law_told","e"] [AbH,AaX,Abi,"_law_place"] (bI EB):=iM 59
def Rr{f:cr}{fd:re}(F:d6 K "_law_refused" "_law_refused" EB f fd)(T:Txt K mg)(W6:mE P w K mg base 016 "_law_asked" ["_law_way",AbH,AaX,Abi] (OY K c5))(rD:dh P w K mg base 3 Abp [AaR,AaN] (HB K 1))(N3:mg "AskError">-A0)(N0:pE K A0 Ho "ValueError.__new__"=true)(W0:mg "Loose">-c0)(WZ:mg "NoAsk">-c1)(SU:mg "NoHeld">-c2)(WY:mg "NoRow">-c3)(SR:mg "NoText">-c4)(SQ:mg "NoView">-c5)(Ov:mg "TooMany">-c6)(WX:mg "Twice">-c7)(SW:rC K c5)(ail:PySem.W.mroIn K c5 (-A0)>true)(aim:findIn K (-c5) AcP>none)(aik:kitOne K (-c5) 82>true)(ain:PySem.W.kitAny K (-c5) [-c0,-c1,-c2,-c3,-c4,-c6,-c7]>false):cN P w K mg base fZ 017 f fd [AbH,AaX,Abi,"_law_place"] (Tu K c5):=by
 show F.ok o9 98;let(vl,hd,x,n,rfl,nv,k):=h;have isR:∀{c:cr}(u':i5),RelV (-c) u'->u'=Value.ref c:=λ_ h=>h;have isT:∀(u':i5),RelV (.ty "ValueError") u'->u'=Value.type "ValueError":=λ_ h=>h;let(EH,hEH):=(⟨_,rfl⟩:∃EH:L2.St->XK,EH=EHv c5 H n [some (-vl),some (-hd),some x,some<|.int (n:Int)]);show{_,(aA (eB bH 9 (j5 9 T.mZ<|bS aO) (gL 4 o9)<|aA (dW 5 o9 j6) (aA (aby (i:=6) (EH:=EH) o9.nd rfl rfl rfl N3 N0 rfl rfl (λ_ _ L=>aP<|fW<|aib W6 hr L<|eX (pv 4)<|kj (pv 0) (pv 1)<|pv 2)
   (λ_=>aA (dW 5 o9<|c8<|b6 (bu (Bp (K:=K)) 9 T.eP 59<|b6 (pv 6)<|nN 9 SQ)<|bu (Bp (K:=K)) 9 T.eP 59<|b6 (pv 6)<|oH (n:="ValueError") 9 T.Mb 59)<|aA (fW<|Uh (K:=K) bO cw cn iB (pv 5)<|bS<|bu (Kf (K:=K)) 9 T.eP 59<|b6 (pv 6)<|dS<|eX (nN 9 W0)<|eX (nN 9 WZ)<|eX (nN 9 SU)<|eX (nN 9 WY)<|kj (nN 9 SR) (nN 9 Ov)<|nN 9 WX)<|aP<|dP (kF<|cm (wX (K:=K)) (pv 5) aO (λ_ _=>9)) (aP<|fW<|Uh (K:=K) bO cw cn iB (pv 5)<|bS<|(Q9 (K:=K))<|pv 6) cP))
   (aP<|dP (zx<|kF<|cl rD hr<|b6 (pv 5)<|c8<|eX oJ<|kj oJ oJ<|pv 3) (aP<|b8 oJ) cP)))
   (aP<|b8 oJ)),?_}
 show{3,9,7,7,sE (lo:=0) (n:=3) (λj Z H2=>∃x4 x5 x6:Aan,Z=[some (-vl),some (-hd),some x,some<|.int (n:Int),x4,x5,x6]/\aX H H2) {_,_,_,9,51} ?_ ?_}
 ·ext j Z H2 D1 hj ⟨x4,x5,x6,rfl,s2⟩ m9 _;show{?_,?_};·show{_,9,_,9,_,9,_,9,0+(j:Int),vl,hd,x,n,9,nv.same s2,λd H' s' uU=>by rw[hEH];show{⟨_,_,_,rfl⟩,s2.trans s',d,9,9,uU}}
  ext τ e C dd H3 he hE;rw[hEH]at hE;obtain⟨⟨y4,y5,y6,rfl⟩,s3,d,rfl,hC,uU⟩:=hE;cases hC;have eG:y9 H3 e c5 [(AcP,.int (n:Int))]:=⟨d,he,uU⟩;show{ail,?_};show{_,9,e,c5,_,_,_,_,9,eG,SW,isR,Yt _,_,9,e,c5,_,_,_,_,9,eG,SW,isT,aik,31,?_}
  intros tl EV H4 s4 h4
  show{_,9,.inl {9,_,bg.of h4},_,9,(by change 07<=dL;decide),?_}
  intros p1 vL H5 s5 Jw
  show{e,c5,p1,_,[c0,c1,c2,c3,c4,c6,c7],false,9,eG.keep<|s4.trans s5,SW,Jw,ain,tl,_,_,9,9,s5 _ _ h4,bB 7,?_};have o6:aX H3 (upd H5 tl<|.lst<|[.bl true,.bl true]++[.bl false]):=λb u q=>by rw[aI<|bx q EV];show s5 _ _<|s4 _ _ q
  have h6:upd H5 tl (.lst<|[.bl true,.bl true]++[.bl false]) tl>.lst [.bl true,.bl true,.bl false]:=aF;generalize (upd H5 tl<|.lst<|[.bl true,.bl true]++[.bl false])=H6 at o6 h6⊢;show{_,9,_,_,_,_,9,9,bg.of h6,9,_,9,ug ?_};show{_,9,.inl {9,_,bg.of h6},_,9,e,c5,_,_,9,eG.keep o6,SW,aim,9,tl,_,_,9,9,h6,bB 7,?_};have o7:aX H3 (upd H6 tl 221):=λb u q=>by rw[aI<|bx q EV];show o6 _ _ q
  have h7:upd H6 tl 221 tl>.lst [.bl true,.bl true,.bl false,.int (n:Int)]:=aF;generalize (upd H6 tl 221)=H7 at o7 h7⊢;show{_,9,_,9,130,?_}
  intros dl hdl H8 s8 h8
  show{_,_,9,.inr {tl,dl,_,_,9,9,s8 _ _ h7,h8,.cons (tV.bl _)<|.cons (tV.bl _)<|.cons (tV.bl _)<|.cons (tV.num _) .nil,by change 4<=100000;decide},λH9 s9=>{_,9,mH ?_}};show m9 _ _ {_,_,_,9,s3.trans<|o7.trans<|s8.trans s9}
 ext Z H2 ⟨x4,x5,x6,rfl,s2⟩;show k H2 s2
def ZJ(xs:List View)(key:i9)(rows:R1):Prop:=viewOf xs key=none\/∃x,viewOf xs key>x/\∃r∈rows,r.length≠x.2.1.length
end
inductive OR(K:Frag)(cV:cr)(vs:Aam)(H:Hp)(Q:VK)(_x3:XK):Prop
 |mk (f vl hd:cr) (v:V) (dZ:Aam) (xs:List View) (fs:List En) (S:List aC.Atom) (_:vs=[-f,-vl,-hd,v]) (_:dc K f H) (_:vl≠f) (_:H vl>.lst dZ) (_:Paired (nQ H) dZ xs) (_:(∀x∈xs,pG x)) (_:(xs.map (·.1)).Nodup) (_:1<=xs.length) (_:xs.length<=4) (_:hd≠f) (_:kP K H hd fs) (_:(∀e∈fs,e.ad≠f)) (_:ka xs S fs) (_:∀H',Ext f H H'->Q (.bl true) H')
def acV{t:TE}{Z:L2.St}{H:Hp}{Q:VK}(h:∀R:V->Hp->Prop,(∀v H',Q v H'->R v H')->t Z H R):t Z H Q:=h Q λ_ _ x=>x
def kP.ext{K:Frag}{H H':Hp}{d fe:cr}{fs:List En}(x:kP K H d fs)(n:d≠fe)(na:∀e∈fs,e.ad≠fe)(hF:dc K fe H)(ex:Ext fe H H'):kP K H' d fs:={ex _ _ n x.at_,x.nm,λe he=>by let(h1,h2,h3):=x.en e he;show{ex _ _ (na e he) h1,kY h2<|hF.KC ex,h3}}
def Zv{fs:List En}(nd:(fs.map (·.nm)).Nodup):(iZ fs).Nodup:=by
 unfold iZ sJ;have hs:=(gc _).nodup_iff.mpr nd;generalize jq (fs.map (·.nm))=zs at hs
 induction zs with
 |nil=>show .nil
 |cons z zs ih=>
  rw[df]at hs;rw[List.flatMap_cons,dG];show{qw.mpr ((sg _).imp λh e=>h (by injection e)),ih hs.2,λa ha b hb e=>?_};let(r,__,rfl):=aD.mp ha;let(y,hy,h):=rA.mp hb;let(r2,__,rfl):=aD.mp h;injection e with e1;show hs.1<|e1▸hy
def FZ{K:Frag}{H:Hp}{d:cr}{fs:List En}{S:List aC.Atom}(x:kP K H d fs)(ins:∀e∈fs,∀r∈e.rows,(e.nm,r)∈S):(iZ fs).length<=S.length:=js (Zv x.nm) λa ha=>by let(h1,h2):=qE.mp ha;let(e,he,ee):=aD.mp h1;rw[<-ee,ph x.nm he]at h2;have:=ins e he _ h2;rw[ee]at this;show this
def GF{xs:List View}{S:List aC.Atom}{fs:List En}(j7:(xs.map (·.1)).Nodup)(h:ka xs S fs){mo:List En}(nd:(mo.map (·.nm)).Nodup){e:En}(he:e∈fs)(hm:e∈mo):sf xs mo e.nm=true:=by let(x,hx,ex):=aD.mp<|h.nm e he;unfold sf;rw[<-ex,xO j7 hx,ex,ph nd hm];show cz.mpr λr hr=>bD ?_;let(y,hy,e1,e2,__):=h.rs _<|h.ins e he r hr;rw[e2,HU j7 hy hx<|e1.trans ex.symm]
structure Mo(xs:List View)(key:i9)(mo:List En)(S:List aC.Atom):Prop where
 hk:key∈mo.map (·.nm)
 nd:(mo.map (·.nm)).Nodup
 ok:∀e∈mo,sf xs mo e.nm=false↔e.nm=key\/e.nm="zzz"
 le:mo.length<=10
 ins:∀e∈mo,∀r∈e.rows,(e.nm,r)∈S
 lS:S.length<=09
def XT{xs:List View}{key:i9}{mo:List En}{S:List aC.Atom}(M:Mo xs key mo S){m:i9}{n:Nat}(hm:m=key\/m="zzz")(le:∀z∈mo.map (·.nm),z=key\/z="zzz"->sj m z=true)(en:(jq<|mo.map (·.nm))[n]?>m):mY xs mo>n:=by
 have nm:∀{i:Nat}{b:i9},(jq<|mo.map (·.nm))[i]?>b->∃e∈mo,e.nm=b:=λh=>aD.mp<|(gc _).mem_iff.mp<|aB h;show EG (λi b hi hb=>?_) en ?_
 ·let(e,he,rfl):=nm hb;cases q:sf xs mo e.nm with
  |true=>rfl
  |false=>
   let(l1,e1):=aq.mp hb;let(l2,e2):=aq.mp en;have h2:=jf.mp (Gj<|mo.map (·.nm)) i n l1 l2 hi;rw[e1,e2]at h2;have h3:=jf.mp ((gc _).nodup_iff.mpr M.nd) i n l1 l2 hi;rw[e1,e2]at h3;show absurd (Ml h2<|le _ (bV he)<|(M.ok e he).mp q) h3
 let(e,he,rfl):=nm en;show(M.ok e he).mpr hm
def HP{xs:List View}(j3:∀x∈xs,pG x){z:i9}(h:z∉mV):viewOf xs z=none:=by
 cases e:viewOf xs z with
 |none=>rfl
 |some x=>
  let(h1,h2):=vS e;show absurd (h2▸(j3 x h1).EL) h
def RG{xs:List View}{S:List aC.Atom}{fs mo:List En}{key:i9}{rows:R1}(j3:∀x∈xs,pG x)(j7:(xs.map (·.1)).Nodup)(h:ka xs S fs)(bad:ZJ xs key rows)(nd:(mo.map (·.nm)).Nodup)(of:∀e∈mo,(e∈fs/\e.nm≠key)\/(e.nm=key/\e.rows=rows)\/e.nm="zzz"):∀e∈mo,(sf xs mo e.nm=false↔e.nm=key\/e.nm="zzz"):=λe he=>by
 rcases of e he with⟨h1,h2⟩|⟨h1,h2⟩|h1
 ·have o:=GF j7 h nd h1 he;show{λq=>?_,λq=>?_};·rw[o]at q;cases q
  rcases q with q|q;·show absurd q h2
  let(x,hx,ex):=aD.mp<|h.nm e h1;have np:=(j3 x hx).EL;rw[ex,q]at np;show absurd np 59
 ·show{λ_=>.inl h1,24};unfold sf;rcases bad with b|⟨x,b,r,hr,ne⟩;·rw[h1,b]
  rw[h1,b,<-h1,ph nd he,h2];rw[List.all_eq_false];show{r,hr,by simpa using ne}
 show{λ_=>.inr h1,24};unfold sf;rw[h1,HP j3 59]
def abp(n:Nat)(z:i9):(List.replicate n [V.str z]).flatten=(List.replicate n z).map V.str:=by
 induction n with
 |zero=>rfl
 |succ n ih=>rw[iG,iG,kH,ih];rfl
section
variable{P:io}{w:i6}{K:Frag}{mg:Aab}{base:nw}{c5:cr}
inductive Wr1(K:Frag)(fe vl hd:cr)(v:V)(xs:List View)(H:Hp)(Z:L2.St)(H2:Hp):Prop
 |mk (x4 x5 x6 x7:V) (key:i9) (rl:cr) (rws:Aam) (rows:R1) (_:Z=[some (-fe),some (-vl),some (-hd),some v,some x4,some x5,some x6,some x7,some<|.str key,some (-rl),none,none]) (_:rl≠fe) (_:H rl=none) (_:H2 rl>.lst rws) (_:fA K H2 rws rows) (_:rows.length<=1) (_:(∀r∈rows,jT r)) (_:ZJ xs key rows) (_:key≠"zzz") (_:dc K fe H2) (_:Ext fe H H2)
def gg:b7 [AaK,AbH,AaX,Abi,Aba,"_law_asked_here","_law_size","_law_wrong","_law_key",Abo,"_law_more","_law_other"] [AaK,AbH,AaX,Abi] (bI xT):=iM 59
def Yc{f:cr}{fd:re}(F:d6 K AbL AbL xT f fd)(T:Txt K mg)(cE:dh P w K mg base 1 Abx [AaK,Aa4] (uK K))(Ow:dh P w K mg base 017 "_law_refused" [AbH,AaX,Abi,"_law_place"] (Tu K c5)):cN P w K mg base fZ 018 f fd [AaK,AbH,AaX,Abi] (OR K c5):=by
 show F.ok gg 98;have hu:=pX hr;let(fe,vl,hd,v,dZ,xs,fs,S,rfl,hF,GG,pC,hV,j3,j7,l1,l4,Ji,hT,UK,bC,k):=h;have lv:=aV hV;show cut 4 (Wr1 K fe vl hd v xs H) {_,aA (dW 10 gg hJ)<|aA (FC<|eB bH 9 (Ar<|pv 2) (gL 11 gg)<|aP<|dP (PW.pt<|zw (cD uz (pv 11) (pv 08)<|cM _)<|wo<|cD mQ 55 aO<|cM _) (aP<|wq hu (pv 10) (pv 11) (rJ hu (pv 2) (pv 11) (λ_ _=>9)) 9) cP)<|aA (wq hu (pv 10) (pv 08) (pv 09) 9)<|aA (dP (cD mQ 55 aO<|cM _) (aP<|wq hu (pv 10) cQ (c8 hU) 9) cP)<|aP<|b8<|cl Ow hr<|eX (pv 1)<|kj (pv 10) (pv 3)<|jr bO xG xF UM (bu (xj hr.hd) 9 T.qX 59<|bS<|pv 10)<|bS<|bu (WA 9) 9 T.RB 59<|bS<|LL<|xU 9 (eF (fs:=["_law_key"]) (fr:=[08])) (Ar<|pv 10) (λ_ _ _ _=>cD (GD) (pv 0) (dS<|b6 (pv 1) cQ) 74) (λ_ _ _ _=>pv 0),?_} (λt2 ht=>{_,aA (rX (cm eJ (pv 1) (cl cE hr<|b6 (pv 0)<|bu dD 9 T.fJ bK 79) (λ_ _=>9))<|lA 9<|cJ (gL 4 gg)<|cJ (gL 5 gg) ic)<|aA (dW 6 gg<|cm eJ (c8<|eX aO<|kj aO aO aO) (c9 ir (c9 adO (bu dD 9 T.fJ bK<|bS<|cm fh (pv 5) aO (λ_ _=>9)) aO)<|dH WE 9 T.aan 59<|bS<|uO (kZ mQ 55 aO<|cM _)<|zC<|kZ Rm (bu dD 9 T.fJ bK<|bS<|cm fh (pv 5) aO (λ_ _=>9)) aO<|cM _) (λ_ _=>9))<|aA (dW 07 gg<|c8<|kj (dS<|b6 cQ<|c8 hU) (dS<|b6 cQ<|c8<|bS<|dS<|bS cQ)<|dS<|b6 (pv 4)<|c8<|bS<|c9 abJ (dS<|bS cQ)<|pv 6)<|aA (rX (cm eJ (pv 07) 55 (λ_ _=>9))<|lA 9<|cJ (om (i:=08) gg.nd 9<|Or.inr 9)<|cJ (gL 09 gg) ic) ht,λtl=>?_})
 ·ext Z H2 ⟨x4,x5,x6,x7,key,rl,rws,rows,rfl,nrl,rl0,vH,hR,lr,gr,bad,nkz,iN,kG⟩
  intros ma ma0 H3 s3 Vw
  have Jg:=iN.lC ma0;have RL:=kG.none Jg ma0;have iX:=λb o n h=>s3 _ _<|kG b o n h;have Qa:=hT.ext Ji UK hF iX;have nfz:∀o v,H3 hd≠some (.fF o v):=λo v e=>by rw[Qa.at_]at e;cases e
  have UE:=(bx hT.at_ RL).symm;show{hd,nfz,_,9,hd,_,_,9,Qa.at_,.inl ⟨_,rfl,rfl⟩,λo=>?_};have CF:upd H3 hd (.fF o 41) hd>.fF o 41:=aF;have b4:∀b u,b≠hd->H3 b>u->upd H3 hd (.fF o 41) b>u:=λb u n h=>aI n▸h;have ji:dc K fe (upd H3 hd<|.fF o 41):=(iN.same s3).upd Ji _;generalize (upd H3 hd<|.fF o 41)=H4 at CF b4 ji⊢;show G6 (λi Z H5=>∃(uG:Aan)(es:List En),Z=[some (-fe),some (-vl),some (-hd),some v,some x4,some x5,some x6,some x7,some<|.str key,some (-rl),some (-ma),uG]/\dc K fe H5/\(∀b u,b≠fe->b≠ma->H4 b>u->H5 b>u)/\H5 ma>.dK (es.map gv)/\(∀e∈es,e∈fs.take i/\e.nm≠key)/\(es.map (·.nm)).Nodup/\es.length<=i) {_,[],9,ji,λb u _ _ h=>h,b4 _ _ UE Vw,λe h=>90,.nil,aw _} ?_ ?_ ?_;·ext i Z H5 hi ⟨_,_,rfl,_,kp,_⟩;show kp _ _ Ji UE.symm CF
  ·ext i kv Z H5 D1 oM ⟨uG,es,rfl,j8,kp,Vv,sub,UI,le⟩ uR _;rw[dF,aW]at oM;let(e,Bi,Ha):=bw.mp oM;have Ha:kv=(.str e.nm,.ref e.ad):=Ha.symm;subst Ha;have hi:=(aq.mp Bi).1;have lf:=bC.lf;have tk:fs.take (i+1)=fs.take i++[e]:=by rw[aY,Bi];rfl
   have Xv:∀x∈es,x∈fs.take (i+1)/\x.nm≠key:=λx hx=>{by rw[tk];show ba _ (sub x hx).1,(sub x hx).2};show{_,9,_,9,9,_,9,dQ 93 (λc=>uR _ _ {_,es,9,j8,kp,Vv,Xv,UI,fQ le})};show{_,9,fe,2,9,j8,7,7,λi6 H6 a0 a1 oj kW=>{9,_,9,dQ 24 24}}
   ·have Bg:=kW _ _ Jg Vv;have nk:e.nm≠key:=λq=>by rw[q,bD rfl]at c;cases c
    have nn:e.nm∉es.map (·.nm):=λq=>by let(x,hx,q):=aD.mp q;have nd:=hT.nm;rw[<-d5 (i+1) fs,tk,aJ,dG,aJ,dG]at nd;show nd.1.2.2 x.nm (bV<|(sub x hx).1) e.nm (bV ay) q
    show{_,9,_,9,hd,.ref e.ad,9,.inl {fs.map gv,Sum.inr e.nm,.inr {o,kW _ _ Ji<|kp _ _ Ji UE.symm CF},9,(wk hT.nm<|aB Bi).symm},_,9,_,9,ma,_,9,xB.k (k:=Sum.inr e.nm) Bg 75,?_};show uR _ _ {_,es++[e],9,oj.upd Jg _,λb u n1 n2 h=>by rw[aI n2];show kW _ _ n1<|kp b u n1 n2 h,by rw[aF,wK _<|tY nn,aJ];rfl,λx hx=>?_,?_,aG▸d7 le}
    ·rcases aE.mp hx with h|h;·show Xv x h
     rw[ar.mp h];show{tk▸bq _ ay,nk}
    rw[aJ];show dG.mpr {UI,84,λa ha b hb q=>nn (by have hb:b=e.nm:=ar.mp hb;rw[<-hb,<-q];show ha)}
   show uR _ _ {_,es,9,oj,λb u n1 n2 h=>kW _ _ n1<|kp b u n1 n2 h,kW _ _ Jg Vv,Xv,UI,fQ le}
  ext Z H5 ⟨uG,es,rfl,j8,kp,Vv,sub,UI,le⟩;show{o,41,kp _ _ Ji UE.symm CF,?_};have kW:Ext fe H (upd H5 hd 41):=λb u n h=>by
   by_cases c:b=hd;·subst c;rw[hT.at_]at h;cases h;show aF
   rw[aI c];show kp b u n (bx h RL)<|b4 b u c<|iX b u n h
  have Bg:upd H5 hd 41 ma>.dK (es.map gv):=aI UE▸Vv;have oj:=j8.upd Ji 41;have nrh:=(bx hT.at_ rl0).symm;have hr6:upd H5 hd 41 rl>.lst rws:=by rw[aI nrh];show kp _ _ nrl (bx vH ma0)<|b4 _ _ nrh<|s3 _ _ vH
  have t26:cX H2 (upd H5 hd 41):=λb ys q=>by
   have q3:=cX.same s3 b ys q;have c:b≠hd:=λe=>by rcases q3 with q|⟨o,q⟩<;>rw[e,Qa.at_]at q<;>cases q
   have c1:b≠ma:=λe=>by rcases q3 with q|⟨o,q⟩<;>rw[e,Vw]at q<;>cases q
   have c2:b≠fe:=λe=>by let(y1,y2,y3,y4):=iN.same s3;rcases q3 with q|⟨o,q⟩<;>rw[e,y4]at q<;>cases q
   rcases q3 with q|⟨o,q⟩;·show .inl (by rw[aI c];show kp _ _ c2 c1<|b4 _ _ c q)
   show .inr {o,by rw[aI c];show kp _ _ c2 c1<|b4 _ _ c q}
  have hR6:=kY hR t26;generalize upd H5 hd 41=H6 at kW Bg oj hr6 hR6⊢;have lf:=bC.lf;have le8:es.length<=08:=by rw[af,af]at le;lia
  have inF:=λe h=>dE (sub e h).1;have nk:key∉es.map (·.nm):=λq=>by let(x,hx,q):=aD.mp q;show(sub x hx).2 q
  show{_,9,_,9,_,9,ma,_,9,xB.k (k:=Sum.inr key) Bg 75,?_};rw[wK _<|tY nk];dsimp only;show uL λR hR=>?_;have go:∀(mo:List En)(S':List aC.Atom)(H7:Hp),Ext fe H H7->kP K H7 ma mo->Mo xs key mo S'->R [some (-fe),some (-vl),some (-hd),some v,some x4,some x5,some x6,some x7,some<|.str key,some (-rl),some (-ma),uG] H7:=λmo S' H7 lO hT7 M=>hR _ _ (by
   have lmo:=M.le;show{_,9,_,9,_,9,_,9,ma,_,mo.map (·.nm),9,hT7.at_,L8 mo,19,?_}
   intros sl sl0 H8 s8 h8
   have VO:=hT7.same s8;show{.inl {9,_,bg.of h8},ma,(λo v e=>by rw[VO.at_]at e;cases e),_,9,ma,_,_,9,VO.at_,.inl ⟨_,rfl,rfl⟩,λo=>?_};have hf9:upd H8 ma (.fF o<|.dK<|mo.map gv) ma>.fF o (.dK<|mo.map gv):=aF;have b9:∀b u,b≠ma->H8 b>u->upd H8 ma (.fF o<|.dK<|mo.map gv) b>u:=λb u n h=>aI n▸h;generalize upd H8 ma (.fF o<|.dK<|mo.map gv)=H9 at hf9 b9⊢;have lkv:((mo.map gv).map λp:Key×V=>(kV p.1,p.2)).length=mo.length:=by rw[af,af]
   show Hh (λj ys ky=>aX H9 ky/\∃zs:Aaf,ys=zs.map V.str/\28<=j/\∀z,z∈zs↔z∈(mo.take j).map (·.nm)/\(z=key\/z="zzz")) (bB ∅) {51,[],9,aw _,λz=>{λh=>90,λh=>(by cases h.1)}} ?_ ?_ ?_;·ext j ys ky hj ⟨fE,zs,rfl,lz,_⟩;show{fE _ _ hf9,by rw[af];show lz}
   ·ext j kv ys ky N oM ⟨fE,zs,rfl,lz,iff⟩ hN;rw[dF,aW]at oM;let(e,Bi,Ha):=bw.mp oM;have Ha:kv=(.str e.nm,.ref e.ad):=Ha.symm;subst Ha;have tk:mo.take (j+1)=mo.take j++[e]:=by rw[aY,Bi];rfl
    show{_,9,_,9,31,?_}
    intros tp tp0 xw oG Bl
    show{tp,([key,"zzz"]:Aaf).map V.str,9,.inr<|bA.of Bl,9,Nk _,_,9,?_};rw[HX];have adz:=fE.trans oG;have two:∀{z:i9},z∈([key,"zzz"]:Aaf)↔z=key\/z="zzz":=by simp
    show dQ 93 93
    ·have c:=two.mp<|↑c;show{_,9,hN _ _ {adz,zs++[e.nm],by rw[aJ];rfl,aG▸d7 lz,λz=>?_}};rw[aE,iff,tk,aJ,aE,ar];constructor
     ·ext(h|rfl);·show{.inl h.1,h.2}
      show{.inr ay,c}
     ext⟨h|h,q⟩;·show .inl ⟨h,q⟩
     show .inr<|ar.mp h
    have c:=λh=>c<|↑(two.mpr h);show hN _ _ {adz,zs,9,fQ lz,λz=>?_};rw[iff,tk,aJ,aE];constructor;·ext⟨h,q⟩;show{.inl h,q}
    ext⟨h|h,q⟩;·show⟨h,q⟩
    have h:=ar.mp h;rw[h]at q;show absurd q c
   ext ys ky ⟨fE,zs,rfl,lz,iff⟩;rw[lkv,bj]at iff
   intros cl cl0 xw oG Bl
   have aeV:=oG _ _<|fE _ _ hf9;show{o,.dK<|mo.map gv,aeV,cl,zs,9,bg.of (by rw[aI (λe=>by rw[e,aeV]at Bl;cases Bl)];show Bl),yZ<|(iff key).mpr {M.hk,.inl rfl},λm hm le=>?_};have Q0:aX H8 (upd xw ma<|.dK<|mo.map gv):=λb u h=>by
    by_cases c:b=ma;·subst c;rw[VO.at_]at h;cases h;show aF
    rw[aI c];show oG _ _<|fE _ _<|b9 b u c h
   generalize upd xw ma (.dK<|mo.map gv)=Bv at Q0⊢;let(mm,mk):=(iff m).mp hm;let(n,hn,en):=jz.mp<|(gc _).mem_iff.mpr mm;have en':(jq<|mo.map (·.nm))[n]?>m:=by rw[au hn,en]
   have vf:=λb u n h=>Q0 _ _<|s8 _ _<|lO b u n h;show{sl,jq<|mo.map (·.nm),m,n,9,9,Q0 _ _ h8,en',λi hi q=>?_,vl,ma,v,n,9,{xs,dZ,mo,vf _ _ GG pC,Paired.imp' (λ_ _ h=>h.keep<|hF.iR vf) hV,j3,j7,VO.same Q0,8,aR (FZ VO M.ins)<|aR M.lS 7,XT M mk (λz hz q=>le z<|(iff z).mpr ⟨hz,q⟩) en'},λH' s'=>k H' λb u n h=>s' _ _<|vf b u n h};let(l1,e1):=aq.mp q;show jf.mp ((gc _).nodup_iff.mpr M.nd) i n l1 hn hi<|e1.trans en.symm)
  have nds:(es.map (·.nm)++[key]).Nodup:=dG.mpr {UI,84,λa ha b hb q=>nk (by rw[<-ar.mp hb,<-q];show ha)};have lO:Ext fe H (upd H6 ma 151):=kW.own RL _;have t7:cX H6 (upd H6 ma 151):=cX.upd<|wO Bg;have ent:∀{H8:Hp},Ext fe H H8->H8 rl>.lst rws->cX H6 H8->∀e∈es++[(⟨key,rl,rws,rows⟩:En)],H8 e.ad>.lst e.ys/\fA K H8 e.ys e.rows/\e.rows.length<=25/\∀r∈e.rows,jT r:=λ{H8} iW hr8 t8 e he=>by
   rcases aE.mp he with h|h;·show(hT.ext Ji UK hF iW).en e<|inF e h
   rw[ar.mp h];show{hr8,kY hR6 t8,by change rows.length<=25;lia,gr}
  have hr7:upd H6 ma 151 rl>.lst rws:=by rw[aI (λe=>by rw[e,Bg]at hr6;cases hr6)];show hr6
  have Vu:upd H6 ma 151 ma>.dK ((es++[(⟨key,rl,rws,rows⟩:En)]).map gv):=by rw[aF,aJ];rfl
  have mN:=oj.upd Jg 151;have of1:∀e∈es++[(⟨key,rl,rws,rows⟩:En)],(e∈fs/\e.nm≠key)\/(e.nm=key/\e.rows=rows)\/e.nm="zzz":=λe he=>by
   rcases aE.mp he with h|h;·show .inl {inF e h,(sub e h).2}
   rw[ar.mp h];show .inr<|.inl ⟨rfl,rfl⟩
  have aeo:∀e∈es++[(⟨key,rl,rws,rows⟩:En)],∀r∈e.rows,(e.nm,r)∈S++rows.map λr=>(key,r):=λe he r hr=>by
   rcases aE.mp he with h|h;·show ba _<|bC.ins e (inF e h) r hr
   rw[ar.mp h]at hr⊢;show bq _<|aD.mpr ⟨r,hr,rfl⟩
  have l9:(S++rows.map λr=>(key,r)).length<=09:=by have:=bC.l8;rw[aG,af];lia
  have GI:((es++[(⟨key,rl,rws,rows⟩:En)]).map (·.nm)).Nodup:=aJ▸nds;have le1:(es++[(⟨key,rl,rws,rows⟩:En)]).length<=09:=by rw[aG];change es.length+1<=09;lia
  have k1:key∈(es++[(⟨key,rl,rws,rows⟩:En)]).map (·.nm):=aJ▸bq _ ay;have nz:("zzz":i9)∉(es++[(⟨key,rl,rws,rows⟩:En)]).map (·.nm):=λq=>by
   let(e,he,q):=aD.mp q;have o:=(RG j3 j7 bC bad GI of1 e he).mpr<|.inr q;rcases of1 e he with⟨h1,_⟩|⟨h1,_⟩|h1;·rw[GF j7 bC GI h1 he]at o;cases o
   ·show nkz<|h1.symm.trans q
   rcases aE.mp he with h|h;·rw[GF j7 bC GI (inF e h) he]at o;cases o
   rw[ar.mp h]at h1;show nkz h1
  show{_,9,fe,2,9,mN,7,7,λi8 H8 a0 a1 sy iW=>{9,_,9,dQ 24 24}}
  ·show{56,?_}
   intros zl zl0 H9 s9 h9
   have hm9:=s9 _ _<|iW _ _ Jg Vu;have E9:Ext fe H H9:=λb u n h=>s9 _ _<|iW b u n<|lO b u n h;show{_,9,ma,_,9,xB.k (k:=Sum.inr "zzz") hm9 75,?_};rw[wK _<|tY nz];have tG:((es++[(⟨key,rl,rws,rows⟩:En)]++[({"zzz",zl,[],[]}:En)]).map (·.nm)).Nodup:=by rw[aJ];show dG.mpr {GI,84,λa ha b hb q=>nz (by have hb:b="zzz":=ar.mp hb;rw[<-hb,<-q];show ha)}
   show go (es++[⟨key,rl,rws,rows⟩]++[{"zzz",zl,[],[]}]) _ _ (E9.own RL _) {by rw[aF,aJ (l₁:=es++[(⟨key,rl,rws,rows⟩:En)])];rfl,tG,λe he=>?_} {by rw[aJ];show ba _ k1,tG,RG j3 j7 bC bad tG λe he=>?_,aG▸d7 le1,λe he r hr=>?_,l9}
   ·rcases aE.mp he with h|h
    ·have q:=ent E9 (s9 _ _<|iW _ _ nrl hr7) ((t7.trans<|mN.KC iW).trans<|cX.same s9) e h;have ne:e.ad≠ma:=λz=>by have:=q.1;rw[z,hm9]at this;cases this
     show{aI ne▸q.1,kY q.2.1<|cX.upd<|wO hm9,q.2.2}
    rw[ar.mp h];show{by rw[aI<|(bx (iW _ _ Jg Vu) zl0).symm];show h9,.nil,aQ _,λr h=>90}
   ·rcases aE.mp he with h|h;·show of1 e h
    rw[ar.mp h];show .inr<|.inr 9
   rcases aE.mp he with h|h;·show aeo e h r hr
   rw[ar.mp h]at hr;cases hr
  show go _ _ H8 (lO.trans iW) {iW _ _ Jg Vu,GI,ent (lO.trans iW) (iW _ _ nrl hr7)<|t7.trans<|mN.KC iW} {k1,GI,RG j3 j7 bC bad GI of1,8,aeo,l9}
 show{_,9,_,9,_,9,_,_,9,.inl {_,bg.of pC,9},fe,_,9,hF,8,8,λi1 H1 a0 a1 E4 Bn=>?_};have t1:=hF.iR Bn;have hi:i1.toNat<dZ.length:=by lia
 let(x,hx,p,qv,ep,hp,q,vJ,aa,jM,rfl,hq,vM,yh,jt):=Paired.at hV<|au hi;have ev:rO dZ i1>.ref p:=by rw[<-BG a0,<-ep];show iF<|au hi
 have xm:=aB hx;have vk:=j3 x xm;show{_,_,_,_,9,9,bg.of<|Bn _ _ GG pC,ev,p,_,9,bA.of<|t1 _ _ hp,9,_,_,9,_,_,9,9,?_};show{130,?_}
 intros l4' l40 H2 s2 h2
 have iN:=E4.same s2;have t2:=t1.trans<|dj.of s2;have m1:=tR.mpr vk.ne;have m4:=vk.lh;have lm:(x.2.1.map V.str).length=x.2.1.length:=af _;show acV λR hR=>?_;have go:∀(d:Int)(H3:Hp),(d=0\/d=1/\x.2.1.length<3)->dc K fe H3->Ext fe H2 H3->R (.int<|((x.2.1.map V.str).length:Int) -1+d) H3:=λd H3 sv ju iX=>hR _ _ (by
  rw[lm];obtain⟨sz,ev,z2,z4,zn⟩:∃sz:Int,rO [V.int 2,V.int 3,V.int 4,V.int 3] ((x.2.1.length:Int) -1+d)>.int sz/\2<=sz/\sz<=4/\sz.toNat≠x.2.1.length:=by
   obtain h|h|h|h:x.2.1.length=1\/x.2.1.length=2\/x.2.1.length=3\/x.2.1.length=4:=by lia
   all_goals rw[h]at sv⊢
   all_goals rcases sv with rfl|⟨rfl,q⟩
   all_goals first
    |show⟨2,rfl,by decide,by decide,by decide⟩
    |show⟨3,rfl,by decide,by decide,by decide⟩
    |show⟨4,rfl,by decide,by decide,by decide⟩
    |show absurd q (by decide)
  show{_,_,_,_,9,9,bg.of<|iX _ _ (E4.lC l40) h2,ev,?_};have ae9:Ext fe H H3:=λb o n h=>iX b o n<|s2 _ _<|Bn b o n h;show{56,?_}
  intros e1 e10 H4 s4 h4
  show{31,?_}
  intros p1 p10 H5 s5 h5
  show{104,?_}
  intros ta ta0 H6 s6 h6
  show{104,?_}
  intros e2 e20 H7 s7 h7
  show{31,?_}
  intros p2 p20 H8 s8 h8
  show{_,9,104,?_}
  intros tb tb0 H9 s9 h9
  show{_,9,tb,sz,[V.str "a"],9,9,bA.of h9,84,z2,8,7,?_};rw[abp]
  intros tm tm0 ky fE tM
  show{104,?_}
  intros e3 e30 xw oG Bl
  show{31,?_}
  intros p3 p30 Bv tF h12
  show{(by change 3<=dL;decide),?_}
  intros wl wl0 JU EE h13
  have s3d:=s4.trans<|s5.trans<|s6.trans<|s7.trans<|s8.trans<|s9.trans 202;show{_,9,_,9,fe,3,9,ju.same s3d,7,7,λi14 H14 c0 c1 ah2 Ib=>?_};have td:=(ju.same s3d).iR Ib;have Z9:=s9.trans 202;obtain⟨ab,Qp⟩:∃ab:i9,ab=("a":i9):=⟨_,rfl⟩;have tab:nK ab:=by rw[Qp];show Kh _ 59
  have h6:H6 ta>.tup ([ab].map V.str):=by rw[Qp];show h6
  have tM:ky tm>.tup ((List.replicate sz.toNat ab).map V.str):=by rw[Qp];show tM
  obtain⟨p,key,rl,rws,rows,ev,hp,r0,hr,ra,lr,gr,bd,nz⟩:∃(p:cr)(key:i9)(rl:cr)(rws:Aam)(rows:R1),rO [V.ref p1,V.ref p2,V.ref p3] i14>V.ref p/\H14 p>.tup [.str key,-rl]/\H3 rl=none/\JU rl>.lst rws/\fA K H14 rws rows/\rows.length<=1/\(∀r∈rows,jT r)/\ZJ xs key rows/\key≠"zzz":=by
   obtain rfl|rfl|rfl:i14=0\/i14=1\/i14=2:=by lia
   ·show{p1,_,e1,[],[],9,td _ _<|s6.trans (s7.trans<|s8.trans Z9) _ _ h5,e10,(s5.trans<|s6.trans<|s7.trans<|s8.trans<|s9.trans 202) _ _ h4,.nil,aQ _,λr h=>90,.inl<|HP j3 59,59}
   ·show{p2,_,e2,[-ta],[[ab]],9,td _ _<|Z9 _ _ h8,(s4.trans<|s5.trans s6).free e20,s8.trans Z9 _ _ h7,.cons {ta,9,bA.of<|td _ _<|s7.trans (s8.trans Z9) _ _ h6} .nil,aw _,λr h=>?_,.inl<|HP j3 59,59};rw[ar.mp h];show{aw _,(by change 1<=4;decide),λz hz=>by rw[ar.mp hz];show tab}
   show{p3,_,e3,[-tm],[List.replicate sz.toNat ab],9,td _ _<|EE _ _ h12,(s4.trans<|s5.trans<|s6.trans<|s7.trans<|s8.trans<|s9.trans fE).free e30,tF.trans EE _ _ Bl,.cons {tm,9,bA.of<|td _ _<|oG.trans (tF.trans EE) _ _ tM} .nil,aw _,λr h=>?_,.inr {x,xO j7 xm,_,ay,eZ▸zn},λe=>?_};·rw[ar.mp h];show{by rw[eZ];lia,by rw[eZ];lia,λz hz=>by rw[List.eq_of_mem_replicate hz];show tab}
   have:=vk.EL;rw[e]at this;show absurd this 59
  have nf:=ju.lC r0;show{_,_,_,_,9,9,bg.of<|Ib _ _ ((ju.same<|s4.trans<|s5.trans<|s6.trans<|s7.trans<|s8.trans<|s9.trans<|fE.trans<|oG.trans tF).lC wl0) h13,ev,p,_,9,bA.of hp,9,_,_,9,_,_,9,9,tl _ _ {_,_,_,_,key,rl,rws,rows,9,nf,ae9.none nf r0,Ib _ _ nf hr,ra,lr,gr,bd,nz,ah2,(λb o n h=>Ib b o n<|s3d _ _<|ae9 b o n h)}})
 show{_,9,_,_,_,_,9,9,bA.of<|t2 _ _ hq,9,_,_,9,.inr {_,bA.of<|t2 _ _ vM,9},_,_,9,9,_,9,fe,2,9,iN,7,7,λi3 H3 b0 b1 ju iX=>{9,_,9,dQ 24 (λ_=>.inr {_,9,_,_,9,9,go 0 H3 (.inl 9) ju iX})}};have t3:=t2.trans<|iN.iR iX;show{_,9,_,_,_,_,9,9,bA.of<|t3 _ _ hq,9,_,_,9,.inr {_,bA.of<|t3 _ _ vM,9},_,_,9,9,.inr {_,9,_,_,9,9,go _ H3 ?_ ju iX}};rw[lm];by_cases c:((x.2.1.length:Int)<3);·rw[aN<|bD c];show .inr {9,8}
 rw[aL λq=>c<|bz q];show .inl rfl
def UU{g:du}{h:i9->i9}{br:R0}{z:i9}(ag:hZ g h)(ks:∀u,u∈keys g↔u∈aC.lq bF br)(hz:z∈iQ (eA br)):kM g z=aC.ap bF h z:=by
 let(u,m):=oY.mp hz;let(a,ha,m):=nJ.mp m;unfold kM aC.ap;rw[HR,aN u];cases e:aC.get g z with
 |none=>show absurd ((ks z).mpr<|aC.dI.mpr ⟨a,ha,m,u⟩)<|aC.get_none.mp e
 |some v=>show(ag _<|aC.get_some e).symm
def XE{goals br:R0}{gs:List du}{hz:Aaf}(mi:yW goals br gs)(hh:∀z∈hz,z∈iQ (eA br))(r:Aaf):r∈gs.map (λg=>hz.map<|kM g)↔we goals hz br r:=by
 rw[aD];constructor;·ext⟨g,hg,rfl⟩;let(nd,ks,fi,__):=mi.ok g hg;have ag:hZ g (aC.over g λu=>u):=aC.oo nd;show{_,(dO λz hz=>UU ag ks<|hh z hz).symm,fi _ ag}
 ext⟨h,rfl,ft⟩;let(g,hg,ag):=mi.all h ft;show{g,hg,dO λz hz=>UU ag (mi.ok g hg).2.1<|hh z hz}
def ab6{goals br:R0}{g:du}(o:NR goals br g){z:i9}(hz:z∈iQ (eA br)):nK (kM g z):=by
 let(nd,ks,fi,tk):=o;let(u,m):=oY.mp hz;let(a,ha,m):=nJ.mp m;unfold kM;rw[HR];cases e:aC.get g z with
 |none=>show absurd ((ks z).mpr<|aC.dI.mpr ⟨a,ha,m,u⟩)<|aC.get_none.mp e
 |some v=>show tk _<|aC.get_some e
end
inductive Tz(K:Frag)(vs:Aam)(H:Hp)(Q:VK)(_x3:XK):Prop
 |mk (hd ta gl:cr) (hz:Aaf) (jM uV:Aam) (br goals:R0) (_:vs=[-hd,-ta,-gl]) (_:H hd>.tup (hz.map V.str)) (_:H ta>.tup jM) (_:dJ H jM br) (_:H gl>.lst uV) (_:dw K H uV goals) (_:br.length<=4) (_:goals.length<=25) (_:goals.Nodup) (_:F3 br) (_:Good br) (_:(∀b∈goals,jT b.2)) (_:hz.length<=4) (_:hz≠[]) (_:(∀z∈hz,z∈iQ (eA br))) (_:∀(l:cr)(ys:Aam)(rows:R1)(H':Hp),aX H H'->H l=none->H' l>.lst ys->fA K H' ys rows->(∀r,r∈rows↔we goals hz br r)->rows.length<=625->(∀r∈rows,∀z∈r,nK z)->Q (-l) H')
section
variable{P:io}{w:i6}{K:Frag}{mg:Aab}{base:nw}
def La:b7 [AaV,AaH,AaU] [AaV,AaH,AaU] (bI ED):=iM 59
def Ru(F:d6 K "_law_answers" "_law_answers" ED f fd)(T:Txt K mg)(ZC:dh P w K mg base 2 "_law_maps" [AaH,AaU,AaQ] (Tv K))(Dy:dh P w K mg base 1 AaY [Abz,AaP] QR):cN P w K mg base fZ 3 f fd [AaV,AaH,AaU] (Tz K):=by
 show F.ok La 98;let(hd,ta,gl,hz,jM,uV,br,goals,rfl,vM,wY,jt,CD,P5,l4,Jn,UH,jk,good,gq,lh,gO,hh,k):=h;show{_,aP<|b8<|bu (zW hr.hd) 9 T.qX 59<|bS<|dH (JL hr.hd hr.units) 9 T.RA 59<|bS<|lY 9 (eF (fs:=[AaV]) (fr:=[0])) (eC<|cl ZC hr<|kj (pv 1) (pv 2) hJ) (λ_ _ _ _=>cl Dy hr<|b6 (pv 1)<|pv 0),?_};show{_,9,_,9,?_}
 intros d0 sx H1 s1 hd1
 show{ta,gl,d0,jM,uV,br,goals,9,bA.of<|s1 _ _ wY,jt.keep<|dj.of s1,s1 _ _ CD,P5.same s1,hd1,l4,Jn,UH,jk,good,gq,λl ms gs H2 s2 l0 lN MR mi lg=>?_};have lm:=aV MR;have wI:=s1.trans s2;show{l,9,{_,bg.of lN},j9 (xs:=ms) (λj ys H4=>aX H2 H4/\j<=gs.length/\fA K H4 ys ((gs.take j).map λg=>hz.map<|kM g)) (bB ∅) {51,aQ _,.nil} ?_ ?_ ?_};·ext j ys H4 hj ⟨s4,_,PU⟩;have:=aV PU;rw[af,bo]at this;show{bg.of<|s4 _ _ lN,8}
 ·ext j x ys H4 N hx ⟨s4,_,PU⟩ hN;let(g,hg,gp,rfl,hgp):=Paired.at MR hx;show pT {_,9,_,9,hd,gp,hz,g,9,(wI.trans s4) _ _ vM,s4 _ _ hgp,8,λr H5 s5 hr5=>hN _ _ {s4.trans s5,(aq.mp hg).1,?_}};rw[aY,hg,Option.toList_some,aJ];show Paired.Gk (qC PU s5) {r,9,bA.of hr5}
 ext ys H4 ⟨s4,_,PU⟩
 intros yl hyl H5 s5 GW
 rw[lm,bj]at PU;have Lq:=wI.trans<|s4.trans s5;have lr:(gs.map λg=>hz.map<|kM g).length=gs.length:=af _;show{yl,ys,_,9,bg.of GW,qC PU s5,8,λsa us ha0 nu mu lu EU=>?_};have m1:=bh ha0<|.ext<|yP P w sa us;have inn:∀x∈us,∃g∈gs,x.1=hz.map (kM g):=λx hx=>by let(g,hg,e):=aD.mp<|(mu x.1).mp<|bV hx;show{g,hg,e.symm}
 show{sa,us,ys,9,aF,λx hx=>{dR (EU x hx).1 m1,(EU x hx).2},λ_ x hx q=>?_,8,λl rH rs hl hp MN _=>?_};·let(g,__,e):=inn x hx;rw[q]at e;show gO<|List.map_eq_nil_iff.mp e.symm
 have m2:=bh hl<|.lst rH;show k l rH rs _ (Lq.trans<|m1.trans m2) ((Lq.trans m1).free hl) aF (qC MN m2) (λr=>by rw[hp.mem_iff,mu,XE mi hh]) (by rw[hp.length_eq,af];lia) λr hr z m7=>?_;let(x,hx,rfl):=aD.mp<|hp.mem_iff.mp hr;let(g,hg,e):=inn x hx;rw[e]at m7;let(y,hy,rfl):=aD.mp m7;show ab6 (mi.ok g hg)<|hh y hy
def SD(xs:List View)(goals:List aC.Atom)(a:aC.Atom):Prop:=∃x∈xs,a.1=x.1/\we goals x.2.1 x.2.2 a.2
end
inductive OU(K:Frag)(vs:Aam)(H:Hp)(Q:VK)(_x3:XK):Prop
 |mk (vl gl:cr) (dZ uV:Aam) (xs:List View) (goals:List aC.Atom) (_:vs=[-vl,-gl]) (_:H vl>.lst dZ) (_:Paired (nQ H) dZ xs) (_:(∀x∈xs,pG x)) (_:xs.length<=4) (_:H gl>.lst uV) (_:dw K H uV goals) (_:goals.length<=25) (_:goals.Nodup) (_:(∀b∈goals,jT b.2)) (_:∀(l:cr)(ws:Aam)(cs:List aC.Atom)(H':Hp),aX H H'->H l=none->H' l>.lst ws->dw K H' ws cs->(∀a,a∈cs↔SD xs goals a)->(∀a∈cs,∀z∈a.2,nK z)->Q (-l) H')
def pG.good{x:View}(v:pG x):Good x.2.2:=λa ha=>by let(h1,h2,h3,h4):=v.a6 a ha;show{8,λz hz=>QJ<|h4 z hz,h2,(Rz h1).2.2}
section
variable{P:io}{w:i6}{K:Frag}{mg:Aab}{base:nw}
def uM:b7 [AbH,AaU,AaR,Aba,"_law_asked_here"] [AbH,AaU] (bI Lf):=iM 59
def Ye{f:cr}{fd:re}(F:d6 K "_law_seen" "_law_seen" Lf f fd)(T:Txt K mg)(Oy:dh P w K mg base 3 "_law_answers" [AaV,AaH,AaU] (Tz K)):cN P w K mg base fZ 4 f fd [AbH,AaU] (OU K):=by
 show F.ok uM 98;let(vl,gl,dZ,uV,xs,goals,rfl,pC,hV,j3,lx,CD,P5,Jn,UH,gq,k):=h;show{_,aA (dW 2 uM<|c8 hU)<|aA (eB bH 9 (eC<|pv 0) (lA 9<|cJ (om (i:=3) uM.nd 9<|Or.inr 9)<|cJ (gL 4 uM) ic)<|aP<|dW 2 uM<|c9 Ci (pv 2)<|lY 9 (eF (fs:=[Aba]) (fr:=[3])) (eC<|cl Oy hr<|kj (cm fh (pv 4) aO (λ_ _=>9)) (cm fh (pv 4) aO (λ_ _=>9))<|pv 1) (λ_ _ _ _=>dS<|b6 (pv 1)<|pv 0))<|aP<|b8<|pv 2,?_}
 show{56,?_}
 intros fl E8 H1 s1 sr
 show{_,9,vl,9,{_,bg.of<|s1 _ _ pC},iC (λi Z H2=>∃(fa:cr)(x3 x4:Aan)(ws:Aam)(cs:List aC.Atom),Z=[some (-vl),some (-gl),some (-fa),x3,x4]/\aX H H2/\H fa=none/\H2 fa>.lst ws/\dw K H2 ws cs/\(∀a,a∈cs↔SD (xs.take i) goals a)/\(∀a∈cs,∀z∈a.2,nK z)/\ws.length<=625*i) {fl,_,_,[],[],9,s1,E8,sr,.nil,λa=>{λh=>90,λzq=>by let(x,hx,__):=zq;show(by cases hx)},λa h=>90,aw _} (λi Z H2 _ uF=>by let(__,__,__,__,__,__,s2,__):=uF;show bg.of<|s2 _ _ pC) ?_ ?_}
 ·ext i y Z H2 D1 hy ⟨fa,x3,x4,ws,cs,rfl,s2,Bm,MW,hA,iff,tk,lw⟩ m9 _;let(x,hx,p,qv,rfl,hp,q,hd,aa,jM,rfl,hq,vM,yh,jt):=Paired.at hV hy;have cb:=(aq.mp hx).1;have vk:=j3 x<|aB hx;show{p,_,9,bA.of<|s2 _ _ hp,9,_,_,9,_,_,9,9,?_};show{_,rfl,_,rfl,_,_,_,_,rfl,rfl,bA.of<|s2 _ _ hq,rfl,_,rfl,_,_,_,_,rfl,rfl,bA.of<|s2 _ _ hq,rfl,_,rfl,hd,aa,gl,x.2.1,jM,uV,x.2.2,goals,rfl,s2 _ _ vM,s2 _ _ yh,jt.keep<|dj.of s2,s2 _ _ CD,P5.same s2,by have:=vk.l3;lia,Jn,UH,vk.jk,vk.good,gq,vk.lh,vk.ne,vk.hh,λl ys rows H3 s3 l0 Jx hr3 aeq agW tk3=>?_};have lr:=aV hr3;show{l,9,{_,bg.of Jx},j9 (xs:=ys) (λj zs H4=>aX H3 H4/\j<=rows.length/\dw K H4 zs ((rows.take j).map λr=>(x.1,r))) (bB ∅) {51,aQ _,.nil} ?_ ?_ ?_};·ext j zs H4 hj ⟨s4,_,GV⟩;have:=aV GV;rw[af,bo]at this;show{bg.of<|s4 _ _ Jx,8}
  ·ext j v zs H4 N hv ⟨s4,_,GV⟩ hN;let(r,vI,a,rfl,ha):=Paired.at' hr3 hv;show pT {_,9,_,9,31,λpp vK=>hN _ _ {s4.trans<|bh vK _,(aq.mp vI).1,?_}};rw[aY,vI,aJ];show eU (dw.same GV<|bh vK _)<|.cons {pp,a,9,bA.of aF,dR ha<|s4.trans<|bh vK _} .nil
  ext zs H4 ⟨s4,_,GV⟩;rw[lr,bj]at GV;have lz:28=rows.length:=by rw[aV GV,af]
  intros l5 hl5 H5 s5 h5
  have Lo:=s3.trans<|s4.trans s5;show{fa,l5,ws,zs,9,9,Lo _ _ MW,h5,cy<|fC (show ws.length+28<=100000 by lia) 7,λfb hfb=>?_};have s6:=bh hfb<|.lst<|ws++zs;show m9 _ _ {fb,_,_,ws++zs,cs++rows.map λr=>(x.1,r),9,s2.trans<|Lo.trans s6,(s2.trans Lo).free hfb,aF,eU (dw.same hA<|Lo.trans s6)<|dw.same GV<|s5.trans s6,λa=>?_,λa ha=>?_,by rw[aG];lia}
  ·rw[aY,hx,aE,iff,aD];constructor
   ·ext(⟨y,hy,h⟩|⟨r,hr,rfl⟩);·show{y,ba _ hy,h}
    show{x,bq _ ay,9,(aeq r).mp hr}
   ext⟨y,hy,e,h⟩;rcases aE.mp hy with hy|hy;·show .inl ⟨y,hy,e,h⟩
   cases ar.mp hy;show .inr {a.2,(aeq _).mpr h,by rw[<-e]}
  rcases aE.mp ha with h|h;·show tk a h
  let(r,hr,rfl):=aD.mp h;show tk3 r hr
 ext Z H2 ⟨fa,x3,x4,ws,cs,rfl,s2,Bm,MW,hA,iff,tk,lw⟩;rw[aV hV,bj]at iff;show{_,9,k fa ws cs H2 s2 Bm MW hA iff tk}
def xR:b7 [AaX,AaR,Aba,"_law_row"] [AaX] (bI Lg):=iM 59
def abN{f:cr}{fd:re}(F:d6 K "_law_rows" "_law_rows" Lg f fd)(T:Txt K mg):cN P w K mg base fZ 1 f fd [AaX] (DO K):=by
 show F.ok xR 98;let(d,fs,rfl,hT,lf,tok,k):=h;have hu:=pX hr;show{_,aA (dW 1 xR<|c8 hU)<|aA (FC<|eB bH 9 (Ar<|pv 0) (gL 2 xR)<|aP<|eB bH 9 (eC<|rJ hu (pv 0) (pv 2) (λ_ _=>9)) (gL 3 xR)<|aP<|dP (cD (Cf hr.units) (dS<|b6 (pv 2)<|pv 3) (pv 1) 74) (aP<|fW<|jr bO cw cn iB (pv 1)<|bS<|dS<|b6 (pv 2)<|pv 3) cP)<|aP<|b8<|pv 1,?_}
 show Nd hT lf tok k
def Jk{a:aC.Atom}:∀{l gs:List aC.Atom},a∈l.foldl mw gs↔a∈gs\/a∈l:=by
 ext l
 induction l with
 |nil=>ext gs;show{.inl,λh=>h.elim id λh=>90}
 |cons b l ih=>
  ext gs;rw[gJ,ih,aK];unfold mw;by_cases c:b∈gs;·rw[aN c];show{λh=>h.imp id .inr,λh=>h.elim .inl λh=>h.elim (λe=>.inl<|e▸c) .inr}
  rw[aL c,aE,ar];show or_assoc
def L9:∀{l gs:List aC.Atom},gs.Nodup->(l.foldl mw gs).Nodup:=by
 ext l
 induction l with
 |nil=>ext gs h;show h
 |cons b l ih=>
  ext gs h;show ih ?_;unfold mw;by_cases c:b∈gs;·rw[aN c];show h
  rw[aL c];show dG.mpr {h,84,λx hx y hy e=>c (by rw[<-ar.mp hy,<-e];show hx)}
def Cn{fs:List En}(nd:(fs.map (·.nm)).Nodup){a:aC.Atom}:a∈jR fs↔a∈iZ fs:=by
 unfold jR;rw[Jk,qE,rA];constructor
 ·ext(h|⟨e,he,h⟩);·cases h
  let(r,hr,rfl):=aD.mp h;show{bV he,ph nd he▸hr}
 ext⟨h1,h2⟩;let(e,he,ee):=aD.mp h1;rw[<-ee,ph nd he]at h2;show .inr {e,he,aD.mpr {a.2,h2,by rw[ee]}}
def Nf{K:Frag}{H:Hp}{d:cr}{fs:List En}{S:List aC.Atom}(x:kP K H d fs)(ins:∀e∈fs,∀r∈e.rows,(e.nm,r)∈S):(jR fs).length<=S.length/\∀a∈jR fs,a∈S/\jT a.2/\∃e∈fs,e.nm=a.1:=by
 have h:∀a∈jR fs,a∈S/\jT a.2/\∃e∈fs,e.nm=a.1:=λa ha=>by
  unfold jR at ha;rw[Jk,rA]at ha;rcases ha with h|⟨e,he,h⟩;·cases h
  let(r,hr,rfl):=aD.mp h;show{ins e he r hr,(x.en e he).2.2.2 r hr,e,he,9}
 show{js (L9 .nil) λa ha=>(h a ha).1,h}
def Zx{xs:List View}(j7:(xs.map (·.1)).Nodup){fs ts:List En}(nf:(fs.map (·.nm)).Nodup)(nt:(ts.map (·.nm)).Nodup){cs:List aC.Atom}(iff:∀a,a∈cs↔SD xs (jR ts) a):(∀a∈jR fs,a∈cs)↔Af xs (iZ ts) (iZ fs):=by
 have e:∀a,a∈jR ts↔a∈iZ ts:=λa=>Cn nt;constructor;·ext h a ha;let(x,hx,e1,sp):=(iff a).mp<|h a<|(Cn nf).mpr ha;show{x,e1▸xO j7 hx,(Fx e).mp sp}
 ext h a ha;let(x,ev,sp):=h a<|(Cn nf).mp ha;let(h1,h2):=vS ev;show(iff a).mpr {x,h1,h2.symm,(Fx e).mpr sp}
end
inductive IE(K:Frag)(vs:Aam)(H:Hp)(Q:VK)(_x3:XK):Prop
 |mk (f vl:cr) (v:V) (dZ:Aam) (xs:List View) (_:vs=[-f,-vl,v]) (_:dc K f H) (_:vl≠f) (_:H vl>.lst dZ) (_:Paired (nQ H) dZ xs) (_:(∀x∈xs,pG x)) (_:(xs.map (·.1)).Nodup) (_:1<=xs.length) (_:xs.length<=4) (_:∀H',Ext f H H'->Q (.bl true) H')
section
variable{P:io}{w:i6}{K:Frag}{mg:Aab}{base:nw}{c5:cr}
def nM:b7 [AaK,AbH,Abi,AaX,Abo,"_law_tables","_law_kept","_law_saw",AaN] [AaK,AbH,Abi] (bI IL):=iM 59
def Rq{f:cr}{fd:re}(F:d6 K "_law_right" "_law_right" IL f fd)(T:Txt K mg)(ZE:dh P w K mg base 2 "_law_held" [AaK,AbH,Aa4] (OV K))(ZA:dh P w K mg base 1 "_law_rows" [AaX] (DO K))(ZD:dh P w K mg base 2 "_law_made" [AbH,Abo] (Tw K))(ZF:dh P w K mg base 2 "_law_bent" [AaK,AaU] (OW K))(W5:dh P w K mg base 1 "_law_goals" ["_law_tables"] (DO K))(Zz:dh P w K mg base 4 "_law_seen" [AbH,AaU] (OU K))(rD:dh P w K mg base 3 Abp [AaR,AaN] (HB K 1))(Dz:mE P w K mg base 015 "fits" [Adl,Ack,Ac3] (Gh K c5))(Hu:dh P w K mg base 018 AbL [AaK,AbH,AaX,Abi] (OR K c5)):cN P w K mg base fZ 019 f fd [AaK,AbH,Abi] (IE K):=by
 show F.ok nM 98;let(fe,vl,v,dZ,xs,rfl,hF,GG,pC,hV,j3,j7,l1,l4,k):=h;show{_,aA (dW 3 nM<|cl ZE hr<|kj (pv 0) (pv 1) aO)<|aA (dW 4 nM<|cl ZA hr 47)<|aA (dW 5 nM<|cl ZF hr<|b6 (pv 0)<|cl ZD hr<|b6 (pv 1)<|pv 4)<|aA (dW 6 nM<|c8<|kj (bu 147 9 T.zG 59 79) (bu 147 9 T.zG 59 47)<|bu 147 9 T.zG 59<|bS<|pv 5)<|aA (nZ (i:=07) nM.nd 9 (Or.inr 9)<|cl Zz hr<|b6 (pv 1)<|cl W5 hr<|bS<|pv 5)<|aA (dW 08 nM<|kZ (LV hr.F7) (xU 9 (eF (fs:=["_law_saw"]) (fr:=[07])) (eC<|pv 4) (λ_ _ _ _=>cD (Rk (K:=K) hr.units) (pv 0) (pv 1) 74) (λ_ _ _ _=>pv 0)) (c8 hU)<|cM _)<|aA (dP (PW.pt<|DQ (zx<|kF<|cl rD hr<|b6 (JJ Dz hr Pw<|kj (pv 1) (pv 3)<|pv 5)<|pv 08)<|zv<|cD (adQ hr.F7) (c8<|kj (bu 147 9 T.zG 59 79) (bu 147 9 T.zG 59 47)<|bu 147 9 T.zG 59<|bS<|pv 5) (pv 6)<|cM _) (aP<|b8 oJ) cP)<|aP<|b8<|cl Hu hr<|eX (pv 0)<|kj (pv 1) (pv 3)<|pv 2,?_}
 show{_,9,_,9,fe,vl,dZ,xs,9,hF,GG,pC,hV,j3,l1,l4,λhd fs S H1 E4 Bn sx hdn vN UK bC=>?_};have l8:=bC.l8;have lf:=bC.lf;have QI:∀e∈fs,nK e.nm:=λe he=>by let(x,hx,ex):=aD.mp<|bC.nm e he;have ex:x.1=e.nm:=ex;rw[<-ex];show(j3 x hx).Po
 let(lg,gf):=Nf vN bC.ins;show{_,9,hd,fs,9,vN,8,QI,λrl rws H2 s2 rl0 vH hA=>?_};have kG:Ext fe H H2:=λb o n h=>s2 _ _<|Bn b o n h;have vw:∀{H'},Ext fe H H'->H' vl>.lst dZ/\Paired (nQ H') dZ xs:=λe=>{e _ _ GG pC,Paired.imp' (λ_ _ h=>h.keep<|hF.iR e) hV};have iN:=E4.same s2;show{_,9,_,9,_,9,vl,rl,dZ,rws,xs,jR fs,9,(vw kG).1,(vw kG).2,j3,j7,vH,hA,8,λa ha=>?_,λl ws cs H3 s3 l0 hl hC lc mc=>{fe,l,ws,cs,9,iN.same s3,iN.lC l0,hl,hC,lc,mc,λtd ts S2 H4 ji gP td0 tdn Bj nat aen lS2 Jl=>?_}};·let(x,hx,e1,e2,e3):=bC.rs a (gf a ha).1;show{⟨x,hx,e1,e2⟩,λz hz=>agt z<|e3 z hz}
 have zu:Ext fe H2 H4:=λb o n h=>gP b o n<|s3 _ _ h;have AL:=kG.trans zu;have aeH:=zu _ _ (E4.lC rl0) vH;have E5:dw K H4 rws (jR fs):=dw.tp hA<|iN.KC zu;have Sd:=(vN.same s2).ext hdn UK iN zu;let(lg2,gt):=Nf Bj aen;show{_,9,_,_,9,.dZ vl dZ xs (vw AL).1 (vw AL).2 j3 l4,_,9,_,_,9,.tab hd fs Sd ∅ QI,_,9,_,_,9,.tab td ts Bj Jl λe he=>(nat e he).2.2,(by change 3<=dL;decide),?_}
 intros kl kl0 H5 s5 h5
 show{_,9,_,9,td,ts,9,Bj.same s5,8,λe he=>(nat e he).2.2,λgl gws H6 s6 gl0 CD hG=>?_};have wH:=s5.trans s6;have ae8:Ext fe H H6:=λb o n h=>wH _ _<|AL b o n h;show{vl,gl,dZ,gws,xs,jR ts,9,(vw ae8).1,(vw ae8).2,j3,l4,CD,hG,8,L9 .nil,λb hb=>(gt b hb).2.1,λsl sws cs' H7 s7 sl0 MM hC' iff tkc=>?_};have IT:=wH.trans s7;have lw:rws.length=(jR fs).length:=aV hA;show{_,9,rl,9,{_,bg.of<|IT _ _ aeH},j9 (K:=K) (a:=rl) (xs:=rws) (λj ys H8=>H8=H7/\48<=j/\(ys=[]↔∀a∈(jR fs).take j,a∈cs')) (bB ∅) {9,aw _,{λ_ a h=>90,λ_=>9}} ?_ ?_ ?_};·ext j ys H8 hj ⟨rfl,ly,_⟩;show{bg.of<|IT _ _ aeH,ly}
 ·ext j y ys H8 N hy ⟨rfl,ly,ie⟩ hN;let(a,ha,ap):=Paired.at' E5 hy;have am:=aB ha;have ap:=dw.same (.cons ap .nil) IT;cases ap with
  |cons ap _=>
   have tk:(jR fs).take (j+1)=(jR fs).take j++[a]:=by rw[aY,ha];rfl
   let(e,he,ee):=(gf a am).2.2;show{_,9,_,9,dA a,cs'.map dA,Sm ap,.inr (by rw[Dt];show{sl,_,9,bg.of MM,Nu hC'}),HS λb hb=>{?_,λz hz=>(tkc b hb z hz).2},Mq (by rw[<-ee];show(QI e he).2) λz hz=>((gf a am).2.1.2.2 z hz).2,Nw _,_,9,?_};·let(x,hx,ex,__):=(iff b).mp hb;rw[ex];show(j3 x hx).Po.2
   rw[aN rfl,Wr];show dQ (λq=>?_) (λq=>?_)
   ·have c:a∉cs':=λh=>by rw[bD h]at q;cases q
    show{_,9,hN _ _ {9,by rw[aG];show d7 ly,{λh=>?_,λh=>?_}}};·show absurd h 84
    show absurd (h a (by rw[tk];show bq _ ay)) c
   have c:a∈cs':=kR λh=>q (by rw[bQ h];rfl);show hN _ _ {9,fQ ly,?_};rw[tk,ie];show{λh b hb=>(aE.mp hb).elim (h b) λe=>by rw[ar.mp e];show c,λh b hb=>h b<|ba _ hb}
 ext ys H8 ⟨rfl,ly,ie⟩;rw[lw,bj,Zx j7 vN.nm Bj.nm iff]at ie
 intros yl yl0 H9 s9 h9
 show{56,?_}
 intros e0 e00 ky fE tM
 have Q3:=IT.trans<|s9.trans fE;show{yl,e0,ys,9,9,bg.of<|fE _ _ h9,bg.of tM,?_};rw[aL 7];have Np:Ext fe H ky:=λb o n h=>Q3 _ _<|AL b o n h;have ep:mY xs fs=none:=Aq λi b e=>by let(x,hx,ee):=aD.mp<|(gc _).mem_iff.mp<|aB e;have ee:x.nm=b:=ee;rw[<-ee];show GF j7 bC vN.nm hx hx
 show{_,9,_,9,_,9,xs,vl,hd,td,dZ,fs,ts,9,(vw Np).1,(vw Np).2,j3,j7,Sd.same Q3,8,aR (FZ vN bC.ins) ∅,Bj.same Q3,8,aR (FZ Bj aen) lS2,λe he=>(nat e he).2.2,?_};rw[ep];ext xw b oG ib;have eb:b=ys.isEmpty:=by rw[f7,ib,<-ie];cases ys<;>simp
 subst eb;show{_,9,_,_,9,tV.bl _,λBv tF=>{_,9,mH ?_}};have Q2:=Q3.trans<|oG.trans tF;have vf:Ext fe H Bv:=λb o n h=>Q2 _ _<|AL b o n h;show{_,9,_,_,9,.dZ vl dZ xs (vw vf).1 (vw vf).2 j3 l4,_,9,_,_,9,.tab hd fs (Sd.same Q2) ∅ QI,_,9,_,_,9,.tab td ts (Bj.same Q2) Jl λe he=>(nat e he).2.2,(by change 3<=dL;decide),?_}
 intros k2 k20 JU EE h13
 have s4d:=Q2.trans EE;have exd:Ext fe H JU:=λb o n h=>EE _ _<|vf b o n h;have ahQ:JU kl=_:=(s6.trans<|s7.trans<|s9.trans 202) _ _ h5;show{_,9,k2,kl,[_,_,_],9,9,bg.of h13,bg.of ahQ,_,9,mH ?_};show{_,9,_,9,_,9,_,9,fe,vl,hd,v,dZ,xs,fs,S,9,ji.same s4d,GG,(vw exd).1,(vw exd).2,j3,j7,l1,l4,hdn,Sd.same s4d,UK,bC,λH14 Ib=>k H14<|exd.trans Ib}
end
inductive Ki(K:Frag)(vs:Aam)(H:Hp)(Q:VK)(_x3:XK):Prop
 |mk (a:cr) (ns:List Int) (_:vs=[-a]) (_:Fh K H a (ns.map V.int)) (_:ns.length<=63) (_:∀H',Q (.bl true) H')
section
variable{P:io}{w:i6}{K:Frag}{mg:Aab}{base:nw}
def K7:b7 [Abr,AaZ,Abi] [Abr] (bI QZ):=iM 59
def adV{c5:cr}(F:d6 K "law" "law" QZ f fd)(T:Txt K mg)(Ac:dh P w K mg base 2 "_law_box" [Abr,AaZ] (QS K))(xA:dh P w K mg base 3 Abh [AaK,"_law_most"] (Fu K))(W3:dh P w K mg base 5 "_law_views" [Abr,AaQ,Abi] (KY K))(W4:dh P w K mg base 019 "_law_right" [AaK,AbH,Abi] (IE K))(Dz:mE P w K mg base 015 "fits" [Adl,Ack,Ac3] (Gh K c5))(rD:dh P w K mg base 3 Abp [AaR,AaN] (HB K 1)):cN P w K mg base fZ 020 f fd [Abr] (Ki K):=by
 show F.ok K7 98;let(a,ns,rfl,ha,ln,k):=h;show{_,aA (eB bH 9 (j5 9 T.mZ<|bS<|c9 ir aO<|bu (WC 9) 9 T.RB 59<|b6 aO<|bu dD 9 T.fJ bK 78) (gL 1 K7)<|aA (dW 2 K7<|cl xA hr<|b6 (cl Ac hr<|b6 (pv 0)<|pv 1) aO)<|aP<|dP (zx<|kF<|cl W4 hr<|kj (cl Ac hr<|b6 (pv 0)<|c9 ir (pv 1) aO) (cl W3 hr<|kj (pv 0) (c9 ir (pv 1) aO)<|pv 2)<|pv 2) (aP<|b8 oJ) cP)<|aP<|b8<|cl rD hr<|b6 (JJ Dz hr Pw<|kj (c8 hU) hJ hJ) oJ,?_}
 show{_,9,_,_,9,.inl {_,ha.sq,9},_,_,9,_,_,9,9,?_};have hm:0<=209/\209<=12:=by split<;>lia
 generalize 209=m at hm⊢;show{_,9,8,8,sE (λj Z H2=>∃x1 x2:Aan,Z=[some (-a),x1,x2]/\aX H H2) {_,_,9,51} ?_ ?_};·ext j Z H2 D1 hj ⟨x1,x2,rfl,s2⟩ m9 _;show{_,9,_,9,a,ns,0+(j:Int),9,ha.same s2,ln,8,λfb H3 ju s3 fb0=>{fb,3,9,ju,7,7,λr hz gG H4 ji gP hq l1 l5 g6=>?_}};have O7:=s2.trans<|AI s3 fb0 gP;show{_,9,_,9,_,_,9,9,a,ns,0+(j:Int)+040,9,ha.same O7,ln,8,λfc H5 j8 s5 fc0=>?_};show{_,9,_,9,_,_,9,9,_,9,a,ns,0+(j:Int)+13,-r,hz,gG,9,ha.same<|O7.trans s5,ln,8,hq.keep<|dj.of s5,l1,8,g6,λl dZ xs H6 s6 l0 MS Js j3 j7 x1' x4=>?_};show{_,9,fc,l,-r,dZ,xs,9,j8.same s6,j8.lC l0,MS,Js,j3,j7,x1',x4,λH7 lO=>{_,9,mH<|m9 _ _ {_,_,9,O7.trans<|AI (s5.trans s6) fc0 lO}}}
 ext Z H2 ⟨x1,x2,rfl,s2⟩;show{56,?_}
 intros vl vl0 H3 s3 h3
 intros hd sx H4 s4 h4
 intros td td0 H5 s5 h5
 show{[],vl,hd,td,[],[],[],9,s5 _ _<|s4 _ _ h3,.nil,λx h=>90,.nil,{s5 _ _ h4,.nil,λe h=>90},7,uD▸aQ _,{h5,.nil,λe h=>90},7,uD▸aQ _,λe h=>90,?_};have ep:mY [] []=none:=Aq λi b e=>by have:=(gc _).mem_iff.mp<|aB e;cases this
 rw[ep];ext H6 b s6 ib;have eb:=ib.mpr λa ha=>by rw[uD]at ha;cases ha
 subst eb;show{_,_,9,tV.bl _,λH7 _=>k H7}
end
end nL
namespace nL
open PySem PySem.Spec PyProof.Rows L2
def adt{K:Frag}(hO:SE H)(h:bg K H a xs):Fh K H a xs:=by
 rcases h with(h|h)|h
 ·rcases hO a with e|⟨o,ys,e⟩;·rw[e]at h;cases h
  rw[e]at h;cases h
 ·show .inl h
 show .inr h
def FB(K:Frag)(a:Option (Aag))(x q:i9)(st:wP)(A:Nat)(m:i5):Prop:=(a,K.lookup<|A+1,codeIn K (-A) q,keepIn K<|.ref<|A+1)=(some<|some<|.ref<|A+1,some<|fO st x q m (-A),true,true)
def FB.of{K:Frag}{a:Option (Aag)}{x q:i9}{st:wP}{A:Nat}{m:i5}(h:FB K a x q st A m):a>some (.ref<|A+1)/\∃fd,d6 K x q st (A+1) fd:=by simp only[FB,Prod.mk.injEq]at h;show{h.1,_,ae2 h.2.1 h.2.2.1 h.2.2.2}
structure xy(P:io)(w:i6)(K:Frag)(mg:Aab)(base h:nw):Prop where
 X:K.In h
 G:h.Ns u8 mg
section
variable{K:Frag}{h base:nw}{x y q p p2 r s:i9}{st:wP}{mg:Aab}{f C:cr}{fd:re}{P:io}{w:i6}{k:Nat}{sp:Sp}{ps:Aaf}
def xy.at(E:xy P w K mg base h){v:i5}(a:nsIn K u8 x>some v:=by kernel_rfl):mg x>v:=PySem.W.mg_of E.X E.G a
def xy.no(E:xy P w K mg base h)(a:nsIn K u8 x>none:=by kernel_rfl):mg x=none:=PySem.W.mg_none_of E.X E.G a
def FT{C:Fo}{A:Nat}{m:i5}(b:FB K (nsIn K u8 x) y y st A m)(hb:∀f fd,d6 K y y st f fd->Binds K fd ps [])(E:xy P w K mg base h)(ok:∀f fd,d6 K y y st f fd->cN P w K mg base C k f fd ps sp):∃f fd,cN P w K mg base C k f fd ps sp/\mg x>-f/\keepIn K (-f)=true/\Binds K fd ps []:=
 have⟨a,fd,F⟩:=b.of
 {_,fd,ok _ fd F,E.at a,F.kp,hb _ fd F}
abbrev Bd1(x q:i9)(st:wP)(p:i9):Prop:=(λ(a kV doc pm dC ct:i5)(an:Aai)=>SL 178 {[a],[]})=λa _ _ _ _ _ _=>pure [(p,a)]
def bd1(F:d6 K x q st f fd)(h:Bd1 x q st p:=by rfl):Binds K fd [p] []:=F.binds λk1 k2 k3 k4 k5 k6 us hl=>by rcases us with _|⟨a,_|⟨e,us⟩⟩<;>first|show cT (cT (cT (cT (cT (cT (cT h a) k1) k2) k3) k5) k6) k4|cases hl
def d1(E:xy P w K mg base h)(A:Nat)(m:i5)(ok:∀f fd,d6 K y y st f fd->cN P w K mg base fZ k f fd [p] sp)(b:FB K (nsIn K u8 y) y y st A m:=by unfold FB;kernel_rfl)(h:Bd1 y y st p:=by rfl):dh P w K mg base k y [p] sp:=FT b (λ_ _ F=>bd1 F h) E ok
abbrev Bd2(x q:i9)(st:wP)(p p2:i9):Prop:=(λ(a b kV doc pm dC ct:i5)(an:Aai)=>SL 178 {[a,b],[]})=λa b _ _ _ _ _ _=>pure [(p,a),(p2,b)]
def WH(F:d6 K x q st f fd)(h:Bd2 x q st p p2:=by rfl):Binds K fd [p,p2] []:=F.binds λk1 k2 k3 k4 k5 k6 us hl=>by rcases us with _|⟨a,_|⟨b,_|⟨e,us⟩⟩⟩<;>first|show cT (cT (cT (cT (cT (cT (cT (cT h a) b) k1) k2) k3) k5) k6) k4|cases hl
def d2(E:xy P w K mg base h)(A:Nat)(m:i5)(ok:∀f fd,d6 K y y st f fd->cN P w K mg base fZ k f fd [p,p2] sp)(b:FB K (nsIn K u8 y) y y st A m:=by unfold FB;kernel_rfl)(h:Bd2 y y st p p2:=by rfl):dh P w K mg base k y [p,p2] sp:=FT b (λ_ _ F=>WH F h) E ok
abbrev Bd3(x q:i9)(st:wP)(p p2 r:i9):Prop:=(λ(a b c kV doc pm dC ct:i5)(an:Aai)=>SL 178 {[a,b,c],[]})=λa b c _ _ _ _ _ _=>pure [(p,a),(p2,b),(r,c)]
def WG(F:d6 K x q st f fd)(h:Bd3 x q st p p2 r:=by rfl):Binds K fd [p,p2,r] []:=F.binds λk1 k2 k3 k4 k5 k6 us hl=>by rcases us with _|⟨a,_|⟨b,_|⟨c,_|⟨e,us⟩⟩⟩⟩<;>first|show cT (cT (cT (cT (cT (cT (cT (cT (cT h a) b) c) k1) k2) k3) k5) k6) k4|cases hl
def d3(E:xy P w K mg base h)(A:Nat)(m:i5)(ok:∀f fd,d6 K y y st f fd->cN P w K mg base fZ k f fd [p,p2,r] sp)(b:FB K (nsIn K u8 y) y y st A m:=by unfold FB;kernel_rfl)(h:Bd3 y y st p p2 r:=by rfl):dh P w K mg base k y [p,p2,r] sp:=FT b (λ_ _ F=>WG F h) E ok
abbrev Bd4(x q:i9)(st:wP)(p p2 r s:i9):Prop:=(λ(a b c d kV doc pm dC ct:i5)(an:Aai)=>SL 178 {[a,b,c,d],[]})=λa b c d _ _ _ _ _ _=>pure [(p,a),(p2,b),(r,c),(s,d)]
def bd4(F:d6 K x q st f fd)(h:Bd4 x q st p p2 r s:=by rfl):Binds K fd [p,p2,r,s] []:=F.binds λk1 k2 k3 k4 k5 k6 us hl=>by rcases us with _|⟨a,_|⟨b,_|⟨c,_|⟨d,_|⟨e,us⟩⟩⟩⟩⟩<;>first|show cT (cT (cT (cT (cT (cT (cT (cT (cT (cT h a) b) c) d) k1) k2) k3) k5) k6) k4|cases hl
def d4(E:xy P w K mg base h)(A:Nat)(m:i5)(ok:∀f fd,d6 K y y st f fd->cN P w K mg base fZ k f fd [p,p2,r,s] sp)(b:FB K (nsIn K u8 y) y y st A m:=by unfold FB;kernel_rfl)(h:Bd4 y y st p p2 r s:=by rfl):dh P w K mg base k y [p,p2,r,s] sp:=FT b (λ_ _ F=>bd4 F h) E ok
def e2(E:xy P w K mg base h)(A:Nat)(m:i5)(ok:∀f fd,d6 K y y st f fd->cN P w K mg base (yw P w) k f fd [p,p2] sp)(b:FB K (nsIn K u8 y) y y st A m:=by unfold FB;kernel_rfl)(h:Bd2 y y st p p2:=by rfl):mE P w K mg base k y [p,p2] sp:=FT b (λ_ _ F=>WH F h) E ok
def e3(E:xy P w K mg base h)(A:Nat)(m:i5)(ok:∀f fd,d6 K y y st f fd->cN P w K mg base (yw P w) k f fd [p,p2,r] sp)(b:FB K (nsIn K u8 y) y y st A m:=by unfold FB;kernel_rfl)(h:Bd3 y y st p p2 r:=by rfl):mE P w K mg base k y [p,p2,r] sp:=FT b (λ_ _ F=>WG F h) E ok
def e4(E:xy P w K mg base h)(A:Nat)(m:i5)(ok:∀f fd,d6 K y y st f fd->cN P w K mg base (yw P w) k f fd [p,p2,r,s] sp)(b:FB K (nsIn K u8 y) y y st A m:=by unfold FB;kernel_rfl)(h:Bd4 y y st p p2 r s:=by rfl):mE P w K mg base k y [p,p2,r,s] sp:=FT b (λ_ _ F=>bd4 F h) E ok
def FB.mn{A:Nat}{m:i5}(h:FB K (findIn K (-C) x) x q st A m)(i:isFn K (.ref<|A+1)=true):∃f fd,findIn K (-C) x>some (-f)/\isFn K (-f)=true/\d6 K x q st f fd:={_,let⟨fd,F⟩:=h.of.2;{fd,h.of.1,i,F}}
def afi(a:plainGet K C Str.empty=true:=by kernel_rfl)(b:hasDictIn K C=true:=by kernel_rfl)(c:PySem.W.plainOver K C=true:=by kernel_rfl)(d:findIn K (-C) "__setattr__">some (.builtin "object.__setattr__"):=by kernel_rfl):Bw K C:=⟨a,b,c,d⟩
def aaj{x:i9}(a:findIn K (-C) x>none:=by kernel_rfl):sN K C x:=a
def m2(E:xy P w K mg base h)(C:cr)(A:Nat)(m:i5)(ok:∀f fd,d6 K x q st f fd->cN P w K mg base fZ k f fd [p,p2] sp)(b:FB K (findIn K (-C) x) x q st A m:=by unfold FB;kernel_rfl)(i:isFn K (.ref<|A+1)=true:=by kernel_rfl)(h:Bd2 x q st p p2:=by rfl):sQ P w K mg base C k x [p,p2] sp:=
 have⟨a,fd,F⟩:=b.of
 {_,fd,ok _ fd F,{a,i,F.kp},WH F h}
def m3(E:xy P w K mg base h)(C:cr)(A:Nat)(m:i5)(ok:∀f fd,d6 K x q st f fd->cN P w K mg base fZ k f fd [p,p2,r] sp)(b:FB K (findIn K (-C) x) x q st A m:=by unfold FB;kernel_rfl)(i:isFn K (.ref<|A+1)=true:=by kernel_rfl)(h:Bd3 x q st p p2 r:=by rfl):sQ P w K mg base C k x [p,p2,r] sp:=
 have⟨a,fd,F⟩:=b.of
 {_,fd,ok _ fd F,{a,i,F.kp},WG F h}
end
def all_mk{l:PySem.W.OpenLaw}{w:i6}{h:nw}{mg:Aab}{fa:cr}(X:(KF w.params).In h)(G:h.Ns u8 mg)(hfa:mg "law">-fa):∃fd:re,(∀(s:f8)(v:i5),TD s fd {[v],[]} [(Abr,v)])/\∀base:nw,(KF w.params).In base->base.Ns u8 mg->cN l.prog w 88 mg base fZ 020 fa fd [Abr] (Ki 88):=by
 let(a,fd,F):=FB.of (show FB 88 (nsIn 88 u8 "law") "law" "law" QZ 595 gE by unfold FB;kernel_rfl);have e:=hfa.symm.trans<|PySem.W.mg_of X G a;cases e;show{fd,?_,λbase _ _=>?_}
 ·let(__,__,__,__,__,__,__,__,__,rfl,__,__):=F.ex
  exactλs v=>.of_eq rfl
 have E:xy l.prog w 88 mg base h:=⟨X,G⟩;have T:Txt 88 mg:={E.no,E.no,E.no,E.no,E.no,E.no,E.no,E.no,E.no,E.no,E.no,E.no,E.no,E.no,E.no,E.no,E.no,E.no,E.no,lD.mp 29,{189,E.at},{191,E.at}};have EK:rC 88 227:={29,29,29,29,29,29,29,29,29,29};have EA:PySem.W.kitAny 88 (.ref 227) [.ref 208,.ref 275,.ref 263,.ref 287,.ref 189,.ref 239,.ref 251]>false:=by
  have t0:kitOne 88 (.ref 227) (.ref 208)>false:=by kernel_rfl
  have t1:kitOne 88 (.ref 227) (.ref 275)>false:=by kernel_rfl
  have t2:kitOne 88 (.ref 227) (.ref 263)>false:=by kernel_rfl
  have t3:kitOne 88 (.ref 227) (.ref 287)>false:=by kernel_rfl
  have t4:kitOne 88 (.ref 227) (.ref 189)>false:=by kernel_rfl
  have t6:kitOne 88 (.ref 227) (.ref 239)>false:=by kernel_rfl
  have t7:kitOne 88 (.ref 227) (.ref 251)>false:=by kernel_rfl
  simp[PySem.W.kitAny,t0,t1,t2,t3,t4,t6,t7]
 have Sq:=d1 E 018 UR λ_ _ F=>Oe F T;have sF:=d1 E 25 UR λ_ _ F=>Ka F T Sq;have Wg:=d2 E 053 mO2 λ_ _ F=>Ro F T;have NA:=d3 E 307 tH λ_ _ F=>Uv F T ⟨sF⟩;have Nz:=d3 E 364 tH λ_ _ F=>Kb F T ⟨sF⟩;have DT:Dt2 l.prog w 88 mg base:={{⟨sF⟩,NA},Nz};have So:=d2 E 359 tH λ_ _ F=>Od F T DT;have O1:Own 88 349:=⟨afi,aaj,aaj⟩;have afX:=m2 E 349 328 tH λ_ _ F=>adY F T O1;have Co:=m3 E 349 345 tH λ_ _ F=>Rv F T O1 ⟨sF⟩;let(fm,fdm,am,im,Fm):=FB.mn (K:=KF w.params) (C:=349) (x:="mapped") (q:="MapSearch.mapped") (st:=vV) (A:=335) (m:=tH) (by unfold FB;kernel_rfl) 29;let(fp,fdp,ap,ip,Fp):=FB.mn (K:=KF w.params) (C:=349) (x:=AcC) (q:="MapSearch.mapped_part") (st:=oF) (A:=340) (m:=tH) (by unfold FB;kernel_rfl) 29;have FI:=Gp Fm Fp {am,im,Fm.kp} {ap,ip,Fp.kp} (WG Fm) (WG Fp) T O1 ⟨DT,So,Co⟩ 3;let(fj,fdj,aj,ij,Fj):=FB.mn (K:=KF w.params) (C:=349) (x:="__init__") (q:="MapSearch.__init__") (st:=mF) (A:=321) (m:=tH) (by unfold FB;kernel_rfl) 29;have agY:NW l.prog w 88 mg base 349 3 "MapSearch" [AcY,AbV] (QQ l.prog w 88 349):={_,_,{29,aj,ij,29},abP Fj T O1 afX,E.at,WH Fj};let(fv,fdv,av,iv,Fv):=FB.mn (K:=KF w.params) (C:=227) (x:="__init__") (q:="NoView.__init__") (st:=FK) (A:=223) (m:=mO4) (by unfold FB;kernel_rfl) 29;have BA:Ba 88 mg 169:={E.at,29,29,29};have DE:Dnv l.prog w 88 mg base 227:={E.at,29,29,fv,fdv,av,iv,Of Fv BA 29 EK 29,WH Fv};have xh:=e2 E 413 vE λ_ _ F=>Kc F T DE;have Sr:=d1 E 418 vE λ_ _ F=>Og F T Wg;have Wn:=d3 E 425 vE λ_ _ F=>Rt F T O1 NA FI;have NB:=e3 E 398 vE λ_ _ F=>abQ F T O1 xh Sr Wn agY;have afd:=e3 E 403 vE λ_ _ F=>abM F T xh;have Ny:=e4 E 408 vE λ_ _ F=>J3 F T xh;have Om:=d2 E 456 gE λ_ _ F=>abR F T;have Qr:=d2 E 463 gE λ_ _ F=>adW F T Om;have rg:=d2 E 470 gE λ_ _ F=>abL F T;have Wi:=d2 E 475 gE λ_ _ F=>abV F;have Wj:=d2 E 475 gE λ_ _ F=>Pk (n:=0) F T Wi;have CY:=d2 E 475 gE λ_ _ F=>Pk (n:=1) F T Wj;have Zh:=d2 E 482 gE λ_ _ F=>Yk F T rg;have xg:=d1 E 489 gE λ_ _ F=>LY F T;have CZ:=d2 E 494 gE λ_ _ F=>Uu F T rg Zh xg;have Za:=d2 E 499 gE λ_ _ F=>Yd F T rg CZ xg;have Wh:=d3 E 504 gE λ_ _ F=>Ut F T rg Qr Za;have acv:=d3 E 511 gE λ_ _ F=>adT F T;have Zd:=d3 E 518 gE λ_ _ F=>Yg F T acv;have JF:=d2 E 523 gE λ_ _ F=>adU F T;have Wl:=d1 E 530 gE λ_ _ F=>Yi F T;have Zc:=d1 E 557 gE λ_ _ F=>abN F T;have Oo:=d3 E 535 gE λ_ _ F=>Ru F T Zd JF;have Zb:=d2 E 540 gE λ_ _ F=>Ye F T Oo;have Zf:=d3 E 545 gE λ_ _ F=>Yh F T rg;have Ze:=d2 E 550 gE λ_ _ F=>abO F T xg JF;have Zg:=d2 E 564 gE λ_ _ F=>Yj F T rg;have Wm:=e4 E 571 gE λ_ _ F=>Yl F T NB afd Ny;have Ol:=d4 E 578 gE λ_ _ F=>Rr (A0:=169) (c0:=208) (c1:=275) (c2:=263) (c3:=287) (c4:=189) (c5:=227) (c6:=239) (c7:=251) F T Wm CY E.at 29 E.at E.at E.at E.at E.at E.at E.at E.at EK 29 29 29 EA;have Hf:=d4 E 583 gE λ_ _ F=>Yc F T rg Ol;have Wk:=d3 E 588 gE λ_ _ F=>Rq F T Zf Zc Ze Zg Wl Zb CY NB Hf;show adV F T Qr CZ Wh Wk NB CY
def walk{l:PySem.W.OpenLaw}{K:Params->Frag}(hn:l.most>63)(VH:d.params.defaults=[])
  (hY:∀(w:i6)(h:nw),YP w h->(K w.params).In h)
  (F:∀(w:i6)(mg:Aab)(fa:cr)(h:nw),(K w.params).In h->h.Ns u8 mg->mg d.name>.ref fa->
   ∃fd:re,(∀(s:f8)(u:i5),TD s fd {[u],[]} [(Abr,u)])/\∀base:nw,(K w.params).In base->base.Ns u8 mg->cN l.prog w (K w.params) mg base fZ 020 fa fd [Abr] (Ki<|K w.params)):
  PySem.W.WalkO q loose XP YP l.row.toRowW d [] (λf vs=>PySem.call f vs):=
 L2.aaU (n:=63) (k:=020) (x:=Abr) (CX:=λ_=>fZ) (sp:=λw=>Ki<|K w.params) hn 7 VH {9,7,7,9} hY F (λ_ H a ns hl hO hS=>{a,ns,9,adt hO hS,hl,λ_=>9}) λ_ _ _ _ _ z=>z
end nL
open PySem PySem.W PyProof.Rows
set_option maxHeartbeats 0 in
theorem PySem.Challenge.cw_askviews_k65_tables_that_fit_holds : PySem.Challenge.rw_askviews_k65_tables_that_fit.Holds := by
 w_on;show holds_law nL.afN λaix=>?_
 show holds_open (q:=nL.qf PySem.Challenge.pw_askviews_k65_tables_that_fit) (loose:=["image_answers","image_maps"]) (Xt:=nL.XF PySem.Challenge.pw_askviews_k65_tables_that_fit) (XP:=XL (nL.qf PySem.Challenge.pw_askviews_k65_tables_that_fit) []) (Yf:=Hook.obs nL.HF) (Ya:=Hook.val nL.HF) (YP:=Hook.says nL.HF) (N:=9286) nL.head (Hook.of nL.HF) (Hook.keeps nL.HF)
  (λs e=>xl_of s (sY.mp e).1) XL.keeps (by rfl) (by rfl) (by rfl) (λs e=>recFacts_of (sY.mp e).2) (by rfl) (by first|assumption|decide+kernel) 59 {9,9,9,9,9,59} ?hw ?hc
 case hw=>w_witness2
 case hc=>
 unfold nL.HF;show nL.walk (l:=PySem.Challenge.rw_askviews_k65_tables_that_fit) rfl rfl (λw h Y=>PySem.W.kIn_of Y) λw mg fa h KX G Vt=>nL.all_mk KX G Vt
