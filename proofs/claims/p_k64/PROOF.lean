import PyProof.Rows.All
import Wide.All
import OpenK.AllK
import PySem.Challenge.RW_askviews_k64_too_many_candidates
set_option Elab.async false
set_option linter.all false
set_option bootstrap.genMatcherCode false
set_option compiler.extract_closed false
set_option maxRecDepth 100000
set_option maxHeartbeats 4000000
open PySem renaming Addr->cr,sizeLine->dL,Shared->fv,wpAny->f8,model->f',Program->io,Value->jp,World->mo,Str->pi,starEach->re,Heap->ss,wpAny_callSpecial?_slot->sw,FuncData->ut,Around->wf,foldedSetIterable->wn,compareOp->wv,mainGlobals->ww,rawInt->wP,cLine->wS,eval->wT,Stmt->xz,Expr->xL,IsPair->x0,sysModules->zn,attributeBase->At,Scope->AC,codeAny->AT,NameKind->Ch,OsState->C',bootBuiltins->Da,backTo->Db,DictEntry->Do,swapsWith->EQ,carriedByValue->Fa,binaryOp->Fk,Obj->Go,IsZip->GE,Pos->GM,assignEach->GT,sliceBounds->G',call->Ix,ZipApart->IN,importedModules->IR,holding->J',typeLookup->KB,keywordEach->KE,behindInMarks->K',relabel->No,merged->NE,letOwnedTupleGo->On,Keyword->Pi,pyIter->Ps,builtinsNs->PP,Result->P3,IsTupleKey->P',valueAt->Re,getItem->Rs,bindArgs->Sc,backToKw->SC,GenState->SZ,BindsTo->TD,subscripted->TW,Env->Uf,notedBy->UV,callerA->U',setField->V',newFunctionEnv->Wp,entryOfKey->WF,entryFor->WP,checkCount->W',setSearchFrom->X',updateSeq->Y',treeTable->ZB,getMethod->Z'
open PyProof.Rows renaming seqObj->wE,get?_update_seq->FS,AllBare->KT,envOfC->Op,IntsAre->SL,tuples'->UF,IsTup->XV
open PySem.W renaming kas_asc->FM,kas_rev->KM,kas_desc->L',behindTheImports->M'
local macro_rules|`({$xs:term,*})=>`(⟨$xs,*⟩)
local macro_rules|`(tactic|let($x:ident,$xs:ident,*):=$e)=>`(tactic|obtain⟨$x:ident,$[$xs:ident],*⟩:=$e)
local macro_rules|`(tactic|show$e)=>match e.raw.getHeadInfo with|.synthetic ..=>Lean.Macro.throwUnsupported|_=>`(tactic|refine $e)
local macro_rules|`(tactic|ext$xs*)=>`(tactic|rintro $xs*)
local macro_rules|`(∅)=>`((by lia))
local macro_rules|`($a⊃$b)=>`(binrel% GT.gt $a $b)
local macro_rules|`($a>$b)=>`($a=some $b)
local macro_rules|`(-$x:ident)=>`(.ref $x)
local macro_rules|`($s\$h)=>match h with|`(($b,$c))=>`({$s with heap:=$b,toks:=$c})|_=>`({$s with heap:=$h})
local macro_rules|`(↑$h)=>`(by simpa using $h)
set_option hygiene false
local macro_rules|`(tactic|intros $c:ident $h:ident $H:ident $s:ident $e:ident)=>`(tactic|(intro $c:ident $h:ident;generalize heq:upd _ $c _=$H:ident;have $s:ident:=same_of heq $h;have $e:ident:=got_of heq;clear heq))
local macro_rules|`(tactic|rename_i $c:ident $h:ident $H:ident $s:ident $e:ident)=>`(tactic|(generalize heq:upd _ $c _=$H:ident;have $s:ident:=same_of heq $h;have $e:ident:=got_of heq;clear heq))
local macro_rules|`(9)=>`(rfl)
local macro_rules|`(7)=>`((by decide))
local macro_rules|`(8)=>`((by lia))
local macro_rules|`(35)=>`(s.heap.objs.size)
local macro_rules|`(76)=>`((by decide+kernel))
local macro_rules|`(85)=>`(λcK A outer s H vs Q E hr h=>?_)
local macro_rules|`(55)=>`(xs.length)
local macro_rules|`(75)=>`((by simp))
local macro_rules|`(77)=>`(f' prog w)
local macro_rules|`(82)=>`(f' X.prog X.w)
local macro_rules|`(81)=>`(X.prog)
local macro_rules|`(48)=>`(iT X N' scope (cl g3.objs.size) fn g3.objs.size (s2\g3) H2 (s2.heap.objs.size::fp))
local macro_rules|`(95)=>`((by show 2<=dL;decide))
local macro_rules|`(97)=>`(s2.heap.objs.size)
local macro_rules|`(78)=>`(es.size)
local macro_rules|`(31)=>`((by show 0<=dL;decide))
local macro_rules|`(66)=>`(λ(p:NK×cr×V)(q:NK×cr×jp)=>p.1=q.1/\p.2.1=q.2.1/\RelV p.2.2 q.2.2)
local macro_rules|`(29)=>`(s1.heap.objs.size)
local macro_rules|`(49)=>`(gk X (x::more++fs) scope C s H ex)
local macro_rules|`(98)=>`((by kernel_rfl))
local macro_rules|`(92)=>`(X.env.locals)
local macro_rules|`(90)=>`(NK×cr×V)
local macro_rules|`(26)=>`(λt=>hc (by simp[iZ,t]))
local macro_rules|`(104)=>`(if iJ rk (p.getD n 0) (p.getD (n -1) 0)=true then KasT.ret n else FM p f (n+1))
local macro_rules|`(53)=>`(.ListComp elt [{tg,iter,ifs,0}] scope pos)
local macro_rules|`(24)=>`(x==("__debug__":pi))
local macro_rules|`(83)=>`(ah ?_)
local macro_rules|`(50)=>`((by with_unfolding_all rfl))
local macro_rules|`(60)=>`(upd (upd H2 b (.tup xs)) p (.dK []))
local macro_rules|`(91)=>`(ys.length)
local macro_rules|`(56)=>`(ps t.mask h D)
local macro_rules|`(88)=>`(f' P w)
local macro_rules|`(42)=>`((by show 1<=dL;decide))
local macro_rules|`(33)=>`(X.aab.heap.objs.size)
local macro_rules|`(70)=>`(.ext (DN P w A (putN kvs k b (-p))))
local macro_rules|`(93)=>`(bD (gz (i:=0)) (bD (gz (i:=1)) d5))
local macro_rules|`(87)=>`(.lst ([]:Aan))
local macro_rules|`(96)=>`(iT X N' scope (cl C) fn C s H ex)
local macro_rules|`(37)=>`(knd.hash k)
local macro_rules|`(61)=>`(gk X (x::fs) scope C s H ex)
local macro_rules|`(116)=>`(.tup [.str a.1,.int ((1:Nat):Int),.int ((0:Nat):Int),.str y])
local macro_rules|`(22)=>`(ent knd)
local macro_rules|`(16)=>`(.builtin "ValueError.__new__")
local macro_rules|`(79)=>`(.type "BaseException")
local macro_rules|`(106)=>`(upd H5 b (.tup [.str a.1,.int ((1:Nat):Int)]))
local macro_rules|`(72)=>`(.Call (.Name x p) (e::es) [] pos)
local macro_rules|`(34)=>`(.dK [])
local macro_rules|`(94)=>`(KF w.params)
local macro_rules|`(119)=>`(oO (ha pos bi s Z H _ I h) λus s1 vs H1 I1 r1 q1=>?_)
local macro_rules|`(14)=>`(wE "list" acc.toList.toArray 0)
local macro_rules|`(86)=>`((by show 1<dL;decide))
local macro_rules|`(54)=>`(s\kh s.heap a vs)
local macro_rules|`(21)=>`(bB (pv 0))
local macro_rules|`(27)=>`(.Name x px)
local macro_rules|`(19)=>`(Obj.mapSeq λ_=>(#[]:Aak))
local macro_rules|`(20)=>`(I1.bE.fresh (ao _))
local macro_rules|`(57)=>`(I.bE.fresh (ao _))
local macro_rules|`(73)=>`(bB (pv 1))
local macro_rules|`(45)=>`(.type "object")
local macro_rules|`(43)=>`(aH _ rfl)
local macro_rules|`(51)=>`(p.getD (n -1) 0)
local macro_rules|`(89)=>`(s.toks)
local macro_rules|`(17)=>`(.bool true)
local macro_rules|`(126)=>`(sY {aS (tN z _ _) hz,λt' k=>{.str _,H,I.tok k,⟨_,rfl⟩,q}})
local macro_rules|`(28)=>`(I.tok _)
local macro_rules|`(38)=>`(.type "ValueError")
local macro_rules|`(121)=>`(fZ "maps" (-md) [("tables",-tb),("kept",-kl)])
local macro_rules|`(41)=>`(⟨_,rfl⟩)
local macro_rules|`(36)=>`(cj (pv 0) (pv 1))
local macro_rules|`(134)=>`(fnOf x q (qr st) (mD st) (bo st) .none kV doc pm an cK ct)
local macro_rules|`(74)=>`(.lst [])
local macro_rules|`(84)=>`(aI.refl _)
local macro_rules|`(23)=>`(λb hb=>?_)
local macro_rules|`(140)=>`(if i<0 then(i+((aK.toArray.size:Nat):Int)).toNat else min i.toNat aK.toArray.size)
local macro_rules|`(47)=>`(λz=>hc (by simp[z]))
local macro_rules|`(109)=>`(Builtin.«list.sort» {[-a],[]})
local macro_rules|`(111)=>`(putN inner (d8 zs) c (.bl true))
local macro_rules|`(68)=>`(λ_ _ _ _=>(pv 0))
local macro_rules|`(52)=>`(Gc.endLine==fu.line)
local macro_rules|`(65)=>`((by rw[ag];lia))
local macro_rules|`(125)=>`(wE "list" (bs.map Value.ref).toArray 0)
local macro_rules|`(114)=>`(es.map mR++[(Sum.inr a.1,-l0)])
local macro_rules|`(102)=>`(.builtin "isinstance")
local macro_rules|`(67)=>`(λz=>nomatch z)
local macro_rules|`(103)=>`(λy H5=>N (ys++[y]) H5)
local macro_rules|`(25)=>`(.ref 174)
local macro_rules|`(135)=>`(λ(p:V×V)(e:Do)=>RelV p.1 e.key/\RelV p.2 e.val)
local macro_rules|`(136)=>`(upd H5 md (.ext (DN P w md [(d8 [],e,.int 1)])))
local macro_rules|`(46)=>`(I.ok.hd hc)
local macro_rules|`(137)=>`(I.turned (λb o hb e=>eb b o hb e) f0 f1 f3 f4 f5)
local macro_rules|`(138)=>`(λ(u:jp)(p:Key×jp)=>(b4 prog w).is p.1 u=true)
local macro_rules|`(139)=>`(if(Value.ref d==Value.none)=true then _ else _)
local macro_rules|`(59)=>`(.type "Exception")
local macro_rules|`(30)=>`(ha bi s Z H _ I h)
local macro_rules|`(39)=>`(he bi s Z H _ I h)
local macro_rules|`(58)=>`(.Tuple elts kk ps)
local macro_rules|`(115)=>`(.builtin "object.__class__")
local macro_rules|`(44)=>`(s\(h',tk))
local macro_rules|`(69)=>`(re es X.env)
local macro_rules|`(71)=>`(.Name x pos)
local macro_rules|`(80)=>`(aT.of au)
noncomputable section
open PySem.W (Frag findIn nsIn fnOf emptyDict keepIn instObj plainGet kitOne codeIn hasDictIn isFn lookIn)
abbrev R0:=List<|PySem.Str×List PySem.Str
abbrev Aaa:=List<|List PySem.Str
abbrev Aab:=List<|PySem.Addr×PySem.Obj
abbrev Aac:=PySem.Str->Option PySem.Value
abbrev Aad:=PySem.Value->PySem.Shared->Prop
abbrev Aae:=Array<|Option PySem.Value
abbrev Aaf:=List PySem.Value
abbrev Aag:=List PySem.Str
abbrev Aah:=Option PySem.Value
abbrev Aai:=List PySem.Addr
abbrev Aaj:=Option PySem.Addr
abbrev Aak:=Array PySem.Value
section
open PySem
def ae:=@wpAny_bind
def af:=@PySem.Heap.get?_push_of_some
def ag:=@List.length_map
def ah:=@wpAny_pure
def ao:=@Nat.le_refl
def aq:=@List.getElem?_eq_getElem
def ar:=@List.getElem?_eq_some_iff
def av:=@List.mem_cons_self
def aw:=@List.mem_singleton
def az:=@if_neg
def aA:=@List.mem_cons_of_mem
def aD:=@Nat.ne_of_lt
def aE:=@PySem.Heap.lt_size
def aF:=@Nat.zero_le
def aG:=@List.mem_map
def aH:=@PySem.Heap.get?_push_size
def aJ:=@List.mem_cons
def aL:=@if_pos
def aM:=@List.mem_of_getElem?
def aN:=@List.getElem?_map
def aO:=@decide_eq_true
def aQ:=@PySem.Paired.length
def aR:=@List.size_toArray
def aS:=@Nat.le_trans
def aU:=@List.length_append
def aV:=@of_decide_eq_true
def aW:=@List.length_take
def aX:=@Nat.lt_of_lt_of_le
def aY:=@Option.map_eq_some_iff
def ba:=@List.map_append
def bc:=@List.length_cons
def bg:=@decide_eq_true_iff
def bj:=@Array.length_toList
def bq:=@List.take_length
def bw:=@PySem.Heap.get?_update_other
def bz:=@boot_len
def bA:=@Nat.ne_of_gt
def bC:=@wpAny_call_entry
def bF:=@PySem.PassesOwn.never
def bG:=@List.mem_append
def bI:=@List.map_cons
def bJ:=@Bool.false_ne_true
def bK:=@Array.getElem?_eq_getElem
def bM:=@sizeLine_eq
def bN:=@Ne.symm
def bO:=@List.mem_range
def bP:=@wpAny_holding
def bQ:=@decide_eq_false
def bR:=@Option.some.inj
def bS:=@PySem.Heap.SameBut.update
def bU:=@Nat.le_of_lt
def bW:=@List.take_add_one
def bX:=@List.mem_filter
def bZ:=@List.filter_cons
def b5:=@List.length_singleton
def b7:=@Nat.lt_succ_of_lt
def b8:=@List.mem_append_right
def b9:=@List.all_eq_true
def cb:=@PySem.F.plainAttrs_list
def cc:=@List.length_eq_zero_iff
def cn:=@Bool.and_eq_true
def cv:=@Array.getElem?_toList
def cy:=@List.append_nil
def cz:=@List.pairwise_map
def cB:=@PySem.F.slot_dict_itemiterator_next
def cD:=@PySem.Heap.get?_update_self
def cE:=@wpAny_field
def cH:=@List.length_range
def cI:=@Nat.lt_succ_self
def cJ:=@Nat.lt_irrefl
def cP:=@congrFun
def cQ:=@List.nodup_cons
def cR:=@wpAny_seqItems
def cV:=@PySem.Heap.size_push
def cX:=@List.map_map
def c8:=@congrArg
def c9:=@wpAny_newObj_type
def dq:=@beq_eq_false_iff_ne
def dA:=@codeAny_builtin
def dD:=@List.mem_append_left
def dE:=@Int.toNat_natCast
def dG:=@List.getD_eq_getElem?_getD
def dJ:=@List.length_replicate
def dN:=@List.mem_map_of_mem
def dO:=@Bool.eq_iff_iff
def dP:=@List.any_eq_true
def dQ:=@PySem.Str.length_append
def dR:=@wpAny_mono
def dU:=@List.find?_cons_of_neg
def dW:=@wpAny_setField_rec
def dX:=@PyProof.Rows.callWith_type1
def dY:=@List.mem_filterMap
def eE:=@Nat.not_lt_zero
def eF:=@List.mem_iff_getElem?
def eI:=@Nat.le_succ
def eK:=@PySem.F.plainAttrs_dict
def eT:=@List.rel_of_pairwise_cons
def eU:=@LawfulBEq.eq_of_beq
def eW:=@List.pairwise_cons
def eX:=@List.find?_cons_of_pos
def eY:=@wpAny_setField
def fk:=@List.length_filter_le
def fC:=@wpAny_attempt
def fF:=@Array.getElem?_eq_some_iff
def fH:=@List.filter_append
def fI:=@Nat.le_add_right
def fJ:=@PySem.Calls.call_function_entry
def fW:=@wpAny_truthy_bool
def fX:=@PySem.F.slot_dict_keyiterator_next
def f6:=@PySem.F.type_list_append
def f7:=@PySem.F.slot_list_append
def f9:=@Nat.lt_trans
def gc:=@List.length_nil
def gh:=@PySem.Calls.spliced_cons
def gj:=@Bool.false_eq_true
def gn:=@List.getElem?_append_right
def gv:=@List.take_of_length_le
def gw:=@PySem.Calls.callWith_builtin
def gx:=@List.nodup_append
def gA:=@List.map_congr_left
def gB:=@List.filterMap_cons
def gD:=@Classical.byContradiction
def gF:=@PySem.F.args_dict_itemiterator_next_1
def gH:=@builtinLookup_eq_fast
def gR:=@PySem.F.entry_dict_itemiterator_next
def gW:=@Nat.succ_ne_zero
def gX:=@Nat.lt_of_le_of_lt
def gZ:=@plainId_quiet
def hZ:=@PySem.F.slot_dict_setdefault
def ig:=@Int.eq_ofNat_of_zero_le
def ik:=@wpAny_dictEntries
def iu:=@Bool.eq_false_iff
def iw:=@PyProof.Rows.vals1
def iA:=@Option.map_some
def iB:=@List.nil_append
def iG:=@Option.ne_none_iff_exists'
def iK:=@wpAny_isInstance
def iM:=@List.length_drop
def iN:=@wpAny_pyIter_tuple
def iO:=@wpAny_notOrdered_dict
def iU:=@PySem.F.slot_dict_get
def iX:=@List.pairwise_iff_getElem
def iY:=@List.getElem?_append_left
def i4:=@wpAny_typeNameOfWhole_itemiter
def i5:=@wpAny_specialOf
def i6:=@wpAny_rule
def i9:=@if_false
def jf:=@PySem.F.slot_zip_next
def ji:=@Option.isSome_map
def jj:=@List.append_assoc
def jm:=@forall_congr'
def jn:=@wpAny_typeNameOfWhole_keyiter
def jq:=@List.pairwise_singleton
def jt:=@wpAny_forIn_list
def ju:=@wpAny_fieldsOf
def jx:=@List.nodup_nil
def jy:=@List.lookup_cons
def jz:=@List.getElem_mem
def jC:=@wpAny_typeOf
def jD:=@wpAny_Call_Name_kw
def jG:=@Nat.le_of_eq
def jI:=@PySem.Code.quiet_builtin
def jJ:=@wpAny_updateSeq
def jK:=@wpAny_passesOwn
def jL:=@typeLookup_type
def jM:=@if_true
def jQ:=@List.range_succ
def jR:=@List.getElem?_eq_none
def jS:=@List.foldl_cons
def jU:=@PySem.F.slot_NoneType_hash
def jV:=@List.perm_ext_iff_of_nodup
def jW:=@PySem.F.slot_tuple_iterator_next
def jX:=@wpAny_pyIter_list
def jZ:=@PySem.Calls.spliced_nil
def j5:=@lookup_relabel_local
def j8:=@List.drop_eq_getElem_cons
def j9:=@PySem.Calls.evalArgs_plain
def ko:=@codeAny_mono
def kr:=@beq_self_eq_true
def kA:=@PySem.F.type_list_extend
def kB:=@PySem.F.slot_list_extend
def kC:=@Nat.le_of_not_lt
def kD:=@List.cons_append
def kF:=@Bool.eq_false_or_eq_true
def kH:=@mem_of_lookup
def kI:=@List.filter_sublist
def kL:=@wpAny_getItem_str_slice
def kM:=@PySem.F.slot_dict_items
def kN:=@List.lookup_eq_some_iff
def kQ:=@Nat.mul_assoc
def kR:=@wpAny_dictEpoch
def k8:=@beq_iff_eq
def k9:=@PySem.Obj.data_mapFields
def lB:=@Nat.not_lt
def lC:=@Bool.or_eq_true
def lK:=@Array.getElem?_eq_none
def lY:=@Nat.lt_trichotomy
def lZ:=@Nat.le_succ_of_le
def mh:=@PySem.F.slot_tuple_hash
def mC:=@isSubtype_stop
def mG:=@PySem.F.type_dict_setdefault
def mH:=@PySem.Obj.isFreed_of_fields
def mT:=@wpAny_pyIter_zip
def m6:=@codeAny_call_builtin
def m9:=@call_meets
def nc:=@Nat.pow_le_pow_right
def ng:=@List.pairwise_append
def nh:=@List.not_mem_nil
def ni:=@List.nodup_range
def nj:=@List.getElem?_of_mem
def nq:=@PySem.Heap.get?_none_of_le
def nv:=@wpAny_standAt
def nA:=@wpAny_newList
def nQ:=@List.any_cons
def om:=@List.mergeSort_perm
def oq:=@wpAny_ite_split
def ot:=@wpAny_execs_nil
def oK:=@PySem.F.plain_extend_loop
def oM:=@List.of_mem_zip
def oQ:=@sub_AttributeError
def oY:=@PyProof.Rows.plain_sorted
def pE:=@PyProof.Rows.entry_sorted
def pG:=@call_meetsIn
def pH:=@PyProof.Rows.args_sorted1
def pN:=@PySem.W.callWith_K
def pO:=@PySem.F.type_tuple_index
def pP:=@PySem.F.slot_tuple_index
def pQ:=@PySem.F.plainAttrs_tuple
def pR:=@PySem.F.args_tuple_add_2
def pS:=@PySem.F.args_dict_keyiterator_next_1
def pT:=@PyProof.Rows.F.entry_set_update_loop
def pV:=@Nat.pow_succ
def pW:=@List.map_singleton
def pX:=@List.getElem?_take_of_lt
def pY:=@Int.zero_add
def qb:=@PySem.Calls.Constant_str
def qd:=@Array.forIn_toList
def qe:=@wpAny_newTuple
def qy:=@PySem.F.entry_dict_keyiterator_next
def qF:=@PySem.F.entry_tuple_add
def qG:=@List.pairwise_mergeSort
def qH:=@List.getElem?_replicate
def qJ:=@wpAny_pyIter_slot
def qK:=@wpAny_pyIter_enum
def qL:=@wpAny_loadPart_at
def qM:=@wpAny_Call_method
def qP:=@Nat.lt_of_succ_lt
def qR:=@PySem.F.args_zip_next_1
def qU:=@wpAny_isOneOf_itemiter
def rf:=@PyProof.Rows.kind_sorted
def rn:=@PySem.F.slot_tuple_add
def rA:=@PySem.F.entry_dict_get
def rB:=@Nat.mul_add
def rC:=@List.getElem?_set_self
def rO:=@merged_length_le
def rP:=@PyProof.Rows.good_str
def rR:=@Nat.succ_ne_self
def rS:=@Nat.succ_le_succ
def rT:=@List.mem_flatMap
def rU:=@PySem.F.entry_zip_next
def sy:=@PySem.F.type_dict_get
def sJ:=@List.take_append_drop
def sM:=@Classical.choose_spec
def sO:=@typeIs_str
def sY:=@post_val_or_str
def tL:=@PyProof.Rows.entry_list_sort
def tN:=@PySem.Txt.slice_le
def tP:=@PySem.F.args_dict_setdefault_3
def tQ:=@Nat.mod_lt
def tR:=@List.replicate_succ'
def tS:=@List.mem_iff_getElem
def tT:=@List.getElem?_set_ne
def tU:=@List.find?_cons
def tV:=@List.filter_nil
def tY:=@Bool.and_eq_true_iff
def tZ:=@PySem.Around.under_plainId
def ub:=@PySem.F.entry_dict_setdefault
def uc:=@wpAny_dictSet_pairs
def uj:=@PySem.W.plainGet_of
def uk:=@List.flatMap_append
def uq:=@PySem.F.plain_extend_loop
def uz:=@PyProof.Rows.slot_list_sort
def uM:=@PyProof.Rows.joinParts_cons
def uT:=@PyProof.Rows.args_list_sort
def uU:=@PySem.F.slot_dict_items_iter
def uW:=@PySem.F.args_tuple_iterator_next_1
def uX:=@Bool.false_and
def uY:=@wpAny_letGo
def u0:=@PyProof.Rows.vals2
def vI:=@PyProof.Rows.assignInOrder_cons
def vJ:=@List.mem_replicate
def vK:=@List.getElem?_drop
def vL:=@Int.emod_lt_of_pos
def vM:=@PySem.F.entry_tuple_iterator_next
def vP:=@Array.getD_eq_getD_getElem?
def vR:=@PyProof.Rows.listUpdate_at
def vU:=@List.length_eraseIdx_of_lt
def vV:=@List.exists_cons_of_ne_nil
def vX:=@PySem.Calls.Name_function_global
def vY:=@Array.perm_iff_toList_perm
def vZ:=@wpAny_setState_of
def wo:=@Nat.mul_left_comm
def wq:=@List.any_eq_false
def wt:=@PySem.Heap.SameBut.refl
def wx:=@Function.comp_def
def wy:=@Bool.not_eq_true'
def wz:=@Array.toList_push
def wA:=@wpAny_letOwnedTupleGo_zip
def wB:=@wpAny_call
def wQ:=@PySem.F.entry_extend_loop
def wR:=@PySem.F.args_dict_items_1
def wU:=@Option.isSome_iff_ne_none
def wV:=@List.mem_of_find?_eq_some
def wW:=@List.exists_mem_of_ne_nil
def xg:=@wpAny_askSetting
def xt:=@or_false
def xx:=@noFill_tuple_add
def xA:=@merged_take_succ
def xY:=@PySem.F.type_list_insert
def xZ:=@PySem.F.slot_list_insert
def ya:=@PySem.F.slot_dict_update
def yb:=@PySem.F.entry_dict_items
def yc:=@Prod.ext
def yd:=@Option.isSome_iff_exists
def ye:=@Nat.succ_pos
def yf:=@Nat.sub_self
def yg:=@Nat.add_zero
def yh:=@List.sublist_append_left
def yi:=@List.length_erase_of_mem
def yj:=@List.ext_getElem
def yk:=@List.any_map
def yl:=@List.Pairwise.imp_of_mem
def yx:=@Array.toList_inj
def yy:=@Array.getElem?_replicate
def yz:=@wpAny_Call_method0_late
def yB:=@PySem.F.type_dict_items
def yC:=@PySem.F.args_dict_get_3
def yD:=@Nat.add_sub_cancel_left
def yE:=@List.Pairwise.filterMap
def yI:=@size_of_entries
def zb:=@Nat.min_eq_left
def zd:=@List.forIn_cons
def ze:=@List.cons.injEq
def zf:=@Int.emod_nonneg
def zi:=@PySem.Heap.DictOf.new
def zm:=@wpAny_pyNext_list_item
def zo:=@wpAny_nextOf_list_item
def zp:=@wpAny_Assign_Subscript
def zy:=@PyProof.Rows.subscriptTail_builtinR
def zB:=@PyProof.Rows.seqEpoch_at
def zP:=@PySem.W.cellsFrom_some
def zQ:=@PySem.F.slot_dict_iter
def zR:=@Nat.mod_mul
def zS:=@List.range_succ_eq_map
def zT:=@List.pairwise_lt_range
def zU:=@List.length_pos_of_mem
def Ab:=@wpAny_tryCatch
def Ac:=@wpAny_pyNext_list_end
def Ad:=@wpAny_loadPart
def Ae:=@wpAny_isTrue_Compare1
def Af:=@wpAny_isOneOf_keyiter
def AD:=@isSubtype_type
def AJ:=@entryFor_alias
def AM:=@callType_codes
def AN:=@PySem.F.plain_set_new
def AS:=@List.take_zero
def AU:=@List.perm_cons
def AV:=@List.forIn_nil
def AY:=@Bool.and_false
def AZ:=@wpAny_raiseAttrError
def A1:=@wpAny_pyIter_keyiter
def A2:=@wpAny_loadName_local
def BG:=@PySem.W.KIN.val_back
def BH:=@PySem.F.slot_list_lt
def BJ:=@PySem.Obj.data_mapDictKeys
def BK:=@List.mem_of_mem_take
def BL:=@List.mem_erase_of_ne
def BM:=@PySem.F.kt_typeCall_dict_1
def BN:=@PySem.F.args_list_extend_2
def BO:=@PySem.F.args_list_append_2
def BX:=@Array.mem_toList_iff
def BY:=@wpAny_onRaise
def B1:=@seq_tuple_add
def Cp:=@Nat.add_assoc
def Cq:=@List.sum_cons
def Cr:=@List.nil_perm
def Cs:=@Bool.true_and
def Cu:=@wpAny_loadName_cell
def Cv:=@wpAny_isSubtype_exc
def Cy:=@evalArgs_none
def Cz:=@PySem.W.kdu_collect
def CA:=@PyProof.Rows.lt_str
def CB:=@PySem.Heap.get?_update_ne
def CC:=@PySem.F.entry_list_extend
def CD:=@PySem.F.entry_list_append
def CF:=@PySem.Calls.call_len_list
def CI:=@wpAny_eqBool_tuple
def CQ:=@seqIndex_neg
def De:=@putSet_of
def Ds:=@of_decide_eq_false
def D7:=@concat_meets
def Ef:=@PySem.SeqAt.EqAt.str_str
def Eg:=@PySem.SeqAt.EqAt.str_int
def Eh:=@PySem.SeqAt.EqAt.int_str
def Ei:=@PySem.SeqAt.EqAt.int_int
def Ej:=@PySem.W.tail_of_in
def Ek:=@PySem.F.called_set
def Em:=@Option.isSome_some
def Eo:=@Nat.lt_or_eq_of_le
def Ep:=@List.ne_nil_of_mem
def Er:=@List.map_nil
def Es:=@List.map_filterMap
def Et:=@List.getElem?_take
def Eu:=@List.find?_eq_none
def Ew:=@List.filterMap_map
def Ex:=@List.countP_append
def Ey:=@List.contains_cons
def Ez:=@List.all_map
def EC:=@PySem.F.slot_list_extend
def ED:=@PySem.F.slot_list_append
def EE:=@PySem.F.args_dict_init_2
def EG:=@Bool.or_true
def E9:=@PyProof.Rows.Call_
def Fb:=@wpAny_storeSet_of
def Fc:=@wpAny_assign_Name
def Ff:=@eqIsQuiet_byValue
def Fg:=@bne_self_eq_false
def Fh:=@PyProof.Rows.assignInOrder_nil
def Fl:=@list_append
def Fn:=@PySem.W.kitx_list
def Fo:=@Option.mem_toList
def Fq:=@PySem.Obj.cls_mapFields
def Ft:=@List.foldl_append
def Fu:=@List.find?_isSome
def Fv:=@List.ext_getElem?
def Fw:=@PySem.F.entry_dict_init
def Fy:=@wpAny_of_eq
def Fz:=@wpAny_mkInt
def FH:=@seqIndex_of
def Gr:=@PySem.Paired.snoc
def Gs:=@Nat.add_mul
def GY:=@PyProof.Rows.good_int
def He:=@PyProof.Rows.boot_all
def Hq:=@wpAny_load
def Hr:=@wpAny_Name
def Hv:=@strKind_is
def Jv:=@PySem.Walks.list
def Jw:=@PyProof.Rows.Subscript_
def Kt:=@Iff.rfl
end
namespace L2
open PySem PySem.Spec PyProof.Rows
def inClass(s:xz)(j:Nat):xz:=match s with
 | .ClassDef _ _ _ body _ _ _ _ _ _ _=>body.getD j<|.Pass {0,0,0,0}
 |_=>.Pass {0,0,0,0}
def qr(s:xz):Arguments:=match s with
 | .FunctionDef _ a _ _ _ _ _ _ _ _=>a
 |_=>{posonlyargs:=[],args:=[],vararg:=none,kwonlyargs:=[],kw_defaults:=[],kwarg:=none,defaults:=[]}
def mD(s:xz):List xz:=match s with
 | .FunctionDef _ _ b _ _ _ _ _ _ _=>b
 |_=>[]
def bo(s:xz):AC:=match s with
 | .FunctionDef _ _ _ _ _ _ sc _ _ _=>sc
 |_=>{kind:=.function,names:=[],isGenerator:=false,isCoroutine:=false}
end L2
namespace kE
open PySem PySem.Spec PyProof.Rows L2
def top(i:Nat):xz:=PySem.Challenge.pw_askviews_k64_too_many_candidates.main.body.getD i<|.Pass {0,0,0,0}
end kE
namespace Hd
open PySem PySem.W PyProof.Rows PySem.W.Fast
abbrev pos0:GM:={0,0,0,0}
abbrev tb:=tw14364793385576792824
abbrev an0:Aah:=some<|.ref 6
def env0(p:io):Uf:={scope:=p.main.scope,locals:=mainNs,globals:=mainNs,cells:=[],code:=.ref 13,frame:=some 014}
def cd0(p:io):Code:=.body (M' p)<|env0 p
abbrev B0:List Frame:=[topFrame pos0]
def S0(w:mo)(os:C'):fv:={boot_heap w.params,Array.mk [],boot_drawn,boot_toks,os}
def mkT(l:List Go):Nat->Nat->Nat->BT
 |0,_,_=>.nil
 |f+1,a,b=>match l[b]? with
  |some o=>.node o (mkT l f (2*a)<|a+b)<|mkT l f (2*a)<|2*a+b
  |none=>.nil
def toT(s:fv):SharedT:={mkT s.heap.objs.toList 6 1 0,35,s.heap.life,s.gens,s.drawn,89,s.os}
def pre(p:io)(w:mo)(os:C'):SharedT:=match tw15667345088766844465 tb p w 11 an0 12 (S0 w os) (topStub p)with
 |some r=>toT r.1
 |none=>toT<|S0 w os
def body(p:io)(n:Nat)(w:mo)(os:C'):Option (Flow×SharedT×Code×GM):=
 tw10110043849684766642 tb p w 11 an0 1 n (pre p w os) (piecesOf (M' p) (env0 p) (cd0 p) pos0 B0)
def aft(p:io)(n:Nat)(w:mo)(os:C'):SharedT:=match body p n w os with
 |some r=>r.2.1
 |none=>toT<|S0 w os
def posL(p:io)(n:Nat)(w:mo)(os:C'):GM:=match body p n w os with
 |some r=>r.2.2.2
 |none=>pos0
def fin(p:io)(n:Nat)(w:mo)(os:C'):fv:=match tw14082659384304107361 tb p w 11 an0 2 (aft p n w os).abs {doneF .next,cd0 p,posL p n w os,B0}with
 |some s=>s
 |none=>S0 w os
structure Ok(p:io)(n:Nat):Prop where
 pre:∀w os,tw15667345088766844465 tb p w 11 an0 12 (S0 w os) (topStub p)>((Hd.pre p w os).abs,{tw11892475500146522536 tb<|cd0 p,cd0 p,pos0,B0})
 block:∀w os,tw14374325043358763698 tb p w 11 an0 1 1 (Hd.pre p w os).abs (blockOf (M' p) (env0 p) (cd0 p) pos0 B0)>(.next,(Hd.pre p w os).abs,cd0 p,pos0)
 body:∀w os,Hd.body p n w os>(.next,aft p n w os,cd0 p,posL p n w os)
 fin:∀w os,tw14082659384304107361 tb p w 11 an0 2 (aft p n w os).abs {doneF .next,cd0 p,posL p n w os,B0}>Hd.fin p n w os
def run(o:Ok p n)(w:mo)(os:C'):topRun ZB p w 11 an0 (12+(1+(n+2))) (S0 w os) (topStub p)>fin p n w os:=by have h1:=o.pre w os;have h2:=o.block w os;have h3:=o.body w os;have h4:=o.fin w os;unfold Hd.body at h3;unfold tb at h1 h2 h3 h4;rw[<-te15667345088766844465,<-te14364793385576792824,<-te11892475500146522536]at h1;rw[<-te14374325043358763698,<-te14364793385576792824]at h2;rw[<-te10110043849684766642,<-te14364793385576792824]at h3;rw[<-te14082659384304107361,<-te14364793385576792824]at h4;have k:topRun ZB p w 11 an0 (n+2) (Hd.pre p w os).abs (restOf (M' p++[]) (env0 p) (cd0 p) pos0 B0)>fin p n w os:=piece_app (segRun_of h3)<|piece_nil h4;rw[cy]at k;show go_top h1<|piece_block h2 k
def left(o:Ok p n)(hN:Nat.ble (12+(1+(n+2))) N=true)(he:opening p=plainProg p.main.scope.names)(h6:Nat.ble 600 N=true)(hf:∀s,fenceModules? p s>s)
  (l1:∀w os,(staticsOk (IR p.main.body) (boot_heap w.params) (fin p n w os).heap&&namesBound p (fin p n w os).heap&&gensDone (fin p n w os)&&laidKept (boot_heap w.params) (fin p n w os).heap)=true)
  (l2:∀w os,openSeen q loose (IR p.main.body) Xt g0 (fin p n w os)=openGood q loose) (l3:∀w os,Yf (fin p n w os)=Ya w):LeftO p q loose Xt Yf Ya N g0:=λw=>by
 let(s,e,e'):=aY.mp<|boot_open he h6 hf w;obtain⟨os,rfl⟩:∃os,s=S0 w os:=by let(h,g,d,t,os):=s;simp only[Prod.mk.injEq]at e';let(rfl,rfl,rfl,rfl):=e';show⟨os,rfl⟩
 have r:=topRun_mono (N -(12+(1+(n+2)))) _ _ _ _<|run o w os;rw[show 12+(1+(n+2))+(N -(12+(1+(n+2))))=N by have:=Nat.le_of_ble_eq_true hN;lia]at r;have z1:((S0 w os).heap.isNs ww&&(S0 w os).gens.size==0)=true:=by kernel_rfl
 have z2:(S0 w os).heap.objs.size=11:=by kernel_rfl
 have z3:(S0 w os).heap.nsMap ww "__annotations__"=an0:=by kernel_rfl
 have t:topFrom ZB p w N (S0 w os)>fin p n w os:=by unfold topFrom;rw[z1,z2,z3,r];have q:=l1 w os;change(match _ with|true=>_|false=>_)=_;rw[show(staticsOk (IR p.main.body) (S0 w os).heap (fin p n w os).heap&&namesBound p (fin p n w os).heap&&gensDone (fin p n w os)&&laidKept (S0 w os).heap (fin p n w os).heap)=true from q]
 unfold openEnds;rw[e];change(topFrom ZB p w N _).map _=_;rw[t];show c8 some<|yc (l2 w os)<|l3 w os
end Hd
namespace kE
open PySem PySem.Spec PyProof.Rows L2
abbrev cO(vs:Aaf):Go:={.type "code",none,.fields vs.toArray,#[]}
abbrev kO(P:Params)(x:pi)(t:Tok)(v:jp):Do:={PyData.keyHash P x,.str x t,v}
abbrev fO(s:xz)(n q:pi)(pm cd:jp):Go:={.type "function",none,.func<|fnOf n q (qr s) (mD s) (bo s) .none .none .none pm none cd .none,#[]}
abbrev cF(x q:pi)(a b c:Tok)(l n:Int)(r r1:cr)(v1 v2:jp)(r2:cr)(i:Int)(d:Tok):Go:=cO [.str x a,.str q b,.str "/claim/cut.py" c,.int l 0,.int n 0,.int 0 0,.int 0 0,.int 3 0,-r,.bool true,.int 181 0,-r1,.none,v1,v2,-r2,.int i 0,.int l 0,.str "/claim/cut.py" d]
abbrev RC:jp:=Value.str "askviews.terms" 187
abbrev RB:jp:=Value.str "askviews.questions" 217
abbrev RA:jp:=Value.str "askviews.tables" 244
abbrev mQ:jp:=Value.str "askviews.answers" 274
abbrev sg:jp:=Value.str "askviews.maps" 582
abbrev mO6:jp:=Value.str "askviews.within" 696
abbrev mO7:jp:=Value.str "askviews.least" 713
abbrev B9:jp:=Value.str "askviews.unfolding" 722
abbrev wa:jp:=Value.str "askviews.rewriting" 771
abbrev og:jp:=Value.str "law_askviews_k64_too_many_candidates" 834
abbrev fP(A:Nat)(s:xz)(x q:pi)(m:jp)(a:Nat)(l n:Int)(r r1:cr)(v1 v2:jp)(i:Nat)(K:Frag):Frag:=(A,cF x q a (a+1) (a+2) l n r r1 v1 v2 (A -1) (.ofNat i)<|i+1)::(A+1,fO s x q m (-A))::K
abbrev fN(A:Nat)(s:xz)(x q:pi)(m:jp)(a:Nat)(l n:Int)(i:Nat)(K:Frag):Frag:=fP A s x q m a l n (A -3) (A -2) .none .none i K
abbrev fM(A:Nat)(s:xz)(x q:pi)(m:jp)(a:Nat)(l n:Int)(i:Nat)(K:Frag):Frag:=fP A s x q m a l n (A -5) (A -4) (.ref<|A -3) (.ref<|A -2) i K
abbrev gN(A:Nat)(i:Nat)(x:pi)(m:jp)(a:Nat)(l n:Int)(j:Nat)(K:Frag):Frag:=fN A (top i) x x m a l n j K
abbrev kc(A:Nat)(o:Go)(K:Frag):Frag:=(A,o)::K
abbrev gM(A:Nat)(i:Nat)(x:pi)(m:jp)(a:Nat)(l n:Int)(j:Nat)(K:Frag):Frag:=fM A (top i) x x m a l n j K
noncomputable def KF(P:Params):Frag:=
 kc 2 {.none,none,.dict #[] 0,#[]}<|
 kc 3 {.type "dict",none,.dict #[kO P "__name__" 165<|.str "law_askviews_k64_too_many_candidates" 834,kO P "__doc__" 166 .none,kO P "__package__" 167 .none,kO P "__loader__" 168<|.builtin "__main__.__loader__#opaque",kO P "__spec__" 169 .none,kO P "__annotations__" 170<|.ref 6,kO P "__builtins__" 171<|.ref 4,kO P "__file__" 173<|.str "/claim/cut.py" 172,kO P "__cached__" 174 .none,kO P "SIGNS" 190<|.str "abcdefghijklmnopqrstuvwxyz0123456789" 189,kO P "MOST_SIGNS" 192<|.int 08 191,kO P "is_value" 198<|.ref 019,kO P "is_unknown" 205<|.ref 026,kO P "new_values" 216<|.ref 033,kO P "unknowns_of" 228<|.ref 40,kO P "terms_of" 237<|.ref 047,kO P "loose_unknowns" 243<|.ref 052,kO P "rows_of" 253<|.ref 059,kO P "tables_of" 263<|.ref 066,kO P "sorted_tables" 273<|.ref 073,kO P "answers" 283<|.ref 080,kO P "counts_of" 296<|.ref 087,kO P "needed_terms" 307<|.ref 094,kO P "Asking" 363<|.ref 131,kO P "narrowed" 377<|.ref 142,kO P "places_of" 387<|.ref 149,kO P "image" 393<|.ref 299,kO P "image_answers" 394<|.ref 154,kO P "is_image" 400<|.ref 159,kO P "tails_by_key" 406<|.ref 164,kO P "AskError" 426 25,kO P "NoText" 451<|.ref 194,kO P "Loose" 476<|.ref 213,kO P "NoView" 501<|.ref 232,kO P "TooMany" 517<|.ref 244,kO P "Twice" 533<|.ref 256,kO P "NoHeld" 549<|.ref 268,kO P "NoAsk" 565<|.ref 280,kO P "NoRow" 581<|.ref 292,kO P "image_maps" 590<|.ref 299,kO P "found_map" 599<|.ref 306,kO P "fitted" 612<|.ref 313,kO P "MapSearch" 676<|.ref 354,kO P "parts_of" 689<|.ref 365,kO P "is_touched" 695<|.ref 370,kO P "within" 706<|.ref 377,kO P "parted" 712<|.ref 382,kO P "is_bound" 721<|.ref 389,kO P "unfolded" 731<|.ref 396,kO P "unfolded_parts" 737<|.ref 401,kO P "joined" 746<|.ref 408,kO P "check_views" 758<|.ref 415,kO P "new_unknowns" 764<|.ref 420,kO P "inner_unknowns" 770<|.ref 425,kO P "MOST_CANDIDATES" 774<|.int 10 773,kO P "candidates" 780<|.ref 430,kO P "rewritten" 786<|.ref 435,kO P "spare_ways" 794<|.ref 442,kO P "widest_rewriting" 803<|.ref 449,kO P "back_map" 813<|.ref 456,kO P "ways_of" 819<|.ref 461,kO P "is_whole" 827<|.ref 468,kO P "sets_with" 833<|.ref 473,kO P "_law_cell_at" 844<|.ref 480,kO P "_law_box" 853<|.ref 487,kO P "_law_take" 863<|.ref 494,kO P "_law_same" 869<|.ref 499,kO P "_law_refused" 880<|.ref 506,kO P "_law_ways_right" 886<|.ref 511,kO P "law" 892<|.ref 516] 070,#[]}<|
 gN 18 3 "is_value" RC 193 4 1 196<|
 gM 025 4 "is_unknown" RC 199 08 1 203<|
 gM 32 5 "new_values" RC 206 10 2 214<|
 gM 039 07 "unknowns_of" RB 219 020 1 226<|
 gM 046 08 "terms_of" RB 229 027 1 235<|
 gN 051 09 "loose_unknowns" RB 238 32 1 241<|
 gM 058 11 "rows_of" RA 246 036 2 251<|
 gM 065 12 "tables_of" RA 254 038 1 261<|
 gM 072 13 "sorted_tables" RA 264 043 1 271<|
 gM 079 15 "answers" mQ 276 051 2 281<|
 gM 086 016 "counts_of" mQ 284 053 2 294<|
 gM 093 017 "needed_terms" mQ 297 061 2 305<|
 fM 107 (inClass (top 18) 0) "__init__" "Asking.__init__" mQ 320 068 2 325<|
 fN 112 (inClass (top 18) 1) "best_place" "Asking.best_place" mQ 328 074 2 331<|
 fN 117 (inClass (top 18) 2) "take" "Asking.take" mQ 334 084 3 337<|
 fN 122 (inClass (top 18) 3) "fresh_unknowns" "Asking.fresh_unknowns" mQ 340 093 2 343<|
 fN 127 (inClass (top 18) 4) "tails_of_maps" "Asking.tails_of_maps" mQ 346 096 2 349<|
 kc 130 {.type "dict",none,.dict #[kO P "__module__" 315<|.str "askviews.answers" 274,kO P "__firstlineno__" 319<|.int 066 318,kO P "__init__" 327<|.ref 108,kO P "best_place" 333<|.ref 113,kO P "take" 339<|.ref 118,kO P "fresh_unknowns" 345<|.ref 123,kO P "tails_of_maps" 351<|.ref 128,kO P "__static_attributes__" 356<|.ref 129,kO P "__dict__" 358<|.ref 132,kO P "__weakref__" 360<|.ref 133,kO P "__doc__" 361 .none] 4,#[]}<|
 kc 131 {.type "type",none,.cls {"Asking",[45],[(.ref 131),45],130,"Asking",true,[],[],false,none,false},#[none,none,some<|.str "Asking" 308,some<|.str "Asking" 316,some<|.builtin "object.__new__",some 17]}<|
 kc 132 {.type "getset_descriptor",none,.fields #[(.str "__dict__" 357),.ref 131,.builtin "function.__dict__",.builtin "function.__dict__#set"],#[]}<|
 kc 133 {.type "getset_descriptor",none,.fields #[(.str "__weakref__" 359),.ref 131,.builtin "ExceptionGroup.__weakref__",.none],#[]}<|
 gM 141 019 "narrowed" mQ 364 105 3 375<|
 gM 148 020 "places_of" mQ 378 112 1 385<|
 gN 153 021 "image" mQ 388 117 3 391<|
 gN 158 023 "is_image" mQ 395 120 2 398<|
 gN 163 024 "tails_by_key" mQ 401 124 4 404<|
 kc 173 {.type "dict",none,.dict #[kO P "__module__" 416<|.str "askviews.errors" 407,kO P "__firstlineno__" 420<|.int 132 419,kO P "__static_attributes__" 421<|.ref 172,kO P "__weakref__" 423<|.ref 175,kO P "__doc__" 424 .none] 3,#[]}<|
 kc 174 {.type "type",none,.cls {"AskError",[38],[25,38,59,79,45],173,"AskError",true,[],[(.ref 194),.ref 213,.ref 232,.ref 244,.ref 256,.ref 268,.ref 280,.ref 292],false,none,false},#[some<|.ref 165,none,some<|.str "AskError" 409,some<|.str "AskError" 417,some 16,some 17]}<|
 kc 175 {.type "getset_descriptor",none,.fields #[(.str "__weakref__" 422),25,.builtin "ExceptionGroup.__weakref__",.none],#[]}<|
 kc 194 {.type "type",none,.cls {"NoText",[25],[(.ref 194),25,38,59,79,45],193,"NoText",true,[],[],false,none,false},#[some<|.ref 178,none,some<|.str "NoText" 427,some<|.str "NoText" 435,some 16,some 17]}<|
 kc 213 {.type "type",none,.cls {"Loose",[25],[(.ref 213),25,38,59,79,45],212,"Loose",true,[],[],false,none,false},#[some<|.ref 197,none,some<|.str "Loose" 452,some<|.str "Loose" 460,some 16,some 17]}<|
 kc 232 {.type "type",none,.cls {"NoView",[25],[(.ref 232),25,38,59,79,45],231,"NoView",true,[],[],false,none,false},#[some<|.ref 216,none,some<|.str "NoView" 477,some<|.str "NoView" 485,some 16,some 17]}<|
 kc 243 {.type "dict",none,.dict #[kO P "__module__" 509<|.str "askviews.errors" 407,kO P "__firstlineno__" 513<|.int 149 512,kO P "__static_attributes__" 514<|.ref 242,kO P "__doc__" 515 .none] 2,#[]}<|
 kc 244 {.type "type",none,.cls {"TooMany",[25],[(.ref 244),25,38,59,79,45],243,"TooMany",true,[],[],false,none,false},#[some<|.ref 235,none,some<|.str "TooMany" 502,some<|.str "TooMany" 510,some 16,some 17]}<|
 kc 256 {.type "type",none,.cls {"Twice",[25],[(.ref 256),25,38,59,79,45],255,"Twice",true,[],[],false,none,false},#[some<|.ref 247,none,some<|.str "Twice" 518,some<|.str "Twice" 526,some 16,some 17]}<|
 kc 268 {.type "type",none,.cls {"NoHeld",[25],[(.ref 268),25,38,59,79,45],267,"NoHeld",true,[],[],false,none,false},#[some<|.ref 259,none,some<|.str "NoHeld" 534,some<|.str "NoHeld" 542,some 16,some 17]}<|
 kc 280 {.type "type",none,.cls {"NoAsk",[25],[(.ref 280),25,38,59,79,45],279,"NoAsk",true,[],[],false,none,false},#[some<|.ref 271,none,some<|.str "NoAsk" 550,some<|.str "NoAsk" 558,some 16,some 17]}<|
 kc 292 {.type "type",none,.cls {"NoRow",[25],[(.ref 292),25,38,59,79,45],291,"NoRow",true,[],[],false,none,false},#[some<|.ref 283,none,some<|.str "NoRow" 566,some<|.str "NoRow" 574,some 16,some 17]}<|
 gN 298 036 "image" sg 584 160 2 587<|
 gM 305 038 "found_map" sg 591 163 2 597<|
 gM 312 039 "fitted" sg 600 168 3 610<|
 fM 326 (inClass (top 40) 0) "__init__" "MapSearch.__init__" sg 625 179 2 630<|
 fM 333 (inClass (top 40) 1) "add" "MapSearch.add" sg 633 184 2 642<|
 fM 340 (inClass (top 40) 2) "mapped" "MapSearch.mapped" sg 645 191 3 652<|
 fN 345 (inClass (top 40) 3) "mapped_part" "MapSearch.mapped_part" sg 655 198 3 658<|
 fN 350 (inClass (top 40) 4) "aims_of" "MapSearch.aims_of" sg 661 213 3 664<|
 kc 353 {.type "dict",none,.dict #[kO P "__module__" 620<|.str "askviews.maps" 582,kO P "__firstlineno__" 624<|.int 177 623,kO P "__init__" 632<|.ref 327,kO P "add" 644<|.ref 334,kO P "mapped" 654<|.ref 341,kO P "mapped_part" 660<|.ref 346,kO P "aims_of" 666<|.ref 351,kO P "__static_attributes__" 669<|.ref 352,kO P "__dict__" 671<|.ref 355,kO P "__weakref__" 673<|.ref 356,kO P "__doc__" 674 .none] 4,#[]}<|
 kc 354 {.type "type",none,.cls {"MapSearch",[45],[(.ref 354),45],353,"MapSearch",true,[],[],false,none,false},#[none,none,some<|.str "MapSearch" 613,some<|.str "MapSearch" 621,some<|.builtin "object.__new__",some 17]}<|
 kc 355 {.type "getset_descriptor",none,.fields #[(.str "__dict__" 670),.ref 354,.builtin "function.__dict__",.builtin "function.__dict__#set"],#[]}<|
 kc 356 {.type "getset_descriptor",none,.fields #[(.str "__weakref__" 672),.ref 354,.builtin "ExceptionGroup.__weakref__",.none],#[]}<|
 gM 364 041 "parts_of" sg 677 222 2 687<|
 gN 369 042 "is_touched" sg 690 234 3 693<|
 gM 376 044 "within" mO6 698 238 2 704<|
 gN 381 045 "parted" mO6 707 243 2 710<|
 gM 388 047 "is_bound" mO7 715 250 1 719<|
 gM 395 049 "unfolded" B9 724 253 2 729<|
 gN 400 050 "unfolded_parts" B9 732 255 2 735<|
 gM 407 051 "joined" B9 738 267 1 744<|
 gM 414 052 "check_views" B9 747 272 2 756<|
 gN 419 053 "new_unknowns" B9 759 277 2 762<|
 gN 424 054 "inner_unknowns" B9 765 281 1 768<|
 gN 429 057 "candidates" wa 775 285 2 778<|
 gN 434 058 "rewritten" wa 781 291 2 784<|
 gM 441 059 "spare_ways" wa 787 302 2 792<|
 gM 448 060 "widest_rewriting" wa 795 304 2 801<|
 gM 455 061 "back_map" wa 804 309 3 811<|
 gN 460 62 "ways_of" wa 814 312 3 817<|
 gM 467 63 "is_whole" wa 820 323 2 825<|
 gN 472 64 "sets_with" wa 828 325 2 831<|
 gM 479 066 "_law_cell_at" og 836 332 2 842<|
 gM 486 067 "_law_box" og 845 339 2 851<|
 gM 493 068 "_law_take" og 854 342 2 861<|
 gN 498 069 "_law_same" og 864 350 2 867<|
 gM 505 070 "_law_refused" og 870 363 3 878<|
 gN 510 071 "_law_ways_right" og 881 374 3 884<|
 gN 515 072 "law" og 887 388 1 890<|[]
noncomputable def asF:Aai:=[2,3,18,019,025,026,32,033,039,40,046,047,051,052,058,059,065,066,072,073,079,080,086,087,093,094,107,108,112,113,117,118,122,123,127,128,130,131,132,133,141,142,148,149,153,154,158,159,163,164,173,174,175,194,213,232,243,244,256,268,280,292,298,299,305,306,312,313,326,327,333,334,340,341,345,346,350,351,353,354,355,356,364,365,369,370,376,377,381,382,388,389,395,396,400,401,407,408,414,415,419,420,424,425,429,430,434,435,441,442,448,449,455,456,460,461,467,468,472,473,479,480,486,487,493,494,498,499,505,506,510,511,515,516]
def HF:PySem.W.Hook:=PySem.W.kHook KF asF λ_=>by kernel_rfl
noncomputable def qf(p:io):io:={p with main:={p.main with body:=[1,2,3,4,5,07,08,09,11,12,13,15,016,017,18,019,020,022,023,024,026,027,028,029,030,031,32,033,034,036,037,038,039,40,041,042,044,045,047,049,050,051,052,053,054,056,057,058,059,060,061,62,63,64,066,067,068,069,070,071,072].filterMap λi=>p.main.body[i]?}}
abbrev XF(p:io)(s:fv):Bool:=PySem.W.xlAt (qf p) [] s&&PySem.W.recOk [] s
abbrev LF(p:io):Prop:=PySem.W.LeftO p (qf p) ["image_answers","image_maps"] (XF p) (PySem.W.Hook.obs HF) (PySem.W.Hook.val HF) 8480
abbrev pL:io:=PySem.Challenge.pw_askviews_k64_too_many_candidates
def okL:Hd.Ok pL 4178:={λw os=>by kernel_rfl,λw os=>by kernel_rfl,λw os=>by kernel_rfl,λw os=>by kernel_rfl}
def l1L(w:mo)(os:C'):(PySem.W.staticsOk (IR pL.main.body) (PySem.W.boot_heap w.params) (Hd.fin pL 4178 w os).heap&&PySem.W.namesBound pL (Hd.fin pL 4178 w os).heap&&PySem.W.gensDone (Hd.fin pL 4178 w os)&&PySem.W.laidKept (PySem.W.boot_heap w.params) (Hd.fin pL 4178 w os).heap)=true:=by kernel_rfl
def l2L(w:mo)(os:C'):PySem.W.Fast.tw4187177175401517315 (qf pL) ["image_answers","image_maps"] (IR pL.main.body) (XF pL) true (Hd.fin pL 4178 w os)=PySem.W.openGood (qf pL) ["image_answers","image_maps"]:=by kernel_rfl
def l3L(w:mo)(os:C'):asF.map (Hd.fin pL 4178 w os).heap.get?=(KF w.params).map λp=>some p.2:=by kernel_rfl
def agC:LF pL:=Hd.left (n:=4178) okL 98 98 98 (λs=>by kernel_rfl) l1L (λw os=>by rw[PySem.W.Fast.te4187177175401517315];show l2L w os) l3L
def head:LF PySem.Challenge.pw_askviews_k64_too_many_candidates:=agC
end kE
namespace L2
open PySem PySem.Spec PyProof.Rows
abbrev Key:=Sum Int pi
def Bt:Key->jp->Bool
 | .inl k,v=>Value.isInt k v
 | .inr x,v=>Value.isStrOf x v
def ahk(w:mo):Key->Int
 | .inl k=>hashInt k
 | .inr x=>hashStr w x
theorem i3:∀{k:Key}{v:jp},Bt k v=true->(∃i t,k=Sum.inl i/\v=Value.int i t)\/(∃x t,k=Sum.inr x/\v=Value.str x t)
 | .inl i,v,h=>by let(t,e):=Value.isInt_shape h;show .inl ⟨i,t,rfl,e⟩
 | .inr x,v,h=>by let(t,e):=Value.isStrOf_shape h;show .inr ⟨x,t,rfl,e⟩
def WH(i:Int)(t:Tok):Bt (.inl i) (.int i t)=true:=by simp[Bt,Value.isInt]
def WG(x:pi)(t:Tok):Bt (.inr x) (.str x t)=true:=by simp[Bt,Value.isStrOf]
def aeB(a b:Int):decide ((Sum.inl a:Key)=Sum.inl b)=(a==b):=by
 by_cases e:a=b;·subst e;simp
 have h:¬(Sum.inl a:Key)=Sum.inl b:=λq=>e<|Sum.inl.inj q;rw[bQ h];show(dq.mpr e).symm
def aey(a b:pi):decide ((Sum.inr a:Key)=Sum.inr b)=decide (a=b):=by
 by_cases e:a=b;·subst e;simp
 have h:¬(Sum.inr a:Key)=Sum.inr b:=λq=>e<|Sum.inr.inj q;rw[bQ h,bQ e]
def aeA(a:Int)(b:pi):decide ((Sum.inl a:Key)=Sum.inr b)=false:=bQ (λq=>nomatch q)
def aez(a:pi)(b:Int):decide ((Sum.inr a:Key)=Sum.inl b)=false:=bQ (λq=>nomatch q)
noncomputable def b4(prog:io)(w:mo):PySem.KeyKind prog w Key where
 is:=Bt
 hash:=ahk w
 inj:=λv a b ha hb=>by
  rcases i3 ha with⟨i,t,rfl,rfl⟩|⟨x,t,rfl,rfl⟩
  ·rcases i3 hb with⟨j,u,rfl,e⟩|⟨y,u,rfl,e⟩;·injection e with e1 _;rw[e1]
   show nomatch e
  rcases i3 hb with⟨j,u,rfl,e⟩|⟨y,u,rfl,e⟩;·show nomatch e
  injection e with e1 _;rw[e1]
 byValue:=λk v h=>by rcases i3 h with⟨i,t,rfl,rfl⟩|⟨x,t,rfl,rfl⟩<;>rfl
 pyHash:=λhv h=>by
  rcases i3 hv with⟨i,t,rfl,rfl⟩|⟨x,t,rfl,rfl⟩;·show wpAny_pyHash_int h
  show wpAny_pyHash_str h
 eqBool:=λhu hv h=>by
  rcases i3 hu with⟨i,t,rfl,rfl⟩|⟨x,t,rfl,rfl⟩
  ·rcases i3 hv with⟨j,u,rfl,rfl⟩|⟨y,u,rfl,rfl⟩;·rw[aeB]at h;show wpAny_eqBool_int h
   rw[aeA]at h;show Eh i t y u _ _ _ _ h
  rcases i3 hv with⟨j,u,rfl,rfl⟩|⟨y,u,rfl,rfl⟩;·rw[aez]at h;show Eg x t j u _ _ _ _ h
  rw[aey]at h;show wpAny_eqBool_str h
 «strs»:=λk x t v h=>by
  rcases i3 h with⟨i,u,rfl,e⟩|⟨y,u,rfl,e⟩;·show nomatch e
  injection e with e1 _;subst e1;cases v<;>rfl
def Qc(prog:io)(w:mo)(i:Int)(t:Tok):(b4 prog w).is (.inl i) (.int i t)=true:=WH i t
def FY(prog:io)(w:mo)(x:pi)(t:Tok):(b4 prog w).is (.inr x) (.str x t)=true:=WG x t
inductive V where
 |cx|bl (b:Bool)|int (i:Int)|str (x:pi)|wm (b:Array UInt8)|O7 (b:UInt64)|ref (a:cr)|ty (n:String)
 deriving DecidableEq
abbrev Aao:=Option V
abbrev Aan:=List V
abbrev Aal:=List<|V×V
def RelV:V->jp->Prop
 | .cx,u=>u=Value.none
 | .bl b,u=>u=Value.bool b
 | .int i,u=>∃t,u=Value.int i t
 | .str x,u=>∃t,u=Value.str x t
 | .wm b,u=>∃t,u=Value.bytes b t
 | .O7 b,u=>∃t,u=Value.float b t
 | .ref a,u=>u=Value.ref a
 | .ty n,u=>u=Value.type n
abbrev Vals:Aan->Aaf->Prop:=Paired RelV
def Vals.length(r:Vals xs us):55=us.length:=aQ r
def Vals.get:∀{xs:Aan}{us:Aaf}{i:Nat}{x:V},Vals xs us->xs[i]?>x->∃u,us[i]?>u/\RelV x u:=by
 ext _ _ i x h e
 induction h generalizing i with
 |nil=>simp at e
 |cons r _ ih=>cases i with
  |zero=>simp at e;subst e;show⟨_,rfl,r⟩
  |succ i=>show ih (i:=i)<|↑e
theorem Vals.set(r:RelV x u):∀{xs:Aan}{us:Aaf}(i:Nat),Vals xs us->Vals (xs.set i x) (us.set i u)
 |_,_,_,.nil=>.nil
 |_,_,0,.cons _ t=>.cons r t
 |_,_,i+1,.cons q t=>.cons q<|Vals.set r i t
def Vals.append:∀{xs ys:Aan}{us ws:Aaf},Vals xs us->Vals ys ws->Vals (xs++ys) (us++ws):=by
 ext xs ys us ws h g
 induction h with
 |nil=>show g
 |cons r _ ih=>show .cons r ih
theorem Vals.take:∀{xs:Aan}{us:Aaf}(n:Nat),Vals xs us->Vals (xs.take n) (us.take n)
 |_,_,0,_=>.nil
 |_,_,_+1,.nil=>.nil
 |_,_,n+1,.cons r t=>.cons r<|Vals.take n t
theorem Vals.drop:∀{xs:Aan}{us:Aaf}(n:Nat),Vals xs us->Vals (xs.drop n) (us.drop n)
 |_,_,0,r=>r
 |_,_,_+1,.nil=>.nil
 |_,_,n+1,.cons _ t=>Vals.drop n t
def oj:Aao->Aah->Prop
 |some v,some u=>RelV v u
 |none,none=>True
 |_,_=>False
def KV:List (κ×V)->List (κ×jp)->Prop:=Paired λ(p:κ×V)(q:κ×jp)=>p.1=q.1/\RelV p.2 q.2
def kV:Key->V
 | .inl i=>.int i
 | .inr x=>.str x
inductive HO where
 |lst (xs:Aan)
 |tup (xs:Aan)
 |dK (kvs:List (Key×V))
 |set (S:Int->Bool) (n:Nat)
 |ins (C dx:cr) (fs:List (pi×V))
 |own (x:cr)
 |xd (fs:List (pi×V))
 |met (f x:cr)
 |rng (lo hi:Int)
 |fR (o:Go) (u:HO)
 |KP (ps:Aak)
 |ext (φ:ss->Prop)
abbrev Hp:=cr->Option HO
def upd(H:Hp)(a:cr)(o:HO):Hp:=λb=>if b=a then some o else H b
def au:upd H a o a>o:=by unfold upd;rw[aL rfl]
def aC(h:b≠a):upd H a o b=H b:=by unfold upd;rw[az h]
def a9{H:Hp}(h:H a>o)(h':H b=none):a≠b:=by ext e;subst e;rw[h]at h';cases h'
section
variable(P:io)(w:mo)
noncomputable def da(H:Hp)(h:ss)(a:cr):HO->Prop
 | .lst xs=>55<=dL/\∃(aK:Aaf)(n:Nat),Vals xs aK/\h.get? a>{cls:=.type "list",data:=.seq aK.toArray n}
 | .tup xs=>55<=dL/\∃aK:Aaf,Vals xs aK/\XV h a aK.toArray/\∃o,h.get? a>o/\o.dict=none
 | .dK kvs=>kvs.length<=dL/\(a==zn)=false/\∃vs,KV kvs vs/\h.DictOf (b4 P w) a vs
 | .set S n=>h.SetOf (intKind P w) a S n
 | .ins C dx fs=>H dx>.own a/\fs.length<=1000/\dx≠a/\h.get? a>instObj C dx/\
   ∃mA,h.Ns1 dx mA/\(∀f,oj (fs.lookup f)<|mA f)/\PySem.Within mA (fs.map (·.1))
 | .own _=>∃o,h.get? a>o
 | .xd fs=>∃mA,h.Ns1 a mA/\∀f,oj (fs.lookup f)<|mA f
 | .rng lo hi=>∃t u v,h.get? a>{cls:=.type "range",data:=.fields #[.int lo t,.int hi u,.int 1 v]}
 | .fR o u=>h.get? a>o/\da H h a u
 | .KP ps=>h.get? a>{cls:=.none,data:=.fields ps}
 | .met f x=>h.get? a>PySem.W.methodObj (-f) (-x)
 | .ext φ=>φ h/\(∃o,h.get? a>o)/\∀h1 h2:ss,φ h1->(∀o,h1.get? a>o->h2.get? a>o)->φ h2
def kK(H:Hp)(h:ss):Prop:=∀a o,H a>o->da P w H h a o
end
section
variable{P:io}{w:mo}{H H':Hp}{h h':ss}{a:cr}{o:HO}
def da.lt(x:da P w H h a o):a<h.objs.size:=by
 cases o with
 |lst xs=>let(__,__,__,__,e):=x;show aE e
 |tup xs=>let(__,__,__,p,__):=x;show p.lt
 |dK kvs=>let(__,__,__,__,o,__,__,e,__):=x;show aE e
 |set S n=>let(o,__,__,__,e,__):=x;show aE e
 |ins C dx fs=>let(__,__,__,e,__):=x;show aE e
 |own y=>let(__,e):=x;show aE e
 |xd fs=>obtain⟨_,⟨_,_,_,e,_⟩,_⟩:=x;show aE e
 |rng lo hi=>let(__,__,__,e):=x;show aE e
 |fR ob u=>let(e,__):=x;show aE e
 |KP ps=>show aE (show h.get? a>_ from x)
 |met f y=>show aE (show h.get? a>_ from x)
 |ext φ=>obtain⟨_,⟨_,e⟩,_⟩:=x;show aE e
def Paired.ahg:∀{aac:List α}{aad:List β},Paired F aac aad->(∀a b,F a b->G a b)->Paired G aac aad:=by
 ext _ _ h f
 induction h with
 |nil=>show .nil
 |cons r _ ih=>show .cons (f _ _ r) ih
def Paired.imp'(f:∀a b,F a b->G a b)(r:Paired F aac aad):Paired G aac aad:=Paired.ahg r f
def da.j3(x:da P w H h a o)(k:∀b u,(b=a\/H b>.own a)->h.get? b>u->h'.get? b>u)
  (ho:∀b,H b>.own a->H' b>.own a) (ht:∀b xs,H b>.tup xs->H' b>.tup xs):da P w H' h' a o:=by
 induction o with
 |lst xs=>let(z,aK,n,r,e):=x;show{z,aK,n,r,k _ _ (.inl 9) e}
 |tup xs=>obtain⟨z,aK,r,⟨ob,e,c⟩,o2,e2,c2⟩:=x;show{z,aK,r,{ob,k _ _ (.inl 9) e,c},o2,k _ _ (.inl 9) e2,c2}
 |dK kvs=>let(z,y,vs,r,ob,es,ep,e,c):=x;show{z,y,vs,r,ob,es,ep,k _ _ (.inl 9) e,c}
 |set S n=>let(ob,es,ep,t,e,c):=x;show{ob,es,ep,t,k _ _ (.inl 9) e,c}
 |ins C dx fs=>
  obtain⟨d,z,ne,e,mA,⟨od,es,ep,e2,c⟩,r⟩:=x;show{ho _ d,z,ne,k _ _ (.inl 9) e,mA,{od,es,ep,k _ _ (.inr d) e2,c},r}
 |own y=>let(ob,e):=x;show{ob,k _ _ (.inl 9) e}
 |xd fs=>obtain⟨mA,⟨od,es,ep,e,c⟩,r⟩:=x;show{mA,{od,es,ep,k _ _ (.inl 9) e,c},r}
 |rng lo hi=>let(t,u,v,e):=x;show{t,u,v,k _ _ (.inl 9) e}
 |fR ob u ih=>let(e,q):=x;show{k _ _ (.inl 9) e,ih q}
 |KP ps=>
  have e:h.get? a>{cls:=.none,data:=.fields ps}:=x;change h'.get? a>{cls:=.none,data:=.fields ps};show k a _ (.inl 9) e
 |met f y=>
  have e:h.get? a>PySem.W.methodObj (-f) (-y):=x;change h'.get? a>PySem.W.methodObj (-f) (-y);show k a _ (.inl 9) e
 |ext φ=>obtain⟨p,⟨o,e⟩,st⟩:=x;show{st _ _ p λo q=>k _ _ (.inl 9) q,{o,k _ _ (.inl 9) e},st}
def kK.lt(x:kK P w H h)(e:H a>o):a<h.objs.size:=(x a o e).lt
def kK.fresh(x:kK P w H h)(e:h.objs.size<=a):H a=none:=by
 cases q:H a with
 |none=>rfl
 |some u=>show absurd (aX (x.lt q) e)<|cJ _
def kK.kept(x:kK P w H h)(k:∀b u,h.get? b>u->h'.get? b>u):kK P w H h':=λa o e=>
 (x a o e).j3 (λb u _ q=>k b u q) (λ_ q=>q) λ_ _ q=>q
def kK.laid(x:kK P w H h)(k:∀b u,h.get? b>u->h'.get? b>u)(hp:h.objs.size<=a)(new:da P w (upd H a o) h' a o):kK P w (upd H a o) h':=λb u e=>by
 have hn:=x.fresh hp;by_cases hb:b=a;·subst hb;rw[au]at e;cases e;show new
 rw[aC hb]at e;show(x b u e).j3 (λc v _ q=>k c v q) (λc q=>by rw[aC<|a9 q hn];show q) λc xs q=>by rw[aC<|a9 q hn];show q
end
def Rd(H:Hp)(a:cr)(u:HO):Prop:=H a>u\/∃o,H a>.fR o u
def Rd.ok(r:Rd H a u)(x:kK P w H h):da P w H h a u:=by
 rcases r with r|⟨o,r⟩;·show x a u r
 let(__,q):=x a _ r;show q
def Yg:Option HO->Prop
 |some (.lst _)=>True
 |some (.dK _)=>True
 |some (.set _ _)=>True
 |some (.ins _ _ _)=>True
 |some (.ext _)=>True
 |_=>False
section
variable{P:io}{w:mo}{H:Hp}{h h':ss}{x e:cr}{o':HO}
def kK.write(ok:kK P w H h)(mu:Yg (H x))(he:e=x\/H e>.own x)(k:∀b u,b≠e->h.get? b>u->h'.get? b>u)(R9:∃u,h'.get? e>u)
  (new:da P w (upd H x o') h' x o'):kK P w (upd H x o') h':=λb u q=>by
 have aej:∀c y,H c>.own y->c≠x:=λc y r z=>by subst z;rw[r]at mu;show mu
 by_cases hb:b=x;·subst hb;rw[au]at q;cases q;show new
 rw[aC hb]at q;by_cases OR:b=e
 ·have q':H b>.own x:=by
   rcases he with z|z;·show absurd (OR.trans z) hb
   rw[OR];show z
  rw[q]at q';cases q';let(v,hv):=R9;show{v,OR▸hv}
 show(ok b u q).j3 (λc v hc r=>k c v ?_ r) (λc r=>by rw[aC<|aej c b r];show r) λc xs r=>by rw[aC<|(λc xs r z=>by subst z;rw[r]at mu;show mu) c xs r];show r
 rcases hc with rfl|hc;·show OR
 ext rfl;rcases he with z|z;·show aej c b hc z
 rw[hc]at z;cases z;show hb rfl
end
structure Un(fs ex:Aai)(H H':Hp)(h h':ss):Prop where
 keep:∀b o,h.get? b>o->H b=none->b∉fs->b∉ex->h'.get? b>o
 slot:∀b o,h.get? b>o->H b=none->b∈fs->b∉ex->∃sl,h'.get? b>{o with slots:=sl}
 free:∀b o,h.get? b>o->H b=none->b∉ex->H' b=none
 there:∀b o,h.get? b>o->b∉ex->∃o',h'.get? b>o'
 zw:∀b xs,H b>.tup xs->H' b>.tup xs
 uO:∀b o u,H b>.fR o u->H' b>.fR o u
 zx:∀b ps,H b>.KP ps->∃more,H' b>.KP (ps++more)
section
variable{fs ex:Aai}{H H1:Hp}{h h1 h':ss}{a x e:cr}{o:HO}
def Un.any(u:Un fs ex H H1 h h1)(q:h.get? b>ob)(n:H b=none)(hx:b∉ex):∃sl,h1.get? b>{ob with slots:=sl}:=by
 by_cases hb:b∈fs;·show u.slot b ob q n hb hx
 show{ob.slots,u.keep b ob q n hb hx}
def Un.kept(k:∀b u,h.get? b>u->h'.get? b>u):Un fs ex H H h h':=
 {λb ob q _ _ _=>k b ob q,λb ob q _ _ _=>{ob.slots,k b ob q},λ_ _ _ n _=>n,λb ob q _=>{ob,k b ob q},λ_ _ q=>q,λ_ _ _ q=>q,λ_ ps q=>{#[],by rw[q];simp}}
def Un.refl:Un fs ex H H h h:=Un.kept λ_ _ q=>q
def Un.laid(k:∀b u,h.get? b>u->h'.get? b>u)(hp:h.objs.size<=a)(hn:H a=none):Un fs ex H (upd H a o) h h' where
 keep:=λb u q _ _ _=>k b u q
 slot:=λb u q _ _ _=>{u.slots,k b u q}
 free:=λb u q n _=>by rw[aC<|aD<|aX (aE q) hp];show n
 there:=λb u q _=>{u,k b u q}
 zw:=λb xs q=>by rw[aC<|a9 q hn];show q
 uO:=λb u xs q=>by rw[aC<|a9 q hn];show q
 zx:=λb ps q=>{#[],by rw[aC<|a9 q hn,q];simp}
def Un.write(mu:Yg (H x))(he:e=x\/H e>.own x)(k:∀b u,b≠e->h.get? b>u->h'.get? b>u)(R9:∃u,h'.get? e>u):Un fs ex H (upd H x o) h h':=by
 have hx:∀b,H b=none->b≠x:=λb n z=>by subst z;rw[n]at mu;show mu
 have hb:∀b,H b=none->b≠e:=λb n z=>by
  subst z;rcases he with r|r;·show hx b n r
  rw[n]at r;cases r
 have hm:∀b u,H b>u->¬Yg (some u)->b≠x:=λb u q nm z=>by subst z;rw[q]at mu;show nm mu
 show{λb u q n _ _=>k b u (hb b n) q,λb u q n _ _=>{u.slots,k b u (hb b n) q},λb u q n _=>by rw[aC<|hx b n];show n,λb u q _=>?_,
  λb xs q=>by rw[aC (hm b _ q λz=>z)];show q,λb u xs q=>by rw[aC (hm b _ q λz=>z)];show q,λb ps q=>{#[],by rw[aC (hm b _ q λz=>z),q];simp}}
 by_cases OR:b=e;·subst OR;show R9
 show{u,k b u OR q}
end
def trk(h:ss)(H:Hp):Aai:=(List.range h.objs.size).filter λa=>(H a).isSome
def GX(h:ss)(H:Hp):ss:=PySem.W.hideAll h<|trk h H
def W8(h:ss)(H:Hp):(GX h H).objs.size=h.objs.size:=PySem.W.hideAll_size _ _
def ZM(e:h.get? b>o)(n:H b=none):(GX h H).get? b>o:=
 PySem.W.hideAll_get _ e λhm=>by have q:=(bX.mp hm).2;rw[n]at q;simp at q
def acb(e:(GX h H).get? b>o):h.get? b>o/\H b=none:=by
 have e':=PySem.W.of_hideAll (trk h H) e;show{e',?_};cases q:H b with
 |none=>rfl
 |some x=>
  have z:(GX h H).get? b=none:=PySem.W.hideAll_none (trk h H)<|bX.mpr {bO.mpr<|aE e',by simp[q]};rw[z]at e;cases e
def xb(g h:ss)(L:cr):Aab:=(List.range h.objs.size).filterMap λa=>if a=L\/(g.get? a).isSome=true then none else(h.get? a).map λo=>(a,o)
def Qd{g h:ss}{L a:cr}{o:Go}(h1:a≠L)(h2:g.get? a=none)(h3:h.get? a>o):(a,o)∈xb g h L:=
 dY.mpr {a,bO.mpr<|aE h3,by simp[h1,h2,h3]}
def J0{g h:ss}{L:cr}{p:cr×Go}(hp:p∈xb g h L):p.1≠L/\g.get? p.1=none/\h.get? p.1>p.2:=by
 let(b,__,e):=dY.mp hp;split at e;·cases e
 rename_i hn;cases q:h.get? b with
 |none=>rw[q]at e;simp at e
 |some u=>
  rw[q]at e;simp only[iA,Option.some.injEq]at e;subst e;show{λz=>hn<|.inl z,?_,q};change g.get? b=none;cases r:g.get? b with
  |none=>rfl
  |some v=>show(hn<|.inr (by simp[r])).elim
def rest(g h:ss)(L d:cr):Aab:=(xb g h L).filter λp=>decide (p.1≠d)
def Zk{g h:ss}{L:cr}:News g L h (xb g h L):=λp hp=>let⟨a,b,c⟩:=J0 hp;⟨c,a,b⟩
structure Mod(K:Frag)(mg:Aac)(base:ss):Prop where
 RG:K.In base
 glob:base.Ns ww mg
 blt:∃mb,base.Ns PP mb/\∀x:pi,x≠"__name__"->mb x=Da x
 nolimit:base.NoLimit
structure Cx where
 prog:io
 w:mo
 K:Frag
 mg:Aac
 base:ss
 A:wf
 N:Aag
 aab:fv
 aaf:Hp
 env:Uf
 outer:List Uf
 stack:List Uf
 ex:Aai
 fn:pi->Bool
 calm:Bool
 pn:Aab
 xe:Aad
def rm(l:List Uf):Aai:=l.filterMap (·.frame)
abbrev Cx.fs(X:Cx):Aai:=rm X.outer
def Vis(sc:AC)(x:pi):Prop:=sc.names.lookup x>.local\/sc.names.lookup x>.cell\/sc.names.lookup x>.free
def Loc(sc:AC)(x:pi):Prop:=sc.names.lookup x>.local\/sc.names.lookup x>.cell
def Look(env:Uf)(h:ss)(m:Aac)(x:pi)(u:jp):Prop:=
 (env.kindOf x>.local/\m x>u)\/((env.kindOf x>.cell\/env.kindOf x>.free)/\∃c,env.cells.lookup x>c/\h.IsCell c (some u))
structure Cx.Ok(X:Cx):Prop where
 mod:Mod X.K X.mg X.base
 kind:X.env.scope.kind=.function
 glob:X.env.globals=ww
 blt:X.env.builtins=PP
 above:33<=92
 inj:∀x y c,X.env.cells.lookup x>c->X.env.cells.lookup y>c->x=y
 has:∀x,(X.env.kindOf x>.cell\/X.env.kindOf x>.free)->∃c,X.env.cells.lookup x>c
 LU:∀x c,X.fn x=true->X.env.cells.lookup x>c->33<=c
 hd:X.calm=true->X.A.handled=none
 frames:X.A.frames>X.stack
 MO:X.stack=X.outer\/(X.stack=X.env::X.outer/\X.env.frame>92)
 Ge:∀b∈X.ex,b≠92/\∀x c,X.env.cells.lookup x>c->c≠b
 bs:∀b o,X.base.get? b>o->X.aab.heap.get? b>o/\X.aaf b=none
 y9:X.base.objs.size<=33
 Bm:∀b o,X.base.get? b>o->b∉X.ex
 Bz:∀b∈X.ex,b∉X.fs
 rQ:X.aab.heap.FunFrames X.base X.outer
 Gd:∀b∈X.fs,X.aaf b=none
structure Inv(X:Cx)(bi:Aab)(Z:List (Aao))(H:Hp)(s:fv):Prop where
 ok:X.Ok
 os:s.os=X.aab.os
 bare:KT s.gens
 base:Un X.fs X.ex X.aaf H X.aab.heap s.heap
 loc:∃m,s.heap.Ns 92 m/\∀(i:Nat)(x:pi)(v:V),X.N[i]?>x->Z[i]?>some v->Vis X.env.scope x->∃u,RelV v u/\Look X.env s.heap m x u
 cell:∀x c,X.env.cells.lookup x>c->∃v,s.heap.IsCell c v
 free:H 92=none
 jO:∀x c,X.env.cells.lookup x>c->H c=none
 pin:∀p∈X.pn++bi,s.heap.get? p.1>p.2/\H p.1=none/\p.1≠92/\p.1∉X.fs/\∀v,p.2.data≠ .cell v
 bE:kK 81 X.w H s.heap
 len:Z.length=X.N.length
section
variable{X:Cx}{bi:Aab}{Z:List (Aao)}{H H':Hp}{s:fv}{h':ss}
def Cx.Ok.ahd(ok:X.Ok)(e:X.base.get? b>o):b∉X.fs:=λhb=>by have:=(ok.rQ.mem hb).1;rw[e]at this;cases this
def Inv.bs(I:Inv X bi Z H s):∀b o,X.base.get? b>o->s.heap.get? b>o/\H b=none:=λb o e=>
 {I.base.keep b o (I.ok.bs b o e).1 (I.ok.bs b o e).2 (I.ok.ahd e)<|I.ok.Bm b o e,I.base.free b o (I.ok.bs b o e).1 (I.ok.bs b o e).2<|I.ok.Bm b o e}
def Inv.bk(I:Inv X bi Z H s):∀b o,X.base.get? b>o->s.heap.get? b>o:=λb o e=>(I.bs b o e).1
def Inv.mod(I:Inv X bi Z H s):Mod X.K X.mg X.base:=I.ok.mod
def Inv.qA(I:Inv X bi Z H s):X.K.In s.heap:=I.ok.mod.RG.keeps I.bk
def Inv.lt(I:Inv X bi Z H s):92<35:=let⟨_,hn,_⟩:=I.loc;hn.lt
def Inv.sz(I:Inv X bi Z H s):33<=35:=aS I.ok.above<|bU I.lt
def Inv.Zj(I:Inv X bi Z H s)(h:35<=a):a∉X.fs:=λhb=>by let(__,o,ho,__):=I.ok.rQ.mem hb;show absurd (aX (aE ho)<|aS I.sz h)<|cJ _
def Inv.Jo(I:Inv X bi Z H s):∀x c,X.env.cells.lookup x>c->c≠92:=λx c e z=>by let(v,o,ho,hd):=I.cell x c e;obtain⟨m,⟨o',es,ep,DQ,ui,_⟩,_⟩:=I.loc;rw[z,DQ]at ho;cases ho;rw[ui]at hd;cases hd
def Inv.rQ(I:Inv X bi Z H s):s.heap.FunFrames X.base X.outer:=by
 have all:∀(l:List Uf),(∀b∈rm l,b∈X.fs)->X.aab.heap.FunFrames X.base l->s.heap.FunFrames X.base l:=by
  ext l
  induction l with
  |nil=>ext _ _;trivial
  |cons env r ih=>
   ext hs hl;obtain⟨hk,⟨L,o,hf,hn,ho,hd⟩,hr⟩:=hl;have hL:=hs L (by unfold rm;rw[gB,hf];show av);let(sl,e):=I.base.slot L o ho (I.ok.Gd L hL) hL λz=>I.ok.Bz L z hL;show{hk,⟨L,_,hf,hn,e,hd⟩,ih (λb hb=>hs b (by unfold rm;rw[gB,hf];show aA _ hb)) hr}
 show all X.outer (λ_ hb=>hb) I.ok.rQ
def Inv.stack(I:Inv X bi Z H s):s.heap.FunFrames X.base X.stack:=by
 rcases I.ok.MO with e|⟨e,hf⟩;·rw[e];show I.rQ
 rw[e];let(m,hn,__):=I.loc;show .cons (by rw[I.ok.kind];decide) hf hn ?_ I.rQ;show nq<|aS I.ok.y9 I.ok.above
def Inv.Hw(I:Inv X bi Z H s):∀b∈rm X.stack,b∈92::X.fs:=λb hb=>by
 rcases I.ok.MO with e|⟨e,hf⟩;·rw[e]at hb;show aA _ hb
 rw[e]at hb;unfold rm at hb;rw[gB,hf]at hb;show hb
def Inv.ES(I:Inv X bi Z H s):∀b∈rm X.stack,H b=none:=λb hb=>by
 rcases aJ.mp (I.Hw b hb)with e|hb;·rw[e];show I.free
 let(__,o,ho,__):=I.ok.rQ.mem hb;show I.base.free b o ho (I.ok.Gd b hb) λz=>I.ok.Bz b z hb
def Inv.step{ch:Aai}(I:Inv X bi Z H s)
  (AH:∀b∈ch,(b∈X.ex\/33<=b)/\b≠92/\(∀x c,X.env.cells.lookup x>c->c≠b)/\∀p∈X.pn++bi,p.1≠b)
  (keep:∀b o,b≠92->b∉X.fs->b∉ch->s.heap.get? b>o->H b=none->h'.get? b>o)
  (slot:∀b o,b≠92->b∈X.fs->b∉ch->s.heap.get? b>o->H b=none->∃sl,h'.get? b>{o with slots:=sl}) (free:∀b o,b∉ch->s.heap.get? b>o->H b=none->H' b=none)
  (there:∀b o,b∉ch->s.heap.get? b>o->∃o',h'.get? b>o')
  (zw:∀b xs,H b>.tup xs->H' b>.tup xs) (uO:∀b o u,H b>.fR o u->H' b>.fR o u) (zx:∀b ps,H b>.KP ps->∃more,H' b>.KP (ps++more))
  (ns:∀m,s.heap.Ns 92 m->h'.Ns 92 m) (bE:kK 81 X.w H' h') (hg:KT g'):
  Inv X bi Z H' {s with heap:=h',gens:=g',drawn:=d',toks:=t'}:=by
 have Ry:∀b o,X.aab.heap.get? b>o->b≠92:=λb o e=>aD<|aX (aE e) I.ok.above;have neC:∀b o,X.aab.heap.get? b>o->b∉X.ex->b∉ch:=λb o e hx hb=>by
  rcases(AH b hb).1 with z|z;·show hx z
  show absurd (aX (aE e) z)<|cJ _
 have cellK:∀x c,X.env.cells.lookup x>c->∀v,s.heap.IsCell c v->h'.IsCell c v:=λx c e v ⟨o,ho,hd⟩=>by
  have Wj:=λz=>(AH c z).2.2.1 x c e rfl;by_cases hc:c∈X.fs;·let(sl,q):=slot c o (I.Jo x c e) hc Wj ho<|I.jO x c e;show⟨_,q,hd⟩
  show{o,keep c o (I.Jo x c e) hc Wj ho<|I.jO x c e,hd}
 show{I.ok,I.os,hg,{λb o e n hb hx=>keep b o (Ry b o e) hb (neC b o e hx) (I.base.keep b o e n hb hx)<|I.base.free b o e n hx,λb o e n hb hx=>?_,λb o e n hx=>?_,λb o e hx=>?_,λb xs e=>zw b xs<|I.base.zw b xs e,λb o xs e=>uO b o xs<|I.base.uO b o xs e,λb ps e=>?_},?_,λx c e=>?_,?_,λx c e=>?_,λp hp=>?_,bE,I.len};·let(sl,e1):=I.base.slot b o e n hb hx;let(sl',e2):=slot b _ (Ry b o e) hb (neC b o e hx) e1<|I.base.free b o e n hx;show⟨sl',e2⟩
 ·let(o',e1):=I.base.there b o e hx;show free b o' (neC b o e hx) e1<|I.base.free b o e n hx
 ·let(o',e1):=I.base.there b o e hx;show there b o' (neC b o e hx) e1
 ·let(m1,e1):=I.base.zx b ps e;let(m2,e2):=zx b _ e1;show{m1++m2,by rw[e2,Array.append_assoc]}
 ·let(m,hn,hl):=I.loc;show{m,ns m hn,λi x v e1 e2 e3=>?_};let(u,r,l):=hl i x v e1 e2 e3;show{u,r,?_};rcases l with l|⟨k,c,e,z⟩;·show .inl l
  show .inr {k,c,e,cellK x c e _ z}
 ·let(v,z):=I.cell x c e;show{v,cellK x c e v z}
 ·obtain⟨m,⟨o,_,_,ho,_⟩,_⟩:=I.loc;show free _ o (λz=>(AH _ z).2.1 9) ho I.free
 ·let(v,o,ho,hd):=I.cell x c e;show free c o (λz=>(AH c z).2.2.1 x c e 9) ho<|I.jO x c e
 let(e,n,ne,nf,d):=I.pin p hp;have Wj:=λz=>(AH p.1 z).2.2.2 p hp rfl;show{keep p.1 p.2 ne nf Wj e n,free p.1 p.2 Wj e n,ne,nf,d}
def Inv.un(I:Inv X bi Z H s)(u:Un X.fs [] H H' s.heap h')(bE:kK 81 X.w H' h'):Inv X bi Z H' (s\(h',t')):=by
 obtain⟨m,⟨o,es,ep,ho,r⟩,_⟩:=id I.loc;let(sl,hL):=u.any ho I.free 75;show I.step (ch:=[]) (λ_ z=>nomatch z) (λb o _ hb _ e n=>u.keep b o e n hb 75) (λb o _ hb _ e n=>u.slot b o e n hb 75) (λb o _ e n=>u.free b o e n 75) (λb o _ e=>u.there b o e 75) u.zw u.uO u.zx (λm' hm=>by let(o',XD,DW,DQ,r'):=hm;rw[ho]at DQ;cases DQ;show⟨_,XD,DW,hL,r'⟩) bE I.bare
def Inv.call(I:Inv X bi Z H s)(u:Un (rm X.stack) ch H H' s.heap h')(bE:kK 81 X.w H' h')(hg:KT g')
  (AH:∀b∈ch,(b∈X.ex\/33<=b)/\b≠92/\(∀x c,X.env.cells.lookup x>c->c≠b)/\∀p∈X.pn++bi,p.1≠b):
  Inv X bi Z H' {s with heap:=h',gens:=g',drawn:=d',toks:=t'}:=by
 obtain⟨m,⟨o,es,ep,ho,r⟩,_⟩:=id I.loc;let(sl,hL):=u.any ho I.free λz=>(AH _ z).2.1 rfl;show I.step AH (λb o hL hb hc e n=>u.keep b o e n (λz=>(aJ.mp<|I.Hw b z).elim hL hb) hc) (λb o _ _ hc e n=>u.any e n hc) (λb o hc e n=>u.free b o e n hc) (λb o hc e=>u.there b o e hc) u.zw u.uO u.zx (λm' hm=>by let(o',XD,DW,DQ,r'):=hm;rw[ho]at DQ;cases DQ;show⟨_,XD,DW,hL,r'⟩) bE hg
def Inv.turned(I:Inv X bi Z H s)(k:∀b o,b≠it->s.heap.get? b>o->h'.get? b>o)(hn:H it=none)(hL:it≠92)
  (h1:it∈X.ex\/33<=it) (h2:∀x c,X.env.cells.lookup x>c->c≠it) (h3:∀p∈X.pn++bi,p.1≠it):Inv X bi Z H (s\(h',t')):=by
 have nit:∀b u,H b>u->b≠it:=λb u e z=>by rw[z,hn]at e;cases e
 show I.step (ch:=[it]) 23 (λb o _ _ hc e _=>k b o 47 e) (λb o _ _ hc e _=>{o.slots,k b o 47 e}) (λ_ _ _ _ n=>n)
  (λb o hc e=>{o,k b o 47 e}) (λ_ _ e=>e) (λ_ _ _ e=>e) (λb ps e=>{#[],by rw[e];simp}) (λm hm=>?_) (λb u e=>?_) I.bare
 ·have e:b=it:=by simpa using hb
  subst e;show⟨h1,hL,h2,h3⟩
 ·let(o,es,ep,ho,r):=hm;show{o,es,ep,k _ o (bN hL) ho,r}
 show(I.bE b u e).j3 (λc v hc q=>k c v ?_ q) (λ_ q=>q) λ_ _ q=>q;rcases hc with z|z;·rw[z];show nit b u e
 show nit c _ z
def Inv.tok(I:Inv X bi Z H s)(t:Nat):Inv X bi Z H {s with toks:=t}:=I.un Un.refl I.bE
def Inv.kept(I:Inv X bi Z H s)(k:∀b u,s.heap.get? b>u->h'.get? b>u):Inv X bi Z H (s\(h',t')):=I.un (Un.kept k)<|I.bE.kept k
def Inv.laid(I:Inv X bi Z H s)(k:∀b u,s.heap.get? b>u->h'.get? b>u)(hp:35<=a)(new:da 81 X.w (upd H a o) h' a o):
  Inv X bi Z (upd H a o) (s\(h',t')):=I.un (Un.laid k hp<|I.bE.fresh hp)<|I.bE.laid k hp new
def Inv.write(I:Inv X bi Z H s)(mu:Yg (H x))(he:e=x\/H e>.own x)(k:∀b u,b≠e->s.heap.get? b>u->h'.get? b>u)(R9:∃u,h'.get? e>u)
  (new:da 81 X.w (upd H x o) h' x o):Inv X bi Z (upd H x o) (s\(h',t')):=I.un (Un.write mu he k R9)<|I.bE.write mu he k R9 new
def Inv.As(I:Inv X bi Z H s)(h:∀p∈Mu,s.heap.get? p.1>p.2/\H p.1=none/\p.1≠92/\p.1∉X.fs/\∀v,p.2.data≠ .cell v):Inv X Mu Z H s:=
 {I.ok,I.os,I.bare,I.base,I.loc,I.cell,I.free,I.jO,λp hp=>(bG.mp hp).elim (λz=>I.pin p<|dD _ z)<|h p,I.bE,I.len}
def Bn{N:Aag}(hN:N.Nodup){i j:Nat}(a:N[i]?>x)(b:N[j]?>x):i=j:=by let(h1,e1):=ar.mp a;let(h2,e2):=ar.mp b;show(List.getElem_inj hN).mp<|e1.trans e2.symm
def KQ(I:Inv X bi Z H s)(hN:X.N.Nodup)(hi:X.N[i]?>x)(hx:Loc X.env.scope x)(r:RelV v u)
  (h:∀s',Inv X bi (Z.set i<|some v) H s'->(∃a,Heap.SameBut a s.heap s'.heap/\(a=92\/X.env.cells.lookup x>a))->Q () s') (hf:X.fn x=true\/X.env.scope.names.lookup x>.local:=by first|exact .inl rfl|exact .inr rfl|assumption):f8 M A (storeName X.env x u) Q E s:=by
 let(m,hn,hl):=id I.loc;have hiZ:i<Z.length:=by rw[I.len];show(ar.mp hi).1
 have Jo:=I.Jo;have tracked:∀{a:cr}{h':ss},(∃o,s.heap.get? a>o/\H a=none)->Heap.SameBut a s.heap h'->kK 81 X.w H h':=λ{a h'} ha hs b ob e=>by
  let(__,__,aaX):=ha;show(I.bE b ob e).j3 (λc w' hc q=>(hs.2 c ?_).trans q) (λ_ q=>q) λ_ _ q=>q;ext rfl;rcases hc with rfl|hc;·rw[aaX]at e;cases e
  rw[aaX]at hc;cases hc
 rcases hx with hk|hk
 ·show wpAny_storeName_local hk hn (λh' WY hs=>?_) (by rw[I.ok.kind];rfl);let(oL,__,__,xI,__):=id hn;show h _ {I.ok,I.os,I.bare,{λb o e n hb hx=>(hs.2 b<|aD<|aX (aE e) I.ok.above).trans<|I.base.keep b o e n hb hx,λb o e n hb hx=>?_,I.base.free,λb o e hx=>?_,I.base.zw,I.base.uO,I.base.zx},{_,WY,λj y v' e1 e2 e3=>?_},λy c e=>?_,I.free,I.jO,λp hp=>?_,tracked {oL,xI,I.free} hs,by simpa using I.len} {_,hs,.inl rfl};·let(sl,e1):=I.base.slot b o e n hb hx;show{sl,(hs.2 b<|aD<|aX (aE e) I.ok.above).trans e1}
  ·let(o',e1):=I.base.there b o e hx;show{o',(hs.2 b<|aD<|aX (aE e) I.ok.above).trans e1}
  ·by_cases hj:j=i;·subst hj;rw[hi]at e1;cases e1;rw[rC hiZ]at e2;cases e2;show{u,r,.inl {hk,75}}
   rw[tT<|bN hj]at e2;let(u',r',q):=hl j y v' e1 e2 e3;show{u',r',?_};rcases q with⟨k,e⟩|⟨k,c,e,z⟩;·show .inl {k,?_};have:y≠x:=λe=>hj<|Bn hN e1<|e▸hi;simp[this,e]
   show .inr {k,c,e,z.sameBut hs<|Jo y c e}
  ·let(w',z):=I.cell y c e;show{w',z.sameBut hs<|Jo y c e}
  let(e,n,ne,nf,d):=I.pin p hp;show{(hs.2 p.1 ne).trans e,n,ne,nf,d}
 have hfn:X.fn x=true:=by
  rcases hf with z|z;·show z
  rw[z]at hk;cases hk
 let(c,hc):=I.ok.has x<|.inl hk;let(w',z):=I.cell x c hc;show wpAny_storeName_cell I.ok.kind hk hc z (λh' xN hs=>?_);let(oc,hoc,ah1):=id z;show h (s\h') {I.ok,I.os,I.bare,{λb o e n hb hx=>(hs.2 b<|aD<|aX (aE e)<|I.ok.LU x c hfn hc).trans<|I.base.keep b o e n hb hx,λb o e n hb hx=>?_,I.base.free,λb o e hx=>?_,I.base.zw,I.base.uO,I.base.zx},{m,hn.sameBut hs<|bN<|Jo x c hc,λj y v' e1 e2 e3=>?_},λy c' e=>?_,I.free,I.jO,λp hp=>?_,tracked {oc,hoc,I.jO x c hc} hs,by simpa using I.len} {c,hs,.inr hc};·let(sl,e1):=I.base.slot b o e n hb hx;show{sl,(hs.2 b<|aD<|aX (aE e)<|I.ok.LU x c hfn hc).trans e1}
 ·let(o',e1):=I.base.there b o e hx;show{o',(hs.2 b<|aD<|aX (aE e)<|I.ok.LU x c hfn hc).trans e1}
 ·by_cases hj:j=i;·subst hj;rw[hi]at e1;cases e1;rw[rC hiZ]at e2;cases e2;show{u,r,.inr {.inl hk,c,hc,xN}}
  rw[tT<|bN hj]at e2;let(u',r',q):=hl j y v' e1 e2 e3;show{u',r',?_};rcases q with q|⟨k,c',e,z'⟩;·show .inl q
  show .inr {k,c',e,z'.sameBut hs ?_};ext rfl;show hj<|Bn hN e1<|I.ok.inj _ _ _ e hc▸hi
 ·by_cases hcc:c'=c;·subst hcc;show⟨_,xN⟩
  let(w2,z2):=I.cell y c' e;show{w2,z2.sameBut hs hcc}
 let(e,n,ne,nf,d):=I.pin p hp;show{(hs.2 p.1 ?_).trans e,n,ne,nf,d};ext q;rw[q,hoc]at e;show d w' (by rw[<-(bR e)];show ah1)
def uv(I:Inv X bi Z H s)(hN:X.N.Nodup)(hi:X.N[i]?>x)(hx:Loc X.env.scope x)(r:RelV v u)
  (h:∀s',Inv X bi (Z.set i<|some v) H s'->Q () s') (hf:X.fn x=true\/X.env.scope.names.lookup x>.local:=by first|exact .inl rfl|exact .inr rfl|assumption):f8 M A (storeName X.env x u) Q E s:=
 KQ I hN hi hx r (λs' I' _=>h s' I') hf
def Inv.aa3(I:Inv X bi Z H s)(ho:s'.os=s.os)(u:Un (rm X.stack) ch H H' s.heap s'.heap)(bE:kK 81 X.w H' s'.heap)(hg:KT s'.gens)
  (AH:∀b∈ch,(b∈X.ex\/33<=b)/\b≠92/\(∀x c,X.env.cells.lookup x>c->c≠b)/\∀p∈X.pn++bi,p.1≠b):Inv X bi Z H' s':=by
 let(h',g',d',t',o'):=s';have e:=ho;subst e;show I.call u bE hg AH
abbrev XK:=jp->Aaj->Hp->Prop
abbrev St:=List<|Aao
abbrev VK:=V->Hp->Prop
abbrev TE:=St->Hp->VK->Prop
abbrev TT:=St->Hp->(Bool->Hp->Prop)->Prop
abbrev TA:=St->Hp->(Aan->Hp->Prop)->Prop
structure Ends where
 nx:St->Hp->Prop
 rt:VK
 bk:St->Hp->Prop:=λ_ _=>False
 ct:St->Hp->Prop:=λ_ _=>False
abbrev TS:=Ends->St->Hp->Prop
end
inductive EP(X:Cx)(bi:Aab)(Z:St)(Q:VK)(u:jp)(s':fv):Prop
 |mk v H' (_:Inv X bi Z H' s') (_:RelV v u) (_:Q v H')
inductive TP(X:Cx)(bi:Aab)(Z:St)(Q:Bool->Hp->Prop)(b:Bool)(s':fv):Prop
 |mk H' (_:Inv X bi Z H' s') (_:Q b H')
inductive AP(X:Cx)(bi:Aab)(Z:St)(Q:Aan->Hp->Prop)(us:Aaf)(s':fv):Prop
 |mk vs H' (_:Inv X bi Z H' s') (_:Vals vs us) (_:Q vs H')
def SP(X:Cx)(bi:Aab)(D:Ends)(f:Flow)(s':fv):Prop:=
 match f with
 | .next=>∃σ' H',Inv X bi σ' H' s'/\D.nx σ' H'
 | .brk=>∃σ' H',Inv X bi σ' H' s'/\D.bk σ' H'
 | .cont=>∃σ' H',Inv X bi σ' H' s'/\D.ct σ' H'
 | .ret u=>∃v σ' H',Inv X bi σ' H' s'/\RelV v u/\D.rt v H'
def PE(X:Cx)(e:xL)(t:TE):Prop:=
 ∀(bi:Aab)(s:fv)(Z:St)(H:Hp)(Q:VK),Inv X bi Z H s->t Z H Q->f8 82 X.A (wT e X.env) (EP X bi Z Q) X.xe s
def PT(X:Cx)(e:xL)(t:TT):Prop:=
 ∀(bi:Aab)(s:fv)(Z:St)(H:Hp)(Q:Bool->Hp->Prop),Inv X bi Z H s->t Z H Q->f8 82 X.A (isTrue e X.env<|wT e X.env) (TP X bi Z Q) X.xe s
def PW(X:Cx)(e:xL)(t:TT):Prop:=
 ∀(whole:Sem jp)(bi:Aab)(s:fv)(Z:St)(H:Hp)(Q:Bool->Hp->Prop),Inv X bi Z H s->t Z H Q->f8 82 X.A (isTrue e X.env whole) (TP X bi Z Q) X.xe s
def PW.pt(h:PW X e t):PT X e t:=h _
def PA(X:Cx)(es:List xL)(t:TA):Prop:=
 ∀(pos:GM)(bi:Aab)(s:fv)(Z:St)(H:Hp)(Q:Aan->Hp->Prop),Inv X bi Z H s->t Z H Q->f8 82 X.A (spliced<|Db pos 69) (AP X bi Z Q) X.xe s
def PS(X:Cx)(st:xz)(t:TS):Prop:=
 ∀(bi:Aab)(s:fv)(Z:St)(H:Hp)(D:Ends),Inv X bi Z H s->t D Z H->f8 82 X.A (exec st X.env) (SP X bi D) X.xe s
def pU(X:Cx)(st:List xz)(t:TS):Prop:=
 ∀(bi:Aab)(s:fv)(Z:St)(H:Hp)(D:Ends),Inv X bi Z H s->t D Z H->f8 82 X.A (execs st X.env) (SP X bi D) X.xe s
def iP(h:f8 M A t Q E s)(hQ:∀a s,Q a s->Q' a s):f8 M A t Q' E s:=dR h hQ λ_ _ x=>x
def dk{X:Cx}{bi:Aab}{Z:St}{Q:VK}{t:Sem jp}{Q':Aad}{s:fv}(h:f8 82 X.A t (EP X bi Z Q) X.xe s)(k:∀u s x H,Inv X bi Z H s->RelV x u->Q x H->Q' u s):f8 82 X.A t Q' X.xe s:=iP h λu s zq=>by let(x,H,I,r,q):=zq;show k u s x H I r q
def oO{X:Cx}{bi:Aab}{Z:St}{Q:Aan->Hp->Prop}{t:Sem (Aaf)}{Q':Aaf->fv->Prop}{s:fv}(h:f8 82 X.A t (AP X bi Z Q) X.xe s)(k:∀u s x H,Inv X bi Z H s->Vals x u->Q x H->Q' u s):f8 82 X.A t Q' X.xe s:=iP h λu s zq=>by let(x,H,I,r,q):=zq;show k u s x H I r q
def JG{X:Cx}{bi:Aab}{Z:St}{Q:Bool->Hp->Prop}{t:Sem Bool}{Q':Bool->fv->Prop}{s:fv}(h:f8 82 X.A t (TP X bi Z Q) X.xe s)(k:∀u s H,Inv X bi Z H s->Q u H->Q' u s):f8 82 X.A t Q' X.xe s:=iP h λu s zq=>by let(H,I,q):=zq;show k u s H I q
section
variable{X:Cx}
inductive adl(i:Nat)(Z:St)(H:Hp)(Q:VK):Prop
 |mk v (_:Z[i]?>some v) (_:Q v H)
def tC(v:V):TE:=λ_ H Q=>Q v H
def ad7(hN:X.N[i]?>x)(hv:Vis X.env.scope x)(hd:24=false:=by decide)(AI:(x==("__classdict__":pi))=false:=by decide):PE X 71 (adl i):=by
 ext bi s Z H Q I h;let(v,e,h):=h;let(m,hn,hl):=I.loc;let(u,r,l):=hl i x v hN e hv;have fin:EP X bi Z Q u s:=⟨v,H,I,r,h⟩;rcases l with⟨hk,hm⟩|⟨hk,c,hc,Mz⟩;·show Hr (A2 I.ok.kind hk hn hm fin) hd
 rcases hk with hk|hk;·show Hr (Cu I.ok.kind hk hc Mz fin) hd
 show Hr (wpAny_loadName_free I.ok.kind hk hc Mz fin AI) hd
def bb{i j pos}:PE X (.Constant (.int i) j pos) (tC<|.int i):=λ_ _ _ H _ I h=>wpAny_Constant_int {.int i,H,28,41,h}
def qm{b j pos}:PE X (.Constant (.bool b) j pos) (tC<|.bl b):=λ_ _ _ H _ I h=>Constant_bool {.bl b,H,I,9,h}
def jF{j pos}:PE X (.Constant .none j pos) (tC .cx):=λ_ _ _ H _ I h=>Constant_none {.cx,H,I,9,h}
def fK{x j pos}:PE X (.Constant (.str x) j pos) (tC<|.str x):=λ_ _ _ H _ I h=>qb {.str x,H,28,41,h}
def Gl(X:Cx)(x:pi):Prop:=X.env.kindOf x>.globalImplicit
def AA(I:Inv X bi Z H s)(hg:Gl X x)(hm:X.mg x>u)(h:Q u s)
  (hd:24=false:=by decide):f8 82 X.A (wT 71 X.env) Q E s:=
 vX I.ok.kind hg (Calls.loadGlobal_global (I.ok.glob▸I.mod.glob.keeps I.bk) hm h) hd
def nJ(I:Inv X bi Z H s)(hg:Gl X x)(hm:X.mg x=none)(hv:Da x>u)(h:Q u s)
  (hn:x≠"__name__":=by decide) (hd:24=false:=by decide):f8 82 X.A (wT 71 X.env) Q E s:=by
 let(mb,h1,h2):=I.mod.blt;show vX I.ok.kind hg (Calls.loadGlobal_builtin (I.ok.glob▸I.mod.glob.keeps I.bk) hm (I.ok.blt▸h1.keeps I.bk) ((h2 x hn).trans hv) h) hd
def JV(hg:Gl X x)(hm:X.mg x>u)(r:RelV v u)(hd:24=false:=by decide):PE X 71 (tC v):=
 λ_ _ _ H _ I h=>AA I hg hm ⟨v,H,I,r,h⟩ hd
def ab2(hg:Gl X x)(hm:X.mg x=none)(hv:Da x>u)(r:RelV v u)(hn:x≠"__name__":=by decide)(hd:24=false:=by decide):PE X 71 (tC v):=
 λ_ _ _ H _ I h=>nJ I hg hm hv ⟨v,H,I,r,h⟩ hn hd
variable{a b:xL}{pos:GM}
def PC(X:Cx)(op:CmpOp)(a b:xL)(t:TE):Prop:=
 ∀(bi:Aab)(s:fv)(Z:St)(H:Hp)(Q:VK),Inv X bi Z H s->t Z H Q->
  f8 82 X.A (wT a X.env) (λv aaa=>f8 82 X.A (wT b X.env) (λu aae=>f8 82 X.A (wv op v u) (EP X bi Z Q) X.xe aae) X.xe aaa) X.xe s
inductive QT(Q:Bool->Hp->Prop)(x:V)(H1:Hp):Prop
 |mk c (_:x=.bl c) (_:Q c H1)
def tB(t:TE):TT:=λZ H Q=>t Z H λx H1=>QT Q x H1
def Ar(h:PC X op a b t)(h1:K' op b=false:=by first|exact ahe _ (by decide) (by decide)|rfl):PT X (.Compare a [op] [b] pos) (tB t):=by ext bi s Z H Q I hw;show Ae (iP (h bi s Z H _ I hw) λv s1 h1=>iP h1 λu s2 h2=>iP h2 λc s3 yR=>?_) h1;let(x,H1,I1,r1,q1):=yR;let(d,rfl,q):=q1;cases r1;show fW ⟨H1,I1,q⟩
def h9(h:PE X e t)(he:∀whole,isTrue e X.env whole=(do let v<-whole;standAt e.pos;J' [v] (truthy v)):=by intro _;rfl):PT X e (tB t):=by ext bi s Z H Q I hw;show isTrue_plain (dk (h bi s Z H _ I hw) λv s1 x H1 I1 r1 q1=>?_)<|he _;let(d,rfl,q):=q1;cases r1;show fW ⟨H1,I1,q⟩
variable{ta tb:TE}{tA QT:TT}{rest:List xL}
def ag5(t u:TT):TT:=λZ H Q=>t Z H λc H1=>if c=true then u Z H1 Q else Q false H1
def tOr(t u:TT):TT:=λZ H Q=>t Z H λc H1=>if c=true then Q true H1 else u Z H1 Q
def agY(t:TT):TT:=λZ H Q=>t Z H λc H1=>Q (!c) H1
def JR(ha:PT X a tA):PW X (.BoolOp .And [a] pos) tA:=by
 ext wh bi s Z H Q I h;show isTrue_and (iP (ha bi s Z H Q I h) λc s1 e=>?_);cases c with
 |true=>show isTrue_and_nil e
 |false=>show e
def Ig(ha:PT X a tA):PW X (.BoolOp .Or [a] pos) tA:=by
 ext wh bi s Z H Q I h;show isTrue_or (iP (ha bi s Z H Q I h) λc s1 e=>?_);cases c with
 |false=>show isTrue_or_nil e
 |true=>show e
def Nw(ha:PT X a tA)(hb:PW X (.BoolOp .And (b::rest) pos) QT):PW X (.BoolOp .And (a::b::rest) pos) (ag5 tA QT):=by
 ext wh bi s Z H Q I h;show isTrue_and (JG 30 λc s1 H1 I1 q1=>?_);cases c with
 |true=>show hb wh bi s1 Z H1 Q I1 q1
 |false=>show⟨H1,I1,q1⟩
def Mt(ha:PT X a tA)(hb:PW X (.BoolOp .Or (b::rest) pos) QT):PW X (.BoolOp .Or (a::b::rest) pos) (tOr tA QT):=by
 ext wh bi s Z H Q I h;show isTrue_or (JG 30 λc s1 H1 I1 q1=>?_);cases c with
 |true=>show⟨H1,I1,q1⟩
 |false=>show hb wh bi s1 Z H1 Q I1 q1
def sW(ha:PT X a tA):PT X (.UnaryOp .Not a pos) (agY tA):=by ext bi s Z H Q I h;show isTrue_not (JG (ha bi s Z H (λc H1=>Q (!c) H1) I h) λ_ _ a b c=>⟨a,b,c⟩)
inductive adE(tb:TE)(Z:St)(Q:VK)(x:V)(H1:Hp):Prop
 |mk c (_:x=.bl c) (_:if c=true then tb Z H1 Q else Q (.bl false) H1)
def af7(ta tb:TE):TE:=λZ H Q=>ta Z H λx H1=>adE tb Z Q x H1
inductive ads(Q:VK)(x:V)(H1:Hp):Prop
 |mk c (_:x=.bl c) (_:Q (.bl<|!c) H1)
def afZ(ta:TE):TE:=λZ H Q=>ta Z H λx H1=>ads Q x H1
def vt{op}(h:PE X a t):PE X (.BoolOp op [a] pos) t:=λbi s Z H Q I hw=>BoolOp_one<|h bi s Z H Q I hw
def qW(ha:PE X a ta)(hb:PE X (.BoolOp .And (b::rest) pos) tb):PE X (.BoolOp .And (a::b::rest) pos) (af7 ta tb):=by
 ext bi s Z H Q I h;show BoolOp_and (dk 30 λv s1 x H1 I1 r1 q1=>?_);let(c,rfl,q1):=q1;cases r1;show fW ?_;cases c with
 |true=>show hb bi s1 Z H1 Q I1 q1
 |false=>show{.bl false,H1,I1,9,q1}
def ad8(ha:PE X a ta):PE X (.UnaryOp .Not a pos) (afZ ta):=by ext bi s Z H Q I h;show UnaryOp_ (dk 30 λv s1 x H1 I1 r1 q1=>?_);let(c,rfl,q1):=q1;cases r1;show not_of<|fW {.bl<|!c,H1,I1,9,q1}
def tIf(t:TT)(ta tb:TE):TE:=λZ H Q=>t Z H λc H1=>if c=true then ta Z H1 Q else tb Z H1 Q
def rN(hc:PT X c tA)(ha:PE X a ta)(hb:PE X b tb):PE X (.IfExp c a b pos) (tIf tA ta tb):=by
 ext bi s Z H Q I h;show wpAny_IfExp (JG (hc bi s Z H _ I h) λd s1 H1 I1 q1=>?_);cases d with
 |true=>show ha bi s1 Z H1 Q I1 q1
 |false=>show hb bi s1 Z H1 Q I1 q1
end
def aT(K:Frag)(H:Hp)(a:cr)(xs:Aan):Prop:=
 Rd H a (.lst xs)\/
  ∃(o:Go)(aK:Aak)(n:Nat),K.lookup a>o/\o.cls=.type "list"/\o.dict=none/\o.data=.seq aK n/\aK.size<=dL/\Vals xs aK.toList
def aZ(K:Frag)(H:Hp)(a:cr)(xs:Aan):Prop:=
 Rd H a (.tup xs)\/
  ∃(o:Go)(aK:Aak)(n:Nat),K.lookup a>o/\o.cls=.type "tuple"/\o.data=.seq aK n/\aK.size<=dL/\Vals xs aK.toList
def aiz:jp->Aao
 | .none=>some .cx
 | .bool b=>some<|.bl b
 | .int i _=>some<|.int i
 | .str x _=>some<|.str x
 | .bytes b _=>some<|.wm b
 | .float b _=>some<|.O7 b
 | .ref a=>some (-a)
 | .type n=>some<|.ty n
 |_=>none
def RelV.abs(r:RelV x u):aiz u>x:=by
 cases x with
 |cx=>cases r;rfl
 |bl _=>cases r;rfl
 |int _=>let(t,rfl):=r;rfl
 |str _=>let(t,rfl):=r;rfl
 |wm _=>let(t,rfl):=r;rfl
 |O7 _=>let(t,rfl):=r;rfl
 |ref _=>cases r;rfl
 |ty _=>cases r;rfl
def RelV.inj(r:RelV x u)(q:RelV y u):x=y:=bR<|r.abs.symm.trans q.abs
def Vals.inj:∀{xs ys:Aan}{us:Aaf},Vals xs us->Vals ys us->xs=ys:=by
 ext xs ys us h g
 induction h generalizing ys with
 |nil=>cases g;rfl
 |cons r _ ih=>cases g with
  |cons r' t=>rw[r.inj r',ih t]
section
variable{X:Cx}{bi:Aab}{Z:St}{H:Hp}{s:fv}{a:cr}{xs ys:Aan}
def aT.of{K:Frag}(h:H a>.lst xs):aT K H a xs:=.inl<|.inl h
def aZ.of{K:Frag}(h:H a>.tup xs):aZ K H a xs:=.inl<|.inl h
def Inv.list(I:Inv X bi Z H s)(h:aT X.K H a xs):∃aK:Aaf,Vals xs aK/\PlainL s.heap a aK.toArray/\55<=dL:=by
 rcases h with h|⟨o,aK,n,hk,hc,hd,hs,hz,r⟩;·let(z,aK,n,r,e):=h.ok I.bE;show{aK,r,⟨_,n,e,rfl,rfl,rfl⟩,z}
 show{aK.toList,r,{o,n,I.qA a o hk,hc,hd,by simpa using hs},?_};have e:=r.length;simp only[bj]at e;lia
def Inv.tuple(I:Inv X bi Z H s)(h:aZ X.K H a xs):∃aK:Aaf,Vals xs aK/\XV s.heap a aK.toArray/\55<=dL:=by
 rcases h with h|⟨o,aK,n,hk,hc,hs,hz,r⟩;·let(z,aK,r,p,__):=h.ok I.bE;show⟨aK,r,p,z⟩
 show{aK.toList,r,{o,I.qA a o hk,hc,n,by simpa using hs},?_};have e:=r.length;simp only[bj]at e;lia
def Inv.GR(I:Inv X bi Z H s)(h:aT X.K H a xs)(h':aT X.K H a ys):xs=ys:=by
 obtain⟨aK,r,⟨o,n,e,_,_,d⟩,_⟩:=I.list h;obtain⟨its',r',⟨o',n',e',_,_,d'⟩,_⟩:=I.list h';rw[e]at e';cases e';rw[d]at d';injection d' with d1 _;have:aK=its':=by simpa using c8 Array.toList d1
 subst this;show r.inj r'
def Inv.vg(I:Inv X bi Z H s)(h:aZ X.K H a xs)(h':aZ X.K H a ys):xs=ys:=by
 obtain⟨aK,r,⟨o,e,_,n,d⟩,_⟩:=I.tuple h;obtain⟨its',r',⟨o',e',_,n',d'⟩,_⟩:=I.tuple h';rw[e]at e';cases e';rw[d]at d';injection d' with d1 _;have:aK=its':=by simpa using c8 Array.toList d1
 subst this;show r.inj r'
end
abbrev Cx.zr(X:Cx)(E:Aad):Cx:={X with xe:=E}
abbrev Cx.nox(X:Cx):Cx:=X.zr λ_ _=>False
def Cx.Ok.zr{X:Cx}(ok:X.Ok)(E:Aad):(X.zr E).Ok:=
 {ok.mod,ok.kind,ok.glob,ok.blt,ok.above,ok.inj,ok.has,ok.LU,ok.hd,ok.frames,ok.MO,ok.Ge,ok.bs,ok.y9,ok.Bm,ok.Bz,ok.rQ,ok.Gd}
def Cx.Ok.vf{X:Cx}(ok:(X.zr E).Ok):X.Ok:=
 {ok.mod,ok.kind,ok.glob,ok.blt,ok.above,ok.inj,ok.has,ok.LU,ok.hd,ok.frames,ok.MO,ok.Ge,ok.bs,ok.y9,ok.Bm,ok.Bz,ok.rQ,ok.Gd}
section
variable{X:Cx}{bi:Aab}{Z:St}{H:Hp}{s:fv}{E:Aad}
def Inv.zr(I:Inv X bi Z H s)(E:Aad):Inv (X.zr E) bi Z H s:={I.ok.zr E,I.os,I.bare,I.base,I.loc,I.cell,I.free,I.jO,I.pin,I.bE,I.len}
def Inv.vf(I:Inv (X.zr E) bi Z H s):Inv X bi Z H s:={I.ok.vf,I.os,I.bare,I.base,I.loc,I.cell,I.free,I.jO,I.pin,I.bE,I.len}
def SP.vf(h:SP (X.zr E) bi D f s'):SP X bi D f s':=by
 cases f with
 |next=>obtain⟨σ',H',I,q⟩:=h;show{σ',H',I.vf,q}
 |brk=>obtain⟨σ',H',I,q⟩:=h;show{σ',H',I.vf,q}
 |cont=>obtain⟨σ',H',I,q⟩:=h;show{σ',H',I.vf,q}
 |ret u=>obtain⟨v,σ',H',I,r,q⟩:=h;show{v,σ',H',I.vf,r,q}
def pU.nox{st:List xz}(h:pU X.nox st t):pU X st t:=λbi s Z H D I hw=>
 dR (h bi s Z H D (I.zr _) hw) (λ_ _ q=>q.vf) λ_ _ z=>False.elim z
end
section
variable{X:Cx}{st:xz}{rest:List xz}{t u:TS}{e:xL}{te:TE}{pos:GM}
def af0:TS:=λD Z H=>D.nx Z H
def Gx(t u:TS):TS:=λD Z H=>t {D with nx:=u D} Z H
def dc:pU X [] af0:=λ_ _ Z H _ I h=>ot ⟨Z,H,I,h⟩
def ay(h1:PS X st t)(h2:pU X rest u):pU X (st::rest) (Gx t u):=by
 ext bi s Z H D I h;show wpAny_execs_cons (iP (h1 bi s Z H {D with nx:=u D} I h) λf s1 q=>?_);cases f with
 |next=>
  obtain⟨σ',H',I',q⟩:=q;show h2 bi s1 σ' H' D I' q
 |ret v=>show q
 |brk=>show q
 |cont=>show q
def aP(h1:PS X st t):pU X [st] t:=by
 ext bi s Z H D I h;show wpAny_execs_cons (iP (h1 bi s Z H D I h) λf s1 q=>?_);cases f with
 |next=>show ot q
 |ret v=>show q
 |brk=>show q
 |cont=>show q
def Inv.quiet(I:Inv X bi Z H s):interactive X.env=false:=by simp[interactive,I.ok.kind]
def af3(te:TE):TS:=λD Z H=>te Z H λ_ H1=>D.nx Z H1
def g9(he:PE X e te)(hs:EQ e none pos.line X.env=pure false:=by rfl):PS X (.Expr e pos) (af3 te):=by ext bi s Z H D I h;show wpAny_Expr_any (dk 39 λv s1 x H1 I1 r1 q1=>⟨Z,H1,I1,q1⟩) I.quiet hs
def agW(te:TE):TS:=λD Z H=>te Z H D.rt
def bH(he:PE X e te):PS X (.Return (some e) pos) (agW te):=by ext bi s Z H D I h;show wpAny_Return_some (dk 39 λv s1 x H1 I1 r1 q1=>⟨x,Z,H1,I1,r1,q1⟩)
def ag0(c:TT)(t u:TS):TS:=λD Z H=>c Z H λb H1=>if b=true then t D Z H1 else u D Z H1
def fh(hc:PT X c tc)(ha:pU X a t)(hb:pU X b u):PS X (.If c a b pos) (ag0 tc t u):=by
 ext bi s Z H D I h;show wpAny_If (JG (hc bi s Z H _ I h) λd s1 H1 I1 q1=>?_);cases d with
 |true=>show ha bi s1 Z H1 D I1 q1
 |false=>show hb bi s1 Z H1 D I1 q1
def adt:TS:=λ_ _ _=>False
def Y0:PS X st adt:=λ_ _ _ _ _ _ h=>h.elim
abbrev TG:=V->St->Hp->(St->Hp->Prop)->Prop
abbrev TGs:=Aan->St->Hp->(St->Hp->Prop)->Prop
end
def PG(X:Cx)(target:xL)(t:TG):Prop:=
 ∀(bi:Aab)(s:fv)(Z:St)(H:Hp)(v:V)(u:jp)(Q:St->Hp->Prop),Inv X bi Z H s->RelV v u->t v Z H Q->
  f8 82 X.A (assign target X.env u) (λ_ s'=>∃σ' H',Inv X bi σ' H' s'/\Q σ' H') X.xe s
def Co(X:Cx)(ts:List xL)(t:TGs):Prop:=
 ∀(bi:Aab)(s:fv)(Z:St)(H:Hp)(vs:Aan)(us:Aaf)(Q:St->Hp->Prop),Inv X bi Z H s->Vals vs us->t vs Z H Q->
  f8 82 X.A (assignInOrder ((GT ts X.env).map (·.2)) us) (λ_ s'=>∃σ' H',Inv X bi σ' H' s'/\Q σ' H') X.xe s
abbrev afF:=V->V->V->Hp->(Hp->Prop)->Prop
def afG(X:Cx)(t:afF):Prop:=
 ∀(bi:Aab)(s:fv)(Z:St)(H:Hp)(o i v:V)(ov iv u:jp)(Q:Hp->Prop),Inv X bi Z H s->RelV o ov->RelV i iv->RelV v u->t o i v H Q->
  f8 82 X.A (setItem ov iv u) (λ_ s'=>∃H',Inv X bi Z H' s'/\Q H') X.xe s
abbrev TIp:=V->V->Hp->VK->Prop
def PIp(X:Cx)(op:Operator)(t:TIp):Prop:=
 ∀(bi:Aab)(s:fv)(Z:St)(H:Hp)(x y:V)(v u:jp)(Q:VK),Inv X bi Z H s->RelV x v->RelV y u->t x y H Q->
  f8 82 X.A (inplaceOp op v u) (EP X bi Z Q) X.xe s
section
variable{X:Cx}{pos:GM}
def yW(i:Nat):TG:=λv Z H Q=>Q (Z.set i<|some v) H
def jw(hN:X.N.Nodup)(hi:X.N[i]?>x)(hx:Loc X.env.scope x)(hf:X.fn x=true\/X.env.scope.names.lookup x>.local:=by first|exact .inl rfl|exact .inr rfl|assumption):PG X 71 (yW i):=by ext bi s Z H v u Q I r h;show Fc<|uv I hN hi hx r (λs' I'=>⟨_,H,I',h⟩) hf
def afn:TGs:=λvs Z H Q=>vs=[]/\Q Z H
inductive Ui(t:TG)(u:TGs)(vs:Aan)(Z:St)(H:Hp)(Q:St->Hp->Prop):Prop
 |mk v r (_:vs=v::r) (_:t v Z H λσ' H'=>u r σ' H' Q)
def d5:Co X [] afn:=by ext bi s Z H vs us Q I r h;let(e,h):=h;subst e;cases r;show Fh ⟨Z,H,I,h⟩
def bD(h1:PG X e t)(h2:Co X es u)
  (hs:(GT (e::es) X.env).map (·.2)=assign e X.env::(GT es X.env).map (·.2):=by rfl):Co X (e::es) (Ui t u):=by
 ext bi s Z H vs us Q I r h;let(v,vr,e1,h):=h;subst e1;cases r with
 |cons r rr=>
  rw[hs];show vI (iP (h1 bi s Z H _ _ _ I r h) λ_ s1 zq=>by obtain⟨σ1,H1,I1,q1⟩:=zq;show h2 bi s1 σ1 H1 _ _ Q I1 rr q1)
inductive ZW(K:Frag)(n:Nat)(t:TGs)(v:V)(Z:St)(H:Hp)(Q:St->Hp->Prop):Prop
 |mk a xs (_:v=-a) (_:aZ K H a xs) (_:xs.length=n) (_:t xs Z H Q)
def iE(hc:X.calm=true)(h:Co X es t)
  (hn:(GT es X.env).length=n:=by rfl) (iF:(GT es X.env).findIdx? (·.1)=none:=by rfl):PG X (.Tuple es k pos) (ZW X.K n t):=by
 ext bi s Z H v u Q I r hw;let(a,xs,e1,hq,hl,hw):=hw;subst e1;cases r;let(aK,rv,ht,hz):=I.tuple hq;show assign_Tuple_tuple 46 ht (by simp[hn,<-hl,rv.length]) iF λh' hx=>?_;show h bi _ Z H xs _ Q (I.kept (t':=89) λb o e=>hx b o (aD<|aE e) e) (↑rv) hw
def ait(to ti:TE)(t:afF):TG:=λv Z H Q=>to Z H λo H1=>ti Z H1 λi H2=>t o i v H2 λH3=>Q Z H3
def VL(ho:PE X o to)(hi:PE X i ti)(hs:afG X t)
  (ha:∀v,assign (.Subscript o i pos) X.env v=(do
   let ov<-J' [v] (wT o X.env)
   let iv<-J' [v,ov] (wT i X.env)
   standAt pos
   J' [v,ov,iv] (setItem ov iv v)
   release [v,ov,iv] []):=by intro _;rfl):PG X (.Subscript o i pos) (ait to ti t):=by
 ext bi s Z H v u Q I r h;show ae<|bP (dk (ho bi s Z H _ I h) λov s1 x H1 I1 r1 q1=>?_);show ae<|bP (dk (hi bi s1 Z H1 _ I1 q1) λiv s2 y H2 I2 r2 q2=>?_);show ae<|nv<|ae<|bP (iP (hs bi s2 Z H2 x y v ov iv u _ I2 r1 r2 r q2) λ_ s3 zq=>by let(H3,I3,q3):=zq;show wpAny_release ⟨Z,H3,I3,q3⟩)
def YF(te:TE)(g:TG):TS:=λD Z H=>te Z H λx H1=>g x Z H1 D.nx
def vp(he:PE X e te)(hg:PG X tg g)(hs:swapsWithSole [tg] e pos.line X.env=pure false:=by rfl)(hw:swappedStores [tg] e X.env=pure none:=by rfl)
  (h1:(GT [tg] X.env).map (·.2)=[assign tg X.env]:=by rfl):PS X (.Assign [tg] e pos) (YF te g):=by
 ext bi s Z H D I h;show wpAny_Assign_stores (dk 39 λv s1 x H1 I1 r1 q1=>?_) hs hw;rw[h1];show iP (hg bi s1 Z H1 x v _ I1 r1 q1) λ_ s2 q=>q
def mx(hN:X.N.Nodup)(hi:X.N[i]?>x)(hx:Loc X.env.scope x)(he:PE X e te)(hs:EQ e (some<|.Name x pos') pos.line X.env=pure false:=by rfl)(hf:X.fn x=true\/X.env.scope.names.lookup x>.local:=by first|exact .inl rfl|exact .inr rfl|assumption):
  PS X (.Assign [.Name x pos'] e pos) (YF te<|yW i):=by
 ext bi s Z H D I h;show wpAny_Assign_Name (dk 39 λv s1 y H1 I1 r1 q1=>uv I1 hN hi hx r1 (λs2 I2=>⟨_,H1,I2,q1⟩) hf) hs
inductive afY(i:Nat)(j:Nat)(D:Ends)(Z:St)(vs:Aan)(H1:Hp):Prop
 |mk v w (_:vs=[v,w]) (_:D.nx ((Z.set i<|some v).set j<|some w) H1)
def agX(i j:Nat)(ta:TA):TS:=λD Z H=>ta Z H λvs H1=>afY i j D Z vs H1
def ad3{kt k2 pt2}(hc:X.calm=true)(hN:X.N.Nodup)(hi:X.N[i]?>x)(hj:X.N[j]?>y)(AF:i≠j)
  (hx:X.env.scope.names.lookup x>.local) (hy:X.env.scope.names.lookup y>.local) (ha:PA X [a,b] ta)
  (hw:swappedStores [.Tuple [.Name x px,.Name y py] kt pt] (.Tuple [a,b] k2 pt2) X.env=pure (some [x,y]))
  (hs:swapsWithSole [.Tuple [.Name x px,.Name y py] kt pt] (.Tuple [a,b] k2 pt2) pos.line X.env=pure false:=by rfl):
  PS X (.Assign [.Tuple [.Name x px,.Name y py] kt pt] (.Tuple [a,b] k2 pt2) pos) (agX i j ta):=by
 ext bi s Z H D I h;show ae<|nv ?_;show ae 83;show ae<|Tuple_ (oO (ha _ bi s Z H _ I h) λus s1 vs H1 I1 r1 q1=>?_);let(v,w,e1,q1):=q1;subst e1;obtain⟨u1,u2,rfl,rv,kT⟩:∃u1 u2,us=[u1,u2]/\RelV v u1/\RelV w u2:=by
  cases r1 with
  |cons p q=>
   cases q with
   |cons p' q'=>
    cases q';show⟨_,_,rfl,p,p'⟩
 show c9 ?_ 95;have I2:Inv X bi Z H1 (s1\s1.heap.push {cls:=.type "tuple",data:=.seq [u1,u2].toArray}):=I1.kept λb o e=>af _ e;rw[hw];show ae 83;show ae<|i6<|ae (unpackItems_tuple (items:=#[u1,u2]) 46 (IsTup.new s1.heap _) λh' hx'=>?_);show ae<|vI<|wpAny_bindName<|uv (I2.kept (h':=h') (t':=s1.toks) λb o e=>hx' b o (aD<|aE e) e) hN hj (.inl hy) kT (λs2 I4=>?_)<|.inr hy;show vI<|wpAny_bindName<|uv I4 hN hi (.inl hx) rv (λs3 I5=>Fh 83)<|.inr hx;rw[List.set_comm _ _<|bN AF]at I5;show⟨_,H1,I5,q1⟩
inductive ag4(i:Nat)(te:TE)(ti:TIp)(D:Ends)(Z:St)(H:Hp):Prop
 |mk x (_:Z[i]?>some x) (_:te Z H λy H1=>ti x y H1 λz H2=>D.nx (Z.set i<|some z) H2)
def ad4{i:Nat}{x:pi}{e:xL}{te:TE}{op:Operator}{ti:TIp}{pos':GM}(hN:X.N.Nodup)(hi:X.N[i]?>x)(hx:Loc X.env.scope x)(he:PE X e te)(ho:PIp X op ti)(hf:X.fn x=true\/X.env.scope.names.lookup x>.local:=by first|exact .inl rfl|exact .inr rfl|assumption):
  PS X (.AugAssign (.Name x pos') op e pos) (ag4 i te ti):=by
 ext bi s Z H D I h;let(v,e1,h):=h;let(m,hn,hl):=I.loc;have vis:Vis X.env.scope x:=by rcases hx with k|k;show .inl k;show .inr<|.inl k
 let(u,r,l):=hl i x v hi e1 vis;show wpAny_AugAssign_Name ?_;have go:f8 82 X.A (wT e X.env) (λw aae=>f8 82 X.A (inplaceOp op u w) (λr aag=>f8 82 X.A (storeName X.env x r) (λ_=>SP X bi D .next) X.xe aag) X.xe aae) X.xe s:=by show dk 39 λw s1 y H1 I1 r1 q1=>?_;show iP (ho bi s1 Z H1 v y u w _ I1 r r1 q1) λz s2 xF=>?_;let(zv,H2,I2,r2,q2):=xF;show uv I2 hN hi hx r2 (λs3 I3=>⟨_,H2,I3,q2⟩) hf
 rcases l with⟨hk,hm⟩|⟨hk,c,hc,Mz⟩;·show A2 I.ok.kind hk hn hm go
 rcases hk with hk|hk;·show Cu I.ok.kind hk hc Mz go
 rcases hx with k|k;·have:X.env.scope.names.lookup x>.free:=hk;rw[k]at this;cases this
 have:X.env.scope.names.lookup x>.free:=hk;rw[k]at this;cases this
inductive ipI(f:Int->Int->Int)(x:V)(y:V)(H:Hp)(Q:VK):Prop
 |mk i j (_:x=.int i) (_:y=.int j) (_:Q (.int<|f i j) H)
def aeG:PIp X .Add (ipI λi j=>i+j):=by ext bi s Z H x y v u Q I r1 r2 h;let(i,j,e1,e2,q):=h;subst e1;subst e2;let(t,rfl):=r1;let(t',rfl):=r2;show iadd_int {.int _,H,28,41,q}
def adk(c:TT)(tb:TS):TS:=λD Z H=>∃W:Nat->St->Hp->Prop,(∃m,W m Z H)/\∀m Z H,W m Z H->
 c Z H λb H1=>if b=true then∃N:St->Hp->Prop,(∀σ' H',N σ' H'->∃m',m'<m/\W m' σ' H')/\tb {D with nx:=N,ct:=N,bk:=D.nx} Z H1 else D.nx Z H1
def Nz(hp:PassesOwn 82 X.A X.env X.xe)(hc:PT X c tc)(hb:pU X body tb):PS X (.While c body [] pos) (adk tc tb):=by
 ext bi s Z H D I h;obtain⟨W,⟨m0,w0⟩,turn⟩:=h;show wpAny_While<|codeAny_whileLoop (λn s'=>∃σ' H',Inv X bi σ' H' s'/\W n σ' H') ?_ m0 ⟨Z,H,I,w0⟩;ext n s1 ⟨σ1,H1,I1,w1⟩;show jK hp (JG (hc bi s1 σ1 H1 _ I1<|turn n σ1 H1 w1) λb s2 H2 I2 q2=>?_);cases b with
 |true=>
  let(N,hN,q2):=q2;show jK hp (iP (hb bi s2 σ1 H2 _ I2 q2) λf s3 q3=>?_);cases f with
  |next=>
   obtain⟨σ3,H3,I3,n3⟩:=q3;let(m',hm,w3):=hN σ3 H3 n3;show⟨m',hm,σ3,H3,I3,w3⟩
  |cont=>
   obtain⟨σ3,H3,I3,n3⟩:=q3;let(m',hm,w3):=hN σ3 H3 n3;show⟨m',hm,σ3,H3,I3,w3⟩
  |brk=>show q3
  |ret v=>show q3
 |false=>
  show ot ⟨σ1,H2,I2,q2⟩
structure It where
 go:Nat->Hp->Prop
 Fx:Nat->Hp->V->Hp->Prop
 stop:Nat->Hp->Prop
end
def oo(X:Cx)(bi:Aab)(H:Hp)(b:cr):Prop:=
 H b=none/\b≠92/\b∉X.fs/\(b∈X.ex\/33<=b)/\(∀x c,X.env.cells.lookup x>c->c≠b)/\∀p∈X.pn++bi,p.1≠b
def Inv.zL(I:Inv X bi Z H s)(hb:35<=b)(hn:H' b=none):oo X bi H' b:=by
 show{hn,bA<|aX I.lt hb,I.Zj hb,.inr<|aS I.sz hb,λx c e z=>?_,λp hp z=>?_};·let(v,q):=I.cell x c e;show absurd (aX q.lt<|z▸hb)<|cJ _
 show absurd (aX (aE (I.pin p hp).1)<|z▸hb)<|cJ _
structure Turn(P:io)(w:mo)(K:Frag)(tg:xL)(J:It)(fp:Aai)(it:cr)(tn:Nat->ss->Prop):Prop where
 mem:it∈fp
 obj:∀i h,tn i h->∀b∈fp,∃o,h.get? b>o/\∀v,o.data≠ .cell v
 keep:∀i h h',tn i h->(∀b∈fp,∀o,h.get? b>o->h'.get? b>o)->tn i h'
 item:∀(X:Cx),81=P->X.w=w->X.K=K->X.calm=true->∀(i:Nat)(bi:Aab)(s:fv)(Z:St)(H:Hp)(E:Aad),Inv X bi Z H s->(∀b∈fp,oo X bi H b)->tn i s.heap->J.go i H->
  f8 88 X.A (pyNext (-it)) (λr s1=>∃u,r>u/\
   f8 88 X.A (On tg (-it) u) (λ_ s2=>∃x H',Inv X bi Z H' s2/\RelV x u/\J.Fx i H x H'/\tn (i+1) s2.heap/\∀b∈fp,H' b=none) E s1) E s
 done:∀(X:Cx),81=P->X.w=w->X.K=K->X.calm=true->∀(i:Nat)(bi:Aab)(s:fv)(Z:St)(H:Hp)(E:Aad),Inv X bi Z H s->(∀b∈fp,oo X bi H b)->tn i s.heap->J.stop i H->
  f8 88 X.A (pyNext (-it)) (λr s1=>r=none/\Inv X bi Z H s1) E s
 self:∀(A:wf)(i:Nat)(s:fv)(Q:Aad)(E:Aad),tn i s.heap->Q (-it) s->f8 88 A (Ps (-it)) Q E s
abbrev TI:=St->Hp->(It->Hp->Prop)->Prop
def PIE(X:Cx)(bi:Aab)(Z:St)(tg:xL)(R:It->Hp->Prop)(itv:jp)(s2:fv):Prop:=
 ∃(it:cr)(fp:Aai)(tn:Nat->ss->Prop)(J:It)(H':Hp),itv=-it/\Inv X bi Z H' s2/\Turn 81 X.w X.K tg J fp it tn/\tn 0 s2.heap/\(∀b∈fp,oo X bi H' b)/\R J H'
def PI(X:Cx)(tg iter:xL)(wi:TI):Prop:=
 ∀(bi:Aab)(s:fv)(Z:St)(H:Hp)(R:It->Hp->Prop),Inv X bi Z H s->wi Z H R->
  f8 82 X.A (wT iter X.env) (λv s1=>f8 82 X.A (Ps v) (PIE X bi Z tg R) X.xe s1) X.xe s
def IZ(ho:s.heap.get? it>o)(hc:o.cls=.type n)(hd:o.data=.fields vs)
  (hn:["enumerate","zip","dict_itemiterator","dict_reverseitemiterator","odict_iterator","itertools.zip_longest","itertools.pairwise"].contains n=false) (hQ:Q () s):f8 M A (On tg (-it) u) Q E s:=by
 cases tg<;>first
  |show ah hQ
  |(cases u<;>first
    |show ah hQ
    |(show ae<|Hq ho ?_;rw[hc,hd];change f8 M A (if(["enumerate","zip","dict_itemiterator","dict_reverseitemiterator","odict_iterator","itertools.zip_longest","itertools.pairwise"].contains n&&vs[0]?==some (wP _))=true then _ else _) Q E s;rw[az (by ext h;rw[hn,uX]at h;cases h)];show ah hQ))
def Yj(K:Frag)(a:cr):It:=
 {λi H=>∃xs x,aT K H a xs/\xs[i]?>x,λi H x H'=>H'=H/\∀xs,aT K H a xs->xs[i]?>x,λi H=>∃xs,aT K H a xs/\55<=i}
def Yh(K:Frag)(a:cr):It:=
 {λi H=>∃xs x,aZ K H a xs/\xs[i]?>x,λi H x H'=>H'=H/\∀xs,aZ K H a xs->xs[i]?>x,λi H=>∃xs,aZ K H a xs/\55<=i}
def Yi(lo:Int)(n:Nat):It:={λi _=>i<n,λi H x H'=>H'=H/\x=.int (lo+i),λi _=>n<=i}
def U0{K:Frag}(a it:cr):Turn P w K tg (Yj K a) [it] it (λi h=>h.IsListIter it a i) where
 mem:=by simp
 obj:=λi h st b hb=>by
  have e:b=it:=by simpa using hb
  subst e;let(o,e,c,d):=st;show{o,e,λv z=>by rw[d]at z;cases z}
 keep:=λi h h' st k=>st.at λo e=>k it 75 o e
 item:=by ext X hP hw hK hc i bi s Z H E I hf st hg;subst hP hw hK;let(xs,x,hq,hx):=hg;let(aK,rv,p,hz):=I.list hq;let(u,hu,ru):=rv.get hx;let(f0,f1,f2,f3,f4,f5):=hf it 75;show zm st p.isList (↑hu) λh' mi sb=>?_;let(o,e,c,d):=id mi;show{u,9,IZ e c d 7 {x,H,I.turned (t':=89) (λb o hb e=>(sb.2 b hb).trans e) f0 f1 f3 f4 f5,ru,{9,λys hy=>by rw[I.GR hy hq];show hx},mi,λb hb=>(hf b hb).1}}
 done:=by ext X hP hw hK hc i bi s Z H E I hf st hg;subst hP hw hK;let(xs,hq,hx):=hg;let(aK,rv,p,hz):=I.list hq;let(f0,f1,f2,f3,f4,f5):=hf it 75;have hl:=rv.length;show Ac 46 st p.isList (by simp;lia) λh' eb=>{9,137}
 self:=λ_ _ _ _ _ st h=>wpAny_pyIter_listiter st h
def SQ{K:Frag}(a it:cr):Turn P w K tg (Yh K a) [it] it (λi h=>h.IsTupleIter it a i) where
 mem:=by simp
 obj:=λi h st b hb=>by
  have e:b=it:=by simpa using hb
  subst e;let(o,e,c,d):=st;show{o,e,λv z=>by rw[d]at z;cases z}
 keep:=λi h h' st k=>st.at λo e=>k it 75 o e
 item:=by ext X hP hw hK hc i bi s Z H E I hf st hg;subst hP hw hK;let(xs,x,hq,hx):=hg;let(aK,rv,p,hz):=I.tuple hq;let(u,hu,ru):=rv.get hx;let(f0,f1,f2,f3,f4,f5):=hf it 75;show wpAny_pyNext_tuple_item st (show s.heap.IsTuple a aK.toArray from p) (↑hu) λh' mi sb=>?_;let(o,e,c,d):=id mi;show{u,9,IZ e c d 7 {x,H,I.turned (t':=89) (λb o hb e=>(sb.2 b hb).trans e) f0 f1 f3 f4 f5,ru,{9,λys hy=>by rw[I.vg hy hq];show hx},mi,λb hb=>(hf b hb).1}}
 done:=by ext X hP hw hK hc i bi s Z H E I hf st hg;subst hP hw hK;let(xs,hq,hx):=hg;let(aK,rv,p,hz):=I.tuple hq;let(f0,f1,f2,f3,f4,f5):=hf it 75;have hl:=rv.length;show wpAny_pyNext_tuple_end 46 st (show s.heap.IsTuple a aK.toArray from p) (by simp;lia) λh' eb=>{9,137}
 self:=λ_ _ _ _ _ st h=>wpAny_pyIter_tupleiter st h
def SR{K:Frag}(it:cr)(lo:Int)(n:Nat):Turn P w K tg (Yi lo n) [it] it (λi h=>IsRangeIter h it (lo+(i:Nat)*1) ((n:Int) -(i:Nat)) 1) where
 mem:=by simp
 obj:=λi h st b hb=>by
  have e:b=it:=by simpa using hb
  subst e;show{_,st,λv z=>by have z':=z;cases z'}
 keep:=λi h h' st k=>k it 75 _ st
 item:=by ext X hP hw hK hc i bi s Z H E I hf st hg;subst hP hw hK;let(f0,f1,f2,f3,f4,f5):=hf it 75;show(Walks.range (prog:=81) (w:=X.w) 46 it lo 1 n).item i s _ _ hg st λv h' tk hv mi kk=>?_;let(t,rfl):=hv;show{_,9,IZ mi rfl rfl 7 {.int<|lo+i,H,I.turned (λb o hb e=>kk b o (↑hb) e) f0 f1 f3 f4 f5,{t,?_},⟨rfl,rfl⟩,mi,λb hb=>(hf b hb).1}};rw[Int.mul_one]
 done:=by ext X hP hw hK hc i bi s Z H E I hf st hg;let(f0,f1,f2,f3,f4,f5):=hf it 75;show wpAny_pyNext_range_end 46 st (by have:n<=i:=hg;lia) λh' eb=>{9,137}
 self:=λ_ _ _ _ _ st h=>wpAny_pyIter_rangeiter st h
section
variable{X:Cx}{tg:xL}
inductive aeL(K:Frag)(R:It->Hp->Prop)(x:V)(H1:Hp):Prop
 |mk a (_:x=-a) (_:(∃xs,aT K H1 a xs)) (_:R (Yj K a) H1)
def TY(K:Frag)(tl:TE):TI:=λZ H R=>tl Z H λx H1=>aeL K R x H1
inductive agv(K:Frag)(R:It->Hp->Prop)(x:V)(H1:Hp):Prop
 |mk a (_:x=-a) (_:(∃xs,aZ K H1 a xs)) (_:R (Yh K a) H1)
def ZA(K:Frag)(tl:TE):TI:=λZ H R=>tl Z H λx H1=>agv K R x H1
def cN(hl:PE X l tl):PI X tg l (TY X.K tl):=by
 ext bi s Z H R I h;show dk (hl bi s Z H _ I h) λv s1 x H1 I1 r1 q1=>?_;obtain⟨a,e,⟨xs,hq⟩,q⟩:=q1;subst e;cases r1;let(aK,rv,p,hz):=I1.list hq;show jX p.isList ?_;show{29,[29],_,_,H1,9,I1.kept λb o e=>af _ e,U0 a _,{_,43,9,9},23,q};have e:b=29:=by simpa using hb
 subst e;show I1.zL (ao _) 20
def jY(hl:PE X l tl):PI X tg l (ZA X.K tl):=by
 ext bi s Z H R I h;show dk (hl bi s Z H _ I h) λv s1 x H1 I1 r1 q1=>?_;obtain⟨a,e,⟨xs,hq⟩,q⟩:=q1;subst e;cases r1;let(aK,rv,p,hz):=I1.tuple hq;show iN (show s1.heap.IsTuple a aK.toArray from p) ?_;show{29,[29],_,_,H1,9,I1.kept λb o e=>af _ e,SQ a _,{_,43,9,9},23,q};have e:b=29:=by simpa using hb
 subst e;show I1.zL (ao _) 20
def YR{lo hi:Int}(I:Inv X bi Z H s)(h1:-(2^62)<=lo)(h2:lo<2^62)(h3:-(2^62)<=hi)(h4:hi<2^62)
  (q:R (Yi lo (hi -lo).toNat) H):f8 82 X.A (Ps<|.ref 35) (PIE X bi Z tg R) E {s with heap:=s.heap.push {cls:=.type "range",data:=.fields #[.int lo t,.int hi u,.int 1 v]},toks:=tk}:=by
 show wpAny_pyIter_range (IsRange.new ..) (small_one h1 h2 h3 h4) ?_;have I1:Inv X bi Z H {s with heap:=s.heap.push {cls:=.type "range",data:=.fields #[.int lo t,.int hi u,.int 1 v]},toks:=tk}:=I.kept λb o e=>af _ e;show{(s.heap.push {cls:=.type "range",data:=.fields #[.int lo t,.int hi u,.int 1 v]}).objs.size,[(s.heap.push {cls:=.type "range",data:=.fields #[.int lo t,.int hi u,.int 1 v]}).objs.size],_,_,H,rfl,
  I1.kept λb o e=>af _ e,SR _ lo (hi -lo).toNat,?_,λb hb=>?_,q}
 ·have e1:lo+((0:Nat):Int)*1=lo:=by simp
  have e2:(((hi -lo).toNat:Nat):Int) -((0:Nat):Int)=Builtin.Range.rangeSize lo hi 1:=by rw[rangeSize_one];split<;>lia
  rw[e1,e2];show aH _ rfl
 have e:b=(s.heap.push {cls:=.type "range",data:=.fields #[.int lo t,.int hi u,.int 1 v]}).objs.size:=by simpa using hb
 subst e;show I1.zL (ao _) 20
inductive aeK(R:It->Hp->Prop)(vs:Aan)(H1:Hp):Prop
 |mk (j:Int) (_:vs=[.int j]) (_:-(2^62)<=j) (_:j<2^62) (_:R (Yi 0 j.toNat) H1)
def agx(ta:TA):TI:=λZ H R=>ta Z H λvs H1=>aeK R vs H1
def oZ(hg:Gl X "range")(hm:X.mg "range"=none)(ha:PA X [a] ta)(hs:re [a] X.env=[(false,wT a X.env)]:=by rfl):PI X tg (.Call (.Name "range" p) [a] [] pos) (agx ta):=by
 ext bi s Z H R I h;show E9<|nJ I hg hm boot_range<|dX 119 hs 9;let(j,e,q1,q2,q):=q1;subst e;cases r1 with
 |cons r rr=>
  cases rr;let(t,rfl):=r;show call_range_1<|YR I1 ∅ ∅ q1 q2 (↑q)
def adx(wi:TI)(g:TG)(tb:TS):TS:=λD Z H=>wi Z H λJ H1=>∃W:Nat->Nat->St->Hp->Prop,(∃m,W 0 m Z H1)/\∀i m Z H,W i m Z H->
 (J.stop i H/\D.nx Z H)\/(J.go i H/\∃N:St->Hp->Prop,(∀σ' H',N σ' H'->∃m',m'<m/\W (i+1) m' σ' H')/\∀x H',J.Fx i H x H'->g x Z H' λσ2 H2=>tb {D with nx:=N,ct:=N,bk:=D.nx} σ2 H2)
def Di(fp:Aai)(h:ss):Aab:=fp.filterMap λb=>(h.get? b).map λo=>(b,o)
def wM(hb:b∈fp)(e:h.get? b>o):(b,o)∈Di fp h:=dY.mpr {b,hb,by rw[e];rfl}
def V6(hp:p∈Di fp h):p.1∈fp/\h.get? p.1>p.2:=by
 let(b,hb,e):=dY.mp hp;cases q:h.get? b with
 |none=>rw[q]at e;cases e
 |some o=>
  rw[q]at e;have e':=bR e;subst e';show⟨hb,q⟩
def Inv.pinned(I:Inv X bi Z H s)(hf:∀b∈fp,oo X bi H b)(ho:∀b∈fp,∃o,s.heap.get? b>o/\∀v,o.data≠ .cell v):Inv X (bi++Di fp s.heap) Z H s:=
 I.As λp hp=>(bG.mp hp).elim (λz=>I.pin p<|b8 _ z) λz=>by let(hb,e):=V6 z;let(f0,f1,f2,__):=hf p.1 hb;let(o,e',d):=ho p.1 hb;rw[e]at e';cases e';show⟨e,f0,f1,f2,d⟩
def Inv.A4(I:Inv X (bi++pl) Z H s):Inv X bi Z H s:=I.As λp hp=>I.pin p<|b8 _<|dD _ hp
def fG(hp:PassesOwn 82 X.A X.env X.xe)(hc:X.calm=true)(hi:PI X tg iter wi)(hg:PG X tg g)(hb:pU X body tb)
  (hs:∀x,wn iter X.env x=pure x:=by intro _;rfl):PS X (.For tg iter body [] pos) (adx wi g tb):=by
 ext bi s Z H D I h;show wpAny_For (iP (hi bi s Z H _ I h) λv s1 h1=>iP h1 λitv s2 h2=>?_) hs;obtain⟨it,fp,tn,J,H2,e,I2,T,vh,f2,W,⟨m0,w0⟩,turn⟩:=h2;subst e;have YI:∀{H':Hp},(∀b∈fp,H' b=none)->∀b∈fp,oo X bi H' b:=λhn b hb=>{hn b hb,(f2 b hb).2};show codeAny_forLoop_any (λn s'=>∃i σ' H',Inv X bi σ' H' s'/\tn i s'.heap/\(∀b∈fp,H' b=none)/\W i n σ' H') ?_ m0 {0,Z,H2,I2,vh,λb hb=>(f2 b hb).1,w0};ext n s3 ⟨i,σ3,H3,I3,yH,fr3,w3⟩;rcases turn i n σ3 H3 w3 with⟨stop,qn⟩|⟨go,N,hN,step⟩;·show jK hp (iP (T.done X 9 9 9 hc i bi s3 σ3 H3 X.xe I3 (YI fr3) yH stop) λr s4 hz3=>?_);let(hr,I4):=hz3;subst hr;show ot ⟨σ3,H3,I4,qn⟩
 show jK hp (iP (T.item X 9 9 9 hc i bi s3 σ3 H3 X.xe I3 (YI fr3) yH go) λr s4 Ox=>?_);let(u,hr,h4):=Ox;subst hr;show jK hp (iP h4 λ_ s5 Ow=>?_);let(x,H5,I5,r5,y5,kf,fr5):=Ow;show jK hp (iP (hg _ s5 σ3 H5 x u _ (I5.pinned (YI fr5)<|T.obj _ _ kf) r5<|step x H5 y5) λ_ s6 hz6=>?_);obtain⟨σ6,H6,I6,q6⟩:=hz6;show jK hp (iP (hb _ s6 σ6 H6 _ I6 q6) λf s7 q7=>?_);have again:∀{σ7:St}{H7:Hp},Inv X (bi++Di fp s5.heap) σ7 H7 s7->N σ7 H7->∃m,m<n/\∃i σ' H',Inv X bi σ' H' s7/\tn i s7.heap/\(∀b∈fp,H' b=none)/\W i m σ' H':=λ{σ7 H7} I7 n7=>by let(m',hm,w7):=hN σ7 H7 n7;show{m',hm,i+1,σ7,H7,I7.A4,T.keep _ _ _ kf λb hb o e=>(I7.pin (b,o)<|b8 _<|b8 _<|wM hb e).1,23,w7};let(o,e,d):=T.obj _ _ kf b hb;show(I7.pin (b,o)<|b8 _<|b8 _<|wM hb e).2.1
 cases f with
 |next=>obtain⟨σ7,H7,I7,n7⟩:=q7;show again I7 n7
 |cont=>obtain⟨σ7,H7,I7,n7⟩:=q7;show again I7 n7
 |brk=>obtain⟨σ7,H7,I7,q7⟩:=q7;show{σ7,H7,I7.A4,q7}
 |ret v=>obtain⟨x7,σ7,H7,I7,r7,q7⟩:=q7;show{x7,σ7,H7,I7.A4,r7,q7}
abbrev xc(J:It)(g:TG)(tb:TS)(D:Ends)(Z:St)(H:Hp):Prop:=∃W:Nat->Nat->St->Hp->Prop,(∃m,W 0 m Z H)/\∀i m Z H,W i m Z H->
 (J.stop i H/\D.nx Z H)\/(J.go i H/\∃N:St->Hp->Prop,(∀σ' H',N σ' H'->∃m',m'<m/\W (i+1) m' σ' H')/\∀x H',J.Fx i H x H'->g x Z H' λσ2 H2=>tb {D with nx:=N,ct:=N,bk:=D.nx} σ2 H2)
def DU{J:It}{n:Nat}{g:TG}{tb:TS}{D:Ends}{Z:St}{H:Hp}(Pv:Nat->St->Hp->Prop)(h0:Pv 0 Z H)(hg:∀i Z H,i<n->Pv i Z H->J.go i H/\∀x H',J.Fx i H x H'->g x Z H' λσ2 H2=>tb {D with nx:=Pv<|i+1,ct:=Pv<|i+1,bk:=D.nx} σ2 H2)(hd:∀Z H,Pv n Z H->J.stop n H/\D.nx Z H):xc J g tb D Z H:=by
 show{λi m Z H=>m=n -i/\i<=n/\Pv i Z H,{n,75,aF _,h0},?_};ext i m Z H ⟨rfl,hi,p⟩;by_cases b6:i<n;·let(a,b):=hg i Z H b6 p;show .inr {a,Pv<|i+1,λσ' H' p'=>{n -(i+1),8,9,b6,p'},b}
 have e:i=n:=by lia
 subst e;show .inl<|hd Z H p
def G0{K:Frag}{g:TG}{tb:TS}{D:Ends}(Pv:Nat->St->Hp->Prop)(h0:Pv 0 Z H)(hl:∀i Z H,i<=55->Pv i Z H->aT K H a xs)
  (hs:∀i x Z H,xs[i]?>x->Pv i Z H->g x Z H λσ2 H2=>tb {D with nx:=Pv<|i+1,ct:=Pv<|i+1,bk:=D.nx} σ2 H2) (hd:∀Z H,Pv 55 Z H->D.nx Z H):xc (Yj K a) g tb D Z H:=by
 show DU Pv h0 (λi Z H hi p=>?_) λZ H p=>{{xs,hl _ Z H (ao _) p,ao _},hd Z H p};have q:=hl i Z H (bU hi) p;show{{xs,_,q,aq hi},?_};ext x H' ⟨rfl,y⟩;show hs i x Z _ (y xs q) p
def acA{K:Frag}{g:TG}{tb:TS}{D:Ends}(Pv:Nat->St->Hp->Prop)(h0:Pv 0 Z H)(hl:∀i Z H,i<=55->Pv i Z H->aZ K H a xs)
  (hs:∀i x Z H,xs[i]?>x->Pv i Z H->g x Z H λσ2 H2=>tb {D with nx:=Pv<|i+1,ct:=Pv<|i+1,bk:=D.nx} σ2 H2) (hd:∀Z H,Pv 55 Z H->D.nx Z H):xc (Yh K a) g tb D Z H:=by
 show DU Pv h0 (λi Z H hi p=>?_) λZ H p=>{{xs,hl _ Z H (ao _) p,ao _},hd Z H p};have q:=hl i Z H (bU hi) p;show{{xs,_,q,aq hi},?_};ext x H' ⟨rfl,y⟩;show hs i x Z _ (y xs q) p
def Xu{lo:Int}{g:TG}{tb:TS}{D:Ends}(Pv:Nat->St->Hp->Prop)(h0:Pv 0 Z H)
  (hs:∀i Z H,i<n->Pv i Z H->g (.int<|lo+i) Z H λσ2 H2=>tb {D with nx:=Pv<|i+1,ct:=Pv<|i+1,bk:=D.nx} σ2 H2) (hd:∀Z H,Pv n Z H->D.nx Z H):xc (Yi lo n) g tb D Z H:=by
 show DU Pv h0 (λi Z H hi p=>{hi,?_}) λZ H p=>{ao _,hd Z H p};ext x H' ⟨rfl,rfl⟩;show hs i Z _ hi p
abbrev R2:=V->V->Hp->VK->Prop
end
def je(X:Cx)(f:jp->jp->Sem jp)(r:R2):Prop:=
 ∀(bi:Aab)(s:fv)(Z:St)(H:Hp)(x y:V)(v u:jp)(Q:VK),Inv X bi Z H s->RelV x v->RelV y u->r x y H Q->
  f8 82 X.A (f v u) (EP X bi Z Q) X.xe s
def fB(X:Cx)(f:jp)(r:Aan->Hp->VK->Prop):Prop:=
 ∀(bi:Aab)(s:fv)(Z:St)(H:Hp)(xs:Aan)(us:Aaf)(Q:VK),Inv X bi Z H s->Vals xs us->r xs H Q->
  f8 82 X.A (Ix f us) (EP X bi Z Q) X.xe s
def aiA(X:Cx)(r:V->Hp->(Bool->Hp->Prop)->Prop):Prop:=
 ∀(bi:Aab)(s:fv)(Z:St)(H:Hp)(x:V)(v:jp)(Q:Bool->Hp->Prop),Inv X bi Z H s->RelV x v->r x H Q->
  f8 82 X.A (truthy v) (TP X bi Z Q) X.xe s
def tOp(r:R2)(ta tb:TE):TE:=λZ H Q=>ta Z H λx H1=>tb Z H1 λy H2=>r x y H2 Q
inductive rI(C:Int->Int->Prop)(g:Int->Int->V)(x:V)(y:V)(H:Hp)(Q:VK):Prop
 |mk i j (_:x=.int i) (_:y=.int j) (_:C i j) (_:Q (g i j) H)
inductive K8(g:Int->Int->V)(x:V)(y:V)(H:Hp)(Q:VK):Prop
 |mk i j (_:x=.int i) (_:y=.int j) (_:Q (g i j) H)
section
variable{X:Cx}{a b:xL}{ta tb:TE}{pos:GM}
def aal(ha:PE X a ta)(hb:PE X b tb){R:V->V->Hp->Prop}(I:Inv X bi Z H s)
  (h:ta Z H λx H1=>tb Z H1 λy H2=>R x y H2) {f:jp->jp->Sem jp}
  (hf:∀v u s2 x y H2,Inv X bi Z H2 s2->RelV x v->RelV y u->R x y H2->f8 82 X.A (f v u) Q X.xe s2):
  f8 82 X.A (wT a X.env) (λv aaa=>f8 82 X.A (wT b X.env) (λu aae=>f8 82 X.A (f v u) Q X.xe aae) X.xe aaa) X.xe s:=by
 show dk 30 λv s1 x H1 I1 r1 q1=>?_;show dk (hb bi s1 Z H1 _ I1 q1) λu s2 y H2 I2 r2 q2=>hf v u s2 x y H2 I2 r1 r2 q2
def dj(ho:je X (Fk op) r)(ha:PE X a ta)(hb:PE X b tb):PE X (.BinOp a op b pos) (tOp r ta tb):=by ext bi s Z H Q I h;show wpAny_BinOp (aal ha hb I h λv u s2 x y H2 I2 rx ry q=>ho bi s2 Z H2 x y v u Q I2 rx ry q)
def opI{g:Int->Int->Int}
  (rule:∀(i j:Int)(t u:Tok)(s:fv)(Q:Aad)(E:Aad),C i j->Q (.int (g i j) 89) {s with toks:=89+1}->f8 82 X.A (f (.int i t)<|.int j u) Q E s):
  je X f (rI C λi j=>.int<|g i j):=by
 ext bi s Z H x y v u Q I rx ry h;let(i,j,rfl,rfl,hc,q):=h;let(t,rfl):=rx;let(t',rfl):=ry;show rule i j t t' s _ _ hc {.int<|g i j,H,28,41,q}
def aee{g:Int->Int->Int}
  (rule:∀(i j:Int)(t u:Tok)(s:fv)(Q:Aad)(E:Aad),Q (.int (g i j) 89) {s with toks:=89+1}->f8 82 X.A (f (.int i t)<|.int j u) Q E s):
  je X f (K8 λi j=>.int<|g i j):=by
 ext bi s Z H x y v u Q I rx ry h;let(i,j,rfl,rfl,q):=h;let(t,rfl):=rx;let(t',rfl):=ry;show rule i j t t' s _ _ {.int<|g i j,H,28,41,q}
def Tv{g:Int->Int->Bool}
  (rule:∀(i j:Int)(t u:Tok)(s:fv)(Q:Aad)(E:Aad),Q (.bool<|g i j) s->f8 82 X.A (f (.int i t)<|.int j u) Q E s):
  je X f (K8 λi j=>.bl<|g i j):=by
 ext bi s Z H x y v u Q I rx ry h;let(i,j,rfl,rfl,q):=h;let(t,rfl):=rx;let(t',rfl):=ry;show rule i j t t' s _ _ {.bl<|g i j,H,I,9,q}
def aiF(i j:Int):Prop:=0<=j/\j<=1000000/\i.natAbs<2^64
def aaw(i j:Int):Prop:=(-(2^64)<i/\i<2^64)\/(-(2^64)<j/\j<2^64)
def aaw.ok(h:aaw i j):IntMulOk i j:=by
 rcases h with⟨h1,h2⟩|⟨h1,h2⟩;·show .of_left<|intBits_le_64 h1 h2
 show .of_right<|intBits_le_64 h1 h2
def kW:je X (Fk .Add) (K8 λi j=>.int<|i+j):=aee λ_ _ _ _ _ _ _ q=>add_int q
def aea:je X (Fk .Sub) (K8 λi j=>.int<|i -j):=aee λ_ _ _ _ _ _ _ q=>sub_int q
def Dl:je X (Fk .Mult) (rI aaw λi j=>.int<|i*j):=opI λ_ _ _ _ _ _ _ hc q=>mul_int q hc.ok
def vy:je X (Fk .Mod) (rI (λ_ j=>0<j) λi j=>.int<|i % j):=opI λi j _ _ _ _ _ hc q=>by show mod_int' ∅ (by rw[Int.fmod_eq_emod_of_nonneg i ∅];show q)
def aeb:je X (Fk .Pow) (rI aiF λi j=>.int<|i^j.toNat):=opI λ_ _ _ _ _ _ _ hc q=>pow_int_small hc.1 hc.2.1 hc.2.2 q
def adO:V->V->Bool
 | .cx,.cx=>true| .cx,.int _=>true| .int _,.cx=>true| .cx,.bl _=>true| .bl _,.cx=>true| .cx,.str _=>true| .str _,.cx=>true
 | .int _,.int _=>true| .bl _,.bl _=>true| .str _,.str _=>true| .wm _,.wm _=>true
 | .int _,.str _=>true| .str _,.int _=>true| .bl _,.str _=>true| .str _,.bl _=>true
 |_,_=>false
def rEq:R2:=λx y H Q=>adO x y=true/\Q (.bl<|decide (x=y)) H
def rNe:R2:=λx y H Q=>adO x y=true/\Q (.bl<|!decide (x=y)) H
def Sr:decide (V.int i=V.int j)=(i==j):=by rw[dO];simp
def XN:decide (V.bl i=V.bl j)=(i==j):=by rw[dO];simp
def Sq:decide (V.str i=V.str j)=(i==j):=by rw[dO];simp
def Ss:decide (V.wm i=V.wm j)=(i.toList==j.toList):=by rw[dO];cases i;cases j;simp
variable{c:xL}{tc:TE}
def eO(I:Inv X bi Z H s)(q:Q (.bl k) H)(e:k=k'):EP X bi Z Q (.bool k') s:=by subst e;show{.bl k,H,I,9,q}
def rG:je X (wv .Eq) rEq:=by
 ext bi s Z H x y v u Q I rx ry h;let(hs,q):=h;cases x with
 |cx=>
  cases rx;cases y with
  |cx=>cases ry;show PySem.EqNone.eq_none_none<|eO I q 75
  |bl j=>cases ry;show PySem.EqNone.eq_none_bool<|eO I q 75
  |int j=>let(t',rfl):=ry;show PySem.EqNone.eq_none_int<|eO I q 75
  |str j=>let(t',rfl):=ry;show PySem.EqNone.eq_none_str<|eO I q 75
  |_=>show absurd (show false=true from hs) bJ
 |bl i=>
  cases rx;cases y with
  |cx=>cases ry;show PySem.EqNone.eq_bool_none<|eO I q 75
  |bl j=>cases ry;show eq_bool<|eO I q XN
  |str j=>let(t',rfl):=ry;show PySem.EqMixed.eq_bool_str<|eO I q 75
  |_=>show absurd (show false=true from hs) bJ
 |int i=>
  let(t,rfl):=rx;cases y with
  |cx=>cases ry;show PySem.EqNone.eq_int_none<|eO I q 75
  |int j=>let(t',rfl):=ry;show eq_int<|eO I q Sr
  |str j=>let(t',rfl):=ry;show PySem.EqMixed.eq_int_str<|eO I q 75
  |_=>show absurd (show false=true from hs) bJ
 |str i=>
  let(t,rfl):=rx;cases y with
  |cx=>cases ry;show PySem.EqNone.eq_str_none<|eO I q 75
  |bl j=>cases ry;show PySem.EqMixed.eq_str_bool<|eO I q 75
  |int j=>let(t',rfl):=ry;show PySem.EqMixed.eq_str_int<|eO I q 75
  |str j=>let(t',rfl):=ry;show eq_str<|eO I q Sq
  |_=>show absurd (show false=true from hs) bJ
 |wm i=>
  let(t,rfl):=rx;cases y with
  |wm j=>let(t',rfl):=ry;show PySem.W.eq_bytes<|eO I q Ss
  |_=>show absurd (show false=true from hs) bJ
 |_=>cases y<;>show absurd (show false=true from hs) bJ
def Ip:je X (wv .NotEq) rNe:=by
 ext bi s Z H x y v u Q I rx ry h;let(hs,q):=h;cases x with
 |cx=>
  cases rx;cases y with
  |cx=>cases ry;show PySem.EqNone.ne_none_none<|eO I q 75
  |bl j=>cases ry;show PySem.EqNone.ne_none_bool<|eO I q 75
  |int j=>let(t',rfl):=ry;show PySem.EqNone.ne_none_int<|eO I q 75
  |str j=>let(t',rfl):=ry;show PySem.EqNone.ne_none_str<|eO I q 75
  |_=>show absurd (show false=true from hs) bJ
 |bl i=>
  cases rx;cases y with
  |cx=>cases ry;show PySem.EqNone.ne_bool_none<|eO I q 75
  |bl j=>cases ry;show ne_bool<|eO I q<|c8 not XN
  |str j=>let(t',rfl):=ry;show PySem.EqMixed.ne_bool_str<|eO I q 75
  |_=>show absurd (show false=true from hs) bJ
 |int i=>
  let(t,rfl):=rx;cases y with
  |cx=>cases ry;show PySem.EqNone.ne_int_none<|eO I q 75
  |int j=>let(t',rfl):=ry;show ne_int<|eO I q<|c8 not Sr
  |str j=>let(t',rfl):=ry;show PySem.EqMixed.ne_int_str<|eO I q 75
  |_=>show absurd (show false=true from hs) bJ
 |str i=>
  let(t,rfl):=rx;cases y with
  |cx=>cases ry;show PySem.EqNone.ne_str_none<|eO I q 75
  |bl j=>cases ry;show PySem.EqMixed.ne_str_bool<|eO I q 75
  |int j=>let(t',rfl):=ry;show PySem.EqMixed.ne_str_int<|eO I q 75
  |str j=>let(t',rfl):=ry;show ne_str<|eO I q<|c8 not Sq
  |_=>show absurd (show false=true from hs) bJ
 |wm i=>
  let(t,rfl):=rx;cases y with
  |wm j=>let(t',rfl):=ry;show PySem.W.ne_bytes<|eO I q<|c8 not Ss
  |_=>show absurd (show false=true from hs) bJ
 |_=>cases y<;>show absurd (show false=true from hs) bJ
def Mv:je X (wv .Lt) (K8 λi j=>.bl<|decide (i<j)):=Tv λ_ _ _ _ _ _ _ q=>lt_int q
def Tu:je X (wv .LtE) (K8 λi j=>.bl<|decide (i<=j)):=Tv λ_ _ _ _ _ _ _ q=>le_int q
def Iq:je X (wv .Gt) (K8 λi j=>.bl<|decide (j<i)):=Tv λ_ _ _ _ _ _ _ q=>gt_int q
def aaO:je X (wv .GtE) (K8 λi j=>.bl<|decide (j<=i)):=Tv λ_ _ _ _ _ _ _ q=>ge_int q
def VS:je X (wv .In) (λx y H Q=>∃i j,x=.str i/\y=.str j/\Q (.bl<|!(Builtin.Str.occurrences j i 0 j.length 1).isEmpty) H):=by ext bi s Z H x y v u Q I rx ry h;let(i,j,rfl,rfl,q):=h;let(t,rfl):=rx;let(t',rfl):=ry;show in_str<|eO I q 9
def xv:je X (wv .Is) (λx y H Q=>y=.cx/\Q (.bl<|decide (x=.cx)) H):=by
 ext bi s Z H x y v u Q I rx ry h;let(rfl,q):=h;cases ry;show is_none_gen<|eO I q ?_;cases x<;>first
  |(cases rx;rfl)
  |(let(t,rfl):=rx;rfl)
def Rv:je X (wv .IsNot) (λx y H Q=>y=.cx/\Q (.bl<|!decide (x=.cx)) H):=by
 ext bi s Z H x y v u Q I rx ry h;let(rfl,q):=h;cases ry;show isnot_none_gen<|eO I q ?_;cases x<;>first
  |(cases rx;rfl)
  |(let(t,rfl):=rx;rfl)
def cL(b:xL)(h:op≠ .In:=by decide)(h2:op≠ .NotIn:=by decide):K' op b=false:=by
 have e1:(op==CmpOp.In)=false:=by cases op<;>first|rfl|show absurd rfl h
 have e2:(op==CmpOp.NotIn)=false:=by cases op<;>first|rfl|show absurd rfl h2
 cases b<;>simp[K',e1,e2]
def gu(ho:je X (wv op) r)(ha:PE X a ta)(hb:PE X b tb)(hm:K' op b=false):PE X (.Compare a [op] [b] pos) (tOp r ta tb):=by ext bi s Z H Q I h;show wpAny_Compare1 (aal ha hb I h λv u s2 x y H2 I2 rx ry q=>ho bi s2 Z H2 x y v u Q I2 rx ry q) hm
inductive ado(Q:Bool->Hp->Prop)(x:V)(H':Hp):Prop
 |mk k (_:x=.bl k) (_:Q k H')
def afW(t:TE):TT:=λZ H Q=>t Z H λx H'=>ado Q x H'
def cU(ho:je X (wv op) r)(ha:PE X a ta)(hb:PE X b tb)(hm:K' op b=false):PT X (.Compare a [op] [b] pos) (afW<|tOp r ta tb):=by ext bi s Z H Q I h;show Ae (dk 30 λv s1 x H1 I1 r1 q1=>dk (hb bi s1 Z H1 _ I1 q1) λu s2 y H2 I2 r2 q2=>iP (ho bi s2 Z H2 x y v u _ I2 r1 r2 q2) λc s3 hz7=>?_) hm;let(z,H3,I3,r3,k,e,q3):=hz7;subst e;cases r3;show fW ⟨H3,I3,q3⟩
def adD(r r':R2)(ta tb tc:TE):TE:=λZ H Q=>ta Z H λx H1=>tb Z H1 λy H2=>r x y H2 λz H3=>∃k,z=.bl k/\
 (if k=true then tc Z H3 λw' H4=>r' y w' H4 Q else Q (.bl false) H3)
def Y6(ho:je X (wv op) r)(DQ:je X (wv op') r')(ha:PE X a ta)(hb:PE X b tb)(hc:PE X c tc)
  (hm:lastMarks [op,op'] [b,c]=false:=by with_unfolding_all rfl):PE X (.Compare a [op,op'] [b,c] pos) (adD r r' ta tb tc):=by
 ext bi s Z H Q I h;show Compare_chain (dk 30 λv s1 x H1 I1 r1 q1=>chain_link (dk (hb bi s1 Z H1 _ I1 q1) λu s2 y H2 I2 r2 q2=>iP (ho bi s2 Z H2 x y v u _ I2 r1 r2 q2) λd s3 hz8=>?_)) hm;let(z,H3,I3,r3,k,e,q3):=hz8;subst e;cases r3;show fW ?_;cases k with
 |false=>show ite_ff {.bl false,H3,I3,9,q3}
 |true=>show ite_tt<|chain_last (iP (hc bi s3 Z H3 _ I3 q3) λw' s4 zq=>by let(z',H4,I4,r4,q4):=zq;show DQ bi s4 Z H4 y z' u w' Q I4 r2 r4 q4)
def afE(K:Frag)(x:V)(H:Hp)(k:Bool):Prop:=
 match x with
 | .cx=>k=false
 | .bl b=>k=b
 | .int i=>k=(i !=0)
 | .str y=>y.length<=dL/\k=((y.length:Int) !=0)
 | .wm y=>y.size<=dL/\k=((y.size:Int) !=0)
 | .ref p=>(∃xs,aT K H p xs/\k=!xs.isEmpty)\/(∃xs,aZ K H p xs/\k=!xs.isEmpty)\/∃kvs,H p>.dK kvs/\k=!kvs.isEmpty
 |_=>False
def TX(r:KV kvs vs):(!vs.isEmpty)=!kvs.isEmpty:=by cases r<;>rfl
def IL(r:Vals xs aK):(!aK.toArray.isEmpty)=!xs.isEmpty:=by cases r<;>simp
def Az:(dL:Nat)<2^63:=by rw[bM];decide
def adj:aiA X (λx H Q=>∃k,afE X.K x H k/\Q k H):=by
 ext bi s Z H x v Q I rx h;let(k,e,q):=h;have hl:=Az;have hs:dL=16777216:=bM;cases x with
 |cx=>
  cases rx;have e':k=false:=e;subst e';show truthy_none ⟨H,I,q⟩
 |bl b=>
  cases rx;have e':k=b:=e;subst e';show fW ⟨H,I,q⟩
 |int i=>
  let(t,rfl):=rx;have e':k=(i !=0):=e;subst e';show PySem.P.truthy_int ⟨H,I,q⟩
 |str y=>
  let(t,rfl):=rx;obtain⟨hy,e'⟩:y.length<=dL/\k=((y.length:Int) !=0):=e;subst e';show PySem.P.truthy_str ∅ {H,28,q}
 |wm y=>
  let(t,rfl):=rx;obtain⟨hy,e'⟩:y.size<=dL/\k=((y.size:Int) !=0):=e;subst e';show PySem.W.truthy_bytes ∅ {H,28,q}
 |ref p=>
  cases rx;have e':(∃xs,aT X.K H p xs/\k=!xs.isEmpty)\/(∃xs,aZ X.K H p xs/\k=!xs.isEmpty)\/∃kvs,H p>.dK kvs/\k=!kvs.isEmpty:=e;rcases e' with⟨xs,hx,e'⟩|⟨xs,hx,e'⟩|⟨kvs,hx,e'⟩;·subst e';let(aK,r,pl,hz):=I.list hx;have hlen:=r.length;show wpAny_truthy_list pl.isList (by simp only[aR];lia) {H,28,by rw[IL r];show q}
  ·subst e';let(aK,r,pl,hz):=I.tuple hx;have hlen:=r.length;show truthy_tuple pl (by simp only[aR];lia) {H,28,by rw[IL r];show q}
  subst e';obtain⟨hz,hS,vs,r,m⟩:kvs.length<=dL/\(p==zn)=false/\∃vs,KV kvs vs/\s.heap.DictOf (b4 81 X.w) p vs:=I.bE p _ hx;have hlen:kvs.length=vs.length:=aQ r;show wpAny_truthy_dict hS m ∅ {H,28,by rw[TX r];show q}
 |_=>show(show False from e).elim
def Ny(ha:PE X a ta)(he:∀whole,isTrue a X.env whole=(do let v<-whole;standAt a.pos;J' [v] (truthy v))):
  PT X a (λZ H Q=>ta Z H λx H'=>∃k,afE X.K x H' k/\Q k H'):=by
 ext bi s Z H Q I h;show isTrue_plain (dk 30 λv s1 x H1 I1 r1 q1=>adj bi s1 Z H1 x v Q I1 r1 q1)<|he _
def Bk:je X (Fk .Add) (λx y H Q=>∃i j,x=.str i/\y=.str j/\i.length+j.length<=dL/\Q (.str<|i++j) H):=by ext bi s Z H x y v u Q I rx ry h;let(i,j,rfl,rfl,hz,q):=h;let(t,rfl):=rx;let(t',rfl):=ry;show add_str (λt' tk=>{.str<|i++j,H,28,41,q}) hz
def iw(r:Vals [x] us):∃u,us=[u]/\RelV x u:=by
 cases r with
 |cons r1 r2=>cases r2;show⟨_,rfl,r1⟩
def u0(r:Vals [x,y] us):∃u w',us=[u,w']/\RelV x u/\RelV y w':=by
 cases r with
 |cons r1 r2=>
  cases r2 with
  |cons r3 r4=>cases r4;show⟨_,_,rfl,r1,r3⟩
def Yb(hc:X.calm=true):fB X (.builtin "max") (λxs H Q=>∃i j,xs=[.int i,.int j]/\Q (.int (if j⊃i then j else i)) H):=by
 ext bi s Z H xs us Q I r h;let(i,j,rfl,q):=h;obtain⟨u,w',rfl,⟨t,rfl⟩,⟨t',rfl⟩⟩:=u0 r;show max_two_ints 46 λh' tk k=>{_,H,I.kept k,?_,q};by_cases hj:j⊃i;·rw[aL hj,aL hj];show⟨_,rfl⟩
 rw[az hj,az hj];show⟨_,rfl⟩
def y3:fB X (.type "int") (λxs H Q=>(∃i,xs=[.int i]/\Q (.int i) H)\/∃k,xs=[.bl k]/\Q (.int (if k then 1 else 0)) H):=by
 ext bi s Z H xs us Q I r h;rcases h with⟨i,rfl,q⟩|⟨k,rfl,q⟩;·let(u,rfl,t,rfl):=iw r;show call_int_int {.int i,H,I,41,q}
 let(u,rfl,r1):=iw r;cases r1;show call_int_bool {.int (if k then 1 else 0),H,28,41,q}
def UH(K:Frag)(x:V)(H:Hp)(n:Nat):Prop:=
 match x with
 | .str y=>y.length<=dL/\n=y.length
 | .wm y=>y.size<=dL/\n=y.size
 | .ref p=>(∃xs,aT K H p xs/\n=55)\/∃xs,aZ K H p xs/\n=55
 |_=>False
def cW:fB X (.builtin "len") (λxs H Q=>∃x n,xs=[x]/\UH X.K x H n/\Q (.int n) H):=by
 ext bi s Z H xs us Q I r h;let(x,n,rfl,e,q):=h;let(u,rfl,rx):=iw r;have hs:dL=16777216:=bM;cases x with
 |str y=>
  let(t,rfl):=rx;obtain⟨hy,e'⟩:y.length<=dL/\n=y.length:=e;subst e';show len_str ∅ {.int _,H,28,41,q}
 |wm y=>
  let(t,rfl):=rx;obtain⟨hy,e'⟩:y.size<=dL/\n=y.size:=e;subst e';show PySem.W.len_bytes ∅ {.int _,H,28,41,q}
 |ref p=>
  cases rx;have e':(∃xs,aT X.K H p xs/\n=55)\/∃xs,aZ X.K H p xs/\n=55:=e;rcases e' with⟨xs,hx,e'⟩|⟨xs,hx,e'⟩;·subst e';let(aK,r',pl,hz):=I.list hx;have hlen:=r'.length;show CF pl.isList (by simp only[aR];lia) {.int 55,H,28,{_,by simp only[aR];rw[hlen]},q}
  subst e';let(aK,r',pl,hz):=I.tuple hx;have hlen:=r'.length;show len_tuple pl (by simp only[aR];lia) {.int 55,H,28,{_,by simp only[aR];rw[hlen]},q}
 |_=>show(show False from e).elim
structure Hk(h:ss)(x dx C:cr)(mA:Aac):Prop where
 obj:h.get? x>instObj C dx
 ns:h.Ns1 dx mA
 ne:dx≠x
def Wu{h:ss}(n:h.Ns1 dx mA):∃od,h.get? dx>od/\∀name,lookIn name od>mA name:=by
 let(o,es,ep,ho,hd,hk,__,hm):=n;show{o,ho,λname=>?_};have e:=hm name;unfold nsFind findBy at e;rw[<-Array.find?_toList]at e;unfold lookIn;rw[hd];dsimp only;split;·rename_i y q;rw[q]at e;show c8 some e
 rename_i q;rw[q]at e;have a:es.toList.any (·.refKey)=false:=by rw[wq];ext y hy;let(z,t,zK):=hk y<|BX.mp hy;simp[DictEntry.refKey,zK]
 rw[az (by rw[a];show bJ)];show c8 some e
def Hk.look(I:Hk h x dx C mA):∃od,PySem.W.InstAt h x (instObj C dx) C (some od)/\∀name,lookIn name od>mA name:=
 let⟨od,ho,hl⟩:=Wu I.ns
 {od,{I.obj,9,9,ho},hl}
variable{prog:io}{w:mo}{A:wf}{E:Aad}{s:fv}{K:Frag}{x dx C f:cr}{mA:Aac}{name:pi}{v:jp}
def get_map(X:K.In s.heap)(I:Hk s.heap x dx C mA)(hg:plainGet K C name=true)(hh:hasDictIn K C=true)
  (ha:findIn K (-C) name>none) (hv:mA name>v) (hv':PySem.W.handedIn v=true) (h:Q v {s with toks:=89+1}):
  f8 77 A (getAttr (-x) name expr) Q E s:=by
 let(od,J,hl):=I.look;show PySem.W.get_value X J (uj hg).1 (PySem.W.findObj_own hh ha 9 (by rw[hl,hv])) hv' h
def ZU(X:K.In s.heap)(I:Hk s.heap x dx C mA)(hg:plainGet K C name=true)
  (hf:findIn K (-C) name>some (-f)) (ht:isFn K (-f)=true) (hv:mA name=none) (h:Q (-f,[-x]) s):
  f8 77 A (Z' (-x) name pl) Q E s:=by
 let(od,J,hl):=I.look;show PySem.W.method_fn X J (uj hg).1 (uj hg).2 hf (k8.mp ht) (by change(lookIn name od).map (·.isSome)>false;rw[hl,hv];rfl) h
def abE(X:K.In s.heap)(I:Hk s.heap x dx C mA)
  (hs:findIn K (-C) "__setattr__">some (.builtin "object.__setattr__")) (hp:PySem.W.plainOver K C=true) (ht:PySem.W.takerIn K C name>none) (hh:hasDictIn K C=true)
  (hw:PySem.Within mA ns) (hsz:ns.length<=dL)
  (h:∀h',Hk h' x dx C (λy=>if y=name then some v else mA y)->Heap.SameBut dx s.heap h'->Q () {s with heap:=h',toks:=89+2}):
  f8 77 A (setAttr (-x) name v) Q E s:=by
 let(od,J,hl):=I.look;show PySem.W.set_plain X J hs (PySem.W.osa_open X J hp ht λb=>?_);let(cd,hc,ui):=PySem.W.any_some hh;show ae<|ah<|ae<|ae<|Ad I.obj<|ae<|PySem.W.Looks.here (PySem.W.looks_clsIn X hc) ?_;rw[ui];show ah<|ae<|ah<|ae ?_;show wpAny_nsSet1 I.ns λh' LA k7=>?_;let(oD,esD,epD,hoD,hdD,IW):=LA.count<|PySem.Within.cons name v hw;show ae<|wpAny_lookBehind hoD (by rw[hdD];show pastItsLine_dict<|aS IW (by rw[bc];lia))<|ah<|h _ {(k7.2 _<|bN I.ne).trans I.obj,LA,I.ne} k7
def Zo(X:K.In s.heap)(hm:PySem.W.makesIn K C=true)
  (hi:findIn K (-C) "__init__">some (-f)) (hf:PySem.W.typeIn K (-f)>.type "function")
  (h:AT 77 (A.under<|.builtin "type.__call__" {.ref C::vs,kw}) (.call (-f) {.ref (35+1)::vs,kw}) (PySem.W.InitBack (35+1) R)
   (s\(s.heap.push emptyDict).push (instObj C 35))):
  AT 77 A (.call (-C) ⟨vs,kw⟩) R s:=by
 let(hh,g,d,t,os):=s;show PySem.W.make_core (PySem.W.makes_of X hm) (PySem.W.looks_findIn X hi) (λself=>PySem.W.bind_fn X self hf) (.inl 9) h
end
def fZ(f:pi)(v:V):List (pi×V)->List (pi×V)
 |[]=>[(f,v)]
 |(g,x)::r=>if g=f then(g,v)::r else(g,x)::fZ f v r
theorem F0(f g:pi)(v:V):∀fs:List (pi×V),(fZ f v fs).lookup g=if g=f then some v else fs.lookup g
 |[]=>by
  change List.lookup g [(f,v)]=_;by_cases h:g=f;·have hb:=k8.mpr h;simp only[List.lookup,hb,aL h]
  have hb:=dq.mpr h;simp only[List.lookup,hb,az h]
 |(k,x)::r=>by
  rw[show fZ f v ((k,x)::r)=(if k=f then(k,v)::r else(k,x)::fZ f v r)from rfl];by_cases hk:k=f
  ·rw[aL hk];by_cases h:g=k;·have hb:=k8.mpr h;simp only[List.lookup,hb,aL<|h.trans hk]
   have hb:=dq.mpr h;simp only[List.lookup,hb,az (λe:g=f=>h<|e.trans hk.symm)]
  rw[az hk];by_cases h:g=k;·have hb:=k8.mpr h;simp only[List.lookup,hb,az (λe:g=f=>hk<|h.symm.trans e)]
  have hb:=dq.mpr h;simp only[List.lookup,hb];show(F0 f g v r)
theorem DE(f:pi)(v:V):∀fs:List (pi×V),f∈(fZ f v fs).map (·.1)/\∀g,g∈fs.map (·.1)->g∈(fZ f v fs).map (·.1)
 |[]=>{by simp[fZ],λg h=>by simp at h}
 |(k,x)::r=>by
  let(i1,i2):=DE f v r;rw[show fZ f v ((k,x)::r)=(if k=f then(k,v)::r else(k,x)::fZ f v r)from rfl];by_cases hk:k=f;·rw[aL hk];subst hk;show{75,λg h=>by simpa using h}
  rw[az hk];show{?_,λg h=>?_};·rw[bI];show aA _ i1
  rw[bI]at h⊢;rcases aJ.mp h with e|e;·show aJ.mpr<|.inl e
  show aA _<|i2 g e
theorem F1(f:pi)(v:V):∀fs:List (pi×V),(fZ f v fs).length<=fs.length+1
 |[]=>by simp[fZ]
 |(k,x)::r=>by
  have ih:=F1 f v r;rw[show fZ f v ((k,x)::r)=(if k=f then(k,v)::r else(k,x)::fZ f v r)from rfl];by_cases hk:k=f;·rw[aL hk,bc,bc];lia
  rw[az hk,bc,bc];lia
def oj.some_of(r:oj (some v) o):∃u,o>u/\RelV v u:=by
 cases o with
 |none=>show(show False from r).elim
 |some u=>show⟨u,rfl,r⟩
def oj.none_of(r:oj none o):o=none:=by
 cases o with
 |none=>rfl
 |some u=>show(show False from r).elim
def Xh(r:RelV v u):PySem.W.handedIn u=true:=by
 cases v with
 |cx=>cases(show u=Value.none from r);rfl
 |bl b=>cases(show u=Value.bool b from r);rfl
 |int i=>let(t,e):=(show∃t,u=Value.int i t from r);cases e;rfl
 |str x=>let(t,e):=(show∃t,u=Value.str x t from r);cases e;rfl
 |wm b=>let(t,e):=(show∃t,u=Value.bytes b t from r);cases e;rfl
 |O7 b=>let(t,e):=(show∃t,u=Value.float b t from r);cases e;rfl
 |ref a=>cases(show u=Value.ref a from r);rfl
 |ty n=>cases(show u=Value.type n from r);rfl
section
variable{P:io}{w:mo}{H:Hp}{h:ss}{a C dx:cr}{fs:List (pi×V)}
def E1(bE:kK P w H h)(e:H a>.ins C dx fs):∃mA,Hk h a dx C mA/\(∀f,oj (fs.lookup f)<|mA f)/\PySem.Within mA (fs.map (·.1))/\fs.length<=1000/\H dx>.own a:=by let(d,z,ne,ob,mA,n,r,q):=(show da P w H h a (.ins C dx fs)from bE a _ e);show{mA,⟨ob,n,ne⟩,r,q,z,d}
end
structure AX(K:Frag)(C:cr):Prop where
 pg:plainGet K C Str.empty=true
 hd:hasDictIn K C=true
 po:PySem.W.plainOver K C=true
 sa:findIn K (-C) "__setattr__">some (.builtin "object.__setattr__")
def AX.get{K:Frag}(c:AX K C)(f:pi):plainGet K C f=true:=c.pg
def mI(K:Frag)(C:cr)(f:pi):Prop:=findIn K (-C) f>none
def mI.afV{K:Frag}(n:mI K C f):PySem.W.takerIn K C f>none:=by unfold PySem.W.takerIn;rw[show findIn K (-C) f>none from n];rfl
structure Con(K:Frag)(C:cr)(f:pi)(v:V)(u:jp):Prop where
 at_:findIn K (-C) f>some u
 rel:RelV v u
 get:PySem.W.specialIn K u "__get__">none
 cp:PySem.W.copiedNames.contains f=false
structure Meth(K:Frag)(C:cr)(m:pi)(f:cr):Prop where
 at_:findIn K (-C) m>some (-f)
 fn:isFn K (-f)=true
 kp:keepIn K (-f)=true
section
variable{X:Cx}{bi:Aab}{Z:St}{H:Hp}{s:fv}{a C dx:cr}{fs:List (pi×V)}{f:pi}{v:V}{A:wf}{E:Aad}
def Uh(I:Inv X bi Z H s)(e:H a>.ins C dx fs)(c:AX X.K C)(n:mI X.K C f)(l:fs.lookup f>v)
  (h:∀u s',Inv X bi Z H s'->RelV v u->Q u s'):f8 82 A (getAttr (-a) f b) Q E s:=by
 let(mA,O,r,__,__,__):=E1 I.bE e;let(u,hu,ru):=oj.some_of<|l▸r f;show get_map I.qA O (c.get f) c.hd n hu (Xh ru)<|h u _ 28 ru
def Ug(I:Inv X bi Z H s)(e:H a>.ins C dx fs)(c:AX X.K C)(k:Meth X.K C m g)(l:fs.lookup m=none)
  (h:Q (-g,[-a]) s):f8 82 A (Z' (-a) m pl) Q E s:=by
 let(mA,O,r,__,__,__):=E1 I.bE e;show ZU I.qA O (c.get m) k.at_ k.fn (oj.none_of (by rw[<-l];show r m)) h
def Td(I:Inv X bi Z H s)(e:H a>.ins C dx fs)(c:AX X.K C)(n:mI X.K C f)(hl:fs.length<1000)(ry:RelV y u)
  (h:∀s',Inv X bi Z (upd H a<|.ins C dx<|fZ f y fs) s'->Q () s'):f8 82 A (setAttr (-a) f u) Q E s:=by
 let(mA,O,r,wi,__,ho):=E1 I.bE e;show abE I.qA O c.sa c.po n.afV c.hd wi (by rw[ag,bM];lia) λh' O' sb=>h _ ?_;show I.write (e▸True.intro) (.inr ho) (λb q hb z=>(sb.2 b hb).trans z) (let⟨o,_,_,e',_⟩:=O'.ns;⟨o,e'⟩) ?_;show{aC O.ne▸ho,?_,O.ne,O'.obj,_,O'.ns,λg=>?_,λg hg=>?_};·have:=F1 f y fs;lia
 ·change oj ((fZ f y fs).lookup g) (if g=f then some u else mA g);rw[F0];by_cases q:g=f;·rw[aL q,aL q];show ry
  rw[az q,az q];show r g
 by_cases q:g=f;·rw[q];show(DE f y fs).1
 show(DE f y fs).2 g (wi g λz=>hg ?_);change(if g=f then some u else mA g)=none;rw[az q];show z
def Inv.made(I:Inv X bi Z H s):Inv X bi Z (upd (upd H 35<|.own<|35+1) (35+1)<|.ins C 35 [])
  (s\(s.heap.push emptyDict).push (instObj C 35)):=by
 have e1:(s.heap.push emptyDict).get? 35>emptyDict:=aH s.heap rfl;have e2:((s.heap.push emptyDict).push<|instObj C 35).get? (35+1)>instObj C 35:=by have:=aH (s.heap.push emptyDict) (o:=instObj C 35) rfl;rwa [cV]at this
 have I1:=I.laid (o:=.own<|35+1) (t':=89) (λb u q=>af _ q) (ao _) ⟨_,e1⟩;show I1.laid (λb u q=>af _ q) (jG<|cV _ _) ?_;have ne:35≠35+1:=aD<|cI _;show{by rw[aC ne,au],aF _,ne,e2,λ_=>none,(Heap.Ns1.of_empty<|{emptyDict,#[],_,e1,9,(λe he=>absurd he 75),λ_=>9}).at λo q=>af _ q,λ_=>True.intro,λy hy=>absurd rfl hy}
def ac0(hb:At e f env (wT e env)=wT e env)
  (h:f8 77 A (wT e env) (λo aaa=>f8 77 A (getAttr o f true) Q E aaa) E s):f8 77 A (wT (.Attribute e f pos) env) Q E s:=
 Attribute_any_ h (by rw[arm_eval_Attribute,hb])
end
inductive af2(K:Frag)(f:pi)(Q:VK)(x:V)(H1:Hp):Prop
 |mk a C dx fs v (_:x=-a) (_:H1 a>.ins C dx fs) (_:AX K C) (_:mI K C f) (_:fs.lookup f>v) (_:Q v H1)
def YC(K:Frag)(ta:TE)(f:pi):TE:=λZ H Q=>ta Z H λx H1=>af2 K f Q x H1
inductive agb(K:Frag)(f:pi)(D:Ends)(Z:St)(y:V)(x:V)(H2:Hp):Prop
 |mk a C dx fs (_:x=-a) (_:H2 a>.ins C dx fs) (_:AX K C) (_:mI K C f) (_:fs.length<1000) (_:D.nx Z (upd H2 a<|.ins C dx<|fZ f y fs))
def ag7(K:Frag)(ta tv:TE)(f:pi):TS:=λD Z H=>tv Z H λy H1=>ta Z H1 λx H2=>agb K f D Z y x H2
section
variable{X:Cx}{o e value:xL}{f:pi}{pos pos':GM}{ta tv:TE}
def js(he:PE X e ta)(hb:At e f X.env (wT e X.env)=wT e X.env):PE X (.Attribute e f pos) (YC X.K ta f):=by ext bi s Z H Q I h;show ac0 hb (dk 39 λu s1 x H1 I1 rx Lu=>?_);let(a,C,dx,fs,v,ex,ea,c,n,l,q):=Lu;subst ex;obtain rfl:u=Value.ref a:=rx;show Uh I1 ea c n l λu' s2 I2 ru=>⟨v,H1,I2,ru,q⟩
def sX(ha:PE X o ta)(hv:PE X value tv)(hs:EQ value (some<|.Attribute o f pos') pos.line X.env=pure false):PS X (.Assign [.Attribute o f pos'] value pos) (ag7 X.K ta tv f):=by ext bi s Z H D I h;show plainObj_wpAny_Assign_Attribute (dk (hv bi s Z H _ I h) λu s1 y H1 I1 ry q=>dk (ha bi s1 Z H1 _ I1 q) λov s2 x H2 I2 rx TZ=>?_) hs;let(a,C,dx,fs,ex,ea,c,n,l,q2):=TZ;subst ex;obtain rfl:ov=Value.ref a:=rx;show Td I2 ea c n l ry λs3 I3=>⟨Z,_,I3,q2⟩
end
section
variable{X:Cx}{bi:Aab}{Z:St}{H:Hp}{s:fv}{A:wf}{E Q:Aad}{c:jp}{b:Bool}
inductive qO(K:Frag)(H:Hp):V->jp->Prop where
 |cx:qO K H .cx (.type "NoneType")
 |bl (x:Bool):qO K H (.bl x) (.type "bool")
 |int (i:Int):qO K H (.int i) (.type "int")
 |str (x:pi):qO K H (.str x) (.type "str")
 |O7 (x:UInt64):qO K H (.O7 x) (.type "float")
 |lst {a:cr} {xs:Aan} (e:H a>.lst xs):qO K H (-a) (.type "list")
 |fR {a:cr} {o:Go} {xs:Aan} (e:H a>.fR o (.lst xs)):qO K H (-a) (.type "list")
 |tup {a:cr} {xs:Aan} (e:H a>.tup xs):qO K H (-a) (.type "tuple")
 |dK {a:cr} {kvs:List (Key×V)} (e:H a>.dK kvs):qO K H (-a) (.type "dict")
 |ins {a C dx:cr} {fs:List (pi×V)} (e:H a>.ins C dx fs) (cl:AX K C) (ha:findIn K (-C) "__class__">some (.builtin "object.__class__"))
   (hn:PySem.W.specialIn K 115 "__get__">some (.builtin "getset_descriptor.__get__")) (htk:PySem.W.takesIn K 115>true)
   (hm:PySem.W.mroIn K C 45>true):qO K H (-a) (-C)
def Wz{x:V}{u t:jp}(I:Inv X bi Z H s)(rx:RelV x u)(ty:qO X.K H x t):∃G:ss->Prop,PySem.W.KitX X.K u t G/\G s.heap/\u≠ .builtin "__main__.__loader__#opaque":=by
 cases ty with
 |cx=>cases(show u=Value.none from rx);show{_,PySem.W.kitx_none,True.intro,67}
 |bl y=>cases(show u=Value.bool y from rx);show{_,PySem.W.kitx_bool,True.intro,67}
 |int i=>let(t,q):=(show∃t,u=Value.int i t from rx);cases q;show{_,PySem.W.kitx_int,True.intro,67}
 |str y=>let(t,q):=(show∃t,u=Value.str y t from rx);cases q;show{_,PySem.W.kitx_str,True.intro,67}
 |O7 y=>let(t,q):=(show∃t,u=Value.float y t from rx);cases q;show{_,PySem.W.kitx_float,True.intro,67}
 |@lst a xs ea=>
  cases(show u=Value.ref a from rx);let(__,__,n,__,h1):=(show da 81 X.w H s.heap a (.lst xs)from I.bE a _ ea);show{_,Fn,⟨_,h1,rfl⟩,67}
 |@fR a ob xs ea=>
  cases(show u=Value.ref a from rx);let(__,__,__,n,__,h1):=(show da 81 X.w H s.heap a (.fR ob<|.lst xs)from I.bE a _ ea);show{_,Fn,⟨_,h1,rfl⟩,67}
 |@tup a xs ea=>
  cases(show u=Value.ref a from rx);let(__,__,__,p,__):=(show da 81 X.w H s.heap a (.tup xs)from I.bE a _ ea);let(o,h1,h2,__):=p;show{_,PySem.W.kitx_tuple,⟨o,h1,h2⟩,67}
 |@dK a kvs ea=>
  cases(show u=Value.ref a from rx);let(__,__,vs,__,p):=(show da 81 X.w H s.heap a (.dK kvs)from I.bE a _ ea);let(o,es,ep,h1,h2,__):=p;show{_,PySem.W.kitx_dict,{o,h1,h2.1},67}
 |@ins a C dx fs ea cl ha hn htk hm=>
  cases(show u=Value.ref a from rx);let(mA,O,__):=E1 I.bE ea;let(od,J,__):=O.look;show{_,PySem.W.kitx_own (cl.get _) cl.hd ha hn htk hm,J,67}
def WK(I:Inv X bi Z H s)(rx:RelV x u)(ty:qO X.K H x t)(e:kitOne X.K t c>b)(h:∀tk,Q (.bool b) {s with toks:=tk}):
  f8 82 A (Ix 102 [u,c]) Q E s:=by
 let(G,k,g,n):=Wz I rx ty;show PySem.W.kia_one k I.qA g e n h
end
structure ir(k:Nat)(A:wf):Prop where
 hd:A.handled=none
 dp:A.depth+3*k+5<recursionLimit
 un:A.units+016*k+200<wS
 gd:A.guards>[]
def ir.mono(r:ir k A)(h:j<=k):ir j A:={r.hd,by have:=r.dp;lia,by have:=r.un;lia,r.gd}
def ir.deeper(r:ir (k+1) A)(env:Uf):ir k (A.deeper env):=
 {r.hd,by have:=r.dp;change A.depth+1+3*k+5<_;lia,by have:=r.un;change A.units+3+016*k+200<_;lia,r.gd}
def TR{A:wf}:(A.under<|.builtin "type.__call__" {.ref C::us,kw}).depth=A.depth+1:=by
 first|rfl|simp[Around.under,Code.weight,Code.isCreation,Code.isGuard,Code.isCaller,Code.frames,Code.isFrame,guardIds]
def TQ{A:wf}:(A.under<|.builtin "type.__call__" {.ref C::us,kw}).units=A.units+1:=by
 first|rfl|simp[Around.under,Code.cUnits,Code.frames,Code.isFrame]
def ir.make(r:ir (k+1) A)(C:cr)(us:Aaf)(kw:List (pi×jp)):ir k (A.under<|.builtin "type.__call__" {.ref C::us,kw}):=
 {r.hd,by have:=r.dp;rw[TR];lia,by have:=r.un;rw[TQ];lia,by first|show r.gd|(simp[Around.under,Code.guards,Code.isGuard,guardIds,pushGuards];show r.gd)}
def ir.depth(r:ir k A):A.depth<recursionLimit:=by have:=r.dp;lia
def ir.units(r:ir k A):A.units+64<wS:=by have:=r.un;lia
def ir.ade(r:ir k A):A.units<wS:=by have:=r.un;lia
def SW:TA:=λ_ H Q=>Q [] H
def A7(ta:TE)(tr:TA):TA:=λZ H Q=>ta Z H λx H1=>tr Z H1 λxs H2=>Q (x::xs) H2
section
variable{X:Cx}{e:xL}{es:List xL}{te:TE}{t:TA}{pos:GM}
def fQ:PA X [] SW:=λ_ _ _ _ H Q I h=>jZ {[],H,I,.nil,h}
def iR(ha:PE X e te)(hr:PA X es t)(hs:re (e::es) X.env=(false,wT e X.env)::re es X.env:=by rfl):PA X (e::es) (A7 te t):=by ext pos bi s Z H Q I h;rw[hs];show gh (dk 30 λu s1 x H1 I1 r1 q1=>oO (hr pos bi s1 Z H1 _ I1 q1) λus s2 xs H2 I2 r2 q2=>{x::xs,H2,I2,.cons r1 r2,q2})
def bB{X:Cx}{e:xL}{te:TE}(ha:PE X e te)(hs:re [e] X.env=(false,wT e X.env)::re [] X.env:=by rfl):PA X [e] (A7 te SW):=iR ha fQ hs
def cj{X:Cx}{e f:xL}{te tf:TE}(ha:PE X e te)(hb:PE X f tf)(hs:re [e,f] X.env=(false,wT e X.env)::re [f] X.env:=by rfl)(ht:re [f] X.env=(false,wT f X.env)::re [] X.env:=by rfl):PA X [e,f] (A7 te<|A7 tf SW):=iR ha (bB hb ht) hs
def pf{X:Cx}{e f g:xL}{te tf tg:TE}(ha:PE X e te)(hb:PE X f tf)(hc:PE X g tg)(hs:re [e,f,g] X.env=(false,wT e X.env)::re [f,g] X.env:=by rfl)(ht:re [f,g] X.env=(false,wT f X.env)::re [g] X.env:=by rfl)(hu:re [g] X.env=(false,wT g X.env)::re [] X.env:=by rfl):PA X [e,f,g] (A7 te<|A7 tf<|A7 tg SW):=iR ha (cj hb hc ht hu) hs
def agU(t:TA):TE:=λZ H Q=>t Z H λxs H1=>55<=dL/\∀p,H1 p=none->Q (-p) (upd H1 p<|.tup xs)
def agZ(t:TA):TE:=λZ H Q=>t Z H λxs H1=>55<=dL/\∀p,H1 p=none->Q (-p) (upd H1 p<|.lst xs)
def dF{x1}(h:PA X es t):PE X (.Tuple es x1 pos) (agU t):=by ext bi s Z H Q I hq;show wpAny_Tuple_spliced (oO (h pos bi s Z H _ I hq) λus s1 xs H1 I1 r ⟨z,q⟩=>{r.length▸z,?_});show{.ref 29,upd H1 29<|.tup xs,I1.laid (λb u e=>af _ e) (ao _) ?_,9,q _ 20};show{z,us,r,{_,43,9,_,9},_,43,9}
def dy(h:PA X es t):PE X (.List es pos) (agZ t):=by ext bi s Z H Q I hq;show wpAny_List_spliced (oO (h pos bi s Z H _ I hq) λus s1 xs H1 I1 r ⟨z,q⟩=>{r.length▸z,?_});show{.ref 29,upd H1 29<|.lst xs,I1.laid (λb u e=>af _ e) (ao _) ?_,9,q _ 20};show{z,us,0,r,43}
abbrev Sp:=Aan->Hp->VK->XK->Prop
abbrev JC:=List Uf->Hp->fv->XK->Aad
structure Ku(P:io)(w:mo)(K:Frag)(mg:Aac)(base:ss)(A:wf)(outer:List Uf)(s:fv)(H:Hp):Prop where
 frames:A.frames>outer
 mod:Mod K mg base
 bs:∀b o,base.get? b>o->s.heap.get? b>o/\H b=none
 y9:base.objs.size<=35
 rQ:s.heap.FunFrames base outer
 Gd:∀b∈rm outer,H b=none
 bE:kK P w H s.heap
 bare:KT s.gens
def CE(outer:List Uf)(P:io)(w:mo)(H:Hp)(s:fv)(Q:VK)(u:jp)(s':fv):Prop:=
 ∃v H',s'.os=s.os/\KT s'.gens/\Un (rm outer) [] H H' s.heap s'.heap/\kK P w H' s'.heap/\RelV v u/\Q v H'
end
def CR(CX:JC)(outer:List Uf)(P:io)(w:mo)(H:Hp)(s:fv)(Q:VK)(E:XK)(r:P3)(s':fv):Prop:=
 match r with
 | .ok (.ret u)=>CE outer P w H s Q u s'
 | .ok _=>False
 | .error e=>CX outer H s E e s'
structure cm(P:io)(w:mo)(K:Frag)(mg:Aac)(base:ss)(CX:JC)(k:Nat)(f:cr)(fd:ut)(ps:Aag)(sp:Sp):Prop where
 len:∀vs H Q E,sp vs H Q E->vs.length=ps.length
 run:∀(A:wf)(outer:List Uf)(s:fv)(H:Hp)(args:Args)(us:Aaf)(vs:Aan)(Q:VK)(E:XK),ir k A->Ku P w K mg base A outer s H->TD s fd args (ps.zip us)->Vals vs us->sp vs H Q E->
  AT 88 A (.call (-f) args) (CR CX outer P w H s Q E) s
def Ku.make{K:Frag}(e:Ku P w K mg base A outer s H)(C:cr)(us:Aaf)(kw:List (pi×jp)):
  Ku P w K mg base (A.under<|.builtin "type.__call__" {.ref C::us,kw}) outer s H:={by first|show e.frames|(simpa[Around.under,Code.envs,Code.isFrame,pushEnvs]using e.frames),e.mod,e.bs,e.y9,e.rQ,e.Gd,e.bE,e.bare}
section
variable{X:Cx}{bi:Aab}{Z:St}{H:Hp}{s s':fv}
def Inv.env0(I:Inv X bi Z H s):Ku 81 X.w X.K X.mg X.base X.A X.stack s H:=
 {I.ok.frames,I.ok.mod,I.bs,aS I.ok.y9 I.sz,I.stack,I.ES,I.bE,I.bare}
def Inv.after(I:Inv X bi Z H s)(h:CE X.stack 81 X.w H s Q u s'):EP X bi Z Q u s':=by let(v,H',os,bare,un,bE,r,q):=h;let(hh,g,d,t,os'):=s';obtain rfl:os'=s.os:=os;show{v,H',I.call un bE bare (λb z=>absurd z 75),r,q}
end
def SX(sp:Sp)(su:Aan)(E:XK)(t:TA):TE:=λZ H Q=>t Z H λvs H1=>sp (vs++su) H1 Q E
inductive adu(C:cr)(m:pi)(sp:Sp)(su:Aan)(E:XK)(t:TA)(Z:St)(Q:VK)(x:V)(H1:Hp):Prop
 |mk a dx fs (_:x=-a) (_:H1 a>.ins C dx fs) (_:fs.lookup m=none) (_:t Z H1 λvs H2=>sp (x::(vs++su)) H2 Q E)
def aaD(C:cr)(m:pi)(sp:Sp)(su:Aan)(E:XK)(ta:TE)(t:TA):TE:=λZ H Q=>ta Z H λx H1=>adu C m sp su E t Z Q x H1
def aaE(C:cr)(sp:Sp)(su:Aan)(E:XK)(t:TA):TE:=λZ H Q=>t Z H λvs H1=>∀x dx,H1 x=none->H1 dx=none->dx≠x->
 sp (.ref x::(vs++su)) (upd (upd H1 dx<|.own x) x<|.ins C dx []) (λv H2=>v=.cx/\Q (-x) H2) E
def Binds(K:Frag)(fd:ut)(ps:Aag)(ds:Aaf):Prop:=
 ∀(s:fv)(us:Aaf),K.In s.heap->(us++ds).length=ps.length->TD s fd {us,[]} (ps.zip<|us++ds)
def Binds.all{K:Frag}(h:∀us:Aaf,us.length=ps.length->Sc fd {us,[]}=pure (ps.zip us)):Binds K fd ps []:=λs us _ hl=>by rw[cy]at hl⊢;show .of_eq<|h us hl
def Passes(CX:JC)(X:Cx)(E:XK):Prop:=∀(bi:Aab)(Z:St)(H:Hp)(s:fv)(e:jp)(s':fv),Inv X bi Z H s->CX X.stack H s E e s'->X.xe e s'
section
variable{X:Cx}{CX:JC}{k:Nat}{f C:cr}{fd:ut}{ps:Aag}{sp:Sp}{su:Aan}{ds:Aaf}{E:XK}{x m:pi}{p pos Gc:GM}{e o:xL}{es:List xL}{ta:TE}{t:TA}
def Vz(F:cm 81 X.w X.K X.mg X.base CX k f fd ps sp)(hr:ir k X.A)(hb:Binds X.K fd ps ds)(hd:Vals su ds)(hx:Passes CX X E)
  (I:Inv X bi Z H s) (r:Vals vs us) (h:sp (vs++su) H Q E):f8 82 X.A (Ix (-f) us) (EP X bi Z Q) X.xe s:=by
 have r2:=r.append hd;show wB (ko (F.run X.A X.stack s H {us,[]} (us++ds) (vs++su) Q E hr I.env0 (hb s us I.qA (by rw[<-r2.length];show F.len _ _ _ _ h)) r2 h) λr s' hq=>?_);cases r with
 |error e=>show hx bi Z H s e s' I hq
 |ok fl=>
  cases fl with
  |ret u=>show I.after hq
  |next=>show False.elim hq
  |brk=>show False.elim hq
  |cont=>show False.elim hq
def Ru(F:cm 81 X.w X.K X.mg X.base CX k f fd ps sp)(hr:ir k X.A)(hg:Gl X x)(hm:X.mg x>-f)(hk:keepIn X.K (-f)=true)(hb:Binds X.K fd ps ds)(hd:Vals su ds)(hx:Passes CX X E)
  (ha:PA X (e::es) t) (vE:24=false:=by decide) (he:re (e::es) X.env=(false,wT e X.env)::re es X.env:=by rfl) (ie:(Db pos 69).any (·.1)=false:=by rfl):
  PE X 72 (SX sp su E t):=by
 ext bi s Z H Q I h;show jD<|AA I hg hm ?_ vE;show pN I.ok.mod.RG hk (oO (ha pos bi s Z H _ I h) λus s1 vs H1 I1 r q=>{I1.qA,Vz F hr hb hd hx I1 r q}) he ie
def abY(he:PE X o ta)(c:AX X.K C)(hm:Meth X.K C m f)(F:cm 81 X.w X.K X.mg X.base CX k f fd ps sp)(hr:ir k X.A)(hb:Binds X.K fd ps ds)(hd:Vals su ds)(hx:Passes CX X E)(ha:PA X (e::es) t)
  (iF:re (e::es) X.env=(false,wT e X.env)::re es X.env:=by rfl) (ie:(Db pos 69).any (·.1)=false:=by rfl)
  (ht:wT (.Call (.Attribute o m Gc) (e::es) [] pos) X.env=(do
   let ov<-wT o X.env
   standAt Gc.atName
   let(f,first)<-J' [ov] (Z' ov m pl)
   callWith pos f first (Db pos<|re (e::es) X.env) (SC pos<|KE [] X.env)):=by rfl):
  PE X (.Call (.Attribute o m Gc) (e::es) [] pos) (aaD C m sp su E ta t):=by
 ext bi s Z H Q I h;show PySem.W.methodCall_KW (dk 39 λu s1 x H1 I1 rx ahM=>?_) ht;let(a,dx,fs,ex,ea,l,q):=ahM;subst ex;obtain rfl:u=Value.ref a:=rx;show Ug I1 ea c hm l ?_;show pN I.ok.mod.RG hm.kp (oO (ha pos bi s1 Z H1 _ I1 q) λus s2 vs H2 I2 r q2=>{I2.qA,?_}) iF ie;show Vz (vs:=.ref a::vs) F hr hb hd hx I2 (.cons 9 r) q2
structure Mk(K:Frag)(C f:cr):Prop where
 makes:PySem.W.makesIn K C=true
 init:findIn K (-C) "__init__">some (-f)
 fn:isFn K (-f)=true
 kp:keepIn K (-C)=true
def YO(M:Mk X.K C f)(F:cm 81 X.w X.K X.mg X.base CX k f fd ps sp)(hr:ir (k+1) X.A)(hb:Binds X.K fd ps ds)(hd:Vals su ds)
  (hx:Passes CX X E) (I:Inv X bi Z H s) (r:Vals vs us)
  (h:∀x dx,H x=none->H dx=none->dx≠x->sp (.ref x::(vs++su)) (upd (upd H dx<|.own x) x<|.ins C dx []) (λv H2=>v=.cx/\Q (-x) H2) E):
  f8 82 X.A (Ix (-C) us) (EP X bi Z Q) X.xe s:=by
 have hq:=h (35+1) 35 (I.bE.fresh<|eI _) 57<|aD<|cI _;have I2:=Inv.made (C:=C) I;have r2:Vals (V.ref (35+1)::(vs++su)) (Value.ref (35+1)::(us++ds)):=.cons rfl (r.append hd);have hl:(Value.ref (35+1)::us++ds).length=ps.length:=by have e:=r2.length;rw[F.len _ _ _ _ hq]at e;show e.symm
 show wB<|Zo I.qA M.makes M.init (k8.mp M.fn) (ko (F.run _ X.stack _ _ {Value.ref (35+1)::us,[]} (Value.ref (35+1)::(us++ds)) _ _ E (hr.make C us [])
  (I2.env0.make C us []) (hb _ (Value.ref (35+1)::us) I2.qA hl) r2 hq) λr s' WW=>?_)
 cases r with
 |error e=>show hx bi Z _ _ e s' I2 WW
 |ok fl=>
  cases fl with
  |ret u=>
   let(v,H',I3,rv,ev,q3):=I2.after WW;subst ev;show{rv,{V.ref<|35+1,H',I3,9,q3}}
  |next=>show False.elim WW
  |brk=>show False.elim WW
  |cont=>show False.elim WW
def abZ(M:Mk X.K C f)(F:cm 81 X.w X.K X.mg X.base CX k f fd ps sp)(hr:ir (k+1) X.A)(hg:Gl X x)(hm:X.mg x>-C)(hb:Binds X.K fd ps ds)(hd:Vals su ds)(hx:Passes CX X E)
  (ha:PA X (e::es) t) (vE:24=false:=by decide) (he:re (e::es) X.env=(false,wT e X.env)::re es X.env:=by rfl) (ie:(Db pos 69).any (·.1)=false:=by rfl):
  PE X 72 (aaE C sp su E t):=by
 ext bi s Z H Q I h;show jD<|AA I hg hm ?_ vE;show pN I.ok.mod.RG M.kp (oO (ha pos bi s Z H _ I h) λus s1 vs H1 I1 r q=>{I1.qA,YO M F hr hb hd hx I1 r q}) he ie
variable{ks:Aag}
structure aiG(K:Frag)(fd:ut)(ps ks:Aag)(g:Aaf->Aaf->Aaf)(gV:Aan->Aan->Aan):Prop where
 to:∀(s:fv)(us ws:Aaf),K.In s.heap->(g us ws).length=ps.length->TD s fd {us,ks.zip ws} (ps.zip<|g us ws)
 rel:∀{vs:Aan}{us:Aaf}{zs:Aan}{ws:Aaf},Vals vs us->Vals zs ws->Vals (gV vs zs) (g us ws)
end
structure bL(N P:Aag)(sc:AC):Prop where
 kind:sc.kind=.function
 co:sc.isCoroutine=false
 gen:sc.isGenerator=false
 nd:N.Nodup
 pre:N.take P.length=P
 par:∀x∈P,sc.names.lookup x>.local\/sc.names.lookup x>.cell
 ael:∀y∈sc.names,y.2≠ .free
def fS{N P:Aag}{sc:AC}(h:sc.kind=.function/\sc.isCoroutine=false/\sc.isGenerator=false/\N.Nodup/\N.take P.length=P/\(∀x∈P,sc.names.lookup x>.local\/sc.names.lookup x>.cell)/\∀y∈sc.names,y.2≠ .free):bL N P sc:={h.1,h.2.1,h.2.2.1,h.2.2.2.1,h.2.2.2.2.1,h.2.2.2.2.2.1,h.2.2.2.2.2.2}
def ic{X:Cx}{x:pi}{pos:GM}{ps:Aag}{sc:AC}(i:Nat)(S:bL X.N ps sc)(hi:X.N[i]?>x:=by rfl)(hx:X.env.scope.names.lookup x>.local:=by rfl):PG X 71 (yW i):=jw S.nd hi (Or.inl hx)<|Or.inr hx
def cZ{X:Cx}{x:pi}{pos pos':GM}{e:xL}{te:TE}{ps:Aag}{sc:AC}(i:Nat)(S:bL X.N ps sc)(he:PE X e te)(hi:X.N[i]?>x:=by rfl)(hx:X.env.scope.names.lookup x>.local:=by rfl)(hs:EQ e (some<|.Name x pos') pos.line X.env=pure false:=by rfl):PS X (.Assign [.Name x pos'] e pos) (YF te<|yW i):=mx S.nd hi (Or.inl hx) he hs<|Or.inr hx
theorem LV{kindOf:pi->Option Ch}:∀{binds:List (pi×jp)}{m:Aac},(∀v,(x,v)∉binds)->bindL kindOf binds m x=m x
 |[],_,_=>rfl
 |(n,v)::r,m,h=>by
  unfold bindL;rw[LV λw hw=>h w<|aA _ hw];split
  ·have:x≠n:=by ext rfl;show h v av
   simp[this]
  rfl
theorem LX{kindOf:pi->Option Ch}:∀{binds:List (pi×jp)}{m:Aac},(∀v,(x,v)∉binds)->bindC kindOf binds m x=m x
 |[],_,_=>rfl
 |(n,v)::r,m,h=>by
  unfold bindC;rw[LX λw hw=>h w<|aA _ hw];split;·rfl
  have:x≠n:=by ext rfl;show h v av
  simp[this]
theorem LW{kindOf:pi->Option Ch}:∀{P:Aag}{vs:Aaf}{i:Nat}{m:Aac},P.Nodup->P[i]?>x->vs[i]?>v->kindOf x>.local->
  bindL kindOf (P.zip vs) m x>v
 |[],_,_,_,_,h,_,_=>by simp at h
 |_::_,[],_,_,_,_,h,_=>by simp at h
 |p::P,w::vs,0,m,nd,h1,h2,hk=>by simp at h1 h2;subst h1;subst h2;change bindL kindOf ((p,w)::P.zip vs) m p=_;unfold bindL;rw[LV λv hv=>(cQ.mp nd).1 (oM hv).1,aL hk];simp
 |p::P,w::vs,i+1,m,nd,h1,h2,hk=>by unfold bindL;show LW (cQ.mp nd).2 (↑h1) (↑h2) hk
theorem LY{kindOf:pi->Option Ch}:∀{P:Aag}{vs:Aaf}{i:Nat}{m:Aac},P.Nodup->P[i]?>x->vs[i]?>v->kindOf x≠some .local->
  bindC kindOf (P.zip vs) m x>v
 |[],_,_,_,_,h,_,_=>by simp at h
 |_::_,[],_,_,_,_,h,_=>by simp at h
 |p::P,w::vs,0,m,nd,h1,h2,hk=>by simp at h1 h2;subst h1;subst h2;change bindC kindOf ((p,w)::P.zip vs) m p=_;unfold bindC;rw[LX λv hv=>(cQ.mp nd).1 (oM hv).1,az hk];simp
 |p::P,w::vs,i+1,m,nd,h1,h2,hk=>by unfold bindC;show LY (cQ.mp nd).2 (↑h1) (↑h2) hk
def start(N:Aag)(vs:Aan):St:=vs.map some++List.replicate (N.length -vs.length) none
noncomputable def Ha(CX:JC)(P:io)(w:mo)(K:Frag)(mg:Aac)(base:ss)(N:Aag)(Ev:pi)(scope:AC)(f:cr)(cd:jp)(A:wf)(outer:List Uf)(s:fv)(H:Hp)(E:XK):Cx where
 prog:=P
 w:=w
 K:=K
 mg:=mg
 base:=base
 A:=A.deeper<|Op Ev scope 35 f cd
 N:=N
 aab:=s
 aaf:=H
 env:=Op Ev scope 35 f cd
 outer:=outer
 stack:=Op Ev scope 35 f cd::outer
 ex:=[]
 calm:=true
 fn:=λ_=>true
 pn:=[]
 xe:=λe s'=>f8 88 (A.deeper<|Op Ev scope 35 f cd) (leaving (Op Ev scope 35 f cd) e) (λ_ s''=>CX outer H s E e s'') (λe' s''=>CX outer H s E e' s'') s'
def Pg{sc:AC}(h:sc.names.lookup x>.cell):∃c,(cellsFrom n sc.names []).lookup x>c:=by show yd.mp<|zP sc.names n []<|.inl h
def WM{K:Frag}
  (S:bL N ps scope) (hd:A.handled=none) (e0:Ku P w K mg base A outer s H) (hl:vs.length=ps.length) (r:Vals vs us)
  (x:InCallC s 35 (bindL (Op Ev scope 35 f cd).kindOf (ps.zip us) λ_=>none) (cellsFrom (35+1) scope.names []) (bindC (Op Ev scope 35 f cd).kindOf (ps.zip us) λ_=>none) s1):
  Inv (Ha CX P w K mg base N Ev scope f cd A outer s H E) [] (start N vs) H s1:=by
 have ie:ps.length<=N.length:=by have:=c8 List.length S.pre;rw[aW]at this;lia
 let(h1,tk,rfl,hk):=x.done;have Wc:∀b:cr,b∉(Ha CX P w K mg base N Ev scope f cd A outer s H E).ex:=λb z=>absurd (show b∈([]:Aai)from z) 75;show{{e0.mod,S.kind,9,9,ao _,λy z c h1 h2=>?_,λy hy=>?_,λy c _ h=>?_,λ_=>hd,Around.frames_deeper e0.frames,.inr ⟨rfl,rfl⟩,λb z=>absurd z<|Wc b,e0.bs,e0.y9,λb _ _=>Wc b,λb z=>absurd z<|Wc b,e0.rQ,e0.Gd},
  rfl,e0.bare,Un.kept hk,{_,x.toInCall.ns,λi y v h1 h2 h3=>?_},λy c h=>{_,x.cell y c h},e0.bE.fresh<|ao _,λy c h=>?_,λp hp=>absurd (show p∈([]:Aab)from hp) 75,e0.bE.kept hk,?_}
 ·show name_of_addr x.apart (kH h1)<|kH h2
 ·have hy:=hy;rcases hy with hy|hy;·show Pg hy
  show absurd rfl (S.ael _<|kH hy)
 ·show bU<|x.above y c<|kH h
 ·have hi:i<vs.length:=by
   unfold start at h2;by_cases hi:i<vs.length;·show hi
   rw[gn<|↑hi]at h2;rw[qH]at h2;split at h2<;>cases h2
  have ha:vs[i]?>v:=by
   unfold start at h2;rw[iY<|↑hi,aN]at h2;cases e:vs[i]? with
   |none=>rw[e]at h2;cases h2
   |some a=>rw[e]at h2;cases h2;rfl
  let(u,hu,rv):=r.get ha;have hp:ps[i]?>y:=by rw[<-S.pre,pX ∅];show h1
  have ndP:ps.Nodup:=by rw[<-S.pre];show S.nd.sublist<|List.take_sublist _ _
  show{u,rv,?_};rcases S.par y (aM hp)with k|k;·show .inl {k,LW ndP hp hu k}
  let(c,e):=Pg k;show .inr {.inl k,c,e,?_};have q:=x.cell y c e;rw[LY ndP hp hu (by change scope.names.lookup y≠_;rw[k];decide)]at q;show q
 ·show e0.bE.fresh<|bU<|x.above y c<|kH h
 unfold start;change _=N.length;rw[aU,ag,dJ];lia
def aa0{K:Frag}{dV kV doc pm cK ct oc:jp}
     (lk:K.lookup f>{oc,od,.func<|fnOf name Ev params body scope dV kV doc pm an cK ct,Io}) (AI:codeIn K cK Ev=true) (S:bL N ps scope)
  (len:∀vs H Q E,sp vs H Q E->vs.length=ps.length)
  (Ua:∀(A:wf)(outer:List Uf)(s:fv)(H:Hp)(vs:Aan)(Q:VK)(E:XK),ir k (A.deeper<|Op Ev scope 35 f cK)->sp vs H Q E->
   ∃t,pU (Ha CX P w K mg base N Ev scope f cK A outer s H E) body t/\t {nx:=λ_ H'=>Q .cx H',rt:=Q} (start N vs) H):
  cm P w K mg base CX (k+1) f (fnOf name Ev params body scope dV kV doc pm an cK ct) ps sp:=by
 show{len,λA outer s H args us vs Q E hr e0 hb r F7=>?_};have hl:=len _ _ _ _ F7;have KX:=e0.mod.RG.keeps λb o e=>(e0.bs b o e).1;have agB:∀y∈ps.zip us,scope.names.lookup y.1>.local\/(scope.names.lookup y.1>.cell/\((cellsFrom (35+1) scope.names []).lookup y.1).isSome=true):=λ⟨n,v⟩ hy=>by
  rcases S.par n (oM hy).1 with q|q;·show .inl q
  show .inr {q,zP _ _ _<|.inl q}
 show codeAny_call_function hr.depth (KX _ _ lk) rfl S.co S.gen rfl (PySem.W.codeRec_of KX AI) (hb _ _ _ _ ?_);show wpAny_newFunctionEnv_cells S.kind agB λenv he s1 x=>?_;subst he;show{(e0.mod.nolimit.keeps λb o e=>(e0.bs b o e).1).keeps x.toInCall.keep,codeAny_func ?_};let(t,ht,hq):=Ua A outer s H vs Q E (hr.deeper _) F7;show dR (ht [] s1 (start N vs) H _ (WM S hr.hd e0 hl r x) hq) (λfl s' hs=>?_) λe s' hs=>hs;have fin:∀{σ':St}{H':Hp}{v:V}{u:jp},Inv (Ha CX P w K mg base N Ev scope f cK A outer s H E) [] σ' H' s'->RelV v u->Q v H'->CE outer P w H s Q u s':=
  λ{σ' H' v u} J rv q=>{v,H',J.os,J.bare,J.base,J.bE,rv,q}
 cases fl with
 |ret u=>
  obtain⟨v,σ',H',J,rv,q⟩:=hs;show fin J rv q
 |next=>
  obtain⟨σ',H',J,q⟩:=hs;show fin (v:=V.cx) J rfl q
 |brk=>
  let(__,__,__,q):=hs;show False.elim q
 |cont=>
  let(__,__,__,q):=hs;show False.elim q
section
variable{X:Cx}{x:pi}{p pos:GM}{e:xL}{es:List xL}{t:TA}{id T:String}{r:Aan->Hp->VK->Prop}
def tCB(r:Aan->Hp->VK->Prop)(t:TA):TE:=λZ H Q=>t Z H λvs H1=>r vs H1 Q
def bh(hc:fB X (.builtin id) r)(hg:Gl X x)(hm:X.mg x=none)(hv:Da x>.builtin id)(ha:PA X (e::es) t)(hn:x≠"__name__":=by decide)(vE:24=false:=by decide)
  (he:re (e::es) X.env=(false,wT e X.env)::re es X.env:=by rfl) (ie:(Db pos 69).any (·.1)=false:=by rfl):PE X 72 (tCB r t):=by
 ext bi s Z H Q I h;show jD<|nJ I hg hm hv (PyProof.Rows.callWith_builtin1 (oO (ha pos bi s Z H _ I h) λus s1 vs H1 I1 r1 q1=>hc bi s1 Z H1 vs us Q I1 r1 q1) he ie) hn vE
def cG(hc:fB X (.type T) r)(hg:Gl X x)(hm:X.mg x=none)(hv:Da x>.type T)(ha:PA X (e::es) t)(hn:x≠"__name__":=by decide)(vE:24=false:=by decide)
  (he:re (e::es) X.env=(false,wT e X.env)::re es X.env:=by rfl) (ie:(Db pos 69).any (·.1)=false:=by rfl):PE X 72 (tCB r t):=by
 ext bi s Z H Q I h;show jD<|nJ I hg hm hv (dX (oO (ha pos bi s Z H _ I h) λus s1 vs H1 I1 r1 q1=>hc bi s1 Z H1 vs us Q I1 r1 q1) he ie) hn vE
end
end L2
namespace HT
open PySem PyProof.Rows
section
open PySem.SeqAt
open PySem.AutoSeq1 (wpAny_loadPart')
open PySem.MeetsSeq PySem.MeetsSeq2 PySem.MeetsSeq3
end
section
variable{prog:io}{w:mo}{A:wf}{E:Aad}{s:fv}
def acX(ht:XV s.heap t vs.toArray)(hb:XV s.heap b ws.toArray)(hv:vs≠[])
  (h1:ws=[]->Q (-t) s) (h2:ws≠[]->Q (.ref 35) (s\s.heap.push {cls:=.type "tuple",data:=.seq (vs++ws).toArray}))
  (hsz:vs.length+ws.length<=dL):f8 77 A (Fk .Add (-t) (-b)) Q E s:=by
 obtain⟨⟨cls,dd,data,sl⟩,ho,hc,n,hd⟩:=id ht;obtain⟨⟨aiw,Su,data2,sl2⟩,wc,tK,n2,hd2⟩:=id hb;simp only at hc hd tK hd2;subst hc hd tK hd2;have e:vs.toArray++ws.toArray=(vs++ws).toArray:=by simp
 by_cases hw:ws=[]
 ·show D7 ⟨_,ho,rfl⟩ ⟨_,wc,rfl⟩ xx B1 rn qF (pR _ _)
   (tuple_addW1 t b vs.toArray ws.toArray n n2 dd Su sl sl2 (↑hv) (by simp[hw])) {ho,wc,h1 hw}
 show D7 ⟨_,ho,rfl⟩ ⟨_,wc,rfl⟩ xx B1 rn qF (pR _ _)
  (tuple_addW2 t b vs.toArray ws.toArray n n2 dd Su sl sl2 (↑hv) (↑hw) (by rw[aR,aR];show hsz)) {ho,wc,?_}
 rw[e];show h2 hw
def vn(n d:Nat):Option Int->Nat
 |none=>d
 |some v=>if v<0 then(v+(n:Int)).toNat else min v.toNat n
def Nh(n d:Nat):vn n d none=d:=9
def Q6(n d k:Nat):vn n d (some (k:Int))=min k n:=by change(if(k:Int)<0 then((k:Int)+(n:Int)).toNat else min (k:Int).toNat n)=min k n;rw[az ∅,dE]
end
end HT
namespace L2
open PySem PySem.Spec PyProof.Rows
abbrev TO:=St->Hp->(Option Int->Hp->Prop)->Prop
def PO(X:Cx)(e:Option xL)(t:TO):Prop:=
 ∀(bi:Aab)(s:fv)(Z:St)(H:Hp)(Q:Option Int->Hp->Prop),Inv X bi Z H s->t Z H Q->
  f8 82 X.A (evalPart e X.env) (λu s'=>∃o H',Inv X bi Z H' s'/\IsPart u o/\Q o H') X.xe s
def QR:TO:=λ_ H Q=>Q none H
inductive adq(Q:Option Int->Hp->Prop)(x:V)(H1:Hp):Prop
 |mk i (_:x=.int i) (_:Q (some i) H1)
def afX(t:TE):TO:=λZ H Q=>t Z H λx H1=>adq Q x H1
section
variable{X:Cx}{e:xL}{te:TE}{lo hi:Option xL}{tl th:TO}{pos p2:GM}
def nW:PO X none QR:=by ext bi s Z H Q I h;show ah {none,H,I,.none,h}
def nV(h:PE X e te):PO X (some e) (afX te):=by ext bi s Z H Q I hw;show dk (h bi s Z H _ I hw) λu s1 x H1 I1 r1 q1=>?_;let(i,rfl,q):=q1;let(t,rfl):=r1;show{some i,H1,I1,.int i t,q}
def SlR(X:Cx)(r:V->Option Int->Option Int->Hp->VK->Prop):Prop:=
 ∀(bi:Aab)(s:fv)(Z:St)(H:Hp)(x:V)(v vl vu:jp)(lo hi:Option Int)(sl:cr)(Q:VK),Inv X bi Z H s->RelV x v->s.heap.IsSliceOf sl vl vu .none->IsPart vl lo->IsPart vu hi->r x lo hi H Q->
  ∃T id,KB (.type T) "__getitem__"=pure (some<|.builtin id)/\s.TypeIs v T/\f8 82 X.A (Rs v (-sl)) (EP X bi Z Q) X.xe s
def tSl(r:V->Option Int->Option Int->Hp->VK->Prop)(te:TE)(tl th:TO):TE:=λZ H Q=>te Z H λx H1=>tl Z H1 λl H2=>th Z H2 λu H3=>r x l u H3 Q
def lG(hr:SlR X r)(he:PE X e te)(hl:PO X lo tl)(hu:PO X hi th):PE X (.Subscript e (.Slice lo hi none p2) pos) (tSl r te tl th):=by ext bi s Z H Q I h;show Jw (dk 39 λv s1 x H1 I1 r1 q1=>?_);show wpAny_Slice (iP (hl bi s1 Z H1 _ I1 q1) λvl s2 ahL=>?_);let(l,H2,I2,pl,q2):=ahL;show iP (hu bi s2 Z H2 _ I2 q2) λvu s3 ahK=>?_;let(u,H3,I3,pu,q3):=ahK;show ah ?_;have I4:Inv X bi Z H3 (s3\s3.heap.push {cls:=.type "slice",data:=.fields #[vl,vu,.none]}):=I3.kept λb ob q=>af _ q;let(T,id,hT,ht,hg):=hr bi (s3\s3.heap.push {cls:=.type "slice",data:=.fields #[vl,vu,.none]}) Z H3 x v vl vu l u s3.heap.objs.size Q I4 r1 (Heap.IsSliceOf.new ..) pl pu q3;show tail_any ht hT hg 50
def zO(xs:Aan)(lo hi:Option Int):Aan:=(xs.drop<|HT.vn 55 0 lo).take<|HT.vn 55 55 hi -HT.vn 55 0 lo
def Qn(xs:Aan)(lo hi:Option Int):(zO xs lo hi).length<=55:=by unfold zO;rw[aW,iM];lia
def Vals.Aw(r:Vals xs us):us=[]↔xs=[]:=by
 cases r with
 |nil=>simp
 |cons _ _=>simp
def Oo(n:Nat)(i:Int):Option Nat:=if 0<=i then(if i<n then some i.toNat else none)else if -(n:Int)<=i then some (i+n).toNat else none
def Js(xs:List α)(i:Int):Option α:=(Oo 55 i).bind λj=>xs[j]?
def RO(h:Oo n i>j):seqIndex? i n>j/\j<n/\-(n:Int)<=i/\i<n:=by
 unfold Oo at h;by_cases h0:0<=i
 ·rw[aL h0]at h;by_cases h1:i<n;·rw[aL h1]at h;have e:=bR h;show{by rw[FH h0 h1,e],8,8,h1}
  rw[az h1]at h;cases h
 rw[az h0]at h;by_cases h1:-(n:Int)<=i;·rw[aL h1]at h;have e:=bR h;show{by rw[CQ ∅ h1,e],8,h1,8}
 rw[az h1]at h;cases h
def Sz(h:Js xs i>v):∃j,seqIndex? i 55>j/\xs[j]?>v/\j<55/\-(55:Int)<=i/\i<55:=by
 unfold Js at h;cases e:Oo 55 i with
 |none=>rw[e]at h;cases h
 |some j=>
  rw[e]at h;let(h1,h2,h3,h4):=RO e;show⟨j,h1,h,h2,h3,h4⟩
def mF{xs:List α}{j:Nat}{v:α}(h:xs[j]?>v):Js xs (j:Int)>v:=by
 have hj:=(ar.mp h).1;have e:Oo 55 (j:Int)>j:=by unfold Oo;rw[aL ∅,aL ∅];simp
 unfold Js;rw[e];show h
def ac6(b:xL):Prop:=∀o i,TW b false o i=operate [o,i] (Rs o i)
end
def SF(X:Cx)(r:R2):Prop:=
 ∀(value slice:xL)(bi:Aab)(s:fv)(Z:St)(H:Hp)(x y:V)(v u:jp)(Q:VK),Inv X bi Z H s->RelV x v->RelV y u->r x y H Q->
  TW slice false v u=operate [v,u] (Rs v u)->f8 82 X.A (subscriptTail value slice v u) (EP X bi Z Q) X.xe s
def SE(X:Cx)(id:String)(r:V->Aan->Hp->VK->Prop):Prop:=
 ∀(bi:Aab)(s:fv)(Z:St)(H:Hp)(x:V)(xs:Aan)(v:jp)(us:Aaf)(Q:VK),Inv X bi Z H s->RelV x v->Vals xs us->r x xs H Q->
  f8 82 X.A (Ix (.builtin id)<|v::us) (EP X bi Z Q) X.xe s
section
variable{X:Cx}{a b:xL}{ta tb:TE}{pos:GM}
def bV(hr:SF X r)(ha:PE X a ta)(hb:PE X b tb)(hs:ac6 b):PE X (.Subscript a b pos) (tOp r ta tb):=by ext bi s Z H Q I h;show Jw (aal ha hb I h λv u s2 x y H2 I2 rx ry q=>hr a b bi s2 Z H2 x y v u Q I2 rx ry q<|hs _ _)
inductive YU(K:Frag)(x:V)(y:V)(H:Hp)(Q:VK):Prop
 |mk p xs i v (_:x=-p) (_:y=.int i) (_:aT K H p xs) (_:Js xs i>v) (_:Q v H)
inductive YT(K:Frag)(x:V)(y:V)(H:Hp)(Q:VK):Prop
 |mk p xs i v (_:x=-p) (_:y=.int i) (_:aZ K H p xs) (_:Js xs i>v) (_:Q v H)
def hJ:SF X (YU X.K):=by
 ext value slice bi s Z H x y v u Q I rx ry h hs;let(p,xs,i,z,rfl,rfl,hq,he,q):=h;cases rx;let(t,rfl):=ry;let(aK,r,pl,hz):=I.list hq;let(j,h1,h2,h3,h4,h5):=Sz he;let(w,ew,kT):=r.get h2;have hl:=r.length;have hn:=Az;have fin:EP X bi Z Q w s:=⟨z,H,I,kT,q⟩;by_cases h0:0<=i
 ·have hj:i.toNat=j:=by rw[FH h0 h5]at h1;show bR h1
  show item_listR pl.isList h0 ∅ (by rw[hj];simpa using ew) fin hs
 have hj:(i+(aK.toArray.size:Int)).toNat=j:=by rw[CQ ∅ h4]at h1;rw[aR,<-hl];show bR h1
 show zy pl.isList.typeIs slot_list_getitem.lookup
  (wpAny_getItem_list_neg pl.isList ∅ (by rw[aR]<;>lia) ∅ (by rw[hj];simpa using ew) ⟨rfl,fin⟩) hs
def dv:SF X (YT X.K):=by
 ext value slice bi s Z H x y v u Q I rx ry h hs;let(p,xs,i,z,rfl,rfl,hq,he,q):=h;cases rx;let(t,rfl):=ry;let(aK,r,pl,hz):=I.tuple hq;let(j,h1,h2,h3,h4,h5):=Sz he;let(w,ew,kT):=r.get h2;have hn:=Az;show zy pl.typeIs slot_tuple_getitem.lookup
  (getItem_tuple pl ∅ ∅ (by rw[aR,<-r.length];show h1) (↑ew) {9,⟨z,H,I,kT,q⟩}) hs
def TN(aK:Aaf)(n j:Nat)(u:jp):Obj.mapSeq (·.setIfInBounds j u) {cls:=.type "list",data:=.seq aK.toArray n}={cls:=.type "list",data:=.seq (aK.set j u).toArray n}:=by simp[Obj.mapSeq]
def Inv.lst(I:Inv X bi Z H s)(h:H p>.lst xs):
  ∃(aK:Aaf)(n:Nat),Vals xs aK/\s.heap.get? p>{cls:=.type "list",data:=.seq aK.toArray n}/\55<=dL:=by
 let(z,aK,n,r,e):=I.bE p _ h;show⟨aK,n,r,e,z⟩
def Inv.aev{aK its':Aaf}(I:Inv X bi Z H s)(h:H p>.lst xs)
  (ho:s.heap.get? p>{cls:=.type "list",data:=.seq aK.toArray n}) (hf:f {cls:=.type "list",data:=.seq aK.toArray n}={cls:=.type "list",data:=.seq its'.toArray n'}) (r:Vals ys its') (hz:91<=dL) (t:Nat):
  Inv X bi Z (upd H p<|.lst ys) (s\(s.heap.update p f,t)):=by
 have e:(s.heap.update p f).get? p>{cls:=.type "list",data:=.seq its'.toArray n'}:=by rw[cD f ho (by rw[hf]<;>rfl),hf]
 show I.write (by rw[h];trivial) (.inl 9) (λb u hb q=>(bw _ _<|bN hb).trans q) ⟨_,e⟩ ?_;show⟨hz,its',n',r,e⟩
inductive age(o:V)(i:V)(v:V)(H:Hp)(Q:Hp->Prop):Prop
 |mk p xs k j (_:o=-p) (_:i=.int k) (_:H p>.lst xs) (_:Oo xs.length k>j) (_:Q (upd H p<|.lst<|xs.set j v))
def set_list:afG X age:=by
 ext bi s Z H o i v ov iv u Q I ro ri rv h;let(p,xs,k,j,rfl,rfl,hp,hj,q):=h;cases ro;let(t,rfl):=ri;let(aK,n,r,ho,hz):=I.lst hp;let(h1,h2,h3,h4):=RO hj;have hl:=r.length;have hn:=Az;have I':Inv X bi Z (upd H p<|.lst<|xs.set j v) (s\s.heap.update p (Obj.mapSeq (·.setIfInBounds j u))):=
  I.aev hp ho (TN aK n j u) (r.set rv j) (by rw[List.length_set];show hz) 89
 by_cases h0:0<=k
 ·have hk:k.toNat=j:=by rw[FH h0 h4]at h1;show bR h1
  show PySem.W.ki_setAt ho h0 ∅ (by rw[aR,<-hl];show h4) (by rw[hk];show⟨_,I',q⟩)
 have hk:(k+(aK.toArray.size:Int)).toNat=j:=by rw[CQ ∅ h3]at h1;rw[aR,<-hl];show bR h1
 show PySem.W.ki_setBack ho ∅ (by rw[aR,<-hl];show h3) ∅ (by rw[hk];show⟨_,I',q⟩)
def M4(lo hi:Option Int)(n:Nat):(G' lo hi none n).1=((HT.vn n 0 lo:Nat):Int)/\(G' lo hi none n).2.1=((HT.vn n n hi:Nat):Int)/\(G' lo hi none n).2.2=1:=by
 show{?_,?_,9}
 ·cases lo with
  |none=>simp[G',HT.vn]
  |some i=>
   simp only[G',HT.vn,Option.getD_none,show(1:Int)⊃0 by decide,jM];by_cases h:i<0;·simp only[h,jM]<;>lia
   simp only[h,i9]<;>lia
 cases hi with
 |none=>simp[G',HT.vn]
 |some i=>
  simp only[G',HT.vn,Option.getD_none,show(1:Int)⊃0 by decide,jM];by_cases h:i<0;·simp only[h,jM]<;>lia
  simp only[h,i9]<;>lia
def L6(aK:Aaf)(lo hi:Option Int):slicePick aK.toArray lo hi none=((aK.drop<|HT.vn aK.length 0 lo).take<|HT.vn aK.length aK.length hi -HT.vn aK.length 0 lo).toArray:=by let(h1,h2,h3):=M4 lo hi aK.toArray.size;unfold slicePick;rw[h1,h2,h3];simp only[sliceRange_one,pick_run,aR]<;>rfl
inductive YS(K:Frag)(x:V)(lo:Option Int)(hi:Option Int)(H:Hp)(Q:VK):Prop
 |mk a xs (_:x=-a) (_:aT K H a xs) (_:∀p,H p=none->Q (-p) (upd H p<|.lst<|zO xs lo hi))
def uB:SlR X (YS X.K):=by ext bi s Z H x v vl vu lo hi sl Q I rx hs pl pu h;let(a,xs,rfl,hx,q):=h;cases rx;let(aK,r,ht,hz):=I.list hx;have hlen:=r.length;show{"list",_,slot_list_getitem.lookup,ht.isList.typeIs,?_};show wpAny_getItem_list_slice ht.isList hs pl pu .none 75 ?_ (by rw[aR]<;>lia);rw[L6,<-hlen];show{.ref 35,_,I.laid (λb ob q=>af _ q) (ao _) ?_,9,q _ 57};show{aS (Qn xs lo hi) hz,_,0,(r.drop<|HT.vn 55 0 lo).take<|HT.vn 55 55 hi -HT.vn 55 0 lo,43}
def vb:V->Bool
 | .cx=>true
 | .bl _=>true
 | .int _=>true
 | .str _=>true
 |_=>false
def LK:V->V->Bool
 | .cx,.cx=>true
 | .bl a,.bl b=>a==b
 | .bl a,.int b=>(if a then 1 else 0)==b
 | .int a,.bl b=>a==(if b then 1 else 0)
 | .int a,.int b=>a==b
 | .str a,.str b=>a==b
 |_,_=>false
def afr(ry:RelV y u)(rx:RelV x v)(fy:vb y=true)(fx:vb x=true):SeqAt.EqAt A s u v (LK y x):=by
 cases y with
 |cx=>
  cases ry;cases x with
  |cx=>cases rx;show SeqAt.EqAt.same _
  |bl b=>cases rx;show SeqAt.EqAt.none_bool b
  |int b=>let(t,rfl):=rx;show SeqAt.EqAt.none_int b t
  |str b=>let(t,rfl):=rx;show SeqAt.EqAt.none_str b t
  |_=>show absurd (show false=true from fx) bJ
 |bl a=>
  cases ry;cases x with
  |cx=>cases rx;show SeqAt.EqAt.bool_none a
  |bl b=>cases rx;show SeqAt.EqAt.bool_bool a b
  |int b=>let(t,rfl):=rx;show SeqAt.EqAt.bool_int a b t
  |str b=>let(t,rfl):=rx;show SeqAt.EqAt.bool_str a b t
  |_=>show absurd (show false=true from fx) bJ
 |int a=>
  let(t',rfl):=ry;cases x with
  |cx=>cases rx;show SeqAt.EqAt.int_none a t'
  |bl b=>cases rx;show SeqAt.EqAt.int_bool a t' b
  |int b=>let(t,rfl):=rx;show Ei a t' b t
  |str b=>let(t,rfl):=rx;show Eh a t' b t
  |_=>show absurd (show false=true from fx) bJ
 |str a=>
  let(t',rfl):=ry;cases x with
  |cx=>cases rx;show SeqAt.EqAt.str_none a t'
  |bl b=>cases rx;show SeqAt.EqAt.str_bool a t' b
  |int b=>let(t,rfl):=rx;show Eg a t' b t
  |str b=>let(t,rfl):=rx;show Ef a t' b t
  |_=>show absurd (show false=true from fx) bJ
 |_=>show absurd (show false=true from fy) bJ
def xQ(x:V)(u:jp):Bool:=match u with
 | .none=>LK .cx x
 | .bool b=>LK (.bl b) x
 | .int i _=>LK (.int i) x
 | .str z _=>LK (.str z) x
 |_=>false
def XG(r:RelV y u)(f:vb y=true):xQ x u=LK y x:=by
 cases y with
 |cx=>cases r;rfl
 |bl b=>cases r;rfl
 |int i=>let(t,rfl):=r;rfl
 |str z=>let(t,rfl):=r;rfl
 |_=>show absurd (show false=true from f) bJ
def E5:∀{xs:Aan}{us:Aaf},Vals xs us->xs.all vb=true->us.any (xQ x)=xs.any λy=>LK y x:=by
 ext _ _ h f
 induction h with
 |nil=>rfl
 |cons r _ ih=>
  rw[List.all_cons,cn]at f;rw[nQ,nQ,XG r f.1,ih f.2]
def Bq(rx:RelV x v)(fx:vb x=true):∀{xs:Aan}{us:Aaf},Vals xs us->xs.all vb=true->∀u∈us,SeqAt.EqAt A s u v (xQ x u):=by
 ext _ _ h f
 induction h with
 |nil=>ext u hu;cases hu
 |cons r _ ih=>
  rw[List.all_cons,cn]at f;ext u' hu;rcases aJ.mp hu with rfl|hu;·rw[XG r f.1];show afr r rx f.1 fx
  show ih f.2 u' hu
def DJ(x:V)(xs:Aan):Bool:=xs.any λy=>LK y x
inductive rIn(K:Frag)(neg:Bool)(x:V)(y:V)(H:Hp)(Q:VK):Prop
 |mk p xs (_:y=-p) (_:(aT K H p xs\/aZ K H p xs)) (_:vb x=true) (_:xs.all vb=true) (_:Q (.bl (if neg then !DJ x xs else DJ x xs)) H)
def VT:je X (wv .In) (rIn X.K false):=by
 ext bi s Z H x y v u Q I rx ry h;let(p,xs,rfl,hq,fx,fs,q):=h;cases ry;rcases hq with hq|hq;·let(aK,r,pl,hz):=I.list hq;show SeqAt.in_listAt (xQ x) pl.isList (λw hw=>Bq rx fx r fs w<|↑hw) {.bl _,H,I,9,?_};rw[show aK.toArray.any (xQ x)=aK.any (xQ x) by simp,E5 r fs];show q
 let(aK,r,pl,hz):=I.tuple hq;show SeqAt.in_tupleAt (xQ x) pl (λw hw=>Bq rx fx r fs w<|↑hw) {.bl _,H,I,9,?_};rw[show aK.toArray.any (xQ x)=aK.any (xQ x) by simp,E5 r fs];show q
def xu:je X (wv .NotIn) (rIn X.K true):=by
 ext bi s Z H x y v u Q I rx ry h;let(p,xs,rfl,hq,fx,fs,q):=h;cases ry;rcases hq with hq|hq;·let(aK,r,pl,hz):=I.list hq;show SeqAt.notIn_listAt (xQ x) pl.isList (λw hw=>Bq rx fx r fs w<|↑hw) {.bl _,H,I,9,?_};rw[show aK.toArray.any (xQ x)=aK.any (xQ x) by simp,E5 r fs];show q
 let(aK,r,pl,hz):=I.tuple hq;show SeqAt.notIn_tupleAt (xQ x) pl (λw hw=>Bq rx fx r fs w<|↑hw) {.bl _,H,I,9,?_};rw[show aK.toArray.any (xQ x)=aK.any (xQ x) by simp,E5 r fs];show q
def jc:fB X (.type "list") (λxs H Q=>∃p ys,xs=[-p]/\(aT X.K H p ys\/aZ X.K H p ys)/\∀l,H l=none->Q (-l) (upd H l<|.lst ys)):=by
 ext bi s Z H xs us Q I r h;let(p,ys,rfl,hq,q):=h;let(u,rfl,rx):=iw r;cases rx;have fin:∀(aK:Aaf),Vals ys aK->91<=dL->∀(h':ss)(c':Nat),(∀b o',s.heap.get? b>o'->h'.get? b>o')->
   h'.get? 35>{cls:=.type "list",dict:=none,data:=.seq aK.toArray c',slots:=#[]}->EP X bi Z Q (.ref 35) (s\h'):=λaK r' hz h' c' kp e=>
  {.ref 35,_,I.laid kp (ao _) (show da 81 X.w _ h' _ (.lst ys)from⟨hz,aK,c',r',e⟩),9,q _ 57}
 rcases hq with hq|hq;·let(aK,r',pl,hz):=I.list hq;have hlen:=r'.length;let(o,ho,hc,n,hd):=pl.isList;show call_list_seq p (.inl 9) ho hc hd (λh' c' kp e=>fin aK r' hz h' c' kp e) (by simp only[aR]<;>lia)
 let(aK,r',pl,hz):=I.tuple hq;have hlen:=r'.length;let(o,ho,hc,n,hd):=pl;show call_list_seq p (.inr 9) ho hc hd (λh' c' kp e=>fin aK r' hz h' c' kp e) (by simp only[aR]<;>lia)
def fE:fB X (.type "tuple") (λxs H Q=>∃p ys,xs=[-p]/\((aT X.K H p ys/\∀l,H l=none->Q (-l) (upd H l<|.tup ys))\/(aZ X.K H p ys/\Q (-p) H))):=by
 ext bi s Z H xs us Q I r h;let(p,ys,rfl,h):=h;let(u,rfl,rx):=iw r;cases rx;rcases h with⟨hq,q⟩|⟨hq,q⟩
 ·let(aK,r',pl,hz):=I.list hq;have hlen:=r'.length;show call_tuple_list pl.isList (λh' kp=>?_) (by simp only[aR]<;>lia);have I1:=I.kept (t':=89) kp;have I2:Inv X bi Z (upd H h'.objs.size<|.tup ys) (s\h'.push {cls:=.type "tuple",data:=.seq aK.toArray}):=
   I1.laid (λb o e=>af _ e) (ao _) (show da 81 X.w _ _ _ (.tup ys)from{hz,aK,r',IsTup.new _ _,_,43,9})
  show{.ref h'.objs.size,_,I2,9,q _ 20}
 let(aK,r',pl,hz):=I.tuple hq;show call_tuple_same pl {-p,H,I,9,q}
noncomputable def tyV(K:Frag)(T:String)(x:V)(H:Hp):Prop:=match x with
 | .str _=>T="str"
 | .int _=>T="int"
 | .ref p=>(T="list"/\∃xs,aT K H p xs)\/(T="tuple"/\((∃xs,H p>.tup xs)\/∃o,K.lookup p>o/\o.cls=.type "tuple"/\o.dict=none))\/
   (T="dict"/\((∃kvs,H p>.dK kvs)\/False))\/(T="set"/\∃S n,H p>.set S n)
 |_=>False
def adg(I:Inv X bi Z H s)(r:RelV x v)(ty:tyV X.K T x H):
  s.TypeIs v T/\∀a,v=.ref a->∃ob,s.heap.get? a>ob/\ob.dict=none:=by
 cases x with
 |str z=>
  let(t,rfl):=r;cases(show T="str"from ty);show{sO s z t,λ_ e=>nomatch e}
 |int i=>
  let(t,rfl):=r;cases(show T="int"from ty);show{typeIs_int s i t,λ_ e=>nomatch e}
 |ref p=>
  cases r;rcases ty with⟨rfl,xs,hq⟩|⟨rfl,⟨xs,hq⟩|⟨o,hk,hc,hd⟩⟩|⟨rfl,hk⟩|⟨rfl,S,n,hk⟩;·let(aK,__,pl,__):=I.list hq;show{pl.isList.typeIs,λa e=>?_};cases e;let(o,n,e,c,hd,__):=pl;show⟨o,e,hd⟩
  ·obtain⟨_,_,_,⟨o1,e1,c1,_⟩,o,e,hd⟩:=I.bE p _ hq;show{⟨o1,e1,c1⟩,λa e2=>?_};cases e2;show⟨o,e,hd⟩
  ·show{{o,I.qA p o hk,hc},λa e=>?_};cases e;show{o,I.qA _ o hk,hd}
  ·have z:∃o,s.heap.get? p>o/\o.ExactDict:=by let(kvs,hk):=hk.resolve_right id;let(__,__,__,__,o,__,__,e,ex,__):=I.bE p _ hk;show⟨o,e,ex⟩
   let(o,e,ex):=z;show{{o,e,ex.1},λa e2=>?_};cases e2;show{o,e,ex.2.1}
  let(o,__,__,__,e,ex,__):=I.bE p _ hk;show{{o,e,ex.1},λa e2=>?_};cases e2;show{o,e,ex.2.1}
 |_=>show False.elim ty
def tBM(K:Frag)(T:String)(r:V->Aan->Hp->VK->Prop)(to:TE)(t:TA):TE:=λZ H Q=>to Z H λx H1=>tyV K T x H1/\t Z H1 λxs H2=>r x xs H2 Q
variable{o e:xL}{es:List xL}{to:TE}{t:TA}{name:pi}{Gc fu:GM}{T id:String}{r:V->Aan->Hp->VK->Prop}
def j4(pa:PlainAttrs T)(slot:Slot T name id)(hty:typeOf (.builtin id)=pure (.type "method_descriptor"))(hm:SE X id r)(ho:PE X o to)(ha:PA X (e::es) t)
  (Bv:At o name X.env (wT o X.env)=wT o X.env:=by rfl)
  (ZO:((Db fu<|re (e::es) X.env).all (λx=>!x.1)&&(SC fu<|KE [] X.env).all (λx=>x.1.isSome)
   &&decide ((e::es).length+([]:List Pi).length+(if([]:List Pi).isEmpty then 0 else 1)<030))=true:=by rfl)
  (Bu:52=true:=by rfl) (hs:re (e::es) X.env=(false,wT e X.env)::re es X.env:=by rfl) (OG:(Db fu 69).any (·.1)=false:=by rfl):
  PE X (.Call (.Attribute o name Gc) (e::es) [] fu) (tBM X.K T r to t):=by
 ext bi s Z H Q I h;show wpAny_Call_method_late Bv ZO Bu rfl (dk (ho bi s Z H _ I h) λv s1 x H1 I1 r1 ahJ=>?_);let(ty,q1):=ahJ;let(h1,h2):=adg I1 r1 ty;show{T,id,pa,slot,hty,h1,h2,?_};have hA:=ha fu bi s1 Z H1 _ I1 q1;rw[hs]at hA⊢;show gw (by change(false||(Db fu<|re es X.env).any (·.1))=false;rw[OG]<;>rfl)<|j9 (iP hA λus s2 zq=>by let(vs,H2,I2,r2,q2):=zq;show hm bi s2 Z H2 x vs v us Q I2 r1 r2 q2)
end
def Pz(X:Cx)(id:String)(r:V->Aan->Hp->VK->Prop):Prop:=
 ∀(bi:Aab)(s:fv)(Z:St)(H:Hp)(x:V)(xs:Aan)(v:jp)(us:Aaf)(Q:VK),Inv X bi Z H s->RelV x v->Vals xs us->r x xs H Q->
  f8 82 X.A (Ix (.builtin id)<|v::us) (EP X bi Z Q) X.xe s
def Vals.one:∀{x:V}{us:Aaf},Vals [x] us->∃u,us=[u]/\RelV x u:=by
 ext _ _ h;cases h with
 |cons r t=>cases t;show⟨_,rfl,r⟩
def Vals.two:∀{x y:V}{us:Aaf},Vals [x,y] us->∃u v,us=[u,v]/\RelV x u/\RelV y v:=by
 ext _ _ _ h;cases h with
 |cons r t=>cases t with
  |cons q t=>cases t;show⟨_,_,rfl,r,q⟩
theorem Vals.eraseIdx:∀{xs:Aan}{us:Aaf}(i:Nat),Vals xs us->Vals (xs.eraseIdx i) (us.eraseIdx i)
 |_,_,_,.nil=>.nil
 |_,_,0,.cons _ t=>t
 |_,_,i+1,.cons r t=>.cons r<|Vals.eraseIdx i t
theorem Lq{α:Type}:∀(l:List α)(i:Nat),(l.eraseIdx i).length<=l.length
 |[],_=>ao _
 |_::_,0=>eI _
 |_::r,i+1=>rS<|Lq r i
section
variable{X:Cx}{bi:Aab}{Z:St}{H:Hp}{s:fv}{l:cr}{xs ys:Aan}
def Inv.Od{aK its':Aaf}(I:Inv X bi Z H s)(hH:H l>.lst xs)
  (e:s.heap.get? l>{cls:=.type "list",data:=.seq aK.toArray n}) (hf:f aK.toArray=its'.toArray) (hv:Vals ys its') (hz:91<=dL):
  Inv X bi Z (upd H l<|.lst ys) (s\(s.heap.update l<|Obj.mapSeq f,t')):=by
 have q:=PySem.IsL.update e f;rw[hf]at q;show I.write (hH▸trivial) (.inl 9) (λb' u hb hu=>(bw s.heap (Obj.mapSeq f)<|bN hb).trans hu) ⟨_,q⟩ ?_;show⟨hz,its',_,hv,q⟩
def Inv.ahi(I:Inv X bi Z H s)(hv:Vals ys aK)(hz:91<=dL):
  Inv X bi Z (upd H 35<|.lst ys) {s with heap:=s.heap.push {cls:=.type "list",data:=.seq aK.toArray},toks:=t'}:=
 I.laid (λ_ _ q=>af _ q) (ao _) {hz,aK,0,hv,43}
def Inv.fresh(I:Inv X bi Z H s):H 35=none:=I.bE.fresh<|ao _
def Inv.Bs(I:Inv X bi Z H s)(hH:H l>.lst xs):55<=dL/\∃(aK:Aaf)(n:Nat),Vals xs aK/\55=aK.length/\s.heap.get? l>{cls:=.type "list",data:=.seq aK.toArray n}:=by let(z,aK,n,r,e):=I.bE l _ hH;show{z,aK,n,r,r.length,e}
def N6(h:n<=dL):Builtin.List.listTooLong n=false:=by show bQ ∅
end
section
variable{X:Cx}
inductive abR(x:V)(vs:Aan)(H:Hp)(Q:VK):Prop
 |mk l xs y (_:x=-l) (_:vs=[y]) (_:H l>.lst xs) (_:xs.length<dL) (_:Q .cx (upd H l<|.lst<|xs++[y]))
def pz:Pz X "list.append" abR:=by ext bi s Z H x vs v us Q I rx rv h;let(l,xs,y,rfl,rfl,hH,hz,q):=h;cases rx;let(u,rfl,ru):=rv.one;let(z,aK,n,r,hl,e):=I.Bs hH;show m9 ED ⟨_,e,rfl⟩ CD (BO _ _) (Fl l aK.toArray n u (by rw[aR];lia)) {e,?_};show{.cx,_,I.Od hH e 75 (r.append<|.cons ru .nil) ?_,9,q};rw[aU,b5];lia
inductive abQ(x:V)(vs:Aan)(H:Hp)(Q:VK):Prop
 |mk l b xs zs (_:x=-l) (_:vs=[-b]) (_:H l>.lst xs) (_:H b>.lst zs) (_:xs.length+zs.length<=dL) (_:Q .cx (upd H l<|.lst<|xs++zs))
def Dw:Pz X "list.extend" abQ:=by
 ext bi s Z H x vs v us Q I rx rv h;let(l,b,xs,zs,rfl,rfl,hH,hB,hz,q):=h;cases rx;let(u,rfl,ru):=rv.one;cases ru;let(z,aK,n,r,hl,e):=I.Bs hH;let(z2,uN,n2,r2,iz,e2):=I.Bs hB;have hsz:aK.toArray.size+uN.toArray.size<=dL:=by rw[aR,aR];lia
 have T7:¬(!aK.toArray.isEmpty&&Builtin.List.listTooLong (aK.toArray.size+uN.toArray.size))=true:=by rw[N6 hsz,AY];show bJ
 show m9 EC ⟨_,e,rfl⟩ CC (BN _ _)
  (AutoSeq1.list_extend_list_list_0 l aK.toArray n b uN.toArray n2 T7 (by rw[aR];lia) ∅) {e,e2,?_}
 show{.cx,_,I.Od hH e 75 (r.append r2) ?_,9,q};rw[aU];lia
inductive adU(x:V)(vs:Aan)(H:Hp)(Q:VK):Prop
 |mk l xs i k y (_:x=-l) (_:vs=[.int i]) (_:H l>.lst xs) (_:-(2^63)<=i) (_:i<2^63) (_:seqIndex? i xs.length>k) (_:xs[k]?>y) (_:Q y (upd H l<|.lst<|xs.eraseIdx k))
def Zm:Pz X "list.pop" adU:=by
 ext bi s Z H x vs v us Q I rx rv h;let(l,xs,i,k,y,rfl,rfl,hH,h1,h2,hk,hy,q):=h;cases rx;let(u,rfl,ru):=rv.one;let(t,rfl):=ru;let(z,aK,n,r,hl,e):=I.Bs hH;let(w,hw,kT):=r.get hy;show m9 F.slot_list_pop ⟨_,e,rfl⟩ F.entry_list_pop (F.args_list_pop_2 _ _)
  (MeetsSeq.list_pop_at l aK.toArray n i t k w (fitsIndex_both h1 h2) (by rw[aR,<-hl];show hk) (by rw[<-cv];show hw) (by rw[aR];lia)) {e,?_}
 show{y,_,I.Od hH e ?_ (r.eraseIdx k) ?_,kT,q};·change aK.toArray.eraseIdxIfInBounds k=(aK.eraseIdx k).toArray;rw[List.eraseIdxIfInBounds_toArray]
 have:=Lq xs k;lia
inductive ad0(x:V)(y:V)(H:Hp)(Q:VK):Prop
 |mk l b xs zs (_:x=-l) (_:y=-b) (_:H l>.lst xs) (_:H b>.lst zs) (_:xs.length+zs.length<=dL) (_:∀p,H p=none->Q (-p) (upd H p<|.lst<|xs++zs))
def mz:je X (Fk .Add) ad0:=by
 ext bi s Z H x y v u Q I rx ry h;let(l,b,xs,zs,rfl,rfl,hH,hB,hz,q):=h;cases rx;cases ry;let(z,aK,n,r,hl,e):=I.Bs hH;let(z2,uN,n2,r2,iz,e2):=I.Bs hB;show PySem.P.add_list e e2 ?_ (by rw[aR,aR];lia);have ea:aK.toArray++uN.toArray=(aK++uN).toArray:=by simp
 rw[ea];show{.ref _,_,I.ahi (r.append r2) (by rw[aU];lia),9,q _ I.fresh}
end
section
variable{κ:Type}[DecidableEq κ]
def j0(kvs:List (κ×V))(k:κ):Aao:=(kvs.find? λkv=>decide (kv.1=k)).map (·.2)
def putK(kvs:List (κ×V))(k:κ)(v:V):List (κ×V):=
 if(kvs.any λkv=>decide (kv.1=k))=true then kvs.map (λkv=>if kv.1=k then(kv.1,v)else kv)else kvs++[(k,v)]
def uu{p:κ×V}{k:κ}(e:p.1=k):j0 (p::r) k>p.2:=by simp[j0,tU,e]
def rK{p:κ×V}{k:κ}(e:¬p.1=k):j0 (p::r) k=j0 r k:=by simp[j0,tU,e]
theorem Gw(k:κ):∀kvs:List (κ×V),(kvs.any λkv=>decide (kv.1=k))=(j0 kvs k).isSome
 |[]=>rfl
 |p::r=>by
  rw[nQ];by_cases e:p.1=k;·simp only[uu e,aO e,Bool.true_or,Em]
  rw[rK e,bQ e,Bool.false_or];show Gw k r
def zI(kvs:List (κ×V))(k:κ)(v:V):(putK kvs k v).length<=kvs.length+1:=by
 unfold putK;split;·rw[ag];lia
 rw[aU,bc,gc];lia
def Bf{k:κ}(v:V)(h:j0 kvs k=none):putK kvs k v=kvs++[(k,v)]:=by unfold putK;rw[Gw,h];show az 7
def oj.vC(r:oj o u):o.isSome=u.isSome:=by
 cases o with
 |none=>cases u with
  |none=>rfl
  |some _=>show(show False from r).elim
 |some _=>cases u with
  |none=>show(show False from r).elim
  |some _=>rfl
def oj.getD(r:oj o u)(rd:RelV d d'):RelV (o.getD d) (u.getD d'):=by
 cases o with
 |none=>cases u with
  |none=>show rd
  |some _=>show(show False from r).elim
 |some _=>cases u with
  |none=>show(show False from r).elim
  |some _=>show r
def KV.val(r:KV kvs vs)(k:κ):oj (j0 kvs k) (Re vs k):=by
 induction r with
 |nil=>show True.intro
 |@cons p q ps qs h t ih=>
  let(h1,h2):=h;by_cases e:p.1=k
  ·have e':=h1.symm.trans e;have b:Re (q::qs) k>q.2:=by simp[Re,tU,e']
   rw[uu e,b];show h2
  have e':¬q.1=k:=λz=>e<|h1.trans z;have b:Re (q::qs) k=Re qs k:=by simp[Re,tU,e']
  rw[rK e,b];show ih
def KV.any(r:KV kvs vs)(k:κ):(kvs.any λkv=>decide (kv.1=k))=vs.any λkv=>decide (kv.1=k):=by
 unfold KV at r
 induction r with
 |nil=>rfl
 |cons h t ih=>rw[nQ,nQ,ih,h.1]
def KV.ag8(r:KV kvs vs)(k:κ)(ry:RelV y u):
  KV (kvs.map λkv=>if kv.1=k then(kv.1,y)else kv) (vs.map λkv=>if kv.1=k then(kv.1,u)else kv):=by
 induction r with
 |nil=>show .nil
 |@cons p q ps qs h t ih=>
  rw[bI,bI];show .cons ?_ ih;let(h1,h2):=h;by_cases e:p.1=k;·rw[aL e,aL<|h1.symm.trans e];show⟨h1,ry⟩
  rw[az e,az (λz=>e<|h1.trans z)];show⟨h1,h2⟩
def KV.put(r:KV kvs vs)(k:κ)(ry:RelV y u):KV (putK kvs k y) (stored vs k u):=by
 unfold putK stored;rw[r.any k];by_cases e:(vs.any λkv=>decide (kv.1=k))=true;·rw[aL e,aL e];show r.ag8 k ry
 rw[az e,az e];show Gr r ⟨rfl,ry⟩
def KV.keys{kvs:List (κ×V)}(r:KV kvs vs):kvs.map (·.1)=vs.map (·.1):=by
 induction r with
 |nil=>rfl
 |cons h t ih=>rw[bI,bI,ih,h.1]
def KV.length{kvs:List (κ×V)}(r:KV kvs vs):kvs.length=vs.length:=aQ r
end
def u9(r:RelV (kV k) u):(b4 P w).is k u=true:=by
 cases k with
 |inl i=>let(t,e):=(show∃t,u=Value.int i t from r);subst e;show Qc P w i t
 |inr x=>let(t,e):=(show∃t,u=Value.str x t from r);subst e;show FY P w x t
section
variable{P:io}{w:mo}{H:Hp}{h:ss}{a:cr}
def agd(ok:kK P w H h)(e:Rd H a u):da P w H h a u:=e.ok ok
def wN(ok:kK P w H h)(e:Rd H a (.dK kvs)):kvs.length<=dL/\(a==zn)=false/\∃vs,KV kvs vs/\h.DictOf (b4 P w) a vs:=
 show da P w H h a (.dK kvs)from agd ok e
def yX(ok:kK P w H h)(e:H a>.dK kvs):kvs.length<=dL/\(a==zn)=false/\∃vs,KV kvs vs/\h.DictOf (b4 P w) a vs:=wN ok<|.inl e
end
def jA(H:Hp)(a:cr)(y:V)(r:Aao):Prop:=
 (∃kvs k,Rd H a (.dK kvs)/\y=kV k/\r=j0 kvs k)\/False
def KA(H:Hp)(a:cr)(y v:V)(H':Hp):Prop:=
 (∃kvs k,H a>.dK kvs/\y=kV k/\kvs.length<dL/\H'=upd H a (.dK<|putK kvs k v))\/False
theorem jA.k{H:Hp}{a:cr}{kvs:List (Key×V)}{k:Key}(e:H a>.dK kvs):jA H a (kV k) (j0 kvs k):=.inl {kvs,k,.inl e,9,9}
theorem KA.k{H:Hp}{a:cr}{kvs:List (Key×V)}{k:Key}{v:V}(e:H a>.dK kvs)(hl:kvs.length<dL):KA H a (kV k) v (upd H a<|.dK<|putK kvs k v):=.inl ⟨kvs,k,e,rfl,hl,rfl⟩
section
variable{X:Cx}{bi:Aab}{Z:St}{H:Hp}{s:fv}{a:cr}{y v:V}{u r:jp}{o:Aao}{A:wf}{E:Aad}
def Inv.big(I:Inv X bi Z H s):zn<35:=by show f9 7<|(I.mod.glob.keeps I.bk).lt
def XW(hu:A.units+1<wS)(I:Inv X bi Z H s)(g:jA H a y (some v))(ry:RelV y u)(h:∀w' s',Inv X bi Z H s'->RelV v w'->Q w' s'):
  f8 82 A (Rs (-a) u) Q E s:=by
 let(kvs,k,e,ey,l):=g.resolve_right id;subst ey;let(z,hd,vs,rel,dd):=wN I.bE e;let(w',hw,kT):=oj.some_of (v:=v) (o:=Re vs k) (by rw[l];show rel.val k);show wpAny_getItem_of (u9 ry) dd.mapOf hw<|h w' _ 28 kT
def aiv(hu:A.units+1<wS)(I:Inv X bi Z H s)(g:jA H a y o)(ry:RelV y u)(h:∀s',Inv X bi Z H s'->Q (.bool o.isSome) s'):
  f8 82 A (wv .In u (-a)) Q E s:=by
 let(kvs,k,e,ey,l):=g.resolve_right id;subst ey;let(z,hd,vs,rel,dd):=wN I.bE e;show wpAny_in_of (u9 ry) hd dd.mapOf ?_;rw[<-(rel.val k).vC,<-l];show h _ 28
def acT{Q:Aad}(hu:A.units+1<wS)(I:Inv X bi Z H s)(g:jA H a y o)(ry:RelV y u)(h:∀s',Inv X bi Z H s'->Q (.bool<|!o.isSome) s'):
  f8 82 A (wv .NotIn u (-a)) Q E s:=by
 let(kvs,k,e,ey,l):=g.resolve_right id;subst ey;let(z,hd,vs,rel,dd):=wN I.bE e;show wpAny_notIn_of (u9 ry) hd dd.mapOf ?_;rw[<-(rel.val k).vC,<-l];show h _ 28
def xa(I:Inv X bi Z H s)(mu:Yg (H a))(hs:Heap.SameBut a s.heap h')(he:∃q,h'.get? a>q)(new:da 81 X.w (upd H a ob) h' a ob):
  Inv X bi Z (upd H a ob) (s\(h',t')):=
 I.write mu (.inl 9) (λb q hb z=>(hs.2 b hb).trans z) he new
def AK(z:kvs.length<=dL)(hd:(a==zn)=false)(rel:KV kvs vs)(dd:h'.DictOf (b4 P w) a vs):
  da P w H' h' a (.dK kvs):=⟨z,hd,vs,rel,dd⟩
def XO(hu:A.units+1<wS)(I:Inv X bi Z H s)(g:KA H a y v H')(ry:RelV y u)(rv:RelV v r)(h:∀s',Inv X bi Z H' s'->Q () s'):
  f8 82 A (setItem (-a) u r) Q E s:=by
 let(kvs,k,e,ey,l,eH):=g.resolve_right id;subst ey eH;let(z,hd,vs,rel,dd):=yX I.bE e;have hz:vs.length<=dL:=by rw[<-rel.length];show z
 have hl:(putK kvs k v).length<=dL:=by have:=zI kvs k v;lia
 show wpAny_setItem_pairs (hsz:=hz) (u9 ry) dd λh' wk hs=>h _ ?_;have he:∃q,h'.get? a>q:=let⟨q,_,_,hq,_⟩:=wk;⟨q,hq⟩
 show xa I (by rw[e];show True.intro) hs he<|AK hl hd (rel.put k rv) wk
def aaq(i:xL):Prop:=∀ov iv,TW i false ov iv=operate [ov,iv] (Rs ov iv)
end
def QV{T id:String}
  (hl:KB (.type T) "__getitem__"=pure (some<|.builtin id)) (hs:aaq slice)
  (h:f8 77 A (wT value env) (λo aaa=>f8 77 A (wT slice env) (λi aae=>aae.TypeIs o T/\f8 77 A (Rs o i) Q E aae) E aaa) E s):
  f8 77 A (wT (.Subscript value slice pos) env) Q E s:=by
 show Jw (dR h (λo aaa ahn=>dR ahn (λi aae aah=>?_) λ_ _ x=>x) λ_ _ x=>x);let(hT,aah):=aah;show ae ?_;show ae<|i5 hT hl ?_;have fin:f8 77 A (TW slice false o i) (λr aag=>f8 77 A (letTemporaryGo value o r>>=λ_=>pure r) Q E aag) E aae:=by rw[hs o i];show wpAny_operating (dR aah (λr aag ahm=>ae<|wpAny_letTemporaryGo<|ah ahm) λ_ _ x=>x)
 first
  |show ah<|ae fin
  |show ae<|ah<|ae fin
  |show ae fin
def Qi(I:Inv X bi Z H s)(g:jA H a y o):s.TypeIs (-a) "dict":=by let(kvs,k,e,__,__):=g.resolve_right id;let(__,__,vs,__,dd):=wN I.bE e;show dd.typeIs
inductive adC(Q:VK)(x:V)(y:V)(H2:Hp):Prop
 |mk a v (_:x=-a) (_:jA H2 a y (some v)) (_:Q v H2)
def af6(td ty:TE):TE:=λZ H Q=>td Z H λx H1=>ty Z H1 λy H2=>adC Q x y H2
inductive af5(Q:VK)(y:V)(x:V)(H2:Hp):Prop
 |mk a o (_:x=-a) (_:jA H2 a y o) (_:Q (.bl o.isSome) H2)
def ag3(ty td:TE):TE:=λZ H Q=>ty Z H λy H1=>td Z H1 λx H2=>af5 Q y x H2
inductive YD(Q:VK)(y:V)(x:V)(H2:Hp):Prop
 |mk a o (_:x=-a) (_:jA H2 a y o) (_:Q (.bl<|!o.isSome) H2)
def abx(ty td:TE):TE:=λZ H Q=>ty Z H λy H1=>td Z H1 λx H2=>YD Q y x H2
inductive adQ(D:Ends)(Z:St)(v:V)(x:V)(y:V)(H3:Hp):Prop
 |mk a H4 (_:x=-a) (_:KA H3 a y v H4) (_:D.nx Z H4)
def agc(td ty tv:TE):TS:=λD Z H=>tv Z H λv H1=>td Z H1 λx H2=>ty Z H2 λy H3=>adQ D Z v x y H3
section
variable{X:Cx}{o i value:xL}{pos pos':GM}{td ty tv:TE}
def w5(hu:X.A.units+1<wS)(ho:PE X o td)(hi:PE X i ty)(hs:aaq i):PE X (.Subscript o i pos) (af6 td ty):=by ext bi s Z H Q I h;show QV PySem.F.slot_dict_getitem.lookup hs (dk (ho bi s Z H _ I h) λu s1 x H1 I1 rx q1=>dk (hi bi s1 Z H1 _ I1 q1) λiv s2 y H2 I2 ry ahI=>?_);let(a,v,ex,g,q2):=ahI;subst ex;obtain rfl:u=Value.ref a:=rx;show{Qi I2 g,XW hu I2 g ry λw' s3 I3 kT=>⟨v,H2,I3,kT,q2⟩}
def Il(hu:X.A.units+1<wS)(hi:PE X i ty)(ho:PE X o td):PC X .In i o (ag3 ty td):=by ext bi s Z H Q I h;show dk (hi bi s Z H _ I h) λiv s1 y H1 I1 ry q1=>dk (ho bi s1 Z H1 _ I1 q1) λu s2 x H2 I2 rx ahH=>?_;let(a,ov,ex,g,q2):=ahH;subst ex;obtain rfl:u=Value.ref a:=rx;show aiv hu I2 g ry λs3 I3=>{.bl ov.isSome,H2,I3,9,q2}
def Lf(hu:X.A.units+1<wS)(hi:PE X i ty)(ho:PE X o td):PC X .NotIn i o (abx ty td):=by ext bi s Z H Q I h;show dk (hi bi s Z H _ I h) λiv s1 y H1 I1 ry q1=>dk (ho bi s1 Z H1 _ I1 q1) λu s2 x H2 I2 rx ahG=>?_;let(a,ov,ex,g,q2):=ahG;subst ex;obtain rfl:u=Value.ref a:=rx;show acT hu I2 g ry λs3 I3=>{.bl<|!ov.isSome,H2,I3,9,q2}
def JT(hu:X.A.units+1<wS)(ho:PE X o td)(hi:PE X i ty)(hv:PE X value tv)(hs:EQ value (some<|.Subscript o i pos') pos.line X.env=pure false):
  PS X (.Assign [.Subscript o i pos'] value pos) (agc td ty tv):=by
 ext bi s Z H D I h;show zp (dk (hv bi s Z H _ I h) λr s1 v H1 I1 rv q1=>dk (ho bi s1 Z H1 _ I1 q1) λu s2 x H2 I2 rx q2=>dk (hi bi s2 Z H2 _ I2 q2) λiv s3 y H3 I3 ry ahF=>?_) hs;let(a,H4,ex,g,q3):=ahF;subst ex;obtain rfl:u=Value.ref a:=rx;show XO hu I3 g ry rv λs4 I4=>⟨Z,H4,I4,q3⟩
def Pb(h:ss)(hb:zn<h.objs.size):da P w H (h.push {cls:=.type "dict",data:=.dict #[]}) h.objs.size 34:=
 {aF _,dq.mpr<|bN<|aD hb,[],.nil,zi h}
def ady:TE:=λ_ H Q=>∀p,H p=none->Q (-p) (upd H p 34)
def iL:PE X (.Dict [] [] pos) ady:=λbi s Z H Q I h=>
 wpAny_Dict_empty {.ref 35,_,I.laid (λ_ _ q=>af _ q) (ao _)<|Pb s.heap I.big,9,h _ 57}
end
def MN:List (TE×TE)->St->Hp->(Aal->Hp->Prop)->Prop
 |[],_,H,Q=>Q [] H
 |(tk,tv)::r,Z,H,Q=>tk Z H λx H1=>tv Z H1 λy H2=>MN r Z H2 λps H3=>Q ((x,y)::ps) H3
abbrev VV:Aal->List (jp×jp)->Prop:=Paired λp q=>RelV p.1 q.1/\RelV p.2 q.2
def El(X:Cx)(pos:GM)(keys:List (Option xL))(values:List xL)(MI:List (TE×TE)):Prop:=
 ∀(bi:Aab)(s:fv)(Z:St)(H:Hp)(Q:Aal->Hp->Prop),Inv X bi Z H s->MN MI Z H Q->
  f8 82 X.A (evalPairs<|pairTrees keys values X.env pos) (λvs s'=>∃ps H',Inv X bi Z H' s'/\VV ps vs/\Q ps H') X.xe s
def abV:El X pos [] [] []:=λbi s Z H Q I h=>pairTrees_nil_walk {[],H,I,.nil,h}
def Y1(hk:PE X k tk)(hv:PE X v tv)(hr:El X pos ks vs MI):
  El X pos (some k::ks) (v::vs) ((tk,tv)::MI):=λbi s Z H Q I h=>
 pairTrees_cons_walk (dk (hk bi s Z H _ I h) λu s1 x H1 I1 rx q1=>dk (hv bi s1 Z H1 _ I1 q1) λw2 s2 y H2 I2 ry q2=>
  iP (hr bi s2 Z H2 _ I2 q2) λws s3 zq=>by let(ps,H3,I3,rel,q3):=zq;show{(x,y)::ps,H3,I3,.cons ⟨rx,ry⟩ rel,q3})
def nG(kvs more:List (Key×V)):List (Key×V):=more.foldl (λacc kv=>putK acc kv.1 kv.2) kvs
def KV.merge:∀{more:List (Key×V)}{rs:List (Key×jp)}{kvs:List (Key×V)}{vs:List (Key×jp)},KV more rs->KV kvs vs->KV (nG kvs more) (NE vs rs):=by
 ext more rs kvs vs r
 induction r generalizing kvs vs with
 |nil=>ext q;show q
 |@cons p q ps qs h t ih=>
  ext r0;have e:KV (putK kvs p.1 p.2) (stored vs q.1 q.2):=by have:=r0.put p.1 h.2;rw[<-h.1];show this
  show ih e
theorem Cb:∀(more kvs:List (Key×V)),(nG kvs more).length<=kvs.length+more.length
 |[],kvs=>by change kvs.length<=kvs.length+0;lia
 |p::r,kvs=>by have h1:=Cb r<|putK kvs p.1 p.2;have h2:=zI kvs p.1 p.2;change(nG (putK kvs p.1 p.2) r).length<=_;rw[bc];lia
structure M1(X:Cx)(o:xL)(m:pi)(Gc:GM)(e:xL)(fu:GM):Prop where
 base:At o m X.env (wT o X.env)=wT o X.env
 i0:((Db fu<|re [e] X.env).all (λx=>!x.1)&&(SC fu<|KE [] X.env).all (λx=>x.1.isSome)
  &&decide (([e]:List xL).length+([]:List Pi).length+(if([]:List Pi).isEmpty then 0 else 1)<030))=true
 line:52=true
 trees:Db fu (re [e] X.env)=[(false,wT e X.env)]
structure M2(X:Cx)(o:xL)(m:pi)(Gc:GM)(e f:xL)(fu:GM):Prop where
 base:At o m X.env (wT o X.env)=wT o X.env
 i0:((Db fu<|re [e,f] X.env).all (λx=>!x.1)&&(SC fu<|KE [] X.env).all (λx=>x.1.isSome)
  &&decide (([e,f]:List xL).length+([]:List Pi).length+(if([]:List Pi).isEmpty then 0 else 1)<030))=true
 line:52=true
 trees:Db fu (re [e,f] X.env)=[(false,wT e X.env),(false,wT f X.env)]
def IsD(H:Hp)(a:cr):Prop:=(∃kvs,Rd H a<|.dK kvs)\/False
def WL(I:Inv X bi Z H s)(d:IsD H a):
  s.TypeIs (-a) "dict"/\(∀b,Value.ref a=.ref b->∃ob,s.heap.get? b>ob/\ob.dict=none)/\(a==zn)=false:=by
 let(kvs,e):=d.resolve_right id;let(__,hd,vs,__,dd):=wN I.bE e;show{dd.typeIs,λb q=>?_,hd};cases q;let(ob,__,__,h1,h2,__):=dd;show{ob,h1,h2.2.1}
section
variable{X:Cx}{bi:Aab}{Z:St}{H:Hp}{s:fv}{a:cr}{y d:V}{u r:jp}{o:Aao}{A:wf}{E:Aad}
def afz{Q:Aad}(hu:A.units+1<wS)(I:Inv X bi Z H s)(g:jA H a y o)(ry:RelV y u)(h:∀w' s',Inv X bi Z H s'->RelV (o.getD .cx) w'->Q w' s'):
  f8 82 A (Ix (.builtin "dict.get") [-a,u]) Q E s:=by
 let(kvs,k,e,ey,l):=g.resolve_right id;subst ey;let(z,hd,vs,rel,dd):=wN I.bE e;show pG iU dd.typeIs rA (PySem.F.args_dict_get_2 _ _) (meets_dict_get (b4 81 X.w) a (u9 ry) hd) {_,dd.mapOf,h _ _ 28 ?_};rw[l];show(rel.val k).getD rfl
def afy(hu:A.units+1<wS)(I:Inv X bi Z H s)(g:jA H a y o)(ry:RelV y u)(rd:RelV d r)(h:∀w' s',Inv X bi Z H s'->RelV (o.getD d) w'->Q w' s'):
  f8 82 A (Ix (.builtin "dict.get") [-a,u,r]) Q E s:=by
 let(kvs,k,e,ey,l):=g.resolve_right id;subst ey;let(z,hd,vs,rel,dd):=wN I.bE e;show pG iU dd.typeIs rA (yC _ _ _) (meets_dict_get_default (b4 81 X.w) a (u9 ry) hd r) {_,dd.mapOf,h _ _ 28 ?_};rw[l];show(rel.val k).getD rd
end
inductive abA(ty:TE)(Z:St)(Q:VK)(x:V)(H1:Hp):Prop
 |mk a (_:x=-a) (_:IsD H1 a) (_:ty Z H1 λy H2=>∃o,jA H2 a y o/\Q (o.getD .cx) H2)
def adB(td ty:TE):TE:=λZ H Q=>td Z H λx H1=>abA ty Z Q x H1
inductive abz(ty:TE)(tx:TE)(Z:St)(Q:VK)(x:V)(H1:Hp):Prop
 |mk a (_:x=-a) (_:IsD H1 a) (_:ty Z H1 λy H2=>tx Z H2 λz H3=>∃o,jA H3 a y o/\Q (o.getD z) H3)
def adA(td ty tx:TE):TE:=λZ H Q=>td Z H λx H1=>abz ty tx Z Q x H1
section
variable{X:Cx}{o e f:xL}{Gc fu:GM}{td ty tx:TE}
def Y4(hu:X.A.units+1<wS)(ho:PE X o td)(he:PE X e ty)(m:M1 X o "get" Gc e fu):PE X (.Call (.Attribute o "get" Gc) [e] [] fu) (adB td ty):=by ext bi s Z H Q I h;show qM m.base m.i0 m.line eK iU sy (dk (ho bi s Z H _ I h) λu s1 x H1 I1 rx ahE=>?_);let(a,ex,d,q1):=ahE;subst ex;obtain rfl:u=Value.ref a:=rx;let(t1,t2,__):=WL I1 d;show{t1,t2,?_};rw[m.trees];show gw rfl (j9<|gh (dk (he bi s1 Z H1 _ I1 q1) λiv s2 y H2 I2 ry ⟨ov,g,q2⟩=>jZ ?_));show afz hu I2 g ry λw' s3 I3 kT=>⟨_,H2,I3,kT,q2⟩
def GN(hu:X.A.units+1<wS)(ho:PE X o td)(he:PE X e ty)(hf:PE X f tx)(m:M2 X o "get" Gc e f fu):PE X (.Call (.Attribute o "get" Gc) [e,f] [] fu) (adA td ty tx):=by ext bi s Z H Q I h;show qM m.base m.i0 m.line eK iU sy (dk (ho bi s Z H _ I h) λu s1 x H1 I1 rx ahD=>?_);let(a,ex,d,q1):=ahD;subst ex;obtain rfl:u=Value.ref a:=rx;let(t1,t2,__):=WL I1 d;show{t1,t2,?_};rw[m.trees];show gw rfl (j9<|gh (dk (he bi s1 Z H1 _ I1 q1) λiv s2 y H2 I2 ry q2=>gh (dk (hf bi s2 Z H2 _ I2 q2) λfv s3 z H3 I3 rz ⟨ov,g,q3⟩=>jZ ?_)));show afy hu I3 g ry rz λw' s4 I4 kT=>⟨_,H3,I4,kT,q3⟩
variable{bi:Aab}{Z:St}{H:Hp}{s:fv}{a:cr}{kvs:List (Key×V)}{A:wf}{E:Aad}
def Z9(I:Inv X bi Z H s)(e:Rd H a (.dK kvs))(h:∀p s',H p=none->Inv X bi Z (upd H p<|.dK kvs) s'->Q (-p) s'):f8 82 A (Ix (.type "dict") [-a]) Q E s:=by let(z,hd,vs,rel,dd):=wN I.bE e;show kt_call_dict hd dd (rel.length▸z) λh' wk hs=>?_;show h _ _ 57<|I.laid (λb q hq=>(hs.2 b<|aD<|aE hq).trans<|af _ hq) (ao _)<|AK z (dq.mpr<|bN<|aD I.big) rel wk
end
end L2
namespace L3
open PySem PySem.W PySem.Calls PyProof.Rows
def IM:∀(ns:List Int)(vs:Aaf),WellAll P h vs (ns.map WData.int)->SL vs ns:=by
 ext ns
 induction ns with
 |nil=>
  ext vs w;cases w;show .nil
 |cons n ns ih=>
  ext vs w;cases w with
  |cons a b=>
   cases a;show .cons _ _<|ih _ b
def Vs{l:OpenLaw}(hn:l.most>n)
  (T5:l.row.toRowW.claim.pre args=true) (F5:WellAll P h vals args):
  ∃a vs ns,vals=[Value.ref a]/\args=[WData.list<|ns.map WData.int]/\h.get? a>{cls:=.type "list",data:=.seq vs.toArray}/\SL vs ns/\ns.length<=n:=by
 have hc:l.pre.holds [] {args:=args}=true:=(pre_splitW T5).2;let(d,r,rfl,h1,h2):=hasAllW_cons<|(pre_splitW T5).1;obtain rfl:=hasAllW_nil h2;let(xs,rfl,h3):=hasW_list h1;let(ns,rfl):=items_int h3;have hlen:ns.length<=n:=by
  have h4:(WTm.not<|.lt (.lit<|.int (n:Int))<|.len<|.arg 0).holds [] {args:=[.list<|ns.map .int]}=true:=by have h4:=(holds_andW hc).1;rw[hn]at h4;show h4
  have h5:=condW_of h4<|w_not<|w_lt w_lit<|w_len_list<|w_arg 9;show kC λq=>?_
  first
   |(rw[aO q']at h5;show absurd h5 (by decide))
   |(simp at h5;lia)
 cases F5 with
 |cons w1 w2=>
  cases w2;cases w1 with
  |list ho mZ=>show{_,_,ns,9,9,ho,IM ns _ mZ,hlen}
def VG(l:OpenLaw)(args:List WData):l.row.toRowW.claim.post args 17 args=true:=
 postW_of
  (show WShape.has [] 17 .bool=true by first|rfl|decide|simp[WShape.has,WShape.arms,WShape.armsAll])
  (show(WTm.eq .res<|.lit 17).value [] {args:=args,res:=some 17,after:=args}>.bool (true==true)from w_eq_bool (w_res 9) w_lit) rfl
def Qq{l:OpenLaw}
  (hn:l.most>n) (Xb:d.params.defaults=[])
  (Ix:∀(w:mo)(aab aaa:fv)(mg mb:Aac)(fa:cr)(o:Go)(pm cd doc:jp)(a:cr)(vs:Aaf)(ns:List Int),
   Ground q loose [] XP w aab mg mb aaa.heap->YP w aaa.heap->
   aaa.heap.get? fa>o->o.data=.func (docDef d.name d.params d.body d.scope pm cd doc)->aaa.heap.CodeRec cd d.name->mg d.name>.ref fa->
   aaa.heap.get? a>{cls:=.type "list",data:=.seq vs.toArray}->SL vs ns->ns.length<=n->aaa.gens=#[]->
   AT (f' l.prog w) U' (.call (-fa) {[-a],[]}) (λr s'=>r=.ok (.ret 17)/\OldK aaa.heap s'.heap/\s'.os=aaa.os/\KT s'.gens) aaa):
  WalkO q loose XP YP l.row.toRowW d [] (λf vs=>PySem.call f vs):=by
 ext w aab aaa mg mb G Y fa o pm cd doc dV kV ho hd AI hD WZ hg args vals as T5 aiV hrd F5 hlo;obtain rfl:dV=.none:=Dflts.none hD Xb;obtain rfl:kV=.none:=Dflts.noKw hD;let(a,vs,ns,rfl,rfl,ZG,hints,hlen):=Vs hn T5 F5;show enter_call (ko (Ix w aab aaa mg mb fa o pm cd doc a vs ns G Y ho (fd_plain hd) AI WZ ZG hints hlen hg) λr s' hq=>?_);let(rfl,h2,h3,h4):=hq;show{.inl {17,17,[],9,λ_=>9,17,VG l _,λ_=>{List.Pairwise.nil,λ_ hm=>(nomatch hm)}},h2,h3,h4}
section
def xw(h:ss):ss:={h with objs:=#[]}
def IC(h:ss)(b:cr):(xw h).get? b=none:=by
 cases e:(xw h).get? b with
 |none=>rfl
 |some o=>show absurd (aE e)<|eE _
def ledger(h:ss)(L d:cr):Aab:=(List.range h.objs.size).filterMap λa=>if a=L\/a=d then none else(h.get? a).map λo=>(a,o)
def afp{h:ss}{L:cr}{m:Aac}(n:h.Ns L m):Fr (xw h) L h m:=
 {n,λb o e=>(by rw[IC]at e;cases e),aF _}
end
end L3
namespace L2
open PySem PySem.Spec PyProof.Rows
def UY:∀{vs:Aaf}{ns:List Int},SL vs ns->Vals (ns.map V.int) vs:=by
 ext _ _ h
 induction h with
 |nil=>show .nil
 |cons n t _ ih=>show .cons ⟨t,rfl⟩ ih
def UG(H:Hp):Prop:=∀b,H b=none\/∃o xs,H b>.fR o (.lst xs)
def Zr{K:Frag}
  (KX:K.In aaa.heap) (R4:aaa.heap.Ns ww mg) (hb:aaa.heap.Ns PP mb) (hbb:∀x:pi,x≠"__name__"->mb x=Da x) (ah5:aaa.heap.NoLimit) (hg:aaa.gens=#[])
  (ha:aaa.heap.get? a>{cls:=.type "list",data:=.seq vs.toArray}) (hi:SL vs ns) (hl:ns.length<=dL) (hr:ir k U')
  (F:∀base:ss,K.In base->base.Ns ww mg->cm P w K mg base CX k fa fd [x] sp) (agE:∀(s:fv)(u:jp),TD s fd {[u],[]} [(x,u)])
  (F7:∀H:Hp,UG H->aT K H a (ns.map V.int)->sp [-a] H (λv _=>v=.bl true) λ_ _ _=>False)
  (hCX:∀H e s',CX [] H aaa (λ_ _ _=>False) e s'->False):
  AT 88 U' (.call (-fa) {[-a],[]}) (λr s'=>r=.ok (.ret 17)/\OldK aaa.heap s'.heap/\s'.os=aaa.os/\KT s'.gens) aaa:=by
 have rv:=UY hi;have core:∀H:Hp,UG H->aT K H a (ns.map V.int)->kK P w H aaa.heap->(∀b,H b≠none->b=a)->(H a≠none->K.lookup a=none)->
   AT 88 U' (.call (-fa) {[-a],[]}) (λr s'=>r=.ok (.ret 17)/\OldK aaa.heap s'.heap/\s'.os=aaa.os/\KT s'.gens) aaa:=by
  ext H hO hS bE hA hK;have Sx:∀{b:cr}{o:Go},aaa.heap.get? b>o->H b=none->(GX aaa.heap H).get? b>o:=λe n=>ZM e n;have Wc:∀{b:cr}{o:Go}{es:Array Do}{ep:Nat},aaa.heap.get? b>o->o.data=.dict es ep->H b=none:=λ{b o es ep} e d=>by
   cases q:H b with
   |none=>rfl
   |some u=>
    have e':=hA b (by rw[q];simp);subst e';rw[ha]at e;cases e;have d':=d;cases d'
  have nsK:∀{b:cr}{m:Aac},aaa.heap.Ns b m->(GX aaa.heap H).Ns b m:=λ{b m} ⟨o,es,ep,e,d,r⟩=>{o,es,ep,Sx e<|Wc e d,d,r};have hKb:=λb o e=>Sx (KX b o e) (by
   cases q:H b with
   |none=>rfl
   |some u=>
    have e':=hA b (by rw[q];simp);subst e';rw[hK (by rw[q];simp)]at e;cases e)
  have hM:Mod K mg (GX aaa.heap H):={hKb,nsK R4,{mb,nsK hb,hbb},by let(mc,h1,h2):=ah5;show{mc,nsK h1,h2}};show ko ((F _ hKb<|nsK R4).run U' [] aaa H {[-a],[]} [-a] [-a] _ _ hr ({9,hM,λb o e=>acb e,jG<|W8 _ _,trivial,λb hb=>absurd (show b∈([]:Aai)from hb) 75,bE,.of_eq hg}) (agE aaa (-a)) (.cons 9 .nil)<|F7 H hO hS) λr s' h=>?_;cases r with
  |error e=>show(hCX H e s' h).elim
  |ok fl=>
   cases fl with
   |next=>show False.elim h
   |brk=>show False.elim h
   |cont=>show False.elim h
   |ret u=>
    let(v,H',os,bare,un,ah0,r',q):=h;have q':=q;subst q';obtain rfl:u=Value.bool true:=r';show{9,OldK.of_keep λb o e=>?_,os,bare};cases q:H b with
    |none=>show un.keep b o e q (by ext z;show absurd (show b∈([]:Aai)from z) 75) 75
    |some u=>
     rcases hO b with z|⟨ob,xs,z⟩;·rw[q]at z;cases z
     have z2:=un.uO b ob _ z;let(e1,__):=bE b _ z;let(e2,__):=ah0 b _ z2;rw[e]at e1;cases e1;show e2
 cases hk:K.lookup a with
 |some o=>
  have e:=KX a o hk;rw[ha]at e;cases e;show core (λ_=>none) (λ_=>.inl 9) (.inr {_,vs.toArray,_,hk,9,9,9,by rw[aR,hi.length];show hl,by simpa using rv}) (λb u z=>by have z':=z;cases z') (λb z=>absurd 9 z) λz=>absurd rfl z
 |none=>
  show core (λb=>if b=a then some (.fR {cls:=.type "list",data:=.seq vs.toArray}<|.lst<|ns.map V.int)else none) (λb=>?_) (.inl<|.inr ⟨{cls:=.type "list",data:=.seq vs.toArray},aL rfl⟩) (λb u z=>?_) (λb z=>?_) λ_=>hk
  ·by_cases hb:b=a;·show .inr {_,_,aL hb}
   show .inl<|az hb
  ·by_cases hb:b=a;·have z':=(aL hb).symm.trans z;cases z';subst hb;show{ha,by rw[ag];show hl,vs,_,rv,ha}
   have z':=(az hb).symm.trans z;cases z'
  by_cases hb:b=a;·show hb
  show absurd (az hb) z
abbrev KOf{K:Frag}{h:ss}(_:K.In h):Frag:=K
def abn{l:PySem.W.OpenLaw}{K:Params->Frag}{CX:mo->JC}{sp:mo->Sp}
  (hn:l.most>n) (LA:n<=dL) (Xb:d.params.defaults=[]) (hr:ir k U')
  (hY:∀(w:mo)(h:ss),YP w h->(K w.params).In h)
  (F:∀(w:mo)(mg:Aac)(fa:cr)(h:ss),(K w.params).In h->h.Ns ww mg->mg d.name>.ref fa->
   ∃fd:ut,(∀(s:fv)(u:jp),TD s fd {[u],[]} [(x,u)])/\
    ∀base:ss,(K w.params).In base->base.Ns ww mg->cm l.prog w (K w.params) mg base (CX w) k fa fd [x] (sp w))
  (F7:∀(w:mo)(H:Hp)(a:cr)(ns:List Int),ns.length<=n->UG H->aT (K w.params) H a (ns.map V.int)->sp w [-a] H (λv _=>v=.bl true) λ_ _ _=>False)
  (hCX:∀(w:mo)(H:Hp)(s:fv)(e:jp)(s':fv),CX w [] H s (λ_ _ _=>False) e s'->False):
  PySem.W.WalkO q loose XP YP l.row.toRowW d [] (λf vs=>PySem.call f vs):=by
 show L3.Qq hn Xb λw aab aaa mg mb fa o pm cd doc a vs ns G Y ho hd AI WZ ZG hints hlen hg=>?_;have KX:=hY w _ Y;let(fd,hb,hF):=F w mg fa _ KX G.T.g WZ;show Zr KX G.T.g G.T.b G.T.builtins G.T.nolimit hg ZG hints (aS hlen LA) hr hF hb (λH hO hS=>F7 w H a ns hlen hO hS) λH e s'=>hCX w H aaa e s'
abbrev dZ:JC:=λ_ _ _ _ _ _=>False
abbrev E0:XK:=λ_ _ _=>False
def Tq:Passes dZ X E0:=λ_ _ _ _ _ _ _ h=>h.elim
structure dh(K:Frag)(x Ev:pi)(st:xz)(f:cr)(fd:ut):Prop where
 ex:∃(oc:jp)(od:Aaj)(kV doc pm:jp)(an:Aaj)(cK ct:jp)(Io:Aae),
  fd=fnOf x Ev (qr st) (mD st) (bo st) .none kV doc pm an cK ct/\K.lookup f>{oc,od,.func fd,Io}/\codeIn K cK Ev=true
 kp:keepIn K (-f)=true
section
variable{P:io}{w:mo}{K:Frag}{mg:Aac}{base:ss}
def dh.ok{st:xz}(F:dh K x Ev st f fd)(S:bL N ps (bo st))
  (Ua:∀(cK:jp)(A:wf)(outer:List Uf)(s:fv)(H:Hp)(vs:Aan)(Q:VK)(E:XK),ir k (A.deeper<|Op Ev (bo st) 35 f cK)->sp vs H Q E->
   ∃t,pU (Ha dZ P w K mg base N Ev (bo st) f cK A outer s H E).nox (mD st) t/\t {nx:=λ_ H'=>Q .cx H',rt:=Q} (start N vs) H) (len:∀vs H Q E,sp vs H Q E->vs.length=ps.length:=by intro _ _ _ _ h;cases h;subst_vars;rfl):cm P w K mg base dZ (k+1) f fd ps sp:=by
 let(oc,od,kV,doc,pm,an,cK,ct,Io,rfl,lk,AI):=F.ex;show aa0 lk AI S len λA outer s H vs Q E hr F7=>?_;let(t,h,q):=Ua cK A outer s H vs Q E hr F7;show{t,h.nox,q}
def dh.binds{st:xz}(F:dh K x Ev st f fd)
  (h:∀(kV doc pm:jp)(an:Aaj)(cK ct:jp)(us:Aaf),us.length=ps.length->Sc (fnOf x Ev (qr st) (mD st) (bo st) .none kV doc pm an cK ct) {us,[]}=pure (ps.zip us)):Binds K fd ps []:=by
 let(oc,od,kV,doc,pm,an,cK,ct,Io,rfl,lk,AI):=F.ex;show .all<|h kV doc pm an cK ct
def afo{st:xz}{kV doc pm cK ct:jp}(l:K.lookup f>{oc,od,.func<|fnOf x Ev (qr st) (mD st) (bo st) .none kV doc pm an cK ct,Io})
  (c:codeIn K cK Ev=true) (k:keepIn K (-f)=true):dh K x Ev st f (fnOf x Ev (qr st) (mD st) (bo st) .none kV doc pm an cK ct):={⟨oc,od,kV,doc,pm,an,cK,ct,Io,rfl,l,c⟩,k}
def oE(hr:ir k A):A.units+1<wS:=gX (Nat.add_le_add_left (by decide:1<=64) _) hr.units
def cw(h:n<=1000):n<dL:=gX h 7
variable{X:Cx}
def pv(i:Nat)(hN:X.N[i]?>x:=by rfl)(hv:Vis X.env.scope x:=by first|exact Or.inl rfl|exact Or.inr (Or.inl rfl)|exact Or.inr (Or.inr rfl))(hd:24=false:=by decide)
  (AI:(x==("__classdict__":pi))=false:=by decide):PE X 71 (adl i):=ad7 hN hv hd AI
def hU{A B:Prop}(h:B):if false=true then A else B:=by show h
def i8{A B:Prop}(h:A):if true=true then A else B:=by show h
def hX{c A B:Prop}[Decidable c](h1:c->A)(h2:¬c->B):if c then A else B:=by
 by_cases h:c;·rw[aL h];show h1 h
 rw[az h];show h2 h
def aI(H H':Hp):Prop:=∀b o,H b>o->H' b>o
def aI.refl(H:Hp):aI H H:=λ_ _ h=>h
def aI.trans(a:aI H H1)(b:aI H1 H2):aI H H2:=λc o h=>b c o<|a c o h
def aI.free(e:aI H H')(h:H' l=Option.none):H l=Option.none:=by
 cases q:H l with
 |none=>rfl
 |some o=>
  rw[e l o q]at h;cases h
end
section
variable{κ:Type}[DecidableEq κ]
def abp{k:κ}{v:V}(h:j0 kvs k>v):k∈kvs.map (·.1):=by
 have q:(kvs.any λkv=>decide (kv.1=k))=true:=by rw[Gw,h];all_goals rfl
 let(p,hp,e):=dP.mp q;show aG.mpr {p,hp,aV e}
end
def Its(z:pi):It:={λi _=>i<z.cps.size,λi H x H'=>H'=H/\∃c,z.cps[i]?>c/\x=.str ⟨#[c]⟩,λi _=>i=z.cps.size}
def KJ(hh:A.handled=none)(I:cr)(x:pi)(t:Tok):
  Walks prog w A I [I] [I] x.cps.size (SignAt x) (λi h=>h.IsStrIter I (strIterType x) x t i):=by
 unfold strIterType;cases x.cps.all (·<128)with
 |true=>show Walks.strAscii hh I x t
 |false=>show Walks.strWide hh I x t
def L5(x:pi):["enumerate","zip","dict_itemiterator","dict_reverseitemiterator","odict_iterator","itertools.zip_longest","itertools.pairwise"].contains (strIterType x)=false:=by
 unfold strIterType;cases x.cps.all (·<128)with
 |true=>decide
 |false=>decide
def Yy{K:Frag}(it:cr)(z:pi)(t:Tok):Turn P w K tg (Its z) [it] it (λi h=>h.IsStrIter it (strIterType z) z t i) where
 mem:=by simp
 obj:=λi h st b hb=>by
  have e:b=it:=by simpa using hb
  subst e;let(o,e,c,d):=st;show{o,e,λv z=>by rw[d]at z;cases z}
 keep:=λi h h' st k=>by let(o,e,r):=st;show{o,k it 75 o e,r}
 item:=by ext X hP hw hK hc i bi s Z H E I hf st hg;subst hP hw hK;let(f0,f1,f2,f3,f4,f5):=hf it 75;show(KJ (prog:=81) (w:=X.w) 46 it z t).item i s _ _ hg st λv h' tk hv mi kk=>?_;let(c,u,xN,rfl):=hv;let(o,e,c1,d1):=id mi;show{_,9,IZ e c1 d1 (L5 z) {.str ⟨#[c]⟩,H,I.turned (λb o hb e=>kk b o (↑hb) e) f0 f1 f3 f4 f5,⟨u,rfl⟩,⟨rfl,c,xN,rfl⟩,mi,λb hb=>(hf b hb).1}}
 done:=by ext X hP hw hK hc i bi s Z H E I hf st hg;subst hP hw hK;let(f0,f1,f2,f3,f4,f5):=hf it 75;have e:=hg;subst e;show(KJ (prog:=81) (w:=X.w) 46 it z t).done s _ _ st λh' tk kk=>{9,I.turned (λb o hb e=>kk b o (↑hb) e) f0 f1 f3 f4 f5}
 self:=λA i s Q E st h=>by
  unfold strIterType at st;cases hx:z.cps.all (·<128)with
  |true=>rw[hx]at st;show wpAny_pyIter_striter_ascii st h
  |false=>rw[hx]at st;show wpAny_pyIter_striter_wide st h
section
variable{X:Cx}{tg:xL}
inductive agw(R:It->Hp->Prop)(x:V)(H1:Hp):Prop
 |mk z (_:x=.str z) (_:R (Its z) H1)
def ahl(tl:TE):TI:=λZ H R=>tl Z H λx H1=>agw R x H1
def ad6(hl:PE X l tl):PI X tg l (ahl tl):=by
 ext bi s Z H R I h;show dk (hl bi s Z H _ I h) λv s1 x H1 I1 r1 q1=>?_;let(z,e,q):=q1;subst e;let(t,rfl):=r1;show wpAny_pyIter_strU ?_;have I2:Inv X bi Z H1 (s1\s1.heap.push {cls:=.type<|strIterType z,data:=.fields #[.str z t,.int 0 0]}):=I1.kept λb o e=>af _ e;show{29,[29],_,Its z,H1,9,I2,Yy 29 z t,{_,43,9,9},23,q};have e:b=29:=by simpa using hb
 subst e;show I1.zL (ao _) 20
def frees(scope:AC):Aag:=(scope.names.filter λp=>p.2==.free).map (·.1)
def m8(scope:AC)(env:Uf):List (pi×cr):=(frees scope).reverse.map λn=>(n,(env.cells.lookup n).getD 0)
theorem Kk(env:Uf):∀(names:List (pi×Ch))(cs:List (pi×cr)),(∀n∈(names.filter λp=>p.2==.free).map (·.1),∃c,env.cells.lookup n>c)->
  (forIn names cs λ(x:pi×Ch)(r:List (pi×cr))=>(if x.2==.free then do let c<-cellOf env x.1;pure (ForInStep.yield<|(x.1,c)::r)else pure (ForInStep.yield r):Sem (ForInStep<|List<|pi×cr)))=
   pure ((((names.filter λp=>p.2==.free).map (·.1)).reverse.map λn=>(n,(env.cells.lookup n).getD 0))++cs)
 |[]=>λcs _=>9
 |(n,k)::r=>λcs h=>by
  rw[zd];cases hk:(k==NameKind.free)with
  |false=>
   have ih:=Kk env r cs (λm hm=>h m (by simpa[bZ,hk]using hm));simp only[hk,gj,i9,bZ,pure_bind];show ih
  |true=>
   let(c,hc):=h n (by simp[bZ,hk]);have h':=λm hm=>h m (by
    simp only[bZ,hk,jM,bI];show aA _ hm)
   have ec:cellOf env n=pure c:=by unfold cellOf;rw[hc]
   simp only[hk,jM,bZ,bI,List.reverse_cons,ba,Er,jj,kD,iB,ec,pure_bind,hc,Option.getD_some];show(Kk env r ((n,c)::cs) h')
def Jp(h:∀n∈frees scope,∃c,env.cells.lookup n>c):closureFor scope env=pure (m8 scope env):=by have e:=Kk env scope.names [] h;rw[cy]at e;have q:closureFor scope env=((forIn scope.names ([]:List (pi×cr)) λ(x:pi×Ch)(r:List (pi×cr))=>(if x.2==.free then do let c<-cellOf env x.1;pure (ForInStep.yield<|(x.1,c)::r)else pure (ForInStep.yield r):Sem (ForInStep<|List<|pi×cr)))>>=λr=>pure r):=9;rw[q,bind_pure];show e
theorem DA{β:Type}(g:pi->β)(y:pi):∀l:Aag,(l.map λn=>(n,g n)).lookup y=if y∈l then some (g y)else none
 |[]=>by simp
 |n::r=>by
  rw[bI,jy];cases e:(y==n)with
  |true=>
   have e':=eU e;subst e';simp
  |false=>
   have e':y≠n:=λq=>by rw[q]at e;simp at e
   rw[(DA g y r)];simp[e']
def jB(h:∀n∈frees scope,∃c,env.cells.lookup n>c):(m8 scope env).lookup y>c↔y∈frees scope/\env.cells.lookup y>c:=by
 unfold m8;rw[DA (λn=>(env.cells.lookup n).getD 0)];by_cases hy:y∈frees scope;·let(d,hd):=h y hy;rw[aL<|List.mem_reverse.mpr hy,hd];simp[hy]
 rw[az λq=>hy<|List.mem_reverse.mp q];simp[hy]
theorem DB(f:pi->Ch->Ch)(y:pi):∀names:List (pi×Ch),(names.map λp=>(p.1,f p.1 p.2)).lookup y=(names.lookup y).map (f y)
 |[]=>rfl
 |(n,k)::r=>by
  rw[bI,jy,jy];cases e:(y==n)with
  |true=>
   have e':=eU e;subst e';rfl
  |false=>show(DB f y r)
def mw(scope:AC)(env:Uf)(y:pi):(No scope env).names.lookup y=(scope.names.lookup y).map λk=>if(k==.free&&env.scope.kind==.function&&env.kindOf y==some .cell)=true then NameKind.cell else k:=by
 have e:(No scope env).names=scope.names.map λp=>(p.1,(λ(n:pi)(k:Ch)=>if(k==.free&&env.scope.kind==.function&&env.kindOf n==some .cell)=true then NameKind.cell else k) p.1 p.2):=by show gA λp _=>?_;let(n,k):=p;change(if(k==.free&&env.scope.kind==.function&&env.kindOf n==some .cell)=true then(n,NameKind.cell)else(n,k))=_;split<;>simp_all
 rw[e];show DB (λ(n:pi)(k:Ch)=>if(k==.free&&env.scope.kind==.function&&env.kindOf n==some .cell)=true then NameKind.cell else k) y scope.names
end
structure rD(X:Cx)(scope:AC)(x:pi)(fs:Aag)(fr:List Nat):Prop where
 kind:scope.kind=.function
 loc:scope.names.lookup x>.local
 names:∀y∈scope.names,y.2=.local->scope.names.lookup y.1>.local
 Wa:∀y∈scope.names,y.2≠ .cell
 free:∀n∈frees scope,X.env.kindOf n>.cell/\scope.names.lookup n>.free
 nd:(x::fs).Nodup
 len:fr.length=fs.length
 slots:∀(j:Nat)(y:pi)(k:Nat),fs[j]?>y->fr[j]?>k->X.N[k]?>y/\y∈frees scope
abbrev gk(X:Cx)(N':Aag)(scope:AC)(C:cr)(s:fv)(H:Hp)(ex:Aai):Cx:=
 {X with N:=N',aab:=s,aaf:=H,env:=compEnvC scope (m8 scope X.env) C X.env,outer:=X.stack,stack:=X.stack,ex:=ex,fn:=λ_=>false,pn:=[],xe:=λ_ _=>False}
def CT(X:Cx)(ifs:List xL)(tt:TT):Prop:=
 ∀(bi:Aab)(s:fv)(Z:St)(H:Hp)(Q:Bool->Hp->Prop),Inv X bi Z H s->tt Z H Q->
  f8 82 X.A (forIn ifs true λc r=>if r=true then do let ok<-isTrue c X.env (wT c X.env);pure (ForInStep.yield ok)else pure (ForInStep.yield r)) (TP X bi Z Q) X.xe s
def EO:TT:=λ_ H Q=>Q true H
def Jk:CT X [] EO:=λ_ _ _ H _ I h=>wpAny_tests_nil ⟨H,I,h⟩
def D6(h:PT X c tc):CT X [c] tc:=λbi s Z H Q I hq=>wpAny_tests_one<|h bi s Z H Q I hq
def slotsOf(fr:List Nat)(Z:St):St:=fr.map λk=>(Z[k]?).getD none
def sP(wi:TI)(fr:List Nat)(tt:TT)(te:TE):TE:=λZ H Q=>wi Z H λJ H1=>∃W:Nat->Nat->Aan->Hp->Prop,(∃m,W 0 m [] H1)/\∀i m ys H2,W i m ys H2->
 (J.stop i H2/\91<=dL/\∀l,H2 l=none->Q (-l) (upd H2 l<|.lst ys))\/
 (J.go i H2/\91<dL/\∀v H3,J.Fx i H2 v H3->tt (some v::slotsOf fr Z) H3 λb H4=>
  if b=true then te (some v::slotsOf fr Z) H4 (λy H5=>∃m',m'<m/\W (i+1) m' (ys++[y]) H5)else∃m',m'<m/\W (i+1) m' ys H4)
section
variable{X:Cx}
def va{h h':ss}(k:∀b o,h.get? b>o->h'.get? b>o)(z:h.IsCell c v):h'.IsCell c v:=by let(o,e,d):=z;show{o,k _ _ e,d}
def Inv.Jt{bi:Aab}{Z:St}{H:Hp}{s:fv}(I:Inv X bi Z H s)(hn:H D=none)(new:da 81 X.w (upd H D o) s.heap D o)
  (h1:33<=D) (hL:D≠92) (h2:∀x c,X.env.cells.lookup x>c->c≠D) (h3:∀p∈X.pn++bi,p.1≠D):Inv X bi Z (upd H D o) s:=by
 have nD:∀b u,H b>u->b≠D:=λb u q z=>by rw[z,hn]at q;cases q
 have bE:kK 81 X.w (upd H D o) s.heap:=λb u q=>by
  by_cases hb:b=D;·subst hb;rw[au]at q;cases q;show new
  rw[aC hb]at q;show(I.bE b u q).j3 (λ_ _ _ z=>z) (λc z=>by rw[aC<|nD c _ z];show z) λc xs z=>by rw[aC<|nD c _ z];show z
 have J:=I.step (H':=upd H D o) (h':=s.heap) (g':=s.gens) (t':=89) (d':=s.drawn) (ch:=[D])
  (λb hb=>by
   have e':b=D:=by simpa using hb
   subst e';show{.inr h1,hL,h2,h3})
  (λb o _ _ _ q _=>q) (λb o _ _ _ q _=>{o.slots,q}) (λb o hc _ n=>by rw[aC λz=>hc (by simp[z])];show n) (λb o _ q=>⟨o,q⟩)
  (λb xs q=>by rw[aC<|nD b _ q];show q) (λb o u q=>by rw[aC<|nD b _ q];show q) (λb ps q=>{#[],by rw[aC<|nD b _ q,q];simp}) (λm hm=>hm) bE I.bare
 show J
def Inv.adopt(I:Inv X bi Z H s)(hn:H D=none)(e:s.heap.get? D>{cls:=.type "list",data:=.seq vs.toArray k})(r:Vals ys vs)(hz:91<=dL)
  (h1:33<=D) (hL:D≠92) (h2:∀x c,X.env.cells.lookup x>c->c≠D) (h3:∀p∈X.pn++bi,p.1≠D):Inv X bi Z (upd H D<|.lst ys) s:=I.Jt hn ⟨hz,vs,k,r,e⟩ h1 hL h2 h3
def acW(S:rD X scope x fs fr)(I2:Inv X bi Z H s2)(I3:Inv X bi Z H s)
  (hD:D=97) (hs:35=D+1) (b6:∀b∈fp,b<D) (f2:∀b∈fp,oo X bi H b):(gk X (x::fs) scope 35 s H<|D::fp).Ok:=by
 have oH:=λn hn=>I3.ok.has n<|.inl (S.free n hn).1;have sub:∀{y:pi}{c:cr},(m8 scope X.env).lookup y>c->X.env.cells.lookup y>c:=λh=>((jB oH).mp h).2;show{I3.ok.mod,S.kind,I3.ok.glob,I3.ok.blt,ao _,λa b c h1 h2=>I3.ok.inj a b c (sub h1)<|sub h2,λy hy=>?_,(λ_ _ h=>by cases h),I3.ok.hd,I3.ok.frames,.inl rfl,23,I3.bs,aS I3.ok.y9 I3.sz,λb o e hb=>?_,λb hb hf=>?_,I3.stack,I3.ES}
 ·have q:(No scope X.env).names.lookup y>.cell\/(No scope X.env).names.lookup y>.free:=hy;have nf:scope.names.lookup y>.free:=by
   rw[mw]at q;cases e:scope.names.lookup y with
   |none=>rw[e]at q;simp at q
   |some k=>
    rw[e]at q;cases k with
    |free=>rfl
    |cell=>
     have hm:(y,NameKind.cell)∈scope.names:=by have:=kN.mp e;let(l1,l2,z,__):=this;rw[z];simp
     show absurd rfl (S.Wa _ hm)
    |_=>simp at q
  have hm:y∈frees scope:=by let(l1,l2,z,__):=kN.mp nf;unfold frees;rw[z];simp
  let(c,hc):=oH y hm;show{c,(jB oH).mpr ⟨hm,hc⟩}
 ·rcases aJ.mp hb with rfl|hb
  ·show{λz=>?_,λy c h z=>?_};·show absurd (hs.symm.trans z.symm:b+1=b) (rR b)
   let(v,q):=I2.cell y c<|sub h;have:=q.lt;rw[z,hD]at this;show absurd this<|cJ _
  show{λz=>?_,λy c h=>(f2 b hb).2.2.2.2.1 y c<|sub h};have q:=b7<|b6 b hb;rw[z]at q;show absurd q (by change ¬35<D+1;rw[hs];show cJ _)
 ·have gf:=aE e;have h1:=I2.ok.y9;rcases aJ.mp hb with rfl|hb;·rw[hD]at gf;show absurd (aX gf<|aS h1 I2.sz) (cJ _)
  rcases(f2 b hb).2.2.2.1 with z|z;·show I2.ok.Bm b o e z
  show absurd (aX gf<|aS h1 z)<|cJ _
 have hf':=hf;rcases aJ.mp (I2.Hw b hf')with z|z
 ·rcases aJ.mp hb with rfl|hb;·have:=I2.lt;rw[<-z,hD]at this;show absurd this (cJ _)
  show(f2 b hb).2.1 z
 rcases aJ.mp hb with rfl|hb;·show I2.Zj (jG hD.symm) z
 show(f2 b hb).2.2.1 z
def aaj(S:rD X scope x fs fr)(I3:Inv X bi Z H s)
  (ok:(gk X (x::fs) scope 35 s H ex).Ok) (hn:h4.Ns 35 m) (old:∀b o,s.heap.get? b>o->h4.get? b>o):
  Inv (gk X (x::fs) scope 35 s H ex) [] (none::slotsOf fr Z) H (s\(h4,t)):=by
 have oH:=λn hn=>I3.ok.has n<|.inl (S.free n hn).1;have sub:∀{y:pi}{c:cr},(m8 scope X.env).lookup y>c->X.env.cells.lookup y>c:=λh=>((jB oH).mp h).2;show{ok,9,I3.bare,Un.kept old,{m,hn,λi y v e1 e2 e3=>?_},λy c h=>?_,I3.bE.fresh<|ao _,λy c h=>I3.jO y c<|sub h,λp hp=>absurd hp 75,I3.bE.kept old,?_}
 ·cases i with
  |zero=>
   have sj:(none:Aao)>v:=by simpa using e2
   cases sj
  |succ j=>
   have sj:(slotsOf fr Z)[j]?>some v:=by simpa using e2
   unfold slotsOf at sj;rw[aN]at sj;cases hk:fr[j]? with
   |none=>rw[hk]at sj;cases sj
   |some k=>
    rw[hk]at sj;have e4:(Z[k]?).getD none>v:=by simpa using sj
    have e5:Z[k]?>some v:=by
     cases q:Z[k]? with
     |none=>rw[q]at e4;cases e4
     |some z=>rw[q]at e4;show c8 some e4
    let(n1,n2):=S.slots j y k (↑e1) hk;let(m0,__,hl):=I3.loc;let(u,ru,l):=hl k y v n1 e5<|.inr<|.inl (S.free y n2).1;have kc:=(S.free y n2).1;rcases l with⟨l,_⟩|⟨_,c,hc,cl⟩;·rw[kc]at l;cases l
    show{u,ru,.inr {.inl ?_,c,(jB oH).mpr ⟨n2,hc⟩,va old cl}};change(No scope X.env).names.lookup y>.cell;rw[mw,(S.free y n2).2,I3.ok.kind,kc];rfl
 ·let(v,z):=I3.cell y c<|sub h;show{v,va old z}
 change(none::slotsOf fr Z).length=(x::fs).length;simp[slotsOf,S.len]
abbrev lobj(vs:Aaf)(k:Nat):Go:={cls:=.type "list",data:=.seq vs.toArray k}
theorem QH:∀(xs:Aan)(us:Aaf),55=us.length->(∀(j:Nat)(x:V)(u:jp),xs[j]?>x->us[j]?>u->RelV x u)->Vals xs us
 |[],[]=>λ_ _=>.nil
 |[],_::_=>λh _=>by cases h
 |_::_,[]=>λh _=>by cases h
 |x::xs,u::us=>λh f=>.cons (f 0 x u 9 9) (QH xs us (↑h) λj a b e1 e2=>f (j+1) a b (↑e1)<|↑e2)
def uF(h:Bt k v=true):RelV (kV k) v:=by
 rcases i3 h with⟨i,t,rfl,rfl⟩|⟨x,t,rfl,rfl⟩;·show⟨t,rfl⟩
 show⟨t,rfl⟩
def range_all(bs:List Bool):((List.range bs.length).all λi=>(bs[i]?).getD true)=bs.all id:=by
 rw[dO,b9,b9];constructor;·ext h b hb;let(i,hi):=eF.mp hb;have:=h i<|bO.mpr (ar.mp hi).1;rw[hi]at this;show this
 ext h i hi;have b6:=bO.mp hi;rw[aq b6];show h _<|jz b6
def Kn(hc:X.calm=true):fB X (.type "list") (λxs H Q=>∃a kvs,xs=[-a]/\H a>.dK kvs/\∀l,H l=none->Q (-l) (upd H l<|.lst (kvs.map λkv=>kV kv.1))):=by
 ext bi s Z H xs us Q I r h;let(a,kvs,rfl,ha,q):=h;let(u,rfl,ru):=iw r;cases ru;let(hz,lo,vs,rel,o,es,ep,m):=yX I.bE ha;have hl:=rel.length;show PySem.W.kdl_call (PySem.W.kdl_dict lo) 46 (⟨o,es,m⟩) (hl▸hz) λh' tk vT c' kp e it=>?_;have rv:Vals (kvs.map λkv=>kV kv.1) vT.toList:=by
  show QH _ _ (by simp[it.1,hl]) λj x v e1 e2=>?_;let(k,y,e3,e4):=it.2 j v (by rw[<-cv];show e2);have e5:(kvs.map (·.1))[j]?>k:=by rw[rel.keys,aN,e3];rfl
  rw[aN]at e1 e5;cases e6:kvs[j]? with
  |none=>rw[e6]at e1;cases e1
  |some p=>
   rw[e6]at e1 e5;obtain rfl:kV p.1=x:=bR e1;obtain rfl:p.1=k:=bR e5;show uF e4
 show{.ref 35,_,I.laid kp (ao _) (show da 81 X.w _ h' _ (.lst _)from{by rw[ag];show hz,vT.toList,c',rv,by simpa using e}),9,q _ I.fresh}
def uS(hc:X.calm=true):fB X (.builtin "all") (λxs H Q=>∃(a:cr)(bs:List Bool),xs=[-a]/\aT X.K H a (bs.map V.bl)/\Q (.bl<|bs.all id) H):=by
 ext bi s Z H xs us Q I r h;let(a,bs,rfl,ha,q):=h;let(u,rfl,ru):=iw r;cases ru;let(aK,rv,p,hz):=I.list ha;have hl:aK.length=bs.length:=by have:=rv.length;simpa using this.symm
 have jl:a≠35:=by let(o,n,e,__):=id p;show aD<|aE e
 show call_all_walk<|jX p.isList ?_;show{35,_,_,aK.toArray.size,_,_,λi=>(bs[i]?).getD true,9,Jv (show X.A.in1.handled=none from I.ok.hd hc) 35 a jl aK.toArray,{{_,43,9,9},p.isList.at λo e=>af _ e},?_,λh' tk kp=>?_}
 ·ext i v s' Q' E' hP hQ;have Xl:aK[i]?>v:=by simpa using hP
  have hi:i<bs.length:=by rw[<-hl];show(ar.mp Xl).1
  let(u,hu,ru):=rv.get (by rw[aN,aq hi];rfl);rw[Xl]at hu;cases hu;cases ru;show fW ?_;have e2:(bs[i]?).getD true=bs[i]:=by rw[aq hi];rfl
  rw[<-e2];show hQ
 show{.bl<|bs.all id,H,I.kept λb o e=>kp b o (↑(aD<|aE e))<|af _ e,?_,q};change Value.bool _=Value.bool _;rw[aR,hl,range_all]
def kj:fB X 102 (λxs H Q=>∃x n t b,xs=[x,.ty n]/\qO X.K H x t/\kitOne X.K t (.type n)>b/\Q (.bl b) H):=by ext bi s Z H xs us Q I r h;let(x,n,t,b,rfl,ty,e,q):=h;let(u,w',rfl,ru,kT):=u0 r;cases kT;show WK I ru ty e λtk=>{.bl b,H,I.tok tk,9,q}
inductive abN(x:V)(vs:Aan)(H:Hp)(Q:VK):Prop
 |mk a b (_:x=.str a) (_:vs=[.str b]) (_:Q (.bl<|Txt.startswith a b) H)
def Mh:SE X "str.startswith" abN:=by ext bi s Z H x vs v us Q I rx rv h;let(a,b,rfl,rfl,q):=h;let(t,rfl):=rx;let(u,rfl,ru):=rv.one;let(t',rfl):=ru;show call_gives F.slot_str_startswith (sO s a t) F.entry_str_startswith (F.args_str_startswith_2 _ _) (gives_str_startswith a b t t') {.bl _,H,I,9,q}
inductive ag9(x:V)(lo:Option Int)(hi:Option Int)(H:Hp)(Q:VK):Prop
 |mk z (_:x=.str z) (_:z.length<=dL) (_:Q (.str<|Txt.slice z lo hi) H)
def Vp:SlR X ag9:=by
 ext bi s Z H x v vl vu lo hi sl Q I rx hs pl pu h;let(z,rfl,hz,q):=h;let(t,rfl):=rx;cases pl with
 |none=>
  cases pu with
  |none=>show{"str",_,F.slot_str_getitem.lookup,sO _ _ _,kL (l:=none) (u:=none) (st:=none) hs rfl 126}
  |int j tj=>show{"str",_,F.slot_str_getitem.lookup,sO _ _ _,kL (l:=none) (u:=some (j,tj)) (st:=none) hs rfl 126}
 |int i ti=>
  cases pu with
  |none=>show{"str",_,F.slot_str_getitem.lookup,sO _ _ _,kL (l:=some (i,ti)) (u:=none) (st:=none) hs rfl 126}
  |int j tj=>show{"str",_,F.slot_str_getitem.lookup,sO _ _ _,kL (l:=some (i,ti)) (u:=some (j,tj)) (st:=none) hs rfl 126}
def agR(_i j:Int):Prop:=0<j/\j.natAbs.log2<9000
def GO:je X (Fk .FloorDiv) (rI agR λi j=>.int<|i/j):=opI λi j _ _ _ _ _ hc q=>by have h1:=hc.1;show floordiv_int ∅ (by rw[Int.fdiv_eq_ediv_of_nonneg i ∅];show q) (.inl<|PyProof.noPylong_of_log2 hc.2)
mutual
def Dt(K:Frag)(H:Hp):PyData->V->Prop
 | .none,x=>x=.cx
 | .bool b,x=>x=.bl b
 | .int i,x=>x=.int i
 | .str z,x=>x=.str z
 | .list ds,x=>∃a xs,x=-a/\aT K H a xs/\BQ K H ds xs
 | .tuple ds,x=>∃a xs,x=-a/\aZ K H a xs/\BQ K H ds xs
 | .dict _,_=>False
def BQ(K:Frag)(H:Hp):List PyData->Aan->Prop
 |[],xs=>xs=[]
 |d::ds,xs=>∃x r,xs=x::r/\Dt K H d x/\BQ K H ds r
end
mutual
theorem uG(I:Inv X bi Z H s):∀(d:PyData)(x:V)(v:jp),Dt X.K H d x->RelV x v->∃as,Reads s.heap v d as
 | .none=>λx v h r=>by rw[Dt]at h;subst h;cases r;show{_,.none}
 | .bool b=>λx v h r=>by rw[Dt]at h;subst h;cases r;show{_,.bool b}
 | .int i=>λx v h r=>by rw[Dt]at h;subst h;let(t,rfl):=r;show{_,.int i t}
 | .str z=>λx v h r=>by rw[Dt]at h;subst h;let(t,rfl):=r;show{_,.str z t}
 | .list ds=>λx v h r=>by rw[Dt]at h;let(a,xs,rfl,hq,ha):=h;cases r;obtain⟨aK,rv,⟨o,n,e,c,_,d⟩,_⟩:=I.list hq;let(as,ra):=zF I ds xs aK ha rv;show{_,.list e c d<|↑ra}
 | .tuple ds=>λx v h r=>by rw[Dt]at h;let(a,xs,rfl,hq,ha):=h;cases r;obtain⟨aK,rv,⟨o,e,c,n,d⟩,_⟩:=I.tuple hq;let(as,ra):=zF I ds xs aK ha rv;show{_,.tuple e c d<|↑ra}
 | .dict _=>λx v h r=>by rw[Dt]at h;show h.elim
theorem zF(I:Inv X bi Z H s):∀(ds:List PyData)(xs:Aan)(vs:Aaf),BQ X.K H ds xs->Vals xs vs->∃as,ReadsAll s.heap vs ds as
 |[]=>λxs vs h r=>by rw[BQ]at h;subst h;cases r;show{_,.nil}
 |d::ds=>λxs vs h r=>by
  rw[BQ]at h;let(x,r',rfl,h1,h2):=h;cases r with
  |cons r1 r2=>
   let(as,q1):=uG I d x _ h1 r1;let(bs,q2):=zF I ds r' _ h2 r2;show{_,.cons q1 q2}
end
inductive adY(K:Frag)(neg:Bool)(x:V)(y:V)(H:Hp)(Q:VK):Prop
 |mk d e (_:Dt K H d x) (_:Dt K H e y) (_:SeqAt.shaped d=true) (_:SeqAt.shaped e=true) (_:Q (.bl (if neg then !PyData.eqv d e else PyData.eqv d e)) H)
def VW(hu:X.A.units+64<wS):je X (wv .Eq) (adY X.K false):=by ext bi s Z H x y v u Q I rx ry h;let(d,e,h1,h2,h3,h4,q):=h;let(as,r1):=uG I d x v h1 rx;let(bs,r2):=uG I e y u h2 ry;show eq_dataH r1 r2 h3 h4 hu {.bl _,H,I,9,q}
def Uy(osc:AC)(N:Aag)(scope:AC)(x:pi)(fs:Aag)(fr:List Nat):Bool:=
 scope.kind==.function&&scope.names.lookup x==some .local&&scope.names.all (λy=>!(y.2==.local)||scope.names.lookup y.1==some .local)&&scope.names.all (λy=>!(y.2==.cell))&&
  (frees scope).all (λn=>osc.names.lookup n==some .cell&&scope.names.lookup n==some .free)&&decide ((x::fs).Nodup)&&fr.length==fs.length&&
  (List.range fs.length).all (λj=>match fs[j]?,fr[j]? with|some y,some k=>N[k]?==some y&&decide (y∈frees scope)|_,_=>false)
end
def cA(h:Uy X.env.scope X.N scope x fs fr=true:=by kernel_rfl):rD X scope x fs fr:=by
 unfold Uy at h;simp only[cn]at h;obtain⟨⟨⟨⟨⟨⟨⟨h1,h2⟩,h3⟩,h4⟩,h5⟩,h6⟩,h7⟩,h8⟩:=h;show{eU h1,eU h2,λy hy e=>?_,λy hy e=>?_,λn hn=>?_,aV h6,eU h7,λj y k e1 e2=>?_};·have:=b9.mp h3 y hy;rw[e]at this;simpa using this
 ·have:=b9.mp h4 y hy;rw[e]at this;simp at this
 ·have:=b9.mp h5 n hn;rw[cn]at this;show{eU this.1,eU this.2}
 have:=b9.mp h8 j<|bO.mpr (ar.mp e1).1;rw[e1,e2]at this;simp only[cn]at this;show{eU this.1,aV this.2}
def bY(P:io)(w:mo)(K:Frag)(mg:Aac)(base:ss)(k:Nat)(x:pi)(ps:Aag)(sp:Sp):Prop:=
 ∃f fd,cm P w K mg base dZ k f fd ps sp/\mg x>-f/\keepIn K (-f)=true/\Binds K fd ps []
def cl(D:bY 81 X.w X.K X.mg X.base k x ps sp)(hr:ir j X.A)(ha:PA X (e::es) t)(hk:k<=j:=by decide)(hg:Gl X x:=by rfl)
  (vE:24=false:=by decide) (he:re (e::es) X.env=(false,wT e X.env)::re es X.env:=by rfl) (ie:(Db pos 69).any (·.1)=false:=by rfl):
  PE X 72 (SX sp [] E0 t):=by
 let(f,fd,F,m,kp,b):=D;show Ru F (hr.mono hk) hg m kp b .nil Tq ha vE he ie
def IH(l:cr)(items:Aak)(n:Nat)(b:cr)(dd:Aaj)(sl:Aae)(DH:Aak)(n2:Nat)(hs0:¬(!items.isEmpty&&Builtin.List.listTooLong (items.size+DH.size))=true)(vD:items.size<=dL)(k7:items.size+DH.size<=dL+1):
  Meets (Builtin.«list.extend» {[-l,-b],[]}) (λ_ R s=>s.heap.get? l>{cls:=.type "list",dict:=none,data:=.seq items n,slots:=#[]}/\s.heap.get? b>{cls:=.type "tuple",dict:=dd,data:=.seq DH n2,slots:=sl}/\R (.ok<|.ret Value.none) (s\(s.heap.update l (Obj.mapSeq λx=>x++DH),89))):=
 .of_wp λprog w A R s h=>by
  let(hp,g,d,tk,os):=s;let(hl,hb,h):=h
  wp_walk using(jJ hl 9 (_hz':=(by rw[Array.size_append];show k7))),wpAny_loadPart' hl,wpAny_loadPart' hb
  show⟨_,rfl,h⟩
section
variable{X:Cx}
inductive YW(K:Frag)(x:V)(vs:Aan)(H:Hp)(Q:VK):Prop
 |mk l b xs zs (_:x=-l) (_:vs=[-b]) (_:H l>.lst xs) (_:aZ K H b zs) (_:xs.length+zs.length<=dL) (_:Q .cx (upd H l<|.lst<|xs++zs))
def TM:Pz X "list.extend" (YW X.K):=by
 ext bi s Z H x vs v us Q I rx rv h;let(l,b,xs,zs,rfl,rfl,hH,hB,hz,q):=h;cases rx;let(u,rfl,ru):=rv.one;cases ru;let(z,aK,n,r,hl,e):=I.Bs hH;obtain⟨uN,r2,⟨⟨cls,dd,data,sl⟩,e2,tK,n2,hd2⟩,z2⟩:=I.tuple hB;simp only at tK hd2;subst tK hd2;have iz:=r2.length;have hsz:aK.toArray.size+uN.toArray.size<=dL:=by rw[aR,aR];lia
 have T7:¬(!aK.toArray.isEmpty&&Builtin.List.listTooLong (aK.toArray.size+uN.toArray.size))=true:=by rw[N6 hsz,AY];show bJ
 show m9 EC ⟨_,e,rfl⟩ CC (BN _ _)
  (IH l aK.toArray n b dd sl uN.toArray n2 T7 (by rw[aR];lia) ∅) {e,e2,?_}
 show{.cx,_,I.Od hH e 75 (r.append r2) ?_,9,q};rw[aU];lia
end
def GL(hg:Gl X x)(hm:∃t,X.mg x>.int i t)(hd:24=false:=by decide):PE X 71 (tC<|.int i):=by let(t,hm):=hm;show JV hg hm ⟨t,rfl⟩ hd
def Y2(hg:Gl X x)(hm:∃t,X.mg x>.str z t)(hd:24=false:=by decide):PE X 71 (tC<|.str z):=by let(t,hm):=hm;show JV hg hm ⟨t,rfl⟩ hd
section
variable{X:Cx}{K:Frag}
def GV(h:X.K=K:=by rfl):SF X (YU K):=h▸hJ
def iC(h:X.K=K:=by rfl):SF X (YT K):=h▸dv
def Ec(h:X.K=K:=by rfl):fB X (.builtin "len") (λxs H Q=>∃x n,xs=[x]/\UH K x H n/\Q (.int n) H):=h▸cW
def Bj(h:X.K=K:=by rfl):je X (wv .In) (rIn K false):=h▸VT
def rF(h:X.K=K:=by rfl):je X (wv .NotIn) (rIn K true):=h▸xu
def fD{A B:Hp->Prop}(h:A H):EO Z H (λb H4=>if b=true then A H4 else B H4):=by change(if true=true then A H else B H);show h
end
end L2
namespace HT
open PySem PySem.Spec PyProof.Rows
section
variable{prog:io}{w:mo}{A:wf}{E:Aad}{s:fv}
def aak(ht:XV s.heap t vs.toArray)(hb:XV s.heap b ws.toArray)(h0:vs=[]->Q (-b) s)
  (h1:vs≠[]->ws=[]->Q (-t) s) (h2:vs≠[]->ws≠[]->Q (.ref 35) (s\s.heap.push {cls:=.type "tuple",data:=.seq (vs++ws).toArray}))
  (hsz:vs.length+ws.length<=dL):f8 77 A (Fk .Add (-t) (-b)) Q E s:=by
 by_cases hv:vs=[]
 ·obtain⟨⟨cls,dd,data,sl⟩,ho,hc,n,hd⟩:=id ht;obtain⟨⟨aiw,Su,data2,sl2⟩,wc,tK,n2,hd2⟩:=id hb;simp only at hc hd tK hd2;subst hc hd tK hd2;show D7 ⟨_,ho,rfl⟩ ⟨_,wc,rfl⟩ xx B1 rn qF (pR _ _)
   (tuple_addW0 t b vs.toArray ws.toArray n n2 dd Su sl sl2 (by simp[hv])) {ho,wc,h0 hv}
 show acX ht hb hv (h1 hv) (h2 hv) hsz
end
end HT
namespace L2
open PySem PySem.Spec PyProof.Rows
section
variable{X:Cx}
inductive aaN(K:Frag)(x:V)(y:V)(H:Hp)(Q:VK):Prop
 |mk a b xs ys (_:x=-a) (_:y=-b) (_:aZ K H a xs) (_:aZ K H b ys) (_:xs.length+ys.length<=dL) (_:(xs=[]->Q (-b) H)) (_:(xs≠[]->ys=[]->Q (-a) H)) (_:(xs≠[]->ys≠[]->∀p,H p=none->Q (-p) (upd H p<|.tup<|xs++ys)))
def ab5:je X (Fk .Add) (aaN X.K):=by ext bi s Z H x y v u Q I rx ry h;let(a,b,xs,ys,rfl,rfl,ha,hb,hz,q0,q1,q2):=h;cases rx;cases ry;let(aK,r1,p1,__):=I.tuple ha;let(uN,r2,p2,__):=I.tuple hb;show HT.aak p1 p2 (λz=>{-b,H,I,9,q0<|r1.Aw.mp z}) (λn z=>{-a,H,I,9,q1 (λz=>n<|r1.Aw.mpr z)<|r2.Aw.mp z}) (λn z=>?_) (by rw[<-r1.length,<-r2.length];show hz);show{.ref 35,_,I.laid (λb ob q=>af _ q) (ao _) ?_,9,q2 (λz=>n<|r1.Aw.mpr z) (λw=>z<|r2.Aw.mpr w) _ 57};show{aU▸hz,_,r1.append r2,IsTup.new _ _,_,43,9}
inductive adV(K:Frag)(neg:Bool)(x:V)(y:V)(H:Hp)(Q:VK):Prop
 |mk a b xs (_:x=-a) (_:y=-b) (_:aT K H a xs) (_:aT K H b []) (_:Q (.bl (if neg then !xs.isEmpty else xs.isEmpty)) H)
def VU(hu:X.A.units<wS):je X (wv .Eq) (adV X.K false):=by
 ext bi s Z H x y v u Q I rx ry h;let(a,b,xs,rfl,rfl,ha,hb,q):=h;cases rx;cases ry;let(aK,r1,p1,__):=I.list ha;let(uN,r2,p2,__):=I.list hb;cases r2;cases xs with
 |nil=>
  cases r1;show SeqAt.eq_listAt (e:=λ_=>true) p1.isList p2.isList rfl hu (λj h1 _=>absurd h1<|eE _) {.bl true,H,I,9,q}
 |cons c l=>
  cases r1 with
  |cons r0 r1=>show SeqAt.eq_list_lengthsAt p1.isList p2.isList 75 hu {.bl false,H,I,9,q}
def NP(hu:X.A.units<wS):je X (wv .NotEq) (adV X.K true):=by
 ext bi s Z H x y v u Q I rx ry h;let(a,b,xs,rfl,rfl,ha,hb,q):=h;cases rx;cases ry;let(aK,r1,p1,__):=I.list ha;let(uN,r2,p2,__):=I.list hb;cases r2;cases xs with
 |nil=>
  cases r1;show SeqAt.RcNeAt.lists (e:=λ_=>true) p1.isList p2.isList rfl hu (λj h1 _=>absurd h1<|eE _) 81 X.w X.xe _ {.bl false,H,I,9,q}
 |cons c l=>
  cases r1 with
  |cons r0 r1=>show SeqAt.RcNeAt.lists_lengths p1.isList p2.isList 75 hu X.prog X.w X.xe _ {.bl true,H,I,9,q}
variable{K:Frag}{a:cr}{xs:Aan}{fr:List Nat}{tt:TT}{te:TE}{Z:St}{H1:Hp}{R:cr->Aan->Hp->Prop}
abbrev BV(J:It)(fr:List Nat)(tt:TT)(te:TE)(Z:St)(H1:Hp)(R:cr->Aan->Hp->Prop):Prop:=
 ∃W:Nat->Nat->Aan->Hp->Prop,(∃m,W 0 m [] H1)/\∀i m ys H2,W i m ys H2->
 (J.stop i H2/\91<=dL/\∀l,H2 l=none->R l ys H2)\/
 (J.go i H2/\91<dL/\∀v H3,J.Fx i H2 v H3->tt (some v::slotsOf fr Z) H3 λb H4=>
  if b=true then te (some v::slotsOf fr Z) H4 (λy H5=>∃m',m'<m/\W (i+1) m' (ys++[y]) H5)else∃m',m'<m/\W (i+1) m' ys H4)
def uR(Pv:Nat->Aan->Hp->Prop)(hx:55<dL)(h0:Pv 0 [] H1)(hl:∀i ys H,i<=55->Pv i ys H->aZ K H a xs/\91<=i)
  (hs:∀(i:Nat)(x:V)(ys:Aan)(H:Hp)(N:Aan->Hp->Prop),xs[i]?>x->Pv i ys H->(∀gL H',Pv (i+1) gL H'->N gL H')->
   tt (some x::slotsOf fr Z) H λb H4=>if b=true then te (some x::slotsOf fr Z) H4 103 else N ys H4)
  (hd:∀ys H,Pv 55 ys H->∀l,H l=none->R l ys H):BV (Yh K a) fr tt te Z H1 R:=by
 show{λi m ys H=>m=55 -i/\i<=55/\Pv i ys H,{55,75,aF _,h0},?_};ext i m ys H ⟨rfl,hi,p⟩;let(q,hy):=hl i ys H hi p;by_cases b6:i<55;·show .inr {{xs,_,q,aq b6},8,?_};ext v H3 ⟨rfl,hv⟩;show hs i v ys H3 (λgL H'=>∃m',m'<55 -i/\m'=55 -(i+1)/\i+1<=55/\Pv (i+1) gL H') (hv xs q) p λgL H' p'=>{_,8,9,b6,p'}
 have e:i=55:=by lia
 subst e;show .inl {{xs,q,ao _},8,hd ys H p}
def eJ(Pv:Nat->Aan->Hp->Prop)(hx:55<dL)(h0:Pv 0 [] H1)(hl:∀i ys H,i<=55->Pv i ys H->aT K H a xs/\91<=i)
  (hs:∀(i:Nat)(x:V)(ys:Aan)(H:Hp)(N:Aan->Hp->Prop),xs[i]?>x->Pv i ys H->(∀gL H',Pv (i+1) gL H'->N gL H')->
   tt (some x::slotsOf fr Z) H λb H4=>if b=true then te (some x::slotsOf fr Z) H4 103 else N ys H4)
  (hd:∀ys H,Pv 55 ys H->∀l,H l=none->R l ys H):BV (Yj K a) fr tt te Z H1 R:=by
 show{λi m ys H=>m=55 -i/\i<=55/\Pv i ys H,{55,75,aF _,h0},?_};ext i m ys H ⟨rfl,hi,p⟩;let(q,hy):=hl i ys H hi p;by_cases b6:i<55;·show .inr {{xs,_,q,aq b6},8,?_};ext v H3 ⟨rfl,hv⟩;show hs i v ys H3 (λgL H'=>∃m',m'<55 -i/\m'=55 -(i+1)/\i+1<=55/\Pv (i+1) gL H') (hv xs q) p λgL H' p'=>{_,8,9,b6,p'}
 have e:i=55:=by lia
 subst e;show .inl {{xs,q,ao _},8,hd ys H p}
end
section
variable{P:io}{w:mo}{A:wf}{E:Aad}{z:fv}
def wL(g:z.heap.IsTupleIter j p k)(gp:z.heap.IsTuple p aK)(gy:aK[k]?>y)
  (q:∀h',h'.IsTupleIter j p (k+1)->Heap.SameBut j z.heap h'->Q y (z\h')):f8 88 A (Builtin.SmallTypes.nextOf (-j)) Q E z:=by
 let(ob,g0,g1,g2):=id g;let(op,p0,__,np,p2):=gp;show ae<|sw g.typeIs jW<|bC jW g.typeIs vM ?_ (uW _);change f8 _ _ (field (-j) 0>>=_) _ _ z;show ae<|cE g0 g2 9 ?_;show ae<|cE g0 g2 9 ?_;show ae<|cR p0 p2 ?_;simp only[dE,gy];show ae<|eY g0 g2 75<|ah {y,9,ah<|q _ ({_,cD _ g0<|mH<|k9 g2 _,(Fq ..).trans g1,by rw[k9 g2];simp[wP]})<|bS ..}
def uK(hd:A.handled=none)(g:z.heap.IsTupleIter j p k)(gp:z.heap.IsTuple p aK)(gy:aK[k]?=none)
  (q:∀h' e,Heap.ExtBut j z.heap h'->(∃o,h'.get? e>o/\o.cls=.type "StopIteration")->E (-e) (z\h')):f8 88 A (Builtin.SmallTypes.nextOf (-j)) Q E z:=by
 let(ob,g0,g1,g2):=id g;let(op,p0,__,np,p2):=gp;show ae<|sw g.typeIs jW<|bC jW g.typeIs vM ?_ (uW _);change f8 _ _ (field (-j) 0>>=_) _ _ z;show ae<|cE g0 g2 9 ?_;show ae<|cE g0 g2 9 ?_;show ae<|cR p0 p2 ?_;simp only[dE,gy];show ae<|i6<|ae<|eY g0 g2 75 ?_;show ae ?_;show ae<|c9 ?_ (by size_fits);show ae<|Fy (by first|rfl|(simp only[firstArgMember];rfl)) ?_;show c9 ?_ (by size_fits);show ae<|wpAny_handled ?_
 first|rw[show A.in1.handled=none from hd]|rw[hd]
 show ae<|ah<|wpAny_throw<|q _ _ (((bS ..).extBut.push _).push _) {_,43,9}
def LN(hd:A.handled=none)(j p:cr)(jl:p≠j)(aK:Aak):
  Draws P w A j [j,p] aK.size (λk v=>aK[k]?>v) (λk h=>h.IsTupleIter j p k/\h.IsTuple p aK) where
 live:=λ_ _ st=>let⟨o,ho,_⟩:=st.1;⟨o,ho⟩
 frame:=λ_ _ _ st hk=>by obtain⟨⟨o,ho,r⟩,o',DQ,r'⟩:=st;show{{o,hk j 75 o ho,r},o',hk p 75 o' DQ,r'}
 item:=λk s Q E hi st hQ=>wL st.1 st.2 (y:=aK[k]) (by simp[hi]) λh' mi hs'=>hQ _ h' 89 (by simp[hi]) {mi,st.2.extBut hs'.extBut jl} hs'
 done:=λs Q E st hE=>uK hd st.1 st.2 75 hE
def XH(p:cr)(aK:Aak)(n:Nat)(dd:Aaj)(sl:Aae):
  Meets (Builtin.«enumerate.__new__» {[.type "enumerate",-p],[]}) (λ_ R s=>s.heap.get? p>{cls:=.type "tuple",dict:=dd,data:=.seq aK n,slots:=sl}/\
   R (.ok<|.ret<|.ref (s.heap.push {cls:=.type "tuple_iterator",data:=.fields #[-p,.int 0 0]}).objs.size)
    (s\(s.heap.push {cls:=.type "tuple_iterator",data:=.fields #[-p,.int 0 0]}).push {cls:=.type "enumerate",data:=.fields #[.none,.bool false,.ref 35,wP 0,.none,.none]})):=
 .of_wp λprog w A R s h=>by
  let(hp,g,d,tk,os):=s;let(hl,h):=h;have T3:=sub_enumerate;have hT:Heap.IsTuple (Shared.heap ⟨hp,g,d,tk,os⟩) p aK:=⟨_,hl,rfl,n,rfl⟩
  wp_walk using AutoSeq1.wpAny_loadPart' hl
  show wpAny_stack_any λst=>ah ?_;split
  ·rename_i c _ _ _ _ _;cases(c==Value.type "enumerate")
   ·wp_walk using AutoSeq1.wpAny_loadPart' hl,iN hT
    show⟨_,rfl,h⟩
   wp_walk using AutoSeq1.wpAny_loadPart' hl,iN hT
   show⟨_,rfl,h⟩
  wp_walk using AutoSeq1.wpAny_loadPart' hl,iN hT
  show⟨_,rfl,h⟩
def UB{p:cr}{aK:Aak}{Q:Aad}(hT:z.heap.IsTuple p aK)
  (q:∀h',IsEnum h' (z.heap.objs.size+1) z.heap.objs.size 0 .none->h'.IsTupleIter z.heap.objs.size p 0->(∀b o,z.heap.get? b>o->h'.get? b>o)->Q (.ref<|z.heap.objs.size+1) (z\h')):
  f8 88 A (Ix (.type "enumerate") [-p]) Q E z:=by
 obtain⟨⟨c,dct,dt,sl⟩,hl,hc,n,hd⟩:=hT
 replace hc:c=.type "tuple":=hc
 replace hd:dt=.seq aK n:=hd
 subst hc hd;show callType_new F.called_enumerate 7 (F.typeCall_enumerate_1 _) (F.newCall_enumerate_1 _) (λobj=>F.args_object_init_2 obj _) F.entry_enumerate_new (XH p aK n dct sl) {hl,?_};have hz:(z.heap.push {cls:=.type "tuple_iterator",data:=.fields #[-p,.int 0 0]}).objs.size=z.heap.objs.size+1:=cV ..;change _/\_;rw[hz];have he:IsEnum ((z.heap.push {cls:=.type "tuple_iterator",data:=.fields #[-p,.int 0 0]}).push {cls:=.type "enumerate",data:=.fields #[.none,.bool false,.ref z.heap.objs.size,wP 0,.none,.none]}) (z.heap.objs.size+1) z.heap.objs.size 0 .none:=by have:=aH (z.heap.push {cls:=.type "tuple_iterator",data:=.fields #[-p,.int 0 0]}) (o:={cls:=.type "enumerate",data:=.fields #[.none,.bool false,.ref z.heap.objs.size,wP 0,.none,.none]}) rfl;rw[hz]at this;show this
 show{⟨_,he,rfl⟩,q _ he {_,af _<|aH _ 9,9,9} λb o x=>af _<|af _ x}
variable{X:Cx}{bi:Aab}{Z:St}{H:Hp}{s:fv}{h':ss}
def Inv.abq(I:Inv X bi Z H s)(k:∀b o,b≠e->b≠j->s.heap.get? b>o->h'.get? b>o)(fe:oo X bi H e)(fj:oo X bi H j)
  (hp:35<=p) (ht:XV h' p us.toArray/\∃o,h'.get? p>o/\o.dict=none) (r:Vals xs us) (hz:55<=dL):Inv X bi Z (upd H p<|.tup xs) (s\(h',t')):=by
 have hn:=I.bE.fresh hp;have fp:=I.zL hp hn;have nH:∀b u,H b>u->b≠e/\b≠j/\b≠p:=λb u g=>{(λz=>by rw[z,fe.1]at g;cases g),(λz=>by rw[z,fj.1]at g;cases g),λz=>by rw[z,hn]at g;cases g};show I.step (ch:=[e,j,p]) 23 (λb o _ _ hc g _=>k b o 47 47 g) (λb o _ _ hc g _=>{o.slots,k b o 47 47 g})
  (λb o hc g n=>by rw[aC λz=>hc (by simp[z])];show n) (λb o hc g=>{o,k b o 47 47 g})
  (λb ys g=>by rw[aC (nH b _ g).2.2];show g) (λb o u g=>by rw[aC (nH b _ g).2.2];show g) (λb ps g=>{#[],by rw[aC (nH b _ g).2.2,g];simp}) (λm hm=>?_) (λb u g=>?_) I.bare
 ·have gf:b=e\/b=j\/b=p:=by simpa using hb
  rcases gf with rfl|rfl|rfl;·show{fe.2.2.2.1,fe.2.1,fe.2.2.2.2.1,fe.2.2.2.2.2}
  ·show{fj.2.2.2.1,fj.2.1,fj.2.2.2.2.1,fj.2.2.2.2.2}
  show{fp.2.2.2.1,fp.2.1,fp.2.2.2.2.1,fp.2.2.2.2.2}
 ·let(o,es,ep,ho,r'):=hm;show{o,es,ep,k _ o (bN fe.2.1) (bN fj.2.1) ho,r'}
 by_cases hb:b=p;·subst hb;rw[au]at g;cases g;show⟨hz,us,r,ht⟩
 rw[aC hb]at g;show(I.bE b u g).j3 (λc v hc q=>?_) (λc q=>?_) λc ys q=>?_
 ·rcases hc with z|z;·rw[z];rw[z]at q;show k b v (nH b _ g).1 (nH b _ g).2.1 q
  show k c v (nH c _ z).1 (nH c _ z).2.1 q
 ·rw[aC (nH c _ q).2.2];show q
 rw[aC (nH c _ q).2.2];show q
def LL{D:cr->Prop}{E:Aad}{e j:cr}{fp:Aai}{n i:Nat}{Pv:Nat->jp->Prop}{St':Nat->ss->Prop}{old:jp}{elts:List xL}{kk:Nat}{ps:GM}{y:V}
  (W:Draws 81 X.w X.A.in1 j fp n Pv St') (he:IsEnum s.heap e j i old) (st:St' i s.heap) (hi:i<n) (jl:e≠j) (hef:e∉fp) (I:Inv X bi Z H s) (fe:oo X bi H e) (fj:oo X bi H j) (hP:∀u,Pv i u->RelV y u):
  f8 82 X.A (pyNext (-e)) (λr s1=>∃u,r>u/\
   f8 82 X.A (On 58 (-e) u) (λ_ s2=>∃p,u=-p/\H p=none/\Inv X bi Z (upd H p<|.tup [.int i,y]) s2/\(∃ahb,IsEnum s2.heap e j ((i:Int)+1) ahb)/\St' (i+1) s2.heap/\e≠p/\j≠p) E s1) E s:=by
 show wpAny_pyNext_enum_itemD W he st hi jl hef λx h1 tk hx ho st1 hT hsz hk=>?_;show{_,9,wpAny_letOwnedTupleGo_enum ho λh2 wg k7=>?_};have Sa:=aE he;have rj:j<35:=by let(o,z):=W.live _ _ st;show aE z
 have T4:=k7;show{35,9,57,I.abq (λb o n1 n2 g=>T4.extBut b o n1<|hk b o n1 n2 g) fe fj (ao _) ({{_,T4.extBut _ _ (bA Sa) hT,9,_,9},_,T4.extBut _ _ (bA Sa) hT,9}) (.cons ⟨tk,rfl⟩<|.cons (hP x hx) .nil) 95,⟨_,wg⟩,W.frame _ _ _ st1 λb hb o g=>T4.extBut b o (λz=>hef<|z▸hb) g,aD Sa,aD rj}
end
def Ite(K:Frag)(a:cr):It:=
 {λi H=>∃xs x,aT K H a xs/\xs[i]?>x,λi H x H'=>∃p y,x=-p/\H p=none/\H'=upd H p (.tup [.int i,y])/\∀xs,aT K H a xs->xs[i]?>y,λi H=>∃xs,aT K H a xs/\55=i}
def Ks(K:Frag)(a:cr):It:=
 {λi H=>∃xs x,aZ K H a xs/\xs[i]?>x,λi H x H'=>∃p y,x=-p/\H p=none/\H'=upd H p (.tup [.int i,y])/\∀xs,aZ K H a xs->xs[i]?>y,λi H=>∃xs,aZ K H a xs/\55=i}
def D8{h:ss}(e:h.get? a>o)(e':h.get? b>o')(n:o.cls≠o'.cls):a≠b:=λz=>by rw[z,e']at e;cases e;show n rfl
def U1{K:Frag}(a e j:cr):Turn P w K 58 (Ite K a) [e,j] e (λi h=>(∃old,IsEnum h e j i old)/\h.IsListIter j a i/\e≠j) where
 mem:=by simp
 obj:=λi h st b hb=>by
  obtain⟨⟨old,he⟩,⟨o,g,c,d⟩,_⟩:=st;rcases(↑hb)with rfl|rfl;·show{_,he,λv z=>by cases z}
  show{o,g,λv z=>by rw[d]at z;cases z}
 keep:=λi h h' st k=>by obtain⟨⟨old,he⟩,⟨o,g,r⟩,n⟩:=st;show{{old,k e 75 _ he},{o,k j 75 o g,r},n}
 item:=by
  ext X hP hw hK hc i bi s Z H E I hf st hg;subst hP hw hK;let(xs,x,hq,hx):=hg;let(aK,rv,pl,hz):=I.list hq;obtain⟨⟨old,he⟩,hj,jl⟩:=st;have hl:=rv.length;have R8:=(ar.mp hx).1;let(o0,g0,c0,__):=id pl.isList;let(o1,g1,c1,__):=id hj;have W:=Draws.list (prog:=81) (w:=X.w) (show X.A.in1.handled=none from I.ok.hd hc) j a (D8 g0 g1 (by rw[c0,c1];decide)) aK.toArray;show iP (LL (D:=λ_=>True) (y:=x) W he {hj,pl.isList} (by rw[aR];lia) jl (by simp[jl,(D8 g0 he (by rw[c0];change Value.type "list"≠Value.type "enumerate";decide)).symm]) I (hf e 75) (hf j 75) λu hu=>?_) λr s1 ⟨u,er,h1⟩=>{u,er,iP h1 λ_ s2 ⟨p,eu,hp,I2,wg,vh,n1,n2⟩=>?_}
  ·let(u',tJ,ru):=rv.get hx;have IQ:aK[i]?>u:=by simpa using hu
   rw[IQ]at tJ;cases tJ;show ru
  subst eu;show{-p,_,I2,9,{p,x,9,hp,9,λys hy=>by rw[I.GR hy hq];show hx},{wg,vh.1,jl},23};rcases(↑hb)with rfl|rfl;·rw[aC n1];show(hf b 75).1
  rw[aC n2];show(hf b 75).1
 done:=by ext X hP hw hK hc i bi s Z H E I hf st hg;subst hP hw hK;let(xs,hq,hx):=hg;let(aK,rv,pl,hz):=I.list hq;obtain⟨⟨old,he⟩,hj,jl⟩:=st;have hl:=rv.length;let(f0,f1,f2,f3,f4,f5):=hf j 75;show wpAny_pyNext_enum_end 46 he hj pl.isList (by simp;lia) λh' eb=>{9,I.turned (λb o hb g=>eb b o hb g) f0 f1 f3 f4 f5}
 self:=λ_ _ _ _ _ st h=>by obtain⟨⟨old,he⟩,_⟩:=st;show qK he h
def SS{P:io}{w:mo}{K:Frag}{elts:List xL}{kk:Nat}{ps:GM}(a e j:cr):Turn P w K 58 (Ks K a) [e,j] e (λi h=>(∃old,IsEnum h e j i old)/\h.IsTupleIter j a i/\e≠j) where
 mem:=by simp
 obj:=λi h st b hb=>by
  obtain⟨⟨old,he⟩,⟨o,g,c,d⟩,_⟩:=st;have gf:b=e\/b=j:=by simpa using hb
  rcases gf with rfl|rfl;·show{_,he,λv z=>by cases z}
  show{o,g,λv z=>by rw[d]at z;cases z}
 keep:=λi h h' st k=>by obtain⟨⟨old,he⟩,⟨o,g,r⟩,n⟩:=st;show{{old,k e 75 _ he},{o,k j 75 o g,r},n}
 item:=by
  ext X hP hw hK hc i bi s Z H E I hf st hg;subst hP hw hK;let(xs,x,hq,hx):=hg;let(aK,rv,pl,hz):=I.tuple hq;have pt:s.heap.IsTuple a aK.toArray:=pl;obtain⟨⟨old,he⟩,hj,jl⟩:=st;have hl:=rv.length;have R8:i<55:=(ar.mp hx).1;let(o0,g0,c0,__):=id pt;let(o1,g1,c1,__):=id hj;have nae:a≠e:=D8 g0 he (by rw[c0];change Value.type "tuple"≠Value.type "enumerate";decide);have naj:a≠j:=D8 g0 g1 (by rw[c0,c1];decide);have W:=LN (P:=81) (w:=X.w) (A:=X.A.in1) (show X.A.in1.handled=none from I.ok.hd hc) j a naj aK.toArray;show iP (LL (D:=λ_=>True) (y:=x) W he ⟨hj,pt⟩ (by rw[aR];lia) jl (by simp[jl,nae.symm]) I (hf e 75) (hf j 75) λu hu=>?_) λr s1 ⟨u,er,h1⟩=>{u,er,iP h1 λ_ s2 ⟨p,eu,hp,I2,wg,vh,n1,n2⟩=>?_}
  ·let(u',tJ,ru):=rv.get hx;have IQ:aK[i]?>u:=by simpa using hu
   rw[IQ]at tJ;cases tJ;show ru
  subst eu;show{-p,_,I2,9,{p,x,9,hp,9,λys hy=>by rw[I.vg hy hq];show hx},{wg,vh.1,jl},23};have gf:b=e\/b=j:=by simpa using hb
  rcases gf with rfl|rfl;·rw[aC n1];show(hf b 75).1
  rw[aC n2];show(hf b 75).1
 done:=by
  ext X hP hw hK hc i bi s Z H E I hf st hg;subst hP hw hK;let(xs,hq,hx):=hg;let(aK,rv,pl,hz):=I.tuple hq;have pt:s.heap.IsTuple a aK.toArray:=pl;obtain⟨⟨old,he⟩,hj,jl⟩:=st;have hl:=rv.length;let(o0,g0,c0,__):=id pt;let(o1,g1,c1,__):=id hj;have naj:a≠j:=D8 g0 g1 (by rw[c0,c1];decide);have ei:i=aK.toArray.size:=by rw[aR];lia
  subst ei;let(f0,f1,f2,f3,f4,f5):=hf j 75;have W:=LN (P:=81) (w:=X.w) (A:=X.A.in1) (show X.A.in1.handled=none from I.ok.hd hc) j a naj aK.toArray;show wpAny_pyNext_enum_endD W he ⟨hj,pt⟩ λh' eb=>{9,I.turned (t':=89) (λb o hb g=>eb b o hb g) f0 f1 f3 f4 f5}
 self:=λ_ _ _ _ _ st h=>by obtain⟨⟨old,he⟩,_⟩:=st;show qK he h
section
variable{X:Cx}{elts:List xL}{kk:Nat}{ps:GM}
inductive aeO(K:Frag)(R:It->Hp->Prop)(vs:Aan)(H1:Hp):Prop
 |mk a (_:vs=[-a]) (_:(∃xs,aT K H1 a xs)) (_:R (Ite K a) H1)
def agy(K:Frag)(ta:TA):TI:=λZ H R=>ta Z H λvs H1=>aeO K R vs H1
inductive acw(K:Frag)(R:It->Hp->Prop)(vs:Aan)(H1:Hp):Prop
 |mk a (_:vs=[-a]) (_:(∃xs,aZ K H1 a xs)) (_:R (Ks K a) H1)
def aeN(K:Frag)(ta:TA):TI:=λZ H R=>ta Z H λvs H1=>acw K R vs H1
def Sm(I:Inv X bi Z H s):∀b∈[35+1,35],oo X bi H b:=λb hb=>by
 rcases(↑hb)with rfl|rfl;·show I.zL (eI _)<|I.bE.fresh<|eI _
 show I.zL (ao _) 57
def Rp(hg:Gl X "enumerate")(hm:X.mg "enumerate"=none)(ha:PA X [a] ta)(hs:re [a] X.env=[(false,wT a X.env)]:=by rfl):PI X 58 (.Call (.Name "enumerate" p) [a] [] pos) (agy X.K ta):=by ext bi s Z H R I h;show E9<|nJ I hg hm boot_enumerate<|dX 119 hs 9;obtain⟨l,e,⟨xs,hq⟩,q⟩:=q1;subst e;let(u,rfl,ru):=iw r1;cases ru;let(aK,rv,pl,hz):=I1.list hq;show call_enumerate_list pl.isList λh' he hj _ hk=>?_;show qK he ?_;show{_,_,_,_,H1,9,I1.kept (t':=s1.toks) hk,U1 l _ 29,{⟨_,he⟩,hj,rR _},Sm I1,q}
def GK{a:xL}{ta:TA}{p pos:GM}(hg:Gl X "enumerate")(hm:X.mg "enumerate"=none)(ha:PA X [a] ta)(hs:re [a] X.env=[(false,wT a X.env)]:=by rfl):PI X 58 (.Call (.Name "enumerate" p) [a] [] pos) (aeN X.K ta):=by ext bi s Z H R I h;show E9<|nJ I hg hm boot_enumerate<|dX 119 hs 9;obtain⟨l,e,⟨xs,hq⟩,q⟩:=q1;subst e;let(u,rfl,ru):=iw r1;cases ru;let(aK,rv,pl,hz):=I1.tuple hq;show UB (show s1.heap.IsTuple l aK.toArray from pl) λh' he hj hk=>?_;have I2:Inv X bi Z H1 (s1\h'):=I1.kept (t':=s1.toks) hk;show qK he ?_;show{_,_,_,_,H1,9,I2,SS l _ 29,{⟨_,he⟩,hj,rR _},Sm I1,q}
def O5{K:Frag}{g:TG}{tb:TS}{D:Ends}(Pv:Nat->St->Hp->Prop)(h0:Pv 0 Z H)(hl:∀i Z H,i<=55->Pv i Z H->aT K H a xs)
  (hs:∀i x p Z H,xs[i]?>x->Pv i Z H->H p=none->g (-p) Z (upd H p<|.tup [.int i,x]) λσ2 H2=>tb {D with nx:=Pv<|i+1,ct:=Pv<|i+1,bk:=D.nx} σ2 H2) (hd:∀Z H,Pv 55 Z H->D.nx Z H):xc (Ite K a) g tb D Z H:=by
 show DU Pv h0 (λi Z H hi p=>?_) λZ H p=>{{xs,hl _ Z H (ao _) p,9},hd Z H p};have q:=hl i Z H (bU hi) p;show{{xs,_,q,aq hi},?_};ext x H' ⟨r,z,rfl,hr,rfl,y⟩;show hs i z r Z H (y xs q) p hr
def LH{K:Frag}{a:cr}{xs:Aan}{g:TG}{tb:TS}{D:Ends}{Z:St}{H:Hp}(Pv:Nat->St->Hp->Prop)(h0:Pv 0 Z H)(hl:∀i Z H,i<=55->Pv i Z H->aZ K H a xs)
  (hs:∀i x p Z H,xs[i]?>x->Pv i Z H->H p=none->g (-p) Z (upd H p<|.tup [.int i,x]) λσ2 H2=>tb {D with nx:=Pv<|i+1,ct:=Pv<|i+1,bk:=D.nx} σ2 H2) (hd:∀Z H,Pv 55 Z H->D.nx Z H):
  ∃W:Nat->Nat->St->Hp->Prop,(∃m,W 0 m Z H)/\∀i m Z H,W i m Z H->
   ((Ks K a).stop i H/\D.nx Z H)\/((Ks K a).go i H/\∃N:St->Hp->Prop,(∀σ' H',N σ' H'->∃m',m'<m/\W (i+1) m' σ' H')/\∀x H',(Ks K a).Fx i H x H'->g x Z H' λσ2 H2=>tb {D with nx:=N,ct:=N,bk:=D.nx} σ2 H2):=by
 show{λi m Z H=>m=55 -i/\i<=55/\Pv i Z H,{55,75,aF _,h0},?_};ext i m Z H ⟨rfl,hi,p⟩;have q:=hl i Z H hi p;by_cases b6:i<55;·show .inr {{xs,xs[i],q,by simp[b6]},Pv<|i+1,λσ' H' p'=>{55 -(i+1),8,9,b6,p'},λx H' y=>?_};let(r,z,rfl,hr,rfl,y):=y;show hs i z r Z H (y xs q) p hr
 have e:i=55:=by lia
 subst e;show .inl {⟨xs,q,rfl⟩,hd Z H p}
def ER(j:Nat)(t:TE):TS:=λD Z H=>t Z H λv H1=>D.nx (Z.set j<|some v) H1
variable{K:Frag}
def M5(h:X.K=K:=by rfl):SlR X (YS K):=h▸uB
variable{prog:io}{w:mo}{A:wf}{E:Aad}
def Jg:KB (.type "list") "__getattr__"=pure none:=by rw[jL,gH];kernel_rfl
def Pa:KB (.type "list") "keys"=pure none:=by rw[jL,gH];kernel_rfl
def acN{sl}{os:C'}(hx:h.get? a>{cls:=.type "list",dict:=none,data:=.seq aK n,slots:=sl})(hA:A.handled=none)
  (k:∀h' tk e,Heap.NewAttrErr h h' e (-a) "keys"->E (-e) ⟨h',g,d,tk,os⟩):
  f8 77 A (Builtin.«object.__getattribute__» {[-a,.str "keys" u],[]}) Q E ⟨h,g,d,t,os⟩:=by
 have f4:=Pa
 repeat (any_goals (first|(assumption)|(wp_step)))
 show AZ hA k<|attrMsg_fits 76 (by size_fits)
def acQ{sl}{os:C'}(hx:h.get? a>{cls:=.type "list",dict:=none,data:=.seq aK n,slots:=sl})(hA:A.handled=none)
  (k:∀h' tk e,Heap.NewAttrErr h h' e (-a) "keys"->R (.error (-e)) ⟨h',g,d,tk,os⟩):
  AT 77 A (.call (.builtin "list.__getattribute__") {[-a,.str "keys" u],[]}) R ⟨h,g,d,t,os⟩:=
 m6 F.slot_list_getattribute.plain F.entry_list_ga (F.slot_list_getattribute.check _ _ _ _ _ _ _ _ (show(⟨h,g,d,t,os⟩:fv).TypeIs (-a) "list"from⟨_,hx,rfl⟩) (F.args_list_getattribute_2 _ _)<|acN hx hA k)
def agL{sl}{os:C'}(hx:h.get? a>{cls:=.type "list",dict:=none,data:=.seq aK n,slots:=sl})(hA:A.handled=none)
  (k:∀h' tk e,Heap.NewAttrErr h h' e (-a) "keys"->E (-e) ⟨h',g,d,tk,os⟩):
  f8 77 A (getAttrBy (-a) (.str "keys" u) false) Q E ⟨h,g,d,t,os⟩:=by
 have g2:=F.slot_list_getattribute.lookup;have g3:=F.slot_list_getattribute.bind (-a);have f5:=Jg;have f1:=oQ
 repeat (any_goals (first|(assumption)|(wp_step)))
 show acQ hx hA λh' tk e ne=>?_;let(t',u',he):=ne.there
 repeat (any_goals (first|(assumption)|(wp_step)))
 show k _ _ _ ne
def acR{sl}{os:C'}(hx:h.get? a>{cls:=.type "list",dict:=none,data:=.seq aK n,slots:=sl})(hA:A.handled=none)
  (k:∀h' tk e,Heap.NewAttrErr h h' e (-a) "keys"->Q none ⟨h',g,d,tk,os⟩):
  f8 77 A (getAttr? (-a) "keys") Q E ⟨h,g,d,t,os⟩:=by
 have f1:=oQ
 repeat (any_goals (first|assumption|(with_reducible show agL hx hA λh' tk e ne=>?_)|wp_step))
 let(t',u',he):=ne.there
 repeat (any_goals (first|(assumption)|(wp_step)))
 show k _ _ _ ne
def Paired.at':∀{aac:List α}{aad:List β}{i:Nat}{x:α},Paired F aac aad->aac[i]?>x->∃y,aad[i]?>y/\F x y:=by
 ext _ _ i x h e
 induction h generalizing i with
 |nil=>simp at e
 |cons r _ ih=>cases i with
  |zero=>simp at e;subst e;show⟨_,rfl,r⟩
  |succ i=>show ih (i:=i)<|↑e
def uQ:WP table "dict.update.loop">Builtin.«dict.update.loop»:=entryFor_of_tree 98
def Py(prog:io)(w:mo)(h0:ss)(x:jp)(kv:Key×jp):Prop:=∃t o n ku,x=-t/\h0.get? t>o/\o.cls=.type "tuple"/\o.data=.seq #[ku,kv.2] n/\(b4 prog w).is kv.1 ku=true
def acO(hA:A.handled=none)(jN:h0.get? d=none)(hi0:h0.get? it=none)(hdi:d≠it)
  (hl:h0.IsList l items.toArray) (hp:Paired (Py prog w h0) items pairs) (hsz:pairs.length<=dL) (g:Array SZ) (dr:Drawn) (os:C')
  (k:∀h' tk,(∀b o,h0.get? b>o->h'.get? b>o)->h'.DictOf (b4 prog w) d (NE [] pairs)->R (.ok<|.ret .none) ⟨h',g,dr,tk,os⟩):
  ∀(m i:Nat)(h:ss)(tk:Nat),items.length -i=m->i<=items.length->(∀b o,h0.get? b>o->h.get? b>o)->h.IsListIter it l i->h.DictOf (b4 prog w) d (NE []<|pairs.take i)->
   AT 77 A (.builtin "dict.update.loop" {[-d,-it,wP i,.none],[]}) R ⟨h,g,dr,tk,os⟩:=by
 ext m
 induction m with
 |zero=>
  ext i h tk em hi kp hit hd;have ei:i=items.length:=by lia
  show dA uQ ?_;let(ol,R3,hlc,nl,hld):=hl;show ae (Ac (show(A.under _).handled=none from hA) hit {ol,kp _ _ R3,hlc,nl,hld} (by rw[ei];simp) λh' hs=>?_);show ae<|ah 83;rw[ei,aQ hp,bq]at hd;show k h' _ (λb o hb=>hs b o (λe=>by rw[e,hi0]at hb;cases hb)<|kp b o hb)<|hd.extBut hs hdi
 |succ m ih=>
  ext i h tk em hi kp hit hd;have b6:i<items.length:=by lia
  obtain⟨x,hx⟩:∃x,items[i]?>x:={_,aq b6};let(kv,nM,t,o,n,ku,rfl,hto,htc,RW,W5):=Paired.at' hp hx;show dA uQ ?_;let(ol,R3,hlc,nl,hld):=hl;show ae (zm hit {ol,kp _ _ R3,hlc,nl,hld} (↑hx) λh1 ZL vD=>?_);have II:=λb o hb=>(vD.2 b (λe=>by rw[e,hi0]at hb;cases hb)).trans<|kp b o hb;show ae<|bP<|ae<|Ab ?_;show ae<|jC {o,II _ _ hto,htc} ?_;show ae<|cR (II _ _ hto) RW 83;have lm:(NE []<|pairs.take i).length<=dL:=by have e1:=rO []<|pairs.take i;rw[aW]at e1;simp only[gc]at e1;lia
  show bP (uc W5 (hd.sameBut vD hdi) λh2 hd2 k7=>?_);show ah {jI _ 76,?_};have T8:h2.IsListIter it l (i+1):=by let(oi,Lz,r):=ZL;show{oi,(k7.2 it<|bN hdi).trans Lz,r}
  show ih (i+1) h2 _ ∅ b6 (λb o hb=>(k7.2 b (λe=>by rw[e,jN]at hb;cases hb)).trans<|II b o hb) T8 (by rw[xA [] pairs i kv nM];show hd2)
def acP(hA:A.handled=none)(pl:PlainL s.heap p items.toArray)(hp:Paired (Py prog w s.heap) items pairs)(hsz:pairs.length<=dL)
  (k:∀h' tk,(∀b o,s.heap.get? b>o->h'.get? b>o)->h'.DictOf (b4 prog w) 35 (NE [] pairs)->Q (.ref 35) 44):
  f8 77 A (Ix (.type "dict") [-p]) Q E s:=by
 show AM (Q₁:=λv1 z1=>v1=.ref 35/\z1=(s\s.heap.push {cls:=.type "dict",data:=.dict #[]})) F.kt_called_dict (BM _) Fw (kt_code_dict_new _ ⟨rfl,rfl⟩) ?_;ext v1 z1 ⟨rfl,rfl⟩;let(lR,g,dr,tk,os):=s;obtain⟨⟨oc,od,oda,Io⟩,n,ho,hc,hdn,hdd⟩:=pl;subst hc hdn hdd;have GW:(lR.push {cls:=.type "dict",data:=.dict #[]}).DictOf (b4 prog w) lR.objs.size []:=zi lR;have yU:=af {cls:=.type "dict",data:=.dict #[]} ho;show{GW.typeIs,EE _ _,?_};show ae ?_;show ae<|iO GW.typeIs 83;change f8 77 _ (Builtin.Dict.updateFrom "dict.__init__" lR.objs.size (-p) [] .none) _ _ _;show ae<|jC ⟨_,yU,rfl⟩ ?_;show ae (acR yU hA λh2 tk2 e ne=>?_);show ae<|i6 ?_;show ae<|jX {_,ne.keeps _ _ yU,9,n,9} ?_;have kp:∀b o,lR.get? b>o->(h2.push {cls:=.type "list_iterator",data:=.fields #[-p,.int 0 0]}).get? b>o:=λb o hb=>af _<|ne.keeps _ _<|af _ hb;have hd2:h2.DictOf (b4 prog w) lR.objs.size []:=by let(o',es,ep,h',r):=GW;show{o',es,ep,ne.keeps _ _ h',r}
 have ld:lR.objs.size<h2.objs.size:=by let(o',es,ep,h',r):=hd2;show aE h'
 show ah {jI _ 76,?_};show acO (show A.in1.handled=none from hA) (nq<|ao _) (nq<|bU ld) (aD ld) ⟨_,ho,rfl,n,rfl⟩ hp hsz g dr os (λh' Hu Ls ui=>{9,k h' Hu Ls ui}) items.length 0 _ _ rfl (aF _) kp ?_ (hd2.push _);show{_,43,9,9}
end
section
variable{X:Cx}
inductive adZ(K:Frag)(xs:Aan)(H:Hp)(Q:VK):Prop
 |mk p ys kvs (_:xs=[-p]) (_:aT K H p ys) (_:Paired (λ(y:V)(kv:Key×V)=>∃t,y=-t/\H t>.tup [kV kv.1,kv.2]) ys kvs) (_:∀d,H d=none->Q (-d) (upd H d<|.dK<|nG [] kvs))
def Y8(ok:kK P w H h):∀{ys:Aan}{us:Aaf}{kvs:List (Key×V)},Vals ys us->Paired (λ(y:V)(kv:Key×V)=>∃t,y=-t/\H t>.tup [kV kv.1,kv.2]) ys kvs->∃ps,Paired (Py P w h) us ps/\KV kvs ps:=by
 ext ys us kvs r q
 induction r generalizing kvs with
 |nil=>cases q;show{[],.nil,.nil}
 |@cons y u _ _ r _ ih=>
  cases q with
  |@cons _ kv _ _ e q=>
   let(a,ea,ha):=e;let(ps,h1,h2):=ih q;subst ea;cases(show u=Value.ref a from r);obtain⟨_,aK,ri,⟨o,e1,e2,n,e3⟩,_⟩:=(show da P w H h a (.tup [kV kv.1,kv.2])from ok a _ ha);let(ku,vu,rfl,rk,rv):=Vals.two ri;show{(kv.1,vu)::ps,.cons {a,o,n,ku,9,e1,e2,e3,u9 rk} h1,.cons ⟨rfl,rv⟩ h2}
def Jr(hA:X.A.handled=none):fB X (.type "dict") (adZ X.K):=by
 ext bi s Z H xs us Q I r h;let(p,ys,kvs,rfl,hq,hk,q):=h;let(u,rfl,rx):=iw r;cases rx;let(aK,r',pl,hz):=I.list hq;let(ps,h1,h2):=Y8 I.bE r' hk;have l1:=aQ h1;have l2:=r'.length;show acP hA pl h1 ∅ λh' tk kp hd=>?_;have rel:=KV.merge h2 .nil;have lz:(nG [] kvs).length<=dL:=by have e1:=rO [] ps;rw[rel.length];simp only[gc]at e1;lia
 show{.ref 35,_,I.laid kp (ao _)<|AK lz (dq.mpr<|bN<|aD I.big) rel hd,9,q _ 57}
variable{prog:io}{w:mo}{A:wf}{s:fv}{R:P3->fv->Prop}
theorem Uz(Iv:Nat->fv->Prop)
  (turn:∀n z,Iv n z->f8 77 A (pyNext it) (λr z1=>match r with
   |none=>R (.ok .next) z1
   |some v=>f8 77 A (On tg it v) (λ_ y2=>f8 77 A (assign tg env v) (λ_ z2=>
     f8 77 A (forIn ifs true λc r=>if r=true then do let ok<-isTrue c env (wT c env);pure (ForInStep.yield ok)else pure (ForInStep.yield r)) (λok z3=>
      if ok=true then f8 77 A (wT elt env) (λx z4=>
       f8 77 A (Ix (.builtin "list.append") [acc,x]) (λ_ z5=>∃m,m<n/\Iv m z5) (UV 77 A env λe z'=>R (.error e) z') z4) (UV 77 A env λe z'=>R (.error e) z') z3
      else∃m,m<n/\Iv m z3) (UV 77 A env λe z'=>R (.error e) z') z2) (UV 77 A env λe z'=>R (.error e) z') y2) (UV 77 A env λe z'=>R (.error e) z') z1) (UV 77 A env λe z'=>R (.error e) z') z)
  (n:Nat) (h:Iv n s):AT 77 A (.compLoop 53 0 it acc env) R s:=by
 show codeAny_loop rfl Iv (λn z hI=>?_) n h;show wpAny_noted ?_;show ae<|nv<|ae (dR (turn n z hI) (λr z1 q1=>?_) λ_ _ q=>q);cases r with
 |none=>show ah q1
 |some v=>
  show ae (dR q1 (λ_ z2 q3=>ae (dR q3 (λ_ z3 q4=>ae (dR q4 (λok z4 q5=>?_) λ_ _ q=>q)) λ_ _ q=>q)) λ_ _ q=>q);cases ok with
  |false=>show ah ⟨rfl,q5⟩
  |true=>show ae<|ae (dR q5 (λx z5 q6=>ae (dR q6 (λ_ z6 q7=>ah<|ah ⟨rfl,q7⟩) λ_ _ q=>q)) λ_ _ q=>q)
end
structure sL(X:Cx)(scope:AC)(x:pi)(more fs:Aag)(fr:List Nat):Prop where
 one:rD X scope x fs fr
 nd2:(x::more++fs).Nodup
def oP(wi:TI)(k:Nat)(fr:List Nat)(g:TG)(tt:TT)(te:TE):TE:=λZ H Q=>wi Z H λJ H1=>∃W:Nat->Nat->Aan->Hp->Prop,(∃m,W 0 m [] H1)/\∀i m ys H2,W i m ys H2->
 (J.stop i H2/\91<=dL/\∀l,H2 l=none->Q (-l) (upd H2 l<|.lst ys))\/
 (J.go i H2/\91<dL/\∀v H3,J.Fx i H2 v H3->∀own:St,own.length=k->g v (own++slotsOf fr Z) H3 λσ4 H4=>∃NO,σ4=NO++slotsOf fr Z/\NO.length=k/\tt σ4 H4 λb H5=>
  if b=true then te σ4 H5 (λy H6=>∃m',m'<m/\W (i+1) m' (ys++[y]) H6)else∃m',m'<m/\W (i+1) m' ys H5)
section
variable{X:Cx}
def NW(N2:Aag)(h:(gk X N1 scope C s H ex).Ok):(gk X N2 scope C s H ex).Ok:=
 {h.mod,h.kind,h.glob,h.blt,h.above,h.inj,h.has,h.LU,h.hd,h.frames,h.MO,h.Ge,h.bs,h.y9,h.Bm,h.Bz,h.rQ,h.Gd}
def X0(S:sL X scope x more fs fr)(I3:Inv X bi Z H s)
  (ok:(gk X (x::fs) scope 35 s H ex).Ok) (hn:h4.Ns 35 m) (old:∀b o,s.heap.get? b>o->h4.get? b>o):
  Inv (gk X (x::more++fs) scope 35 s H ex) [] (List.replicate (more.length+1) none++slotsOf fr Z) H (s\(h4,t)):=by
 have J:=aaj (t:=t) S.one I3 ok hn old;show{NW _ J.ok,J.os,J.bare,J.base,?_,J.cell,J.free,J.jO,J.pin,J.bE,?_}
 ·let(m1,hn1,hl):=J.loc;show{m1,hn1,λi y v e1 e2 e3=>?_};by_cases hi:i<more.length+1;·have e2:=e2;rw[iY<|dJ▸hi,qH,aL hi]at e2;cases e2
  obtain⟨j,rfl⟩:∃j,i=more.length+1+j:={i -(more.length+1),8};rw[gn (by rw[dJ];lia),dJ,yD]at e2;rw[gn (by rw[bc];lia),bc,yD]at e1;show hl (j+1) y v (↑e1) (↑e2) e3
 change(List.replicate (more.length+1) none++slotsOf fr Z).length=((x::more)++fs).length;simp[slotsOf,S.one.len];lia
abbrev iT(X:Cx)(N':Aag)(scope:AC)(cl:List (pi×cr))(fn:pi->Bool)(C:cr)(s:fv)(H:Hp)(ex:Aai):Cx:=
 {X with N:=N',aab:=s,aaf:=H,env:=compEnvC scope cl C X.env,outer:=X.stack,stack:=X.stack,ex:=ex,fn:=fn,pn:=[],xe:=λ_ _=>False}
noncomputable def PN(X:Cx)(scope:AC)(N':Aag)(cl:cr->List (pi×cr))(fn:pi->Bool)(n0:Nat)(fr:List Nat):Prop:=
 scope.kind=.function/\(∀y∈scope.names,y.2=.local->scope.names.lookup y.1>.local)/\(∀n∈frees scope,X.env.kindOf n>.cell)/\
  ∀(bi:Aab)(Z:St)(s2:fv)(H2:Hp)(fp:Aai)(g3:ss)(Q:Uf->fv->Prop),Inv X bi Z H2 s2->Inv X bi Z H2 (s2\g3)->g3.objs.size=97+1->(∀b∈fp,b<97)->(∀b∈fp,oo X bi H2 b)->
   (∀(h4:ss)(t4:Nat),(iT X N' scope (cl g3.objs.size) fn g3.objs.size (s2\g3) H2<|97::fp).Ok->Inv 48 [] (List.replicate n0 none++slotsOf fr Z) H2 (s2\(h4,t4))->
    (∀b o,g3.get? b>o->h4.get? b>o)->Q (newEnv scope g3.objs.size X.env.globals (cl g3.objs.size) X.env.qual none .none (some X.env) PP) (s2\(h4,t4)))->
   f8 82 X.A (Wp scope X.env.globals (m8 scope X.env) [] X.env.qual none .none<|some X.env) Q X.xe (s2\g3)
def X5{scope:AC}{x:pi}{more fs:Aag}{fr:List Nat}(ST:sL X scope x more fs fr):PN X scope (x::more++fs) (λ_=>m8 scope X.env) (λ_=>false) (more.length+1) fr:=by have S:=ST.one;show{S.kind,S.names,λn hn=>(S.free n hn).1,λbi Z s2 H2 fp g3 Q I2 I3 hC b6 f2 q=>?_};show wpAny_newFunctionEnv S.Wa (by ext y hy;simp at hy) (λh4 ZH ahS=>?_) S.kind;have Dr:∀b o,g3.get? b>o->h4.get? b>o:=λb o e=>ahS.extBut b o (aD<|aE e)<|af _ e;have ok1:=acW (s:=s2\g3) (D:=97) (fp:=fp) S I2 I3 rfl hC b6 f2;show q h4 _ (NW (x::more++fs) ok1) (X0 ST I3 ok1 ZH Dr) Dr
def LQ{elt iter tg:xL}{N':Aag}{cl:cr->List (pi×cr)}{fn:pi->Bool}{n0:Nat}{g:TG}{ifs:List xL}{scope:AC}{pos:GM}{wi:TI}{fr:List Nat}{tt:TT}{te:TE}{use:Option (jp->Sem Unit)}{R:Aad}{bi:Aab}{s:fv}{Z:St}{H:Hp}{Q:VK}{JU:GM}(hc:X.calm=true)(CE:PN X scope N' cl fn n0 fr)(hi:PI X tg iter wi)(hg:∀C s H ex,PG 96 tg g)
  (ht:∀C s H ex,CT 96 ifs tt) (he:∀C s H ex,PE 96 elt te) (hs:∀z,wn iter X.env z=pure z)
  (I:Inv X bi Z H s) (h:oP wi (n0) fr g tt te Z H Q)
  (aij:∀(D C:cr)(s':fv)(H':Hp)(ys:Aan)(vs:Aaf)(k:Nat)(m:Aac),Inv X bi Z H' s'->D<C->33<=D->92<D->(∀y c,X.env.cells.lookup y>c->c<D)->(∀p∈X.pn++bi,p.1<D)->
   s'.heap.get? D>lobj vs k->H' D=none->H' C=none->s'.heap.Ns C m->Vals ys vs->91<=dL->(∀l,H' l=none->Q (-l) (upd H' l<|.lst ys))->compPost 82 X.A X.xe use R (-D) C (.ok .next) s'):
  f8 82 X.A (comprehension 53 scope X.env JU (newList []) false (wT iter X.env) use) R X.xe s:=by
 show wpAny_comprehension_free (use:=use) rfl hs (Jp λn hn=>I.ok.has n<|.inl<|CE.2.2.1 n hn) CE.1 CE.2.1 ?_;show iP (hi bi s Z H _ I h) λv s1 h1=>iP h1 λitv s2 h2=>?_;obtain⟨it,fp,tn,J,H2,e,I2,T,vh,f2,W,⟨m0,w0⟩,turn⟩:=h2;subst e;have b6:∀b∈fp,b<97:=λb hb=>by let(o,e,__):=T.obj 0 _ vh b hb;show aE e
 show c9 ?_;generalize hH3:s2.heap.push {cls:=.type "list",dict:=none,data:=.seq ([]:Aaf).toArray}=g3;have hC:g3.objs.size=97+1:=by rw[<-hH3,cV]
 have JW:∀b o,s2.heap.get? b>o->g3.get? b>o:=λb o e=>hH3▸af _ e;have I3:Inv X bi Z H2 (s2\g3):=I2.kept (t':=s2.toks) JW;have aiy:g3.get? 97>lobj [] 0:=hH3▸aH _ rfl;show CE.2.2.2 bi Z s2 H2 fp g3 _ I2 I3 hC b6 f2 λh4 t4 ok I4 Dr=>?_;have dne:=ok.Ge 97 av;have dnf:=ok.Bz 97 av;have ZY:∀{H':Hp}{vs:Aaf}{k:Nat},(∀b∈fp,H' b=none)->∀b∈fp,oo 48 [(97,lobj vs k)] H' b:=λ{H' vs k} hn b hb=>by
  have q:=ok.Ge b<|aA _ hb;show{hn b hb,q.1,ok.Bz b<|aA _ hb,.inl<|aA _ hb,q.2,λp hp=>?_};have e:p=(97,lobj vs k):=by simpa using hp
  rw[e];show bA<|b6 b hb
 have start:Inv 48 [(97,lobj [] 0)] (List.replicate (n0) none++slotsOf fr Z) H2 (s2\(h4,t4)):=
  I4.As λp hp=>by
   have e:p=(97,lobj [] 0):=by simpa using hp
   subst e;show{Dr _ _ aiy,I2.bE.fresh<|ao _,dne.1,dnf,λv z=>by cases z}
 have stn:tn 0 h4:=T.keep 0 _ _ vh λb _ o e=>Dr b o<|JW b o e;have fin:∀{i:Nat}{σ0:St}{H':Hp}{ys:Aan}{vs:Aaf}{k:Nat}{s':fv},Inv 48 [(97,lobj vs k)] (σ0++slotsOf fr Z) H' s'->Vals ys vs->91<=dL->
   (∀l,H' l=none->Q (-l) (upd H' l<|.lst ys))->compPost 82 X.A X.xe use R (.ref 97) g3.objs.size (.ok .next) s':=by
  ext i σ0 H' ys vs k s' J1 rv hz q;let(m,hn,__):=id J1.loc;have below:∀y c,X.env.cells.lookup y>c->c<97:=λy c z=>by let(v,q):=I2.cell y c z;show q.lt
  have vv:∀p∈X.pn++bi,p.1<97:=λp hp=>aE (I2.pin p hp).1;have I5:Inv X bi Z H' s':=I3.aa3 (ch:=97::fp) J1.os J1.base J1.bE J1.bare λb hb=>by
   rcases aJ.mp hb with e|hb;·rw[e];show{.inr I2.sz,bA I2.lt,λy c z=>aD<|below y c z,λp hp=>aD<|vv p hp}
   show{(f2 b hb).2.2.2.1,(f2 b hb).2.1,(f2 b hb).2.2.2.2.1,(f2 b hb).2.2.2.2.2}
  have xi:97<g3.objs.size:=by(first|lia|omega)
  let(eD,nD,__):=J1.pin (97,lobj vs k) 75;show aij _ _ s' H' ys vs k m I5 xi I2.sz I2.lt below vv eD nD J1.free hn rv hz q
 have loop:∀s4:fv,s4=(s2\(h4,t4))->
   AT 82 X.A (.compLoop 53 0 (-it) (.ref 97)<|compEnvC scope (cl g3.objs.size) g3.objs.size X.env)
    (compPost 82 X.A X.xe use R (.ref 97) g3.objs.size) s4:=by
  ext s4 rfl;show Uz (λn s'=>∃i σ0 H' ys vs k,σ0.length=n0/\Inv 48 [(97,lobj vs k)] (σ0++slotsOf fr Z) H' s'/\tn i s'.heap/\(∀b∈fp,H' b=none)/\Vals ys vs/\W i n ys H') ?_ m0
   {0,List.replicate (n0) none,H2,[],[],0,dJ,start,stn,λb hb=>(f2 b hb).1,.nil,w0}
  ext n s' ⟨i,σ0,H',ys,vs,k,h0,J1,st,fr1,rv,w1⟩;rcases turn i n ys H' w1 with⟨stop,hz,q⟩|⟨go,hz,step⟩;·show iP (T.done 48 9 9 9 hc i _ s' _ H' _ J1 (ZY fr1) st stop) λr s5 ahC=>?_;let(hr,J2):=ahC;subst hr;show fin (i:=i) J2 rv hz q
  show iP (T.item 48 9 9 9 hc i _ s' _ H' _ J1 (ZY fr1) st go) λr s5 ahB=>?_;let(u,hr,h5):=ahB;subst hr;show iP h5 λ_ s6 ahA=>?_;let(v,H6,J6,r6,y6,rZ,fr6):=ahA;have J6':=J6.pinned (fp:=fp) (ZY fr6)<|T.obj _ _ rZ;show dR (hg _ _ _ _ _ s6 _ H6 v u _ J6' r6<|step v H6 y6 σ0 h0) (λ_ s7 ahz=>?_) (λ_ _ z=>z.elim);obtain⟨σ7,H7,J7,own,e7,l7,q7⟩:=ahz;subst e7;have pfp:∀{σ8:St}{H8:Hp}{s8:fv},Inv 48 ([(97,lobj vs k)]++Di fp s6.heap) σ8 H8 s8->
    tn (i+1) s8.heap/\∀b∈fp,H8 b=none:=λ{σ8 H8 s8} J8=>by
   show{T.keep _ _ _ rZ λb hb o e=>(J8.pin (b,o)<|b8 _<|b8 _<|wM hb e).1,23};let(o,e,d):=T.obj _ _ rZ b hb;show(J8.pin (b,o)<|b8 _<|b8 _<|wM hb e).2.1
  show dR (ht _ _ _ _ _ s7 _ H7 _ J7 q7) (λok8 s8 ahy=>?_) (λ_ _ z=>z.elim);let(H8,J8,q8):=ahy;cases ok8 with
  |false=>
   rw[az bJ]at q8;rw[az bJ];let(m',hm,w8):=q8;let(t8,n8):=pfp J8;show{m',hm,i+1,own,H8,ys,vs,k,l7,J8.A4,t8,n8,rv,w8}
  |true=>
   rw[aL rfl]at q8;rw[aL rfl];show dR (he _ _ _ _ _ s8 _ H8 _ J8 q8) (λy s9 ahx=>?_) (λ_ _ z=>z.elim);let(yv,H9,J9,r9,m',hm,w9):=ahx;let(t9,n9):=pfp J9;let(eD,nD,__):=J9.pin (97,lobj vs k) 75;have hl:=rv.length;show m9 ED ⟨_,eD,rfl⟩ CD (BO _ _) (Fl 97 vs.toArray k y (by rw[aR];(first|lia|omega))) {eD,?_};have eN:=PySem.IsL.update (h:=s9.heap) (l:=97) (items:=vs.toArray) (n:=k) eD (·.push y);have eV:vs.toArray.push y=(vs++[y]).toArray:=by simp
   rw[eV]at eN;obtain⟨k',eN⟩:∃k',(s9.heap.update 97<|Obj.mapSeq (·.push y)).get? 97>lobj (vs++[y]) k':=⟨_,eN⟩;have K9:Inv 48 [] (own++slotsOf fr Z) H9 s9:=J9.As λp hp=>absurd hp 75;have K10:Inv 48 [] (own++slotsOf fr Z) H9 (s9\s9.heap.update 97 (Obj.mapSeq (·.push y))):=
    K9.turned (t':=s9.toks) (it:=97) (λb o hb e=>(bw s9.heap (Obj.mapSeq (·.push y))<|bN hb).trans e) nD dne.1 (.inl av) dne.2 (λp hp=>absurd hp 75)
   show{m',hm,i+1,own,H9,ys++[yv],vs++[y],k',l7,K10.As λp hp=>?_,T.keep _ _ _ t9 λb hb o e=>(bw s9.heap (Obj.mapSeq (·.push y))<|bA<|b6 b hb).trans e,n9,rv.append<|.cons r9 .nil,w9};have e:p=(97,lobj (vs++[y]) k'):=aw.mp hp;rw[e];show{eN,nD,dne.1,dnf,λv z=>by cases z}
 show codeAny_compStart_list (loop _ 9)<|T.self X.A 0 _ _ _ stn<|loop _ 9
def Le{elt iter tg:xL}{N':Aag}{cl:cr->List (pi×cr)}{fn:pi->Bool}{n0:Nat}{g:TG}{ifs:List xL}{scope:AC}{pos:GM}{wi:TI}{fr:List Nat}{tt:TT}{te:TE}(hc:X.calm=true)(CE:PN X scope N' cl fn n0 fr)(hi:PI X tg iter wi)(hg:∀C s H ex,PG 96 tg g)
  (ht:∀C s H ex,CT 96 ifs tt) (he:∀C s H ex,PE 96 elt te) (hs:∀z,wn iter X.env z=pure z:=by intro _;rfl):
  PE X 53 (oP wi (n0) fr g tt te):=by
 ext bi s Z H Q I h;rw[eval_ListComp];show LQ hc CE hi hg ht he hs I h ?_;ext D C s' H' ys vs k m I5 xi lo lt below vv eD nD nC hn rv hz q;show{m,hn,λh' sb=>?_};have I6:Inv X bi Z H' (s'\h'):=I5.turned (t':=s'.toks) (it:=C) (λb o hb e=>sb.extBut b o hb e) nC (bA<|f9 lt xi) (.inr<|bU<|gX lo xi) (λy c z=>aD<|f9 (below y c z) xi) (λp hp=>aD<|f9 (vv p hp) xi);have eD':h'.get? D>lobj vs k:=sb.extBut _ _ (aD xi) eD;show{-D,_,I6.adopt nD eD' rv hz lo (bA lt) (λy c z=>aD<|below y c z) (λp hp=>aD<|vv p hp),9,q _ nD}
def Dk(hc:X.calm=true)(ST:sL X scope x more fs fr)(hi:PI X tg iter wi)(hg:∀C s H ex,PG 49 tg g)
  (ht:∀C s H ex,CT 49 ifs tt) (he:∀C s H ex,PE 49 elt te) (hs:∀z,wn iter X.env z=pure z:=by intro _;rfl):
  PE X 53 (oP wi (more.length+1) fr g tt te):=Le hc (X5 ST) hi hg ht he hs
def NA{elt iter tg:xL}{y:pi}{py rM:GM}{j:Nat}{N':Aag}{cl:cr->List (pi×cr)}{fn:pi->Bool}{n0:Nat}{g:TG}{ifs:List xL}{scope:AC}{pos:GM}{wi:TI}{fr:List Nat}{tt:TT}{te:TE}(hN:X.N.Nodup)(hj:X.N[j]?>y)(hy:X.env.scope.names.lookup y>.local)(hc:X.calm=true)(CE:PN X scope N' cl fn n0 fr)(hi:PI X tg iter wi)(hg:∀C s H ex,PG 96 tg g)
  (ht:∀C s H ex,CT 96 ifs tt) (he:∀C s H ex,PE 96 elt te) (hs:∀z,wn iter X.env z=pure z:=by intro _;rfl)
  (DK:EQ 53 (some<|.Name y py) rM.line X.env=pure true:=by rfl):PS X (.Assign [.Name y py] 53 rM) (ER j<|oP wi (n0) fr g tt te):=by
 ext bi s Z H D I h;obtain⟨Q,eQ⟩:∃Q:VK,Q=λv H1=>D.nx (Z.set j<|some v) H1:=⟨_,rfl⟩;have h:oP wi (n0) fr g tt te Z H Q:=by rw[eQ];show h
 rw[exec_Assign_Name_used _ _ _ _ DK];show ae<|nv<|ae ?_;change f8 _ _ (comprehension 53 scope X.env _ (newList []) false (wT iter X.env) (some<|assign (.Name y py) X.env)>>=λ_=>pure ()) _ _ s;show ae (dR (LQ (Q:=Q) (R:=λ_ s'=>SP X bi D .next s') hc CE hi hg ht he hs I h ?_) (λ_ s' hq=>ah<|ah hq) λ_ _ e=>e);ext D1 C s' H' ys vs k m I5 xi lo lt below vv eD nD nC hn rv hz q;have I7:=I5.adopt nD eD rv hz lo (bA lt) (λy c z=>aD<|below y c z) (λp hp=>aD<|vv p hp);show Fc<|KQ (v:=-D1) I7 hN hj (.inl hy) 9 (λs3 I8 yR=>?_)<|.inr hy;let(a,sb,ha):=yR;show{m,hn.sameBut sb ?_,λh' sU=>?_}
 ·rcases ha with e|e;·rw[e];show bA (f9 lt xi)
  show bA<|f9 (below _ _ e) xi
 have nC2:upd H' D1 (.lst ys) C=none:=by rw[aC<|bA xi];show nC
 have I9:Inv X bi (Z.set j<|some (-D1)) (upd H' D1<|.lst ys) (s3\h'):=I8.turned (t':=s3.toks) (it:=C) (λb o hb e=>sU.extBut b o hb e) nC2 (bA<|f9 lt xi) (.inr<|bU<|gX lo xi)
  (λy c z=>aD<|f9 (below y c z) xi) (λp hp=>aD<|f9 (vv p hp) xi)
 have q':=q _ nD;rw[eQ]at q';show⟨_,_,I9,q'⟩
def Dg{elt iter tg:xL}{x y:pi}{py rM:GM}{j:Nat}{more:Aag}{g:TG}{ifs:List xL}{scope:AC}{pos:GM}{wi:TI}{fs:Aag}{fr:List Nat}{tt:TT}{te:TE}(hN:X.N.Nodup)(hj:X.N[j]?>y)(hy:X.env.scope.names.lookup y>.local)(hc:X.calm=true)(ST:sL X scope x more fs fr)(hi:PI X tg iter wi)(hg:∀C s H ex,PG 49 tg g)
  (ht:∀C s H ex,CT 49 ifs tt) (he:∀C s H ex,PE 49 elt te) (hs:∀z,wn iter X.env z=pure z:=by intro _;rfl)
  (DK:EQ 53 (some<|.Name y py) rM.line X.env=pure true:=by rfl):PS X (.Assign [.Name y py] 53 rM) (ER j<|oP wi (more.length+1) fr g tt te):=NA hN hj hy hc (X5 ST) hi hg ht he hs DK
def CL(wi:TI)(fr:List Nat)(tt:TT)(te:TE):sP wi fr tt te=oP wi 1 fr (yW 0) tt te:=by
 funext Z H Q;unfold sP oP;congr 1;funext J H1;show propext (exists_congr λW=>and_congr_right λ_=>?_);show jm λi=>jm λm=>jm λys=>jm λH2=>jm λ_=>?_;show or_congr Kt (and_congr_right λ_=>and_congr_right λ_=>jm λv=>jm λH3=>jm λ_=>?_);constructor
 ·ext h own ho
  match own,ho with
  |[o],_=>show{[some v],9,9,h}
 ext h;let(o4,e,l,q):=h [none] rfl;show q
def NL(hc:X.calm=true)(S:rD X scope x fs fr)(hi:PI X 27 iter wi)
  (ht:∀C s H ex,CT 61 ifs tt) (he:∀C s H ex,PE 61 elt te) (hs:∀z,wn iter X.env z=pure z:=by intro _;rfl):
  PE X (.ListComp elt [{27,iter,ifs,0}] scope pos) (sP wi fr tt te):=by
 rw[CL];show Dk (more:=[]) hc {S,S.nd} hi (λC s H ex=>jw (i:=0) S.nd 9 (Or.inl<|j5 S.loc)<|.inr<|j5 S.loc) ht he hs
def hG(hc:X.calm=true)(S:rD X scope x fs fr)(hi:PI X 27 iter wi)
  (he:∀C s H ex,PE 61 elt te) (hs:∀z,wn iter X.env z=pure z:=by intro _;rfl):
  PE X (.ListComp elt [{27,iter,[],0}] scope pos) (sP wi fr EO te):=NL hc S hi (λ_ _ _ _=>Jk) he hs
def o8(hc:X.calm=true)(S:rD X scope x fs fr)(hi:PI X 27 iter wi)
  (ht:∀C s H ex,PT 61 c tc) (he:∀C s H ex,PE 61 elt te) (hs:∀z,wn iter X.env z=pure z:=by intro _;rfl):
  PE X (.ListComp elt [{27,iter,[c],0}] scope pos) (sP wi fr tc te):=NL hc S hi (λC s H ex=>D6<|ht C s H ex) he hs
def FX(hN:X.N.Nodup)(hj:X.N[j]?>y)(hy:X.env.scope.names.lookup y>.local)
  (hc:X.calm=true) (S:rD X scope x fs fr) (hi:PI X 27 iter wi)
  (ht:∀C s H ex,CT 61 ifs tt) (he:∀C s H ex,PE 61 elt te) (hs:∀z,wn iter X.env z=pure z:=by intro _;rfl)
  (DK:EQ (.ListComp elt [{27,iter,ifs,0}] scope pos) (some<|.Name y py) rM.line X.env=pure true:=by rfl):
  PS X (.Assign [.Name y py] (.ListComp elt [{27,iter,ifs,0}] scope pos) rM) (ER j<|sP wi fr tt te):=by
 rw[CL];show Dg (more:=[]) hN hj hy hc {S,S.nd} hi (λC s H ex=>jw (i:=0) S.nd 9 (Or.inl<|j5 S.loc)<|.inr<|j5 S.loc) ht he hs DK
def wH{elt iter:xL}{x y:pi}{px py rM:GM}{scope:AC}{pos:GM}{wi:TI}{fs:Aag}{fr:List Nat}{te:TE}{j:Nat}(hN:X.N.Nodup)(hj:X.N[j]?>y)(hy:X.env.scope.names.lookup y>.local)
  (hc:X.calm=true) (S:rD X scope x fs fr) (hi:PI X 27 iter wi)
  (he:∀C s H ex,PE 61 elt te) (hs:∀z,wn iter X.env z=pure z:=by intro _;rfl)
  (DK:EQ (.ListComp elt [{27,iter,[],0}] scope pos) (some<|.Name y py) rM.line X.env=pure true:=by rfl):
  PS X (.Assign [.Name y py] (.ListComp elt [{27,iter,[],0}] scope pos) rM) (ER j<|sP wi fr EO te):=FX hN hj hy hc S hi (λ_ _ _ _=>Jk) he hs DK
def xq(hN:X.N.Nodup)(hj:X.N[j]?>y)(hy:X.env.scope.names.lookup y>.local)
  (hc:X.calm=true) (S:rD X scope x fs fr) (hi:PI X 27 iter wi)
  (ht:∀C s H ex,PT 61 c tc) (he:∀C s H ex,PE 61 elt te) (hs:∀z,wn iter X.env z=pure z:=by intro _;rfl)
  (DK:EQ (.ListComp elt [{27,iter,[c],0}] scope pos) (some<|.Name y py) rM.line X.env=pure true:=by rfl):
  PS X (.Assign [.Name y py] (.ListComp elt [{27,iter,[c],0}] scope pos) rM) (ER j<|sP wi fr tc te):=FX hN hj hy hc S hi (λC s H ex=>D6<|ht C s H ex) he hs DK
def uH(hc:X.calm=true)(S:sL X scope x more fs fr)(hi:PI X tg iter wi)(hg:∀C s H ex,PG 49 tg g)
  (he:∀C s H ex,PE 49 elt te) (hs:∀z,wn iter X.env z=pure z:=by intro _;rfl):
  PE X (.ListComp elt [{tg,iter,[],0}] scope pos) (oP wi (more.length+1) fr g EO te):=Dk hc S hi hg (λ_ _ _ _=>Jk) he hs
def Ij{elt iter tg c:xL}{x:pi}{more:Aag}{g:TG}{scope:AC}{pos:GM}{wi:TI}{fs:Aag}{fr:List Nat}{tc:TT}{te:TE}(hc:X.calm=true)(S:sL X scope x more fs fr)(hi:PI X tg iter wi)(hg:∀C s H ex,PG 49 tg g)
  (ht:∀C s H ex,PT 49 c tc) (he:∀C s H ex,PE 49 elt te) (hs:∀z,wn iter X.env z=pure z:=by intro _;rfl):
  PE X (.ListComp elt [{tg,iter,[c],0}] scope pos) (oP wi (more.length+1) fr g tc te):=Dk hc S hi hg (λC s H ex=>D6<|ht C s H ex) he hs
def j7(h:Uy X.env.scope X.N scope x fs fr=true:=by kernel_rfl)(h2:decide (x::more++fs).Nodup=true:=by kernel_rfl):sL X scope x more fs fr:={cA h,aV h2}
def qj{K:Frag}(hc:X.calm=true)(h:Co X es t)(hK:X.K=K:=by rfl)
  (hn:(GT es X.env).length=n:=by rfl) (iF:(GT es X.env).findIdx? (·.1)=none:=by rfl):PG X (.Tuple es k pos) (ZW K n t):=hK▸iE hc h hn iF
def gz(hN:decide X.N.Nodup=true:=by kernel_rfl)(hi:X.N[i]?>x:=by rfl)(hl:X.env.scope.names.lookup x>.local:=by first|rfl|exact j5 rfl):PG X 71 (yW i):=
 jw (aV hN) hi (.inl hl) (.inr hl)
variable{K:Frag}{a:cr}{xs:Aan}{fr:List Nat}{tt:TT}{te:TE}{Z:St}{H1:Hp}{R:cr->Aan->Hp->Prop}
abbrev Ja(K:Frag):TG:=ZW K 2<|Ui (yW 0)<|Ui (yW 1) afn
abbrev zk(J:It)(k:Nat)(fr:List Nat)(g:TG)(tt:TT)(te:TE)(Z:St)(H1:Hp)(R:cr->Aan->Hp->Prop):Prop:=
 ∃W:Nat->Nat->Aan->Hp->Prop,(∃m,W 0 m [] H1)/\∀i m ys H2,W i m ys H2->
 (J.stop i H2/\91<=dL/\∀l,H2 l=none->R l ys H2)\/
 (J.go i H2/\91<dL/\∀v H3,J.Fx i H2 v H3->∀own:St,own.length=k->g v (own++slotsOf fr Z) H3 λσ4 H4=>∃NO,σ4=NO++slotsOf fr Z/\NO.length=k/\tt σ4 H4 λb H5=>
  if b=true then te σ4 H5 (λy H6=>∃m',m'<m/\W (i+1) m' (ys++[y]) H6)else∃m',m'<m/\W (i+1) m' ys H5)
def EU{v a b:V}{own rest:St}(ho:own.length=2)(ev:v=-p)(hp:aZ K H p [a,b])(h:Q (some a::some b::rest) H):Ja K v (own++rest) H Q:=by
 cases own with
 |nil=>cases ho
 |cons o1 own=>cases own with
  |nil=>cases ho
  |cons o2 own=>cases own with
   |nil=>show⟨p,_,ev,hp,rfl,_,_,rfl,_,_,rfl,rfl,h⟩
   |cons=>cases ho
def yZ(Pv:Nat->Aan->Hp->Prop)(hx:55<dL)(h0:Pv 0 [] H1)(hl:∀i ys H,i<=55->Pv i ys H->aZ K H a xs/\91<=i)
  (hs:∀(i:Nat)(x:V)(ys:Aan)(H:Hp)(N:Aan->Hp->Prop),xs[i]?>x->Pv i ys H->(∀gL H',Pv (i+1) gL H'->N gL H')->
   ∃p b c,x=-p/\aZ K H p [b,c]/\tt (some b::some c::slotsOf fr Z) H λt H4=>if t=true then te (some b::some c::slotsOf fr Z) H4 103 else N ys H4)
  (hd:∀ys H,Pv 55 ys H->∀l,H l=none->R l ys H):zk (Yh K a) 2 fr (Ja K) tt te Z H1 R:=by
 show{λi m ys H=>m=55 -i/\i<=55/\Pv i ys H,{55,75,aF _,h0},?_};ext i m ys H ⟨rfl,hi,p⟩;let(q,hy):=hl i ys H hi p;by_cases b6:i<55;·show .inr {{xs,_,q,aq b6},8,?_};ext v H3 ⟨rfl,hv⟩ own ho;let(pp,b,c,ev,hp,h):=hs i v ys H3 (λgL H'=>∃m',m'<55 -i/\m'=55 -(i+1)/\i+1<=55/\Pv (i+1) gL H') (hv xs q) p λgL H' p'=>{_,8,9,b6,p'};show EU ho ev hp {[some b,some c],9,9,h}
 have e:i=55:=by lia
 subst e;show .inl {{xs,q,ao _},8,hd ys H p}
def BC(Pv:Nat->Aan->Hp->Prop)(hx:55<dL)(h0:Pv 0 [] H1)(hl:∀i ys H,i<=55->Pv i ys H->aT K H a xs/\91<=i)
  (hs:∀(i:Nat)(x:V)(ys:Aan)(H:Hp)(N:Aan->Hp->Prop),xs[i]?>x->Pv i ys H->(∀gL H',Pv (i+1) gL H'->N gL H')->
   ∃p b c,x=-p/\aZ K H p [b,c]/\tt (some b::some c::slotsOf fr Z) H λt H4=>if t=true then te (some b::some c::slotsOf fr Z) H4 103 else N ys H4)
  (hd:∀ys H,Pv 55 ys H->∀l,H l=none->R l ys H):zk (Yj K a) 2 fr (Ja K) tt te Z H1 R:=by
 show{λi m ys H=>m=55 -i/\i<=55/\Pv i ys H,{55,75,aF _,h0},?_};ext i m ys H ⟨rfl,hi,p⟩;let(q,hy):=hl i ys H hi p;by_cases b6:i<55;·show .inr {{xs,_,q,aq b6},8,?_};ext v H3 ⟨rfl,hv⟩ own ho;let(pp,b,c,ev,hp,h):=hs i v ys H3 (λgL H'=>∃m',m'<55 -i/\m'=55 -(i+1)/\i+1<=55/\Pv (i+1) gL H') (hv xs q) p λgL H' p'=>{_,8,9,b6,p'};show EU ho ev hp {[some b,some c],9,9,h}
 have e:i=55:=by lia
 subst e;show .inl {{xs,q,ao _},8,hd ys H p}
end
def vA(a b:pi):Bool:=!decide (b.cps.toList<a.cps.toList)
def EZ(a b:pi):vA a b=true↔a.cps.toList<=b.cps.toList:=by unfold vA;rw[wy,decide_eq_false_iff_not];show Kt
def Lr(a b c:pi)(h1:vA a b=true)(h2:vA b c=true):vA a c=true:=by rw[EZ]at*;show List.le_trans h1 h2
def Zq{a b:pi}(h1:vA a b=true)(h2:vA b a=true):a=b:=by rw[EZ]at*;show ext_toList<|List.le_antisymm h1 h2
def Ww(a b:pi):(vA a b||vA b a)=true:=by
 rcases List.le_total a.cps.toList b.cps.toList with h|h;·rw[(EZ a b).mpr h,Bool.true_or]
 rw[(EZ b a).mpr h,EG]
def ou(zs:Aag):Aag:=zs.mergeSort vA
def wD(zs:Aag):(ou zs).Perm zs:=om zs vA
def S9(zs:Aag):(ou zs).Pairwise (λa b=>vA a b=true):=qG Lr Ww zs
theorem FW:∀(r:Aag)(p:pi),risingS p r=true->(p::r).Pairwise (λa b=>vA a b=true)
 |[]=>λp _=>by simp
 |x::r=>λp h=>by
  have h':(!ltCps x.cps.toList p.cps.toList&&risingS x r)=true:=h;rw[cn]at h';have ih:=FW r x h'.2;have h1:vA p x=true:=by have:=h'.1;rw[ltCps_eq]at this;show this
  show eW.mpr {λy hy=>?_,ih};rcases aJ.mp hy with rfl|hy;·show h1
  show Lr p x y h1<|eT ih hy
theorem PU:∀(l:Aag),sortedS l=true->l.Pairwise (λa b=>vA a b=true)
 |[],_=>.nil
 |x::r,h=>FW r x h
theorem Rr:∀{l m:Aag},l.Perm m->l.Pairwise (λa b=>vA a b=true)->m.Pairwise (λa b=>vA a b=true)->l=m
 |[],m=>λh _ _=>(Cr.mp h).symm
 |a::l,[]=>λh _ _=>absurd h.length_eq 75
 |a::l,b::m=>λh h1 h2=>by
  have e:a=b:=by
   rcases aJ.mp (h.mem_iff.mp<|av)with e|e;·show e
   rcases aJ.mp (h.mem_iff.mpr<|av)with q|q;·show q.symm
   show Zq (eT h1 q)<|eT h2 e
  subst e;rw[Rr (AU a|>.mp h) (eW.mp h1).2 (eW.mp h2).2]
def YL{l zs:Aag}(h:l.Perm zs)(hs:sortedS l=true):l=ou zs:=Rr (h.trans (wD zs).symm) (PU l hs)<|S9 zs
def YH:∀{zs:Aag}{us:Aaf},StrsAre us zs->Vals (zs.map V.str) us:=by
 ext _ _ h
 induction h with
 |nil=>show .nil
 |cons y t _ ih=>show .cons ⟨t,rfl⟩ ih
section
variable{X:Cx}
inductive Rg(x:V)(vs:Aan)(H:Hp)(Q:VK):Prop
 |mk l xs i y (_:x=-l) (_:vs=[.int i,y]) (_:H l>.lst xs) (_:0<=i) (_:i<=(xs.length:Int)) (_:xs.length<1000) (_:Q .cx (upd H l<|.lst<|xs.take i.toNat++y::xs.drop i.toNat))
def acu(aK:Aaf)(u:jp)(i:Int)(h0:0<=i)(h1:i.toNat<=aK.length):(λxs:Aak=>have k:=if i<0 then(i+((xs.size:Nat):Int)).toNat else min i.toNat xs.size;(xs.extract 0 k).push u++xs.extract k) aK.toArray=(aK.take i.toNat++u::aK.drop i.toNat).toArray:=by
 have e:140=i.toNat:=by rw[az ∅,aR];lia
 change((aK.toArray.extract 0 140).push u++aK.toArray.extract 140)=_;rw[e];apply Array.ext';simp;show gv<|iM▸ao _
def Ln:Pz X "list.insert" Rg:=by
 ext bi s Z H x vs v us Q I rx rv h;let(l,xs,i,y,rfl,rfl,hH,h0,h1,hz,q):=h;cases rx;obtain⟨_,u,rfl,⟨t,rfl⟩,ru⟩:=Vals.two rv;let(z,aK,n,r,hl,e):=I.Bs hH;show m9 F.slot_list_insert ⟨_,e,rfl⟩ F.entry_list_insert (F.args_list_insert_3 _ _ _) (AutoListH.list_insert_list_int_val_1 l aK.toArray n i t u ?_ (by rw[aR];lia)) {e,?_};·have:=fitsIndex_both (k:=i) ∅ ∅;simpa using this
 show{.cx,_,I.Od (its':=aK.take i.toNat++u::aK.drop i.toNat) hH e (acu aK u i h0 ∅) ((r.take _).append<|.cons ru<|r.drop _) ?_,9,q};have:=cw (n:=55+1) ∅;rw[aU,bc,aW,iM];lia
inductive adX(K:Frag)(neg:Bool)(x:V)(y:V)(H:Hp)(Q:VK):Prop
 |mk d ds (_:Dt K H d x) (_:(Dt K H (.tuple ds) y\/Dt K H (.list ds) y)) (_:PyData.canLayAll0 ds=true) (_:d.canLay0=true) (_:d.depth<=060) (_:Q (.bl (if neg then !(ds.any λe=>PyData.eqv e d)else ds.any λe=>PyData.eqv e d)) H)
def aed(hu:X.A.units+64<wS):je X (wv .In) (adX X.K false):=by
 ext bi s Z H x y v u Q I rx ry h;let(d,ds,h1,h2,h3,h4,h5,q):=h;let(as,r1):=uG I d x v h1 rx;rcases h2 with h2|h2;·let(bs,r2):=uG I _ y u h2 ry;show SeqAt.in_tuple_reads r2 r1 h3 h4 ∅ {.bl _,H,I,9,q}
 let(bs,r2):=uG I _ y u h2 ry;show SeqAt.in_list_reads r2 r1 h3 h4 ∅ {.bl _,H,I,9,q}
def ab3{K:Frag}(hu:X.A.units+64<wS)(h:X.K=K:=by rfl):je X (wv .In) (adX K false):=h▸aed hu
def agl(hl:52=true:=by rfl)(hb:At (.Name d pd) "get" X.env (wT (.Name d pd) X.env)=wT (.Name d pd) X.env:=by rfl):M2 X (.Name d pd) "get" Gc 27 (.Name y py) fu:=⟨hb,rfl,hl,rfl⟩
def da.aaL{P:io}{w:mo}{H:Hp}{h:ss}{a:cr}{o:HO}(x:da P w H h a o):∃u,h.get? a>u:=by
 cases o with
 |lst xs=>let(__,__,__,__,e):=x;show⟨_,e⟩
 |tup xs=>let(__,__,__,__,u,e,__):=x;show⟨_,e⟩
 |dK kvs=>let(__,__,__,__,u,__,__,e,__):=x;show⟨_,e⟩
 |set S n=>let(u,__,__,__,e,__):=x;show⟨_,e⟩
 |ins C dx fs=>let(__,__,__,e,__):=x;show⟨_,e⟩
 |own y=>show x
 |xd fs=>obtain⟨_,⟨u,_,_,e,_⟩,_⟩:=x;show⟨_,e⟩
 |rng lo hi=>let(__,__,__,e):=x;show⟨_,e⟩
 |fR ob u=>show{_,x.1}
 |KP ps=>show⟨_,x⟩
 |met f y=>show⟨_,x⟩
 |ext φ=>show x.2.1
variable{bi:Aab}{Z:St}{H:Hp}{s:fv}{h':ss}{a:cr}{o:HO}
def Inv.none_(I:Inv X bi Z H s)(hn:s.heap.get? a=none):H a=none:=by
 cases q:H a with
 |none=>rfl
 |some u=>
  let(v,e):=(I.bE a u q).aaL;rw[hn]at e;cases e
def Inv.agp{t':Nat}(I:Inv X bi Z H s)(k:∀b u,s.heap.get? b>u->h'.get? b>u)(hn:s.heap.get? a=none)(new:da 81 X.w (upd H a o) h' a o):
  Inv X bi Z (upd H a o) (s\(h',t')):=by
 have hH:=I.none_ hn;have ne:∀{b u},s.heap.get? b>u->b≠a:=λq z=>by rw[z,hn]at q;cases q
 show I.un {λb u q _ _ _=>k b u q,λb u q _ _ _=>{u.slots,k b u q},λb u q n _=>by rw[aC<|ne q];show n,λb u q _=>{u,k b u q},λb xs q=>by rw[aC<|a9 q hH];show q,
  λb u v q=>by rw[aC<|a9 q hH];show q,λb ps q=>{#[],by rw[aC<|a9 q hH,q];simp}} λb u e=>?_
 by_cases hb:b=a;·subst hb;rw[au]at e;cases e;show new
 rw[aC hb]at e;show(I.bE b u e).j3 (λc v _ q=>k c v q) (λc q=>by rw[aC<|a9 q hH];show q) λc xs q=>by rw[aC<|a9 q hH];show q
noncomputable abbrev Pn:Aaf:=[.type "ValueError",.type "Exception",.type "BaseException",.type "object"]
def Hl(e C:cr)(dd:Aaj):ss->Prop:=λh=>∃t,h.get? e>{cls:=-C,dict:=dd,data:=.fields #[-t,.none,.none,.none,.bool false,.none]}
def acD{P:io}{w:mo}{H:Hp}{h:ss}{e C:cr}{dd:Aaj}(x:Hl e C dd h):da P w H h e (.ext<|Hl e C dd):=
 {x,by let(__,q):=x;show⟨_,q⟩,λ_ _ ⟨t,q⟩ k=>{t,k _ q}}
def Xx{K:Frag}{h:ss}{C:cr}{Po:Aaf}{N8:String}(X:K.In h)(q:PySem.W.excIn K C Po N8=true):
  ∃bm N nm qn bs hd sn sub ab col dd k0 k1 k2 k3 k5 mN,h.get? C>excClassObj nm qn C N bs bm hd sn sub ab col dd k0 k1 k2 k3 k5 N8/\h.Ns N mN/\mN "__init__"=none/\OwnTail h Po bm:=by
 unfold PySem.W.excIn at q;split at q
 case h_2=>cases q
 case h_1 d cd sl ho=>
  split at q
  case h_2=>cases q
  case h_1 C2 bm k0 k1 k2 k3 n k5 hm hs=>
   simp only[cn,k8,wy]at q;obtain⟨⟨⟨⟨⟨e1,e2⟩,e3⟩,e4⟩,e5⟩,e6⟩:=q;subst e1 e2;cases cd with
   |mk nm bs mro ns qn hd sn sub ab col del=>
    subst hm e3;cases sl with
    |mk l=>
     have hl:=hs;subst hl;show{_,_,_,_,_,_,_,_,_,_,_,_,_,_,_,_,_,X _ _ ho,.of_isNs<|PySem.W.isNs_of_in X e5,PySem.W.nsMap_none_of_in X e5 e6,Ej X e4}
end
section
variable{X:Cx}{C:cr}{x:pi}{p pos:GM}{e:xL}{es:List xL}{t:TA}
def ag1(C:cr)(t:TA):TE:=λZ H Q=>t Z H λvs H1=>vs.length<=1000/\∀a,H1 a=none->Q (-a) (upd H1 a<|.ext<|Hl a C none)
def ad9(q:PySem.W.excIn X.K C Pn "ValueError.__new__"=true)(kp:keepIn X.K (-C)=true)(hg:Gl X x)(hm:X.mg x>-C)
  (ha:PA X (e::es) t) (vE:24=false:=by decide) (he:re (e::es) X.env=(false,wT e X.env)::re es X.env:=by rfl) (ie:(Db pos 69).any (·.1)=false:=by rfl):
  PE X 72 (ag1 C t):=by
 ext bi s Z H Q I h;show jD<|AA I hg hm ?_ vE;show pN I.ok.mod.RG kp (oO (ha pos bi s Z H _ I h) λus s1 vs H1 I1 r ⟨hl,k⟩=>{I1.qA,?_}) he ie;let(bm,N,nm,qn,bs,hd,sn,sub,ab,col,dd,k0,k1,k2,k3,k5,mN,hC,hn,hi,T):=Xx I1.qA q;let(hp,g,d,tk,os):=s1;show wpAny_call_exc_subT PySem.F.excBase_ValueError T hC hn hi (λh' a m=>?_) (by change us.length<=dL;rw[<-r.length];show bU<|cw hl);let(mk,mn,tt,m1,__,__):=m;show{-a,_,I1.agp mk mn<|acD ⟨tt,m1⟩,9,k a<|I1.none_ mn}
end
def xP(K:Frag)(C:cr)(Po:Aaf)(N8:String):Bool:=match K.lookup C with
 |some ⟨.type "type",_,.cls cd,sl⟩=>(match cd.mro,sl.toList with
  | .ref C2::bm,[_,_,_,_,some<|.builtin n,_]=>C2==C&&(n==N8&&(!cd.hasDel&&PySem.W.tailIn K Po bm))
  |_,_=>false)
 |_=>false
def Jb{K:Frag}{h:ss}{C:cr}{Po:Aaf}{N8:String}(X:K.In h)(q:xP K C Po N8=true):
  ∃bm N nm qn bs hd sn sub ab col dd k0 k1 k2 k3 k5,h.get? C>excClassObj nm qn C N bs bm hd sn sub ab col dd k0 k1 k2 k3 k5 N8/\OwnTail h Po bm:=by
 unfold xP at q;split at q
 case h_2=>cases q
 case h_1 d cd sl ho=>
  split at q
  case h_2=>cases q
  case h_1 C2 bm k0 k1 k2 k3 n k5 hm hs=>
   simp only[cn,k8,wy]at q;let(e1,e2,e3,e4):=q;subst e1 e2;cases cd with
   |mk nm bs mro ns qn hd sn sub ab col del=>
    subst hm e3;cases sl with
    |mk l=>
     have hl:=hs;subst hl;show{_,_,_,_,_,_,_,_,_,_,_,_,_,_,_,_,X _ _ ho,Ej X e4}
end L2
namespace L2
open PySem PySem.Spec PyProof.Rows PySem.W Builtin Builtin.ObjectAttr
noncomputable def XA:Aaf->Bool
 | .ref _::r=>XA r
 |l=>l==[.type "ValueError",.type "Exception",.type "BaseException",.type "object"]
structure zV(K:Frag)(C:cr):Prop where
 ga:findIn K (-C) "__getattribute__">some (.builtin "BaseException.__getattribute__")
 gt:findIn K (-C) "__getattr__">none
 sa:findIn K (-C) "__setattr__">some (.builtin "object.__setattr__")
 be:mroIn K C 79>true
 ob:mroIn K C 45>true
 hd:hasDictIn K C=true
 tl:(clsIn K C).any (λcd=>XA cd.mro)=true
 cl:findIn K (-C) "__class__">some 115
 cg:specialIn K 115 "__get__">some (.builtin "getset_descriptor.__get__")
 ct:takesIn K 115>true
section
variable{prog:io}{w:mo}{A:wf}{E:Aad}{s:fv}{K:Frag}{x C:cr}{ox:Go}{od:Option Go}{name:pi}
def Zw:builtinKind "BaseException.__getattribute__">.slot:=by decide+kernel
def U5:splitId "BaseException.__getattribute__">("BaseException","__getattribute__"):=by decide+kernel
def aam{R:P3->fv->Prop}{tk:Tok}(X:K.In s.heap)(I:InstAt s.heap x ox C od)(e:zV K C)
  (h:f8 77 A.in1 (Builtin.«object.__getattribute__» {[-x,.str name tk],[]}) (λfin s'=>match fin with| .done f=>R (.ok f) s'| .again c'=>c'.quiet=true/\AT 77 A c' R s') (λe s'=>R (.error e) s') s):
  AT 77 A (.call (.builtin "BaseException.__getattribute__") {[-x,.str name tk],[]}) R s:=by
 show m6 PySem.F.excAttr_ValueError.ga.plain PySem.F.entry_bexc_ga<|@check_slot 77 _ _ s "BaseException.__getattribute__" "BaseException" "__getattribute__" (-x) [.str name tk] [] _ Zw U5 (I.type.andThen<|looks_mroIn X e.be) (PySem.F.args_bexc_ga _ _) h
def acB{Q:Aad}{tk:Tok}{fill expr:Bool}(X:K.In s.heap)(I:InstAt s.heap x ox C od)(e:zV K C)
  (h:AT 77 A (.call (.builtin "BaseException.__getattribute__") {[-x,.str name tk],[]}) (λr s'=>match r with| .ok (.ret v)=>f8 77 A (handedOut v) Q E s'|_=>False) s):
  f8 77 A (getAttrBy (-x) (.str name tk) fill expr) Q E s:=by
 show bP<|ae<|I.type.here<|ae<|(looks_findIn X e.ga).here ?_;have n1:¬((onTheHeap (Value.ref C)&&Value.builtin "BaseException.__getattribute__"==Value.builtin "object.__getattribute__")=true):=by change ¬((true&&Value.builtin "BaseException.__getattribute__"==Value.builtin "object.__getattribute__")=true);decide
 change f8 _ _ (if(onTheHeap (Value.ref C)&&Value.builtin "BaseException.__getattribute__"==Value.builtin "object.__getattribute__")=true then _ else _) _ _ _;unfold getAttrByItsOwn hookBefore;show ae<|(looks_findIn X e.gt).here<|ae<|fC<|bP ?_;unfold callGetattribute;rw[az (by cases expr<;>decide)];unfold boundAndCalled;show ae 83;show wB (ko h λr s' z=>?_);rcases r with e|(v|_|_|_)<;>first|show z|show z.elim
def Xz{Q:Aah->fv->Prop}(X:K.In s.heap)(I:InstAt s.heap x ox C od)(e:zV K C)(h:Q (some (-C)) {s with toks:=89+1}):
  f8 77 A (getAttr? (-x) "__class__") Q E s:=by
 have hf:findObj K C od "__class__">.bind (.builtin "getset_descriptor.__get__") 115:=by let(cd,hc,__):=any_some e.hd;unfold findObj;rw[hc,Option.bind_some,e.cl,Option.bind_some];simp[e.cg,e.ct]
 let(hp,g,d,t,os):=s;have L1:=looks_find (M:=f' prog w) X I hf;show ae<|wpAny_mkText<|ae<|fC<|acB X I e<|aam X I e ?_;show ae<|ah<|ae<|ah<|ae<|(I.type (M:=f' prog w)).at<|ae<|L1.at ?_;show ae<|bP<|wB<|class_get X I e.ob<|ah<|handed_on 9<|ah h
def Oi(e:zV K C):KitX K (-x) (-C) (λh=>∃ox od,InstAt h x ox C od) where
 ty:=λ_ _ _ zq=>by let(__,__,I):=zq;show I.type
 it:=λ_ _ X _=>by
  let(cdD,IW,__):=any_some e.hd;unfold clsIn at IW;split at IW;·rename_i ho;ext A' Q' E' s' k q;show ae<|Ad (k _ _<|X _ _ ho)<|ah q
  cases IW
 ne:=λh tp dd aK n sl X F6=>by
  let(cdD,IW,__):=any_some e.hd;show iu.mpr λq=>?_;have ee:=Value.ref.inj<|k8.mp q;subst ee;unfold clsIn at IW;split at IW;·rename_i ho;have z:=(X _ _ ho).symm.trans F6;cases z
  cases IW
 ca:=λX zq k=>by let(__,__,I):=zq;show Xz X I e k
end
section
variable{X:Cx}{e:xL}{pos:GM}
def o6{x:pi}{c:cr}(hg:Gl X x)(hm:X.mg x>-c)(hd:24=false:=by decide):PE X 71 (tC (-c)):=JV (v:=-c) hg hm rfl hd
def af1(te:TE):TE:=λZ H Q=>te Z H λx H1=>((∃z:pi,x=.str z/\z.length<=1000)\/∃i:Int,x=.int i/\i.natAbs.log2<1920)/\∀y:pi,Q (.str y) H1
def ab0{c1 c2:pi}{k1 k2:Nat}{p1 p2 p3:GM}{te:TE}(he:PE X e te)(h1:c1.length<=1000)(h2:c2.length<=1000):
  PE X (.JoinedStr [.Constant (.str c1) k1 p1,.FormattedValue e (-1) none p2,.Constant (.str c2) k2 p3] pos) (af1 te):=by
 ext bi s Z H Q I h;have big:10000<=dL:=by rw[bM];decide
 show JoinedStr_many<|uM<|qb {?_,uM<|FormattedValue_plain (dk (he bi _ Z H _ 28 h) λv s1 x H1 I1 r1 ⟨q1,q⟩=>?_)}
 ·have:(Str.empty++c1).length=c1.length:=by rw[dQ];simp[Str.empty,Str.length]
  lia
 have l0:(Str.empty++c1).length=c1.length:=by rw[dQ];simp[Str.empty,Str.length]
 rcases q1 with⟨z,rfl,hz⟩|⟨i,rfl,hi⟩
 ·let(t,rfl):=r1;show formatField_str (λt' tk=>{?_,uM<|qb {?_,joinParts_nil {.str _,H1,?_,41,q _} ?_}}) ∅;·rw[dQ];lia
  ·rw[dQ,dQ];lia
  ·show(I1.tok _).tok _
  rw[dQ,dQ];lia
 let(t,rfl):=r1;have li:(Str.ofString<|toString i).length<=2000:=by have:=int_text_length_le (a:=i) (k:=1920) 7 hi;rw[PySem.ofString_length];lia
 show formatField_int_small hi {?_,uM<|qb {?_,joinParts_nil {.str _,H1,?_,41,q _} ?_}};·rw[dQ];change(Str.empty++c1).length+(Str.ofString<|toString i).length<=_;lia
 ·rw[dQ,dQ];change(Str.empty++c1).length+(Str.ofString<|toString i).length+_<=_;lia
 ·show(I1.tok _).tok _
 rw[dQ,dQ];change(Str.empty++c1).length+(Str.ofString<|toString i).length+_<=_;lia
end
end L2
namespace L2
open PySem PySem.Spec PyProof.Rows PySem.W
abbrev DV(C:cr)(dd:Aaj)(t:cr)(tb:jp):Go:={cls:=-C,dict:=dd,data:=.fields #[-t,tb,.none,.none,.bool false,.none]}
def yn(e C:cr)(dd:Aaj):ss->Prop:=λh=>∃t tb,h.get? e>DV C dd t tb
def acC{P:io}{w:mo}{H:Hp}{h:ss}{e C:cr}{dd:Aaj}(x:yn e C dd h):da P w H h e (.ext<|yn e C dd):=
 {x,by let(__,__,q):=x;show⟨_,q⟩,λ_ _ zq k=>by let(t,tb,q):=zq;show{t,tb,k _ q}}
def gone(H:Hp)(e C:cr)(dd:Aaj):Hp:=upd H e<|.ext<|yn e C dd
def vF{H:Hp}{e C:cr}{dd:Aaj}:gone H e C dd e>.ext (yn e C dd):=au
def nY{H:Hp}{e C b:cr}{dd:Aaj}(h:b≠e):gone H e C dd b=H b:=aC h
def Xp{H:Hp}{e C:cr}{dd:Aaj}(h:H e>.ext (yn e C dd)):gone H e C dd=H:=by
 funext b;by_cases q:b=e;·subst q;rw[vF,h]
 rw[nY q]
section
variable{M:Model}{A:wf}{E:Aad}{s:fv}
def LI{base:ss}{env:Uf}{outer:List Uf}{L e C t:cr}{dd:Aaj}{tb head:jp}{nx:Bool}{Q:Unit->fv->Prop}(hfr:A.frames>(env::outer))(hl:s.heap.FunFrames base (env::outer))(hf:env.frame>L)(he:s.heap.get? e>DV C dd t tb)
  (k:∀(h':ss)(T:cr)(oT:Go)(ts:Aak),35<=T->(∀b o,b≠e->b∉rm (env::outer)->s.heap.get? b>o->h'.get? b>o)->(∀b o,b≠e->b∈rm (env::outer)->s.heap.get? b>o->∃sl,h'.get? b>{o with slots:=sl})->
   h'.get? e>DV C dd t (-T)->h'.get? T>oT->oT.data=.fields ts->ts[3]?>.none->Q () (s\h')):
  f8 M A (do let a<-frameOf env;let pl<-entryPlaceOf L nx;let b<-EntryCells.newEntry head a .none (wP L) .none pl;V' (-e) 1 b) (λ_ s'=>f8 M A (setFlight (-e) none) Q E s') E s:=by
 have nfe:e∉rm (env::outer):=λhm=>by let(__,o,ho,hn):=hl.mem hm;rw[he]at ho;cases ho;show hn _ rfl
 show ae (wpAny_frameOf_fun hfr hl hf λh1 vD=>ae (wpAny_entryPlaceOf λpl ie=>?_));show ae<|c9 ?_ (ie.sizeOk5 _ _ _ _ _);have e1:=(vD.2.1 e nfe).trans he;generalize eo:({cls:=.type "traceback",dict:=none,data:=.fields ([head,-L,.none,wP L,.none]++(if pl.isEmpty then List.replicate 6 Value.none else pl)).toArray}:Go)=oT;have dT:oT.data=.fields ([head,-L,.none,wP L,.none]++(if pl.isEmpty then List.replicate 6 Value.none else pl)).toArray:=by rw[<-eo]
 have e2:(h1.push oT).get? e>DV C dd t tb:=af _ e1;have gT:=aH h1<|mH dT;show eY e2 rfl (by change 1<6;decide) ?_;have nT:=bA<|aE e1;have e3:((h1.push oT).update e<|Obj.mapFields (·.setIfInBounds 1 (Value.ref h1.objs.size))).get? e>DV C dd t (.ref h1.objs.size):=cD _ e2 rfl;have gT3:((h1.push oT).update e<|Obj.mapFields (·.setIfInBounds 1 (Value.ref h1.objs.size))).get? h1.objs.size>oT:=(bw _ _<|bN nT).trans gT;show ae<|cE e3 9 (x:=.ref h1.objs.size) 9 ?_;show eY gT3 dT (by simp only[aR,aU,bc,gc]<;>lia) ?_;have keep:∀b o,b≠e->h1.get? b>o->(((h1.push oT).update e<|Obj.mapFields (·.setIfInBounds 1 (Value.ref h1.objs.size))).update h1.objs.size<|Obj.mapFields (·.setIfInBounds 3 ((none:Aaj).elim Value.none λf=>wP f))).get? b>o:=λb o hb q=>by rw[bw _ _<|bA<|aE q,bw _ _<|bN hb];show af _ q
 have dT4:=k9 dT (·.setIfInBounds 3 ((none:Aaj).elim Value.none λf=>wP f));show k _ h1.objs.size _ _ ?_ (λb o hb hn q=>keep b o hb<|(vD.2.1 b hn).trans q) (λb o hb _ q=>?_) ?_ (cD _ gT3<|mH dT4) dT4 ?_;·rw[vD.1];show ao _
 ·let(sl,q'):=vD.2.2 b o q;show{sl,keep b _ hb q'}
 ·rw[bw _ _ nT];show e3
 first|(simp;done)|(rcases ie with rfl|⟨_,_,_,_,_,_,_,rfl⟩<;>simp)
def afL(X:Cx)(bi:Aab)(H:Hp)(h:ss)(e C:cr)(dd:Aaj):Prop:=
 H e>.ext (yn e C dd)/\∃t T oT ts,h.get? e>DV C dd t (-T)/\T≠e/\h.get? T>oT/\oT.data=.fields ts/\ts[3]?>.none/\
  H T=none/\(T∈X.ex\/33<=T)/\T≠92/\(∀x c,X.env.cells.lookup x>c->c≠T)/\∀p∈X.pn++bi,p.1≠T
def afK(X:Cx)(bi:Aab)(H:Hp)(h:ss)(e C:cr)(dd:Aaj):Prop:=H e>.ext (Hl e C dd)\/afL X bi H h e C dd
variable{X:Cx}{bi:Aab}{Z:St}{H:Hp}{e C:cr}{dd:Aaj}
def Inv.fly{h1 h':ss}{ch:Aai}(I:Inv X bi Z H s)(hH:∃φ,H e>.ext φ)(hx:yn e C dd h')(kp:∀b o,b≠e->b∉ch->b∉rm X.stack->s.heap.get? b>o->h'.get? b>o)(ks:∀b o,b≠e->b∉ch->b∈rm X.stack->s.heap.get? b>o->∃sl,h'.get? b>{o with slots:=sl})
  (hc:∀b∈ch,H b=none/\(b∈X.ex\/33<=b)/\b≠92/\(∀x c,X.env.cells.lookup x>c->c≠b)/\∀p∈X.pn++bi,p.1≠b):Inv X bi Z (gone H e C dd) (s\h'):=by
 obtain⟨φ,hH⟩:=hH;have ne:∀{b},H b=none->b≠e:=λn q=>by rw[q,hH]at n;cases n
 have ny:∀{b o},H b>o->(∀ψ,o≠ .ext ψ)->b≠e:=λq n z=>by rw[z,hH]at q;show n _ (bR q).symm
 let(t,tb,he):=hx;show I.call {λb o q n hf xN=>kp b o (ne n) xN hf q,λb o q n hf xN=>ks b o (ne n) xN hf q,λb o q n _=>by rw[nY<|ne n];show n,λb o q xN=>?_,λb xs q=>?_,λb o u q=>?_,λb ps q=>{#[],?_}} (λb o q=>?_) I.bare λb hb=>(hc b hb).2
 ·by_cases h1:b=e;·show{_,h1▸he}
  by_cases h2:b∈rm X.stack;·let(sl,z):=ks b o h1 xN h2 q;show⟨_,z⟩
  show{_,kp b o h1 xN h2 q}
 ·rw[nY (ny q λψ z=>by cases z)];show q
 ·rw[nY (ny q λψ z=>by cases z)];show q
 ·rw[nY (ny q λψ z=>by cases z),q];simp
 by_cases hb:b=e;·subst hb;rw[vF]at q;cases q;show acC ⟨t,tb,he⟩
 rw[nY hb]at q;have nk:∀{c u},H c>u->c≠e->∀v,s.heap.get? c>v->h'.get? c>v:=λhu n v z=>by
  show kp _ v n (λm=>?_) (λm=>?_) z;·rw[(hc _ m).1]at hu;cases hu
  rw[I.ES _ m]at hu;cases hu
 show(I.bE b o q).j3 (λc u hcu z=>?_) (λc z=>?_) (λc xs z=>?_)
 ·rcases hcu with rfl|hcu;·show nk q hb u z
  show nk hcu (ny hcu λψ z=>by cases z) u z
 ·rw[nY (ny z λψ z=>by cases z)];show z
 rw[nY (ny z λψ z=>by cases z)];show z
def O6{M:Model}{A:wf}{E:Aad}{Q:Unit->fv->Prop}(I:Inv X bi Z H s)(hfr:A.frames>X.stack)(iF:X.stack=X.env::X.outer)(hf:X.env.frame>92)(F:afK X bi H s.heap e C dd)
  (k:∀h':ss,Inv X bi Z (gone H e C dd) (s\h')->afL X bi (gone H e C dd) h' e C dd->Q () (s\h')):f8 M A (noteFrame (-e) X.env) (λ_ s'=>f8 M A (setFlight (-e) none) Q E s') E s:=by
 have ZX:=iF▸I.stack;have fin:∀(ch:Aai)(h0 h':ss)(T t:cr)(oT:Go)(ts:Aak),(∃φ,H e>.ext φ)->35<=h0.objs.size->(∀b,b∉ch->h0.get? b=s.heap.get? b)->(∀b∈ch,H b=none/\(b∈X.ex\/33<=b)/\b≠92/\(∀x c,X.env.cells.lookup x>c->c≠b)/\∀p∈X.pn++bi,p.1≠b)->
   h0.objs.size<=T->(∀b o,b≠e->b∉rm (X.env::X.outer)->h0.get? b>o->h'.get? b>o)->(∀b o,b≠e->b∈rm (X.env::X.outer)->h0.get? b>o->∃sl,h'.get? b>{o with slots:=sl})->
   h'.get? e>DV C dd t (-T)->h'.get? T>oT->oT.data=.fields ts->ts[3]?>.none->Q () (s\h'):=λch h0 h' T t oT ts hH hz h0k hc lT kp ks ge gT dT t3=>by
  have lT':=aS hz lT;have J:=I.fly (h1:=h0) hH ⟨t,_,ge⟩ (λb o n hn hfm q=>kp b o n (iF▸hfm)<|(h0k b hn).trans q) (λb o n hn hfm q=>ks b o n (iF▸hfm)<|(h0k b hn).trans q) hc;have fr:∀{b:cr}{o:Go},s.heap.get? b>o->b≠T:=λq z=>by subst z;show absurd (aE q)<|lB.mpr lT'
  obtain⟨φ,hH'⟩:=hH;let(u,heu):=(I.bE e _ hH').aaL;have IF:T≠e:=λz=>fr heu z.symm;show k h' J {vF,t,T,oT,ts,ge,IF,gT,dT,t3,?_,.inr<|aS I.sz lT',bA<|aX I.lt lT',λx c hx z=>?_,λp hp z=>fr (I.pin p hp).1 z};·rw[nY IF];show I.bE.fresh lT'
  let(v,o,ho,__):=I.cell x c hx;show fr ho z
 unfold noteFrame;simp only[hf];rcases F with F|⟨F,t,T,oT,ts,ge,IF,gT,dT,t3,hT⟩;·obtain⟨⟨t,ge⟩,_⟩:=(show da 81 X.w H s.heap e (.ext<|Hl e C dd)from I.bE e _ F);show ae<|cE ge 9 (x:=.none) 9 ?_;show LI (iF▸hfr) ZX hf ge λh' T oT ts a1 a2 a3 a4 a5 a6 a7=>fin [] s.heap h' T t oT ts ⟨_,F⟩ (ao _) (λ_ _=>9) (λb hb=>by cases hb) a1 a2 a3 a4 a5 a6 a7
 show ae<|cE ge 9 (x:=-T) 9 ?_;show ae<|cE gT dT t3 ?_;show ae<|eY gT dT (fF.mp t3).1 ?_;have qX:∀b,b∉[T]->(s.heap.update T<|Obj.mapFields (·.setIfInBounds 3 Value.none)).get? b=s.heap.get? b:=λb hb=>bw _ _ λz=>hb<|aw.mpr z.symm;have nfr:T∉rm (X.env::X.outer):=λhm=>by let(__,o,ho,hn):=ZX.mem hm;rw[gT]at ho;cases ho;show hn _ dT
 show LI (iF▸hfr) (ZX.of_keeps λb o hb hnf=>{o,(qX b λz=>?_).trans hb,9}) hf ((qX e λz=>IF (aw.mp z).symm).trans ge) λh' T' oT' ts' a1 a2 a3 a4 a5 a6 a7=>
  fin [T] _ h' T' t oT' ts' ⟨_,F⟩ (by rw[(Heap.size_update ..)];show ao _) qX (λb hb=>by rw[aw.mp hb];show hT) a1 a2 a3 a4 a5 a6 a7
 rw[aw.mp z,gT]at hb;cases hb;show hnf _ dT
end
def JD(P:io)(w:mo):JC:=λouter H s E v s'=>∃(e C:cr)(dd:Aaj)(H':Hp),v=-e/\s'.os=s.os/\KT s'.gens/\Un (rm outer) [] H H' s.heap s'.heap/\kK P w H' s'.heap/\H' e>.ext (yn e C dd)/\E (-C) dd H'/\
 ∃t T oT ts,s'.heap.get? e>DV C dd t (-T)/\T≠e/\s'.heap.get? T>oT/\oT.data=.fields ts/\ts[3]?>.none/\H' T=none/\35<=T
def Lets(X:Cx)(E:XK):Prop:=∀(bi:Aab)(Z:St)(H:Hp)(s:fv)(e C:cr)(dd:Aaj),Inv X bi Z H s->afK X bi H s.heap e C dd->E (-C) dd (gone H e C dd)->X.xe (-e) s
def Lets.passes{X:Cx}{E:XK}(L:Lets X E):Passes (JD 81 X.w) X E:=by
 ext bi Z H s v s' I ⟨e,C,dd,H',rfl,os,bare,un,bE,hH,hE,t,T,oT,ts,ge,IF,gT,dT,t3,hT,lT⟩;have fr:∀{b:cr}{o:Go},s.heap.get? b>o->b≠T:=λq z=>by subst z;show absurd (aE q)<|lB.mpr lT
 show L bi Z H' s' e C dd (I.aa3 (ch:=[]) os un bE bare λb hb=>by cases hb) (.inr {hH,t,T,oT,ts,ge,IF,gT,dT,t3,hT,.inr<|aS I.sz lT,bA<|aX I.lt lT,λx c hx z=>?_,λp hp z=>fr (I.pin p hp).1 z}) (by rw[Xp hH];show hE);let(v,o,ho,__):=I.cell x c hx;show fr ho z
section
variable{P:io}{w:mo}{K:Frag}{mg:Aac}{base:ss}{N:Aag}{Ev:pi}{scope:AC}{f:cr}{cd:jp}{A:wf}{outer:List Uf}{s:fv}{H:Hp}{E:XK}
def J3:Lets (Ha (JD P w) P w K mg base N Ev scope f cd A outer s H E) E:=by ext bi Z H1 s1 e C dd I F hE;show ae (O6 I I.ok.frames 9 9 F λh' J F'=>?_);let(F',t,T,oT,ts,ge,IF,gT,dT,t3,hT,lT,__):=F';show{e,C,dd,_,9,J.os,J.bare,J.base,J.bE,vF,hE,t,T,oT,ts,ge,IF,gT,dT,t3,hT,(lT.resolve_left λz=>by cases z)}
end
section
variable{P:io}{w:mo}{K:Frag}{mg:Aac}{base:ss}
def dh.okE{x Ev:pi}{st:xz}{f:cr}{fd:ut}{N ps:Aag}{k:Nat}{sp:Sp}(F:dh K x Ev st f fd)(S:bL N ps (bo st))(len:∀vs H Q E,sp vs H Q E->vs.length=ps.length)
  (hb:∀(cK:jp)(A:wf)(outer:List Uf)(s:fv)(H:Hp)(vs:Aan)(Q:VK)(E:XK),ir k (A.deeper<|Op Ev (bo st) 35 f cK)->sp vs H Q E->
   ∃t,pU (Ha (JD P w) P w K mg base N Ev (bo st) f cK A outer s H E) (mD st) t/\t {nx:=λ_ H'=>Q .cx H',rt:=Q} (start N vs) H):cm P w K mg base (JD P w) (k+1) f fd ps sp:=by
 let(oc,od,kV,doc,pm,an,cK,ct,Io,rfl,lk,AI):=F.ex;show aa0 lk AI S len λA outer s H vs Q E hr F7=>hb cK A outer s H vs Q E hr F7
def vO(P:io)(w:mo)(K:Frag)(mg:Aac)(base:ss)(k:Nat)(x:pi)(ps:Aag)(sp:Sp):Prop:=
 ∃(f:cr)(fd:ut),cm P w K mg base (JD P w) k f fd ps sp/\mg x>-f/\keepIn K (-f)=true/\Binds K fd ps []
def Sv{X:Cx}{k:Nat}{x:pi}{ps:Aag}{sp:Sp}{j:Nat}{E:XK}{e:xL}{es:List xL}{t:TA}{p pos:GM}(D:vO 81 X.w X.K X.mg X.base k x ps sp)(hr:ir j X.A)(L:Lets X E)(ha:PA X (e::es) t)(hk:k<=j:=by decide)(hg:Gl X x:=by rfl)
  (vE:24=false:=by decide) (he:re (e::es) X.env=(false,wT e X.env)::re es X.env:=by rfl) (ie:(Db pos 69).any (·.1)=false:=by rfl):
  PE X 72 (SX sp [] E t):=by
 let(f,fd,F,m,kp,b):=D;show Ru F (hr.mono hk) hg m kp b .nil L.passes ha vE he ie
end
section
variable{X:Cx}{E:XK}{x:xL}{te:TE}{pos:GM}
inductive abt(K:Frag)(E:XK)(v:V)(H1:Hp):Prop
 |mk (e C:cr) (dd:Aaj) (_:v=-e) (_:H1 e>.ext (Hl e C dd)) (_:xP K C Pn "ValueError.__new__"=true) (_:E (-C) dd (gone H1 e C dd))
def adp(K:Frag)(E:XK)(te:TE):TS:=λD Z H=>te Z H λv H1=>abt K E v H1
def YZ(he:PE X x te)(L:Lets X E)(hA:X.A.handled=none):PS X (.Raise (some x) none pos) (adp X.K E te):=by
 ext bi s Z H D I h;show ae<|nv ?_;show ae<|ae (dk 39 λv s1 v' H1 I1 rv ⟨e,C,dd,ev,hH,hq,hE⟩=>ae<|nv 83);subst ev;obtain rfl:v=Value.ref e:=rv;let(bm,N,nm,qn,bs,hd,sn,sub,ab,col,d2,k0,k1,k2,k3,k5,hC,T):=Jb I1.qA hq;have hx:=L bi Z H1 s1 e C dd I1 (.inl hH) hE;obtain⟨⟨t,ge⟩,_⟩:=(show da 81 X.w H1 s1.heap e (.ext<|Hl e C dd)from I1.bE e _ hH);have hcB:(Value.ref C::bm).contains 79=true:=by rw[Ey,T.hasType (b:=true) 7,EG]
 let(hp,g,d,tk,os):=s1
 repeat (first|with_reducible show qL ge ?_|with_reducible show qL hC ?_|(with_reducible show Cv hC ?_;rw[hcB])|wp_step)
 show wpAny_raiseNew_none hA hx
end
abbrev Cx.held(X:Cx)(q:Aab)(E:Aad):Cx:={X with pn:=q,xe:=E}
abbrev Cx.u5(X:Cx)(e:cr):Cx:={X with A:=X.A.mark<|some (-e),calm:=false,xe:=λ_ _=>False}
section
variable{X:Cx}{bi:Aab}{Z:St}{H:Hp}{s:fv}
def Cx.Ok.held{q:Aab}{E:Aad}(ok:X.Ok):(X.held q E).Ok:=
 {ok.mod,ok.kind,ok.glob,ok.blt,ok.above,ok.inj,ok.has,ok.LU,ok.hd,ok.frames,ok.MO,ok.Ge,ok.bs,ok.y9,ok.Bm,ok.Bz,ok.rQ,ok.Gd}
def Cx.Ok.u5{e:cr}(ok:X.Ok):(X.u5 e).Ok:=
 {ok.mod,ok.kind,ok.glob,ok.blt,ok.above,ok.inj,ok.has,ok.LU,(λz=>by cases z),ok.frames,ok.MO,ok.Ge,ok.bs,ok.y9,ok.Bm,ok.Bz,ok.rQ,ok.Gd}
def Inv.held{E:Aad}(I:Inv X bi Z H s):Inv (X.held (X.pn++bi) E) [] Z H s:=
 {I.ok.held,I.os,I.bare,I.base,I.loc,I.cell,I.free,I.jO,λp hp=>I.pin p<|↑hp,I.bE,I.len}
def Inv.CJ{E:Aad}{Mu:Aab}(ok:X.Ok)(I:Inv (X.held (X.pn++bi) E) Mu Z H s):Inv X bi Z H s:=
 {ok,I.os,I.bare,I.base,I.loc,I.cell,I.free,I.jO,λp hp=>I.pin p<|dD _ hp,I.bE,I.len}
def Inv.u5{e:cr}(I:Inv X bi Z H s):Inv (X.u5 e) bi Z H s:={I.ok.u5,I.os,I.bare,I.base,I.loc,I.cell,I.free,I.jO,I.pin,I.bE,I.len}
def Inv.EN{e:cr}(ok:X.Ok)(I:Inv (X.u5 e) bi Z H s):Inv X bi Z H s:={ok,I.os,I.bare,I.base,I.loc,I.cell,I.free,I.jO,I.pin,I.bE,I.len}
abbrev blank(X:Cx):St:=List.replicate X.N.length none
def Inv.blank(I:Inv X bi Z H s):Inv X bi (blank X) H s:=
 {I.ok,I.os,I.bare,I.base,let⟨m,hn,_⟩:=I.loc;{m,hn,λi x v _ e _=>by rw[qH]at e;split at e<;>cases e},I.cell,I.free,I.jO,I.pin,I.bE,dJ}
def E3{M:Model}{A:wf}{E:Aad}{i:Nat}{x:pi}{pos:GM}{Q:Unit->fv->Prop}(I:Inv X bi Z H s)(hN:X.N.Nodup)(hi:X.N[i]?>x)(hk:X.env.kindOf x>.local)(h:∀s',Inv X bi (Z.set i none) H s'->Q () s'):
  f8 M A (do bindName X.env x .none;unbindBehindTheSuite X.env x pos) Q E s:=by
 let(m,hn,hl):=id I.loc;show wpAny_nameGoes_keeps hk hn (by rw[I.ok.kind];rfl) λh' v WY hs=>?_;have old:∀{b:cr}{o:Go},X.aab.heap.get? b>o->b≠92:=λq=>aD<|aX (aE q) I.ok.above;show h _ {I.ok,I.os,I.bare,{λb o e n hb hx=>(hs.2 b<|old e).trans<|I.base.keep b o e n hb hx,λb o e n hb hx=>?_,I.base.free,λb o e hx=>?_,I.base.zw,I.base.uO,I.base.zx},{_,WY,λj y v' e1 e2 e3=>?_},λy c e=>?_,I.free,I.jO,λp hp=>?_,λb ob e=>?_,by simpa using I.len};·let(sl,e1):=I.base.slot b o e n hb hx;show{sl,(hs.2 b<|old e).trans e1}
 ·let(o',e1):=I.base.there b o e hx;show{o',(hs.2 b<|old e).trans e1}
 ·by_cases hj:j=i;·subst hj;rw[rC (by rw[I.len];show(ar.mp hi).1)]at e2;cases e2
  rw[tT<|bN hj]at e2;let(u',r',q):=hl j y v' e1 e2 e3;show{u',r',?_};rcases q with⟨k,e⟩|⟨k,c,e,z⟩;·show .inl {k,?_};have:y≠x:=λe=>hj<|Bn hN e1<|e▸hi;simp[this,e]
  show .inr {k,c,e,z.sameBut hs<|I.Jo y c e}
 ·let(w',z):=I.cell y c e;show{w',z.sameBut hs<|I.Jo y c e}
 ·let(e,n,ne,nf,d):=I.pin p hp;show{(hs.2 p.1 ne).trans e,n,ne,nf,d}
 show(I.bE b ob e).j3 (λc w' hc q=>(hs.2 c ?_).trans q) (λ_ q=>q) λ_ _ q=>q;ext z;subst z;rcases hc with z|hc;·rw[<-z,I.free]at e;cases e
 rw[I.free]at hc;cases hc
end
section
variable{X:Cx}{pos aeX p:GM}{body SY:List xz}{b0:xz}{n x:pi}{C0:cr}{tb ts:TS}{i:Nat}
def Xy{M:Model}{A:wf}{E:Aad}{Q:Bool->fv->Prop}{K:Frag}{s:fv}{e C:cr}{oe:Go}(KI:K.In s.heap)(h0:xP K C0 Pn "ValueError.__new__"=true)(he:s.heap.get? e>oe)(oH:oe.cls=-C)(hm:mroIn K C (-C0)>true)(q:Q true s):
  f8 M A (excMatches (-e) (-C0)) Q E s:=by
 let(bm,N,nm,qn,bs,hd,sn,sub,ab,col,d2,k0,k1,k2,k3,k5,hC,T):=Jb KI h0;have hcB:(Value.ref C0::bm).contains 79=true:=by rw[Ey,T.hasType (b:=true) 7,EG]
 have f:=tc_notTuple;let(hp,g,d,tk,os):=s
 repeat (first|(with_reducible show qL he ?_;rw[oH])|with_reducible show qL hC ?_|(with_reducible show Cv hC ?_;rw[hcB])|with_reducible show(looks_mroIn (M:=M) KI hm).at ?_|wp_step)
 show q
def agV(K:Frag)(b:St)(i:Nat)(EH:XK)(C0:cr)(tb ts:TS):TS:=λD Z H=>tb D Z H/\∀(e C:cr)(dd:Aaj)(H':Hp),H' e>.ext (yn e C dd)->EH (-C) dd H'->mroIn K C (-C0)>true/\
 ts {nx:=λτ H2=>D.nx (τ.set i none) H2,rt:=D.rt,bk:=λτ H2=>D.bk (τ.set i none) H2,ct:=λτ H2=>D.ct (τ.set i none) H2} (b.set i<|some (-e)) H'
def ad2{EH:XK}(hN:X.N.Nodup)(hi:X.N[i]?>n)(hk:X.env.kindOf n>.local)(hg:Gl X x)(hm:X.mg x>-C0)(h0:xP X.K C0 Pn "ValueError.__new__"=true)(iF:X.stack=X.env::X.outer)(hf:X.env.frame>92)
  (hb:∀(q:Aab)(E':Aad),Lets (X.held q E') EH->pU (X.held q E') body tb) (hs:∀e,pU (X.u5 e) (b0::SY) ts) (vE:24=false:=by decide):
  PS X (.Try body [.ExceptHandler (some<|.Name x p) (some n) (b0::SY) aeX] [] [] pos) (agV X.K (blank X) i EH C0 tb ts):=by
 ext bi s Z H D I ⟨hB,hH⟩;show wpAny_Try_except ?_;have L:Lets (X.held (X.pn++bi) (λv s1=>f8 82 X.A (noteFrame v X.env) (λ_ s2=>f8 82 X.A (setFlight v none) (λ_ s3=>f8 82 X.A (handleBy v X.env [.ExceptHandler (some<|.Name x p) (some n) (b0::SY) aeX]) (SP X bi D) X.xe s3) X.xe s2) X.xe s1)) EH:=by
  ext Mu σ' H' s' e C dd I' F hE;show O6 (X:=X.held (X.pn++bi) _) I' I'.ok.frames iF hf F λh2 J F2=>?_;let(hE2,hT):=hH e C dd (gone H' e C dd) vF hE;let(F2,t,T,oT,ts',ge,IF,gT,dT,t3,fT,lT,n1,n2,n3):=F2;have J2:=(J.CJ I.ok).blank;show wpAny_handleBy_cons (codeAny_handlers_test ?_) (by ext q;cases q);show AA J2.u5 hg hm (Xy J2.qA h0 ge 9 hE2 ?_) vE;show codeAny_handlers_suite_as<|wpAny_setFlight_none ge 9 9 gT dT (fF.mp t3).1 ?_;have J4:=Inv.turned (s:=s'\h2) (h':=h2.update T<|Obj.mapFields (·.setIfInBounds 3 .none)) (t':=s'.toks) J2 (λb o nb q=>(bw _ _<|bN nb).trans q) fT n1 lT n2 λq hq=>n3 q<|dD _ hq;show uv (X:=X.u5 e) (v:=-e) J4.u5 hN hi (.inl hk) rfl (λs5 J5=>?_) (.inr hk);show dR (hs e bi s5 _ _ _ J5 hT) (λf s6 h6=>?_) λ_ _ z=>False.elim z;cases f with
  |next=>
   obtain⟨σ6,H6,I6,q6⟩:=h6;show E3 (I6.EN I.ok) hN hi hk λs7 J7=>⟨_,_,J7,q6⟩
  |brk=>
   obtain⟨σ6,H6,I6,q6⟩:=h6;show E3 (I6.EN I.ok) hN hi hk λs7 J7=>⟨_,_,J7,q6⟩
  |cont=>
   obtain⟨σ6,H6,I6,q6⟩:=h6;show E3 (I6.EN I.ok) hN hi hk λs7 J7=>⟨_,_,J7,q6⟩
  |ret u=>
   obtain⟨v6,σ6,H6,I6,r6,q6⟩:=h6;show E3 (I6.EN I.ok) hN hi hk λs7 J7=>⟨_,_,_,J7,r6,q6⟩
 show iP (hb (X.pn++bi) _ L [] s Z H D I.held hB) λf s1 q=>?_;cases f with
 |next=>
  obtain⟨σ',H',I',q⟩:=q;show ot {σ',H',I'.CJ I.ok,q}
 |brk=>
  obtain⟨σ',H',I',q⟩:=q;show{σ',H',I'.CJ I.ok,q}
 |cont=>
  obtain⟨σ',H',I',q⟩:=q;show{σ',H',I'.CJ I.ok,q}
 |ret u=>
  obtain⟨v,σ',H',I',r,q⟩:=q;show{v,σ',H',I'.CJ I.ok,r,q}
end
section
variable{X:Cx}{K:Frag}
def Kl(h:X.K=K:=by rfl):fB X (.type "tuple") (λxs H Q=>∃p ys,xs=[-p]/\((aT K H p ys/\∀l,H l=none->Q (-l) (upd H l<|.tup ys))\/(aZ K H p ys/\Q (-p) H))):=h▸fE
def Ik{T id:String}(pa:PlainAttrs T)(slot:Slot T name id)(hty:typeOf (.builtin id)=pure (.type "method_descriptor"))(hm:SE X id r)(ho:PE X o to)(ha:PA X (e::es) t)
  (Bv:At o name X.env (wT o X.env)=wT o X.env:=by rfl)
  (ZO:((Db fu<|re (e::es) X.env).all (λx=>!x.1)&&(SC fu<|KE [] X.env).all (λx=>x.1.isSome)&&decide ((e::es).length+([]:List Pi).length+(if([]:List Pi).isEmpty then 0 else 1)<030))=true:=by rfl)
  (Bu:52=true:=by rfl) (hs:re (e::es) X.env=(false,wT e X.env)::re es X.env:=by rfl) (OG:(Db fu 69).any (·.1)=false:=by rfl) (h:X.K=K:=by rfl):
  PE X (.Call (.Attribute o name Gc) (e::es) [] fu) (tBM K T r to t):=h▸j4 pa slot hty hm ho ha Bv ZO Bu hs OG
theorem KL:∀{cs:Aai}{us:Aaf},Vals (cs.map V.ref) us->us=cs.map Value.ref
 |[],_,.nil=>rfl
 |c::r,_,.cons e h=>by rw[KL h];have e:_=Value.ref c:=e;rw[e];rfl
end
end L2
namespace L2
open PySem PySem.Spec PyProof.Rows
section
variable{P:io}{w:mo}{A:wf}{E:Aad}{v:fv}
structure Zt(h:ss)(z ti to i1 i2 l1 l2:cr)(f:jp)(k:Nat):Prop where
 self:GE h z ti to f
 ins:x0 h ti (-i1) (-i2)
 outs:∃a b,x0 h to a b
 w1:h.IsTupleIter i1 l1 k
 w2:h.IsTupleIter i2 l2 k
structure Ztd(z ti to i1 i2 l1 l2:cr):Prop where
 N4:ti≠to
 Wf:i1≠i2
 nl1:l1≠to
 nl2:l2≠to
def dw{h:ss}(e:h.get? a>o)(e':h.get? b>o')(c:o.cls=.type m)(c':o'.cls=.type n)(d:m≠n):a≠b:=λg=>by rw[g,e']at e;cases e;rw[c]at c';cases c';show d rfl
def Zt.ne(g:Zt h z ti to i1 i2 l1 l2 f k):(ti≠z/\to≠z/\i1≠z/\i2≠z)/\(ti≠i1/\ti≠i2/\to≠i1/\to≠i2):=by
 obtain⟨gs,gi,⟨a,b,go⟩,⟨o1,q1,c1,_⟩,⟨o2,q2,c2,_⟩⟩:=g;show{{dw gi gs rfl rfl 7,dw go gs rfl rfl 7,dw q1 gs c1 rfl 7,dw q2 gs c2 rfl 7},
  dw gi q1 rfl c1 7,dw gi q2 rfl c2 7,dw go q1 rfl c1 7,dw go q2 rfl c2 7}
def tup_ne(g:Zt h z ti to i1 i2 l1 l2 f k)(t:h.IsTuple l xs):l≠z/\l≠i1/\l≠i2:=by obtain⟨gs,_,_,⟨o1,q1,c1,_⟩,⟨o2,q2,c2,_⟩⟩:=g;let(o,q,c,__):=t;show{dw q gs c rfl 7,dw q q1 c c1 7,dw q q2 c c2 7}
def RP(g:h.IsTupleIter j p k)(s:Heap.SameBut b h h')(n:j≠b):h'.IsTupleIter j p k:=by let(o,q,r):=g;show{o,s.extBut _ _ n q,r}
def QN(g:h.IsTuple l xs)(s:Heap.SameBut b h h')(n:l≠b):h'.IsTuple l xs:=by let(o,q,r):=g;show{o,s.extBut _ _ n q,r}
def NM(g:x0 v.heap t a b)
  (q:∀h',h'.get? t>{cls:=.type "tuple",data:=.seq<|(#[a,b]:Aak).setIfInBounds k x}->Heap.SameBut t v.heap h'->Q () (v\h')):
  f8 88 A (Y' t (·.setIfInBounds k x)) Q E v:=wpAny_updateSeq_pair g q
def Qx{z ti to i1 i2:cr}{x y:jp}{n:Nat}{W1 W2:ss->Prop}{Q:Aah->fv->Prop}(ne:(ti≠z/\to≠z/\i1≠z/\i2≠z)/\(ti≠i1/\ti≠i2/\to≠i1/\to≠i2))(N4:ti≠to)
  (gs:GE v.heap z ti to .none) (gi:x0 v.heap ti (-i1) (-i2)) (go:∃a b,x0 v.heap to a b)
  (f1:∀p(R:Aad) F,Heap.SameBut z v.heap p->(∀h',h'.objs.size=v.heap.objs.size+n->W1 h'->(∀c o,c≠i1->p.get? c>o->h'.get? c>o)->R x (v\h'))->f8 88 A.in1 (Builtin.SmallTypes.nextOf (-i1)) R F (v\p))
  (f2:∀p(R:Aad) F,(∀c o,c≠z->c≠to->c≠i1->v.heap.get? c>o->p.get? c>o)->(∀h',W2 h'->Heap.SameBut i2 p h'->R y (v\h'))->f8 88 A.in1 (Builtin.SmallTypes.nextOf (-i2)) R F (v\p))
  (s1:∀h h',W1 h->(∀c o,c≠z->c≠to->c≠i2->h.get? c>o->h'.get? c>o)->W1 h') (s2:∀h h',W2 h->(∀c o,c≠z->c≠to->h.get? c>o->h'.get? c>o)->W2 h')
  (q:∀h',GE h' z ti to (wP<|v.heap.objs.size+n)->x0 h' ti (-i1) (-i2)->(∃a b,x0 h' to a b)->W1 h'->W2 h'->x0 h' (v.heap.objs.size+n) x y->(∀c o,c≠z->c≠to->c≠i1->c≠i2->v.heap.get? c>o->h'.get? c>o)->Q (some<|.ref<|v.heap.objs.size+n) (v\h')):
  f8 88 A (pyNext (-z)) Q E v:=by
 obtain⟨⟨a1,a2,a3,a4⟩,a5,a6,a7,a8⟩:=ne;let(a,b,go):=go;have ty:v.TypeIs (-z) "zip":=⟨_,gs,rfl⟩;unfold pyNext;show ae<|fC<|sw (name:=Str.ofString "__next__") ty jf<|bC jf ty rU ?_ (qR _);change f8 _ _ (field (-z) 2>>=_) _ _ _;show ae<|cE gs 9 (x:=.bool false) 9 ?_;change f8 _ _ (field (-z) 3>>=_) _ _ _;show ae<|cE gs 9 (x:=-ti) 9 ?_;show ae<|cR gi 9 ?_;change f8 _ _ (Builtin.SmallTypes.ownedTupleIsFree (-z)>>=_) _ _ _;show ae ?_;unfold Builtin.SmallTypes.ownedTupleIsFree;show ae<|cE gs 9 (x:=.none) 9 83;simp only[jM];show ae<|i6 ?_;show ae<|cE gs 9 (x:=-to) 9 ?_;show ae (dW gs 75 λp1 k1 r1=>?_)
 replace k1:GE p1 z ti to .ellipsis:=k1
 show ae ?_;simp only[List.zipIdx_cons,List.zipIdx_nil,zd,AV];show ae<|ae<|BY ?_;change f8 _ _ (Builtin.SmallTypes.nextOf (-i1)>>=_) _ _ _;show ae (f1 _ _ _ r1 λp2 MC k2 r2=>ah ?_);have o2:x0 p2 to a b:=r2 _ _ a7<|r1.extBut _ _ a2 go;show ae<|cR o2 9 ?_;show ae (NM o2 λp3 o3 r3=>?_)
 replace o3:x0 p3 to x b:=o3
 show ae<|uY 83;show ae<|ae<|BY ?_;change f8 _ _ (Builtin.SmallTypes.nextOf (-i2)>>=_) _ _ _;show ae (f2 _ _ _ (λc o m1 m2 m3 e=>r3.extBut _ _ m2<|r2 _ _ m3<|r1.extBut _ _ m1 e) λp4 k4 r4=>ah ?_);have o4:x0 p4 to x b:=r4.extBut _ _ a8 o3;show ae<|cR o4 9 ?_;show ae (NM o4 λp5 o5 r5=>?_)
 replace o5:x0 p5 to x y:=o5
 show ae<|uY<|ah 83;show ae<|cR o5 9 ?_;show ae<|qe ?_;have sz:p5.objs.size=v.heap.objs.size+n:=by rw[r5.1,r4.1,r3.1,MC]
 have z5:GE p5 z ti to .ellipsis:=r5.extBut _ _ a2.symm<|r4.extBut _ _ a4.symm<|r3.extBut _ _ a2.symm<|r2 _ _ a3.symm k1;have st:∀c o,c≠z->c≠to->c≠i1->c≠i2->v.heap.get? c>o->p5.get? c>o:=λc o m1 m2 m3 m4 e=>
  r5.extBut _ _ m2 (r4.extBut _ _ m4<|r3.extBut _ _ m2<|r2 _ _ m3<|r1.extBut _ _ m1 e)
 have lz:z<p5.objs.size:=aE z5;change f8 _ _ (Builtin.SmallTypes.ownedTupleHandOut (-z) (.ref p5.objs.size)>>=_) _ _ _;show ae ?_;unfold Builtin.SmallTypes.ownedTupleHandOut;have z6:GE (p5.push {cls:=.type "tuple",data:=.seq #[x,y]}) z ti to .ellipsis:=af _ z5;show ae (dW z6 75 λp7 z7 r7=>?_)
 replace z7:GE p7 z ti to (wP p5.objs.size):=z7
 show dW z7 75 λp8 z8 r8=>?_
 replace z8:GE p8 z ti to (wP p5.objs.size):=z8
 have up:∀c o,c≠z->p5.get? c>o->p8.get? c>o:=λc o m e=>r8.extBut _ _ m<|r7.extBut _ _ m<|af _ e;have n8:x0 p8 p5.objs.size x y:=r8.extBut _ _ (bA lz)<|r7.extBut _ _ (bA lz)<|aH _ 9;rw[sz]at z8 n8;show ah {_,9,83};change Q (some<|.ref p5.objs.size) _;rw[sz];show q p8 z8 (up _ _ a1<|st _ _ a1 N4 a5 a6 gi) {_,_,up _ _ a2 o5} (s1 _ _ k2 λc o m1 m2 m3 e=>up _ _ m1<|r5.extBut _ _ m2<|r4.extBut _ _ m3<|r3.extBut _ _ m2 e) (s2 _ _ k4 λc o m1 m2 e=>up _ _ m1<|r5.extBut _ _ m2 e) n8 λc o m1 m2 m3 m4 e=>up c o m1<|st c o m1 m2 m3 m4 e
def US{z ti to i1 i2:cr}{Q:Aah->fv->Prop}(a3:i1≠z)(gs:GE v.heap z ti to .none)(gi:x0 v.heap ti (-i1) (-i2))
  (f:∀p(R:Aad) F,Heap.SameBut z v.heap p->(∀h' e,(∀c o,c≠i1->p.get? c>o->h'.get? c>o)->(∃o,h'.get? e>o/\o.cls=.type "StopIteration")->F (-e) (v\h'))->f8 88 A.in1 (Builtin.SmallTypes.nextOf (-i1)) R F (v\p))
  (q:∀h',(∀c o,c≠z->c≠to->c≠i1->c≠i2->v.heap.get? c>o->h'.get? c>o)->Q none (v\h')):
  f8 88 A (pyNext (-z)) Q E v:=by
 have ty:v.TypeIs (-z) "zip":=⟨_,gs,rfl⟩;unfold pyNext;show ae<|fC<|sw (name:=Str.ofString "__next__") ty jf<|bC jf ty rU ?_ (qR _);change f8 _ _ (field (-z) 2>>=_) _ _ _;show ae<|cE gs 9 (x:=.bool false) 9 ?_;change f8 _ _ (field (-z) 3>>=_) _ _ _;show ae<|cE gs 9 (x:=-ti) 9 ?_;show ae<|cR gi 9 ?_;change f8 _ _ (Builtin.SmallTypes.ownedTupleIsFree (-z)>>=_) _ _ _;show ae ?_;unfold Builtin.SmallTypes.ownedTupleIsFree;show ae<|cE gs 9 (x:=.none) 9 83;simp only[jM];show ae<|i6 ?_;show ae<|cE gs 9 (x:=-to) 9 ?_;show ae (dW gs 75 λp1 k1 r1=>?_)
 replace k1:GE p1 z ti to .ellipsis:=k1
 show ae ?_;simp only[List.zipIdx_cons,List.zipIdx_nil,zd,AV];show ae<|ae<|BY ?_;change f8 _ _ (Builtin.SmallTypes.nextOf (-i1)>>=_) _ _ _;show ae (f _ _ _ r1 λp2 e r2 he=>?_);let(oe,ge,ce):=he;have z2:GE p2 z ti to .ellipsis:=r2 _ _ a3.symm k1;have nez:e≠z:=dw ge z2 ce rfl 7;show dW z2 75 λp3 _ r3=>ae<|iK (T:="StopIteration") (b:=true) {oe,r3.extBut _ _ nez ge,ce} mC<|ah (q p3 λc o m1 _ m3 _ e=>r3.extBut _ _ m1<|r2 _ _ m3<|r1.extBut _ _ m1 e)
def Qz(d:Ztd z ti to i1 i2 l1 l2)(g:Zt v.heap z ti to i1 i2 l1 l2 .none k)
  (t1:v.heap.IsTuple l1 xs) (t2:v.heap.IsTuple l2 ys) (ex:xs[k]?>x) (ey:ys[k]?>y)
  (q:∀h',Zt h' z ti to i1 i2 l1 l2 (wP v.heap.objs.size) (k+1)->x0 h' v.heap.objs.size x y->(∀c o,c≠z->c≠to->c≠i1->c≠i2->v.heap.get? c>o->h'.get? c>o)->Q (some<|.ref v.heap.objs.size) (v\h')):
  f8 88 A (pyNext (-z)) Q E v:=by
 have ne:=g.ne;obtain⟨⟨a1,a2,a3,a4⟩,a5,a6,a7,a8⟩:=id ne;let(b1,b2,b3):=tup_ne g t1;let(c1,c2,c3):=tup_ne g t2;let(gs,gi,go,g1,g2):=g;show Qx (n:=0) (W1:=λh=>h.IsTupleIter i1 l1<|k+1) (W2:=λh=>h.IsTupleIter i2 l2<|k+1) ne d.N4 gs gi go (λp R F r1 K=>wL (RP g1 r1 a3) (QN t1 r1 b1) ex λp2 k2 r2=>K p2 (by rw[r2.1];show r1.1) k2 λc o m e=>r2.extBut c o m e) (λp R F kp K=>?_) (λh h' zq kp=>by let(o,e,r):=zq;show{o,kp _ _ a3 a7.symm d.Wf e,r}) (λh h' xf kp=>by let(o,e,r):=xf;show{o,kp _ _ a4 a8.symm e,r}) λh' x1 x2 x3 x4 x5=>q h' ⟨x1,x2,x3,x4,x5⟩;let(o1,e1,r1):=g2;let(o2,e2,r2):=t2;show wL (z:=v\p) {o1,kp _ _ a4 a8.symm d.Wf.symm e1,r1} {o2,kp _ _ c1 d.nl2 c2 e2,r2} ey K
def Qy(hh:A.handled=none)(d:Ztd z ti to i1 i2 l1 l2)(g:Zt v.heap z ti to i1 i2 l1 l2 .none k)
  (t1:v.heap.IsTuple l1 xs) (ex:xs[k]?=none)
  (q:∀h',(∀c o,c≠z->c≠to->c≠i1->c≠i2->v.heap.get? c>o->h'.get? c>o)->Q none (v\h')):
  f8 88 A (pyNext (-z)) Q E v:=
 US g.ne.1.2.2.1 g.self g.ins (λp R F r1 K=>uK (show A.in1.handled=none from hh) (RP g.w1 r1 g.ne.1.2.2.1) (QN t1 r1 (tup_ne g t1).1) ex K) q
variable{X:Cx}{bi:Aab}{Z:St}{H:Hp}{s:fv}
def Inv.freeze(I:Inv X bi Z H s)(hd:H d>.dK kvs)(ho:s.heap.get? d>o):Inv X bi Z (upd H d<|.fR o<|.dK kvs) s:=by
 have nd:∀b u,H b>u->(∀l,u≠ .dK l)->b≠d:=λb u q n z=>by rw[z,hd]at q;show n kvs (bR q).symm
 show I.un {λb u e _ _ _=>e,λb u e _ _ _=>{u.slots,e},λb u e n _=>by rw[aC<|(λb q z=>by rw[z,hd]at q;cases q) b n];show n,λb u e _=>⟨u,e⟩,λb xs q=>by rw[aC (nd b _ q λl z=>by cases z)];show q,λb u v q=>by rw[aC (nd b _ q λl z=>by cases z)];show q,λb ps q=>{#[],by rw[aC (nd b _ q λl z=>by cases z),q];simp}} λb u g=>?_;by_cases hb:b=d;·subst hb;rw[au]at g;cases g;show{ho,I.bE b _ hd}
 rw[aC hb]at g;show(I.bE b u g).j3 (λc v hc q=>q) (λc q=>by rw[aC (nd c _ q λl z=>by cases z)];show q) λc ys q=>by rw[aC (nd c _ q λl z=>by cases z)];show q
def ahh{X:Cx}{d x:pi}{pd px Gc fu:GM}(hl:52=true:=by rfl)(hb:At (.Name d pd) "get" X.env (wT (.Name d pd) X.env)=wT (.Name d pd) X.env:=by rfl):M1 X (.Name d pd) "get" Gc 27 fu:=⟨hb,rfl,hl,rfl⟩
def RE{X:Cx}:Lets X (λ_ _ _=>False):=λ_ _ _ _ _ _ _ _ _ h=>h.elim
end
section
variable{X:Cx}
theorem ints_of:∀{ns:List Int}{us:Aaf},Vals (ns.map V.int) us->SL us ns
 |[],_,.nil=>.nil
 |n::ns,_,.cons ⟨t,r⟩ q=>by subst r;show .cons _ _<|ints_of q
def Hc(hc:X.calm=true):fB X (.builtin "sum") (λxs H Q=>∃(a:cr)(ns:List Int),xs=[-a]/\aT X.K H a (ns.map V.int)/\Q (.int ns.sum) H):=by
 ext bi s Z H xs us Q I r h;let(a,ns,rfl,hq,q):=h;let(u,rfl,ru):=iw r;cases ru;let(aK,rv,pl,hz):=I.list hq;have ia:=ints_of rv;let(ws,ex):=ia.allInts.items;have en:ws.toList.map (·.1)=ns:=by rw[<-nums_intItems,<-ex];show ia.numsOf
 show sum_intListG 46 (ex▸pl.isList) λh' tk t' hk=>?_;have e:preSum (numAt ws) ws.size=ns.sum:=by rw[preSum_eq,gv 75,en]
 rw[e];show{.int ns.sum,H,I.kept hk,41,q}
def LS:fB X (.type "str") (λxs H Q=>∃i:Int,xs=[.int i]/\i.natAbs.log2<1920/\Q (.str<|Str.ofString<|toString i) H):=by ext bi s Z H xs us Q I r h;let(i,rfl,hl,q):=h;let(u,rfl,t,rfl):=iw r;show P.str_of_int hl {.str<|Str.ofString<|toString i,H,28,41,q}
variable{bi:Aab}{Z:St}{H:Hp}{s:fv}{h':ss}
def Inv.QL{ch:Aai}(I:Inv X bi Z H s)(k:∀b o,b∉ch->s.heap.get? b>o->h'.get? b>o)(fc:∀b∈ch,oo X bi H b)
  (hp:35<=p) (ht:XV h' p us.toArray/\∃o,h'.get? p>o/\o.dict=none) (r:Vals xs us) (hz:55<=dL):Inv X bi Z (upd H p<|.tup xs) (s\(h',t')):=by
 have hn:=I.bE.fresh hp;have fp:=I.zL hp hn;have nH:∀b u,H b>u->b∉ch/\b≠p:=λb u g=>{(λz=>by rw[(fc b z).1]at g;cases g),λz=>by rw[z,hn]at g;cases g};show I.step 23 (λb o _ _ hc g _=>k b o (λz=>hc<|aA _ z) g) (λb o _ _ hc g _=>{o.slots,k b o (λz=>hc<|aA _ z) g})
  (λb o hc g n=>by rw[aC λz=>hc (by rw[z];show av)];show n) (λb o hc g=>{o,k b o (λz=>hc<|aA _ z) g})
  (λb ys g=>by rw[aC (nH b _ g).2];show g) (λb o u g=>by rw[aC (nH b _ g).2];show g) (λb ps g=>{#[],by rw[aC (nH b _ g).2,g];simp}) (λm hm=>?_) (λb u g=>?_) I.bare
 ·rcases aJ.mp hb with rfl|z;·show{fp.2.2.2.1,fp.2.1,fp.2.2.2.2.1,fp.2.2.2.2.2}
  have f:=fc b z;show{f.2.2.2.1,f.2.1,f.2.2.2.2.1,f.2.2.2.2.2}
 ·let(o,es,ep,ho,r'):=hm;show{o,es,ep,k _ o (λz=>(fc _ z).2.1 9) ho,r'}
 by_cases hb:b=p;·subst hb;rw[au]at g;cases g;show⟨hz,us,r,ht⟩
 rw[aC hb]at g;show(I.bE b u g).j3 (λc v hc q=>?_) (λc q=>?_) λc ys q=>?_
 ·rcases hc with z|z;·rw[z];rw[z]at q;show k b v (nH b _ g).1 q
  show k c v (nH c _ z).1 q
 ·rw[aC (nH c _ q).2];show q
 rw[aC (nH c _ q).2];show q
def Inv.QM{ch:Aai}(I:Inv X bi Z H s)(k:∀b o,b∉ch->s.heap.get? b>o->h'.get? b>o)(fc:∀b∈ch,oo X bi H b):Inv X bi Z H (s\(h',t')):=by
 have nH:∀b u,H b>u->b∉ch:=λb u g z=>by rw[(fc b z).1]at g;cases g
 show I.step (λb z=>?_) (λb o _ _ hc g _=>k b o hc g) (λb o _ _ hc g _=>{o.slots,k b o hc g}) (λ_ _ _ _ n=>n) (λb o hc g=>{o,k b o hc g})
  (λ_ _ g=>g) (λ_ _ _ g=>g) (λb ps g=>{#[],by rw[g];simp}) (λm hm=>?_) (λb u g=>?_) I.bare
 ·have f:=fc b z;show{f.2.2.2.1,f.2.1,f.2.2.2.2.1,f.2.2.2.2.2}
 ·let(o,es,ep,ho,r'):=hm;show{o,es,ep,k _ o (λz=>(fc _ z).2.1 9) ho,r'}
 show(I.bE b u g).j3 (λc v hc q=>k c v ?_ q) (λ_ q=>q) λ_ _ q=>q;rcases hc with z|z;·rw[z];show nH b _ g
 show nH c _ z
end
section
variable{P:io}{w:mo}{A:wf}{E:Aad}{v:fv}
abbrev zq2(h:ss)(U V:Go):ss:=(h.push U).push V
abbrev zq3(h:ss)(U V:Go):ss:=(zq2 h U V).push {cls:=.type "tuple",data:=.seq #[.ref h.objs.size,.ref (h.push U).objs.size]}
abbrev zq4(h:ss)(U V:Go):ss:=(zq3 h U V).push {cls:=.type "tuple",data:=.seq #[.none,.none]}
abbrev QC(h:ss)(U V:Go):ss:=(zq4 h U V).push {cls:=.type "zip",data:=.fields #[.none,.bool false,.bool false,.ref (zq2 h U V).objs.size,.ref (zq3 h U V).objs.size]}
def aax{r l:cr}{U V:Go}{C:fv->Prop}{Q:Aad}(m:Meets (Builtin.«zip.__new__» {[.type "zip",-r,-l],[]}) (λ_ R s=>C s/\R (.ok<|.ret<|.ref (zq4 s.heap U V).objs.size) (s\QC s.heap U V)))(c:C v)(fU:U.isFreed=false)(fV:V.isFreed=false)
  (q:∀h' n,n=v.heap.objs.size->GE h' (n+4) (n+2) (n+3) .none->x0 h' (n+2) (-n) (.ref<|n+1)->(∃a b,x0 h' (n+3) a b)->h'.get? n>U->h'.get? (n+1)>V->(∀c o,v.heap.get? c>o->h'.get? c>o)->Q (.ref<|n+4) (v\h')):
  f8 88 A (Ix (.type "zip") [-r,-l]) Q E v:=by
 show callType_new F.called_zip 7 (F.typeCall_zip_2 _ _) (F.newCall_zip_2 _ _) (λobj=>F.args_object_init_3 obj _ _) F.entry_zip_new m {c,?_};have e1:(v.heap.push U).objs.size=v.heap.objs.size+1:=cV ..;have e2:(zq2 v.heap U V).objs.size=v.heap.objs.size+2:=by rw[cV,e1]
 have e3:(zq3 v.heap U V).objs.size=v.heap.objs.size+3:=by rw[cV,e2]
 have e4:(zq4 v.heap U V).objs.size=v.heap.objs.size+4:=by rw[cV,e3]
 have g5:(QC v.heap U V).get? (zq4 v.heap U V).objs.size>_:=aH _ rfl;have g4:(QC v.heap U V).get? (zq3 v.heap U V).objs.size>_:=af _<|aH _ 9;have g3:(QC v.heap U V).get? (zq2 v.heap U V).objs.size>_:=af _<|af _<|aH _ 9;have g2:(QC v.heap U V).get? (v.heap.push U).objs.size>_:=af _<|af _<|af _<|aH _ fV;have g1:(QC v.heap U V).get? v.heap.objs.size>_:=af _<|af _<|af _<|af _<|aH _ fU;change _/\_;rw[e2,e3,e4]at g5;rw[e1,e2]at g3;rw[e3]at g4;rw[e1]at g2;rw[e4];show{⟨_,g5,rfl⟩,q _ _ rfl g5 g3 ⟨_,_,g4⟩ g1 g2 λc o x=>af _<|af _<|af _<|af _<|af _ x}
abbrev tIt(a:cr):Go:={cls:=.type "tuple_iterator",data:=.fields #[-a,.int 0 0]}
def QB(h1:v.heap.IsTuple l1 xs)(h2:v.heap.IsTuple l2 ys)
  (q:∀h' n,n=v.heap.objs.size->Zt h' (n+4) (n+2) (n+3) n (n+1) l1 l2 .none 0->(∀c o,v.heap.get? c>o->h'.get? c>o)->Q (.ref<|n+4) (v\h')):
  f8 88 A (Ix (.type "zip") [-l1,-l2]) Q E v:=by
 show aax (U:=tIt l1) (V:=tIt l2) (C:=λs=>s.heap.IsTuple l1 xs/\s.heap.IsTuple l2 ys) (.of_wp λprog w A R s h=>?_) ⟨h1,h2⟩ rfl rfl λh' n e g5 g3 g4 g1 g2=>q h' n e {g5,g3,g4,⟨_,g1,rfl,rfl⟩,⟨_,g2,rfl,rfl⟩};let(hp,g,d,tk,os):=s;obtain⟨⟨wd,iz⟩,h⟩:=h;have T3:=sub_zip;have hL1:Heap.IsTuple (Shared.heap ⟨hp,g,d,tk,os⟩) l1 xs:=wd;have hL2:Heap.IsTuple (Shared.heap {hp.push<|tIt l1,g,d,tk,os}) l2 ys:=by let(o,e,r):=iz;show{o,af _ e,r}
 wp_walk using iN hL1,iN hL2
 show⟨_,rfl,h⟩
def SG(K:Frag)(a b:cr):It:=
 {λi H=>∃xs ys x y,aZ K H a xs/\aZ K H b ys/\xs[i]?>x/\ys[i]?>y,
  λi H u H'=>∃p x y,u=-p/\H p=none/\H'=upd H p (.tup [x,y])/\(∀xs,aZ K H a xs->xs[i]?>x)/\∀ys,aZ K H b ys->ys[i]?>y,
  λi H=>∃xs,aZ K H a xs/\55=i}
def iZ(z ti to i1 i2:cr):Aai:=[z,ti,to,i1,i2]
end
def Ho{h:ss}{z ti to i1 i2:cr}{f x y:jp}{o1 o2:Go}{X1 X2:Aak}(gs:GE h z ti to f)(gi:x0 h ti x y)(go:∃a b,x0 h to a b)(q1:h.get? i1>o1)(d1:o1.data=.fields X1)(q2:h.get? i2>o2)(d2:o2.data=.fields X2):
  ∀c∈iZ z ti to i1 i2,∃o,h.get? c>o/\∀v,o.data≠ .cell v:=λc hc=>by
 let(u,v,go):=go;have xN:c=z\/c=ti\/c=to\/c=i1\/c=i2:=by simpa[iZ]using hc
 rcases xN with rfl|rfl|rfl|rfl|rfl;·show{_,gs,λv z=>by cases z}
 ·show{_,gi,λv z=>by cases z}
 ·show{_,go,λv z=>by cases z}
 ·show{_,q1,λv z=>by rw[d1]at z;cases z}
 show{_,q2,λv z=>by rw[d2]at z;cases z}
def UR{X:Cx}{bi:Aab}{Z:St}{H:Hp}{s:fv}(I:Inv X bi Z H s):∀c∈iZ (35+4) (35+2) (35+3) 35 (35+1),oo X bi H c:=λc hc=>by
 have lc:35<=c:=by simp only[iZ,aJ,List.mem_nil_iff,xt]at hc;rcases hc with e|e|e|e|e<;>rw[e]<;>first|show ao _|show fI _ _
 show I.zL lc<|I.bE.fresh lc
def Yx{K:Frag}(a b z ti to i1 i2:cr)(dd:Ztd z ti to i1 i2 a b):Turn P w K 58 (SG K a b) (iZ z ti to i1 i2) z (λi h=>Zt h z ti to i1 i2 a b .none i) where
 mem:=av
 obj:=λi h zq=>by obtain⟨gs,gi,go,⟨_,q1,_,d1⟩,⟨_,q2,_,d2⟩⟩:=zq;show Ho gs gi go q1 d1 q2 d2
 keep:=λi h h' st k=>by obtain⟨gs,gi,⟨u,v,go⟩,⟨o1,q1,r1⟩,⟨o2,q2,r2⟩⟩:=st;show{k z (by simp[iZ]) _ gs,k ti (by simp[iZ]) _ gi,{u,v,k to (by simp[iZ]) _ go},{o1,k i1 (by simp[iZ]) _ q1,r1},{o2,k i2 (by simp[iZ]) _ q2,r2}}
 item:=by
  ext X hP hw hK hc i bi s Z H E I hf st hg;subst hP hw hK;let(xs,ys,x,y,ha,hb,hx,hy):=hg;let(Oq,Np,Ii,yR):=I.tuple ha;let(wb,Nn,Dh,xF):=I.tuple hb;let(u1,hu1,Nq):=Np.get hx;let(u2,IQ,HZ):=Nn.get hy;show Qz dd st (show s.heap.IsTuple a Oq.toArray from Ii) (show s.heap.IsTuple b wb.toArray from Dh) (x:=u1) (y:=u2) (↑hu1) (↑IQ) λh1 g1 pr kp=>{_,9,?_};show wA g1.self λh2 z2 sb=>?_;have sU:Heap.SameBut z h1 h2:=sb;have lz:z<35:=aE st.self;have al:∀c∈iZ z ti to i1 i2,c<35:=λc hc=>by obtain⟨gs,gi,go,⟨_,q1,_,d1⟩,⟨_,q2,_,d2⟩⟩:=id st;let(__,e,__):=Ho gs gi go q1 d1 q2 d2 c hc;show aE e
  have vB:∀c o,c∉iZ z ti to i1 i2->s.heap.get? c>o->h2.get? c>o:=λc o hc e=>
   sU.extBut c o 26 (kp c o 26 26 26 26 e)
  have tp:XV h2 35 ([u1,u2]:Aaf).toArray/\∃o,h2.get? 35>o/\o.dict=none:={{_,sU.extBut _ _ (bA lz) pr,9,_,9},_,sU.extBut _ _ (bA lz) pr,9};have I2:=I.QL (t':=89) (xs:=[x,y]) vB hf (ao _) tp (.cons Nq<|.cons HZ .nil) 95;obtain⟨⟨n1,n2,n3,n4⟩,n5,n6,n7,n8⟩:=g1.ne;obtain⟨gs,gi,⟨u,v,go⟩,⟨o1,q1,r1⟩,⟨o2,q2,r2⟩⟩:=g1;show{.ref 35,_,I2,9,{_,x,y,9,57,9,λzs hz=>by rw[I.vg hz ha];show hx,λzs hz=>by rw[I.vg hz hb];show hy},{z2,sU.extBut _ _ n1 gi,{u,v,sU.extBut _ _ n2 go},{o1,sU.extBut _ _ n3 q1,r1},{o2,sU.extBut _ _ n4 q2,r2}},λc hc=>?_};rw[aC<|aD<|al c hc];show(hf c hc).1
 done:=by ext X hP hw hK hc i bi s Z H E I hf st hg;subst hP hw hK;let(xs,ha,hx):=hg;let(Oq,Np,Ii,yR):=I.tuple ha;have hl:=Np.length;show Qy 46 dd st (show s.heap.IsTuple a Oq.toArray from Ii) (by simp;lia) λh1 kp=>{9,I.QM (t':=89) (ch:=iZ z ti to i1 i2) (λc o hc e=>kp c o 26 26 26 26 e) hf}
 self:=λ_ _ _ _ _ st h=>mT st.self h
inductive aeI(K:Frag)(R:It->Hp->Prop)(vs:Aan)(H1:Hp):Prop
 |mk a b (_:vs=[-a,-b]) (_:(∃xs,aZ K H1 a xs)) (_:(∃ys,aZ K H1 b ys)) (_:R (SG K a b) H1)
def agt(K:Frag)(ta:TA):TI:=λZ H R=>ta Z H λvs H1=>aeI K R vs H1
def Ro(hg:Gl X "zip")(hm:X.mg "zip"=none)(ha:PA X [a,b] ta)(hs:re [a,b] X.env=[(false,wT a X.env),(false,wT b X.env)]:=by rfl)(k7:re [b] X.env=[(false,wT b X.env)]:=by rfl):
  PI X 58 (.Call (.Name "zip" p) [a,b] [] pos) (agt X.K ta):=by
 ext bi s Z H R I h;show E9<|nJ I hg hm boot_zip<|dX 119 (by rw[hs,k7]) (by rw[k7];rfl);obtain⟨l1,l2,e,⟨xs,ha⟩,⟨ys,hb⟩,q⟩:=q1;subst e;let(u1,u2,rfl,Nq,HZ):=u0 r1;cases Nq;cases HZ;let(Oq,Np,Ii,yR):=I1.tuple ha;let(wb,Nn,Dh,xF):=I1.tuple hb;have t1:s1.heap.IsTuple l1 Oq.toArray:=Ii;have t2:s1.heap.IsTuple l2 wb.toArray:=Dh;have b1:l1<29:=by let(o,e,__):=t1;show aE e
 have b2:l2<29:=by let(o,e,__):=t2;show aE e
 show QB t1 t2 λh' n en g kp=>?_;subst en;have I2:Inv X bi Z H1 (s1\h'):=I1.kept (t':=s1.toks) kp;show mT g.self ?_;show{_,_,_,_,H1,9,I2,Yx l1 l2 _ _ _ _ _ {?_,?_,?_,?_},g,UR I1,q};·exactλt=>absurd t<|aD<|cI _
 ·exactλt=>absurd t<|aD<|cI _
 ·show aD<|aX b1<|fI _ _
 show aD<|aX b2<|fI _ _
def ZZ{K:Frag}{a b:cr}{xs ys:Aan}{g:TG}{tb:TS}{D:Ends}{Z:St}{H:Hp}(Pv:Nat->St->Hp->Prop)(le:55=91)(h0:Pv 0 Z H)(hl:∀i Z H,i<=55->Pv i Z H->aZ K H a xs/\aZ K H b ys)
  (hs:∀i x y p Z H,xs[i]?>x->ys[i]?>y->Pv i Z H->H p=none->g (-p) Z (upd H p<|.tup [x,y]) λσ2 H2=>tb {D with nx:=Pv<|i+1,ct:=Pv<|i+1,bk:=D.nx} σ2 H2) (hd:∀Z H,Pv 55 Z H->D.nx Z H):
  ∃W:Nat->Nat->St->Hp->Prop,(∃m,W 0 m Z H)/\∀i m Z H,W i m Z H->
   ((SG K a b).stop i H/\D.nx Z H)\/((SG K a b).go i H/\∃N:St->Hp->Prop,(∀σ' H',N σ' H'->∃m',m'<m/\W (i+1) m' σ' H')/\∀x H',(SG K a b).Fx i H x H'->g x Z H' λσ2 H2=>tb {D with nx:=N,ct:=N,bk:=D.nx} σ2 H2):=by
 show{λi m Z H=>m=55 -i/\i<=55/\Pv i Z H,{55,75,aF _,h0},?_};ext i m Z H ⟨rfl,hi,p⟩;let(q1,q2):=hl i Z H hi p;by_cases b6:i<55;·show .inr {{xs,ys,xs[i],ys[i]'∅,q1,q2,by simp[b6],aq _},Pv<|i+1,λσ' H' p'=>{55 -(i+1),8,9,b6,p'},λx H' y=>?_};let(r,u,v,rfl,hr,rfl,y1,y2):=y;show hs i u v r Z H (y1 xs q1) (y2 ys q2) p hr
 have e:i=55:=by lia
 subst e;show .inl {⟨xs,q1,rfl⟩,hd Z H p}
section
variable{P:io}{w:mo}{A:wf}{E:Aad}{v:fv}
def FA(h:Q (v.heap.get? a) v):f8 M A (loadIfAlive a) Q E v:=λΓ p _=>by change Sem.wp M Γ (Sem.loadIfAlive a Sem.pure) _ _ p v;show h
abbrev CG(f0:jp)(b:Bool)(ti to:cr):Go:={cls:=.type "zip",dict:=none,data:=.fields #[f0,.bool b,.bool false,-ti,-to],slots:=#[]}
def sqN:Bool->String
 |true=>"list"
 |false=>"tuple"
def itN:Bool->String
 |true=>"list_iterator"
 |false=>"tuple_iterator"
def lX(b:Bool)(h:ss)(a:cr)(items:Aak):Prop:=∃o,h.get? a>o/\o.cls=.type (sqN b)/\∃n,o.data=.seq items n
def qI(b:Bool)(h:ss)(a l:cr)(i:Nat):Prop:=∃o,h.get? a>o/\o.cls=.type (itN b)/\o.data=.fields #[-l,.int i 0]
def qI.on{b:Bool}{h h':ss}{i l:cr}{k:Nat}(g:qI b h i l k)(s:∀o,h.get? i>o->h'.get? i>o):qI b h' i l k:=
 let⟨o,e,r⟩:=g
 {o,s o e,r}
def lX.on{b:Bool}{h h':ss}{l:cr}{xs:Aak}(g:lX b h l xs)(s:∀o,h.get? l>o->h'.get? l>o):lX b h' l xs:=
 let⟨o,e,r⟩:=g
 {o,s o e,r}
def aaR{b:Bool}{j p:cr}{k:Nat}{aK:Aak}{y:jp}{Q:Aad}(g:qI b v.heap j p k)(gp:lX b v.heap p aK)(gy:aK[k]?>y)
  (q:∀h',qI b h' j p (k+1)->Heap.SameBut j v.heap h'->Q y (v\h')):f8 88 A (Builtin.SmallTypes.nextOf (-j)) Q E v:=by
 cases b;·show wL g gp gy q
 show zo g gp gy q
def af8{b:Bool}{j p:cr}{k:Nat}{aK:Aak}{Q:Aad}(hd:A.handled=none)(g:qI b v.heap j p k)(gp:lX b v.heap p aK)(gy:aK[k]?=none)
  (q:∀h' e,Heap.ExtBut j v.heap h'->(∃o,h'.get? e>o/\o.cls=.type "StopIteration")->E (-e) (v\h')):f8 88 A (Builtin.SmallTypes.nextOf (-j)) Q E v:=by
 cases b;·show uK hd g gp gy q
 show wpAny_nextOf_list_end hd g gp gy q
structure Zs(b:Bool)(h:ss)(z ti to i1 i2 l1 l2 T:cr)(k:Nat):Prop where
 self:∃c,h.get? z>CG (wP T) c ti to
 live:∃o,h.get? T>o
 ins:x0 h ti (-i1) (-i2)
 w1:qI b h i1 l1 k
 w2:qI b h i2 l2 k
def QA{z ti to T:cr}(g:v.heap.get? z>CG (wP T) b ti to)(l:∃o,v.heap.get? T>o)
  (q:∀h',h'.get? z>CG (wP T) true ti to->Heap.SameBut z v.heap h'->Q false (v\h')):f8 88 A (Builtin.SmallTypes.ownedTupleIsFree (-z)) Q E v:=by
 let(o,l):=l;show ae<|cE g 9 9 ?_;show ae<|FA ?_;rw[dE,l];show ae<|cE g 9 9 ?_;cases b with
 |true=>
  show ah<|q v.heap g<|wt _ _
 |false=>
  show ae (dW g 75 λh1 g1 s1=>ah<|q h1 g1 s1)
def abd{b:Bool}{z ti to i1 i2 l1 l2 T:cr}{k:Nat}{xs ys:Aak}{x y:jp}{Q:Aad}(D:IN z ti to i1 i2 l1 l2)(nT:T≠z)(g:Zs b v.heap z ti to i1 i2 l1 l2 T k)
  (t1:lX b v.heap l1 xs) (t2:lX b v.heap l2 ys) (ex:xs[k]?>x) (ey:ys[k]?>y)
  (q:∀h',Zs b h' z ti to i1 i2 l1 l2 T (k+1)->x0 h' v.heap.objs.size x y->(∀c o,c≠z->c≠i1->c≠i2->v.heap.get? c>o->h'.get? c>o)->Q (.ref v.heap.objs.size) (v\h')):
  f8 88 A (Builtin.«zip.__next__» {[-z],[]}) (λfin s'=>∃u,fin=.done (.ret u)/\Q u s') E v:=by
 obtain⟨⟨c,gs⟩,gT,gi,g1,g2⟩:=g;change f8 _ _ (field (-z) 2>>=_) _ _ _;show ae<|cE gs 9 9 ?_;show ae<|cE gs 9 9 ?_;show ae<|cR gi 9 ?_;show ae (QA gs gT λp1 z1 r1=>?_);show ae ?_;show ae<|ae<|bP ?_;show ae (aaR (g1.on λ_=>r1.extBut _ _ D.i1z) (t1.on λ_=>r1.extBut _ _ D.l1z) ex λp2 k2 r2=>ah ?_);show ah ?_;show ae<|ae<|bP ?_;show ae (aaR (g2.on λ_ e=>r2.extBut _ _ D.i12.symm<|r1.extBut _ _ D.i2z e) (t2.on λ_ e=>r2.extBut _ _ D.l2i1<|r1.extBut _ _ D.l2z e) ey λp3 k3 r3=>ah ?_);show ah 83;change f8 _ _ (newTuple [x,y]>>=_) _ _ _;show ae<|qe<|ah {_,9,?_};have sz:p3.objs.size=v.heap.objs.size:=by rw[r3.1,r2.1,r1.1]
 have st:∀c o,c≠z->c≠i1->c≠i2->v.heap.get? c>o->p3.get? c>o:=λc o m1 m2 m3 e=>r3.extBut _ _ m3<|r2.extBut _ _ m2<|r1.extBut _ _ m1 e;rw[sz];let(oa,ja,ra):=(k2.on λ_=>r3.extBut _ _ D.i12);let(ob,jb,rb):=k3;let(oT,gT):=gT;let(o1,e1,c1,__):=g1;let(o2,e2,c2,__):=g2;show q _ {{true,af _<|r3.extBut _ _ D.i2z.symm<|r2.extBut _ _ D.i1z.symm z1},?_,af _<|st _ _ D.TIz D.TIi1 D.TIi2 gi,{oa,af _ ja,ra},{ob,af _ jb,rb}} ?_ λc o m1 m2 m3 e=>af _<|st c o m1 m2 m3 e
 ·by_cases n1:T=i1;·rw[n1];show{oa,af _ ja}
  by_cases n2:T=i2;·rw[n2];show{ob,af _ jb}
  show{oT,af _<|st _ _ nT n1 n2 gT}
 have:=aH p3 (o:={cls:=.type "tuple",data:=.seq #[x,y]}) rfl;rw[sz]at this;show this
def ac9{b:Bool}{z ti to i1 i2 l1 l2 T:cr}{k:Nat}{xs:Aak}{Q:Fin->fv->Prop}(hh:A.handled=none)(D:IN z ti to i1 i2 l1 l2)(g:Zs b v.heap z ti to i1 i2 l1 l2 T k)
  (t1:lX b v.heap l1 xs) (ex:xs[k]?=none)
  (q:∀h' e,(∀c o,c≠z->c≠i1->c≠i2->v.heap.get? c>o->h'.get? c>o)->(∃o,h'.get? e>o/\o.cls=.type "StopIteration")->E (-e) (v\h')):
  f8 88 A (Builtin.«zip.__next__» {[-z],[]}) Q E v:=by
 obtain⟨⟨c,gs⟩,gT,gi,g1,g2⟩:=g;change f8 _ _ (field (-z) 2>>=_) _ _ _;show ae<|cE gs 9 9 ?_;show ae<|cE gs 9 9 ?_;show ae<|cR gi 9 ?_;show ae (QA gs gT λp1 z1 r1=>?_);show ae ?_;show ae<|ae<|bP ?_;show ae (af8 hh (g1.on λ_=>r1.extBut _ _ D.i1z) (t1.on λ_=>r1.extBut _ _ D.l1z) ex λp2 e r2 he=>q p2 e (λc o m1 m2 m3 x=>r2 _ _ m2<|r1.extBut _ _ m1 x) he)
def abc{b:Bool}{z ti to i1 i2 l1 l2 T:cr}{k:Nat}{xs ys:Aak}{x y:jp}{Q:Aah->fv->Prop}(D:IN z ti to i1 i2 l1 l2)(nT:T≠z)(g:Zs b v.heap z ti to i1 i2 l1 l2 T k)
  (t1:lX b v.heap l1 xs) (t2:lX b v.heap l2 ys) (ex:xs[k]?>x) (ey:ys[k]?>y)
  (q:∀h',Zs b h' z ti to i1 i2 l1 l2 T (k+1)->x0 h' v.heap.objs.size x y->(∀c o,c≠z->c≠i1->c≠i2->v.heap.get? c>o->h'.get? c>o)->Q (some<|.ref v.heap.objs.size) (v\h')):
  f8 88 A (pyNext (-z)) Q E v:=by
 let(c,gs):=g.self;have ty:v.TypeIs (-z) "zip":=⟨_,gs,rfl⟩;show ae<|fC<|sw ty jf<|bC jf ty rU (abd D nT g t1 t2 ex ey λh' b1 b2 b3=>ah<|q h' b1 b2 b3)<|qR _
def abb{b:Bool}{z ti to i1 i2 l1 l2 T:cr}{k:Nat}{xs:Aak}{Q:Aah->fv->Prop}(hh:A.handled=none)(D:IN z ti to i1 i2 l1 l2)(g:Zs b v.heap z ti to i1 i2 l1 l2 T k)
  (t1:lX b v.heap l1 xs) (ex:xs[k]?=none) (q:∀h',(∀c o,c≠z->c≠i1->c≠i2->v.heap.get? c>o->h'.get? c>o)->Q none (v\h')):
  f8 88 A (pyNext (-z)) Q E v:=by
 let(c,gs):=g.self;have ty:v.TypeIs (-z) "zip":=⟨_,gs,rfl⟩;show ae<|fC<|sw ty jf<|bC jf ty rU (ac9 hh D g t1 ex λh' e hk he=>?_)<|qR _;let(o,ho,hc):=he;show ae<|iK ⟨o,ho,hc⟩ mC<|ah<|q _ hk
def abi{b:Bool}{z ti to i1 i2 l1 l2:cr}{xs ys:Aak}{x y:jp}{Q:Aah->fv->Prop}(D:IN z ti to i1 i2 l1 l2)(hz:GE v.heap z ti to .none)(hi:x0 v.heap ti (-i1) (-i2))(ho:∃a b,x0 v.heap to a b)
  (j1:qI b v.heap i1 l1 0) (j2:qI b v.heap i2 l2 0) (t1:lX b v.heap l1 xs) (t2:lX b v.heap l2 ys) (ex:xs[0]?>x) (ey:ys[0]?>y)
  (q:∀h',GE h' z ti to (wP v.heap.objs.size)->qI b h' i1 l1 1->qI b h' i2 l2 1->x0 h' v.heap.objs.size x y->(∀c o,c≠z->c≠to->c≠i1->c≠i2->v.heap.get? c>o->h'.get? c>o)->Q (some<|.ref v.heap.objs.size) (v\h')):
  f8 88 A (pyNext (-z)) Q E v:=by
 cases b;·show Qz {D.TITO,D.i12,D.l1TO,D.l2TO} ⟨hz,hi,ho,j1,j2⟩ t1 t2 ex ey λh1 g=>q h1 g.self g.w1 g.w2
 show let⟨_,_,ho⟩:=ho
  wpAny_pyNext_zip_item D hz hi ho j1 j2 t1 t2 ex ey λh1 a1 _ a3 a4 a5 _=>q h1 a1 a3 a4 a5
def abh{b:Bool}{z ti to i1 i2 l1 l2:cr}{xs ys:Aak}{Q:Aah->fv->Prop}(hh:A.handled=none)(D:IN z ti to i1 i2 l1 l2)(hz:GE v.heap z ti to .none)(hi:x0 v.heap ti (-i1) (-i2))(ho:∃a b,x0 v.heap to a b)
  (j1:qI b v.heap i1 l1 0) (j2:qI b v.heap i2 l2 0) (t1:lX b v.heap l1 xs) (t2:lX b v.heap l2 ys) (ex:xs[0]?=none)
  (q:∀h',(∀c o,c≠z->c≠to->c≠i1->c≠i2->v.heap.get? c>o->h'.get? c>o)->Q none (v\h')):f8 88 A (pyNext (-z)) Q E v:=by
 cases b;·show Qy hh {D.TITO,D.i12,D.l1TO,D.l2TO} ⟨hz,hi,ho,j1,j2⟩ t1 ex q
 show let⟨_,_,ho⟩:=ho
  wpAny_pyNext_zip_end hh D hz hi ho j1 j2 t1 t2 (.inl ex) q
def abj{b:Bool}{l1 l2:cr}{xs ys:Aak}{Q:Aad}(h1:lX b v.heap l1 xs)(h2:lX b v.heap l2 ys)
  (q:∀h',GE h' (v.heap.objs.size+4) (v.heap.objs.size+2) (v.heap.objs.size+3) .none->x0 h' (v.heap.objs.size+2) (.ref v.heap.objs.size) (.ref<|v.heap.objs.size+1)->(∃a b,x0 h' (v.heap.objs.size+3) a b)->
   qI b h' v.heap.objs.size l1 0->qI b h' (v.heap.objs.size+1) l2 0->(∀c o,v.heap.get? c>o->h'.get? c>o)->Q (.ref<|v.heap.objs.size+4) (v\h')):
  f8 88 A (Ix (.type "zip") [-l1,-l2]) Q E v:=by
 cases b;·show QB h1 h2 λh' n en zt kp=>by subst en;show q h' zt.self zt.ins zt.outs zt.w1 zt.w2 kp
 show call_zip_2 h1 h2 λh' z0 z1 z2 z3 z4 _ kp=>q h' z0 z1 ⟨_,_,z2⟩ z3 z4 kp
variable{prog:io}
def Ul:KB (.type "zip") "__getattr__"=pure none:=by rw[jL,gH];kernel_rfl
def acI:KB (.type "zip") "keys"=pure none:=by rw[jL,gH];kernel_rfl
def agJ:WP table "zip.__getattribute__">Builtin.«object.__getattribute__»:=AJ (id':="object.__getattribute__") 98 76 76 98
def acG{os:C'}(hx:h.get? a>CG f0 b ti to)(hA:A.handled=none)
  (k:∀h' tk e,Heap.NewAttrErr h h' e (-a) "keys"->E (-e) ⟨h',g,d,tk,os⟩):
  f8 77 A (Builtin.«object.__getattribute__» {[-a,.str "keys" u],[]}) Q E ⟨h,g,d,t,os⟩:=by
 have f4:=acI
 repeat (any_goals (first|(assumption)|(wp_step)))
 show AZ hA k<|attrMsg_fits 76 (by size_fits)
def acJ{os:C'}(hx:h.get? a>CG f0 b ti to)(hA:A.handled=none)
  (k:∀h' tk e,Heap.NewAttrErr h h' e (-a) "keys"->R (.error (-e)) ⟨h',g,d,tk,os⟩):
  AT 77 A (.call (.builtin "zip.__getattribute__") {[-a,.str "keys" u],[]}) R ⟨h,g,d,t,os⟩:=
 m6 F.slot_zip_getattribute.plain agJ (F.slot_zip_getattribute.check _ _ _ _ _ _ _ _ (show(⟨h,g,d,t,os⟩:fv).TypeIs (-a) "zip"from⟨_,hx,rfl⟩) (F.args_zip_getattribute_2 _ _)<|acG hx hA k)
def agK{os:C'}(hx:h.get? a>CG f0 b ti to)(hA:A.handled=none)
  (k:∀h' tk e,Heap.NewAttrErr h h' e (-a) "keys"->E (-e) ⟨h',g,d,tk,os⟩):
  f8 77 A (getAttrBy (-a) (.str "keys" u) false) Q E ⟨h,g,d,t,os⟩:=by
 have g2:=F.slot_zip_getattribute.lookup;have g3:=F.slot_zip_getattribute.bind (-a);have f5:=Ul;have f1:=oQ
 repeat (any_goals (first|(assumption)|(wp_step)))
 show acJ hx hA λh' tk e ne=>?_;let(t',u',he):=ne.there
 repeat (any_goals (first|(assumption)|(wp_step)))
 show k _ _ _ ne
def acK{os:C'}(hx:h.get? a>CG f0 b ti to)(hA:A.handled=none)
  (k:∀h' tk e,Heap.NewAttrErr h h' e (-a) "keys"->Q none ⟨h',g,d,tk,os⟩):
  f8 77 A (getAttr? (-a) "keys") Q E ⟨h,g,d,t,os⟩:=by
 have f1:=oQ
 repeat (any_goals (first|assumption|(with_reducible show agK hx hA λh' tk e ne=>?_)|wp_step))
 let(t',u',he):=ne.there
 repeat (any_goals (first|(assumption)|(wp_step)))
 show k _ _ _ ne
def acH{b:Bool}{l1 l2 d z ti to i1 i2:cr}{us vs:Aaf}{h0:ss}{pairs:List (Key×jp)}{R:P3->fv->Prop}(hA:A.handled=none)(D:IN z ti to i1 i2 l1 l2)(jN:h0.get? d=none)(n1:d≠z)(n2:d≠i1)(n3:d≠i2)(n4:d≠ti)
  (wd:lX b h0 l1 us.toArray) (iz:lX b h0 l2 vs.toArray) (hp:Paired 138 us pairs) (hv:vs=pairs.map (·.2)) (hsz:pairs.length<=dL) (g:Array SZ) (dr:Drawn) (os:C')
  (k:∀h' tk,(∀b o,b≠z->b≠to->b≠i1->b≠i2->h0.get? b>o->h'.get? b>o)->h'.DictOf (b4 prog w) d (NE [] pairs)->R (.ok<|.ret .none) ⟨h',g,dr,tk,os⟩):
  ∀(m i:Nat)(h:ss)(tk:Nat)(T:cr),us.length -i=m->i<=us.length->(∀b o,b≠z->b≠to->b≠i1->b≠i2->h0.get? b>o->h.get? b>o)->T≠z->Zs b h z ti to i1 i2 l1 l2 T i->h.DictOf (b4 prog w) d (NE []<|pairs.take i)->
   AT 77 A (.builtin "dict.update.loop" {[-d,-z,wP i,.none],[]}) R ⟨h,g,dr,tk,os⟩:=by
 ext m;have aaV:∀(h:ss),(∀b o,b≠z->b≠to->b≠i1->b≠i2->h0.get? b>o->h.get? b>o)->lX b h l1 us.toArray/\lX b h l2 vs.toArray:=λh kp=>by show{wd.on λ_=>kp _ _ D.l1z D.l1TO D.l1i1 D.l1i2,iz.on λ_=>kp _ _ D.l2z D.l2TO D.l2i1 D.l2i2}
 induction m with
 |zero=>
  ext i h tk T em hi kp nT hz hd;have ei:i=us.length:=by lia
  show dA uQ ?_;show ae (abb (show(A.under _).handled=none from hA) D hz (aaV h kp).1 (by rw[ei];simp) λh' hs=>?_);show ae<|ah 83;rw[ei,aQ hp,bq]at hd;let(o,es,ep,e,r):=hd;show k h' _ (λb o m1 m2 m3 m4 hb=>hs b o m1 m3 m4<|kp b o m1 m2 m3 m4 hb) {o,es,ep,hs _ _ n1 n2 n3 e,r}
 |succ m ih=>
  ext i h tk T em hi kp nT hz hd;have b6:i<us.length:=by lia
  obtain⟨x,hx⟩:∃x,us[i]?>x:={_,aq b6};let(kv,nM,W5):=Paired.at' hp hx;show dA uQ ?_;let(t1,t2):=aaV h kp;show ae (abc D nT hz t1 t2 (↑hx) (by simpa using(by rw[hv,aN,nM];rfl)) λh1 yR pr vD=>?_);let(od,es,ep,ed,rd):=hd;show ae<|bP<|ae<|Ab ?_;show ae<|jC ⟨_,pr,rfl⟩ ?_;show ae<|cR pr 9 83;have lm:(NE []<|pairs.take i).length<=dL:=by have e1:=rO []<|pairs.take i;rw[aW]at e1;simp only[gc]at e1;lia
  show bP (uc W5 ({od,es,ep,vD _ _ n1 n2 n3 ed,rd}) λh2 hd2 k7=>?_);show ah {jI _ 76,?_};have st:∀b o,b≠d->h1.get? b>o->h2.get? b>o:=λb o n e=>(k7.2 b n).trans e;have vB:=λb o m1 m2 m3 m4 hb=>st b o (λe=>by rw[e,jN]at hb;cases hb)<|(λb o m1 m2 m3 m4 hb=>vD b o m1 m3 m4<|kp b o m1 m2 m3 m4 hb) b o m1 m2 m3 m4 hb;obtain⟨⟨c,gs⟩,⟨oT,gT⟩,gi,ja,jb⟩:=yR;have xF:Zs b h2 z ti to i1 i2 l1 l2 T (i+1):=by
   show{{c,st _ _ (bN n1) gs},?_,st _ _ (bN n4) gi,ja.on λ_=>st _ _<|bN n2,jb.on λ_=>st _ _<|bN n3};by_cases nd:T=d;·let(o',__,__,e',__):=hd2;rw[nd];show⟨o',e'⟩
   show{oT,st _ _ nd gT}
  show ih (i+1) h2 _ T ∅ b6 vB nT xF (by rw[xA [] pairs i kv nM];show hd2)
def Z3{b:Bool}{l1 l2 d z ti to i1 i2:cr}{us vs:Aaf}{h0 h:ss}{tk:Nat}{pairs:List (Key×jp)}{R:P3->fv->Prop}(hA:A.handled=none)(D:IN z ti to i1 i2 l1 l2)(jN:h0.get? d=none)(n1:d≠z)(n2:d≠i1)(n3:d≠i2)(n4:d≠ti)(n5:d≠to)
  (wd:lX b h0 l1 us.toArray) (iz:lX b h0 l2 vs.toArray) (hp:Paired 138 us pairs) (hv:vs=pairs.map (·.2)) (hsz:pairs.length<=dL) (h1l:1<=us.length) (g:Array SZ) (dr:Drawn) (os:C')
  (k:∀h' tk,(∀b o,b≠z->b≠to->b≠i1->b≠i2->h0.get? b>o->h'.get? b>o)->h'.DictOf (b4 prog w) d (NE [] pairs)->R (.ok<|.ret .none) ⟨h',g,dr,tk,os⟩)
  (kp:∀b o,b≠z->b≠to->b≠i1->b≠i2->h0.get? b>o->h.get? b>o) (hz:GE h z ti to .none) (hi:x0 h ti (-i1) (-i2)) (ho:∃a b,x0 h to a b) (j1:qI b h i1 l1 0) (j2:qI b h i2 l2 0) (hd:h.DictOf (b4 prog w) d []):
   AT 77 A (.builtin "dict.update.loop" {[-d,-z,wP 0,.none],[]}) R ⟨h,g,dr,tk,os⟩:=by
 obtain⟨x,hx⟩:∃x,us[0]?>x:={_,aq ∅};let(kv,nM,W5):=Paired.at' hp hx;show dA uQ ?_;show ae (abi D hz hi ho j1 j2 (wd.on λ_=>kp _ _ D.l1z D.l1TO D.l1i1 D.l1i2) (iz.on λ_=>kp _ _ D.l2z D.l2TO D.l2i1 D.l2i2) (↑hx) (by simpa using(by rw[hv,aN,nM];rfl)) λh1 a1 a3 a4 a5 vD=>?_);let(od,es,ep,ed,rd):=hd;show ae<|bP<|ae<|Ab ?_;show ae<|jC ⟨_,a5,rfl⟩ ?_;show ae<|cR a5 9 83;show bP (uc W5 ({od,es,ep,vD _ _ n1 n5 n2 n3 ed,rd}) λh2 hd2 k7=>?_);show ah {jI _ 76,?_};have st:∀b o,b≠d->h1.get? b>o->h2.get? b>o:=λb o n e=>(k7.2 b n).trans e;have xF:Zs b h2 z ti to i1 i2 l1 l2 h.objs.size 1:=by
  show{{false,st _ _ (bN n1) a1},?_,st _ _ (bN n4)<|vD _ _ D.TIz D.TITO D.TIi1 D.TIi2 hi,a3.on λ_=>st _ _<|bN n2,a4.on λ_=>st _ _<|bN n3};by_cases nd:h.objs.size=d;·let(o',__,__,e',__):=hd2;rw[nd];show⟨o',e'⟩
  show{_,st _ _ nd a5}
 show acH hA D jN n1 n2 n3 n4 wd iz hp hv hsz g dr os k (us.length -1) 1 h2 _ h.objs.size rfl ∅ (λb o m1 m2 m3 m4 hb=>st b o (λe=>by rw[e,jN]at hb;cases hb)<|vD b o m1 m2 m3 m4<|kp b o m1 m2 m3 m4 hb) (bA<|aE hz) xF (by rw[xA [] pairs 0 kv nM];show hd2)
def afu{b:Bool}{l1 l2 d z ti to i1 i2:cr}{us vs:Aaf}{h0 h:ss}{tk:Nat}{pairs:List (Key×jp)}{R:P3->fv->Prop}(hA:A.handled=none)(D:IN z ti to i1 i2 l1 l2)(jN:h0.get? d=none)(n1:d≠z)(n2:d≠i1)(n3:d≠i2)(n4:d≠ti)(n5:d≠to)
  (wd:lX b h0 l1 us.toArray) (iz:lX b h0 l2 vs.toArray) (hp:Paired 138 us pairs) (hv:vs=pairs.map (·.2)) (hsz:pairs.length<=dL) (g:Array SZ) (dr:Drawn) (os:C')
  (k:∀h' tk,(∀b o,b≠z->b≠to->b≠i1->b≠i2->h0.get? b>o->h'.get? b>o)->h'.DictOf (b4 prog w) d (NE [] pairs)->R (.ok<|.ret .none) ⟨h',g,dr,tk,os⟩)
  (kp:∀b o,b≠z->b≠to->b≠i1->b≠i2->h0.get? b>o->h.get? b>o) (hz:GE h z ti to .none) (hi:x0 h ti (-i1) (-i2)) (ho:∃a b,x0 h to a b) (j1:qI b h i1 l1 0) (j2:qI b h i2 l2 0) (hd:h.DictOf (b4 prog w) d []):
   AT 77 A (.builtin "dict.update.loop" {[-d,-z,wP 0,.none],[]}) R ⟨h,g,dr,tk,os⟩:=by
 by_cases h1l:1<=us.length;·show Z3 hA D jN n1 n2 n3 n4 n5 wd iz hp hv hsz h1l g dr os k kp hz hi ho j1 j2 hd
 have lp:=aQ hp;have e1:us=[]:=cc.mp ∅;have e2:pairs=[]:=cc.mp ∅;subst e1 e2;show dA uQ ?_;show ae (abh (show(A.under _).handled=none from hA) D hz hi ho j1 j2 (wd.on λ_=>kp _ _ D.l1z D.l1TO D.l1i1 D.l1i2) (iz.on λ_=>kp _ _ D.l2z D.l2TO D.l2i1 D.l2i2) 75 λh' hs=>?_);show ae<|ah 83;let(o,es,ep,e,r):=hd;show k h' _ (λb o m1 m2 m3 m4 hb=>hs b o m1 m2 m3 m4<|kp b o m1 m2 m3 m4 hb) {o,es,ep,hs _ _ n1 n5 n2 n3 e,r}
def Z4{b:Bool}{l1 l2 z ti to i1 i2:cr}{us vs:Aaf}{pairs:List (Key×jp)}{s:fv}{Q:Aad}(hA:A.handled=none)(D:IN z ti to i1 i2 l1 l2)
  (wd:lX b s.heap l1 us.toArray) (iz:lX b s.heap l2 vs.toArray) (hp:Paired 138 us pairs) (hv:vs=pairs.map (·.2)) (hsz:pairs.length<=dL)
  (hz:GE s.heap z ti to .none) (hi:x0 s.heap ti (-i1) (-i2)) (ho:∃a b,x0 s.heap to a b) (j1:qI b s.heap i1 l1 0) (j2:qI b s.heap i2 l2 0)
  (k:∀h' tk,(∀b o,b≠z->b≠to->b≠i1->b≠i2->s.heap.get? b>o->h'.get? b>o)->h'.DictOf (b4 prog w) 35 (NE [] pairs)->Q (.ref 35) 44):
  f8 77 A (Ix (.type "dict") [-z]) Q E s:=by
 show AM (Q₁:=λv1 z1=>v1=.ref 35/\z1=(s\s.heap.push {cls:=.type "dict",data:=.dict #[]})) F.kt_called_dict (BM _) Fw (kt_code_dict_new _ ⟨rfl,rfl⟩) ?_;ext v1 z1 ⟨rfl,rfl⟩;let(lR,g,dr,tk,os):=s;have GW:(lR.push {cls:=.type "dict",data:=.dict #[]}).DictOf (b4 prog w) lR.objs.size []:=zi lR;have yR:(lR.push {cls:=.type "dict",data:=.dict #[]}).get? z>CG .none false ti to:=af _ hz;show{GW.typeIs,EE _ _,?_};show ae ?_;show ae<|iO GW.typeIs 83;change f8 77 _ (Builtin.Dict.updateFrom "dict.__init__" lR.objs.size (-z) [] .none) _ _ _;show ae<|jC ⟨_,yR,rfl⟩ ?_;show ae (acK yR hA λh2 tk2 e ne=>?_);show ae<|i6 ?_;have kp:∀b o,lR.get? b>o->h2.get? b>o:=λb o hb=>ne.keeps _ _<|af _ hb;have xF:=kp _ _ hz;show ae<|mT xF ?_;have hd2:h2.DictOf (b4 prog w) lR.objs.size []:=by let(o',es,ep,h',r):=GW;show{o',es,ep,ne.keeps _ _ h',r}
 show ah {jI _ 76,?_};let(a,b',ho):=ho;let(oa,ja,ra):=j1;let(ob,jb,rb):=j2;have nz:∀{c:cr}{o:Go},lR.get? c>o->lR.objs.size≠c:=λe=>bA<|aE e;show afu (show A.in1.handled=none from hA) D (nq<|ao _) (nz hz) (nz ja) (nz jb) (nz hi) (nz ho) wd iz hp hv hsz g dr os (λh' Hu Ls ui=>{9,k h' Hu Ls ui}) (λb o _ _ _ _ hb=>kp b o hb) xF (kp _ _ hi) {a,b',kp _ _ ho} {oa,kp _ _ ja,ra} {ob,kp _ _ jb,rb} hd2
end
section
variable{X:Cx}
def abe:∀{ks:List Key}{ys:Aan}{us vs:Aaf},Vals (ks.map kV) us->Vals ys vs->ks.length=91->∃pairs:List (Key×jp),Paired (λ(u:jp)(p:Key×jp)=>(b4 P w).is p.1 u=true) us pairs/\vs=pairs.map (·.2)/\KV (ks.zip ys) pairs/\pairs.length=ks.length:=by
 ext ks ys us vs h g e
 induction ks generalizing ys us vs with
 |nil=>cases ys with
  |nil=>cases h;cases g;show{[],.nil,9,.nil,9}
  |cons=>cases e
 |cons k ks ih=>cases ys with
  |nil=>cases e
  |cons y ys=>
   cases h with
   |cons r1 t1=>cases g with
    |@cons _ v _ _ r2 t2=>
     let(ps,h1,h2,h3,h4):=ih t1 t2<|Nat.succ.inj e;show{(k,v)::ps,.cons (u9 r1) h1,by rw[bI,<-h2],.cons ⟨rfl,r2⟩ h3,c8 Nat.succ h4}
def SqX(b:Bool)(K:Frag)(H:Hp)(l:cr)(xs:Aan):Prop:=match b with
 |true=>aT K H l xs
 |false=>aZ K H l xs
inductive af4(c:Bool)(K:Frag)(Q:VK)(vs:Aan)(H1:Hp):Prop
 |mk (l1 l2:cr) (ks:List Key) (ys:Aan) (_:vs=[-l1,-l2]) (_:SqX c K H1 l1 (ks.map kV)) (_:SqX c K H1 l2 ys) (_:ks.length=ys.length) (_:∀d,H1 d=none->Q (-d) (upd H1 d<|.dK<|nG []<|ks.zip ys))
def ag2(c:Bool)(K:Frag)(ta:TA):TE:=λZ H Q=>ta Z H λvs H1=>af4 c K Q vs H1
def SqX.has{X:Cx}{b:Bool}{bi:Aab}{Z:St}{H:Hp}{s:fv}{l:cr}{xs:Aan}(I:Inv X bi Z H s)(h:SqX b X.K H l xs):∃is,Vals xs is/\lX b s.heap l is.toArray/\55<=dL:=by
 cases b
 ·show let⟨is,r,p,z⟩:=I.tuple h
   ⟨is,r,p,z⟩
 show let⟨is,r,p,z⟩:=I.list h
  {is,r,p.isList,z}
def Dj{c:Bool}{a b:xL}{ta:TA}{p p2 pos JU:GM}(hg:Gl X "dict")(hm:X.mg "dict"=none)(hg2:Gl X "zip")(IU:X.mg "zip"=none)(hA:X.A.handled=none)(ha:PA X [a,b] ta)
  (hs:re [a,b] X.env=[(false,wT a X.env),(false,wT b X.env)]:=by rfl) (k7:re [b] X.env=[(false,wT b X.env)]:=by rfl) (DL:re [.Call (.Name "zip" p2) [a,b] [] JU] X.env=[(false,wT (.Call (.Name "zip" p2) [a,b] [] JU) X.env)]:=by rfl):
  PE X (.Call (.Name "dict" p) [.Call (.Name "zip" p2) [a,b] [] JU] [] pos) (ag2 c X.K ta):=by
 ext bi s Z H Q I h;show E9<|nJ I hg hm (by decide+kernel:Da "dict">.type "dict")<|dX ?_ DL 9;show gh<|E9<|nJ I hg2 IU boot_zip<|dX (oO (ha JU bi s Z H _ I h) λus s1 vs H1 I1 r1 q1=>?_) (by rw[hs,k7]) (by rw[k7];rfl);let(l1,l2,ks,ys,e,h1,h2,hkl,q):=q1;subst e;let(u1,u2,rfl,Nq,HZ):=u0 r1;cases Nq;cases HZ;let(Oq,Np,Ii,yR):=h1.has I1;let(wb,Nn,Dh,xF):=h2.has I1;let(pairs,xH,oF,kh,Ly):=abe Np Nn hkl;have b1:l1<29:=by let(o,e,__):=id Ii;show aE e
 have b2:l2<29:=by let(o,e,__):=id Dh;show aE e
 have lz:ks.length<=dL:=by rw[ag]at yR;show yR
 show abj Ii Dh λh' z0 z1 z2 z3 z4 kp=>?_;show jZ ?_;have l0:Oq.length=ks.length:=by have:=Np.length;rw[ag]at this;show this.symm
 show Z4 hA (zipApart_new b1 b2) (Ii.on λ_=>kp _ _) (Dh.on λ_=>kp _ _) xH oF ∅ z0 z1 z2 z3 z4 λh2 tk vB hd=>?_;have rel:=KV.merge kh .nil;have lzm:(nG []<|ks.zip ys).length<=dL:=by have e1:=rO [] pairs;rw[rel.length];simp only[gc]at e1;lia
 have kpA:∀c o,s1.heap.get? c>o->h2.get? c>o:=λc o e=>by have lc:=aE e;show vB c o (aD<|aX lc<|fI _ _) (aD<|aX lc<|fI _ _) (aD lc) (aD<|aX lc<|fI _ _)<|kp c o e
 have ld:29<=h'.objs.size:=by show aS (fI _ 4)<|bU<|aE z0
 show{.ref h'.objs.size,_,I1.laid kpA ld<|AK lzm (dq.mpr<|bN<|aD<|aX I1.big ld) rel hd,9,q _<|I1.bE.fresh ld}
end
end L2
namespace Tb
open PySem PySem.SetTable
def S:Nat->Nat
 |0=>0
 |n+1=>5*S n+1
def F:Nat->Nat->Nat
 |0,i=>i
 |n+1,i=>5*F n i+1
theorem PD:∀n i,F n i=i+S n*(4*i+1)
 |0,i=>by simp[F,S]
 |n+1,i=>by change 5*F n i+1=i+(5*S n+1)*(4*i+1);rw[PD n i,Gs,kQ,rB];lia
def aa9(m:Nat):∀n i,F (m+n) i=F m (F n i):=by
 ext n i
 induction m with
 |zero=>simp[F]
 |succ m ih=>
  rw[show m+1+n=(m+n)+1 by lia];change 5*F (m+n) i+1=5*F m (F n i)+1;rw[ih]
def agP(n:Nat):S (n+n)=2*S n*(2*S n+1):=by have h:=aa9 n n 0;rw[PD,PD n<|F n 0,PD n 0]at h;simp only[Nat.mul_zero,Nat.zero_add,Nat.mul_one]at h;rw[h];generalize S n=x;rw[rB,rB,show x*(4*x)=2*x*(2*x) by rw[wo,show(4:Nat)=2*2 from rfl,kQ,kQ,wo x 2 x]];lia
theorem aa5:∀k,∃c,S (2^k)=2^k*(2*c+1)
 |0=>{0,9}
 |k+1=>by
  let(c,hc):=aa5 k;show{2*c*S (2^k)+c+S (2^k),?_};rw[show 2^(k+1)=2^k+2^k by rw[pV];lia,agP];generalize hs:S (2^k)=s at hc;have e:2*s*(2*s+1)=2*(2^k*(2*c+1))*(2*s+1):=by rw[<-hc]
  rw[e,<-Nat.two_mul,<-kQ,kQ<|2*2^k];congr 1;rw[Gs,rB,rB,rB];have:2*c*(2*s)=2*(2*c*s):=by rw[wo]
  lia
theorem cover:∀(k i j:Nat),∃n,n<2^k/\F n i % 2^k=j % 2^k
 |0=>λi j=>{0,7,by simp[Nat.mod_one]}
 |k+1=>λi j=>by
  let(n,hn,e):=cover k i j;rw[pV];by_cases c:F n i/2^k % 2=j/2^k % 2;·show{n,8,by rw[zR,zR,e,c]}
  let(z,hz):=aa5 k;show{2^k+n,8,?_};have e2:F (2^k+n) i=F n i+2^k*(2*(z*(4*F n i+1)+2*F n i)+1):=by rw[aa9,PD<|2^k,hz,kQ];congr 2;rw[Gs,Nat.one_mul,kQ];lia
  rw[e2,zR,zR,Nat.add_mul_mod_self_left,Nat.add_mul_div_left _ _<|Nat.two_pow_pos k,e];congr 2;lia
def Gm(mask:Nat)(p:Probe):Probe:=
 if p.more⊃0 then{p with j:=p.j+1,more:=p.more -1}else
 {p with j:=(leap mask p.i p.perturb).1,more:=runEnd mask (leap mask p.i p.perturb).1 -(leap mask p.i p.perturb).1,i:=(leap mask p.i p.perturb).1,perturb:=(leap mask p.i p.perturb).2}
abbrev QW(mask i q:Nat):Probe:={j:=i,more:=runEnd mask i -i,i:=i,perturb:=q,dummy:=none}
def pr(mask:Nat)(h:Int):Nat->Probe
 |0=>QW mask (bits h %(mask+1))<|bits h
 |d+1=>Gm mask<|pr mask h d
def YJ(t:SetTable)(h:Int):t.probeStart h=pr t.mask h 0:=9
def ps(mask:Nat)(h:Int)(d:Nat):Nat:=(pr mask h d).j
def lp(mask:Nat)(h:Int):Nat->Nat×Nat
 |0=>(bits h %(mask+1),bits h)
 |n+1=>leap mask (lp mask h n).1 (lp mask h n).2
def run(mask i:Nat):Nat:=runEnd mask i -i
def Tn(mask:Nat)(h:Int):Nat->Nat
 |0=>0
 |n+1=>Tn mask h n+run mask (lp mask h n).1+1
def adR(mask i:Nat):run mask i<=09:=by unfold run runEnd;split<;>lia
theorem aa4(mask:Nat)(h:Int):∀n,Tn mask h n<=10*n
 |0=>ao _
 |n+1=>by have:=aa4 mask h n;have:=adR mask (lp mask h n).1;change Tn mask h n+run mask (lp mask h n).1+1<=_;lia
def abU(mask:Nat)(h:Int):∀n,pr mask h (Tn mask h n)=QW mask (lp mask h n).1 (lp mask h n).2/\∀e,e<=run mask (lp mask h n).1->pr mask h (Tn mask h n+e)={j:=(lp mask h n).1+e,more:=run mask (lp mask h n).1 -e,i:=(lp mask h n).1,perturb:=(lp mask h n).2,dummy:=none}:=by
 have Vy:∀n,pr mask h (Tn mask h n)=QW mask (lp mask h n).1 (lp mask h n).2->∀e,e<=run mask (lp mask h n).1->pr mask h (Tn mask h n+e)={j:=(lp mask h n).1+e,more:=run mask (lp mask h n).1 -e,i:=(lp mask h n).1,perturb:=(lp mask h n).2,dummy:=none}:=by
  ext n h0 e
  induction e with
  |zero=>ext _;rw[yg,h0];rfl
  |succ e ih=>
   ext he;change Gm mask (pr mask h<|Tn mask h n+e)=_;rw[ih ∅];unfold Gm;rw[aL (show run mask (lp mask h n).1 -e⊃0 by lia)];congr 1
 ext n
 induction n with
 |zero=>show{9,Vy 0 rfl}
 |succ n ih=>
  have h1:pr mask h (Tn mask h<|n+1)=QW mask (lp mask h<|n+1).1 (lp mask h<|n+1).2:=by change Gm mask (pr mask h<|Tn mask h n+run mask (lp mask h n).1)=_;rw[ih.2 _<|ao _];unfold Gm;rw[az 75];rfl
  show{h1,Vy _ h1}
def Ih{mask:Nat}(he:e<=run mask (lp mask h n).1):ps mask h (Tn mask h n+e)=(lp mask h n).1+e:=by unfold ps;rw[(abU mask h n).2 e he]
theorem agn(mask:Nat)(h:Int):∀n,(lp mask h n).1<mask+1
 |0=>tQ _<|ye _
 |n+1=>tQ _<|ye _
theorem aew(mask:Nat)(h:Int):∀n,(lp mask h n).2=bits h/32^n
 |0=>by simp[lp]
 |n+1=>by change(lp mask h n).2/32=_;rw[aew mask h n,Nat.div_div_eq_div_mul,pV]
def acZ(h:Int):bits h<2^64:=by unfold bits;lia
theorem RD{mask k:Nat}(hk:mask+1=2^k)(h:Int):∀n,(lp mask h<|13+n).1=F n (lp mask h 13).1 % 2^k
 |0=>by have:=agn mask h 13;change(lp mask h 13).1=(lp mask h 13).1 % 2^k;rw[Nat.mod_eq_of_lt ∅]
 |n+1=>by
  change((lp mask h<|13+n).1*5+1+(lp mask h<|13+n).2/32) %(mask+1)=(5*F n (lp mask h 13).1+1) % 2^k;have q0:(lp mask h<|13+n).2/32=0:=by rw[aew];have h2:32^13<=32^(13+n):=nc 7 ∅;rw[Nat.div_eq_of_lt (show bits h<32^(13+n)from aX (f9 (acZ h) 7) h2)]
  rw[q0,RD hk h n,hk,yg,Nat.add_mod,Nat.mul_mod,Nat.mod_mod,<-Nat.mul_mod,<-Nat.add_mod,Nat.mul_comm]
def hits{mask k:Nat}(hk:mask+1=2^k)(h:Int)(hj:j<=mask):∃n,n<=13+mask/\(lp mask h n).1=j/\ps mask h (Tn mask h n)=j:=by let(n,hn,e):=cover k (lp mask h 13).1 j;have e2:=RD hk h n;rw[e,Nat.mod_eq_of_lt ∅]at e2;show{13+n,8,e2,?_};have:=Ih (mask:=mask) (h:=h) (n:=13+n)<|aF _;rw[yg,yg]at this;rw[this,e2]
def Tj{mask:Nat}:ps mask h d<=mask:=by
 have key:∀d,(pr mask h d).j+(pr mask h d).more<=mask:=by
  have base:∀i q,i<mask+1->(QW mask i q).j+(QW mask i q).more<=mask:=λi q hi=>by change i+(runEnd mask i -i)<=mask;unfold runEnd;split<;>lia
  ext d
  induction d with
  |zero=>show base _ _<|tQ _<|ye _
  |succ d ih=>
   change(Gm mask<|pr mask h d).j+(Gm mask<|pr mask h d).more<=mask;unfold Gm;split;·change(pr mask h d).j+1+((pr mask h d).more -1)<=mask;lia
   show base _ 0<|tQ _<|ye _
 have:=key d;unfold ps;lia
def least{p:Nat->Prop}:∀{n},p n->∃m,m<=n/\p m/\∀e,e<m->¬p e:=by
 ext n
 induction n using Nat.strongRecOn with
 |ind n ih=>
  ext hn;by_cases c:∃e,e<n/\p e;·let(e,he,pe):=c;let(m,h1,h2,h3):=ih e he pe;show{m,8,h2,h3}
  show{n,ao _,hn,λe he pe=>c ⟨e,he,pe⟩}
def pM(xs:Array Nat):Prop:=∀i k,i<k->k<xs.size->xs.getD i 0<xs.getD k 0
def ZV{xs:Array Nat}(h:i<xs.size):xs.getD i a=xs.getD i b:=by simp[Array.getD,h]
def getD_some{xs:Array Nat}:xs[i]?>j↔i<xs.size/\xs.getD i 0=j:=by
 constructor;·ext e;let(h,e):=fF.mp e;show{h,by simp[Array.getD,h,e]}
 ext⟨h,e⟩;simpa[Array.getD,h]using e
theorem Hg(hr:pM xs)(j:Nat):∀(f lo hi:Nat),lo<=hi->hi<=xs.size->hi -lo<=f->(∀i,i<lo->xs.getD i 0<j)->(∀i,hi<=i->i<xs.size->j<=xs.getD i 0)->
  below.go xs j f lo hi<=xs.size/\(∀i,i<below.go xs j f lo hi->xs.getD i 0<j)/\∀i,below.go xs j f lo hi<=i->i<xs.size->j<=xs.getD i 0
 |0=>λlo hi h1 h2 h3 h4 h5=>by change lo<=xs.size/\(∀i,i<lo->xs.getD i 0<j)/\∀i,lo<=i->i<xs.size->j<=xs.getD i 0;show{8,h4,λi a b=>h5 i ∅ b}
 |f+1=>λlo hi h1 h2 h3 h4 h5=>by
  unfold below.go;by_cases c:lo<hi
  ·simp only[aL c];have hm:(lo+hi)/2<xs.size:=by lia
   rw[ZV (b:=0) hm];by_cases d:xs.getD ((lo+hi)/2) 0<j
   ·simp only[aL d];show Hg hr j f _ _ ∅ h2 ∅ (λi hi'=>?_) h5;by_cases e:i=(lo+hi)/2;·rw[e];show d
    show f9 (hr i _ ∅ hm) d
   simp only[az d];show Hg hr j f _ _ ∅ ∅ ∅ h4 λi a b=>?_;by_cases e:i=(lo+hi)/2;·rw[e];lia
   have:=hr ((lo+hi)/2) i ∅ b;lia
  simp only[az c];show{8,h4,λi a b=>h5 i ∅ b}
def wO(hr:pM xs)(j:Nat):below xs j<=xs.size/\(∀i,i<below xs j->xs.getD i 0<j)/\∀i,below xs j<=i->i<xs.size->j<=xs.getD i 0:=
 Hg hr j xs.size 0 xs.size (aF _) (ao _) ∅ (λi h=>absurd h<|eE _) λi a b=>by lia
def below_at(hr:pM xs)(e:xs[i]?>j):below xs j=i:=by
 let(h1,h2,h3):=wO hr j;let(hi,e):=getD_some.mp e;rcases lY (below xs j) i with c|c|c;·have:=h3 _ (ao _) ∅;have:=hr _ _ c hi;lia
 ·show c
 have:=h2 i c;lia
def KU{t:SetTable}(hr:pM t.place)(e:t.place[i]?>j):t.slot j=.live i:=by unfold SetTable.slot;rw[below_at hr e];simp[e]
def Vo{t:SetTable}(hd:t.dummies=#[])(e:∀i:Nat,t.place[i]?≠some j):t.slot j=.empty:=by unfold SetTable.slot;rw[az (λh=>e _<|eU h),hd];rw[az (by simp[has])]
def Uj{mask:Nat}(hr:pM xs)(hs:xs.size<=mask):∃j:Nat,j<=mask/\∀i:Nat,xs[i]?≠some j:=by
 by_cases c:∃j:Nat,j<=mask/\∀i:Nat,xs[i]?≠some j;·show c
 exfalso;have all:∀j:Nat,j<=mask->∃i:Nat,xs[i]?>j:=λj hj=>gD λn=>c {j,hj,λi e=>n ⟨i,e⟩};have key:∀m:Nat,m<=mask->xs[m]?>m:=by
  ext m
  induction m using Nat.strongRecOn with
  |ind m ih=>
   ext hm;let(i,e):=all m hm;rcases lY i m with q|q|q;·have:=ih i q ∅;rw[this]at e;cases e;lia
   ·rw[<-q];rw[q]at e⊢;show e
   let(hi,ei):=getD_some.mp e;have h1:=hr m i q hi;have h2:m<=xs.getD m 0:=by
    cases m with
    |zero=>show aF _
    |succ m=>
     let(__,e3):=getD_some.mp<|ih m ∅ ∅;have:=hr m (m+1) ∅ ∅;lia
   lia
 let(h,__):=getD_some.mp<|key mask<|ao _;lia
structure Tab(t:SetTable)(hs:List Int):Prop where
 pow:∃k,t.mask+1=2^k
 big:07<=t.mask
 XJ:t.dummies=#[]
 rise:pM t.place
 sz:t.place.size=hs.length
 i0:hs.length<=t.mask
 le:∀i j:Nat,t.place[i]?>j->j<=t.mask
 reach:∀(i:Nat)(h:Int),hs[i]?>h->∃d,t.place[i]?>ps t.mask h d/\∀e,e<d->∃i':Nat,t.place[i']?>ps t.mask h e
def Tab.fits(T:Tab t hs):t.fits hs.length=true:=by unfold SetTable.fits SetTable.fill;have h1:=T.sz;have h2:=T.i0;rw[T.XJ,h1];simp[h2]
def Tab.way(T:Tab t hs):t.gaveWay=false:=by
 let(k,hk):=T.pow;have:=T.big;unfold SetTable.gaveWay;cases k with
 |zero=>rw[Nat.pow_zero]at hk;lia
 |succ k=>rw[pV]at hk;simp;lia
def Tab.fresh(finger moves:Nat)(led:Bool):Tab (.fresh finger moves led) [] where
 pow:={3,9}
 big:=ao 07
 XJ:=9
 rise:=λi k _ h=>absurd h<|eE _
 sz:=9
 i0:=aF _
 le:=λi j e=>by simp[SetTable.fresh]at e
 reach:=λi h e=>by simp at e
structure UI(t:SetTable)(h:Int)(D:Nat):Prop where
 lt:D<10*turns t.mask
 no:∀i:Nat,t.place[i]?≠some 56
 ahead:∀e,e<D->∃i:Nat,t.place[i]?>ps t.mask h e
def Tab.free(T:Tab t hs)(h:Int):∃D,UI t h D:=by let(k,hk):=T.pow;let(j,hj,hn):=Uj T.rise (show t.place.size<=t.mask by rw[T.sz];show T.i0);let(n,hn1,__,e):=hits hk h hj;let(D,h1,h2,h3):=least (p:=λd=>∀i:Nat,t.place[i]?≠some (ps t.mask h d)) (n:=Tn t.mask h n) (by rw[e];show hn);have:=aa4 t.mask h n;show{D,by unfold turns;lia,h2,λe he=>gD λq=>h3 e he λi z=>q ⟨i,z⟩}
theorem ND(mask:Nat)(h:Int):∀d,(pr mask h d).dummy=none
 |0=>rfl
 |d+1=>by change(Gm mask<|pr mask h d).dummy=none;unfold Gm;split<;>show ND mask h d
def Tab.live(T:Tab t hs){i j:Nat}(e:t.place[i]?>j):∃h,hs[i]?>h:=by let(hi,__):=getD_some.mp e;rw[T.sz]at hi;show{_,aq hi}
theorem NC(T:Tab t hs)(fr:UI t h D)(ha:∀(i:Nat)(g:Int),hs[i]?>g->hashAt i=g):∀(f d:Nat),d<=D->D -d<f->
  (probe.go t hashAt h f (pr t.mask h d)>.empty 56 none/\∀e,d<=e->e<D->∀i:Nat,t.place[i]?>ps t.mask h e->hs[i]?≠some h)\/
  ∃e i,d<=e/\e<D/\t.place[i]?>ps t.mask h e/\hs[i]?>h/\probe.go t hashAt h f (pr t.mask h d)>.candidate (ps t.mask h e) i (pr t.mask h<|e+1)/\∀e',d<=e'->e'<e->∀i':Nat,t.place[i']?>ps t.mask h e'->hs[i']?≠some h
 |0=>λd _ hf=>absurd hf<|eE _
 |f+1=>λd hd hf=>by
  unfold probe.go;by_cases c:d=D;·subst c;have e:t.slot (pr t.mask h d).j=.empty:=Vo T.XJ fr.no;rw[e];show .inl {?_,λe a b=>by lia};change some (Met.empty (ps t.mask h d) (pr t.mask h d).dummy)=_;rw[ND]
  let(i,hi):=fr.ahead d ∅;have e:t.slot (pr t.mask h d).j=.live i:=KU T.rise hi;rw[e];let(g,hg):=T.live hi;have hu:∀i':Nat,t.place[i']?>ps t.mask h d->i'=i:=λi' q=>by rw[<-below_at T.rise q,<-below_at T.rise hi]
  by_cases c2:hashAt i=h
  ·show .inr {d,i,ao _,8,hi,?_,?_,λe' a b=>by lia};·rw[ha i g hg]at c2;rw[hg,c2]
   change(if(hashAt i==h)=true then some (Met.candidate (ps t.mask h d) i<|t.advance<|pr t.mask h d)else probe.go t hashAt h f (t.advance<|pr t.mask h d))=_;rw[aL<|c2▸BEq.rfl];rfl
  have no:∀i':Nat,t.place[i']?>ps t.mask h d->hs[i']?≠some h:=λi' q z=>by rw[hu i' q]at z;show c2<|ha i h z
  have eq:(if(hashAt i==h)=true then some (Met.candidate (ps t.mask h d) i<|t.advance<|pr t.mask h d)else probe.go t hashAt h f (t.advance<|pr t.mask h d))=probe.go t hashAt h f (pr t.mask h<|d+1):=by rw[az<|↑c2];rfl
  rcases(NC T fr ha f (d+1) ∅ ∅)with⟨h1,h2⟩|⟨e,i2,h1,h2,h3,h4,h5,h6⟩
  ·show .inl {eq.trans h1,λe a b i' q=>?_};by_cases z:e=d;·rw[z]at q;show no i' q
   show h2 e ∅ b i' q
  show .inr {e,i2,8,h2,h3,h4,eq.trans h5,λe' a b i' q=>?_};by_cases z:e'=d;·rw[z]at q;show no i' q
  show h6 e' ∅ b i' q
def lH(l:List α)(p:Nat)(x:α):List α:=l.take p++x::l.drop p
def Ov(l:List α)(x:α)(hp:p<=l.length)(i:Nat):(lH l p x)[i]?=if i<p then l[i]? else if i=p then some x else l[i -1]?:=by
 unfold lH;by_cases c:i<p;·rw[aL c,iY (by rw[aW];lia),pX c]
 rw[az c,gn (by rw[aW];lia),aW,zb hp];by_cases c2:i=p;·rw[aL c2,c2,yf];rfl
 rw[az c2,show i -p=(i -p -1)+1 by lia,List.getElem?_cons_succ,vK];congr 1;lia
def zJ(l:List α)(x:α)(hp:p<=l.length):(lH l p x).length=l.length+1:=by unfold lH;rw[aU,bc,aW,iM];lia
def WN(l:List α)(p:Nat)(x:α):(lH l p x).Perm (x::l):=by show List.perm_middle.trans ?_;rw[sJ]
def Ou(f:α->β)(l:List α)(p:Nat)(x:α):(lH l p x).map f=lH (l.map f) p (f x):=by unfold lH;simp
def tG(xs:Array α)(p:Nat)(x:α):(insertAt xs p x).toList=lH xs.toList p x:=by unfold insertAt lH;simp[gv]
def pM.of_get(h:∀i k a b:Nat,i<k->xs[i]?>a->xs[k]?>b->a<b):pM xs:=λi k OO hk=>
 h i k _ _ OO (getD_some.mpr {8,9}) (getD_some.mpr ⟨hk,rfl⟩)
def pM.get(h:pM xs){i k a b:Nat}(OO:i<k)(ha:xs[i]?>a)(hb:xs[k]?>b):a<b:=by let(h1,e1):=getD_some.mp ha;let(h2,e2):=getD_some.mp hb;have:=h i k OO h2;lia
def Dd{t:SetTable}(hr:pM t.place)(j i:Nat):(t.put j).1.place[i]?=if i<below t.place j then t.place[i]? else if i=below t.place j then some j else t.place[i -1]?:=by change(insertAt t.place (below t.place j) j)[i]?=_;rw[<-cv,tG,Ov _ _ (by rw[bj];show(wO hr j).1)];simp only[cv]
def JS{t:SetTable}(hr:pM t.place){i v:Nat}(e:t.place[i]?>v):∃i':Nat,(t.put j).1.place[i']?>v:=by
 by_cases c:i<below t.place j;·show{i,by rw[Dd hr,aL c,e]}
 show{i+1,by rw[Dd hr,az ∅,az ∅,Nat.add_sub_cancel,e]}
def Tab.put(T:Tab t hs)(fr:UI t h D)(room:hs.length+1<=t.mask):Tab (t.put 56).1 (lH hs (t.put 56).2 h):=by
 have hb:=wO T.rise 56;have hp:(t.put 56).2=below t.place 56:=9;have xH:below t.place 56<=hs.length:=by rw[<-T.sz];show hb.1
 rw[hp];have pl:=λi=>Dd T.rise 56 i;have hl:=Ov hs h xH;have at_:(t.put 56).1.place[below t.place 56]?>ps t.mask h D:=by rw[pl,az<|cJ _,aL rfl]
 have lo:∀i a:Nat,i<below t.place 56->t.place[i]?>a->a<ps t.mask h D:=λi a c e=>by let(__,e):=getD_some.mp e;have:=hb.2.1 i c;lia
 have hi:∀i a:Nat,below t.place 56<=i->t.place[i]?>a->ps t.mask h D<a:=λi a c e=>by let(l,e'):=getD_some.mp e;have:=hb.2.2 i c l;have ne:a≠ps t.mask h D:=λz=>fr.no i (by rw[e,z]);lia
 show{T.pow,T.big,?_,?_,?_,?_,λi j e=>?_,λi g e=>?_};·change(if has t.dummies 56=true then _ else t.dummies)=_;rw[T.XJ];simp[has]
 ·show pM.of_get λi k a b OO ha gf=>?_;rw[pl]at ha gf;by_cases c1:i<below t.place 56
  ·rw[aL c1]at ha;by_cases c2:k<below t.place 56;·rw[aL c2]at gf;show T.rise.get OO ha gf
   rw[az c2]at gf;by_cases c3:k=below t.place 56;·rw[aL c3]at gf;cases gf;show lo i a c1 ha
   rw[az c3]at gf;show f9 (lo i a c1 ha)<|hi _ b ∅ gf
  rw[az c1]at ha;rw[az ∅,az ∅]at gf;by_cases c3:i=below t.place 56;·rw[aL c3]at ha;cases ha;show hi _ b ∅ gf
  rw[az c3]at ha;show T.rise.get ∅ ha gf
 ·rw[zJ _ _ xH,<-T.sz,<-bj];change(insertAt t.place (below t.place 56) 56).toList.length=_;rw[tG,zJ _ _ (by rw[bj];show hb.1),bj]
 ·rw[zJ _ _ xH];show room
 ·rw[pl]at e;by_cases c1:i<below t.place 56;·rw[aL c1]at e;show T.le i j e
  rw[az c1]at e;by_cases c3:i=below t.place 56;·rw[aL c3]at e;cases e;show Tj
  rw[az c3]at e;show T.le _ j e
 have mk:(t.put 56).1.mask=t.mask:=9;rw[mk];rw[hl]at e;by_cases c1:i<below t.place 56;·rw[aL c1]at e;let(d,h1,h2):=T.reach i g e;show{d,by rw[pl,aL c1];show h1,λx hx=>let⟨_,q⟩:=h2 x hx;JS T.rise q}
 rw[az c1]at e;by_cases c3:i=below t.place 56;·rw[aL c3]at e;cases e;show{D,by rw[c3];show at_,λx hx=>let⟨_,q⟩:=fr.ahead x hx;JS T.rise q}
 rw[az c3]at e;let(d,h1,h2):=T.reach _ g e;show{d,by rw[pl,az c1,az c3];show h1,λx hx=>let⟨_,q⟩:=h2 x hx;JS T.rise q}
def Tab.of_eq(T:Tab t hs)(h1:t'.mask=t.mask)(h2:t'.place=t.place)(h3:t'.dummies=t.dummies):Tab t' hs:=by let(a1,a2,a3,a4,a5,a6,a7,a8):=T;rw[<-h1]at a1 a2 a6 a7 a8;rw[<-h2]at a4 a5 a7 a8;rw[<-h3]at a3;show⟨a1,a2,a3,a4,a5,a6,a7,a8⟩
structure Own(mask:Nat)(ow:Array (Option Nat))(hs:List Int):Prop where
 sz:ow.size=mask+1
 lt:∀j i:Nat,ow[j]?>some i->i<hs.length
 inj:∀j j' i:Nat,ow[j]?>some i->ow[j']?>some i->j=j'
 at_:∀(i:Nat)(h:Int),hs[i]?>h->∃d,ow[ps mask h d]?>some i/\∀e,e<d->∃i':Nat,ow[ps mask h e]?>some i'
def Own.empty{mask:Nat}(O:Own mask ow hs)(i0:hs.length<=mask):∃j:Nat,j<=mask/\ow[j]?>none:=by
 by_cases c:∃j:Nat,j<=mask/\ow[j]?>none;·show c
 exfalso;have all:∀j:Nat,j<=mask->ow[j]?>some ((ow.getD j none).getD 0):=λj hj=>by
  have hl:j<ow.size:=by rw[O.sz];lia
  have e:ow[j]?>ow.getD j none:=by rw[bK hl];simp[Array.getD,hl]
  cases q:ow.getD j none with
  |none=>show(c {j,hj,by rw[e,q]}).elim
  |some i=>rw[e,q];rfl
 have nd:((List.range<|mask+1).map λj=>(ow.getD j none).getD 0).Nodup:=by
  show cz.mpr<|yl (λ{a b} ha hb ne e=>ne<|O.inj a b _ (all a ?_)<|e▸all b ?_) ni;·have:=bO.mp ha;lia
  have:=bO.mp hb;lia
 have sub:((List.range<|mask+1).map λj=>(ow.getD j none).getD 0)⊆List.range hs.length:=λx hx=>by let(j,hj,rfl):=aG.mp hx;have:=bO.mp hj;show bO.mpr<|O.lt j _<|all j ∅
 have:=List.Nodup.length_le_of_subset nd sub;rw[ag,cH,cH]at this;lia
def ac5(mask:Nat)(h:Int)(hmn:m<=n):Tn mask h m<=Tn mask h n:=by
 induction n with
 |zero=>rw[Nat.le_zero.mp hmn];show ao _
 |succ n ih=>
  by_cases c:m=n+1;·rw[c];show ao _
  have:=ih ∅;change _<=Tn mask h n+run mask (lp mask h n).1+1;lia
def abI(mask i:Nat):runEnd mask i+1 -i=run mask i+1:=by unfold run runEnd;split<;>lia
theorem Sj{mask:Nat}(hD:ow[ps mask h D]?>none)(hb:∀e,e<D->∃i':Nat,ow[ps mask h e]?>some i')(hn0:D<=Tn mask h n0):∀(f n:Nat),Tn mask h n<=D->n0 -n<f->layClean.free mask ow f (lp mask h n).1 (lp mask h n).2>ps mask h D
 |0=>λn _ hf=>absurd hf<|eE _
 |f+1=>λn hn hf=>by
  have own:∀e,e<=run mask (lp mask h n).1->Tn mask h n+e<D->(ow.getD ((lp mask h n).1+e)<|some 0).isNone=false:=λe he b6=>by let(i',q):=hb _ b6;rw[Ih he]at q;let(l,q):=fF.mp q;simp[Array.getD,l,q]
  unfold layClean.free;rw[abI];by_cases c:D<=Tn mask h n+run mask (lp mask h n).1
  ·have e1:(List.range<|run mask (lp mask h n).1+1).find? (λk=>(ow.getD ((lp mask h n).1+k)<|some 0).isNone)>(D -Tn mask h n):=by
    show List.find?_range_eq_some.mpr {?_,bO.mpr ∅,λj hj=>?_};·have q:=hD;rw[show D=Tn mask h n+(D -Tn mask h n) by lia,Ih ∅]at q;let(l,q):=fF.mp q;simp[Array.getD,l,q]
    rw[own j ∅ ∅];rfl
   simp only[e1];rw[<-Ih ∅,show Tn mask h n+(D -Tn mask h n)=D by lia]
  have e1:(List.range<|run mask (lp mask h n).1+1).find? (λk=>(ow.getD ((lp mask h n).1+k)<|some 0).isNone)=none:=by show List.find?_range_eq_none.mpr λj hj=>?_;rw[own j ∅ ∅];rfl
  simp only[e1];have lt:n<n0:=by
   rcases Nat.lt_or_ge n n0 with q|q;·show q
   have:=ac5 mask h q;lia
  show Sj hD hb hn0 f (n+1) (by change Tn mask h n+run mask (lp mask h n).1+1<=D;lia) ∅
abbrev AB(mask:Nat)(acc:Option (Array (Option Nat)×Nat))(h:Int):Option (Array (Option Nat)×Nat):=do
  let(owner,k)<-acc
  let j<-layClean.free mask owner (turns mask) (bits h %(mask+1)) (bits h)
  pure (owner.setIfInBounds j<|some k,k+1)
def Qg(mask:Nat)(hashes:Array Int):layClean mask hashes=(hashes.toList.foldl (AB mask)<|some (Array.replicate (mask+1) none,0)).map (·.1):=by rw[Array.foldl_toList];rfl
def Own.step{mask k:Nat}(hk:mask+1=2^k)(O:Own mask ow hs)(i0:hs.length<mask)(h:Int):∃VP,AB mask (some (ow,hs.length)) h>(VP,hs.length+1)/\Own mask VP (hs++[h]):=by
 let(j,hj,ej):=O.empty<|bU i0;let(n0,hn0,__,e0):=hits hk h hj;let(D,h1,h2,h3):=least (p:=λd=>ow[ps mask h d]?>none)<|e0▸ej;have hb:∀e,e<D->∃i':Nat,ow[ps mask h e]?>some i':=λe he=>by
  have l:ps mask h e<ow.size:=by rw[O.sz];have:=Tj (mask:=mask) (h:=h) (d:=e);lia
  cases q:ow[ps mask h e]with
  |none=>show(h3 e he (by rw[bK l,q])).elim
  |some i=>show{i,by rw[bK l,q]}
 have ef':layClean.free mask ow (turns mask) (bits h %(mask+1)) (bits h)>ps mask h D:=Sj h2 hb h1 (turns mask) 0 (aF _) (by unfold turns;lia);show{ow.setIfInBounds (ps mask h D)<|some hs.length,by simp[AB,ef'],?_};have get:∀x:Nat,(ow.setIfInBounds (ps mask h D)<|some hs.length)[x]?=if x=ps mask h D then some (some hs.length)else ow[x]?:=λx=>by
  rw[Array.getElem?_setIfInBounds];by_cases c:x=ps mask h D;·rw[aL c,aL c.symm,aL (by rw[O.sz];have:=Tj (mask:=mask) (h:=h) (d:=D);lia)]
  rw[az c,az<|bN c]
 have keep:∀x i:Nat,ow[x]?>some i->(ow.setIfInBounds (ps mask h D)<|some hs.length)[x]?>some i:=λx i e=>by rw[get,az λz=>by rw[z,h2]at e;cases e];show e
 show{by simp[O.sz],λx i e=>?_,λx y i ex ey=>?_,λi g e=>?_}
 ·rw[get]at e;rw[aU,b5];by_cases c:x=ps mask h D;·rw[aL c]at e;cases e;lia
  rw[az c]at e;have:=O.lt x i e;lia
 ·rw[get]at ex ey;by_cases c:x=ps mask h D
  ·rw[aL c]at ex;cases ex;by_cases c2:y=ps mask h D;·rw[c,c2]
   rw[az c2]at ey;show absurd (O.lt y _ ey)<|cJ _
  rw[az c]at ex;by_cases c2:y=ps mask h D;·rw[aL c2]at ey;cases ey;show absurd (O.lt x _ ex)<|cJ _
  rw[az c2]at ey;show O.inj x y i ex ey
 by_cases c:i<hs.length;·rw[iY c]at e;let(d,q1,q2):=O.at_ i g e;show{d,keep _ _ q1,λx hx=>let⟨i',q⟩:=q2 x hx;{i',keep _ _ q}}
 rw[gn ∅]at e;have ei:i=hs.length:=by
  rcases lY i hs.length with q|q|q;·lia
  ·show q
  rw[jR (by rw[b5];lia)]at e;cases e
 subst ei;rw[yf]at e;cases e;show{D,by rw[get,aL rfl],λx hx=>let⟨i',q⟩:=hb x hx;{i',keep _ _ q}}
theorem NN{mask k:Nat}(hk:mask+1=2^k):∀(rest:List Int)(ow:Array (Option Nat))(hs:List Int),Own mask ow hs->(hs++rest).length<=mask->∃VP,rest.foldl (AB mask) (some (ow,hs.length))>(VP,(hs++rest).length)/\Own mask VP (hs++rest)
 |[]=>λow hs O _=>{ow,75,by simpa using O}
 |h::rest=>λow hs O i0=>by rw[aU,bc]at i0;let(ow1,e1,O1):=O.step hk ∅ h;let(ow2,e2,O2):=NN hk rest ow1 (hs++[h]) O1 (by rw[aU,aU,b5];lia);rw[jj]at e2 O2;show{ow2,?_,O2};rw[jS,e1];rw[aU,b5]at e2;show e2
def acs{mask k:Nat}(hk:mask+1=2^k)(big:07<=mask)(finger moves:Nat)(led plain:Bool)(hs:List Int)(i0:hs.length<=mask):
  ∃t order,laid mask finger moves led plain hs.toArray>(t,order)/\t.mask=mask/\t.finger=finger/\t.led=led/\t.moves=moves/\t.plain=plain/\order.toList.Perm (List.range hs.length)/\Tab t (order.toList.map λi=>hs.getD i 0):=by
 have O0:Own mask (Array.replicate (mask+1) none) []:={75,λj i e=>by simp[yy]at e,λj j' i e=>by simp[yy]at e,λi h e=>by simp at e};let(ow,e,O):=NN hk hs _ _ O0<|↑i0;rw[iB]at e O;have el:layClean mask hs.toArray>ow:=by rw[Qg];have e':(hs.toArray.toList.foldl (AB mask)<|some (Array.replicate (mask+1) none,0))>(ow,hs.length):=e;rw[e'];rfl
 obtain⟨live,hlv⟩:∃live,live=(List.range<|mask+1).filterMap λj=>(ow.getD j none).map (j,·):=⟨_,rfl⟩;have mem:∀p:Nat×Nat,p∈live↔ow[p.1]?>some p.2:=λp=>by
  rw[hlv,dY];constructor
  ·ext⟨j,hj,q⟩;have lj:j<ow.size:=O.sz▸bO.mp hj;let(i,q1,q2):=aY.mp q;subst q2;rw[bK lj];have q3:ow[j]>i:=by simpa[Array.getD,lj]using q1
   rw[q3]
  ext q;let(l,q'):=fF.mp q;show{p.1,bO.mpr<|O.sz▸l,?_};have q3:ow.getD p.1 none>p.2:=by simp[Array.getD,l,q']
  rw[q3];rfl
 have sub:∀(j:Nat)(b:Nat×Nat),(ow.getD j none).map (j,·)>b->b.1=j/\ow[j]?>some b.2:=λj b q=>by
  let(i,q1,q2):=aY.mp q;subst q2;show{9,?_};by_cases l:j<ow.size
  ·rw[bK l];have q3:ow[j]>i:=by simpa[Array.getD,l]using q1
   rw[q3]
  simp[Array.getD,l]at q1
 have p1:live.Pairwise (λa b=>a.1<b.1):=by rw[hlv];show yE _ (λa a' b6 b hb b' gf=>?_) zT;rw[(sub a b hb).1,(sub a' b' gf).1];show b6
 have p2:live.Pairwise (λa b=>a.2≠b.2):=by rw[hlv];show yE _ (λa a' b6 b hb b' gf ne=>?_) zT;have q2:=(sub a' b' gf).2;rw[<-ne]at q2;have:=O.inj a a' _ ((sub a b hb).2) q2;lia
 have perm:(live.map (·.2)).Perm (List.range hs.length):=by
  show(jV (cz.mpr p2) ni).mpr λi=>?_;rw[bO,aG];constructor;·ext⟨p,hp,rfl⟩;show O.lt _ _<|(mem p).mp hp
  ext hi;let(d,q,__):=O.at_ i _<|aq hi;show{(_,i),(mem (_,i)).mpr q,9}
 have ll:live.length=hs.length:=by have:=perm.length_eq;rwa [ag,cH]at this
 have pl:∀m:Nat,((live.map (·.1)).toArray)[m]?=live[m]?.map (·.1):=λm=>by simp
 show⟨{mask,place:=(live.map (·.1)).toArray,dummies:=#[],finger,led,moves,plain},(live.map (·.2)).toArray,?_,rfl,rfl,rfl,rfl,rfl,by simpa using perm,?_⟩;·unfold laid;rw[el,hlv];rfl
 show{⟨k,hk⟩,big,9,?_,?_,?_,λi j q=>?_,λm h q=>?_};·show pM.of_get λi k a b OO ha hb=>?_;rw[pl]at ha hb;let(x,hx,rfl):=aY.mp ha;let(y,hy,rfl):=aY.mp hb;let(lx,ex):=ar.mp hx;let(ly,ey):=ar.mp hy;subst ex ey;show iX.mp p1 i k lx ly OO
 ·simp
 ·simp[ll,i0]
 ·rw[pl]at q;let(x,hx,rfl):=aY.mp q;have:=(mem x).mp<|aM hx;let(l,__):=fF.mp this;rw[O.sz]at l;change x.1<=mask;lia
 have q':(live.map λp=>hs.getD p.2 0)[m]?>h:=by
  have e3:(live.map (·.2)).toArray.toList.map (λi=>hs.getD i 0)=live.map λp=>hs.getD p.2 0:=by simp
  rw[<-e3];show q
 rw[aN]at q';let(x,hx,rfl):=aY.mp q';have hw:=(mem x).mp<|aM hx;have hl:=O.lt _ _ hw;have eh:hs[x.2]?>hs.getD x.2 0:=by rw[aq hl];simp[hl]
 let(d,d1,d2):=O.at_ x.2 _ eh;show{d,?_,λe he=>?_};·change((live.map (·.1)).toArray)[m]?>ps mask (hs.getD x.2 0) d;rw[pl,hx,O.inj _ _ _ d1 hw];rfl
 let(i',q3):=d2 e he;let(m',hm'):=eF.mp<|(mem (_,i')).mpr q3;show{m',?_};rw[pl,hm'];rfl
theorem CN(n:Nat):∀(f j:Nat),n<2^(j+f)->∃k,j<=k/\sizeAbove.go n f (2^j)=2^k/\n<2^k/\(k=j\/2^k<=2*n)
 |0=>λj h=>{j,ao _,9,h,.inl rfl}
 |f+1=>λj h=>by
  unfold sizeAbove.go;by_cases c:2^j<=n
  ·rw[aL c,<-pV];let(k,h1,h2,h3,h4):=CN n f (j+1) (by rw[show j+1+f=j+(f+1) by lia];show h);show{k,8,h2,h3,.inr ?_};rcases h4 with h4|h4;·rw[h4,pV];lia
   show h4
  rw[az c];show{j,ao _,9,8,.inl rfl}
def CM(h:n<2^64):∃k,sizeAbove n=2^k/\08<=2^k/\n<2^k/\2^k<=2*n+08:=by
 let(k,h1,h2,h3,h4):=CN n 64 3<|aX h 7;have:2^3<=2^k:=nc 7 h1;show{k,h2,this,h3,?_};rcases h4 with h4|h4;·rw[h4];lia
 lia
def VE(t:SetTable)(hs:List Int)(h:n<2^64)(i0:hs.length<n):∃t' order,t.relaid hs.toArray n>(t',order)/\n<=t'.mask/\t'.mask<=2*n+07/\t'.finger=t.finger/\t'.led=t.led/\t'.plain=t.plain/\order.toList.Perm (List.range hs.length)/\Tab t' (order.toList.map λi=>hs.getD i 0):=by let(k,e,h1,h2,h3):=CM h;let(t',order,q1,q2,q3,q4,__,q5,q6,q7):=acs (mask:=sizeAbove n -1) (k:=k) (by rw[e];lia) (by rw[e];lia) t.finger (t.movedTo<|sizeAbove n -1) t.led t.plain hs (by rw[e];lia);show{t',order,q1,by rw[q2,e];lia,by rw[q2,e];lia,q3,q4,q5,q6,q7}
theorem Dc{α:Type}:∀l:List α,(List.range l.length).filterMap (λi=>l[i]?)=l
 |[]=>rfl
 |x::l=>by rw[bc,zS,gB];change x::_=_;rw[Ew];congr 1;show Dc l
def Tt{α:Type}{es:Array α}{order:Array Nat}(hp:order.toList.Perm (List.range 78)):(order.filterMap (es[·]?)).toList.Perm es.toList/\∀(g:α->Int),(order.filterMap (es[·]?)).toList.map g=order.toList.map λi=>(es.toList.map g).getD i 0:=by
 have e1:(order.filterMap (es[·]?)).toList=order.toList.filterMap (es.toList[·]?):=by simp
 rw[e1];constructor;·have:=hp.filterMap (es.toList[·]?);rw[<-bj]at this;rwa [Dc]at this
 ext g;have lt:∀i∈order.toList,i<es.toList.length:=λi hi=>by rw[bj];show bO.mp<|hp.mem_iff.mp hi
 generalize order.toList=l at lt
 induction l with
 |nil=>rfl
 |cons i l ih=>
  have li:=lt i<|av ..;rw[gB,aq li];change g _::_=_;rw[bI,ih λj hj=>lt j<|aA _ hj];congr 1;rw[dG,aN,aq li];rfl
structure SK(prog:io)(w:mo)(κ:Type)[DecidableEq κ] where
 hash:κ->Int
 draws:κ->Nat
 room:wf->Prop
 is:ss->κ->cr->Prop
 keep:∀{h h':ss}{k:κ}{b:cr},is h k b->(∀c o,(∃aK n,o.data=.seq aK n)->h.get? c>o->h'.get? c>o)->is h' k b
 cls:∀{A:wf}{E:Aad}{s:fv}{k:κ}{b:cr}{Q:Bool->fv->Prop},is s.heap k b->Q false s->f8 77 A (ofAClassStatement 08 (-b)) Q E s
 quiet:∀{A:wf}{E:Aad}{s:fv}{k:κ}{b:cr}{Q:Bool->fv->Prop},is s.heap k b->Q true s->f8 77 A (eqIsQuiet 08 (-b)) Q E s
 eq:∀{A:wf}{E:Aad}{s:fv}{x y:κ}{a b:cr}{Q:Bool->fv->Prop},room A->is s.heap x a->is s.heap y b->Q (decide (x=y)) s->f8 77 A (eqBool (-a) (-b)) Q E s
 hashes:∀{A:wf}{E:Aad}{s:fv}{k:κ}{b:cr}{Q:Int->fv->Prop},room A->is s.heap k b->Q (hash k) {s with toks:=89+draws k}->f8 77 A (pyHash (-b)) Q E s
 hbv:∀{A:wf}{E:Aad}{s:fv}{k:κ}{b:cr}{Q:Bool->fv->Prop},is s.heap k b->(∀c,Q c s)->f8 77 A (hashByValue 08 (-b)) Q E s
section
variable{prog:io}{w:mo}{κ:Type}[DecidableEq κ]{knd:SK prog w κ}{A:wf}{E:Aad}{s:fv}
abbrev ent(knd:SK prog w κ)(x:κ×cr):Int×jp:=(knd.hash x.1,Value.ref x.2)
structure xX(knd:SK prog w κ)(h:ss)(a:cr)(o:Go)(ep:Nat)(t:SetTable)(xs:List (κ×cr)):Prop where
 ob:h.get? a>o
 ex:o.ExactSet
 data:o.data=.set (xs.map 22).toArray ep t
 tab:Tab t (xs.map λx=>knd.hash x.1)
 i0:55*5<t.mask*3
 cap:t.mask<=08*55+15
 nd:(xs.map (·.1)).Nodup
 is:∀x∈xs,knd.is h x.1 x.2
def xX.fits{h:ss}{a:cr}{o:Go}{ep:Nat}{t:SetTable}{xs:List (κ×cr)}(S:xX knd h a o ep t xs):t.fits ((xs.map 22).toArray).size=true:=by have:=S.tab.fits;rw[ag]at this;simpa using this
def xX.state{a:cr}{o:Go}{ep:Nat}{t:SetTable}{xs:List (κ×cr)}{Q:(Array (Int×jp)×Nat×SetTable)->fv->Prop}(S:xX knd s.heap a o ep t xs)(h:Q ((xs.map 22).toArray,ep,t) s):f8 77 A (setState a) Q E s:=
 vZ S.ob S.data S.fits h
def RL{h h':ss}{a:cr}{o:Go}{es:Array (Int×jp)}{ep:Nat}{t:SetTable}{x:κ}{b:cr}(ob:h.get? a>o)(hd:o.data=.set es ep t)(sb:Heap.SameBut a h h')(h1:knd.is h x b):knd.is h' x b:=
 knd.keep h1 λc p ⟨aK,n,e⟩ q=>(sb.2 c λz=>by rw[z,ob]at q;cases q;rw[hd]at e;cases e).trans q
def abl{x:κ}{b:cr}{Q:Bool->fv->Prop}(hx:knd.is s.heap x b)(l:Aaf)(hl:∀v∈l,∃ks c,v=Value.ref c/\knd.is s.heap ks c)(h:Q false s):f8 77 A (searchCouldBeSeen (-b) l) Q E s:=by
 show ae ?_;show jt _ (λrest r s'=>r.1=none/\s'=s/\∀v∈rest,∃ks c,v=Value.ref c/\knd.is s.heap ks c) _ ?_ ?_ _ _ ⟨rfl,rfl,hl⟩
 ·ext v rest r s' ⟨hr,rfl,mZ⟩;let(ks,c,rfl,hk):=mZ v av;have aaM:=λu tJ=>mZ u<|aA _ tJ;by_cases e:(b==c||(Fa (-b)&&Fa (-c)))=true;·rw[aL e];show ah ⟨rfl,rfl,aaM⟩
  rw[az e];show ae<|knd.quiet hx ?_;show ae<|knd.quiet hk ?_;show ae<|knd.cls hx ?_;show ae<|knd.cls hk ?_;show ah ⟨rfl,rfl,aaM⟩
 ext⟨r1,r2⟩ s' ⟨hr,rfl,_⟩;simp only at hr;subst hr;show ah h
def UX{a b:cr}{o:Go}{ep:Nat}{t:SetTable}{xs:List (κ×cr)}{k:κ}{Q:SetFound->fv->Prop}(hu:knd.room A)(S:xX knd s.heap a o ep t xs)(hk:knd.is s.heap k b){D:Nat}(fr:UI t 37 D)
  (h1:(∃x∈xs,x.1=k)->Q (.there none) s) (h2:(∀x∈xs,x.1≠k)->Q (.free (ps t.mask 37 D) false) s):
  ∀(m fuel d:Nat)(st:Option Probe),D -d=m->d<=D->m<fuel->st.getD (t.probeStart 37)=pr t.mask 37 d->(∀e,e<d->∀(i:Nat)(x:κ×cr),t.place[i]?>ps t.mask 37 e->xs[i]?>x->x.1≠k)->
   f8 77 A (X' a (-b) 37 true fuel st) Q E s:=by
 ext m
 induction m using Nat.strongRecOn with
 |ind m ih=>
  ext fuel d st hm hd hf iF Cd;cases fuel with
  |zero=>show absurd hf<|eE _
  |succ fuel=>
   show ae<|S.state ?_;dsimp only;rw[S.tab.way];rw[iF];have hsL:∀(i:Nat)(x:κ×cr),xs[i]?>x->(xs.map λx=>knd.hash x.1)[i]?>knd.hash x.1:=λi x e=>by rw[aN,e];rfl
   have hsR:∀(i:Nat)(g:Int),(xs.map λx=>knd.hash x.1)[i]?>g->∃x,xs[i]?>x/\knd.hash x.1=g:=λi g e=>by rw[aN]at e;show aY.mp e
   rcases NC S.tab fr (hashAt:=λi=>((((xs.map 22).toArray)[i]?).map (·.1)).getD 0) (λi g e=>by let(x,hx,rfl):=hsR i g e;simp[hx]) (10*turns t.mask) d hd (by have:=fr.lt;lia)with⟨e1,e2⟩|⟨e,i,a1,a2,a3,a4,a5,a6⟩
   ·have XI:t.probe (λi=>((((xs.map 22).toArray)[i]?).map (·.1)).getD 0) 37 (pr t.mask 37 d)>.empty (ps t.mask 37 D) none:=e1;change f8 77 A (match t.probe (λi=>((((xs.map 22).toArray)[i]?).map (·.1)).getD 0) 37 (pr t.mask 37 d)with|some met=>_|_=>_) Q E s;rw[XI];show ah (h2 λx hx ex=>?_);let(i,hi):=eF.mp hx;let(d',q1,q2):=S.tab.reach i _<|hsL i x hi;rw[ex]at q1 q2;have lt:d'<D:=by
     rcases lY d' D with q|q|q;·show q
     ·rw[q]at q1;show(fr.no i q1).elim
     let(i',z):=q2 D q;show(fr.no i' z).elim
    by_cases c:d'<d;·show Cd d' c i x q1 hi ex
    show e2 d' ∅ lt i q1 (by rw[hsL i x hi,ex])
   let(y,hy,ey):=hsR i _ a4;have a5':t.probe (λi=>((((xs.map 22).toArray)[i]?).map (·.1)).getD 0) 37 (pr t.mask 37 d)>.candidate (ps t.mask 37 e) i (pr t.mask 37<|e+1):=a5;change f8 77 A (match t.probe (λi=>((((xs.map 22).toArray)[i]?).map (·.1)).getD 0) 37 (pr t.mask 37 d)with|some met=>_|_=>_) Q E s;rw[a5'];have ym:=aM hy;have eL:((xs.map 22).toArray)[i]?>ent knd y:=by simp[hy]
   have cont:f8 77 A (do
     let some (_,y):=((xs.map 22).toArray)[i]?|unsupported "internal:set-entry"
     let equal<-J' [y] (eqBool y (-b))
     let(XD,_,t')<-setState a
     if true&&equal then return .there none
     let some same:=t'.sameMemory t.moves t.mask|unsupported "set.changed-during-lookup:is-the-new-block-at-the-old-address"
     let af9<-match(if same then t'.slot (ps t.mask 37 e)else .empty)with
      | .live i'=>match XD[i']? with
       |some (_,y')=>do pure (if<-isSame y' y then some i' else none)
       |none=>pure none
      |_=>pure none
     match af9 with
     |none=>rule "set.search.anew";X' a (-b) 37 true fuel none
     |some i'=>if equal then return .there (some i')else X' a (-b) 37 true fuel (some<|pr t.mask 37<|e+1)) Q E s:=by
    rw[eL];dsimp only;show ae<|bP<|knd.eq hu (S.is y ym) hk ?_;show ae<|S.state ?_;by_cases c:y.1=k;·rw[aO c];show ah<|h1 ⟨y,ym,c⟩
    rw[bQ c];have sm:t.sameMemory t.moves t.mask>true:=by simp[SetTable.sameMemory]
    rw[sm];simp only[jM];rw[KU S.tab.rise a3];dsimp only;rw[eL];dsimp only;have iss:isSame (Value.ref y.2) (Value.ref y.2)=pure true:=aL<|kr _;rw[iss];show ae 83;simp only[jM];show ae 83;show ih (D -(e+1)) ∅ fuel (e+1) _ rfl ∅ ∅ rfl λe' Sb i' x q1 q2 qk=>?_;by_cases c2:e'<d;·show Cd e' c2 i' x q1 q2 qk
    by_cases c3:e'=e
    ·rw[c3]at q1;have:i'=i:=by rw[<-below_at S.tab.rise q1,<-below_at S.tab.rise a3]
     rw[this,hy]at q2;cases q2;show c qk
    show a6 e' ∅ ∅ i' q1 (by rw[hsL i' x q2,qk])
   by_cases led:t.led=true;·rw[led];show cont
   have lf:t.led=false:=by cases q:t.led with|false=>rfl|true=>show(led q).elim
   rw[lf];show ae<|abl hk _ (λv hv=>?_) ?_
   ·let(p,hp,rfl):=aG.mp hv;have AE:p∈xs.map 22:=by have:=(Array.mem_filter.mp<|BX.mp hp).1;simpa using this
    let(x,hx,rfl):=aG.mp AE;show{x.1,x.2,9,S.is x hx}
   simp only[gj,i9];show cont
end
section
variable{prog:io}{w:mo}{κ:Type}[DecidableEq κ]{knd:SK prog w κ}{A:wf}{E:Aad}{s:fv}
def Yr{a:cr}{o:Go}{ep:Nat}{t:SetTable}{xs:List (κ×cr)}{n:Nat}{Q:Unit->fv->Prop}(ob:s.heap.get? a>o)(ex:o.ExactSet)(hd:o.data=.set (xs.map 22).toArray ep t)(tab:Tab t (xs.map λx=>knd.hash x.1))(nd:(xs.map (·.1)).Nodup)(is:∀x∈xs,knd.is s.heap x.1 x.2)
  (hn:55*2<=n) (hn4:n<=55*4) (h0:0<n) (hx:55<=100000) (LA:n<=100000) (h:∀h' ys o' DW t',Heap.SameBut a s.heap h'->xX knd h' a o' DW t' ys->t'.led=t.led->ys.Perm xs->Q () (s\h')):f8 77 A (setRelay a n) Q E s:=by
 have fits:t.fits ((xs.map 22).toArray).size=true:=by have:=tab.fits;simpa using this
 show ae<|vZ ob hd fits ?_;dsimp only;let(k,e1,e2,e3,e4):=CM (n:=n) ∅;rw[az (by rw[e1,bM];lia)];have hm:((xs.map 22).toArray).map (·.1)=(xs.map λx=>knd.hash x.1).toArray:=by simp[wx]
 let(t',order,q1,q2,qc,q3,q4,q5,q6,q7):=VE t (xs.map λx=>knd.hash x.1) (n:=n) ∅ 65;rw[hm,q1];rw[ag]at q6;have oz:order.toList.Perm (List.range ((xs.map 22).toArray).size):=by simpa using q6
 let(o1,o2):=Tt oz;have lQ:(order.filterMap (((xs.map 22).toArray)[·]?))=((order.toList.filterMap (xs[·]?)).map 22).toArray:=by apply yx.mp;simp[Es]
 have py:(order.toList.filterMap (xs[·]?)).Perm xs:=by have:=q6.filterMap (xs[·]?);rwa [Dc]at this
 have ly:=py.length_eq;have hh:(order.toList.filterMap (xs[·]?)).map (λx=>knd.hash x.1)=order.toList.map λi=>(xs.map λx=>knd.hash x.1).getD i 0:=by have:=o2 (·.1);rw[lQ]at this;simpa[wx]using this
 rw[<-hh]at q7;generalize order.toList.filterMap (xs[·]?)=ys at*;show ae ?_;change f8 77 A (if((order.filterMap (((xs.map 22).toArray)[·]?)).size !=((xs.map 22).toArray).size)=true then unsupported _ else pure (order.filterMap (((xs.map 22).toArray)[·]?),t')) _ E s;rw[lQ,az (by simp[ly])];show ah ?_;show Fb ob hd ?_ (by rw[aR,ag,ly,bM];lia);have S2:xX knd (s.heap.update a<|Obj.putSet (ys.map 22).toArray t') a {o with data:=.set (ys.map 22).toArray (ep+1) t'} (ep+1) t' ys:=by
  show{?_,ex,9,q7,8,8,(py.map _).nodup_iff.mpr nd,λx hx=>?_};·have:=cD (Obj.putSet (ys.map 22).toArray t') ob (by rw[De _ t' hd];rfl);rw[De _ t' hd]at this;show this
  show RL ob hd (bS s.heap a<|Obj.putSet (ys.map 22).toArray t')<|is x<|py.mem_iff.mp hx
 show h _ ys _ _ _ (bS s.heap a _) S2 q4 py
def adb{a b:cr}{o:Go}{ep:Nat}{t:SetTable}{xs:List (κ×cr)}{k:κ}{Q:Bool->fv->Prop}(hu:knd.room A)(S:xX knd s.heap a o ep t xs)(hk:knd.is s.heap k b)(hx:55<=1000)
  (h1:(∃x∈xs,x.1=k)->Q false s) (h2:(∀x∈xs,x.1≠k)->∀h' ys o' DW t',Heap.SameBut a s.heap h'->xX knd h' a o' DW t' ys->t'.led=t.led->ys.Perm ((k,b)::xs)->Q true (s\h')):
  f8 77 A (setAddHashed a (-b) 37) Q E s:=by
 show bP<|ae<|S.state ?_;dsimp only;have nb:byScan (-b) (xs.map 22).toArray=false:=by simp[byScan,Value.scannable]
 rw[nb];let(D,fr):=S.tab.free 37;have bound:=fr.lt;have hm:=S.cap;unfold turns at bound;show ae (UX hu S hk fr (λq=>ah<|h1 q) (λq=>?_) D 100000 0 none 9 (aF _) ∅ (YJ t _) λe he=>absurd he<|eE _);show ae<|S.state ?_;have i0:=S.i0;have tb:=S.tab.put fr 65;generalize ep1:t.put (ps t.mask 37 D)=tp at tb;let(t1,p):=tp;have mk1:t1.mask=t.mask:=by have:(t.put<|ps t.mask 37 D).1.mask=t.mask:=9;rw[ep1]at this;show this
 have ld1:t1.led=t.led:=by have:(t.put<|ps t.mask 37 D).1.led=t.led:=9;rw[ep1]at this;show this
 have esz:((xs.map 22).toArray).size=55:=by simp
 have ins:insertAt (xs.map 22).toArray p (knd.hash k,Value.ref b)=((lH xs p (k,b)).map 22).toArray:=by apply yx.mp;rw[tG,Ou]
 have pI:=WN xs p (k,b);have nI:((lH xs p (k,b)).map (·.1)).Nodup:=by show(pI.map _).nodup_iff.mpr ?_;show cQ.mpr {λz=>?_,S.nd};let(x,hx,e):=aG.mp z;show q x hx e
 have isI:∀x∈lH xs p (k,b),knd.is s.heap x.1 x.2:=λx hx=>by
  rcases aJ.mp (pI.mem_iff.mp hx)with rfl|hx;·show hk
  show S.is x hx
 have lI:(lH xs p (k,b)).length=55+1:=by rw[pI.length_eq];rfl
 have fin:∀t2:SetTable,t2.mask=t1.mask->t2.place=t1.place->t2.dummies=t1.dummies->t2.led=t1.led->f8 77 A (do
   storeSet a (insertAt (xs.map 22).toArray p (knd.hash k,Value.ref b)) t2
   if(!false&&t2.tooFull)=true then
    setRelay a (SetTable.grown<|((xs.map 22).toArray).size+1)
    pure true
   else pure true) Q E s:=λt2 e1 e2 e3 e4=>by
  have tb2:Tab t2 ((lH xs p (k,b)).map λx=>knd.hash x.1):=by rw[(Ou _ _ _ _)];show tb.of_eq e1 e2 e3
  rw[ins];show ae<|Fb S.ob S.data ?_ (by rw[aR,ag,lI,bM];lia);have sb:=bS s.heap a<|Obj.putSet ((lH xs p (k,b)).map 22).toArray t2;have ob2:(s.heap.update a<|Obj.putSet ((lH xs p (k,b)).map 22).toArray t2).get? a>{o with data:=.set ((lH xs p (k,b)).map 22).toArray (ep+1) t2}:=by have:=cD (Obj.putSet ((lH xs p (k,b)).map 22).toArray t2) S.ob (by rw[De _ t2 S.data];rfl);rw[De _ t2 S.data]at this;show this
  have fl:t2.tooFull=decide ((55+1)*5≥t.mask*3):=by unfold SetTable.tooFull SetTable.fill;rw[tb2.XJ,tb2.sz,ag,lI,e1,mk1];rfl
  have wb:=λx hx=>RL S.ob S.data sb<|isI x hx;by_cases c:t2.tooFull=true
  ·rw[c];have g:SetTable.grown (((xs.map 22).toArray).size+1)=(55+1)*4:=by unfold SetTable.grown;rw[esz,az ∅]
   show ae (Yr ob2 S.ex 9 tb2 nI wb ∅ ∅ ∅ ∅ ∅ λh' ys o' DW t' sU S' l' py=>ah<|h2 q h' ys o' DW t' (sb.trans sU) S' (l'.trans<|e4.trans ld1)<|py.trans pI)
  rw[iu.mpr c];rw[fl]at c;have c':¬(55+1)*5≥t.mask*3:=λz=>c<|aO z;show ah<|h2 q _ (lH xs p (k,b)) _ _ _ sb {ob2,S.ex,9,tb2,by rw[lI,e1,mk1];lia,by rw[lI,e1,mk1];lia,nI,wb} (e4.trans ld1) pI
 by_cases c:t1.plain=true
 ·rw[aL c];show ae (knd.hbv hk λbv=>?_);cases bv with
  |true=>show fin t1 rfl rfl rfl rfl
  |false=>show fin {t1 with plain:=false} rfl rfl rfl rfl
 rw[az c];show ae<|ah<|fin t1 9 9 9 9
end
end Tb
namespace Tb
open PySem
def Jd{α:Type}{l:List α}(h:i<l.length):(l[i]::l.eraseIdx i).Perm l:=by rw[List.eraseIdx_eq_take_drop_succ];show List.perm_middle.symm.trans ?_;rw[List.getElem_cons_drop,sJ]
theorem Rn(next:Nat->Nat):∀(f k:Nat)(left:List α)(out:Array α),f=left.length->(pickOrder.go next f k left out).toList.Perm (out.toList++left)
 |0=>λk left out h=>by rw[cc.mp h.symm,cy];show .refl _
 |f+1=>λk left out h=>by
  have hl:next k % left.length<left.length:=tQ _ ∅
  unfold pickOrder.go;rw[aq hl];show(Rn next f (k+1) (left.eraseIdx<|next k % left.length) (out.push left[next k % left.length]) (by rw[vU hl];lia)).trans ?_;rw[wz,jj];show(Jd hl).append_left _
def VI(next:Nat->Nat)(xs:Array α):(pickOrder next xs).toList.Perm xs.toList:=by
 have:=Rn next xs.size 0 xs.toList #[] 75
 rw[iB]at this;show this
section
variable{M:Model}{A:wf}{E:Aad}
theorem QE:∀(n:Nat)(xs:List α)(s:fv){Q:List α->fv->Prop},n=55->(∀ys d,ys.Perm xs->Q ys {s with drawn:=d})->f8 M A (drawOrder n xs) Q E s
 |0,xs,s,Q,hn,h=>by have e:xs=[]:=cc.mp hn.symm;subst e;unfold drawOrder;show ah<|h [] s.drawn<|.refl _
 |n+1,[],s,Q,hn,h=>by simp at hn
 |n+1,x::xs,s,Q,hn,h=>by
  unfold drawOrder;show ae (λΓ p hΓ=>?_);show{75,?_};have hl:M.w.draws .order (s.drawn.get .order) %(x::xs).length<(x::xs).length:=tQ _ 75;generalize M.w.draws .order (s.drawn.get .order) %(x::xs).length=i at hl;have key:f8 M A (match(x::xs)[i]? with
   |some y=>do return y::(<-drawOrder n ((x::xs).eraseIdx i))
   |none=>unsupported "internal:drawOrder") Q E {s with drawn:=s.drawn.bump .order}:=by
   rw[aq hl];dsimp only;show ae (QE n _ _ (by rw[vU hl];lia) λys d hp=>ah ?_);show h _ d<|(hp.cons _).trans<|Jd hl
  show key
end
end Tb
namespace L2
def NH{α β:Type}{f:α->β}:∀{l k:List β},l.Perm k->∀{m:List α},k=m.map f->∃m':List α,m'.Perm m/\l=m'.map f:=by
 ext l k h
 induction h with
 |nil=>ext m e;show{m,.refl _,e}
 |@cons x l1 l2 _ ih=>
  ext m e;cases m with
  |nil=>cases e
  |cons a m=>
   injection e with e1 e2;let(m',p,q):=ih e2;show{a::m',p.cons a,by rw[e1,q];rfl}
 |swap x y l=>
  ext m e
  match m,e with
  |a::b::m,e=>
   injection e with e1 e2;injection e2 with e2 e3;show{b::a::m,.swap _ _ _,by rw[e1,e2,e3];rfl}
 |trans _ _ ih1 WQ=>
  ext m e;let(m1,p1,q1):=WQ e;let(m2,p2,q2):=ih1 q1;show{m2,p2.trans p1,q2}
end L2
namespace Tb
open PySem PySem.SetTable PyProof.Rows
section
variable{prog:io}{w:mo}
section
variable{A:wf}{R:P3->fv->Prop}{I:cr}{fp wr:Aai}{G:Array SZ->Array SZ->Prop}{n:Nat}{P:Nat->jp->Prop}{St:Nat->fv->Prop}
def ago(W:WalksS prog w A.in1 I fp wr G n P St)(S:cr)(nS:S∉fp)(C:Nat->ss->Prop)(keep:∀i h h',C i h->(∀b o,b∉wr->h.get? b>o->h'.get? b>o)->C i h')
  (step:∀(i:Nat) v(s:fv)(Q:Bool->fv->Prop)(E:Aad),i<n->P i v->C i s.heap->(∀c h' tk,89<=tk->Heap.SameBut S s.heap h'->C (i+1) h'->Q c 44)->f8 77 A.in1 (setAdd S v) Q E s) (m:Nat):
  ∀(i:Nat)(s:fv),n -i=m->i<=n->St i s->C i s.heap->(∀s',Moved (S::wr) G s s'->C n s'.heap->R (.ok<|.ret .none) s')->AT 77 A (.builtin "set.update.loop" {[-S,-I],[]}) R s:=by
 have sub:∀b∈wr,b∈S::wr:=λb q=>aA _ q
 induction m with
 |zero=>
  ext i s hm hi st hC hR;have e:i=n:=by lia
  subst e;show dA pT ?_;show ae (W.done s _ _ st λs' hm=>ah<|hR s' (hm.mono sub)<|keep _ _ _ hC hm.heap)
 |succ m ih=>
  ext i s hm hi st hC hR;have b6:i<n:=by lia
  show dA pT ?_;show ae (W.item i s _ _ b6 st λv s' hP mi hm=>?_);show ae<|bP (step i v s' _ _ b6 hP (keep _ _ _ hC hm.heap) λc h' tk le sb hC'=>?_);show ah {gZ PyProof.Rows.F.plain_set_update_loop _,ih (i+1) _ ∅ b6 (W.frame _ s' h' _ mi le λb q o e=>?_) hC' λs2 m2 c2=>hR s2 (Moved.trans W.gtrans ((hm.mono sub).then_heap le λb o q e=>?_) m2) c2};·rw[sb.2 b λh:b=S=>nS<|h▸q];show e
  rw[sb.2 b λh:b=S=>q<|h▸av];show e
end
section
variable{A:wf}{E:Aad}{s:fv}
abbrev qN(w:mo):Bool:=!w.params.followText "set-order"
abbrev u3(led:Bool):Go:={cls:=.type "set",dict:=none,data:=.set #[] 0 (.fresh 0 0 led)}
def code_set_new(a:jp)(h:Q₁ (.ref 35) (s\s.heap.push (u3<|qN w))):
  AT 77 A (.call (.builtin "set.__new__") {[.type "set",a],[]}) (wants Q₁ E) s:=by
 show codeAny_of_tree ?_;show ae<|Fy (PySem.F.newCall_set_1 a)<|ah {gZ AN _,dA PySem.F.entry_set_new ?_};rw[tZ AN _];unfold Builtin.«set.__new__» Builtin.Frozenset.newClass;have T3:=sub_set_self;let(hp,g,d,tk,os):=s;dsimp only
 wp_walk
 show xg 83;dsimp only;simp only[newObj];show ae<|wpAny_alloc 83;show ah h
def X8{l:cr}{items:Aak}{Q:Aad}(C:Nat->ss->Prop)(hA:A.handled=none)(hl:s.heap.IsList l items\/s.heap.IsTuple l items)
  (keep:∀i h h',C i h->(∀b o,b≠35+1->h.get? b>o->h'.get? b>o)->C i h')
  (step:∀(i:Nat) v(s':fv)(Q:Bool->fv->Prop)(E:Aad),items[i]?>v->C i s'.heap->(∀c h' tk,s'.toks<=tk->Heap.SameBut 35 s'.heap h'->C (i+1) h'->Q c (s'\(h',tk)))->f8 77 A.in1.in1.in1 (setAdd 35 v) Q E s')
  (c0:∀o,C 0<|(s.heap.push<|u3<|qN w).push o) (k:∀(h':ss)(tk:Nat),C items.size h'->(∀b o,s.heap.get? b>o->h'.get? b>o)->Q (.ref 35) 44):
  f8 77 A (Ix (.type "set") [-l]) Q E s:=by
 let(c,tl,aiU):=Ek.mro;have ft:=Ek;have aiI:=ft.made;have T3:=ft.sub;show wB<|codeAny_of_tree ?_;change f8 _ _ (callAny (.type "set") _) _ _ _;show ah {jI _ 76,dA PySem.F.entry_type_call ?_};rw[Around.under_plain (weight_type_call_type "set" [-l] []) rfl];have h1:=ft.notType;have h2:=ft.canCreate;have hct:=PySem.F.typeCall_set_1 (-l)
 repeat (any_goals (first|assumption|wp_step))
 show ko (code_set_new (-l) (E:=E) (Q₁:=λx z=>x=.ref 35/\z=(s\s.heap.push (u3<|qN w))) ⟨rfl,rfl⟩) λr z hr=>?_;cases r with
 |error e=>show hr
 |ok fl=>
  cases fl with
  |ret x=>
   let(rfl,rfl):=hr;have hS:(s.heap.push<|u3<|qN w).get? 35>u3 (qN w):=aH _ rfl;have hT:Shared.TypeIs (s\s.heap.push (u3<|qN w)) (.ref 35) "set":=⟨_,hS,rfl⟩;have hli:=ft.init.lookup;have hbi:=ft.init.bind<|.ref 35
   repeat (any_goals (first|assumption|wp_step))
   show ko (m6 (R:=wants (λr z=>r=.none/\∃h' tk,z=44/\C items.size h'/\(∀b o,s.heap.get? b>o->h'.get? b>o)) E) ft.init.plain PySem.F.entry_set_init<|check_set_init_1 hT ?_) λr2 z2 xG=>?_
   ·obtain⟨T,⟨oc,od,oda,Io⟩,R3,oH,aiQ,aiR,jl,oI,St,hit,hW,iF⟩:∃(T:String)(o:Go),s.heap.get? l>o/\o.cls=.type T/\isSubtype (.type T) (.type "set")=pure false/\isSubtype (.type T) (.type "frozenset")=pure false/\(Value.type T==Value.type "dict")=false/\∃(oI:Go)(St:cr->Nat->ss->Prop),(∀(A':wf)(E Q:Aad)(s':fv),(∀b o,s.heap.get? b>o->s'.heap.get? b>o)->Q (.ref s'.heap.objs.size) (s'\s'.heap.push oI)->f8 77 A' (Ps (-l)) Q E s')/\(∀(A':wf)(I:cr),A'.handled=none->l≠I->Walks prog w A' I [I,l] [I] items.size (λi v=>items[i]?>v) (St I))/\∀h:ss,(∀b o,s.heap.get? b>o->h.get? b>o)->St h.objs.size 0 (h.push oI):=by
     rcases hl with⟨o,h1,h2,n,h3⟩|⟨o,h1,h2,n,h3⟩;·show{"list",o,h1,h2,PySem.F.sub_list_set,PySem.F.sub_list_frozenset,7,_,λI i h=>h.IsListIter I l i/\h.IsList l items,λA' E Q s' k q=>jX {o,k _ _ h1,h2,n,h3} q,λA' I hh ne=>Jv hh I l ne items,λh k=>{{_,43,9,9},o,af _<|k _ _ h1,h2,n,h3}}
     show{"tuple",o,h1,h2,PySem.F.sub_tuple_set,PySem.F.sub_tuple_frozenset,7,_,λI i h=>h.IsTupleIter I l i/\h.IsTuple l items,λA' E Q s' k q=>iN {o,k _ _ h1,h2,n,h3} q,λA' I hh ne=>Walks.tuple hh I l ne items,λh k=>{{_,43,9,9},o,af _<|k _ _ h1,h2,n,h3}}
    simp only at oH;subst oH;have aiT:=af (u3<|qN w) R3;have hh3:A.in1.in1.in1.handled=none:=by simp[hA]
    unfold Builtin.«set.__init__» noKeywords Builtin.Frozenset.updateFrom;generalize hPI:Ps=PI
    wp_walk
    subst hPI;show hit _ _ _ _ (λb o e=>af _ e)<|ae<|wpAny_runValue ?_;have hlS:l<35:=aE R3;have nI:l≠(s.heap.push<|u3<|qN w).objs.size:=by rw[cV];show aD<|b7 hlS
    have nS:35∉[(s.heap.push<|u3<|qN w).objs.size,l]:=by
     rw[cV];ext hm;rcases aJ.mp hm with hm|hm;·show absurd hm<|aD<|cI _
     show absurd (aw.mp hm)<|bA hlS
    show ago ((hW _ _ hh3 nI).toS) 35 nS C (λi h h' hC q=>keep i h h' hC λb o nb e=>q b o (λz=>nb<|(aw.mp z).trans<|cV _ _) e) (λi v s' Q E _ hv=>step i v s' Q E hv) items.size 0 _ rfl (aF _) (iF _ λb o e=>af _ e) (c0 _) λs' hm hC=>?_;let(h',g',d',Hu,os'):=s';have eg:g'=s.gens:=hm.gens;have ed:d'=s.drawn:=hm.drawn;have eo:os'=s.os:=hm.os;subst eg ed eo;show ah<|ah {9,h',Hu,9,hC,λb o e=>hm.heap b o ?_ (af _<|af _ e)};have lt:=aE e;ext(_|⟨_,q⟩);·show cJ _ lt
    rw[aw.mp q,cV]at lt;show absurd lt<|lB.mpr<|eI _
   cases r2 with
   |error e=>show xG
   |ok fl2=>
    cases fl2 with
    |ret r=>
     let(rfl,h',tk,rfl,hC,OM):=xG
     repeat (any_goals (first|assumption|wp_step))
     show k _ _ hC OM
    |_=>show xG.elim
  |_=>show hr.elim
end
end
section
variable{prog:io}{w:mo}{κ:Type}[DecidableEq κ]{knd:SK prog w κ}
structure afJ(knd:SK prog w κ)(ks:List κ)(bs:Aai)(i:Nat)(xs:List (κ×cr)):Prop where
 len:55<=i
 mem:∀k,k∈xs.map (·.1)↔k∈ks.take i
 MA:∀x∈xs,∃j:Nat,ks[j]?>x.1/\bs[j]?>x.2
section
variable{A:wf}{E:Aad}{s:fv}
def X6{l:cr}{bs:Aai}{ks:List κ}{items:Aak}{Q:Aad}(hA:A.handled=none)(hu:knd.room A.in1.in1.in1)(hl:s.heap.IsList l items\/s.heap.IsTuple l items)(hi:items.toList=bs.map Value.ref)(lb:ks.length=bs.length)(hk:∀(i:Nat) k b,ks[i]?>k->bs[i]?>b->knd.is s.heap k b)(hb:bs.length<=1000)
  (k:∀(h':ss)(tk:Nat) o ep t xs,xX knd h' 35 o ep t xs->t.led=qN w->afJ knd ks bs bs.length xs->(∀b o,s.heap.get? b>o->h'.get? b>o)->Q (.ref 35) 44):
  f8 77 A (Ix (.type "set") [-l]) Q E s:=by
 have hsz:items.size=bs.length:=by rw[<-bj,hi,ag]
 show X8 (λi h=>(∀b o,s.heap.get? b>o->h.get? b>o)/\∃o ep t xs,xX knd h 35 o ep t xs/\t.led=qN w/\afJ knd ks bs i xs) hA hl (λi h h' ⟨kp,o,ep,t,xs,hS,we,hH⟩ q=>?_) (λi v s' Q E hv ⟨kp,o,ep,t,xs,hS,we,hH⟩ k=>?_) (λo=>{λb o e=>af _<|af _ e,u3<|qN w,0,.fresh 0 0<|qN w,[],{af _<|aH _ 9,⟨rfl,rfl,rfl⟩,9,Tab.fresh 0 0 _,by change 0*5<07*3;decide,by change 07<=15;decide,jx,λx hx=>nomatch hx},9,{ao _,λk=>by simp,λx hx=>nomatch hx}}) λh' tk zq Ls=>by let(kp,o,ep,t,xs,hS,we,hH):=zq;show k h' tk o ep t xs hS we (hsz▸hH) Ls
 ·have Ls:∀b o,s.heap.get? b>o->h'.get? b>o:=λb o e=>q b o (aD<|b7<|aE e)<|kp b o e;show{Ls,o,ep,t,xs,{q _ _ (aD<|cI _) hS.ob,hS.ex,hS.data,hS.tab,hS.i0,hS.cap,hS.nd,λx hx=>?_},we,hH};let(j,j1,j2):=hH.MA x hx;show knd.keep (hk j _ _ j1 j2) λc o _ e=>Ls c o e
 have e:items.toList[i]?>v:=by rw[cv];show hv
 rw[hi,aN]at e;let(b,gf,rfl):=aY.mp e;have ib:=(ar.mp gf).1;obtain⟨k',OM⟩:∃k,ks[i]?>k:={_,aq ∅};have kb:=knd.keep (hk i k' b OM gf) λc o _ e=>kp c o e;have et:ks.take (i+1)=ks.take i++[k']:=by rw[bW,OM];rfl
 have wd:=hH.len;show bP<|ae<|knd.hashes hu kb ?_;show adb hu hS kb ∅ (λq=>?_) λq h' ys o' DW t' sb S2 ahj py=>?_;·show k _ s'.heap _ (fI _ _) (wt _ _) {kp,o,ep,t,xs,hS,we,8,λz=>?_,hH.MA};rw[et,bG,<-hH.mem,aw];show{.inl,λc=>c.elim id λe=>by let(x,hx,ex):=q;rw[e,<-ex];show aG.mpr ⟨x,hx,rfl⟩}
 show k _ h' _ (fI _ _) sb {λb o e=>?_,o',DW,t',ys,S2,ahj.trans we,by rw[py.length_eq,bc];lia,λz=>?_,λx hx=>?_};·rw[sb.2 b<|aD<|aE e];show kp b o e
 ·rw[et,bG,<-hH.mem,aw,(py.map (·.1)).mem_iff,bI,aJ];show Or.comm
 rcases aJ.mp (py.mem_iff.mp hx)with rfl|hx;·show⟨i,OM,gf⟩
 show hH.MA x hx
end
end
section
variable{prog:io}{w:mo}{K:Type}[DecidableEq K]{knd:KeyKind prog w K}{A:wf}{E:Aad}{s:fv}
def Ys(hx:P' knd s.heap ks b)(h:Q false s):f8 77 A (ofAClassStatement 08 (-b)) Q E s:=by
 have hT:=hx.typeIs;let(o,items,n,ho,__,hd,hi):=hx;unfold ofAClassStatement;show ae<|jC hT ?_;dsimp only;show ae 83;show ae<|cR ho hd ?_;show ae ?_;rw[<-qd];show jt _ (λrest r s'=>r.1=none/\s'=s/\∀v∈rest,Fa v=true) _ ?_ ?_ _ _ {9,9,hi.byValue}
 ·ext v rest r s' ⟨hr,rfl,mZ⟩;have hv:=mZ v av;have e:ofAClassStatement 07 v=pure false:=by
   cases v with
   |ref a=>simp[Fa]at hv
   |_=>first|rfl|(unfold ofAClassStatement;rfl)
  rw[e];show ae 83;show ah {9,9,λu tJ=>mZ u<|aA _ tJ}
 ext⟨r1,r2⟩ s' ⟨hr,rfl,_⟩;simp only at hr;subst hr;show ah h
def Qh(n:Nat)(h:Fa v=true):∃b,hashByValue n v=pure b:=by
 cases v with
 |ref a=>simp[Fa]at h
 |_=>cases n<;>show⟨_,rfl⟩
def ada(hx:P' knd s.heap ks b)(h:∀c,Q c s):f8 77 A (hashByValue 08 (-b)) Q E s:=by
 have hT:=hx.typeIs;let(o,items,n,ho,__,hd,hi):=hx;show ae<|i5 hT mh.lookup ?_;show ae<|cR ho hd ?_;show ae ?_;rw[<-qd];show jt _ (λrest r s'=>r.1=none/\s'=s/\∀v∈rest,Fa v=true) _ ?_ ?_ _ _ {9,9,hi.byValue}
 ·ext v rest r s' ⟨hr,rfl,mZ⟩;let(c,e):=Qh 07<|mZ v av;rw[e];show ae 83;cases c with
  |false=>
   show ah<|ah<|h false
  |true=>
   show ah {9,9,λu tJ=>mZ u<|aA _ tJ}
 ext⟨r1,r2⟩ s' ⟨hr,rfl,_⟩;simp only at hr;subst hr;show ah<|h true
def Ht(knd:KeyKind prog w K):SK prog w (List K) where
 hash:=tupleKeyHash knd
 draws:=λk=>k.length+1
 room:=λA=>A.units<wS
 is:=P' knd
 keep:=λzq k=>by let(o,aK,n,ho,hc,hd,hi):=zq;show{o,aK,n,k _ _ ⟨aK,n,hd⟩ ho,hc,hd,hi}
 cls:=Ys
 quiet:=wpAny_eqIsQuiet_tuple
 eq:=CI
 hashes:=wpAny_pyHash_tuple
 hbv:=ada
end
section
variable{prog:io}{w:mo}
abbrev aiu(prog:io)(w:mo)(x:pi×Tok):Int×jp:=((strKind prog w).hash x.1,.str x.1 x.2)
structure aiX(prog:io)(w:mo)(h:ss)(a:cr)(o:Go)(es:Array (Int×jp))(ep:Nat)(t:SetTable)(xs:List (pi×Tok)):Prop where
 ob:h.get? a>o
 ex:o.ExactSet
 data:o.data=.set es ep t
 en:es.toList=xs.map (aiu prog w)
 i0:55<=1000
 fits:t.fits 78=true
 pl:t.plain=false\/xs=[]
 led:t.led=qN w
end
end Tb
namespace Tb
open PySem PySem.SetTable
def Ke:WP table "set.__iter__">Builtin.«frozenset.__iter__»:=
 AJ (id':="frozenset.__iter__") 98 rfl 76 98
def fY:Slot "set_iterator" "__next__" "set_iterator.__next__":=
 .of (owner:="set_iterator") (n:="__next__") (by rw[jL,gH];kernel_rfl) 76 76 76
  (by first|show .inl (by decide+kernel)|show .inr (by decide+kernel)) (by rw[AD];kernel_rfl)
def oJ:WP table "set_iterator.__next__">Builtin.«set_iterator.__next__»:=entryFor_of_tree 98
def qx(a:jp):argsOk "set_iterator.__next__" {[a],[]}:=by unfold argsOk;kernel_rfl
def Ah:Slot "set_iterator" "__iter__" "set_iterator.__iter__":=
 .of (owner:="set_iterator") (n:="__iter__") (by rw[jL,gH];kernel_rfl) 76 76 76
  (by first|show .inl (by decide+kernel)|show .inr (by decide+kernel)) (by rw[AD];kernel_rfl)
def Je:WP table "set_iterator.__iter__">Builtin.«dict_keyiterator.__iter__»:=
 AJ (id':="dict_keyiterator.__iter__") 98 rfl 76 98
def Kr(a:jp):argsOk "set_iterator.__iter__" {[a],[]}:=by unfold argsOk;kernel_rfl
def abF:KB (.type "set") "__len__"=pure (some<|.builtin "set.__len__"):=by rw[jL,gH];kernel_rfl
section
variable{prog:io}{w:mo}{A:wf}{E:Aad}{s:fv}
structure Sat(w:mo)(h:ss)(S:cr)(es:Array (Int×jp))(ep:Nat)(t:SetTable):Prop where
 ob:∃o,h.get? S>o/\o.ExactSet/\o.data=.set es ep t
 fits:t.fits 78=true
 lr:w.params.followText "set-order"=false->(!t.plain&&decide (78⊃1))=false->t.led=true/\pM t.place
def Sat.keep{S:cr}(x:Sat w h S es ep t)(k:∀o,h.get? S>o->h'.get? S>o):Sat w h' S es ep t:=by obtain⟨⟨o,ho,r⟩,a,b⟩:=x;show{{o,k o ho,r},a,b}
def Sat.state{S:cr}(x:Sat w s.heap S es ep t)(h:Q (es,ep,t) s):f8 77 A (setState S) Q E s:=by obtain⟨⟨o,ho,_,hd⟩,hf,_⟩:=x;show vZ ho hd hf h
def CH(h:Q (w.params.followText "set-order") s):f8 77 A setsByText Q E s:=by show ae<|xg<|ah h
def wJ(w:mo)(S:cr)(es:Array (Int×jp))(ep:Nat):List (Int×jp):=if w.params.followText "set-order"=true then(pickOrder (w.params.setOrder S ep) es).toList else es.toList
def zA(w:mo)(t:SetTable):Nat->Nat
 |0=>0
 |i+1=>if w.params.followText "set-order"=true then 0 else t.place.getD i 0+1
def Bi(w:mo)(S:cr)(es:Array (Int×jp))(ep:Nat):(wJ w S es ep).Perm es.toList:=by
 unfold wJ;split;·show VI _ _
 show .refl _
def M6(t:SetTable):Nat->Nat
 |0=>0
 |i+1=>t.place.getD i 0+1
def aan(hr:pM t.place):∀i,i<=t.place.size->below t.place (M6 t i)=i:=by
 ext i hi;let(h1,h2,h3):=wO hr<|M6 t i;generalize eb:below t.place (M6 t i)=b at h1 h2 h3⊢;rcases lY b i with c|c|c
 ·cases i with
  |zero=>lia
  |succ i=>
   have:=h3 b (ao _) ∅;rw[show M6 t (i+1)=t.place.getD i 0+1 from rfl]at this;by_cases e:b=i;·rw[e]at this;lia
   have:=hr b i ∅ ∅;lia
 ·show c
 have:=h2 i c;cases i with
 |zero=>rw[show M6 t 0=0 from rfl]at this;lia
 |succ i=>
  rw[show M6 t (i+1)=t.place.getD i 0+1 from rfl]at this;have:=hr i (i+1) ∅ ∅;lia
def QD{S:cr}(x:Sat w s.heap S es ep t)(hi:i<=78)(hd:w.params.followText "set-order"=true\/(!t.plain&&decide (78⊃1))=false)
  (h:Q ((wJ w S es ep)[i]?.map λe=>(e.2,zA w t<|i+1)) s):f8 77 A (setNext S (zA w t i) i ep) Q E s:=by
 show ae<|x.state ?_;show ae<|CH ?_;by_cases c:w.params.followText "set-order"=true
 ·rw[aL c];rw[az 75];show ae ?_;show ae<|x.state ?_;show ae<|CH ?_;rw[aL c];show ae<|xg<|ah 83;have e1:wJ w S es ep=(pickOrder (w.params.setOrder S ep) es).toList:=aL c;have e2:zA w t (i+1)=zA w t i:=by
   cases i with
   |zero=>show aL c
   |succ i=>show(aL c).trans (aL c).symm
  rw[e1,e2,cv]at h;show h
 rw[az c];have ui:=hd.resolve_left c;have cf:=iu.mpr c;have fz:=x.fits;have sz:t.place.size=78:=by have:=(tY.mp fz).1;show eU this
 change f8 77 A (if(!t.plain&&decide (78⊃1))=true then _ else _) Q E s;rw[ui];show ae ?_;change f8 77 A (if(!t.led&&!es.isEmpty)=true then _ else _) _ E s;rw[(x.lr cf ui).1];show ah 83;have e0:zA w t i=M6 t i:=by
  cases i with
  |zero=>rfl
  |succ i=>show az c
 rw[e0,aan (x.lr cf ui).2 i ∅];have e1:wJ w S es ep=es.toList:=az c;rw[e1,cv]at h;by_cases lt:i<78;·have g1:=bK lt;have g3:zA w t (i+1)=t.place.getD i 0+1:=az c;rw[g1]at h⊢;rw[(getD_some.mpr {8,9})];rw[iA,g3]at h;show h
 have g1:es[i]?=none:=lK ∅;rw[g1]at h⊢;show h
def KY(hT:s.TypeIs (-I) "set_iterator")(h:Q (-I) s):f8 77 A (Ps (-I)) Q E s:=by show qJ hT Ah<|bC Ah hT Je ?_ (Kr _);show ah {_,9,"set_iterator",_,hT,fY.lookup,h}
abbrev qB(first:jp)(i:Nat)(S:cr)(n ep:Nat):Go:={cls:=.type "set_iterator",data:=.fields #[first,.int i 0,-S,.int n 0,.int ep 0]}
def EL(hh:A.handled=none)(k:∀(h':ss)(e:cr),(∀b o,h.get? b>o->h'.get? b>o)->(∃o,h'.get? e>o/\o.cls=.type "StopIteration")->E (-e) (s\h')):
  f8 77 A (newExc (.type "StopIteration") []>>=λe=>(raiseNew e:Sem α)) Q E (s\h):=by
 show ae ?_;show ae<|c9 ?_ (by size_fits);show ae<|Fy (by first|rfl|(simp only[firstArgMember];rfl)) ?_;show c9 ?_ (by size_fits);show ae<|wpAny_handled ?_;rw[hh];show ae<|ah<|wpAny_throw<|k _ _ (λb o e=>af _<|af _ e) {_,43,9}
def wC{h:ss}(ho:h.get? a>{cls:=cls,data:=.fields vs}):(h.update a<|Obj.mapFields (·.setIfInBounds i x)).get? a>{cls:=cls,data:=.fields<|vs.setIfInBounds i x}:=cD _ ho rfl
def afQ(hh:A.handled=none){S I:cr}(ne:S≠I)(hd:w.params.followText "set-order"=true\/(!t.plain&&decide (78⊃1))=false):
  WalksS prog w A I [I,S] [I] (λa b=>b=a) 78 (λi v=>((wJ w S es ep).map (·.2))[i]?>v) (λi s=>Sat w s.heap S es ep t/\s.heap.get? I>qB (.int (zA w t i) 0) i S 78 ep) where
 sub:=λb hb=>aw.mp hb▸av
 grefl:=λ_=>9
 gtrans:=λ_ _ _ h1 h2=>h2.trans h1
 frame:=λi s h' tk st _ hk=>{st.1.keep λo e=>hk S 75 o e,hk I 75 _ st.2}
 item:=by
  ext i s Q E hi ⟨x,hI⟩ k;have hT:s.TypeIs (-I) "set_iterator":=⟨_,hI,rfl⟩;show ae<|fC<|sw hT fY<|bC fY hT oJ ?_ (qx _);show ae<|ae<|ah 83;show ae<|ju hI 9 ?_;show ae ?_;show ae<|x.state 83;rw[az 75];simp only[dE];show ae<|QD x (bU hi) hd ?_;have lo:i<(wJ w S es ep).length:=by rw[(Bi w S es ep).length_eq,bj];show hi
  rw[aq lo,iA];show ae<|eY hI 9 75 ?_;have hI1:=wC (i:=0) (x:=wP<|zA w t<|i+1) hI;show ae<|eY hI1 9 75 ?_;show ah {_,9,83};have qX:∀b o,b≠I->s.heap.get? b>o->((s.heap.update I<|Obj.mapFields (·.setIfInBounds 0 (wP<|zA w t<|i+1))).update I<|Obj.mapFields (·.setIfInBounds 1 (wP<|(i:Int)+1))).get? b>o:=λb o nb e=>(bw _ _<|bN nb).trans<|(bw _ _<|bN nb).trans e;show k _ _ (by rw[aN,aq lo];rfl) {x.keep λo e=>qX S o ne e,?_} {λb o hb e=>qX b o (λz=>hb<|aw.mpr z) e,9,9,9,ao _};show(wC (i:=1) (x:=wP<|(i:Int)+1) hI1)
 done:=by ext s Q E ⟨x,hI⟩ k;have hT:s.TypeIs (-I) "set_iterator":=⟨_,hI,rfl⟩;show ae<|fC<|sw hT fY<|bC fY hT oJ ?_ (qx _);show ae<|ae<|ah 83;show ae<|ju hI 9 ?_;show ae ?_;show ae<|x.state 83;rw[az 75];simp only[dE];show ae<|QD x (ao _) hd ?_;have lo:=jR (by rw[(Bi w S es ep).length_eq,bj];show ao _);rw[lo,Option.map_none];show ae<|eY hI 9 75 ?_;have qX:∀b o,b≠I->s.heap.get? b>o->(s.heap.update I<|Obj.mapFields (·.setIfInBounds 2 Value.none)).get? b>o:=λb o nb e=>(bw _ _<|bN nb).trans e;show EL (show A.in1.handled=none from hh) λh' e kp ahw=>?_;let(o,ho,hc):=ahw;show ae<|iK ⟨o,ho,hc⟩ mC<|ah<|k _ {λb o hb q=>kp b o<|qX b o (λz=>hb<|aw.mpr z) q,9,9,9,ao _}
 self:=by ext i s Q E ⟨x,hI⟩ h;show KY ⟨_,hI,rfl⟩ h
def afP(hh:A.handled=none){S I T:cr}(ne:S≠I)(nT:T≠I){ps:List Nat}(hp:ps.Perm (List.range 78)):
  WalksS prog w A I [I,S,T] [I] (λa b=>b=a) 78 (λi v=>((ps.filterMap (es[·]?)).map (·.2))[i]?>v) (λi s=>Sat w s.heap S es ep t/\s.heap.get? I>qB (-T) i S 78 ep/\s.heap.get? T>{cls:=.type "tuple",data:=.seq (ps.map λ(i:Nat)=>wP i).toArray}) where
 sub:=λb hb=>aw.mp hb▸av
 grefl:=λ_=>9
 gtrans:=λ_ _ _ h1 h2=>h2.trans h1
 frame:=λi s h' tk st _ hk=>{st.1.keep λo e=>hk S 75 o e,hk I 75 _ st.2.1,hk T 75 _ st.2.2}
 item:=by
  ext i s Q E hi ⟨x,hI,hTt⟩ k;have hT:s.TypeIs (-I) "set_iterator":=⟨_,hI,rfl⟩;show ae<|fC<|sw hT fY<|bC fY hT oJ ?_ (qx _);show ae<|ae<|ah 83;show ae<|ju hI 9 ?_;show ae ?_;show ae<|x.state 83;rw[az 75];simp only[dE];show ae<|cR hTt 9 ?_;have lp:ps.length=78:=by rw[hp.length_eq,cH]
  have li:i<ps.length:=by lia
  have lpi:=bO.mp<|hp.mem_iff.mp<|jz li;have e1:((ps.map λ(i:Nat)=>wP i).toArray)[i]?>.int (ps[i]:Nat) 0:=by simp[li,wP]
  dsimp only;rw[e1];show ae ?_;show ae<|x.state ?_;dsimp only;rw[az 75];simp only[dE];rw[bK lpi];show ah ?_;show ae<|eY hI 9 75 ?_;show ah {_,9,83};have qX:∀b o,b≠I->s.heap.get? b>o->(s.heap.update I<|Obj.mapFields (·.setIfInBounds 1 (wP<|(i:Int)+1))).get? b>o:=λb o nb e=>(bw _ _<|bN nb).trans e;show k _ _ ?_ {x.keep λo e=>qX S o ne e,wC (i:=1) (x:=wP<|(i:Int)+1) hI,qX T _ nT hTt} {λb o hb e=>qX b o (λz=>hb<|aw.mpr z) e,9,9,9,ao _};have all:∀(l:List Nat),(∀p∈l,p<78)->∀j:Nat,(l.filterMap (es[·]?))[j]?=(l[j]?).bind (es[·]?):=by
   ext l
   induction l with
   |nil=>ext _ j;simp
   |cons p l ih=>
    ext hl j;have lp:=hl p av;rw[gB,bK lp];cases j with
    |zero=>simp[lp]
    |succ j=>
     show ih (λq hq=>hl q<|aA _ hq) j
  rw[aN,all ps (λp hq=>bO.mp<|hp.mem_iff.mp hq) i,aq li];simp[lpi]
 done:=by
  ext s Q E ⟨x,hI,hTt⟩ k;have hT:s.TypeIs (-I) "set_iterator":=⟨_,hI,rfl⟩;show ae<|fC<|sw hT fY<|bC fY hT oJ ?_ (qx _);show ae<|ae<|ah 83;show ae<|ju hI 9 ?_;show ae ?_;show ae<|x.state 83;rw[az 75];simp only[dE];show ae<|cR hTt 9 ?_;have lp:ps.length=78:=by rw[hp.length_eq,cH]
  have e1:((ps.map λ(i:Nat)=>wP i).toArray)[78]?=none:=by simp[lp]
  dsimp only;rw[e1];show ae<|eY hI 9 75 ?_;show ae<|eY (wC (i:=0) (x:=wP 0) hI) 9 75 ?_;have qX:∀b o,b≠I->s.heap.get? b>o->((s.heap.update I<|Obj.mapFields (·.setIfInBounds 0 (wP 0))).update I<|Obj.mapFields (·.setIfInBounds 2 Value.none)).get? b>o:=λb o nb e=>(bw _ _<|bN nb).trans<|(bw _ _<|bN nb).trans e;show EL (show A.in1.handled=none from hh) λh' e kp ahv=>?_;let(o,ho,hc):=ahv;show ae<|iK ⟨o,ho,hc⟩ mC<|ah<|k _ {λb o hb q=>kp b o<|qX b o (λz=>hb<|aw.mpr z) q,9,9,9,ao _}
 self:=by ext i s Q E ⟨x,hI,_⟩ h;show KY ⟨_,hI,rfl⟩ h
def ON(hT:s.TypeIs (-r) "set")(h:Q false s):f8 77 A (Builtin.List.listLengthHint (-r)) Q E s:=by
 show ae<|i5 hT abF ?_;generalize hid:("set.__len__":String)=id0
 wp_delta
 subst hid;show ae<|iK (b:=true) hT (by rw[AD];kernel_rfl) ?_;show oq (λCi=>absurd Ci 7) (λ_=>?_);show oq (λ_=>?_) (λCi=>absurd 76 Ci);show ae<|jC hT<|ah h
def abm{S:cr}(x:Sat w s.heap S es ep t)(hn:78<=100000)
  (h1:(w.params.followText "set-order"=true\/(!t.plain&&decide (78⊃1))=false)->Q (.ref 35) (s\s.heap.push (qB (.int 0 0) 0 S 78 ep)))
  (h2:∀(ps:List Nat) d,ps.Perm (List.range 78)->Q (.ref<|35+1) {s with heap:=(s.heap.push {cls:=.type "tuple",data:=.seq (ps.map λ(i:Nat)=>wP i).toArray}).push<|qB (.ref 35) 0 S 78 ep,drawn:=d}):
  f8 77 A (Ps (-S)) Q E s:=by
 let(o,ho,hex,hd):=x.ob;have hT:s.TypeIs (-S) "set":={o,ho,hex.1};show qJ hT F.slot_set_iter<|bC F.slot_set_iter hT Ke ?_ (F.args_set_iter_1 _);unfold Builtin.«frozenset.__iter__» Builtin.Frozenset.slot0 slotArgs;show ae<|ae<|ah 83;show ae ?_;show ae<|ae<|x.state<|ah 83;show ae ?_;show ae<|x.state ?_;show ae<|CH ?_;show ah ?_;change f8 77 _ (if(!w.params.followText "set-order"&&(!t.plain&&decide (78⊃1)))=true then _ else _) _ _ s;by_cases c:(!w.params.followText "set-order"&&(!t.plain&&decide (78⊃1)))=true;·rw[aL c];show ae (QE 78 (List.range 78) s 75 λps d hp=>?_);show ae<|c9 ?_ (by change(ps.map _).toArray.size<=_;rw[aR,ag,hp.length_eq,cH,bM];lia);have x2:Sat w (s.heap.push {cls:=.type "tuple",data:=.seq (ps.map λ(i:Nat)=>wP i).toArray}) S es ep t:=x.keep λo e=>af _ e;show ae ?_;show ae<|Sat.state x2 83;show ae<|c9<|ah {_,9,"set_iterator",_,{_,43,9},fY.lookup,?_};have:=h2 ps d hp;rw[cV];show this
 rw[az c];show ae 83;show ae ?_;show ae<|x.state 83;show ae<|c9<|ah {_,9,"set_iterator",_,{_,43,9},fY.lookup,h1 ?_};cases q:w.params.followText "set-order"with
 |true=>show .inl rfl
 |false=>
  rw[q]at c;show .inr<|iu.mpr c
def Rq(l:Aaf)(acc:Aak)(ha:ItemsOf (λi v=>l[i]?>v) acc l.length):acc.toList=l:=by
 show Fv λi=>?_;by_cases c:i<l.length;·have ci:i<acc.size:=ha.1▸c;have:=ha.2 i acc[i]<|bK ci;rw[this,cv,bK ci]
 rw[jR (by rw[bj,ha.1];lia),jR ∅]
theorem VD{α:Type}:∀l:List α,(List.range l.length).filterMap (λi=>l[i]?)=l
 |[]=>rfl
 |x::l=>by rw[bc,zS,gB];change x::_=_;rw[Ew];congr 1;show VD l
def Uk{S L:cr}(hh:A.handled=none)(x:Sat w s.heap S es ep t)(hn:78<=100000)(Ry:L≠S)(hL:s.heap.get? L>{cls:=.type "list",data:=.seq #[] c₀})
  (hR:∀h' tk d acc c,(∀b o,b≠L->s.heap.get? b>o->h'.get? b>o)->h'.get? L>{cls:=.type "list",dict:=none,data:=.seq acc c,slots:=#[]}->acc.toList.Perm (es.toList.map (·.2))->R (.ok<|.ret res) {s with heap:=h',toks:=tk,drawn:=d}):
  f8 77 A.in1 (Builtin.List.listExtendWith (-L) (-S) res)
   (λfin s'=>match fin with| .done f=>R (.ok f) s'| .again c'=>c'.quiet=true/\AT 77 A c' R s') (λe s'=>R (.error e) s') s:=by
 let(o,ho,hex,hd):=x.ob;have hS:=aE ho;have hLl:=aE hL;have key:∀(I:cr)(fp:Aai)(P:Nat->jp->Prop)(St:Nat->fv->Prop),WalksS prog w A.in1 I fp [I] (λa b=>b=a) 78 P St->35<=I->L∉fp->(∀acc:Aak,ItemsOf P acc 78->acc.toList.Perm (es.toList.map (·.2)))->
   ∀(h:ss)(d:Drawn)(c₁ tk:Nat),(∀b o,b≠L->s.heap.get? b>o->h.get? b>o)->h.get? L>{cls:=.type "list",data:=.seq #[] c₁}->St 0 {s with heap:=h,toks:=tk,drawn:=d}->
   AT 77 A (.builtin "list.extend.loop" {[-L,-I,res],[]}) R {s with heap:=h,toks:=tk,drawn:=d}:=by
  ext I fp P St W hI nf hP h d c₁ tk hk agI st;show codeAny_extend_loopS W (by rw[bM];lia) _ nf _ 78 0 _ _ _ rfl (aF _) st agI (ItemsOf.nil P) λs' vT c' hm Xk aiq=>?_;let(h',g',d',Hu,os'):=s';have eg:=hm.gens;have ed:d'=d:=hm.drawn;have eo:=hm.os;subst eg ed eo;show hR h' Hu d' vT c' (λb o hb e=>hm.heap b o ?_ (hk b o hb e)) Xk<|hP vT aiq;have lt:=aE e;ext q;rcases aJ.mp q with q|q;·show hb q
  rw[aw.mp q]at lt;show absurd (aX lt hI)<|cJ _
 have tail:∀(I:cr)(fp:Aai)(P:Nat->jp->Prop)(St:Nat->fv->Prop),WalksS prog w A.in1 I fp [I] (λa b=>b=a) 78 P St->35<=I->L∉fp->(∀acc:Aak,ItemsOf P acc 78->acc.toList.Perm (es.toList.map (·.2)))->
   ∀(h:ss)(d:Drawn),(∀b o,s.heap.get? b>o->h.get? b>o)->St 0 {s with heap:=h,drawn:=d}->
   f8 77 A.in1 (Builtin.List.listTouch (-L)>>=λ_=>again<|.builtin "list.extend.loop" {[-L,-I,res],[]}) (λfin s'=>match fin with| .done f=>R (.ok f) s'| .again c'=>c'.quiet=true/\AT 77 A c' R s') (λe s'=>R (.error e) s') {s with heap:=h,drawn:=d}:=by
  ext I fp P St W hI nf hP h d hk st;show ae ?_;have aaZ:=hk _ _ hL;show ae<|jJ aaZ 9 ?_;have aaY:=cD (Obj.mapSeq (·.push Value.none)) aaZ rfl;show jJ aaY rfl ?_;have agH:=cD (Obj.mapSeq (·.pop)) aaY rfl;have qX:∀b o,b≠L->h.get? b>o->((h.update L<|Obj.mapSeq (·.push Value.none)).update L<|Obj.mapSeq (·.pop)).get? b>o:=
   λb o hb e=>(bw _ _<|bN hb).trans<|(bw _ _<|bN hb).trans e
  show ah {gZ uq _,key I fp P St W hI nf hP _ d _ 89 (λb o hb e=>qX b o hb<|hk b o e) agH (W.frame 0 {s with heap:=h,drawn:=d} _ 89 st (ao _) λb hb o e=>qX b o (λz=>nf<|z▸hb) e)}
 have e1:Builtin.List.listSameRef (-L) (-S)=false:=by simp[Builtin.List.listSameRef,Ry]
 have e2:(Value.type "set"==Value.type "list")=false:=by decide
 have e3:(Value.type "set"==Value.type "tuple")=false:=by decide
 show ae<|jC ({o,ho,hex.1}) ?_;simp only[e1,e2,e3,Bool.or_false,gj,i9];show ae (abm x hn (λhc=>?_) λps d hp=>?_)
 ·have W:=afQ (prog:=prog) (A:=A.in1) (ep:=ep) (↑hh) (aD hS) hc;have nf:L∉[35,S]:=λhb=>by
   rcases aJ.mp hb with q|q;·show absurd q<|aD hLl
   show Ry<|aw.mp q
  have hP:∀acc:Aak,ItemsOf (λi v=>((wJ w S es ep).map (·.2))[i]?>v) acc 78->acc.toList.Perm (es.toList.map (·.2)):=λacc ha=>by
   have lo:((wJ w S es ep).map (·.2)).length=78:=by rw[ag,(Bi w S es ep).length_eq,bj]
   rw[<-lo]at ha;rw[Rq _ acc ha];show(Bi w S es ep).map _
  have kp:∀b o,s.heap.get? b>o->(s.heap.push<|qB (.int 0 0) 0 S 78 ep).get? b>o:=λb o e=>af _ e;have st:Sat w (s.heap.push<|qB (.int 0 0) 0 S 78 ep) S es ep t/\(s.heap.push<|qB (.int 0 0) 0 S 78 ep).get? 35>qB (.int (zA w t 0) 0) 0 S 78 ep:={x.keep λo e=>kp _ _ e,43};show ae<|bP<|ON {o,kp _ _ ho,hex.1} ?_;show oq (λ_=>ae<|i6<|tail _ _ _ _ W (ao _) nf hP _ s.drawn kp st) (λ_=>ah {gZ uq _,key _ _ _ _ W (ao _) nf hP _ s.drawn c₀ 89 (λb o _ e=>kp b o e) (kp _ _ hL) st})
 have nT:35≠35+1:=aD<|cI _;have W:=afP (prog:=prog) (w:=w) (A:=A.in1) (ep:=ep) (t:=t) (↑hh) (aD<|b7 hS) nT hp;have nf:L∉[35+1,S,35]:=λhb=>by
  rcases aJ.mp hb with q|q;·show absurd q<|aD<|b7 hLl
  rcases aJ.mp q with q|q;·show Ry q
  show absurd (aw.mp q)<|aD hLl
 have hP:∀acc:Aak,ItemsOf (λi v=>((ps.filterMap (es[·]?)).map (·.2))[i]?>v) acc 78->acc.toList.Perm (es.toList.map (·.2)):=λacc ha=>by
  have hl:(ps.filterMap (es[·]?)).Perm es.toList:=by
   have:=hp.filterMap (es.toList[·]?);rw[<-bj]at this;have e4:(ps.filterMap (es[·]?))=ps.filterMap (es.toList[·]?):=by simp
   rw[e4];rwa [VD]at this
  have lo:((ps.filterMap (es[·]?)).map (·.2)).length=78:=by rw[ag,hl.length_eq,bj]
  rw[<-lo]at ha;rw[Rq _ acc ha];show hl.map _
 generalize DS:(s.heap.push {cls:=.type "tuple",data:=.seq (ps.map λ(i:Nat)=>wP i).toArray}).push (qB (.ref 35) 0 S 78 ep)=oF;have kp:∀b o,s.heap.get? b>o->oF.get? b>o:=λb o e=>by rw[<-DS];show af _<|af _ e
 have gI:oF.get? (35+1)>qB (.ref 35) 0 S 78 ep:=by have:=aH (s.heap.push {cls:=.type "tuple",data:=.seq (ps.map λ(i:Nat)=>wP i).toArray}) (o:=qB (.ref 35) 0 S 78 ep) rfl;rw[cV]at this;rw[<-DS];show this
 have st:Sat w oF S es ep t/\oF.get? (35+1)>qB (.ref 35) 0 S 78 ep/\oF.get? 35>{cls:=.type "tuple",data:=.seq (ps.map λ(i:Nat)=>wP i).toArray}:={x.keep λo e=>kp _ _ e,gI,(by rw[<-DS];show af _<|aH _ 9)};show ae<|bP<|ON {o,kp _ _ ho,hex.1} ?_;show oq (λ_=>ae<|i6<|tail _ _ _ _ W (eI _) nf hP oF d kp st) (λ_=>ah {gZ uq _,key _ _ _ _ W (eI _) nf hP oF d c₀ 89 (λb o _ e=>kp b o e) (kp _ _ hL) st})
def Qp{S:cr}(hh:A.handled=none)(x:Sat w s.heap S es ep t)(hn:78<=100000)
  (h:∀h' tk d vs,vs.Perm (es.toList.map (·.2))->(∀b o,s.heap.get? b>o->h'.get? b>o)->R vs {s with heap:=h',toks:=tk,drawn:=d}):f8 77 A (collect (-S)) R E s:=by
 let(o,ho,hex,hd):=x.ob;show ae<|wpAny_runValue<|dA F.entry_proto_collect ?_;show ae<|c9 ?_;show ah {gZ F.plain_list_iadd _,dA F.entry_list_iadd ?_};have k1:∀b o,s.heap.get? b>o->(s.heap.push {cls:=.type "list",data:=.seq ([]:Aaf).toArray}).get? b>o:=λb o e=>af _ e;have hL:(s.heap.push {cls:=.type "list",data:=.seq ([]:Aaf).toArray}).get? 35>{cls:=.type "list",data:=.seq #[]}:=aH _ rfl;have key:=Uk (prog:=prog) (s:=s\s.heap.push {cls:=.type "list",data:=.seq ([]:Aaf).toArray})
  (R:=λ(q:P3)(s':fv)=>∃(h':ss)(tk:Nat)(d:Drawn)(vT:Aak)(c':Nat),q=.ok (.ret<|.ref 35)/\s'={s with heap:=h',toks:=tk,drawn:=d}/\
   (∀b o,s.heap.get? b>o->h'.get? b>o)/\h'.get? 35>{cls:=.type "list",dict:=none,data:=.seq vT c',slots:=#[]}/\vT.toList.Perm (es.toList.map (·.2)))
  hh (x.keep λo e=>k1 _ _ e) hn (bA<|aE ho) hL λh' tk d acc c kp g pm=>{h',tk,d,acc,c,9,9,λb o e=>kp b o (aD<|aE e)<|k1 _ _ e,g,pm}
 show dR key (λfin s' x=>?_) λe s' x=>?_
 ·cases fin with
  |done f=>
   let(h',tk,d,vT,c',e,rfl,hk,Xk,pm):=x;cases e;show ae<|Hq Xk<|ah<|h h' tk d vT.toList pm hk
  |again c₁=>
   show{x.1,ko x.2 λq aae y=>?_};let(h',tk,d,vT,c',rfl,rfl,hk,Xk,pm):=y;show ae<|Hq Xk<|ah<|h h' tk d vT.toList pm hk
 let(__,__,__,__,__,e',__):=x;cases e'
end
end Tb
namespace pK
open PySem PySem.W PyProof.Rows
def ev{α:Type}(lt:Nat->Nat->Bool):KasT α->α
 | .ret a=>a
 | .ask i j k=>ev lt<|k<|lt i j
theorem w6{α β:Type}{lt:Nat->Nat->Bool}{f:α->KasT β}:∀t:KasT α,ev lt (t.bind f)=ev lt (f<|ev lt t)
 | .ret _=>rfl
 | .ask i j k=>w6<|k<|lt i j
section
variable{rk:Nat->Nat}
abbrev iJ(rk:Nat->Nat)(i j:Nat):Bool:=decide (rk i<rk j)
abbrev gK(rk:Nat->Nat)(p:Array Nat)(k:Nat):Nat:=rk<|p.getD k 0
def xO{p q:Array Nat}{i j:Nat}(h:p[i]?=q[j]?):gK rk p i=gK rk q j:=by unfold gK;rw[vP,vP,h]
def Xq{p:Array Nat}{src d:Nat}(hs:src<p.size)(hd:d<=src)(k:Nat):gK rk (bubble p src d) k=if k=src -d then gK rk p src else if src -d<k/\k<=src then gK rk p (k -1)else gK rk p k:=by
 have e:=getElem?_bubble hs d hd k;by_cases h1:k=src -d;·rw[aL h1]at e⊢;show xO e
 rw[az h1]at e⊢;by_cases h2:src -d<k/\k<=src;·rw[aL h2]at e⊢;show xO e
 rw[az h2]at e⊢;show xO e
def OY{p:Array Nat}{i j:Nat}(hj:j<=p.size)(k:Nat):gK rk (KM p i j) k=if i<=k/\k<j then gK rk p (i+j -1 -k)else gK rk p k:=by
 have e:=getElem?_mirror_all (i:=i) hj k;by_cases h1:i<=k/\k<j;·rw[aL h1]at e⊢;show xO e
 rw[az h1]at e⊢;show xO e
def GH(p:Array Nat)(i j:Nat):(KM p i j).size=p.size:=mirror_size _ _ _ _
def mW(p:Array Nat)(i j:Nat):(KM p i j).Perm p:=mirror_perm _ _ _ _
def Up(rk:Nat->Nat)(p:Array Nat)(n:Nat):Prop:=∀i j,i<=j->j<n->gK rk p i<=gK rk p j
def Dn(rk:Nat->Nat)(p:Array Nat)(n:Nat):Prop:=∀i j,i<=j->j<n->gK rk p j<=gK rk p i
def Up.more{p:Array Nat}{n:Nat}(h:Up rk p n)(h1:1<=n)(hn:gK rk p (n -1)<=gK rk p n):Up rk p (n+1):=λi j AF hj=>by
 by_cases e:j=n
 ·subst e;by_cases e2:i=j;·rw[e2];show ao _
  show aS (h i (j -1) ∅ ∅) hn
 show h i j AF ∅
def Dn.more{p:Array Nat}{n:Nat}(h:Dn rk p n)(h1:1<=n)(hn:gK rk p n<=gK rk p (n -1)):Dn rk p (n+1):=λi j AF hj=>by
 by_cases e:j=n
 ·subst e;by_cases e2:i=j;·rw[e2];show ao _
  show aS hn<|h i (j -1) ∅ ∅
 show h i j AF ∅
theorem O9{p:Array Nat}:∀(f n:Nat),1<=n->Up rk p n->n<=ev (iJ rk) (FM p f n)/\ev (iJ rk) (FM p f n)<=n+f/\Up rk p (ev (iJ rk)<|FM p f n)/\(ev (iJ rk) (FM p f n)=n+f\/gK rk p (ev (iJ rk)<|FM p f n)<gK rk p (ev (iJ rk) (FM p f n) -1))
 |0=>λn _ hu=>{ao _,ao _,hu,.inl rfl}
 |f+1=>λn h1 hu=>by
  change n<=ev (iJ rk) 104/\ev (iJ rk) 104<=n+(f+1)/\Up rk p (ev (iJ rk) 104)/\(ev (iJ rk) 104=n+(f+1)\/gK rk p (ev (iJ rk) 104)<gK rk p (ev (iJ rk) 104 -1));by_cases c:iJ rk (p.getD n 0) 51=true;·rw[aL c];show{ao _,fI _ _,hu,.inr<|aV c}
  rw[az c];let(a1,a2,a3,a4):=O9 f (n+1) ∅ (hu.more h1 (kC λh=>c<|aO h));show{8,8,a3,a4.imp (λe=>by lia) id}
structure afM(rk:Nat->Nat)(p:Array Nat)(n q:Nat):Prop where
 dn:Dn rk p n
 q1:q+1<=n
 eq:∀k,n -(q+1)<=k->k<n->gK rk p k=gK rk p (n -1)
def C9{p:Array Nat}{i j:Nat}(hj:j<=p.size)(he:∀k,i<=k->k<j->gK rk p k=gK rk p (j -1))(k:Nat):gK rk (KM p i j) k=gK rk p k:=by
 rw[OY hj];split;·rw[he _ ∅ ∅,he k ∅ ∅]
 rfl
def Dn.of{p p':Array Nat}{n:Nat}(h:Dn rk p n)(e:∀k,gK rk p' k=gK rk p k):Dn rk p' n:=λi j AF hj=>by rw[e,e];show h i j AF hj
theorem E4:∀(f:Nat)(p:Array Nat)(n q:Nat),n+f<=p.size->afM rk p n q->∃p' m q',ev (iJ rk) (L' f p n q)=(p',m,q')/\p'.Perm p/\n<=m/\m<=n+f/\afM rk p' m q'
 |0=>λp n q _ hf=>{p,n,q,9,.refl _,ao _,ao _,hf}
 |f+1=>λp n q hs hf=>by
  have q1:=hf.q1;change∃p' m q',ev (iJ rk) (if iJ rk (p.getD n 0) 51=true then(if q⊃0 then L' f (KM p (n -(q+1)) n) (n+1) 0 else L' f p (n+1) 0)else .ask 51 (p.getD n 0) λd=>if d=true then .ret (p,n,q)else L' f p (n+1) (q+1))=(p',m,q')/\_;by_cases c:iJ rk (p.getD n 0) 51=true
  ·rw[aL c];have c':gK rk p n<gK rk p (n -1):=aV c;by_cases hq:q⊃0;·rw[aL hq];have al:=C9 ∅ hf.eq;let(p',m,q',e,hp,h1,h2,h3):=E4 f (KM p (n -(q+1)) n) (n+1) 0 (by rw[GH];lia) {(hf.dn.of al).more ∅ (by rw[al,al];lia),8,λk F9 rh=>by rw[show k=n by lia];rfl};show{p',m,q',e,hp.trans<|mW _ _ _,8,8,h3}
   rw[az hq];let(p',m,q',e,hp,h1,h2,h3):=E4 f p (n+1) 0 ∅ {hf.dn.more ∅ ∅,8,λk F9 rh=>by rw[show k=n by lia];rfl};show{p',m,q',e,hp,8,8,h3}
  rw[az c];have c':gK rk p (n -1)<=gK rk p n:=kC λh=>c<|aO h;change∃p' m q',ev (iJ rk) (if iJ rk 51 (p.getD n 0)=true then .ret (p,n,q)else L' f p (n+1) (q+1))=(p',m,q')/\_;by_cases d:iJ rk 51 (p.getD n 0)=true;·rw[aL d];show{p,n,q,9,.refl _,ao _,fI _ _,hf}
  rw[az d];have d':gK rk p n<=gK rk p (n -1):=kC λh=>d<|aO h;let(p',m,q',e,hp,h1,h2,h3):=E4 f p (n+1) (q+1) ∅ {hf.dn.more ∅ d',by lia,λk F9 rh=>by
   change gK rk p k=gK rk p n;by_cases ek:k=n;·rw[ek]
   rw[hf.eq k ∅ ∅];lia}
  show{p',m,q',e,hp,8,8,h3}
def Sk{p:Array Nat}{n N:Nat}(h1:1<=n)(hn:n<=N)(hN:N<=p.size)(hd:Dn rk p n):∃m p',ev (iJ rk) (kas_tail3 n N p)=(m,p')/\p'.Perm p/\1<=m/\m<=N/\Up rk p' m:=by
 unfold kas_tail3;rw[w6];have hu:Up rk (KM p 0 n) n:=λi j AF hj=>by rw[OY ∅,OY ∅,aL ∅,aL ∅];show hd _ _ ∅ ∅
 let(a1,a2,a3,__):=O9 (N -n) n h1 hu;show{_,_,9,mW _ _ _,8,8,a3}
def Gf{p:Array Nat}{n N:Nat}(h1:1<=n)(hn:n<N)(hN:N<=p.size)(hd:Dn rk p (n+1)):∃m p',ev (iJ rk) (kas_descPart n N p)=(m,p')/\p'.Perm p/\1<=m/\m<=N/\Up rk p' m:=by
 unfold kas_descPart;rw[w6];let(p',m,q',e,hp,a1,a2,hf):=E4 (N -(n+1)) p (n+1) 0 ∅ {hd,8,λk F9 rh=>by rw[show k=n by lia];rfl};rw[e];have sz:=hp.size_eq;by_cases hq:q'⊃0;·rw[aL hq];have al:=C9 ∅ hf.eq;let(m1,p1,e1,xH,b1,b2,b3):=Sk (N:=N) ∅ ∅ (by rw[GH];lia) (hf.dn.of al);show{m1,p1,e1,(xH.trans<|mW _ _ _).trans hp,b1,b2,b3}
 rw[az hq];let(m1,p1,e1,xH,b1,b2,b3):=Sk (N:=N) ∅ ∅ ∅ hf.dn;show{m1,p1,e1,xH.trans hp,b1,b2,b3}
def Z2{p:Array Nat}{N:Nat}(h1:1<=N)(hN:N<=p.size):∃m p',ev (iJ rk) (kas_count N p)=(m,p')/\p'.Perm p/\1<=m/\m<=N/\Up rk p' m:=by
 unfold kas_count;rw[w6];let(a1,a2,a3,a4):=O9 (rk:=rk) (p:=p) (N -1) 1 (ao _) (λi j AF hj=>by rw[show i=j by lia];show ao _);generalize ev (iJ rk) (FM p (N -1) 1)=n at a1 a2 a3 a4;by_cases hnn:n=N;·rw[aL<|↑hnn];show{n,p,9,.refl _,8,8,a3}
 rw[az<|↑hnn];have b6:gK rk p n<gK rk p (n -1):=a4.resolve_left ∅;by_cases hgt:n⊃1
 ·rw[aL hgt];change∃m p',ev (iJ rk) (if iJ rk (p.getD 0 0) 51=true then .ret (n,p)else kas_descPart n N (KM p 0 n))=(m,p')/\_;by_cases c:iJ rk (p.getD 0 0) 51=true;·rw[aL c];show{n,p,9,.refl _,8,8,a3}
  rw[az c];have c':gK rk p (n -1)<=gK rk p 0:=kC λh=>c<|aO h;have mZ:∀k,0<=k->k<n->gK rk p k=gK rk p (n -1):=λk _ hk=>by have b1:=a3 0 k ∅ hk;have b2:=a3 k (n -1) ∅ ∅;lia
  have al:=C9 (rk:=rk) (p:=p) (i:=0) (j:=n) ∅ mZ;let(m1,p1,e1,xH,b1,b2,b3):=Gf (rk:=rk) (p:=KM p 0 n) (n:=n) (N:=N) ∅ ∅ (by rw[GH];lia) (λi j AF hj=>by
   rw[al,al];by_cases hjn:j=n
   ·by_cases hin:i=n;·rw[hin,hjn];show ao _
    rw[hjn,mZ i ∅ ∅];lia
   rw[mZ i ∅ ∅,mZ j ∅ ∅];show ao _)
  show{m1,p1,e1,xH.trans<|mW _ _ _,b1,b2,b3}
 rw[az hgt];have e1:n=1:=by lia
 subst e1;have b6:gK rk p 1<gK rk p 0:=b6;show Gf ∅ ∅ hN λi j AF hj=>by
  by_cases e:i=j;·rw[e];show ao _
  rw[show i=0 by lia,show j=1 by lia];lia
theorem G7{p:Array Nat}{k:Nat}(hu:Up rk p k):∀(f l r:Nat),l<=r->r<=k->r -l<=f->(∀i,i<l->gK rk p i<=gK rk p k)->(∀i,r<=i->i<k->gK rk p k<=gK rk p i)->∃x,ev (iJ rk) (kas_place p k f l r)=x/\x<=k/\(∀i,i<x->gK rk p i<=gK rk p k)/\∀i,x<=i->i<k->gK rk p k<=gK rk p i
 |0=>λl r h1 h2 h3 h4 h5=>{l,9,8,h4,λi a b=>h5 i ∅ b}
 |f+1=>λl r h1 h2 h3 h4 h5=>by
  change∃x,ev (iJ rk) (if l≥r then KasT.ret l else .ask (p.getD k 0) (p.getD ((l+r)/2) 0) λc=>if c=true then kas_place p k f l ((l+r)/2)else kas_place p k f ((l+r)/2+1) r)=x/\_;by_cases c:l≥r;·rw[aL c];show{l,9,8,h4,λi a b=>h5 i ∅ b}
  rw[az c];change∃x,ev (iJ rk) (if iJ rk (p.getD k 0) (p.getD ((l+r)/2) 0)=true then kas_place p k f l ((l+r)/2)else kas_place p k f ((l+r)/2+1) r)=x/\_;by_cases d:iJ rk (p.getD k 0) (p.getD ((l+r)/2) 0)=true;·rw[aL d];show G7 hu f l ((l+r)/2) ∅ ∅ ∅ h4 λi a b=>aS (bU<|aV d)<|hu _ i a b
  rw[az d];show G7 hu f ((l+r)/2+1) r ∅ h2 ∅ (λi hi=>aS (hu i ((l+r)/2) ∅ ∅) (kC λh=>d<|aO h)) h5
theorem XC:∀(f:Nat)(p:Array Nat)(k:Nat),k+f<=p.size->Up rk p k->∃p',ev (iJ rk) (kas_bin f p k)=p'/\p'.Perm p/\Up rk p' (k+f)
 |0=>λp k _ hu=>{p,9,.refl _,hu}
 |f+1=>λp k hs hu=>by
  change∃p',ev (iJ rk) ((kas_place p k k 0 k).bind λl=>kas_bin f (bubble p k<|k -l)<|k+1)=p'/\_;rw[w6];let(x,e,hx,h1,h2):=G7 hu k 0 k (aF _) (ao _) ∅ (λi hi=>absurd hi<|eE _) λi a b=>by lia
  rw[e];have hb:=λj=>Xq (rk:=rk) (p:=p) (src:=k) (d:=k -x) ∅ ∅ j;rw[show k -(k -x)=x by lia]at hb;have tJ:Up rk (bubble p k<|k -x) (k+1):=λi j AF hj=>by
   rw[hb,hb];by_cases c1:i=x
   ·rw[aL c1];by_cases c2:j=x;·rw[aL c2];show ao _
    rw[az c2,aL ∅];show h2 (j -1) ∅ ∅
   rw[az c1];by_cases c3:x<i/\i<=k;·rw[aL c3,az ∅,aL ∅];show hu _ _ ∅ ∅
   rw[az c3];by_cases c2:j=x;·rw[aL c2];show h1 i ∅
   rw[az c2];by_cases c4:x<j/\j<=k;·rw[aL c4];show hu _ _ ∅ ∅
   rw[az c4];show hu _ _ AF ∅
  let(p',e',hp,IQ):=XC f (bubble p k<|k -x) (k+1) (by rw[bubble_size];lia) tJ;show{p',e',hp.trans<|bubble_perm _ _ _,by rw[show k+(f+1)=k+1+f by lia];show IQ}
def acE{n:Nat}(h1:1<=n):∃p,ev (iJ rk) (kas_sort n)=p/\p.toList.Perm (List.range n)/\Up rk p n:=by
 unfold kas_sort;rw[w6];have sz:(List.toArray<|List.range n).size=n:=by simp
 let(m,p,e,hp,b1,b2,hu):=Z2 (p:=List.toArray<|List.range n) h1 ∅;rw[e];have sp:p.size=n:=by rw[hp.size_eq,sz]
 have hl:p.toList.Perm (List.range n):=by have:=vY.mp hp;simpa using this
 by_cases c:m<n;·rw[aL c,show max m 1=m by lia];let(p',e',AE,tJ):=XC (n -m) p m ∅ hu;show{p',e',(vY.mp AE).trans hl,by rw[show n=m+(n -m) by lia];show tJ}
 rw[az c];show{p,9,hl,by rw[show n=m by lia];show hu}
def qT{α:Type}(n:Nat)(P:α->Prop):KasT α->Prop
 | .ret a=>P a
 | .ask i j k=>i<n/\j<n/\∀b,qT n P<|k b
theorem qT.bind{α β:Type}{n:Nat}{P:α->Prop}{R:β->Prop}{f:α->KasT β}:∀{t:KasT α},qT n P t->(∀a,P a->qT n R (f a))->qT n R (t.bind f)
 | .ret a=>λh k=>k a h
 | .ask i j g=>λh k=>{h.1,h.2.1,λb=>qT.bind (h.2.2 b) k}
theorem XB{α:Type}{n:Nat}{P:α->Prop}{lt:Nat->Nat->Bool}{cmp:Nat->Nat->(Bool->fv->Prop)->fv->Prop}{J:fv->Prop}{Q:α->fv->Prop}(hc:∀i j C s,i<n->j<n->J s->(∀s',J s'->C (lt i j) s')->cmp i j C s):∀(t:KasT α)(s:fv),qT n P t->J s->(∀s',J s'->Q (ev lt t) s')->t.kasWp cmp Q s
 | .ret _=>λs _ hj h=>h s hj
 | .ask i j k=>λs a hj h=>hc i j _ s a.1 a.2.1 hj λs' hj'=>XB hc (k<|lt i j) s' (a.2.2 _) hj' h
def Bd(n:Nat)(p:Array Nat):Prop:=∀x∈p,x<n
def Bd.getD{n:Nat}{p:Array Nat}(h:Bd n p)(h0:0<n)(k:Nat):p.getD k 0<n:=by
 by_cases c:k<p.size
 ·have e:p.getD k 0=p[k]:=by simp[Array.getD,c]
  rw[e];show h _<|Array.getElem_mem c
 have e:p.getD k 0=0:=by simp[Array.getD,c]
 rw[e];show h0
def Bd.perm{n:Nat}{p q:Array Nat}(h:Bd n p)(hp:q.Perm p):Bd n q:=λx hx=>h x<|hp.mem_iff.mp hx
end
section
variable{n:Nat}(h0:0<n)
include h0
theorem Hh{p:Array Nat}(hb:Bd n p):∀f m,qT n (λ_=>True) (FM p f m)
 |0,m=>trivial
 |f+1,m=>{hb.getD h0 _,hb.getD h0 _,λb=>by
  cases b with
  |true=>show trivial
  |false=>show Hh hb f<|m+1}
theorem za:∀(f:Nat)(p:Array Nat)(m q:Nat),Bd n p->qT n (λr:Array Nat×Nat×Nat=>Bd n r.1) (L' f p m q)
 |0=>λp m q hb=>hb
 |f+1=>λp m q hb=>{hb.getD h0 _,hb.getD h0 _,λb=>by
  cases b with
  |true=>
   change qT n _ (if q⊃0 then L' f (KM p (m -(q+1)) m) (m+1) 0 else L' f p (m+1) 0);split;·show za f _ _ _<|hb.perm<|mW _ _ _
   show za f _ _ _ hb
  |false=>
   show{hb.getD h0 _,hb.getD h0 _,λd=>?_};cases d with
   |true=>show hb
   |false=>show za f p (m+1) (q+1) hb}
def LZ{p:Array Nat}(hb:Bd n p)(m N:Nat):qT n (λr:Nat×Array Nat=>Bd n r.2) (kas_tail3 m N p):=
 (Hh h0 (hb.perm<|mW _ _ _) _ _).bind λ_ _=>hb.perm<|mW _ _ _
def Cn{p:Array Nat}(hb:Bd n p)(m N:Nat):qT n (λr:Nat×Array Nat=>Bd n r.2) (kas_descPart m N p):=
 (za h0 _ _ _ _ hb).bind λr hr=>by
  split;·show LZ h0 (hr.perm<|mW _ _ _) _ _
  show LZ h0 hr _ _
def UD{p:Array Nat}(hb:Bd n p)(N:Nat):qT n (λr:Nat×Array Nat=>Bd n r.2) (kas_count N p):=
 (Hh h0 hb _ _).bind λm _=>by
  split;·show hb
  split
  ·show{hb.getD h0 _,hb.getD h0 _,λb=>?_};cases b with
   |true=>show hb
   |false=>show Cn h0 (hb.perm<|mW _ _ _) _ _
  show Cn h0 hb _ _
theorem BD{p:Array Nat}(hb:Bd n p)(k:Nat):∀f l r,qT n (λ_=>True) (kas_place p k f l r)
 |0=>λl r=>trivial
 |f+1=>λl r=>by
  unfold kas_place;split;·show trivial
  show{hb.getD h0 _,hb.getD h0 _,λb=>?_};cases b with
  |true=>show BD hb k f _ _
  |false=>show BD hb k f _ _
theorem Pr:∀(f:Nat)(p:Array Nat)(k:Nat),Bd n p->qT n (Bd n) (kas_bin f p k)
 |0=>λp k hb=>hb
 |f+1=>λp k hb=>(BD h0 hb k _ _ _).bind λl _=>Pr f _ _<|hb.perm<|bubble_perm _ _ _
def Yd:qT n (Bd n) (kas_sort n):=
 (UD h0 (p:=List.toArray<|List.range n) (λx hx=>by simpa using hx) n).bind λr hr=>by
  split;·show Pr h0 _ _ _ hr
  show hr
end
end pK
namespace pK
open PySem PySem.W PyProof.Rows PySem.Calls
section
variable{prog:io}{w:mo}{A:wf}{E:Aad}{s:fv}{vs:Aaf}
def Tk(s s':fv):Prop:=∃t,s'={s with toks:=t}
def Tk.refl(s:fv):Tk s s:={89,9}
abbrev kh(h:ss)(a:cr)(vs:Aaf):ss:=((h.update a 19).push<|wE "tuple" vs.toArray 0).push<|wE "list" #[] 0
def S8{a:cr}{n:Nat}{P:PySem.Fin->fv->Prop}{κ:SortKind}{rk:Nat->Nat}(ho:s.heap.get? a>wE "list" vs.toArray n)(h2:2<=vs.length)(qE:vs.length<64)
  (hk:∀s',Tk 54 s'->f8 77 A (keyKind' vs.toArray) (λk s2=>k=κ/\Tk 54 s2) (λ_ _=>False) s')
  (hc:∀i j C s',i<vs.length->j<vs.length->Tk 54 s'->(∀s2,Tk 54 s2->C (iJ rk i j) s2)->kas_ask prog w A κ vs i j C s')
  (k:∀(p:Array Nat)(h':ss)(tk c:Nat),p.toList.Perm (List.range vs.length)->Up rk p vs.length->h'.get? a>wE "list" (List.toArray (p.toList.map λi=>vs.getD i Value.none)) c->(∀b o,b≠a->s.heap.get? b>o->h'.get? b>o)->P (.done<|.ret .none) 44):
  f8 77 A 109 P E s:=by
 obtain⟨e1,yU⟩:∃e1,(s.heap.update a 19).get? a>wE "list" #[] e1:={_,FS ho λ_=>#[]};have IY:(kh s.heap a vs).get? a>wE "list" #[] e1:=af _<|af _ yU;have JW:∀b o,b≠a->s.heap.get? b>o->(kh s.heap a vs).get? b>o:=λb o nb q=>af _<|af _<|(bS s.heap a _).extBut b o nb q;rw[list_sort_plain];show ae<|listItems_at ho 9 ?_;show ae<|vR ho 9 ?_ (by rw[aR,bM];lia) (aF _);show ae<|zB yU 9 ?_;show ae<|qe ?_ (by change vs.length<=_;rw[bM];lia);show ae<|nA ?_ (aF _);show bP ?_;have big:¬vs.toArray.size<2:=by rw[aR];lia
 rw[az big,az big];show ae (dR (hk _<|Tk.refl _) (λkd s0 hq=>?_) λ_ _ x=>x.elim);let(rfl,t0):=hq;let(p,ep,hp,hu):=acE (n:=vs.length) ∅;have ahT:(kas_sort vs.length).kasWp (kas_ask prog w A kd vs) (λq s'=>q=p/\Tk 54 s') s0:=XB hc _ s0 (Yd ∅) t0 λs' t'=>⟨ep,t'⟩;show ae (dR (kat_run (Q:=λmi s'=>arrOf mi=p.map (kas_item<|vs.toArray.zip vs.toArray)/\failedOf mi=none/\Tk 54 s') 9 h2 qE (λp' mi s' a1 a2 a3 a4=>by let(rfl,t'):=a4;show⟨a2,a3,t'⟩) ahT) ?_ λ_ _ e=>e)
 ext⟨⟨⟩,mi⟩ s' ⟨har,hf,tk,rfl⟩;dsimp only;rw[kat_snds rfl har];have lp:(p.toList.map λi=>vs.getD i Value.none).length=vs.length:=by rw[ag,hp.length_eq,cH]
 obtain⟨out,eo⟩:∃out,out=p.toList.map λi=>vs.getD i Value.none:=⟨_,rfl⟩;obtain⟨c2,tK⟩:∃c2,((kh s.heap a vs).update a (Obj.mapSeq λ_=>out.toArray)).get? a>wE "list" out.toArray c2:={_,FS IY λ_=>out.toArray};show ae<|zB IY 9 ?_;show ae<|vR IY 9 ?_ (aF _) (by rw[aR,lp,bM];lia);rw[hf];simp only[Fg,gj,i9];show ah (k p _ tk c2 hp hu ?_ λb o nb q=>(bS (kh s.heap a vs) a _).extBut b o nb<|JW b o nb q);rw[<-eo];show tK
def JM{rk:jp->Nat}(ho:s.heap.get? a>wE "list" vs.toArray n)(h2:2<=vs.length)(qE:vs.length<64)
  (hk:∀s',Tk 54 s'->f8 77 A (keyKind' vs.toArray) (λk s2=>k=κ/\Tk 54 s2) (λ_ _=>False) s')
  (hc:∀x∈vs,∀y∈vs,∀s',Tk 54 s'->f8 77 A (keyLt' κ x y) (λb s2=>b=decide (rk x<rk y)/\Tk 54 s2) (λ_ _=>False) s')
  (k:∀(us:Aaf)(h':ss)(tk c:Nat),us.Perm vs->us.Pairwise (λx y=>rk x<=rk y)->h'.get? a>wE "list" us.toArray c->(∀b o,b≠a->s.heap.get? b>o->h'.get? b>o)->P (.done<|.ret .none) 44):
  f8 77 A 109 P E s:=by
 have mem:∀i,i<vs.length->vs.getD i Value.none∈vs:=λi hi=>by rw[dG,aq hi];show jz hi
 show S8 (rk:=λi=>rk<|vs.getD i Value.none) ho h2 qE hk (λi j C s' hi hj tk q=>?_) λp h' tk c hp hu g kp=>k _ h' tk c ?_ ?_ g kp;·show dR (hc _ (mem i hi) _ (mem j hj) s' tk) (λb s2 ahu=>?_) λ_ _ x=>x;let(e,t):=ahu;rw[e];show q s2 t
 ·have:=hp.map λi=>vs.getD i Value.none;rwa [show(List.range vs.length).map (λi=>vs.getD i Value.none)=vs from yj 75 λi h1 h2=>by simp[h2]]at this
 have lp:p.size=vs.length:=by rw[<-bj,hp.length_eq,cH]
 show cz.mpr (iX.mpr λx y hx hy hxy=>?_);have hx':x<p.size:=by simpa using hx
 have WU:y<p.size:=by simpa using hy
 have:=hu x y (bU hxy) ∅;unfold gK at this;have ex:p.getD x 0=p.toList[x]:=by simp[Array.getD,hx']
 have ey:p.getD y 0=p.toList[y]:=by simp[Array.getD,WU]
 rw[ex,ey]at this;show this
def GD(ho:s.heap.get? a>wE "list" vs.toArray n)(h2:vs.length<2)
  (k:∀(h':ss)(c:Nat),h'.get? a>wE "list" vs.toArray c->(∀b o,b≠a->s.heap.get? b>o->h'.get? b>o)->P (.done<|.ret .none) (s\h')):
  f8 77 A 109 P E s:=by
 obtain⟨e1,yU⟩:∃e1,(s.heap.update a 19).get? a>wE "list" #[] e1:={_,FS ho λ_=>#[]};have IY:(kh s.heap a vs).get? a>wE "list" #[] e1:=af _<|af _ yU;have JW:∀b o,b≠a->s.heap.get? b>o->(kh s.heap a vs).get? b>o:=λb o nb q=>af _<|af _<|(bS s.heap a _).extBut b o nb q;rw[list_sort_plain];show ae<|listItems_at ho 9 ?_;show ae<|vR ho 9 ?_ (by rw[aR,bM];lia) (aF _);show ae<|zB yU 9 ?_;show ae<|qe ?_ (by change vs.length<=_;rw[bM];lia);show ae<|nA ?_ (aF _);show bP ?_;have i0:vs.toArray.size<2:=by rw[aR];lia
 rw[aL i0,aL i0];show ae 83;show ae 83;dsimp only;have es:(arrOf<|SortSt.mk' general' (vs.toArray.zip vs.toArray) #[] 07 none).map (·.2)=vs.toArray:=by apply yx.mp;simp[List.map_snd_zip]
 rw[es];obtain⟨c2,tK⟩:∃c2,((kh s.heap a vs).update a (Obj.mapSeq λ_=>vs.toArray)).get? a>wE "list" vs.toArray c2:={_,FS IY λ_=>vs.toArray};show ae<|zB IY 9 ?_;show ae<|vR IY 9 ?_ (aF _) (by rw[aR,bM];lia);simp only[Fg,gj,i9];show ah (k _ c2 tK λb o nb q=>(bS (kh s.heap a vs) a _).extBut b o nb<|JW b o nb q)
abbrev FZ(a b:pi):Bool:=decide (a.cps.toList<b.cps.toList)
def dM:Aag->Aag->Bool
 |_,[]=>false
 |[],_::_=>true
 |a::r,b::q=>if a=b then dM r q else FZ a b
def TU(a:pi):FZ a a=false:=bQ<|List.lt_irrefl _
def Ws(h1:FZ a b=true)(h2:FZ b c=true):FZ a c=true:=aO<|List.lt_trans (aV h1)<|aV h2
def Wt(h:FZ a b=false)(h2:FZ b a=false):a=b:=by show ext_toList<|List.le_antisymm (List.not_lt.mp<|Ds h2)<|List.not_lt.mp<|Ds h
theorem tD:∀a,dM a a=false
 |[]=>rfl
 |a::r=>by unfold dM;rw[aL rfl];show tD r
theorem u6:∀{a b c:Aag},dM a b=true->dM b c=true->dM a c=true
 |_,[],[]=>λ_ h=>by unfold dM at h;cases h
 |_,_::_,[]=>λ_ h=>by unfold dM at h;cases h
 |_,[],_::_=>λh _=>by unfold dM at h;cases h
 |[],_::_,_::_=>λ_ _=>9
 |a::r,b::q,c::p=>λh1 h2=>by
  unfold dM at h1 h2⊢;by_cases e1:a=b
  ·subst e1;rw[aL rfl]at h1;by_cases e2:a=c;·rw[aL e2]at h2⊢;show u6 h1 h2
   rw[az e2]at h2⊢;show h2
  rw[az e1]at h1;by_cases e2:b=c;·subst e2;rw[az e1];show h1
  rw[az e2]at h2;have h3:=Ws h1 h2;rw[az (λe=>by rw[e,TU]at h3;cases h3)];show h3
theorem u7:∀{a b:Aag},dM a b=false->dM b a=false->a=b
 |[],[]=>λ_ _=>9
 |[],_::_=>λh _=>by unfold dM at h;cases h
 |_::_,[]=>λ_ h=>by unfold dM at h;cases h
 |a::r,b::q=>λh1 h2=>by
  unfold dM at h1 h2;by_cases e:a=b;·subst e;rw[aL rfl]at h1 h2;rw[u7 h1 h2]
  rw[az e]at h1;rw[az<|bN e]at h2;show(e<|Wt h1 h2).elim
abbrev j6(a b:Aag):Bool:=!dM b a
def Qe(a b c:Aag)(h1:j6 a b=true)(h2:j6 b c=true):j6 a c=true:=by
 have OV:dM c b=false:=by simpa using h2
 cases q:dM c a with
 |false=>simp[j6,q]
 |true=>
  cases p:dM a b with
  |true=>rw[u6 q p]at OV;cases OV
  |false=>rw[u7 p<|↑h1,OV]at q;cases q
def Qf(a b:Aag):(j6 a b||j6 b a)=true:=by
 cases q:dM b a with
 |false=>simp[j6,q]
 |true=>
  cases p:dM a b with
  |false=>simp[j6,p]
  |true=>have:=u6 q p;rw[tD]at this;cases this
def TV(h1:j6 a b=true)(h2:j6 b a=true):a=b:=u7 (↑h2)<|↑h1
def iV(l:Aaa):Aaa:=l.mergeSort j6
def kS(l:Aaa):(iV l).Perm l:=om l j6
def mU(l:Aaa):(iV l).Pairwise (λa b=>j6 a b=true):=qG Qe Qf l
theorem Bg:∀{l m:Aaa},l.Perm m->l.Pairwise (λa b=>j6 a b=true)->m.Pairwise (λa b=>j6 a b=true)->l=m
 |[],m=>λh _ _=>(Cr.mp h).symm
 |a::l,[]=>λh _ _=>absurd h.length_eq 75
 |a::l,b::m=>λh h1 h2=>by
  have e:a=b:=by
   rcases aJ.mp (h.mem_iff.mp<|av)with e|e;·show e
   rcases aJ.mp (h.mem_iff.mpr<|av)with q|q;·show q.symm
   show TV (eT h1 q)<|eT h2 e
  subst e;rw[Bg (AU a|>.mp h) (eW.mp h1).2 (eW.mp h2).2]
def oR(h:l.Perm zs)(hs:l.Pairwise (λa b=>j6 a b=true)):l=iV zs:=Bg (h.trans (kS zs).symm) hs<|mU zs
def FG(h:l.Perm m):iV l=iV m:=oR ((kS l).trans h)<|mU l
def Nt(rows:Aaa)(a:Aag):Nat:=rows.countP λr=>dM r a
def Ms(ha:a∈rows)(hb:b∈rows):decide (Nt rows a<Nt rows b)=dM a b:=by
 have strict:∀{a b:Aag},a∈rows->dM a b=true->Nt rows a<Nt rows b:=λ{a b} hm h=>by unfold Nt;let(l1,l2,e):=List.append_of_mem hm;have c1:∀l:Aaa,(l.countP λr=>dM r a)<=l.countP λr=>dM r b:=λl=>List.countP_mono_left λr _ hr=>u6 hr h;rw[e,Ex,Ex,List.countP_cons,List.countP_cons,tD,h];have:=c1 l1;have:=c1 l2;simp;lia
 cases q:dM a b with
 |true=>show aO<|strict ha q
 |false=>
  show bQ<|lB.mpr ?_;cases p:dM b a with
  |true=>show bU<|strict hb p
  |false=>rw[u7 q p];show ao _
end
inductive jP:Aag->Aaf->Prop where
 |nil:jP [] []
 |cons {z:pi} {t:Tok} {zs:Aag} {vs:Aaf}:jP zs vs->jP (z::zs) (.str z t::vs)
def TupIs(h:ss)(v:jp)(zs:Aag):Prop:=∃a o aK n,v=-a/\h.get? a>o/\o.cls=.type "tuple"/\o.data=.seq aK n/\jP zs aK.toList
def TupIs.mono(x:TupIs h v zs)(kp:∀b o,h.get? b>o->h'.get? b>o):TupIs h' v zs:=by let(a,o,aK,n,e,ho,r):=x;show{a,o,aK,n,e,kp _ _ ho,r}
def jP.one:∀{xs ys:Aag}{vs:Aaf},jP xs vs->jP ys vs->xs=ys:=by
 ext xs ys vs h g
 induction h generalizing ys with
 |nil=>cases g;rfl
 |cons _ ih=>cases g with
  |cons b=>rw[ih b]
def TupIs.one(a:TupIs h v xs)(b:TupIs h v ys):xs=ys:=by let(a,o,aK,n,rfl,h1,__,h2,h3):=a;let(b,p,lP,m,e,q1,__,q2,q3):=b;cases e;rw[h1]at q1;cases q1;rw[h2]at q2;cases q2;show h3.one q3
open Classical in
def rowOf(h:ss)(v:jp):Aag:=if x:∃r,TupIs h v r then Classical.choose x else[]
def uE(x:TupIs h v r):rowOf h v=r:=by unfold rowOf;rw[dif_pos ⟨r,x⟩];show(sM (⟨r,x⟩:∃r,TupIs h v r)).one x
section
variable{prog:io}{w:mo}{A:wf}{E:Aad}{s:fv}
def eq_str(h:Q (decide (a=b)) s):f8 77 A (eqBool (.str a t)<|.str b u) Q E s:=
 (PySem.strKind prog w).eqBool (Hv _ _ _ _) (Hv _ _ _ _) h
def acp{xs:Aag}{vs:Aaf}(h1:jP xs vs):∀{ys:Aag}{us:Aaf}(i:Nat)(s:fv),jP ys us->(fin=decide (55<91))->C (dM xs ys) s->KatLex prog w A true fin C (vs.zip us) i s:=by
 induction h1 with
 |nil=>
  ext ys us i s h2 hf h;show kat_nil ?_;rw[hf];cases h2<;>show h
 |@cons a xs vs t r1 ih=>
  ext ys us i s h2 hf h;cases h2 with
  |nil=>
   show kat_nil ?_;rw[hf];show h
  |@cons b ys us u r2=>
   show kat_cons<|eq_str ?_;unfold dM at h;by_cases e:a=b;·rw[aO e];rw[aL e]at h;show kat_yes<|ih (i+1) s r2 ?_ h;rw[hf];simp
   rw[bQ e];rw[az e]at h;show kat_no ?_;cases i with
   |zero=>show oneLt_str h
   |succ i=>
    have e2:(true&&(i+1==0))=false:=by simp
    show kat_one _ _<|CA h
def aet(hx:TupIs s.heap x xs)(hy:TupIs s.heap y ys)(h:C (dM xs ys) s):f8 77 A (keyLt' (UF true) x y) C E s:=by
 let(a,o,aK,n,rfl,ho,hc,hd,hr):=hx;let(b,p,lP,m,rfl,hp,hpc,hpd,hq):=hy;show kat_lt ho hd hp hpd<|acp hr 0 s hq ?_ h;have len:∀{zs:Aag}{vs:Aaf},jP zs vs->zs.length=vs.length:=by
  ext zs vs r
  induction r with
  |nil=>rfl
  |cons _ ih=>simp[ih]
 rw[len hr,len hq,bj,bj]
def Zv{vs:Aaf}{rows:Aaa}(hl:vs.length=rows.length)(h2:2<=vs.length)(ht:∀(i:Nat) v r,vs[i]?>v->rows[i]?>r->TupIs s.heap v r)(jl:∀r∈rows,r≠[])(h:Q (UF true) s):f8 77 A (keyKind' vs.toArray) Q E s:=by
 have key:∀(vs:Aaf)(rows:Aaa),vs.length=rows.length->(∀(i:Nat) v r,vs[i]?>v->rows[i]?>r->TupIs s.heap v r)->(∀r∈rows,r≠[])->∃fs,KatTups s.heap vs fs/\fs.length=vs.length/\∀f∈fs,∃z t,f=Value.str z t:=by
  ext vs
  induction vs with
  |nil=>ext rows hl _ _;show{[],KatTups.nil,9,λf hf=>nomatch hf}
  |cons v vs ih=>
   ext rows hl ht jl;cases rows with
   |nil=>simp at hl
   |cons r rows=>
    let(fs,h1,h2,h3):=ih rows (↑hl) (λi v' r' e1 e2=>ht (i+1) v' r' (↑e1)<|↑e2) λr' hr=>jl r'<|aA _ hr;let(a,o,aK,n,rfl,ho,hc,hd,hr):=ht 0 v r rfl rfl;cases r with
    |nil=>show(jl [] av 9).elim
    |cons z zs=>
     generalize eL:aK.toList=L at hr;cases hr with
     |@cons _ t _ FC ug=>
      show{.str z t::fs,KatTups.cons ho hc hd (by rw[<-cv,eL];rfl) h1,by simp[h2],λf hf=>?_};rcases aJ.mp hf with rfl|hf;·show⟨z,t,rfl⟩
      show h3 f hf
 let(fs,h1,h3,h4):=key vs rows hl ht jl;show kat_kind (T:=.type "str") h1 ∅ (λv hv=>?_) 7 ?_;·let(z,t,rfl):=h4 v hv;show Looks.of_pure rfl
 have e:((Value.type "str") !=Value.type "tuple")=true:=by decide
 show h
def Vj(ho:s.heap.get? a>wE "list" vs.toArray n)(hl:vs.length=rows.length)(ht:∀(i:Nat) v r,vs[i]?>v->rows[i]?>r->TupIs s.heap v r)(jl:2<=rows.length->∀r∈rows,r≠[])(qE:vs.length<64)
  (k:∀(h':ss)(tk c:Nat)(us:Aaf),h'.get? a>wE "list" us.toArray c->(∀b o,b≠a->s.heap.get? b>o->h'.get? b>o)->us.Perm vs->(∀(i:Nat) v r,us[i]?>v->(iV rows)[i]?>r->TupIs s.heap v r)->P (.done<|.ret .none) 44):
  f8 77 A 109 P E s:=by
 by_cases c2:vs.length<2
 ·show GD ho c2 λh' c g kp=>?_;have e:iV rows=rows:=by
   have:rows.length<2:=by lia
   match rows,this with
   |[],_=>show(oR (.refl _) .nil).symm
   |[r],_=>show(oR (.refl _) 75).symm
   |_::_::_,q=>simp at q;lia
  rw[e]at k;show k h' 89 c vs g kp (.refl _) ht
 have na:∀v r,TupIs s.heap v r->v≠ .ref a:=λv r x z=>by let(b,o,aK,m,rfl,hb,hc,__):=x;cases z;rw[ho]at hb;cases hb;injection hc with z;show absurd z 7
 have ht3:∀s',Tk 54 s'->∀(i:Nat) v r,vs[i]?>v->rows[i]?>r->TupIs s'.heap v r:=λs' ⟨t,e⟩ i v r e1 e2=>by subst e;have x:=ht i v r e1 e2;have ne:=na v r x;let(b,o,aK,m,rfl,hb,r):=x;show{b,o,aK,m,9,af _<|af _<|(bS s.heap a _).extBut b o (λz=>ne (by rw[z])) hb,r}
 have mr:∀v∈vs,∃r,r∈rows/\TupIs s.heap v r/\∀s',Tk 54 s'->TupIs s'.heap v r:=λv hv=>by let(i,hi,rfl):=tS.mp hv;have e1:=aq hi;have e2:=aq (l:=rows) (i:=i) ∅;show{_,jz _,ht i _ _ e1 e2,λs' tk=>ht3 s' tk i _ _ e1 e2}
 show JM (κ:=UF true) (rk:=λv=>Nt rows<|rowOf s.heap v) ho ∅ qE (λs' tk=>Zv hl ∅ (ht3 s' tk) (jl ∅) ⟨rfl,tk⟩) (λx hx y hy s' tk=>?_) λus h' tk c po so g kp=>?_;·let(r,m1,t1,k1):=mr x hx;let(q,m2,t2,k2):=mr y hy;show aet (k1 s' tk) (k2 s' tk) {?_,tk};rw[uE t1,uE t2,Ms m1 m2]
 have er:us.map (rowOf s.heap)=iV rows:=by
  have ev:vs.map (rowOf s.heap)=rows:=by show yj (↑hl) λi h1 h2=>?_;rw[List.getElem_map];show uE<|ht i _ _ (aq _)<|aq h2
  show oR (ev▸po.map _)<|cz.mpr (so.imp_of_mem λ{x y} hx hy q=>?_);let(r,m1,t1,k1):=mr x<|po.mem_iff.mp hx;let(p,m2,t2,k2):=mr y<|po.mem_iff.mp hy;rw[uE t1,uE t2]at q⊢;have z:=Ms m2 m1;rw[bQ<|lB.mpr q]at z;change(!dM _ _)=true;rw[<-z];rfl
 show k h' tk c us g kp po λi v r e1 e2=>?_;rw[<-er,aN,e1]at e2;cases e2;let(r,m1,t1,k1):=mr v<|po.mem_iff.mp<|aM e1;rw[uE t1];show t1
end
end pK
namespace L2
open PySem PySem.Spec PyProof.Rows pK
abbrev d9(K:Frag)(H:Hp):Aan->Aaa->Prop:=Paired λ(y:V)(zs:Aag)=>∃a,y=-a/\aZ K H a (zs.map V.str)
theorem Nr:∀{zs:Aag}{us:Aaf},Vals (zs.map V.str) us->jP zs us
 |[],_,.nil=>.nil
 |z::r,_,.cons ⟨t,e⟩ h=>by subst e;show .cons<|Nr h
theorem WD:∀{zs:Aag}{us:Aaf},Vals (zs.map V.str) us->ItemsAre (b4 P w) (zs.map Sum.inr) us
 |[],_,.nil=>.nil
 |z::r,_,.cons ⟨t,e⟩ h=>by subst e;show .cons (FY _ _ _ _)<|WD h
section
variable{X:Cx}{bi:Aab}{Z:St}{H:Hp}{s:fv}
def Inv.row(I:Inv X bi Z H s)(h:aZ X.K H a (zs.map V.str)):TupIs s.heap (-a) zs/\P' (b4 81 X.w) s.heap (zs.map Sum.inr) a:=by obtain⟨aK,r,⟨o,e,c,n,d⟩,_⟩:=I.tuple h;show{{a,o,aK.toArray,n,9,e,c,d,by simpa using Nr r},{o,aK.toArray,n,e,c,d,by simpa using WD r}}
theorem Inv.rows(I:Inv X bi Z H s):∀{ys:Aan}{rows:Aaa}{us:Aaf},d9 X.K H ys rows->Vals ys us->∃bs:Aai,us=bs.map Value.ref/\ys=bs.map V.ref/\bs.length=rows.length/\∀(i:Nat) z b,rows[i]?>z->bs[i]?>b->aZ X.K H b (z.map V.str):=by
 ext ys rows us g q
 induction g generalizing us with
 |nil=>cases q;show{[],9,9,9,λi z b e=>by simp at e}
 |cons x _ ih=>
  cases q with
  |@cons _ u _ _ ru q=>
   let(a,e,h):=x;let(bs,h1,h2,h3,h4):=ih q;subst e;cases(show u=Value.ref a from ru);show{a::bs,by rw[h1];rfl,by rw[h2];rfl,by simp[h3],λi z b e1 e2=>?_};cases i with
   |zero=>cases e1;cases e2;show h
   |succ i=>show h4 i z b (↑e1)<|↑e2
end
theorem Rb{K:Frag}:∀{bs:Aai}{rows:Aaa},bs.length=rows.length->(∀(i:Nat) z b,rows[i]?>z->bs[i]?>b->aZ K H b (z.map V.str))->d9 K H (bs.map V.ref) rows
 |[],[]=>λ_ _=>.nil
 |[],_::_=>λh _=>by simp at h
 |_::_,[]=>λh _=>by simp at h
 |b::bs,z::rows=>λh k=>.cons {b,9,k 0 z b rfl rfl} (Rb (↑h) λi z' b' e1 e2=>k (i+1) z' b' (↑e1)<|↑e2)
theorem EM:∀bs:Aai,Vals (bs.map V.ref) (bs.map Value.ref)
 |[]=>.nil
 |b::bs=>.cons rfl (EM bs)
def afS:jp->cr
 | .ref a=>a
 |_=>0
def JP(h:us.Perm (bs.map Value.ref)):∃cs:Aai,us=cs.map Value.ref/\cs.Perm bs:=by
 have all:∀{us:Aaf},(∀u∈us,∃b,u=Value.ref b)->∃cs:Aai,us=cs.map Value.ref:=by
  ext us
  induction us with
  |nil=>ext _;show{[],9}
  |cons u us ih=>
   ext hu;let(b,rfl):=hu u av;let(cs,rfl):=ih λv hv=>hu v<|aA _ hv;show{b::cs,rfl}
 let(cs,rfl):=all λu hu=>by let(b,__,e):=aG.mp<|h.mem_iff.mp hu;show{b,e.symm}
 show{cs,9,?_};have e:∀l:Aai,(l.map Value.ref).map afS=l:=λl=>by
  induction l with
  |nil=>rfl
  |cons a l ih=>show c8 (a::·) ih
 rw[<-e cs,<-e bs];show h.map _
def BB:Aaa->Aaa
 |[]=>[]
 |r::l=>if r∈l then BB l else r::BB l
theorem xB(x:Aag):∀l,x∈BB l↔x∈l
 |[]=>Kt
 |r::l=>by
  unfold BB;by_cases c:r∈l;·rw[aL c,xB x l,aJ];show{.inr,λh=>h.elim (λe=>e▸c) id}
  rw[az c,aJ,aJ,xB x l]
theorem wK:∀l,(BB l).Nodup
 |[]=>jx
 |r::l=>by
  unfold BB;by_cases c:r∈l;·rw[aL c];show wK l
  rw[az c];show cQ.mpr {λh=>c<|(xB r l).mp h,wK l}
def gJ(l:Aaa):Aaa:=iV<|BB l
def MH(nd:l.Nodup)(h:∀r,r∈l↔r∈rows):iV l=gJ rows:=
 FG ((jV nd<|wK rows).mpr λr=>by rw[h,xB])
def vz(x:Aag)(l:Aaa):x∈gJ l↔x∈l:=by unfold gJ;rw[(kS _).mem_iff,xB]
section
variable{prog:io}{w:mo}{A:wf}{E:Aad}{s:fv}
def PR{Q:Aad}(hl:vs.length=rows.length)(ht:∀(i:Nat) v r,vs[i]?>v->rows[i]?>r->TupIs s.heap v r)(jl:2<=rows.length->∀r∈rows,r≠[])(qE:vs.length<64)
  (k:∀(h':ss)(tk c:Nat)(us:Aaf),h'.get? 35>wE "list" us.toArray c->(∀b o,s.heap.get? b>o->h'.get? b>o)->us.Perm vs->(∀(i:Nat) v r,us[i]?>v->(iV rows)[i]?>r->TupIs s.heap v r)->Q (.ref 35) 44):
  f8 77 A (newList vs>>=λl=>J' [l] (Ix (.builtin "list.sort") [l] [])>>=λ_=>ret l) (λfin s'=>∃v,fin=Fin.done (.ret v)/\Q v s') E s:=by
 show ae<|nA ?_ (by rw[bM];lia);have xI:(s.heap.push<|wE "list" vs.toArray 0).get? 35>wE "list" vs.toArray 0:=aH _ rfl;show ae<|bP<|bC uz ⟨_,xI,rfl⟩ tL (Vj (s:=s\s.heap.push (wE "list" vs.toArray 0)) xI hl (λi v r e1 e2=>(ht i v r e1 e2).mono λb o e=>af _ e) jl qE λh' tk c us g kp pm q=>{_,9,?_})<|uT _;show ah {_,9,k h' tk c us g (λb o e=>kp b o (aD<|aE e)<|af _ e) pm λi v r e1 e2=>?_};have x:=q i v r e1 e2;have hv:v∈vs:=pm.mem_iff.mp<|aM e1;let(j,hj):=eF.mp hv;have rj:j<rows.length:=by have:=(ar.mp hj).1;lia
 have y:=ht j v _ hj<|aq rj;let(b,o,aK,m,rfl,hb,r1):=y;let(b',o',its',m',e',gf,r1'):=x;cases e';have:o'=o:=by have:=af (wE "list" vs.toArray 0) hb;show bR<|gf.symm.trans this
 subst this;show⟨b,o',its',m',rfl,hb,r1'⟩
variable{X:Cx}
def SortedTo(K:Frag)(H:Hp)(ys:Aan)(rows:Aaa)(Q:VK):Prop:=∀l zs,H l=none->d9 K H zs (iV rows)->(∀z∈zs,z∈ys)->Q (-l) (upd H l<|.lst zs)
def Ba{bi:Aab}{Z:St}{H:Hp}{s s1:fv}{bs:Aai}{rows:Aaa}{Q:VK}(I:Inv X bi Z H s1)(lb:bs.length=rows.length)(hb:∀(i:Nat) z b,rows[i]?>z->bs[i]?>b->aZ X.K H b (z.map V.str))(jl:2<=rows.length->∀r∈rows,r≠[])(qE:rows.length<64)(q:SortedTo X.K H (bs.map V.ref) rows Q){A:wf}{E:Aad}:
  f8 82 A (newList (bs.map Value.ref)>>=λl=>J' [l] (Ix (.builtin "list.sort") [l] [])>>=λ_=>ret l) (λfin s'=>∃v,fin=Fin.done (.ret v)/\EP X bi Z Q v s') E s1:=by
 show PR (rows:=rows) (by rw[ag];show lb) (λi v r e1 e2=>?_) jl 65 λh' tk c us g kp pm srt=>?_;·rw[aN]at e1;let(b,e3,rfl):=aY.mp e1;show(I.row<|hb i r b e2 e3).1
 let(cs,rfl,pc):=JP pm;have lc:cs.length=rows.length:=by rw[pc.length_eq,lb]
 have lz:(cs.map V.ref).length<=dL:=by rw[ag,bM];lia
 show{.ref 29,_,I.laid (t':=tk) kp (ao _) (show da 81 X.w _ _ _ (.lst<|cs.map V.ref)from{lz,cs.map Value.ref,c,EM cs,g}),9,q _ (cs.map V.ref) 57 (Rb (by rw[lc,(kS rows).length_eq]) λi z b e1 e2=>?_) λz hz=>(pc.map _).mem_iff.mp hz};have t:=srt i (-b) z (by rw[aN,e2];rfl) e1;let(j,hj):=eF.mp<|pc.mem_iff.mp<|aM e2;have rj:j<rows.length:=by have:=(ar.mp hj).1;lia
 have hr:=hb j _ b (aq rj) hj;have t2:=(I.row hr).1;have e:rows[j]=z:=by
  let(b1,o1,i1,n1,e1,g1,c1,d1,r1):=t;let(b2,o2,i2,n2,e2,g2,c2,d2,r2):=t2;cases e1;cases e2;rw[g1]at g2;cases g2;rw[d1]at d2;cases d2;have inj:∀{x y:Aag}{vs:Aaf},jP x vs->jP y vs->x=y:=by
   ext x y vs hx
   induction hx generalizing y with
   |nil=>ext hy;cases hy;rfl
   |cons _ ih=>ext hy;cases hy with|cons hy=>rw[ih hy]
  show inj r2 r1
 rw[<-e];show hr
def rE:Key->pi
 | .inr z=>z
 | .inl _=>""
def yF(z:Aag):(z.map (Sum.inr:pi->Key)).map rE=z:=by
 induction z with
 |nil=>rfl
 |cons a z ih=>show c8 (a::·) ih
end
def BF(P:io)(w:mo)(a:cr)(us:List (Aag×cr)):ss->Prop:=λh=>∃o ep t,h.get? a>o/\o.ExactSet/\o.data=.set (us.map λx=>Tb.ent (Tb.Ht<|b4 P w) (x.1.map Sum.inr,x.2)).toArray ep t/\t.fits us.length=true/\t.led=Tb.qN w/\Tb.pM t.place
def abG(x:BF P w a us h):da P w H h a (.ext<|BF P w a us):=
 {x,by let(o,__,__,q,__):=x;show⟨o,q⟩,λ_ _ zq k=>by let(o,ep,t,q,r):=zq;show{o,ep,t,k _ q,r}}
section
variable{X:Cx}{bi:Aab}{Z:St}{H:Hp}{s:fv}{h':ss}
def Inv.agr(I:Inv X bi Z H s)(k:∀b u,s.heap.get? b>u->h'.get? b>u):Inv X bi Z H {s with heap:=h',drawn:=d',toks:=t'}:=
 I.step (ch:=[]) (λ_ z=>nomatch z) (λb o _ _ _ e _=>k b o e) (λb o _ _ _ e _=>{o.slots,k b o e}) (λ_ _ _ _ n=>n) (λb o _ e=>{o,k b o e}) (λ_ _ e=>e) (λ_ _ _ e=>e) (λb ps e=>{#[],by rw[e];simp}) (λm hm=>by let(o,es,ep,ho,r):=hm;show{o,es,ep,k _ _ ho,r}) (I.bE.kept k) I.bare
end
section
variable{X:Cx}
def X7(hA:X.A.handled=none)(hu:X.A.units+64<wS):fB X (.type "set") (λxs H Q=>∃p ys rows,xs=[-p]/\aT X.K H p ys/\d9 X.K H ys rows/\rows.length<=1000/\∀a us,H a=none->(us.map (·.1)).Nodup->(∀r,r∈us.map (·.1)↔r∈rows)->us.length<=rows.length->(∀x∈us,aZ X.K H x.2 (x.1.map V.str)/\V.ref x.2∈ys)->Q (-a) (upd H a<|.ext<|BF 81 X.w a us)):=by
 ext bi s Z H xs us Q I r h;let(p,ys,rows,rfl,hq,hr,hz,q):=h;let(u,rfl,rx):=iw r;cases rx;let(aK,r',pl,__):=I.list hq;let(bs,rfl,rfl,lb,hb):=I.rows hr r';show Tb.X6 (knd:=Tb.Ht<|b4 81 X.w) (ks:=rows.map λz=>z.map Sum.inr) (bs:=bs) hA (by change X.A.units+1+1+1<wS;lia) (.inl pl.isList) 75 (by rw[ag,lb]) (λi k b e1 e2=>?_) ∅ λh' tk o ep t xs S hl hH kp=>?_;·rw[aN]at e1;let(z,e3,rfl):=aY.mp e1;show(I.row<|hb i z b e3 e2).2
 have inj:∀x∈xs,∃(j:Nat)(z:Aag),rows[j]?>z/\x.1=z.map Sum.inr/\bs[j]?>x.2:=λx hx=>by let(j,j1,j2):=hH.MA x hx;rw[aN]at j1;let(z,e3,e4):=aY.mp j1;show{j,z,e3,e4.symm,j2}
 have back:(xs.map λx=>(x.1.map rE,x.2)).map (λx=>((x.1.map Sum.inr:List Key),x.2))=xs:=by
  rw[cX];have:∀x∈xs,((λx:Aag×cr=>((x.1.map Sum.inr:List Key),x.2))∘λx:List Key×cr=>(x.1.map rE,x.2)) x=x:=λx hx=>by let(j,z,__,e,__):=inj x hx;change((x.1.map rE).map Sum.inr,x.2)=x;rw[e,yF];show yc e.symm rfl
  rw[gA this,List.map_id']
 have fst:∀r,r∈(xs.map λx=>(x.1.map rE,x.2)).map (·.1)↔r∈rows:=λr=>by
  rw[cX,aG];constructor;·ext⟨x,hx,rfl⟩;let(j,z,e1,e,__):=inj x hx;change x.1.map rE∈rows;rw[e,yF];show aM e1
  ext hr;have:r.map Sum.inr∈xs.map (·.1):=(hH.mem _).mpr (by
   rw[gv (by rw[ag,lb];show ao _)];show aG.mpr ⟨r,hr,rfl⟩)
  let(x,hx,e):=aG.mp this;show{x,hx,by change x.1.map rE=r;rw[e,yF]}
 have nd:((xs.map λx=>(x.1.map rE,x.2)).map (·.1)).Nodup:=by
  have h1:=S.nd;rw[<-back,cX]at h1;have h2:((xs.map λx=>(x.1.map rE,x.2)).map ((·.1)∘λx:Aag×cr=>((x.1.map Sum.inr:List Key),x.2)))=((xs.map λx=>(x.1.map rE,x.2)).map (·.1)).map λz=>z.map Sum.inr:=by simp only[cX];rfl
  rw[h2]at h1;show(cz.mp h1).imp λne e=>ne (by rw[e])
 have hd:o.data=.set ((xs.map λx=>(x.1.map rE,x.2)).map λx=>Tb.ent (Tb.Ht<|b4 81 X.w) (x.1.map Sum.inr,x.2)).toArray ep t:=by rw[S.data];congr 2;have:=c8 (List.map<|Tb.ent<|Tb.Ht<|b4 81 X.w) back;rw[cX]at this;show this.symm
 show{.ref 35,_,I.laid (t':=tk) kp (ao _)<|abG {o,ep,t,S.ob,S.ex,hd,?_,hl,S.tab.rise},9,q _ _ 57 nd fst ?_ λx hx=>?_};·have:=S.fits;simpa using this
 ·rw[ag];have:=hH.len;lia
 let(y,hy,rfl):=aG.mp hx;let(j,z,e1,e,e2):=inj y hy;show{?_,aG.mpr {y.2,aM e2,9}};change aZ X.K H y.2 ((y.1.map rE).map V.str);rw[e,yF];show hb j z y.2 e1 e2
def Km(hA:X.A.handled=none):fB X (.builtin "sorted") (λxs H Q=>∃a us ys,xs=[-a]/\H a>.ext (BF 81 X.w a us)/\(∀x∈us,aZ X.K H x.2 (x.1.map V.str)/\V.ref x.2∈ys)/\(2<=us.length->∀x∈us,x.1≠[])/\us.length<64/\SortedTo X.K H ys (us.map (·.1)) Q):=by
 ext bi s Z H xs us Q I r h;let(a,us',ys,rfl,ha,hx,jl,qE,q):=h;let(u,rfl,rx):=iw r;cases rx;obtain⟨⟨o,ep,t,ho,hex,hd,hf,hl,agz⟩,_⟩:=(show da 81 X.w H s.heap a (.ext<|BF 81 X.w a us')from I.bE a _ ha);show fJ rf oY pE (pH _) ?_;unfold Builtin.«sorted»;show ae (m:=W' "sorted" 1 1 _) 83;show ae (Tb.Qp (A:=X.A.in1) (↑hA) {⟨o,ho,hex,hd⟩,by simpa using hf,λcf _=>{by rw[hl,Tb.qN,cf];rfl,agz}} (by simp;lia) λh' tk d vs pm kp=>?_);have e0:(us'.map λx=>Tb.ent (Tb.Ht<|b4 81 X.w) (x.1.map Sum.inr,x.2)).toArray.toList.map (·.2)=us'.map λx=>Value.ref x.2:=by simp[wx]
 rw[e0]at pm;let(FC,pv,rfl):=NH pm rfl;have lb:(FC.map (·.2)).length=(FC.map (·.1)).length:=by rw[ag,ag]
 have lu:=pv.length_eq;have e1:(FC.map λx=>Value.ref x.2)=(FC.map (·.2)).map Value.ref:=by rw[cX];rfl
 rw[e1];have sc:iV (FC.map (·.1))=iV (us'.map (·.1)):=FG<|pv.map _;show Ba (s:=s) (I.agr (t':=tk) (d':=d) kp) lb (λi z b e2 e3=>?_) (λh2 r hr=>?_) 65 λl zs iz hz hm=>?_;·rw[aN]at e2 e3;let(x,ex,rfl):=aY.mp e2;rw[ex]at e3;cases e3;show(hx x<|pv.mem_iff.mp<|aM ex).1
 ·let(x,hxm,rfl):=aG.mp hr;show jl (by rw[ag]at h2;lia) x<|pv.mem_iff.mp hxm
 rw[sc]at hz;show q l zs iz hz λz hzm=>?_;let(b,hb,rfl):=aG.mp<|hm z hzm;let(x,hxm,rfl):=aG.mp hb;show(hx x<|pv.mem_iff.mp hxm).2
def Pj(hA:X.A.handled=none):fB X (.builtin "sorted") (λxs H Q=>∃(a:cr)(kvs:List (Key×V))(zs:Aag),xs=[-a]/\H a>.dK kvs/\kvs.map (·.1)=zs.map Sum.inr/\zs.length<64/\∀l,H l=none->Q (-l) (upd H l<|.lst<|(ou zs).map V.str)):=by
 ext bi s Z H xs us Q I r h;let(a,kvs,zs,rfl,ha,hk,qE,q):=h;let(u,rfl,ru):=iw r;cases ru;let(hz,lo,vs,rel,o,es,ep,m):=yX I.bE ha;have at':s.heap.DictAt (b4 81 X.w) a vs ep:=⟨o,es,m⟩;have hl:kvs.length=vs.length:=rel.length;have rh:kvs.map (·.1)=vs.map (·.1):=rel.keys;show fJ rf oY pE (pH _) ?_;unfold Builtin.«sorted»;show ae (m:=W' "sorted" 1 1 _) 83;show ae (Cz (A:=X.A.in1) (PySem.W.kdl_dict lo) (↑hA) at' (by rw[<-hl];show hz) λh' tk acc kp it=>?_);have hS:StrsAre acc.toList zs:=by
  have len:acc.toList.length=zs.length:=by have e1:=c8 List.length hk;simp only[ag]at e1;rw[bj,it.1];lia
  have at_:∀(j:Nat)(v:jp),acc.toList[j]?>v->∃t,v=.str (zs.getD j "") t:=λj v e=>by
   let(k,y,e3,e4):=it.2 j v (by rw[<-cv];show e);have e5:(zs.map (Sum.inr:pi->Key))[j]?>k:=by rw[<-hk,rh,aN,e3];rfl
   rw[aN]at e5;let(z,e6,rfl):=aY.mp e5;have e8:RelV (kV<|Sum.inr z) v:=uF (k:=Sum.inr z) e4;let(t,e7):=(show∃t,v=Value.str z t from e8);show{t,by rw[e7,dG,e6];rfl}
  have go:∀(us:Aaf)(zs:Aag),us.length=zs.length->(∀(j:Nat)(v:jp),us[j]?>v->∃t,v=.str (zs.getD j "") t)->StrsAre us zs:=by
   ext us
   induction us with
   |nil=>ext zs hl _;rw[cc.mp hl.symm];show .nil
   |cons u us ih=>
    ext zs hl hk;cases zs with
    |nil=>simp at hl
    |cons z zs=>
     let(t,rfl):=hk 0 u rfl;show .cons z t (ih zs (↑hl) λj v e=>by let(t,e'):=hk (j+1) v<|↑e;show{t,by simpa using e'})
  show go _ _ len at_
 have ah6:acc.toList.length<64:=by have:=hS.strs;rw[<-this,ag]at qE;show qE
 show ae<|nA ?_ (by rw[bM];lia);have xI:(h'.push 14).get? h'.objs.size>wE "list" acc.toList.toArray 0:=aH _ rfl;have I1:Inv X bi Z H 44:=I.kept kp;show ae<|bP<|bC uz ⟨_,xI,rfl⟩ tL (list_sort_treeK strKind_oneLt (s:=s\(h'.push 14,tk)) xI hS.keysOf (λaiK aiJ rest e=>keyKind_strs (by rw[<-e];show hS)) ah6 λmi hp hs=>{_,9,?_})<|uT _;let(ss',h1,h2,h3):=sorted_out_str hS hp hs;have e:=YL h2 h3;subst e;generalize (arrOf mi).map (·.2)=out at h1;have lt:h'.objs.size<(h'.push 14).objs.size:=aE xI;have ln:((ou zs).map V.str).length<=dL:=by rw[ag,(wD zs).length_eq];show bU<|cw ∅
 obtain⟨n,he⟩:∃n,(sortedHeap (h'.push 14) h'.objs.size acc.toList out).get? h'.objs.size>wE "list" out n:=by obtain⟨e1,yU⟩:∃e1,((h'.push 14).update h'.objs.size 19).get? h'.objs.size>wE "list" #[] e1:={_,FS xI λ_=>#[]};have ho3:=af (wE "list" #[] 0)<|af (wE "tuple" acc.toList.toArray 0) yU;show{_,FS ho3 λ_=>out}
 have old:∀b o,h'.get? b>o->(sortedHeap (h'.push 14) h'.objs.size acc.toList out).get? b>o:=λb o e=>by have nb:b≠h'.objs.size:=aD<|aE e;have g1:=af 14 e;have g2:=(bS (h'.push 14) h'.objs.size 19).extBut b o nb g1;have g3:=af (wE "list" #[] 0)<|af (wE "tuple" acc.toList.toArray 0) g2;show(bS _ h'.objs.size (Obj.mapSeq λ_=>out)).extBut b o nb g3
 show ah {_,9,.ref h'.objs.size,_,I1.laid (t':=tk) old (ao _) (show da 81 X.w _ _ _ (.lst<|(ou zs).map V.str)from{ln,out.toList,n,YH h1,?_}),9,q _ 20};show he
end
def agm(hl:52=true:=by rfl)(hb:At (.Name d pd) "get" X.env (wT (.Name d pd) X.env)=wT (.Name d pd) X.env:=by rfl):M2 X (.Name d pd) "get" Gc 27 (.List [] pl) fu:=⟨hb,rfl,hl,rfl⟩
section
variable{prog:io}{w:mo}{A:wf}{E:Aad}{s:fv}{d it:cr}{o:Go}{es:Array Do}{ep i:Nat}
def Ra(lo:(d==zn)=false)(ho:s.heap.get? d>o)(hx:o.ExactDict)(hd:o.data=.dict es ep)
  (q:Q (.ref 35) (s\s.heap.push {cls:=.type "dict_keyiterator",data:=.fields #[-d,.int 0 0,.int 78 0,.int ep 0]})):f8 77 A (Ps (-d)) Q E s:=by
 have ty:s.TypeIs (-d) "dict":={o,ho,hx.1};show qJ ty zQ<|bC zQ ty PySem.F.entry_dict_iter ?_ (PySem.F.args_dict_iter_1 _);show ae<|ae<|iO ty 83;change f8 _ _ (Builtin.Dict.showsAll d>>=_) _ _ s;unfold Builtin.Dict.showsAll;rw[lo];show ae<|ah<|ae<|ik ho hd<|ae<|kR ho hd<|ae<|c9<|ah {_,9,"dict_keyiterator",_,{_,43,9},fX.lookup,q}
def Vx(hit:s.heap.IsKeyIter it d i 78 ep)(ho:s.heap.get? d>o)(hd:o.data=.dict es ep)(hi:i<78)
  (q:∀h',h'.IsKeyIter it d (i+1) 78 ep->Heap.SameBut it s.heap h'->Q (some es[i].key) (s\h')):f8 77 A (pyNext (-it)) Q E s:=by
 let(oi,Lz,ci,di):=id hit;show ae<|fC<|sw hit.typeIs fX<|bC fX hit.typeIs qy ?_ (pS _);show ae<|ah<|ae<|ae<|ae<|jn hit.typeIs 83;show ae<|ju Lz di ?_;have own:Builtin.Dict_items.ownsTuple "dict_keyiterator"=false:=by decide
 change f8 _ _ 139 _ _ s;show ae<|ah<|ae<|ik ho hd ?_;rw[az 75];show ae<|ah<|ae<|kR ho hd ?_;rw[az 75];show ah ?_;simp only[show ¬((i:Int)<0)from by lia,i9,dE,bK hi];show ae<|ae<|jn hit.typeIs<|ah<|ae<|Af hit.typeIs ?_;change f8 _ _ (V' (-it) 1 (wP<|(i:Int)+1)>>=_) _ _ s;show ae<|eY Lz di 75 ?_;have T8:(s.heap.update it<|Obj.mapFields (·.setIfInBounds 1 (wP<|(i:Int)+1))).IsKeyIter it d (i+1) 78 ep:=
  {_,cD _ Lz<|mH<|k9 di _,(Fq ..).trans ci,by rw[k9 di];simp[wP]}
 show ae<|bP<|ae<|Af T8.typeIs ?_;show ah<|ah {_,9,ah<|q _ T8<|bS ..}
def K7(hh:A.handled=none)(hit:s.heap.IsKeyIter it d i 78 ep)(ho:s.heap.get? d>o)(hd:o.data=.dict es ep)(hi:78<=i)
  (q:∀h',(∀b x,b≠it->s.heap.get? b>x->h'.get? b>x)->Q none (s\h')):f8 77 A (pyNext (-it)) Q E s:=by
 let(oi,Lz,ci,di):=id hit;show ae<|fC<|sw hit.typeIs fX<|bC fX hit.typeIs qy ?_ (pS _);show ae<|ah<|ae<|ae<|ae<|jn hit.typeIs 83;show ae<|ju Lz di ?_;have own:Builtin.Dict_items.ownsTuple "dict_keyiterator"=false:=by decide
 change f8 _ _ 139 _ _ s;show ae<|ah<|ae<|ik ho hd ?_;rw[az 75];show ae<|ah<|ae<|kR ho hd ?_;rw[az 75];show ah ?_;simp only[show ¬((i:Int)<0)from by lia,i9,dE,lK hi];show ae<|ae<|jn hit.typeIs 83;change f8 _ _ (V' (-it) 0 .none>>=_) _ _ s;show ae<|eY Lz di 75 ?_;show Tb.EL (show A.in1.handled=none from hh) λh' e kp aht=>?_;let(oe,he,ce):=aht;show ae<|iK ⟨oe,he,ce⟩ mC<|ah (q _ λb x nb g=>kp b x<|(bw _ _<|bN nb).trans g)
end
def DX(P:io)(w:mo)(d:cr)(kvs:List (Key×V))(ok ov:V):ss->Prop:=λh=>(d==zn)=false/\∃o es ep vs e,h.get? d>o/\o.ExactDict/\o.data=.dict (es.push e) ep/\KV kvs vs/\KeysOf (b4 P w) es/\Pairs (b4 P w) es.toList vs/\(vs.map (·.1)).Nodup/\RelV ok e.key/\RelV ov e.val/\kvs.length<=1000
section
variable{X:Cx}{bi:Aab}{Z:St}{H:Hp}{s:fv}
def Inv.Si(I:Inv X bi Z H s)(hd:H d>.ext φ)(ho:s.heap.get? d>o):Inv X bi Z (upd H d<|.fR o<|.ext φ) s:=by
 have nd:∀b u,H b>u->(∀l,u≠ .ext l)->b≠d:=λb u q n z=>by rw[z,hd]at q;show n φ (bR q).symm
 show I.un {λb u e _ _ _=>e,λb u e _ _ _=>{u.slots,e},λb u e n _=>by rw[aC<|(λb q z=>by rw[z,hd]at q;cases q) b n];show n,λb u e _=>⟨u,e⟩,λb xs q=>by rw[aC (nd b _ q λl z=>by cases z)];show q,λb u v q=>by rw[aC (nd b _ q λl z=>by cases z)];show q,λb ps q=>{#[],by rw[aC (nd b _ q λl z=>by cases z),q];simp}} λb u g=>?_;by_cases hb:b=d;·subst hb;rw[au]at g;cases g;show{ho,I.bE b _ hd}
 rw[aC hb]at g;show(I.bE b u g).j3 (λc v hc q=>q) (λc q=>by rw[aC (nd c _ q λl z=>by cases z)];show q) λc ys q=>by rw[aC (nd c _ q λl z=>by cases z)];show q
def Inv.SV(I:Inv X bi Z H s)(hd:H d>.fR o u)(hn:∀u v,X.aaf d≠some (.fR u v)):Inv X bi Z (upd H d u) s:=by
 have nd:∀b u,H b>u->(∀v l,u≠ .fR v l)->b≠d:=λb u q n z=>by rw[z,hd]at q;show n _ _ (bR q).symm
 have jl:∀b,H b=none->b≠d:=λb q z=>by rw[z,hd]at q;cases q
 show{I.ok,I.os,I.bare,{I.base.keep,I.base.slot,λb u e n hx=>?_,I.base.there,λb xs q=>?_,λb u v q=>?_,λb ps q=>?_},I.loc,I.cell,?_,λx c e=>?_,λp hp=>?_,λb v g=>?_,I.len};·have z:=I.base.free b u e n hx;rw[aC<|jl b z];show z
 ·have z:=I.base.zw b xs q;rw[aC (nd b _ z λv l t=>by cases t)];show z
 ·have z:=I.base.uO b u v q;rw[aC (show b≠d fromλt=>hn u v<|t▸q)];show z
 ·let(m,z):=I.base.zx b ps q;show{m,by rw[aC (nd b _ z λv l t=>by cases t)];show z}
 ·rw[aC<|jl _ I.free];show I.free
 ·rw[aC<|jl _<|I.jO x c e];show I.jO x c e
 ·let(a1,a2,a3,a4,a5):=I.pin p hp;show{a1,by rw[aC<|jl _ a2];show a2,a3,a4,a5}
 by_cases hb:b=d;·subst hb;rw[au]at g;cases g;show((I.bE b _ hd).2).j3 (λc v hc q=>q) (λc q=>by rw[aC (nd c _ q λv l z=>by cases z)];show q) λc ys q=>by rw[aC (nd c _ q λv l z=>by cases z)];show q
 rw[aC hb]at g;show(I.bE b v g).j3 (λc v hc q=>q) (λc q=>by rw[aC (nd c _ q λv l z=>by cases z)];show q) λc ys q=>by rw[aC (nd c _ q λv l z=>by cases z)];show q
end
inductive adm(t:TE)(Z:St)(H:Hp)(Q:VK):Prop
 |mk (d:cr) (_:(∀u v,H d≠some (.fR u v))) (_:t Z H λv H'=>∃o u,H' d>.fR o u/\Q v (upd H' d u))
def NI(h:PE X e t):PE X e (adm t):=by ext bi s Z H Q I ht;let(d,hd,ht):=ht;show dk (h bi s Z H _ I ht) λv s1 x H1 I1 r1 zq=>by let(o,u,e,q):=zq;show{x,_,I1.SV e (λu v e=>hd u v<|I.base.uO d u v e),r1,q}
def ItK(d:cr)(o:Go)(u:HO)(kvs:Aal):It:=
 {λi H=>H d>.fR o u/\i<kvs.length,λi H x H'=>H'=H/\∃kv,kvs[i]?>kv/\x=kv.1,λi H=>H d>.fR o u/\kvs.length<=i}
def PH(o:Go)(es:Array Do)(ep:Nat)(kvs:Aal):Prop:=o.ExactDict/\o.data=.dict es ep/\Paired 135 kvs es.toList
def adh{K:Frag}(m:PH o es ep kvs):Turn P w K tg (ItK d o u kvs) [it] it (λi h=>h.IsKeyIter it d i 78 ep) where
 mem:=by simp
 obj:=λi h st b hb=>by
  have e:b=it:=by simpa using hb
  subst e;let(v,e,c,q):=st;show{v,e,λv z=>by rw[q]at z;cases z}
 keep:=λi h h' st k=>by let(v,e,r):=st;show{v,k it 75 v e,r}
 item:=by
  ext X hP hw hK hc i bi s Z H E I hf st hg;let(hd,hi):=hg;have hl:kvs.length=78:=by rw[aQ m.2.2,bj]
  let(f0,f1,f2,f3,f4,f5):=hf it 75;obtain⟨kv,nM⟩:∃kv,kvs[i]?>kv:={_,aq hi};have W7:i<78:=by lia
  let(e,he,r):=Paired.at' m.2.2 nM;have ee:es[i]=e:=by rw[cv,bK W7]at he;show bR he
  show Vx st ((I.bE d _ hd).1) m.2.1 W7 λh' mi sb=>?_;let(v,ev,c,q):=id mi;show{_,9,IZ ev c q 7 {kv.1,H,I.turned (t':=89) (λb o hb e=>(sb.2 b hb).trans e) f0 f1 f3 f4 f5,ee▸r.1,⟨rfl,kv,nM,rfl⟩,mi,λb hb=>(hf b hb).1}}
 done:=by
  ext X hP hw hK hc i bi s Z H E I hf st hg;let(hd,hi):=hg;have hl:kvs.length=78:=by rw[aQ m.2.2,bj]
  let(f0,f1,f2,f3,f4,f5):=hf it 75;show K7 46 st ((I.bE d _ hd).1) m.2.1 ∅ λh' eb=>{9,137}
 self:=λ_ _ _ _ _ st h=>A1 st h
def agQ(P:io)(w:mo)(d:cr)(u:HO)(kvs:Aal):Prop:=(∃l,u=.dK l/\kvs=l.map λp=>(kV p.1,p.2))\/∃l ok ov,u=.ext (DX P w d l ok ov)/\kvs=(l.map λp=>(kV p.1,p.2))++[(ok,ov)]
def Im(rel:KV kvs vs)(hp:Pairs (b4 P w) es vs):Paired 135 (kvs.map λp=>(kV p.1,p.2)) es:=by
 induction hp generalizing kvs with
 |nil=>cases rel;show .nil
 |@cons e kv es vs hk hv _ ih=>
  cases rel with
  |@cons p _ ps _ hr t=>show .cons {uF<|hr.1▸hk,hv▸hr.2}<|ih t
def acF(x:da P w H h d u)(hv:agQ P w d u kvs):(d==zn)=false/\∃o es ep,h.get? d>o/\PH o es ep kvs:=by
 rcases hv with⟨l,rfl,rfl⟩|⟨l,ok,ov,rfl,rfl⟩;·let(__,lo,vs,rel,o,es,ep,ga,hx,hd,__,hp,__):=x;show{lo,o,es,ep,ga,hx,hd,Im rel hp}
 obtain⟨⟨lo,o,es,ep,vs,e,ga,hx,hd,rel,_,hp,_,r1,r2,_⟩,_⟩:=x;show{lo,o,_,ep,ga,hx,hd,?_};rw[wz];show Gr (Im rel hp) ⟨r1,r2⟩
def Nm(hv:s.heap.IsItemsView v d)(ho:s.heap.get? d>o)(hd:o.data=.dict es ep)
  (q:Q (.ref 35) (s\s.heap.push {cls:=.type "dict_itemiterator",data:=.fields #[.none,.bool false,-d,.int 0 0,.int 78 0,.int ep 0,.none,.none]})):f8 77 A (Ps (-v)) Q E s:=by
 let(ov,hov,hcv,hdv):=id hv;show qJ hv.typeIs uU<|bC uU hv.typeIs PySem.F.entry_dict_items_iter ?_ (PySem.F.args_dict_items_iter_1 _);show ae<|ah<|ae<|ae<|cE hov hdv 9 83;show ae<|ae<|ik ho hd<|ae<|kR ho hd ?_;have own:Builtin.Dict_items.ownsTuple "dict_itemiterator"=true:=by decide
 simp only[own,jM];show c9 (ah {_,9,"dict_itemiterator",_,{_,43,9},cB.lookup,?_}) (by simp only[sizeOk,Builtin.Dict_items.ownedTupleFields,aR,aU,bc,gc,bM];lia);simpa[wP,Builtin.Dict_items.ownedTupleFields]using q
inductive adn(t:TS)(D:Ends)(Z:St)(H:Hp):Prop
 |mk (d:cr) (_:(∀u v,H d≠some (.fR u v))) (_:t {D with nx:=λσ' H'=>∃o u,H' d>.fR o u/\D.nx σ' (upd H' d u),rt:=λv H'=>∃o u,H' d>.fR o u/\D.rt v (upd H' d u)} Z H)
def YY{st:xz}(h:PS X st t):PS X st (adn t):=by
 ext bi s Z H D I ht;let(d,hd,ht):=ht;have h0:=λu v e=>hd u v<|I.base.uO d u v e;show iP (h bi s Z H _ I ht) λf s1 q=>?_;cases f with
 |next=>
  obtain⟨σ',H',J,o,u,e,n⟩:=q;show{σ',_,J.SV e h0,n}
 |brk=>show q
 |cont=>show q
 |ret u=>
  obtain⟨v,σ',H',J,r,o,u',e,n⟩:=q;show{v,σ',_,J.SV e h0,r,n}
section
variable{d:cr}{o:Go}{u:HO}{kvs:Aal}
def Jl(Pv:Nat->Aan->Hp->Prop)(hx:kvs.length<dL)(h0:Pv 0 [] H1)(hl:∀i ys H,i<=kvs.length->Pv i ys H->H d>.fR o u/\91<=i)
  (hs:∀(i:Nat)(kv:V×V)(ys:Aan)(H:Hp)(N:Aan->Hp->Prop),kvs[i]?>kv->Pv i ys H->(∀gL H',Pv (i+1) gL H'->N gL H')->
   tt (some kv.1::slotsOf fr Z) H λb H4=>if b=true then te (some kv.1::slotsOf fr Z) H4 103 else N ys H4)
  (hd:∀ys H,Pv kvs.length ys H->∀l,H l=none->R l ys H):BV (ItK d o u kvs) fr tt te Z H1 R:=by
 show{λi m ys H=>m=kvs.length -i/\i<=kvs.length/\Pv i ys H,{kvs.length,75,aF _,h0},?_};ext i m ys H ⟨rfl,hi,p⟩;let(q,hy):=hl i ys H hi p;by_cases b6:i<kvs.length;·show .inr {⟨q,b6⟩,8,?_};ext v H3 ⟨rfl,kv,nM,rfl⟩;show hs i kv ys H3 (λgL H'=>∃m',m'<kvs.length -i/\m'=kvs.length -(i+1)/\i+1<=kvs.length/\Pv (i+1) gL H') nM p λgL H' p'=>{_,8,9,b6,p'}
 have e:i=kvs.length:=by lia
 subst e;show .inl {{q,ao _},8,hd ys H p}
def d9.keep{K:Frag}(h:d9 K H ys rows)(k:∀a xs,aZ K H a xs->aZ K H' a xs):d9 K H' ys rows:=by
 induction h with
 |nil=>show .nil
 |cons hr _ ih=>
  let(a,e,hr):=hr;show .cons {a,e,k _ _ hr} ih
inductive NK:Type
 |cx
 |key (k:Key)
 |tup (ks:List NK)
noncomputable instance:DecidableEq NK:=λa b=>Classical.propDecidable<|a=b
end
section
variable(P:io)(w:mo)
mutual
inductive mf(h:ss):NK->jp->Prop
 |cx:mf h .cx .none
 |key {k:Key} {v:jp}:(b4 P w).is k v=true->mf h (.key k) v
 |tup {ks:List NK} {a:cr} {o:Go} {items:Aak} {n:Nat}:h.get? a>o->o.cls=.type "tuple"->o.data=.seq items n->mJ h ks items.toList->mf h (.tup ks) (-a)
inductive mJ(h:ss):List NK->Aaf->Prop
 |nil:mJ h [] []
 |cons {k:NK} {v:jp} {ks:List NK} {vs:Aaf}:mf h k v->mJ h ks vs->mJ h (k::ks) (v::vs)
end
mutual
def NK.hash:NK->Int
 | .cx=>0xFCA86420
 | .key k=>(b4 P w).hash k
 | .tup ks=>reduceHash<|Builtin.Tuple.tupleHashOf<|NK.hashes ks
def NK.hashes:List NK->List Int
 |[]=>[]
 |k::ks=>NK.hash k::NK.hashes ks
end
mutual
def NK.draws:NK->Nat
 | .cx=>1
 | .key _=>1
 | .tup ks=>NK.pF ks+1
def NK.pF:List NK->Nat
 |[]=>0
 |k::ks=>NK.draws k+NK.pF ks
end
mutual
def NK.deep:NK->Nat
 | .cx=>0
 | .key _=>0
 | .tup ks=>NK.qt ks+1
def NK.qt:List NK->Nat
 |[]=>0
 |k::ks=>max (NK.deep k)<|NK.qt ks
end
end
section
variable{P:io}{w:mo}{A:wf}{E:Aad}{s:fv}
def Ud(q:Q 0xFCA86420 {s with toks:=89+1}):f8 88 A (pyHash .none) Q E s:=by have ty:s.TypeIs .none "NoneType":=9;show ae<|wpAny_cRoomFor_byValue 9<|ae<|i5 ty jU.lookup ?_;show ae<|i5 ty jU.lookup ?_;show ae<|wpAny_callSpecialIfBoundUnlessNone?_slot ty jU<|bC jU ty PySem.F.entry_NoneType_hash (show f8 _ _ (do ret (<-mkInt 0xFCA86420)) _ _ s from wpAny_ret_mkInt ?_)<|PySem.F.args_NoneType_hash_1 _;show ah q
def NK.ZR(ks:List NK):NK.hash P w (.tup ks)=reduceHash (Builtin.Tuple.tupleHashOf<|NK.hashes P w ks):=by rw[NK.hash]
def Xf(hu:A.units<wS)(ho:s.heap.get? a>o)(hc:o.cls=.type "tuple")(hd:o.data=.seq items n)(hi:mJ P w s.heap ks items.toList)
  (ih:∀(A':wf)(k:NK)(v:jp)(t:Nat)(E':Aad)(R:Int->fv->Prop),A'.units<=A.units+4->k∈ks->mf P w s.heap k v->R (NK.hash P w k) {s with toks:=t+NK.draws k}->f8 88 A' (pyHash v) R E' {s with toks:=t})
  (h:Q (NK.hash P w<|.tup ks) {s with toks:=89+NK.draws (.tup ks)}):f8 88 A (pyHash (-a)) Q E s:=by
 have hT:s.TypeIs (-a) "tuple":=⟨o,ho,hc⟩;show ae<|wpAny_cRoomFor_or (.inr hu) ?_;show ae<|i5 hT mh.lookup ?_;show ae<|i5 hT mh.lookup ?_;show ae<|wpAny_callSpecialIfBoundUnlessNone?_slot hT mh<|bC mh hT F.entry_tuple_hash ?_ (F.args_tuple_hash_1 _);change f8 _ _ (Builtin.Tuple.tupleItemsOf (-a)>>=_) _ _ s;show ae<|wpAny_tupleItemsOf ho hd ?_;show ae ?_;rw[<-qd];show jt _
  (λrest(b:Array Int) s'=>∃done left,ks=done++left/\mJ P w s.heap left rest/\b.toList=NK.hashes P w done/\s'={s with toks:=89+NK.pF done})
  _ ?_ ?_ _ _ {[],ks,9,hi,by simp[NK.hashes],by simp[NK.pF]}
 ·ext x rest b s' ⟨done,left,e,hl,hb,rfl⟩;cases hl with
  |@cons k _ DD _ h1 we=>
   have e2:NK.hashes P w (done++[k])=NK.hashes P w done++[NK.hash P w k]:=by
    clear e hb
    induction done with
    |nil=>simp[NK.hashes]
    |cons a r WQ=>simp only[kD,NK.hashes,WQ]
   have e3:NK.pF (done++[k])=NK.pF done+NK.draws k:=by
    clear e hb e2
    induction done with
    |nil=>simp[NK.pF]
    |cons a r WQ=>simp only[kD,NK.pF,WQ];lia
   show ae<|ih _ k x _ _ _ ?_ (by rw[e];simp) h1 (ah {done++[k],DD,by rw[e];simp,we,by simp[hb,e2],by rw[e3,Cp]});change A.units+1<=A.units+4;lia
 ext b s' ⟨done,left,rfl,hl,hb,rfl⟩;cases hl;rw[cy]at h;change f8 _ _ (retInt<|Builtin.Tuple.tupleHashOf b.toList) _ _ _;rw[hb];show wpAny_ret_mkInt ?_;change f8 _ _ (if(decide (-(2:Int)^63<=Builtin.Tuple.tupleHashOf (NK.hashes P w done))&&decide (Builtin.Tuple.tupleHashOf (NK.hashes P w done)<2^63))=true then _ else _) Q E _;rw[NK.ZR,NK.draws]at h;unfold reduceHash at h;by_cases hr:(decide (-(2:Int)^63<=Builtin.Tuple.tupleHashOf (NK.hashes P w done))&&decide (Builtin.Tuple.tupleHashOf (NK.hashes P w done)<2^63))=true;·rw[aL hr];rw[aL hr]at h;show ah (by simpa[Cp]using h)
 rw[az hr];rw[az hr]at h;show ae<|i6<|ah (by simpa[Cp]using h)
mutual
theorem Xg:∀(k:NK)(A:wf)(E:Aad)(s:fv)(v:jp)(Q:Int->fv->Prop),A.units+4*NK.deep k<wS->mf P w s.heap k v->Q (NK.hash P w k) {s with toks:=89+NK.draws k}->f8 88 A (pyHash v) Q E s
 | .cx=>λA E s v Q hu r q=>by cases r;rw[NK.hash,NK.draws]at q;show Ud q
 | .key k=>λA E s v Q hu r q=>by
  cases r with
  |key h=>
   rw[NK.hash,NK.draws]at q;show(b4 P w).pyHash h q
 | .tup ks=>λA E s v Q hu r q=>by
  cases r with
  |tup ho hc hd hi=>
   rw[NK.deep]at hu;show Xf ∅ ho hc hd hi (λA' k v t E' R hA hk r q=>OS ks k hk A' E' {s with toks:=t} v R ∅ r q) q
theorem OS:∀(ks:List NK)(k:NK),k∈ks->∀(A:wf)(E:Aad)(s:fv)(v:jp)(Q:Int->fv->Prop),A.units+4*NK.qt ks<wS->mf P w s.heap k v->Q (NK.hash P w k) {s with toks:=89+NK.draws k}->f8 88 A (pyHash v) Q E s
 |[]=>λk h A E s v Q hu r q=>by cases h
 |k0::ks=>λk h A E s v Q hu r q=>by
  rw[NK.qt]at hu;rcases aJ.mp h with e|h;·rw[e]at r q;show Xg k0 A E s v Q ∅ r q
  show OS ks k h A E s v Q ∅ r q
end
end
section
variable{P:io}{w:mo}
mutual
theorem Ri:∀(k:NK)(n:Nat)(A:wf)(E:Aad)(s:fv)(v:jp)(Q:Bool->fv->Prop),mf P w s.heap k v->NK.deep k<=n->Q true s->f8 88 A (eqIsQuiet n v) Q E s
 | .cx,n=>λA E s v Q r _ q=>by cases r;rw[Ff n rfl];show ah q
 | .key k,n=>λA E s v Q r _ q=>by
  cases r with
  |key h=>
   rw[Ff n<|(b4 P w).byValue _ _ h];show ah q
 | .tup ks,0=>λA E s v Q r hn q=>by rw[NK.deep]at hn;show absurd hn ∅
 | .tup ks,n+1=>λA E s v Q r hn q=>by
  cases r with
  |@tup _ a o items m ho hc hd hi=>
   rw[NK.deep]at hn;have hT:s.TypeIs (-a) "tuple":=⟨o,ho,hc⟩;unfold eqIsQuiet;show ae<|i5 hT F.slot_tuple_eq.lookup ?_;change f8 _ _ (isInstance (-a) (.type "tuple")>>=_) _ _ s;show ae<|iK hT isSubtype_tuple_tuple ?_;simp only[Bool.not_true,gj,i9];show ae<|cR ho hd ?_;show ae ?_;change f8 _ _ (forIn items _ _) _ _ s;rw[<-qd];show jt _ (λrest r s'=>r.1=none/\s'=s/\∃left,mJ P w s.heap left rest/\∀k∈left,k∈ks) _ ?_ ?_ _ _ {9,9,ks,hi,λ_ h=>h}
   ·ext v rest r s' ⟨hr,rfl,left,hl,hm⟩;cases hl with
    |@cons k _ DD _ h1 we=>
     show ae<|La ks k (hm k av) n _ _ _ v _ h1 ∅ ?_;simp only[Bool.not_true,gj,i9];show ah {9,9,DD,we,λk' OM=>hm k'<|aA _ OM}
   ext⟨r1,r2⟩ s' ⟨hr,rfl,_⟩;simp only at hr;subst hr;show ah q
theorem La:∀(ks:List NK)(k:NK),k∈ks->∀(n:Nat)(A:wf)(E:Aad)(s:fv)(v:jp)(Q:Bool->fv->Prop),mf P w s.heap k v->NK.qt ks<=n->Q true s->f8 88 A (eqIsQuiet n v) Q E s
 |[]=>λk h n A E s v Q r hn q=>by cases h
 |k0::ks=>λk h n A E s v Q r hn q=>by
  rw[NK.qt]at hn;rcases aJ.mp h with e|h;·rw[e]at r;show Ri k0 n A E s v Q r ∅ q
  show La ks k h n A E s v Q r ∅ q
end
mutual
def NK.toD:NK->PyData
 | .cx=>.none
 | .key (.inl i)=>.int i
 | .key (.inr z)=>.str z
 | .tup ks=>.tuple<|NK.nZ ks
def NK.nZ:List NK->List PyData
 |[]=>[]
 |k::ks=>NK.toD k::NK.nZ ks
end
mutual
theorem JQ:∀(k:NK){h:ss}{v:jp},mf P w h k v->∃as,Reads h v (NK.toD k) as
 | .cx,h,v,r=>by cases r;rw[NK.toD];show{_,.none}
 | .key (.inl i),h,v,r=>by
  cases r with
  |key q=>
   let(t,rfl):=(show RelV (.int i) v from uF (k:=Sum.inl i) q);rw[NK.toD];show{_,.int i t}
 | .key (.inr z),h,v,r=>by
  cases r with
  |key q=>
   let(t,rfl):=(show RelV (.str z) v from uF (k:=Sum.inr z) q);rw[NK.toD];show{_,.str z t}
 | .tup ks,h,v,r=>by
  cases r with
  |tup ho hc hd hi=>
   let(as,q):=Nv ks hi;rw[NK.toD];show{_,.tuple ho hc hd q}
theorem Nv:∀(ks:List NK){h:ss}{vs:Aaf},mJ P w h ks vs->∃as,ReadsAll h vs (NK.nZ ks) as
 |[],h,vs,r=>by cases r;rw[NK.nZ];show{_,.nil}
 |k::ks,h,vs,r=>by
  cases r with
  |cons r1 r2=>
   let(as,q1):=JQ k r1;let(bs,q2):=Nv ks r2;rw[NK.nZ];show{_,.cons q1 q2}
end
mutual
theorem aa1:∀(x y:NK),PyData.eqv (NK.toD x) (NK.toD y)=true↔x=y
 | .cx,.cx=>by simp[NK.toD,PyData.eqv]
 | .cx,.key (.inl _)=>by simp[NK.toD,PyData.eqv]
 | .cx,.key (.inr _)=>by simp[NK.toD,PyData.eqv]
 | .cx,.tup _=>by simp[NK.toD,PyData.eqv]
 | .key (.inl _),.cx=>by simp[NK.toD,PyData.eqv]
 | .key (.inl i),.key (.inl j)=>by simp[NK.toD,PyData.eqv]
 | .key (.inl _),.key (.inr _)=>by simp[NK.toD,PyData.eqv]
 | .key (.inl _),.tup _=>by simp[NK.toD,PyData.eqv]
 | .key (.inr _),.cx=>by simp[NK.toD,PyData.eqv]
 | .key (.inr _),.key (.inl _)=>by simp[NK.toD,PyData.eqv]
 | .key (.inr a),.key (.inr b)=>by simp[NK.toD,PyData.eqv]
 | .key (.inr _),.tup _=>by simp[NK.toD,PyData.eqv]
 | .tup _,.cx=>by simp[NK.toD,PyData.eqv]
 | .tup _,.key (.inl _)=>by simp[NK.toD,PyData.eqv]
 | .tup _,.key (.inr _)=>by simp[NK.toD,PyData.eqv]
 | .tup xs,.tup ys=>by rw[NK.toD,NK.toD,PyData.eqv,XE xs ys];show{c8 NK.tup,λh=>by injection h}
theorem XE:∀(xs ys:List NK),PyData.eqvAll (NK.nZ xs) (NK.nZ ys)=true↔xs=ys
 |[],[]=>by simp[NK.nZ,PyData.eqvAll]
 |[],_::_=>by simp[NK.nZ,PyData.eqvAll]
 |_::_,[]=>by simp[NK.nZ,PyData.eqvAll]
 |x::xs,y::ys=>by rw[NK.nZ,NK.nZ,PyData.eqvAll,cn,aa1 x y,XE xs ys];simp
end
def F3(h:(b4 P w).is k (-a)=true):False:=by have:=(b4 P w).byValue _ _ h;cases this
def DF(h:(b4 P w).is k .none=true):False:=by
 have:=uF h;cases k with
 |inl i=>let(t,e):=(show∃t,Value.none=Value.int i t from this);cases e
 |inr z=>let(t,e):=(show∃t,Value.none=Value.str z t from this);cases e
mutual
theorem aaW:∀(x y:NK){h:ss}{v:jp},mf P w h x v->mf P w h y v->x=y
 | .cx,y,h,v,r1,r2=>by
  cases r1;cases r2 with
  |cx=>rfl
  |key q=>show(DF q).elim
 | .key k,y,h,v,r1,r2=>by
  cases r1 with
  |key q=>
   cases r2 with
   |cx=>show(DF q).elim
   |key q2=>rw[(b4 P w).inj _ _ _ q q2]
   |tup=>show(F3 q).elim
 | .tup ks,y,h,v,r1,r2=>by
  cases r1 with
  |tup ho hc hd hi=>
   cases r2 with
   |key q=>show(F3 q).elim
   |@tup ks2 _ o2 DH n2 wc tK hd2 Ce=>
    rw[ho]at wc;cases wc;rw[hd]at hd2;injection hd2 with e1 _;subst e1;rw[WO ks ks2 hi Ce]
theorem WO:∀(xs ys:List NK){h:ss}{vs:Aaf},mJ P w h xs vs->mJ P w h ys vs->xs=ys
 |[],ys,h,vs,r1,r2=>by cases r1;cases r2;rfl
 |x::xs,ys,h,vs,r1,r2=>by
  cases r1 with
  |cons a b=>
   cases r2 with
   |@cons y _ ys _ c d=>rw[aaW x y a c,WO xs ys b d]
end
mutual
theorem WI(h h':ss)(k:∀b o,(∃aK n,o.data=.seq aK n)->h.get? b>o->h'.get? b>o):∀(x:NK){v:jp},mf P w h x v->mf P w h' x v
 | .cx,v,r=>by cases r;show .cx
 | .key _,v,r=>by
  cases r with
  |key q=>show .key q
 | .tup ks,v,r=>by
  cases r with
  |tup ho hc hd hi=>show .tup (k _ _ ⟨_,_,hd⟩ ho) hc hd<|RK h h' k ks hi
theorem RK(h h':ss)(k:∀b o,(∃aK n,o.data=.seq aK n)->h.get? b>o->h'.get? b>o):∀(xs:List NK){vs:Aaf},mJ P w h xs vs->mJ P w h' xs vs
 |[],vs,r=>by cases r;show .nil
 |x::xs,vs,r=>by
  cases r with
  |cons a b=>show .cons (WI h h' k x a)<|RK h h' k xs b
end
def afH(P:io)(w:mo)(h:ss)(k:NK)(a:cr):Prop:=mf P w h k (-a)/\(NK.toD k).canLay0=true/\(NK.toD k).depth<=07/\NK.deep k<=07
noncomputable def pj(P:io)(w:mo):HeapKind P w NK where
 is:=afH P w
 hash:=NK.hash P w
 draws:=NK.draws
 room:=λA=>A.units+100<wS
 inj:=λhx hy=>aaW _ _ hx.1 hy.1
 keeps:=λx ho hd hs=>⟨WI _ _ (λb o' n e=>by show(hs.2 b ?_).trans e;ext rfl;rw[ho]at e;cases e;let(__,__,z):=n;rw[hd]at z;cases z) _ x.1,x.2⟩
 pyHash:=λhu hk h=>Xg _ _ _ _ _ _ (by have:=hk.2.2.2;lia) hk.1 h
 eqBool:=λ{A E s x y a b Q} hu hx hy h=>by
  let(as,r1):=JQ x hx.1;let(bs,r2):=JQ y hy.1;have e:PyData.eqv (NK.toD x) (NK.toD y)=decide (x=y):=by rw[dO,aa1,bg]
  have:=SeqAt.eqAt_reads _ _ A s _ _ as bs r1 r2 hx.2.1 hy.2.1 (by have:=hx.2.2.1;have:=Nat.min_le_left (NK.toD x).depth (NK.toD y).depth;lia);rw[e]at this;show this P w E Q h
 quiet:=λhk h=>Ri _ 08 _ _ _ _ _ hk.1 (by have:=hk.2.2.2;lia) h
end
def DN(P:io)(w:mo)(d:cr)(kvs:List 90):ss->Prop:=λh=>(d==zn)=false/\∃xs:List (NK×cr×jp),Paired 66 kvs xs/\kvs.length<=10000000/\
 ∃o es ep,h.get? d>o/\o.ExactDict/\o.data=.dict es ep/\es.toList=xs.map (WF<|pj P w)/\(xs.map (·.1)).Nodup
def Uo(x:DN P w d kvs h):da P w H h d (.ext<|DN P w d kvs):=
 {x,by let(__,__,__,__,o,__,__,q,__):=x;show⟨o,q⟩,λ_ _ zq k=>by let(l,xs,p,n,o,es,ep,q,r):=zq;show{l,xs,p,n,o,es,ep,k _ q,r}}
mutual
def NV(K:Frag)(H:Hp):NK->V->Prop
 | .cx,v=>v=.cx
 | .key k,v=>v=kV k
 | .tup ks,v=>∃a xs,v=-a/\aZ K H a xs/\AO K H ks xs
def AO(K:Frag)(H:Hp):List NK->Aan->Prop
 |[],xs=>xs=[]
 |k::ks,xs=>∃x r,xs=x::r/\NV K H k x/\AO K H ks r
end
section
variable{X:Cx}{bi:Aab}{Z:St}{H:Hp}{s:fv}
mutual
theorem N5(I:Inv X bi Z H s):∀(k:NK)(v:V)(u:jp),NV X.K H k v->RelV v u->mf 81 X.w s.heap k u
 | .cx=>λv u h r=>by rw[NV]at h;subst h;cases(show u=Value.none from r);show .cx
 | .key k=>λv u h r=>by rw[NV]at h;subst h;show .key<|u9 r
 | .tup ks=>λv u h r=>by rw[NV]at h;let(a,xs,rfl,hq,ha):=h;cases r;obtain⟨aK,rv,⟨o,e,c,n,d⟩,_⟩:=I.tuple hq;show .tup e c d<|↑(Li I ks xs aK ha rv)
theorem Li(I:Inv X bi Z H s):∀(ks:List NK)(xs:Aan)(us:Aaf),AO X.K H ks xs->Vals xs us->mJ 81 X.w s.heap ks us
 |[]=>λxs us h r=>by rw[AO]at h;subst h;cases r;show .nil
 |k::ks=>λxs us h r=>by
  rw[AO]at h;let(x,t,rfl,h1,h2):=h;cases r with
  |cons r1 r2=>show .cons (N5 I k x _ h1 r1)<|Li I ks t _ h2 r2
end
def aa8(k:NK):Prop:=(NK.toD k).canLay0=true/\(NK.toD k).depth<=07/\NK.deep k<=07
end
def gm(K:Frag)(H:Hp)(k:NK)(a:cr):Prop:=NV K H k (-a)/\aa8 k
def eP(P:io)(w:mo)(K:Frag)(H:Hp)(a:cr)(kvs:List 90):Prop:=(H a>.ext (DN P w a kvs)\/(kvs=[]/\H a>.dK []))/\∀p∈kvs,gm K H p.1 p.2.1
def valN(kvs:List 90)(k:NK):Aao:=(kvs.find? λp=>decide (p.1=k)).map (·.2.2)
def putN(kvs:List 90)(k:NK)(a:cr)(v:V):List 90:=if(valN kvs k).isSome then kvs.map (λp=>if p.1=k then(p.1,p.2.1,v)else p)else kvs++[(k,a,v)]
def wZ(rel:Paired 66 kvs xs)(k:NK):oj (valN kvs k) ((atKey xs k).map (·.2)):=by
 unfold valN atKey
 induction rel with
 |nil=>show trivial
 |@cons p q ps qs h _ ih=>
  by_cases c:p.1=k;·rw[eX (p:=λp:NK×cr×V=>decide (p.1=k))<|aO c,eX (p:=λx:NK×cr×jp=>decide (x.1=k))<|aO<|h.1.symm.trans c];show h.2.2
  rw[dU (p:=λp:NK×cr×V=>decide (p.1=k)) (λd=>c<|aV d),dU (p:=λx:NK×cr×jp=>decide (x.1=k)) (λd=>c<|h.1.trans<|aV d)];show ih
section
variable{X:Cx}{bi:Aab}{Z:St}{H:Hp}{s:fv}{A:wf}{E:Aad}{a b:cr}{kvs:List (NK×cr×V)}{k:NK}{v:V}
def Inv.DG(I:Inv X bi Z H s)(h:gm X.K H k b):(pj 81 X.w).is s.heap k b:={N5 I k (-b) (-b) h.1 rfl,h.2}
def Inv.rH(I:Inv X bi Z H s)(h:eP 81 X.w X.K H a kvs):(a==zn)=false/\∃xs,Paired 66 kvs xs/\kvs.length<=10000000/\s.heap.DictOfH (pj 81 X.w) a xs:=by
 let(h1,h2):=h;have keys:∀{l:List 90}{xs:List (NK×cr×jp)},Paired 66 l xs->(∀p∈l,gm X.K H p.1 p.2.1)->∀x∈xs,(pj 81 X.w).is s.heap x.1 x.2.1:=λr=>by
  induction r with
  |nil=>ext _ x hx;cases hx
  |@cons p q ps qs h _ ih=>
   ext hk x hx;rcases aJ.mp hx with rfl|hx;·rw[<-h.1,<-h.2.1];show I.DG<|hk p av
   show ih (λp hp=>hk p<|aA _ hp) x hx
 rcases h1 with h1|⟨rfl,h1⟩;·obtain⟨⟨lo,xs,rel,hl,o,es,ep,g,hx,hd,he,nd⟩,_⟩:=(show da 81 X.w H s.heap a (.ext<|DN 81 X.w a kvs)from I.bE a _ h1);show{lo,xs,rel,hl,o,es,ep,g,hx,hd,he,keys rel h2,nd}
 let(__,lo,vs,rel,o,es,ep,g,hx,hd,__,hp,__):=yX I.bE h1;cases rel;have e0:es.toList=[]:=by have:=hp.length;show cc.mp this
 show{lo,[],.nil,aF _,o,es,ep,g,hx,hd,by rw[e0];rfl,λx h=>(by cases h),jx}
def afx(hu:A.units+101<wS)(I:Inv X bi Z H s)(h:eP 81 X.w X.K H a kvs)(hk:gm X.K H k b)(hv:valN kvs k>v)(q:∀w' s',Inv X bi Z H s'->RelV v w'->Q w' s'):f8 82 A (Rs (-a) (-b)) Q E s:=by let(lo,xs,rel,hl,dd):=I.rH h;let(w',hw,kT):=oj.some_of<|hv▸wZ rel k;let(p,hp,oF):=aY.mp hw;show wpAny_getItem_heap (show A.units+1+100<wS by lia) (I.DG hk) dd hp ?_;rw[oF];show q w' _ 28 kT
def agN{Q:Aad}(hu:A.units+101<wS)(I:Inv X bi Z H s)(h:eP 81 X.w X.K H a kvs)(hk:gm X.K H k b)(q:∀s',Inv X bi Z H s'->Q (.bool (valN kvs k).isSome) s'):f8 82 A (wv .In (-b) (-a)) Q E s:=by let(lo,xs,rel,hl,dd):=I.rH h;show wpAny_in_heap (show A.units+1+100<wS by lia) (I.DG hk) lo dd ?_;have e:=(wZ rel k).vC;rw[ji]at e;rw[<-e];show q _ 28
def Z7(hu:A.units+101<wS)(I:Inv X bi Z H s)(h:eP 81 X.w X.K H a kvs)(hk:gm X.K H k b)(q:∀s',Inv X bi Z H s'->Q (.bool<|!(valN kvs k).isSome) s'):f8 82 A (wv .NotIn (-b) (-a)) Q E s:=by let(lo,xs,rel,hl,dd):=I.rH h;show wpAny_notIn_heap (show A.units+1+100<wS by lia) (I.DG hk) lo dd ?_;have e:=(wZ rel k).vC;rw[ji]at e;rw[<-e];show q _ 28
def GI(rel:Paired 66 kvs xs)(rv:RelV v r):Paired 66 (putN kvs k b v) (storedH xs k b r):=by
 have e:=(wZ rel k).vC;rw[ji]at e;unfold putN storedH;rw[e];split
 next hs=>
  clear e hs
  induction rel with
  |nil=>show .nil
  |@cons p q ps qs h _ ih=>
   show .cons ?_ ih;change(if p.1=k then(p.1,p.2.1,v)else p).1=(if q.1=k then(q.1,q.2.1,r)else q).1/\(if p.1=k then(p.1,p.2.1,v)else p).2.1=(if q.1=k then(q.1,q.2.1,r)else q).2.1/\RelV (if p.1=k then(p.1,p.2.1,v)else p).2.2 (if q.1=k then(q.1,q.2.1,r)else q).2.2;by_cases c:p.1=k;·rw[aL c,aL<|h.1.symm.trans c];show{h.1,h.2.1,rv}
   rw[az c,az (λd=>c<|h.1.trans d)];show h
 next=>show Gr rel ⟨rfl,rfl,rv⟩
def Be:(putN kvs k b v).length<=kvs.length+1:=by
 unfold putN;split;·rw[ag];lia
 rw[aU];show ao _
def afv(hu:A.units+101<wS)(I:Inv X bi Z H s)(h:eP 81 X.w X.K H a kvs)(hk:gm X.K H k b)(wd:kvs.length<10000000)(rv:RelV v r)
  (q:∀s',Inv X bi Z (upd H a<|.ext<|DN 81 X.w a<|putN kvs k b v) s'->Q () s'):f8 82 A (setItem (-a) (-b) r) Q E s:=by
 let(lo,xs,rel,hl,dd):=I.rH h;have lx:55<=dL:=by rw[<-rel.length,bM];lia
 show wpAny_setItem_heap (show A.units+1+100<wS by lia) (I.DG hk) dd λh' wk hs=>q _ ?_;let(o,es,ep,g,h2,h3,h4,__,h5):=wk;have lp:=Be (kvs:=kvs) (k:=k) (b:=b) (v:=v);show xa I ?_ hs ⟨o,g⟩ (Uo {lo,_,GI rel rv,8,o,es,ep,g,h2,h3,h4,h5});rcases h.1 with e|⟨_,e⟩<;>rw[e]<;>show True.intro
end
inductive aby(P:io)(w:mo)(K:Frag)(Q:VK)(x:V)(y:V)(H2:Hp):Prop
 |mk a b kvs k v (_:x=-a) (_:y=-b) (_:eP P w K H2 a kvs) (_:gm K H2 k b) (_:valN kvs k>v) (_:Q v H2)
def adz(P:io)(w:mo)(K:Frag)(td ty:TE):TE:=λZ H Q=>td Z H λx H1=>ty Z H1 λy H2=>aby P w K Q x y H2
inductive adW(P:io)(w:mo)(K:Frag)(neg:Bool)(x:V)(y:V)(H:Hp)(Q:VK):Prop
 |mk a b kvs k (_:x=-b) (_:y=-a) (_:eP P w K H a kvs) (_:gm K H k b) (_:Q (.bl (if neg then !(valN kvs k).isSome else(valN kvs k).isSome)) H)
inductive abH(P:io)(w:mo)(K:Frag)(D:Ends)(Z:St)(v:V)(x:V)(y:V)(H3:Hp):Prop
 |mk a b kvs k (_:x=-a) (_:y=-b) (_:eP P w K H3 a kvs) (_:gm K H3 k b) (_:kvs.length<10000000) (_:D.nx Z (upd H3 a<|.ext<|DN P w a<|putN kvs k b v))
def adP(P:io)(w:mo)(K:Frag)(td ty tv:TE):TS:=λD Z H=>tv Z H λv H1=>td Z H1 λx H2=>ty Z H2 λy H3=>abH P w K D Z v x y H3
section
variable{X:Cx}{o i value:xL}{pos pos':GM}{td ty tv:TE}
def afT(I:Inv X bi Z H s)(h:eP 81 X.w X.K H a kvs):s.TypeIs (-a) "dict":=by let(__,__,__,__,o,__,__,g,hx,__):=I.rH h;show{o,g,hx.1}
def Y3(hu:X.A.units+101<wS)(ho:PE X o td)(hi:PE X i ty)(hs:aaq i):PE X (.Subscript o i pos) (adz 81 X.w X.K td ty):=by ext bi s Z H Q I h;show QV PySem.F.slot_dict_getitem.lookup hs (dk (ho bi s Z H _ I h) λu s1 x H1 I1 rx q1=>dk (hi bi s1 Z H1 _ I1 q1) λiv s2 y H2 I2 ry ahs=>?_);let(a,b,kvs,k,v,ex,ey,g,hk,hv,q2):=ahs;subst ex ey;obtain rfl:u=Value.ref a:=rx;obtain rfl:iv=Value.ref b:=ry;show{afT I2 g,afx hu I2 g hk hv λw' s3 I3 kT=>⟨v,H2,I3,kT,q2⟩}
def aec(hu:X.A.units+101<wS):je X (wv .In) (adW 81 X.w X.K false):=by ext bi s Z H x y v u Q I rx ry h;let(a,b,kvs,k,rfl,rfl,g,hk,q):=h;cases rx;cases ry;show agN hu I g hk λs' I'=>{.bl _,H,I',9,q}
def VR(hu:X.A.units+101<wS):je X (wv .NotIn) (adW 81 X.w X.K true):=by ext bi s Z H x y v u Q I rx ry h;let(a,b,kvs,k,rfl,rfl,g,hk,q):=h;cases rx;cases ry;show Z7 hu I g hk λs' I'=>{.bl _,H,I',9,q}
def xr(hu:X.A.units+101<wS)(ho:PE X o td)(hi:PE X i ty)(hv:PE X value tv)(hs:EQ value (some<|.Subscript o i pos') pos.line X.env=pure false):
  PS X (.Assign [.Subscript o i pos'] value pos) (adP 81 X.w X.K td ty tv):=by
 ext bi s Z H D I h;show zp (dk (hv bi s Z H _ I h) λr s1 v H1 I1 rv q1=>dk (ho bi s1 Z H1 _ I1 q1) λu s2 x H2 I2 rx q2=>dk (hi bi s2 Z H2 _ I2 q2) λiv s3 y H3 I3 ry ahr=>?_) hs;let(a,b,kvs,k,ex,ey,g,hk,hl,q):=ahr;subst ex ey;obtain rfl:u=Value.ref a:=rx;obtain rfl:iv=Value.ref b:=ry;show afv hu I3 g hk hl rv λs4 I4=>⟨Z,_,I4,q⟩
end
def range_any(bs:List Bool):((List.range bs.length).any λi=>(bs[i]?).getD false)=bs.any id:=by
 rw[dO,dP,dP];constructor;·ext⟨i,hi,h⟩;have hl:=bO.mp hi;rw[aq hl]at h;show{_,jz hl,h}
 ext⟨b,hb,h⟩;let(i,hi):=eF.mp hb;show{i,bO.mpr (ar.mp hi).1,hi▸h}
section
variable{X:Cx}
def AL(hc:X.calm=true):fB X (.builtin "any") (λxs H Q=>∃(a:cr)(bs:List Bool),xs=[-a]/\aT X.K H a (bs.map V.bl)/\Q (.bl<|bs.any id) H):=by
 ext bi s Z H xs us Q I r h;let(a,bs,rfl,ha,q):=h;let(u,rfl,ru):=iw r;cases ru;let(aK,rv,p,hz):=I.list ha;have hl:aK.length=bs.length:=by have:=rv.length;simpa using this.symm
 have jl:a≠35:=by let(o,n,e,__):=id p;show aD<|aE e
 show call_any_walk<|jX p.isList ?_;show{35,_,_,aK.toArray.size,_,_,λi=>(bs[i]?).getD false,9,Jv (show X.A.in1.handled=none from I.ok.hd hc) 35 a jl aK.toArray,{{_,43,9,9},p.isList.at λo e=>af _ e},?_,λh' tk kp=>?_}
 ·ext i v s' Q' E' hP hQ;have Xl:aK[i]?>v:=by simpa using hP
  have hi:i<bs.length:=by rw[<-hl];show(ar.mp Xl).1
  let(u,hu,ru):=rv.get (by rw[aN,aq hi];rfl);rw[Xl]at hu;cases hu;cases ru;show fW ?_;have e2:(bs[i]?).getD false=bs[i]:=by rw[aq hi];rfl
  rw[<-e2];show hQ
 show{.bl<|bs.any id,H,I.kept λb o e=>kp b o (↑(aD<|aE e))<|af _ e,?_,q};change Value.bool _=Value.bool _;rw[aR,hl,range_any]
def X9(hc:X.calm=true):fB X (.builtin "min") (λxs H Q=>∃(a:cr)(ns:List Int),xs=[-a]/\aT X.K H a (ns.map V.int)/\0<ns.length/\∀m,m∈ns->(∀n∈ns,m<=n)->Q (.int m) H):=by
 ext bi s Z H xs us Q I r h;let(a,ns,rfl,ha,hn,q):=h;let(u,rfl,ru):=iw r;cases ru;let(aK,rv,p,hz):=I.list ha;have hi:=ints_of rv;let(xs,e):=hi.allInts.items;have R4:ns=xs.toList.map (·.1):=by rw[<-hi.numsOf,<-nums_intItems,<-e]
 have hsz:0<xs.size:=by have h3:=hn;rw[R4,ag,bj]at h3;show h3
 have hl:=p.isList;rw[e]at hl;show min_intList (show X.A.handled=none from I.ok.hd hc) hl hsz λv h' tk hv hk=>?_;let(t,rfl):=intItems_at hv;let(h1,h2):=argBest_lt (numAt xs)<|xs.size -1;show{.int _,H,I.kept hk,⟨t,rfl⟩,q _ ?_ λb hb=>?_};·rw[R4,numAt_eq];show getD_mem (by rw[ag,bj];lia)
 rw[R4]at hb;let(j,hj,rfl):=mem_getD hb;rw[ag,bj]at hj;rw[<-numAt_eq];show h2 j ∅
def UC:fB X (.type "dict") (λxs H Q=>∃a kvs,xs=[-a]/\Rd H a (.dK kvs)/\∀p,H p=none->Q (-p) (upd H p<|.dK kvs)):=by ext bi s Z H xs us Q I r h;let(a,kvs,rfl,ha,q):=h;let(u,rfl,ru):=iw r;cases ru;show Z9 I ha λp s' hp I'=>{-p,_,I',9,q p hp}
inductive abO(x:V)(vs:Aan)(H:Hp)(Q:VK):Prop
 |mk (a:cr) (k:Key) (z:V) (kvs:List (Key×V)) (_:x=-a) (_:vs=[kV k,z]) (_:H a>.dK kvs) (_:kvs.length<dL) (_:(∀v,j0 kvs k>v->Q v H)) (_:(j0 kvs k=none->Q z (upd H a<|.dK<|putK kvs k z)))
def Lm:Pz X "dict.setdefault" abO:=by
 ext bi s Z H x vs v us Q I rx rv h;let(a,k,z,kvs,rfl,rfl,hH,hl,q1,q2):=h;cases rx;let(u1,u2,rfl,r1,r2):=rv.two;let(zz,hd,ws,rel,dd):=yX I.bE hH;show pG hZ dd.typeIs ub (tP _ _ _) (kt_meets_setdefault (b4 81 X.w) a (u9 r1) hd u2) {ws,dd,(by rw[<-rel.length];show zz),λv hv=>?_,λhn h' wk hs=>?_}
 ·have:=rel.val k;rw[hv]at this;cases e:j0 kvs k with
  |none=>rw[e]at this;show this.elim
  |some y=>
   rw[e]at this;show{y,H,28,this,q1 y e}
 have:=rel.val k;rw[hn]at this;cases e:j0 kvs k with
 |some y=>rw[e]at this;show this.elim
 |none=>
  show{z,_,xa I (hH▸True.intro) hs (let⟨o,_,_,ho,_⟩:=wk;⟨o,ho⟩)<|AK (by have:=zI kvs k z;lia) hd (rel.put k r2) wk,r2,q2 e}
variable{K:Frag}
def GJ{tg l:xL}{tl:TE}(hl:PE X l tl)(h:X.K=K:=by rfl):PI X tg l (TY K tl):=h▸cN hl
def y4(hc:X.calm=true)(h:X.K=K:=by rfl):fB X (.builtin "any") (λxs H Q=>∃(a:cr)(bs:List Bool),xs=[-a]/\aT K H a (bs.map V.bl)/\Q (.bl<|bs.any id) H):=h▸AL hc
end
end L2
namespace L2
open PySem PySem.Spec PyProof.Rows
theorem D9(n:Nat):∀(b:List (pi×Ch))(acc:List (pi×cr)),(∀y∈b,y.2≠ .cell)->cellsFrom n b acc=acc
 |[]=>λ_ _=>9
 |(y,k)::r=>λacc h=>by
  have hk:(k==NameKind.cell)=false:=by simpa using h (y,k) av
  unfold cellsFrom;rw[hk];show D9 n r acc λz hz=>h z<|aA _ hz
theorem Df(hp:ss):∀(b:List (pi×Ch)),(∀y∈b,y.2≠ .cell)->pushCells hp b=hp
 |[],_=>rfl
 |(y,k)::r,h=>by
  have hk:(k==NameKind.cell)=false:=by simpa using h (y,k) av
  unfold pushCells;rw[hk];show Df hp r λz hz=>h z<|aA _ hz
theorem Ck(n:Nat)(x:pi)(b:List (pi×Ch))(acc:List (pi×cr))(hb:∀y∈b,y.2≠ .cell):∀(a:List (pi×Ch)),(∀y∈a,y.2≠ .cell)->cellsFrom n (a++(x,.cell)::b) acc=(x,n)::acc
 |[],_=>by change(if(NameKind.cell==NameKind.cell)=true then cellsFrom (n+1) b ((x,n)::acc)else cellsFrom n b acc)=_;show D9 _ b _ hb
 |(y,k)::r,h=>by
  have hk:(k==NameKind.cell)=false:=by simpa using h (y,k) av
  change(if(k==NameKind.cell)=true then cellsFrom (n+1) (r++(x,.cell)::b) ((y,n)::acc)else cellsFrom n (r++(x,.cell)::b) acc)=_;rw[hk];show Ck n x b acc hb r λz hz=>h z<|aA _ hz
theorem B7(hp:ss)(x:pi)(b:List (pi×Ch))(hb:∀y∈b,y.2≠ .cell):∀(a:List (pi×Ch)),(∀y∈a,y.2≠ .cell)->pushCells hp (a++(x,.cell)::b)=hp.push {cls:=.type "cell",data:=.cell none}
 |[],_=>by change(if(NameKind.cell==NameKind.cell)=true then pushCells (hp.push {cls:=.type "cell",data:=.cell none}) b else pushCells hp b)=_;show Df _ b hb
 |(y,k)::r,h=>by
  have hk:(k==NameKind.cell)=false:=by simpa using h (y,k) av
  change(if(k==NameKind.cell)=true then pushCells (hp.push {cls:=.type "cell",data:=.cell none}) (r++(x,.cell)::b)else pushCells hp (r++(x,.cell)::b))=_;rw[hk];show B7 hp x b hb r λz hz=>h z<|aA _ hz
section
variable{M:Model}{A:wf}{E:Aad}{s:fv}
def vQ{scope:AC}{globals:cr}{cl:List (pi×cr)}{Ev:pi}{outer:Uf}{x:pi}{Q:Uf->fv->Prop}
  (hx:∃a b,scope.names=a++(x,.cell)::b/\(∀y∈a,y.2≠ .cell)/\∀y∈b,y.2≠ .cell)
  (hQ:∀h',h'.Ns 35 (λ_=>none)->h'.IsCell (35+1) none->(∀b o,s.heap.get? b>o->h'.get? b>o)->
   Q (newEnv scope 35 globals ((x,35+1)::cl) Ev none .none (some outer) PP) (s\(h',89))):
  f8 M A (Wp scope globals cl [] Ev none .none<|some outer) Q E s:=by
 let(a,b,e,ha,hb):=hx;simp only[Wp,Em,jM];show ae<|wpAny_alloc ?_;show ae<|wpAny_layCells _ (λname kind cells=>by cases hkc:kind==NameKind.cell<;>simp[hkc]) _ _ _ _ ?_;rw[e,Ck _ x b _ hb a ha,B7 _ x b hb a ha,AV];show ae<|ah 83;rw[show((s\s.heap.push {cls:=.type "dict",data:=.dict #[]}):fv).heap.objs.size=35+1 from cV ..];show hQ _ ((Heap.Ns.new s.heap<|.type "dict").keeps λb o e=>af _ e) {_,by rw[<-cV s.heap {cls:=.type "dict",data:=.dict #[]}];show aH _ rfl,9} λb o e=>af _<|af _ e
structure qz(X:Cx)(scope:AC)(x:pi)(fs:Aag)(fr:List Nat):Prop where
 kind:scope.kind=.function
 loc:scope.names.lookup x>.cell
 names:∀y∈scope.names,y.2=.local->scope.names.lookup y.1>.local
 one:∃a b,scope.names=a++(x,.cell)::b/\(∀y∈a,y.2≠ .cell)/\∀y∈b,y.2≠ .cell
 free:∀n∈frees scope,X.env.kindOf n>.cell/\scope.names.lookup n>.free
 nd:(x::fs).Nodup
 len:fr.length=fs.length
 slots:∀(j:Nat)(y:pi)(k:Nat),fs[j]?>y->fr[j]?>k->X.N[k]?>y/\y∈frees scope
def qz.only{X:Cx}{scope:AC}{x:pi}{fs:Aag}{fr:List Nat}(S:qz X scope x fs fr)(y:pi)(h:(y,NameKind.cell)∈scope.names):y=x:=by
 let(a,b,e,ha,hb):=S.one;rw[e]at h;rcases bG.mp h with h|h;·show absurd rfl (ha _ h)
 rcases aJ.mp h with h|h;·show c8 Prod.fst h
 show absurd rfl (hb _ h)
def Nu{env:Uf}{scope:AC}{x:pi}(h:scope.names.lookup x>.cell):(No scope env).names.lookup x>.cell:=by rw[mw,h];rfl
end
abbrev vH(X:Cx)(N':Aag)(scope:AC)(x:pi)(C:cr)(s:fv)(H:Hp)(ex:Aai):Cx:=
 {X with N:=N',aab:=s,aaf:=H,env:=compEnvC scope ((x,C+1)::m8 scope X.env) C X.env,outer:=X.stack,stack:=X.stack,ex:=ex,fn:=λy=>y==x,pn:=[],xe:=λ_ _=>False}
section
variable{X:Cx}
def aai{bi:Aab}{Z:St}{H:Hp}{s:fv}{scope:AC}{x:pi}{fs:Aag}{fr:List Nat}{D:cr}{fp:Aai}{s2:fv}(S:qz X scope x fs fr)(I2:Inv X bi Z H s2)(I3:Inv X bi Z H s)
  (hD:D=97) (hs:35=D+1) (b6:∀b∈fp,b<D) (f2:∀b∈fp,oo X bi H b):(vH X (x::fs) scope x 35 s H<|D::fp).Ok:=by
 have oH:=λn hn=>I3.ok.has n<|.inl (S.free n hn).1;have sub:∀{y:pi}{c:cr},(m8 scope X.env).lookup y>c->X.env.cells.lookup y>c:=λh=>((jB oH).mp h).2;have low:∀{y:pi}{c:cr},(m8 scope X.env).lookup y>c->c<35:=λh=>by let(v,q):=I3.cell _ _<|sub h;show q.lt
 have two:∀{y:pi}{c:cr},((x,35+1)::m8 scope X.env).lookup y>c->(y=x/\c=35+1)\/(m8 scope X.env).lookup y>c:=λ{y c} h=>by
  rw[jy]at h;cases e:(y==x)with
  |true=>rw[e]at h;show .inl {eU e,(bR h).symm}
  |false=>rw[e]at h;show .inr h
 show{I3.ok.mod,S.kind,I3.ok.glob,I3.ok.blt,ao _,λa b c h1 h2=>?_,λy hy=>?_,(λy c h hl=>?_),I3.ok.hd,I3.ok.frames,.inl rfl,23,I3.bs,aS I3.ok.y9 I3.sz,λb o e hb=>?_,λb hb hf=>?_,I3.stack,I3.ES}
 ·rcases two h1 with⟨e1,e2⟩|h1'
  ·rcases two h2 with⟨e3,_⟩|OV;·rw[e1,e3]
   show absurd (low OV) (by rw[e2];show lB.mpr<|eI _)
  rcases two h2 with⟨_,e2⟩|OV;·show absurd (low h1') (by rw[e2];show lB.mpr<|eI _)
  show I3.ok.inj a b c (sub h1')<|sub OV
 ·by_cases Oy:y=x;·subst Oy;show{_,List.lookup_cons_self}
  have q:(No scope X.env).names.lookup y>.cell\/(No scope X.env).names.lookup y>.free:=hy;have nf:scope.names.lookup y>.free:=by
   rw[mw]at q;cases e:scope.names.lookup y with
   |none=>rw[e]at q;simp at q
   |some k=>
    rw[e]at q;cases k with
    |free=>rfl
    |cell=>
     have hm:(y,NameKind.cell)∈scope.names:=by have:=kN.mp e;let(l1,l2,z,__):=this;rw[z];simp
     show absurd (S.only y hm) Oy
    |_=>simp at q
  have hm:y∈frees scope:=by let(l1,l2,z,__):=kN.mp nf;unfold frees;rw[z];simp
  let(c,hc):=oH y hm;show{c,?_};change((x,35+1)::m8 scope X.env).lookup y>c;rw[jy,dq.mpr Oy];show(jB oH).mpr ⟨hm,hc⟩
 ·have e:=eU h;subst e;rcases two hl with⟨_,e2⟩|h1';·rw[e2];show eI _
  show absurd (S.loc.symm.trans (S.free y ((jB oH).mp h1').1).2) 75
 ·rcases aJ.mp hb with rfl|hb
  ·show{λz=>?_,λy c h z=>?_};·show absurd (hs.symm.trans z.symm:b+1=b) (rR b)
   rcases two h with⟨_,e2⟩|h;·rw[e2,hs]at z;show absurd (z:b+1+1=b)<|bA<|aX (cI _)<|eI _
   let(v,q):=I2.cell y c<|sub h;have:=q.lt;rw[z,hD]at this;show absurd this<|cJ _
  show{λz=>?_,λy c h=>?_};·have q:=b7<|b6 b hb;rw[z]at q;show absurd q (by change ¬35<D+1;rw[hs];show cJ _)
  rcases two h with⟨_,e2⟩|h;·ext z;have q:=b6 b hb;rw[e2,hs]at z;rw[<-z]at q;show absurd (show D+1+1<D from q)<|lB.mpr<|aS (eI _)<|eI _
  show(f2 b hb).2.2.2.2.1 y c<|sub h
 ·have gf:=aE e;have h1:=I2.ok.y9;rcases aJ.mp hb with rfl|hb;·rw[hD]at gf;show absurd (aX gf<|aS h1 I2.sz) (cJ _)
  rcases(f2 b hb).2.2.2.1 with z|z;·show I2.ok.Bm b o e z
  show absurd (aX gf<|aS h1 z)<|cJ _
 have hf':=hf;rcases aJ.mp (I2.Hw b hf')with z|z
 ·rcases aJ.mp hb with rfl|hb;·have:=I2.lt;rw[<-z,hD]at this;show absurd this (cJ _)
  show(f2 b hb).2.1 z
 rcases aJ.mp hb with rfl|hb;·show I2.Zj (jG hD.symm) z
 show(f2 b hb).2.2.1 z
def X3{bi:Aab}{Z:St}{H:Hp}{s:fv}{scope:AC}{x:pi}{fs:Aag}{fr:List Nat}{ex:Aai}{h4:ss}{m:Aac}{t:Nat}(S:qz X scope x fs fr)(I3:Inv X bi Z H s)
  (ok:(vH X (x::fs) scope x 35 s H ex).Ok) (hn:h4.Ns 35 m) (Xd:h4.IsCell (35+1) none) (old:∀b o,s.heap.get? b>o->h4.get? b>o):
  Inv (vH X (x::fs) scope x 35 s H ex) [] (none::slotsOf fr Z) H (s\(h4,t)):=by
 have oH:=λn hn=>I3.ok.has n<|.inl (S.free n hn).1;have sub:∀{y:pi}{c:cr},(m8 scope X.env).lookup y>c->X.env.cells.lookup y>c:=λh=>((jB oH).mp h).2;have two:∀{y:pi}{c:cr},((x,35+1)::m8 scope X.env).lookup y>c->(y=x/\c=35+1)\/(m8 scope X.env).lookup y>c:=λ{y c} h=>by
  rw[jy]at h;cases e:(y==x)with
  |true=>rw[e]at h;show .inl {eU e,(bR h).symm}
  |false=>rw[e]at h;show .inr h
 show{ok,9,I3.bare,Un.kept old,{m,hn,λi y v e1 e2 e3=>?_},λy c h=>?_,I3.bE.fresh<|ao _,λy c h=>?_,λp hp=>absurd hp 75,I3.bE.kept old,?_}
 ·cases i with
  |zero=>
   have sj:(none:Aao)>v:=by simpa using e2
   cases sj
  |succ j=>
   have sj:(slotsOf fr Z)[j]?>some v:=by simpa using e2
   unfold slotsOf at sj;rw[aN]at sj;cases hk:fr[j]? with
   |none=>rw[hk]at sj;cases sj
   |some k=>
    rw[hk]at sj;have e4:(Z[k]?).getD none>v:=by simpa using sj
    have e5:Z[k]?>some v:=by
     cases q:Z[k]? with
     |none=>rw[q]at e4;cases e4
     |some z=>rw[q]at e4;show c8 some e4
    let(n1,n2):=S.slots j y k (↑e1) hk;let(m0,__,hl):=I3.loc;let(u,ru,l):=hl k y v n1 e5<|.inr<|.inl (S.free y n2).1;have kc:=(S.free y n2).1;rcases l with⟨l,_⟩|⟨_,c,hc,cl⟩;·rw[kc]at l;cases l
    show{u,ru,.inr {.inl ?_,c,?_,va old cl}};rotate_left;·have Oy:y≠x:=λz=>absurd (S.loc.symm.trans<|z▸(S.free y n2).2) 75;change((x,35+1)::m8 scope X.env).lookup y>c;rw[jy,dq.mpr Oy];show(jB oH).mpr ⟨n2,hc⟩
    change(No scope X.env).names.lookup y>.cell;rw[mw,(S.free y n2).2,I3.ok.kind,kc];rfl
 ·rcases two h with⟨_,e2⟩|h;·rw[e2];show⟨none,Xd⟩
  let(v,z):=I3.cell y c<|sub h;show{v,va old z}
 ·rcases two h with⟨_,e2⟩|h;·rw[e2];show I3.bE.fresh (eI _)
  show I3.jO y c<|sub h
 change(none::slotsOf fr Z).length=(x::fs).length;simp[slotsOf,S.len]
def afA{scope:AC}{x:pi}{fs:Aag}{fr:List Nat}(S:qz X scope x fs fr):PN X scope (x::fs) (λC=>(x,C+1)::m8 scope X.env) (λy=>y==x) 1 fr:=
 {S.kind,S.names,λn hn=>(S.free n hn).1,λbi Z s2 H2 fp g3 Q I2 I3 hC b6 f2 q=>vQ S.one λh4 ZH Xd Dr=>
  have ok:=aai (s:=s2\g3) (D:=97) (fp:=fp) S I2 I3 rfl hC b6 f2
  q h4 _ ok (X3 S I3 ok ZH Xd Dr) Dr}
def Ld{elt iter:xL}{x:pi}{px:GM}{ifs:List xL}{scope:AC}{pos:GM}{wi:TI}{fs:Aag}{fr:List Nat}{tt:TT}{te:TE}(hc:X.calm=true)(S:qz X scope x fs fr)(hi:PI X 27 iter wi)
  (ht:∀C s H ex,CT (vH X (x::fs) scope x C s H ex) ifs tt) (he:∀C s H ex,PE (vH X (x::fs) scope x C s H ex) elt te) (hs:∀z,wn iter X.env z=pure z:=by intro _;rfl):
  PE X (.ListComp elt [{27,iter,ifs,0}] scope pos) (sP wi fr tt te):=by
 rw[CL];show Le hc (afA S) hi (λC s H ex=>jw (i:=0) S.nd 9 (Or.inr<|Nu S.loc)<|.inl<|kr x) ht he hs
def Y5{elt iter:xL}{x:pi}{px:GM}{scope:AC}{pos:GM}{wi:TI}{fs:Aag}{fr:List Nat}{te:TE}(hc:X.calm=true)(S:qz X scope x fs fr)(hi:PI X 27 iter wi)
  (he:∀C s H ex,PE (vH X (x::fs) scope x C s H ex) elt te) (hs:∀z,wn iter X.env z=pure z:=by intro _;rfl):
  PE X (.ListComp elt [{27,iter,[],0}] scope pos) (sP wi fr EO te):=Ld hc S hi (λ_ _ _ _=>Jk) he hs
def Tp{elt iter c:xL}{x:pi}{px:GM}{scope:AC}{pos:GM}{wi:TI}{fs:Aag}{fr:List Nat}{tc:TT}{te:TE}(hc:X.calm=true)(S:qz X scope x fs fr)(hi:PI X 27 iter wi)
  (ht:∀C s H ex,PT (vH X (x::fs) scope x C s H ex) c tc) (he:∀C s H ex,PE (vH X (x::fs) scope x C s H ex) elt te) (hs:∀z,wn iter X.env z=pure z:=by intro _;rfl):
  PE X (.ListComp elt [{27,iter,[c],0}] scope pos) (sP wi fr tc te):=Ld hc S hi (λC s H ex=>D6<|ht C s H ex) he hs
def XZ(osc:AC)(N:Aag)(scope:AC)(x:pi)(fs:Aag)(fr:List Nat):Bool:=
 scope.kind==.function&&scope.names.lookup x==some .cell&&scope.names.all (λy=>y.2 !=.local||scope.names.lookup y.1==some .local)&&(scope.names.filter λy=>y.2==.cell)==[(x,.cell)]&&
  (frees scope).all (λn=>osc.names.lookup n==some .cell&&scope.names.lookup n==some .free)&&decide ((x::fs).Nodup)&&fr.length==fs.length&&
  (List.range fs.length).all (λj=>match fs[j]?,fr[j]? with|some y,some k=>N[k]?==some y&&decide (y∈frees scope)|_,_=>false)
theorem NQ{x:pi}:∀{l:List (pi×Ch)},(l.filter λy=>y.2==.cell)=[(x,.cell)]->∃a b,l=a++(x,.cell)::b/\(∀y∈a,y.2≠ .cell)/\∀y∈b,y.2≠ .cell
 |[],h=>by cases h
 |(y,k)::r,h=>by
  rw[bZ]at h;cases hk:(k==NameKind.cell)with
  |true=>
   simp only[hk,jM]at h;let(h1,h2):=List.cons.inj h;show{[],r,by rw[<-h1];rfl,75,λz hz e=>?_};have:z∈r.filter λy=>y.2==.cell:=bX.mpr {hz,by rw[e];rfl};rw[h2]at this;cases this
  |false=>
   simp only[hk,gj,i9]at h;let(a,b,e,ha,hb):=NQ h;show{(y,k)::a,b,by rw[e];rfl,λz hz=>?_,hb};rcases aJ.mp hz with rfl|hz;·exactλe=>by rw[show k=.cell from e]at hk;cases hk
   show ha z hz
def Jm{scope:AC}{x:pi}{fs:Aag}{fr:List Nat}(h:XZ X.env.scope X.N scope x fs fr=true:=by kernel_rfl):qz X scope x fs fr:=by
 unfold XZ at h;simp only[cn]at h;obtain⟨⟨⟨⟨⟨⟨⟨h1,h2⟩,h3⟩,h4⟩,h5⟩,h6⟩,h7⟩,h8⟩:=h;show{eU h1,eU h2,λy hy e=>?_,NQ<|eU h4,λn hn=>?_,aV h6,eU h7,λj y k e1 e2=>?_};·have:=b9.mp h3 y hy;rw[e]at this;simpa using this
 ·have:=b9.mp h5 n hn;rw[cn]at this;show{eU this.1,eU this.2}
 have:=b9.mp h8 j<|bO.mpr (ar.mp e1).1;rw[e1,e2]at this;simp only[cn]at this;show{eU this.1,aV this.2}
end
end L2
namespace L2
open PySem PySem.Spec PyProof.Rows pK
section
variable{prog:io}{w:mo}{κ:Type}[DecidableEq κ]{kd:HeapKind prog w κ}{A:wf}{E:Aad}{s:fv}
def Hy(hu:kd.room A)(zK:kd.is s.heap k a)(hm:s.heap.DictOfH kd d xs)
  (h1:∀p,atKey xs k>p->Q p.2 {s with toks:=89+kd.draws k})
  (h2:atKey xs k=none->∀h',h'.DictOfH kd d (storedH xs k a v)->Heap.SameBut d s.heap h'->Q v {s with heap:=h',toks:=89+kd.draws k}) (hsz:55<=dL):
  f8 77 A (dictSetDefault d (-a) v) Q E s:=by
 let(o,es,ep,ho,hc,hd,he,his,hn):=hm;unfold dictSetDefault
 try with_reducible show bP ?_
 have lz:=yI he;show ae<|kd.pyHash hu zK<|ae<|wpAny_dictFind_heap hu zK ho hd he his hn (λCd=>?_) (λj p hj=>?_)
 ·have nk:=not_mem_keys_of_get Cd;have e0:=atKey_none_of_get Cd;have e1:=storedH_new e0;show ae<|i6<|ae<|wpAny_updateDictKeys ho hd<|ah<|h2 e0 _ {_,_,ep+1,cD _ ho<|Obj.isFreed_of_dict<|BJ hd _,hc.mapDictKeys _,BJ hd _,?_,?_,?_}<|bS ..;·rw[e1,ba,<-he];simp[WF]
  ·rw[e1];ext x hx;rcases bG.mp hx with q|q;·show kd.keeps (his x q) ho hd (bS ..)
   rw[aw.mp q];show kd.keeps zK ho hd<|bS ..
  rw[e1,ba];show gx.mpr {hn,75,λx hx y hy e=>?_};have WU:y=k:=by simpa using hy
  show nk (by rw[<-WU,<-e];show hx)
 show ae<|ik ho hd ?_;rw[PySem.entry_at he j,hj];show ae<|i6<|ah<|h1 p<|atKey_of_get hn hj
def Fe(kd:HeapKind prog w κ)(d a:cr)(hd:(d==zn)=false)(z:jp):
  MeetsIn prog w (Builtin.«dict.setdefault» {[-d,-a,z],[]}) (λA R s=>kd.room A.in1/\∃k xs,kd.is s.heap k a/\s.heap.DictOfH kd d xs/\55<=dL/\
   (∀p,atKey xs k>p->R (.ok<|.ret p.2) {s with toks:=89+kd.draws k})/\
   (atKey xs k=none->∀h',h'.DictOfH kd d (storedH xs k a z)->Heap.SameBut d s.heap h'->R (.ok<|.ret z) {s with heap:=h',toks:=89+kd.draws k})):=
 .of_wp λA R s hx=>by let(hu,k,xs,zK,hm,hz,h1,h2):=hx;unfold Builtin.«dict.setdefault»;show ae ?_;unfold Builtin.Dict.keyAndDefault;show ae<|iO hm.typeIs ?_;change f8 _ _ (pure (d,Value.ref a,some z)) _ _ s;show ah ?_;change f8 _ _ (if(d==zn)=true then _ else(dictSetDefault d (-a) z>>=_)) _ _ s;rw[az (by rw[hd];show bJ)];show ae<|Hy hu zK hm (λp hp=>ah {_,9,h1 p hp}) (λhn h' m' b'=>ah {z,9,h2 hn h' m' b'}) hz
def acq(hd:(d==zn)=false)(ho:s.heap.get? d>o)(hx:o.ExactDict)(aik:o.data=.dict es ep)(aiW:(78:Int)<2^63)
  (h:∀t t',Q (.int 78 t) {s with toks:=t'}):f8 77 A (Ix (.builtin "len") [-d]) Q E s:=by
 have ty:s.TypeIs (-d) "dict":={o,ho,hx.1};show fJ kind_len plain_len entry_len (args_len1 _) ?_;show ae 83;show ae (sw ty F.slot_dict_len
  (bC F.slot_dict_len ty F.entry_dict_len ?_ (F.args_dict_len_1 _)))
 change f8 _ _ (dictSize d>>=_) _ _ s;show ae<|ae<|ik ho aik 83;show ae<|wpAny_pendingCount_other hd ?_;show ae<|Fz<|ah {_,9,?_};show ae<|bP 83;show ae<|uY ?_;rw[az ∅];rw[az ∅];show ae<|Fz<|ah {_,9,h _ _}
end
section
variable{X:Cx}{bi:Aab}{Z:St}{H:Hp}{s:fv}{A:wf}{E:Aad}{a b:cr}{kvs:List (NK×cr×V)}{k:NK}{z:V}
def XQ(hu:A.units+101<wS)(I:Inv X bi Z H s)(h:eP 81 X.w X.K H a kvs)(hk:gm X.K H k b)(wd:kvs.length<10000000)(rv:RelV z r)
  (q1:∀v w' s',valN kvs k>v->Inv X bi Z H s'->RelV v w'->Q w' s')
  (q2:valN kvs k=none->∀s',Inv X bi Z (upd H a<|.ext<|DN 81 X.w a<|putN kvs k b z) s'->Q r s'):f8 82 A (Ix (.builtin "dict.setdefault") [-a,-b,r]) Q E s:=by
 let(lo,xs,rel,hl,dd):=I.rH h;have lx:55<=dL:=by rw[<-rel.length,bM];lia
 have e:=wZ rel k;show pG hZ dd.typeIs ub (tP _ _ _) (Fe (pj 81 X.w) a b lo r)
  {show A.units+1+100<wS by lia,k,xs,I.DG hk,dd,lx,λp hp=>?_,λhn h' wk hs=>?_}
 ·rw[hp]at e;cases ev:valN kvs k with
  |none=>rw[ev]at e;show e.elim
  |some v=>rw[ev]at e;show q1 v _ _ ev 28 e
 rw[hn]at e;cases ev:valN kvs k with
 |some v=>rw[ev]at e;show e.elim
 |none=>
  let(o,es,ep,g,x2,x3,x4,__,x5):=wk;have lp:=Be (kvs:=kvs) (k:=k) (b:=b) (v:=z);show q2 ev _<|xa I ?_ hs ⟨o,g⟩ (Uo {lo,_,GI rel rv,8,o,es,ep,g,x2,x3,x4,x5});rcases h.1 with e|⟨_,e⟩<;>rw[e]<;>show True.intro
def acV(hu:A.units+101<wS)(I:Inv X bi Z H s)(h:eP 81 X.w X.K H a kvs)(hk:gm X.K H k b)(rv:RelV z r)(q:∀w' s',Inv X bi Z H s'->RelV ((valN kvs k).getD z) w'->Q w' s'):
  f8 82 A (Ix (.builtin "dict.get") [-a,-b,r]) Q E s:=by
 let(lo,xs,rel,hl,dd):=I.rH h;show pG iU dd.typeIs rA (yC _ _ _) (meetsH_dict_get_default (pj 81 X.w) a b lo r)
  {show A.units+1+100<wS by lia,k,xs,I.DG hk,dd,q _ _ 28<|(wZ rel k).getD rv}
def RR(I:Inv X bi Z H s)(h:eP 81 X.w X.K H a kvs):s.TypeIs (-a) "dict"/\∀b,Value.ref a=.ref b->∃ob,s.heap.get? b>ob/\ob.dict=none:=by let(lo,xs,rel,hl,dd):=I.rH h;show{dd.typeIs,λb q=>?_};cases q;let(ob,__,__,h1,h2,__):=dd;show{ob,h1,h2.2.1}
def afw(I:Inv X bi Z H s)(h:eP 81 X.w X.K H a kvs)(q:∀t s',Inv X bi Z H s'->Q (.int kvs.length t) s'):f8 82 A (Ix (.builtin "len") [-a]) Q E s:=by
 let(lo,xs,rel,hl,o,es,ep,g,hx,hd,he,__):=I.rH h;have l1:78=kvs.length:=by rw[yI he,rel.length]
 show acq lo g hx hd ∅ λt t'=>?_;rw[l1];show q t _ 28
end
inductive U4(P:io)(w:mo)(K:Frag)(ty:TE)(tz:TE)(Z:St)(Q:VK)(x:V)(H1:Hp):Prop
 |mk a Og (_:x=-a) (_:eP P w K H1 a Og) (_:ty Z H1 λy H2=>tz Z H2 λz H3=>∃b kvs k,y=-b/\eP P w K H3 a kvs/\gm K H3 k b/\kvs.length<10000000/\(∀v,valN kvs k>v->Q v H3)/\(valN kvs k=none->Q z (upd H3 a<|.ext<|DN P w a<|putN kvs k b z)))
def YA(P:io)(w:mo)(K:Frag)(td ty tz:TE):TE:=λZ H Q=>td Z H λx H1=>U4 P w K ty tz Z Q x H1
inductive YE(P:io)(w:mo)(K:Frag)(ty:TE)(tz:TE)(Z:St)(Q:VK)(x:V)(H1:Hp):Prop
 |mk a Og (_:x=-a) (_:eP P w K H1 a Og) (_:ty Z H1 λy H2=>tz Z H2 λz H3=>∃b kvs k,y=-b/\eP P w K H3 a kvs/\gm K H3 k b/\Q ((valN kvs k).getD z) H3)
def QS(P:io)(w:mo)(K:Frag)(td ty tz:TE):TE:=λZ H Q=>td Z H λx H1=>YE P w K ty tz Z Q x H1
section
variable{X:Cx}{o e f:xL}{Gc fu:GM}{td ty tz:TE}
def Bh(hu:X.A.units+101<wS)(ho:PE X o td)(he:PE X e ty)(hf:PE X f tz)(m:M2 X o "setdefault" Gc e f fu):PE X (.Call (.Attribute o "setdefault" Gc) [e,f] [] fu) (YA 81 X.w X.K td ty tz):=by ext bi s Z H Q I h;show qM m.base m.i0 m.line eK hZ mG (dk (ho bi s Z H _ I h) λu s1 x H1 I1 rx ahq=>?_);let(a,Og,ex,d,q1):=ahq;subst ex;obtain rfl:u=Value.ref a:=rx;let(t1,t2):=RR I1 d;show{t1,t2,?_};rw[m.trees];show gw rfl (j9<|gh (dk (he bi s1 Z H1 _ I1 q1) λiv s2 y H2 I2 ry q2=>gh (dk (hf bi s2 Z H2 _ I2 q2) λfv s3 z H3 I3 rz ⟨b,kvs,k,ey,g,hk,hl,k1,k2⟩=>jZ ?_)));subst ey;obtain rfl:iv=Value.ref b:=ry;show XQ hu I3 g hk hl rz (λv w' s4 ev I4 r4=>{v,H3,I4,r4,k1 v ev}) λev s4 I4=>{z,_,I4,rz,k2 ev}
def yN(hu:X.A.units+101<wS)(ho:PE X o td)(he:PE X e ty)(hf:PE X f tz)(m:M2 X o "get" Gc e f fu):PE X (.Call (.Attribute o "get" Gc) [e,f] [] fu) (QS 81 X.w X.K td ty tz):=by ext bi s Z H Q I h;show qM m.base m.i0 m.line eK iU sy (dk (ho bi s Z H _ I h) λu s1 x H1 I1 rx ahp=>?_);let(a,Og,ex,d,q1):=ahp;subst ex;obtain rfl:u=Value.ref a:=rx;let(t1,t2):=RR I1 d;show{t1,t2,?_};rw[m.trees];show gw rfl (j9<|gh (dk (he bi s1 Z H1 _ I1 q1) λiv s2 y H2 I2 ry q2=>gh (dk (hf bi s2 Z H2 _ I2 q2) λfv s3 z H3 I3 rz ⟨b,kvs,k,ey,g,hk,k1⟩=>jZ ?_)));subst ey;obtain rfl:iv=Value.ref b:=ry;show acV hu I3 g hk rz λw' s4 I4 r4=>⟨_,H3,I4,r4,k1⟩
def Eb:fB X (.builtin "len") (λxs H Q=>∃a kvs,xs=[V.ref a]/\eP 81 X.w X.K H a kvs/\Q (.int kvs.length) H):=by ext bi s Z H xs us Q I r h;let(a,kvs,rfl,ha,q):=h;let(u,rfl,ru):=iw r;cases ru;show afw I ha λt s' I'=>{.int kvs.length,H,I',⟨t,rfl⟩,q}
inductive acv(P:io)(w:mo)(K:Frag)(R:It->Hp->Prop)(x:V)(H1:Hp):Prop
 |mk d u kvs (_:x=-d) (_:H1 d>u) (_:eP P w K H1 d kvs) (_:∀o,R (ItK d o u (kvs.map λp=>(.ref p.2.1,p.2.2)))<|upd H1 d<|.fR o u)
def aeM(P:io)(w:mo)(K:Frag)(tl:TE):TI:=λZ H R=>tl Z H λx H1=>acv P w K R x H1
def NG(hl:PE X l tl):PI X tg l (aeM 81 X.w X.K tl):=by
 ext bi s Z H R I h;show dk (hl bi s Z H _ I h) λv s1 x H1 I1 r1 q1=>?_;let(d,u,kvs,e,hd,hv,q):=q1;subst e;cases r1;let(lo,xs,rel,__,o,es,ep,ga,hx,hdt,he,__):=I1.rH hv;have ents:∀{l:List 90}{xs:List (NK×cr×jp)},Paired 66 l xs->Paired 135 (l.map λp=>(V.ref p.2.1,p.2.2)) (xs.map<|WF<|pj 81 X.w):=λr=>by
  induction r with
  |nil=>show .nil
  |@cons p q ps qs h _ ih=>show .cons {by change Value.ref q.2.1=Value.ref p.2.1;rw[h.2.1],h.2.2} ih
 have m:PH o es ep (kvs.map λp=>(V.ref p.2.1,p.2.2)):={hx,hdt,he▸ents rel};have I2:Inv X bi Z (upd H1 d<|.fR o u) s1:=by
  rcases hv.1 with e|⟨_,e⟩;·rw[hd]at e;cases e;show I1.Si hd ga
  rw[hd]at e;cases e;show I1.freeze hd ga
 show Ra lo ga m.1 m.2.1 ?_;show{29,[29],_,_,_,9,I2.kept λb o e=>af _ e,adh m,{_,43,9,9},23,q o};have e:b=29:=by simpa using hb
 subst e;show I2.zL (ao _)<|I2.bE.fresh<|ao _
def mK(n:Nat)(k:NK):Prop:=(NK.toD k).canLay0=true/\(NK.toD k).depth<=n/\NK.deep k<=n
def ZT{n:Nat}:mK n .cx:={by simp[NK.toD,PyData.canLay0],by simp[NK.toD,PyData.depth],by simp[NK.deep]}
def GY{n:Nat}(i:Int):mK n (.key<|.inl i):={by simp[NK.toD,PyData.canLay0],by simp[NK.toD,PyData.depth],by simp[NK.deep]}
def rP(h:PyData.strOk z=true):mK n (.key<|.inr z):={by simp[NK.toD,PyData.canLay0,h],by simp[NK.toD,PyData.depth],by simp[NK.deep]}
theorem OW:∀{ks:List NK},(∀k∈ks,mK n k)->PyData.canLayAll0 (NK.nZ ks)=true/\PyData.depthAll (NK.nZ ks)<=n/\NK.qt ks<=n
 |[],_=>{by simp[NK.nZ,PyData.canLayAll0],by simp[NK.nZ,PyData.depthAll],by simp[NK.qt]}
 |k::ks,h=>by
  let(a1,a2,a3):=h k av;let(b1,b2,b3):=OW λk hk=>h k<|aA _ hk;show{by simp[NK.nZ,PyData.canLayAll0,a1,b1],?_,?_};·simp only[NK.nZ,PyData.depthAll];lia
  simp only[NK.qt];lia
def lJ(h:∀k∈ks,mK n k):mK (n+1) (.tup ks):=by let(b1,b2,b3):=OW h;show{by simp only[NK.toD,PyData.canLay0];show b1,by simp only[NK.toD,PyData.depth];lia,by simp only[NK.deep];lia}
def mK.good(h:mK n k)(hn:n<=07):aa8 k:={h.1,aS h.2.1 hn,aS h.2.2 hn}
def d8(zs:Aag):NK:=.tup (zs.map λz=>.key<|.inr z)
def acf(h:d8 xs=d8 ys):xs=ys:=by injection h with h;show List.map_inj_right (λa b e=>by injection e with e;injection e)|>.mp h
def Bx(h:∀z∈zs,PyData.strOk z=true):mK 1 (d8 zs):=lJ λk hk=>by let(z,hz,rfl):=aG.mp hk;show rP<|h z hz
theorem NZ{K:Frag}:∀zs:Aag,AO K H (zs.map λz=>NK.key<|.inr z) (zs.map V.str)
 |[]=>by rw[Er,AO];rfl
 |z::r=>by show{_,_,9,by rw[NV];rfl,NZ r}
def Iz{K:Frag}(h:aZ K H a (zs.map V.str)):NV K H (d8 zs) (-a):=by unfold d8;show{a,_,9,h,NZ zs}
def xD{K:Frag}(h:aZ K H a (zs.map V.str))(hz:∀z∈zs,PyData.strOk z=true):gm K H (d8 zs) a:={Iz h,(Bx hz).good 7}
def Dv{K:Frag}(h:NV K H (d8 zs) (-a)):aZ K H a (zs.map V.str):=by
 have all:∀{zs:Aag}{xs:Aan},AO K H (zs.map λz=>NK.key<|.inr z) xs->xs=zs.map V.str:=by
  ext zs
  induction zs with
  |nil=>ext xs h;rw[Er,AO]at h;show h
  |cons z r ih=>
   ext xs h;let(x,t,rfl,h1,h2):=h;rw[h1,ih h2];rfl
 unfold d8 at h;let(b,xs,e,hq,h):=h;cases e;rw[<-all h];show hq
def Av(z:pi)(n:Nat):NK:=.tup [.key<|.inr z,.key<|.inl n]
def yO(z:pi)(n i:Nat)(t:pi):NK:=.tup [.key<|.inr z,.key<|.inl n,.key<|.inl i,.key<|.inr t]
def Om{K:Frag}{H:Hp}{a:cr}{z:pi}{n:Nat}(h:aZ K H a [.str z,.int n])(hz:PyData.strOk z=true):gm K H (Av z n) a:=by
 show{?_,(lJ (n:=0) λk hk=>?_).good 7};·unfold Av;show{a,_,9,h,?_};show⟨_,_,rfl,rfl,_,_,rfl,rfl,rfl⟩
 simp only[aJ,nh,xt]at hk;rcases hk with rfl|rfl;·show rP hz
 show GY _
def Ol{K:Frag}{H:Hp}{a:cr}{z t:pi}{n i:Nat}(h:aZ K H a [.str z,.int n,.int i,.str t])(hz:PyData.strOk z=true)(ht:PyData.strOk t=true):gm K H (yO z n i t) a:=by
 show{?_,(lJ (n:=0) λk hk=>?_).good 7};·unfold yO;show{a,_,9,h,?_};show⟨_,_,rfl,rfl,_,_,rfl,rfl,_,_,rfl,rfl,_,_,rfl,rfl,rfl⟩
 simp only[aJ,nh,xt]at hk;rcases hk with rfl|rfl|rfl|rfl;·show rP hz
 ·show GY _
 ·show GY _
 show rP ht
def ach{z z':pi}{n n':Nat}:Av z n=Av z' n'↔z=z'/\n=n':=by unfold Av;simp only[NK.tup.injEq,ze,NK.key.injEq,Sum.inr.injEq,Sum.inl.injEq,and_true,Int.ofNat_inj]
def acg{z z' t t':pi}{n n' i i':Nat}:yO z n i t=yO z' n' i' t'↔z=z'/\n=n'/\i=i'/\t=t':=by unfold yO;simp only[NK.tup.injEq,ze,NK.key.injEq,Sum.inr.injEq,Sum.inl.injEq,and_true,Int.ofNat_inj]
def aeo{z z' t':pi}{n n' i':Nat}:Av z n≠yO z' n' i' t':=by unfold Av yO;simp
def jv(e:p.1=k):valN (p::r) k>p.2.2:=by unfold valN;rw[eX (p:=λp:NK×cr×V=>decide (p.1=k))<|aO e];rfl
def oN(e:¬p.1=k):valN (p::r) k=valN r k:=by unfold valN;rw[dU (p:=λp:NK×cr×V=>decide (p.1=k)) (λq=>e<|aV q)]
theorem MG:∀kvs:List 90,valN (kvs.map λp=>if p.1=k then(p.1,p.2.1,v)else p) j=(valN kvs j).map λx=>if j=k then v else x
 |[]=>rfl
 |p::r=>by
  have ih:=MG (k:=k) (j:=j) (v:=v) r;rw[bI];by_cases h:p.1=k
  ·rw[aL h];by_cases e:p.1=j;·rw[jv (p:=(p.1,p.2.1,v)) e,jv e,iA,aL<|e.symm.trans h]
   rw[oN (p:=(p.1,p.2.1,v)) e,oN e,ih]
  rw[az h];by_cases e:p.1=j;·rw[jv e,jv e,iA,az (λz=>h<|e.trans z)]
  rw[oN e,oN e,ih]
theorem KN:∀kvs:List 90,valN kvs k=none->valN (kvs++[(k,a,v)]) j=if j=k then some v else valN kvs j
 |[],_=>by
  by_cases e:k=j;·rw[aL e.symm];show jv e
  rw[az (λz=>e z.symm)];show oN e
 |p::r,hn=>by
  rw[kD];have hk:¬p.1=k:=λz=>by rw[jv z]at hn;cases hn
  rw[oN hk]at hn;by_cases e:p.1=j;·rw[jv e,jv e,az (λz=>hk<|e.trans z)]
  rw[oN e,oN e,KN (j:=j) (a:=a) (v:=v) r hn]
def ve:valN (putN kvs k a v) j=if j=k then some v else valN kvs j:=by
 unfold putN;split
 ·next hs=>
  rw[MG];by_cases c:j=k;·let(x,hx):=yd.mp hs;rw[aL c,c,hx,iA,aL rfl]
  rw[az c];cases valN kvs j with
  |none=>rfl
  |some x=>rw[iA,az c]
 next hs=>
 show KN kvs ?_;cases e:valN kvs k with
 |none=>rfl
 |some x=>rw[e]at hs;show absurd rfl hs
def Zn(h:p∈putN kvs k a v):(∃q∈kvs,p.1=q.1/\p.2.1=q.2.1)\/(p.1=k/\p.2.1=a):=by
 unfold putN at h;split at h;·let(q,hq,rfl):=aG.mp h;show .inl {q,hq,?_};split<;>show⟨rfl,rfl⟩
 rcases bG.mp h with h|h;·show .inl ⟨p,h,rfl,rfl⟩
 rw[aw.mp h];show .inr ⟨rfl,rfl⟩
def WB{kvs:List 90}{k j:NK}{a:cr}{v:V}:(∃p∈putN kvs k a v,p.1=j)↔j=k\/∃p∈kvs,p.1=j:=by
 have key:∀(l:List 90)(j:NK),(∃p∈l,p.1=j)↔(valN l j).isSome=true:=by ext l j;unfold valN;rw[ji,Fu];show⟨λzq=>by let(p,hp,e):=zq;show{p,hp,aO e},λxf=>by let(p,hp,e):=xf;show{p,hp,aV e}⟩
 rw[key,key,ve];by_cases c:j=k;·rw[aL c];simp[c]
 rw[az c];simp[c]
def RJ{kvs:List 90}{j:NK}:(∃p∈kvs,p.1=j)↔(valN kvs j).isSome=true:=by unfold valN;rw[ji,Fu];show⟨λzq=>by let(p,hp,e):=zq;show{p,hp,aO e},λxf=>by let(p,hp,e):=xf;show{p,hp,aV e}⟩
end
end L2
namespace L2
open PySem PySem.Spec PyProof.Rows PySem.W pK
section
variable{X:Cx}
inductive abP(x:V)(vs:Aan)(H:Hp)(Q:VK):Prop
 |mk (l:cr) (zs:List Int) (z:Int) (j:Nat) (_:x=-l) (_:vs=[.int z]) (_:H l>.lst (zs.map V.int)) (_:zs[j]?>z) (_:(∀m,m<j->zs[m]?≠some z)) (_:Q (.int (j:Int)) H)
def Wm:SE X "list.index" abP:=by
 ext bi s Z H x vs v us Q I rx rv h;let(l,zs,z,j,rfl,rfl,hH,hj,Cd,q):=h;cases rx;let(u,rfl,ru):=rv.one;let(t,rfl):=ru;let(z',aK,n,r,hl,e):=I.Bs hH;have eat:∀m,(m:Nat)<aK.length->∃y t',aK[m]?>.int y t'/\zs[m]?>y:=λm hm=>by
  have hz:m<zs.length:=by have:=r.length;rw[ag]at this;lia
  let(u',tJ,ru'):=r.get (by rw[aN,aq hz];rfl);let(t',rfl):=ru';show{zs[m],t',tJ,aq hz}
 have lz:=r.length;rw[ag]at lz;have rj:j<aK.length:=by have:=(ar.mp hj).1;lia
 have sl:=Az
 let eq:jp->Bool:=λy=>match y with| .int a _=>a==z|_=>false
 have ah3:∀y,y∈aK.toArray->MeetsSeq.EqGives y (.int z t) (eq y):=λy hy=>by let(m,hm):=nj (by simpa using hy:y∈aK);let(a,t',e1,__):=eat m (ar.mp hm).1;rw[hm]at e1;cases e1;show MeetsSeq.EqGives.int a z t' t
 have aeP:∀m(hm:m<aK.toArray.size),∃a t',aK.toArray[m]=.int a t'/\zs[m]?>a:=λm hm=>by let(a,t',e1,e2):=eat m<|↑hm;show{a,t',?_,e2};have:=(ar.mp e1).2;simpa using this
 have hjs:j<aK.toArray.size:=by simpa using rj
 show m9 F.slot_list_index ⟨_,e,rfl⟩ F.entry_list_index (F.args_list_index_2 _ _) (MeetsSeq.list_index l aK.toArray n (.int z t) eq ah3 j hjs ∅ ?_ λm hm b6=>?_) {e,{.int _,H,28,41,q}};·let(a,t',e1,e2):=aeP j hjs;rw[e1];rw[hj]at e2;cases e2;change(z==z)=true;simp
 let(a,t',e1,e2):=aeP m hm;rw[e1];show dq.mpr λh=>Cd m b6 (by rw[e2,h])
variable{bi:Aab}{Z:St}{H:Hp}{s:fv}
theorem Inv.Pw{lo:cr}(hlo:33<=lo/\92<lo/\(∀x c,X.env.cells.lookup x>c->c<lo)/\∀p∈X.pn++bi,p.1<lo):
  ∀(as:Aai)(ps:Aal)(H:Hp),Inv X bi Z H s->as.length=ps.length->as.Nodup->(∀a∈as,lo<=a/\H a=none)->
   (∀(j:Nat) a p,as[j]?>a->ps[j]?>p->∃t u,RelV p.1 t/\RelV p.2 u/\s.heap.get? a>{cls:=.type "tuple",data:=.seq #[t,u]})->
   ∃H',Inv X bi Z H' s/\(∀b u,H b>u->H' b>u)/\(∀b,b∉as->H' b=H b)/\∀(j:Nat) a p,as[j]?>a->ps[j]?>p->H' a>.tup [p.1,p.2]
 |[],[]=>λH I _ _ _ _=>{H,I,λ_ _ h=>h,λ_ _=>9,λj a p e=>by simp at e}
 |[],_::_=>λ_ _ e _ _ _=>by simp at e
 |_::_,[]=>λ_ _ e _ _ _=>by simp at e
 |a::as,p::ps=>λH I e nd fr tp=>by
  let(n1,n2):=cQ.mp nd;let(l1,l2,l3,l4):=hlo;let(ha,hna):=fr a av;let(t,u,r1,r2,g):=tp 0 a p rfl rfl;have I1:=I.Jt (o:=.tup [p.1,p.2]) hna {95,[t,u],.cons r1<|.cons r2 .nil,{_,g,9,0,9},_,g,9} (aS l1 ha) (bA<|aX l2 ha)
   (λx c h=>aD<|aX (l3 x c h) ha) (λq hq=>aD<|aX (l4 q hq) ha)
  let(H',I2,k1,k2,k3):=Inv.Pw ⟨l1,l2,l3,l4⟩ as ps _ I1 (↑e) n2 (λb hb=>{(fr b<|aA _ hb).1,by rw[aC (show b≠a fromλz=>n1<|z▸hb)];show(fr b<|aA _ hb).2})
   (λj b q e1 e2=>tp (j+1) b q (↑e1)<|↑e2)
  show{H',I2,λb v h=>k1 b v (by rw[aC<|a9 h hna];show h),23,λj b q e1 e2=>?_};·rw[k2 b (λz=>hb<|aA _ z),aC (λz=>hb (by rw[z];show av))]
  cases j with
  |zero=>
   obtain rfl:a=b:=by simpa using e1
   obtain rfl:p=q:=by simpa using e2
   rw[k2 a n1];show au
  |succ j=>show k3 j b q (↑e1)<|↑e2
def zg(r d:cr):ss->Prop:=λh=>h.IsItemsView r d
end
def WJ(x:zg r d h):da P w H h r (.ext<|zg r d):=
 {x,by let(o,q,__):=x;show⟨o,q⟩,λ_ _ zq k=>by let(o,q,z):=zq;show{o,k _ q,z}}
inductive abv(Q:VK)(x:V)(H1:Hp):Prop
 |mk d kvs (_:x=-d) (_:H1 d>.dK kvs) (_:∀p,H1 p=none->Q (-p) (upd H1 p<|.ext<|zg p d))
def adw(td:TE):TE:=λZ H Q=>td Z H λx H1=>abv Q x H1
def NJ{X:Cx}{Gc fu:GM}{l:xL}{tl:TE}(hl:PE X l tl)(Bv:At l "items" X.env (wT l X.env)=wT l X.env:=by rfl)(Bu:52=true:=by rfl):
  PE X (.Call (.Attribute l "items" Gc) [] [] fu) (adw tl):=by
 ext bi s Z H R I h;show yz Bv Bu (dk (hl bi s Z H _ I h) λv s1 x H1 I1 r1 q1=>?_);let(d,kvs,e,hd,q):=q1;subst e;cases r1;let(lo,o,es,ep,ga,m):=acF (I1.bE d _ hd)<|.inl ⟨kvs,rfl,rfl⟩;have ty:s1.TypeIs (-d) "dict":={o,ga,m.1.1};show{"dict","dict.items",eK,kM,yB,ty,λb q=>?_,gw rfl (Cy ?_)};·cases q;show{o,ga,m.1.2.1}
 show bC kM ty yb ?_ (wR _);show ae<|ae<|iO ty 83;unfold Builtin.Dict.showsAll;rw[lo];show ae<|ah<|ae<|c9<|ah {_,9,?_};show{.ref 29,_,I1.laid (λb o e=>af _ e) (ao _)<|WJ {_,43,9,9},9,q _ 20}
def rowsOf(g:List (pi×pi)):Aaa:=g.map λp=>[p.1,p.2]
abbrev aa7(H:Hp):Aan->Aaa->Prop:=Paired λ(y:V)(zs:Aag)=>∃a,y=-a/\H a>.tup (zs.map V.str)
def YQ{X:Cx}{bi:Aab}{Z:St}{H:Hp}{s:fv}(I:Inv X bi Z H s):∀{zs:Aan}{rows:Aaa},d9 X.K H zs rows->(∀z∈zs,∃a xs,z=-a/\H a>.tup xs)->aa7 H zs rows:=by
 ext zs rows g h
 induction g with
 |nil=>show .nil
 |cons x _ ih=>
  let(a,e,hq):=x;subst e;let(a',xs,e',h'):=h _ av;cases e';show .cons {a,9,?_} (ih λz hz=>h z<|aA _ hz);rw[h',I.vg (aZ.of h') hq]
def xU{X:Cx}(hA:X.A.handled=none):fB X (.builtin "sorted") (λxs H Q=>∃(r d:cr)(g:List (pi×pi)),xs=[-r]/\H r>.ext (zg r d)/\H d>.dK (g.map λp=>(Sum.inr p.1,.str p.2))/\g.length<64/\
  ∀l zs H',(∀b u,H b>u->H' b>u)->H' l=none->H l=none->aa7 H' zs (iV<|rowsOf g)->Q (-l) (upd H' l<|.lst zs)):=by
 ext bi s Z H xs us Q I r h;let(v,d,g,rfl,hv,hd,qE,q):=h;let(u,rfl,ru):=iw r;cases ru;let(iv,__):=(show da 81 X.w H s.heap v (.ext<|zg v d)from I.bE v _ hv);let(hz,lo,vs,rel,o,es,ep,m):=yX I.bE hd;have at':s.heap.DictAt (b4 81 X.w) d vs ep:=⟨o,es,m⟩;have hl:g.length=vs.length:=by have:=rel.length;rw[ag]at this;show this
 show fJ rf oY pE (pH _) ?_;unfold Builtin.«sorted»;show ae (m:=W' "sorted" 1 1 _) 83;show ae (PySem.W.kdx_collect (A:=X.A.in1) (knd:=b4 81 X.w) (↑hA) iv at' (by rw[<-hl,bM];lia) λh' tk as kp la G=>?_);have I1:Inv X bi Z H 44:=I.kept (t':=tk) kp;have la':as.length=g.length:=by rw[la,hl]
 let(H',I2,k1,k2,k3):=Inv.Pw (lo:=35) {I.sz,I.lt,λx c hc=>let⟨_,z⟩:=I.cell x c hc;z.lt,λp hp=>aE (I.pin p hp).1} as ((g.map λp=>((Sum.inr p.1:Key),V.str p.2)).map λkv=>(kV kv.1,kv.2)) H I1 (by rw[ag,ag,la']) (G.rise.imp (λh=>aD h)) (λa ha=>{bU<|G.above a ha,I.bE.fresh<|bU<|G.above a ha}) (λj a p e1 e2=>by let(key,k,x,e3,e4,e5):=G.pairs j a e1;rw[aN]at e2;let(kv,e6,rfl):=aY.mp e2;unfold KV at rel;let(q',e7,e8,e9):=Paired.at' rel e6;rw[e3]at e7;cases e7;show{key,x,by rw[show kv.1=k from e8];show uF e4,e9,e5})
 have k3:∀(j:Nat) a p,as[j]?>a->g[j]?>p->H' a>.tup [.str p.1,.str p.2]:=λj a p e1 e2=>k3 j a _ e1 (by rw[aN,aN,e2];rfl);have lb:as.length=(rowsOf g).length:=by rw[la'];show(ag _).symm
 show Ba (s:=s) I2 lb (λi z b e1 e2=>?_) (λ_ r hr=>?_) (by rw[<-lb,la'];lia) λl zs iz xF IU=>q l zs H' k1 iz ?_ (YQ I2 xF λz hz=>?_);·unfold rowsOf at e1;rw[aN]at e1;let(p,e3,rfl):=aY.mp e1;show aZ.of<|k3 i b p e2 e3
 ·let(p,__,rfl):=aG.mp hr;simp
 ·cases e:H l with
  |none=>rfl
  |some o=>rw[k1 l o e]at iz;cases iz
 let(b,hb,rfl):=aG.mp<|IU z hz;let(j,hj):=eF.mp hb;have rj:j<g.length:=by have:=(ar.mp hj).1;lia
 show{b,_,9,k3 j b _ hj<|aq rj}
section
variable{K:Frag}{a:cr}{xs:Aan}{fr:List Nat}{tt:TT}{te:TE}{Z:St}{H1:Hp}{R:cr->Aan->Hp->Prop}
def Qo(Pv:Nat->Aan->Hp->Prop)(hx:55<dL)(h0:Pv 0 [] H1)(hl:∀i ys H,i<=55->Pv i ys H->aZ K H a xs/\91<=i)
  (hs:∀(i:Nat)(x:V)(ys:Aan)(H:Hp)(p:cr)(N:Aan->Hp->Prop),xs[i]?>x->Pv i ys H->H p=none->(∀gL H',Pv (i+1) gL H'->N gL H')->
   tt (some (.int i)::some x::slotsOf fr Z) (upd H p<|.tup [.int i,x]) λt H4=>if t=true then te (some (.int i)::some x::slotsOf fr Z) H4 103 else N ys H4)
  (hd:∀ys H,Pv 55 ys H->∀l,H l=none->R l ys H):zk (Ks K a) 2 fr (Ja K) tt te Z H1 R:=by
 show{λi m ys H=>m=55 -i/\i<=55/\Pv i ys H,{55,75,aF _,h0},?_};ext i m ys H ⟨rfl,hi,p⟩;let(q,hy):=hl i ys H hi p;by_cases b6:i<55;·show .inr {{xs,xs[i],q,by simp[b6]},8,?_};ext v H3 y own ho;let(r,z,rfl,hr,rfl,y):=y;show EU ho rfl (aZ.of au) {[some<|.int i,some z],9,9,(hs i z ys H r (λgL H'=>∃m',m'<55 -i/\m'=55 -(i+1)/\i+1<=55/\Pv (i+1) gL H') (y xs q) p hr λgL H' p'=>{_,8,9,b6,p'})}
 have e:i=55:=by lia
 subst e;show .inl {⟨xs,q,rfl⟩,8,hd ys H p}
end
section
variable{X:Cx}
def Mb{elt iter tg c:xL}{x y:pi}{py rM:GM}{j:Nat}{more:Aag}{g:TG}{scope:AC}{pos:GM}{wi:TI}{fs:Aag}{fr:List Nat}{tc:TT}{te:TE}(hN:X.N.Nodup)(hj:X.N[j]?>y)(hy:X.env.scope.names.lookup y>.local)(hc:X.calm=true)(S:sL X scope x more fs fr)(hi:PI X tg iter wi)(hg:∀C s H ex,PG 49 tg g)
  (ht:∀C s H ex,PT 49 c tc) (he:∀C s H ex,PE 49 elt te) (hs:∀z,wn iter X.env z=pure z:=by intro _;rfl)
  (DK:EQ (.ListComp elt [{tg,iter,[c],0}] scope pos) (some<|.Name y py) rM.line X.env=pure true:=by rfl):
  PS X (.Assign [.Name y py] (.ListComp elt [{tg,iter,[c],0}] scope pos) rM) (ER j<|oP wi (more.length+1) fr g tc te):=Dg hN hj hy hc S hi hg (λC s H ex=>D6<|ht C s H ex) he hs DK
def jH(P:io)(w:mo)(K:Frag)(mg:Aac)(base:ss)(C:cr)(k:Nat)(m:pi)(ps:Aag)(sp:Sp):Prop:=
 ∃f fd,cm P w K mg base dZ k f fd ps sp/\Meth K C m f/\Binds K fd ps []
def B8(c:AX X.K C)(D:jH 81 X.w X.K X.mg X.base C k m ps sp)(hr:ir j X.A)(ho:PE X o ta)(ha:PA X (e::es) t)(hk:k<=j:=by decide)
  (iF:re (e::es) X.env=(false,wT e X.env)::re es X.env:=by rfl) (ie:(Db pos 69).any (·.1)=false:=by rfl)
  (ht:wT (.Call (.Attribute o m Gc) (e::es) [] pos) X.env=(do
   let ov<-wT o X.env
   standAt Gc.atName
   let(f,first)<-J' [ov] (Z' ov m pl)
   callWith pos f first (Db pos<|re (e::es) X.env) (SC pos<|KE [] X.env)):=by rfl):
  PE X (.Call (.Attribute o m Gc) (e::es) [] pos) (aaD C m sp [] E0 ta t):=by
 let(f,fd,F,me,b):=D;show abY ho c me F (hr.mono hk) b .nil Tq ha iF ie ht
def Bw(hr:ir k A):A.units+101<wS:=by have:=hr.un;lia
def TH{kvs:List 90}{k:NK}{a:cr}{v:V}(h:(kvs.map (·.1)).Nodup):((putN kvs k a v).map (·.1)).Nodup:=by
 unfold putN;split
 ·have e:(kvs.map λp=>if p.1=k then(p.1,p.2.1,v)else p).map (·.1)=kvs.map (·.1):=by rw[cX];show gA λp _=>?_;change(if p.1=k then(p.1,p.2.1,v)else p).1=p.1;split<;>rfl
  rw[e];show h
 next hs=>
 rw[ba];show gx.mpr {h,75,λx hx y hy e=>hs ?_};have WU:y=k:=by simpa using hy
 let(p,hp,hpe):=aG.mp hx;show RJ.mp {p,hp,by rw[hpe,e,WU]}
theorem tE{α:Type}[DecidableEq α]:∀{l m:List α},l.Nodup->(∀x∈l,x∈m)->l.length<=m.length
 |[],m,_,_=>aF _
 |x::l,m,h,s=>by let(h1,h2):=cQ.mp h;have hx:=s x av;have:=tE h2 λy hy=>(BL (show y≠x fromλe=>h1<|e▸hy)).mpr<|s y<|aA _ hy;rw[yi hx]at this;have hp:=zU hx;rw[bc];lia
variable{K:Frag}
def y7(hc:X.calm=true)(h:X.K=K:=by rfl):fB X (.builtin "all") (λxs H Q=>∃(a:cr)(bs:List Bool),xs=[-a]/\aT K H a (bs.map V.bl)/\Q (.bl<|bs.all id) H):=h▸uS hc
end
end L2
namespace BW
section
variable{α:Type}[DecidableEq α]
abbrev Rw(α:Type):=List α
abbrev Ct(α:Type):=α×List α
def img(xs vs:List α)(t:α):α:=if t∈xs then vs.getD (xs.idxOf t) t else t
def image(xs vs ts:List α):List α:=ts.map<|img xs vs
def aix(m:List (Rw α×Int))(r:Rw α)(c:Int):List (Rw α×Int):=if r∈m.map (·.1)then m.map (λx=>if x.1=r then(x.1,x.2+c)else x)else m++[(r,c)]
def ahf(l:List (Rw α×Int))(xs ts:List α):List (Rw α×Int):=l.foldl (λm x=>aix m (image xs x.1 ts) x.2) []
def ags(r ts:List α):Bool:=decide (r.length=ts.length)&&(ts.zip r).all λx=>decide (r[ts.idxOf x.1]?>x.2)
def atT(r ts:List α)(t:α):α:=r.getD (ts.idxOf t) t
def A6(rows:List (Rw α))(ts known fresh:List α)(key:Rw α):List (Rw α):=(rows.filter λr=>ags r ts&&decide (known.map (atT r ts)=key)).map λr=>fresh.map<|atT r ts
def longer(pD:List (Rw α×Int))(rows:List (Rw α))(ts kept known fresh:List α):List (Rw α×Int):=pD.flatMap λx=>(A6 rows ts known fresh<|image kept x.1 known).map λt=>(x.1++t,x.2)
def Sol(un:α->Bool)(db:α->List (Rw α))(S:List (Ct α))(g:α->α):Prop:=(∀t,un t=false->g t=t)/\∀a∈S,a.2.map g∈db a.1
def Kp(un:α->Bool)(db:α->List (Rw α))(S:List (Ct α))(kept:List α)(pD:List (Rw α×Int)):Prop:=∀v,v∈pD.map (·.1)↔∃g,Sol un db S g/\v=kept.map g
end
section
variable{α:Type}[DecidableEq α]
def fits(un:α->Bool)(db:α->List (Rw α))(atoms:List (Ct α))(known v:List α):Bool:=atoms.all λa=>!decide (a.2.filter (λt=>un t&&decide (t∉known))=[])||decide (image known v a.2∈db a.1)
def agS(un:α->Bool)(db:α->List (Rw α))(atoms:List (Ct α))(us vals:List α):Nat->List (List α)
 |0=>[[]].filter<|fits un db atoms<|us.take 0
 |p+1=>((agS un db atoms us vals p).flatMap λv=>vals.map λx=>v++[x]).filter<|fits un db atoms<|us.take<|p+1
end
section
variable{α:Type}[DecidableEq α]
structure aiY(un:α->Bool)(db:α->List (Rw α))(atoms:List (Ct α))(head:List α)(S left:List (Ct α))(kept:List α)(pD:List (Rw α×Int)):Prop where
 kp:Kp un db S kept pD
 at_:∀a,a∈atoms↔a∈S\/a∈left
 kt:∀t,t∈kept↔un t=true/\(∃b∈S,t∈b.2)/\(t∈head\/∃b∈left,t∈b.2)
 nd:kept.Nodup
 md:(pD.map (·.1)).Nodup
variable{un:α->Bool}{db:α->List (Rw α)}{atoms:List (Ct α)}{head:List α}{S left:List (Ct α)}{kept:List α}{pD:List (Rw α×Int)}
end
section
variable{α:Type}[DecidableEq α]
def ag6{β:Type}(l:List β)(f:β->Int):Int:=(l.map f).sum
abbrev ind(p:Prop)[Decidable p]:Int:=if p then 1 else 0
structure aiZ(un:α->Bool)(db:α->List (Rw α))(S:List (Ct α))(kept:List α)(pD:List (Rw α×Int))(bs:List α)(L:List (Rw α)):Prop where
 bt:∀t,t∈bs↔un t=true/\∃b∈S,t∈b.2
 bn:bs.Nodup
 ln:L.Nodup
 lm:∀v,v∈L↔∃g,Sol un db S g/\v=bs.map g
 ct:∀x∈pD,x.2=ag6 L λv=>ind<|image bs v kept=x.1
variable{un:α->Bool}{db:α->List (Rw α)}{atoms:List (Ct α)}{head:List α}{S left:List (Ct α)}{kept:List α}{pD:List (Rw α×Int)}{bs:List α}{L:List (Rw α)}
end
section
variable{α:Type}[DecidableEq α]
variable{un:α->Bool}{db:α->List (Rw α)}{S S1 S2:List (Ct α)}{us us1 us2 vals h1 h2:List α}
end
end BW
namespace dC
open PySem
abbrev Atom:=pi×Aag
abbrev km:=List<|pi×pi
section
variable(ud:pi->Bool)
def ap(h:pi->pi)(t:pi):pi:=if ud t then h t else t
def Fits(D:List Atom)(h:pi->pi)(as:List Atom):Prop:=∀a∈as,(a.1,a.2.map<|ap ud h)∈D
def afO(g:km)(h:pi->pi):Prop:=∀p∈g,h p.1=p.2
def Yv(as:List Atom):Aag:=(as.map λa=>a.2.filter ud).flatten
def keys(g:km):Aag:=g.map (·.1)
def get(g:km)(u:pi):Option pi:=(g.find? λp=>decide (p.1=u)).map (·.2)
def afI(g g':km):Prop:=∀u v,get g u>v->get g' u>v
end
section
variable{g:km}{h:pi->pi}
def get_some{u v:pi}(h:get g u>v):(u,v)∈g:=by let(p,hp,rfl):=aY.mp h;have:=List.find?_some hp;rw[<-(aV this)];show wV hp
def over(g:km)(h:pi->pi)(u:pi):pi:=(get g u).getD<|h u
end
section
variable(ud:pi->Bool)(g:km)
def afU(p:List Atom)(a:Atom):Bool:=p.any λo=>(a.2.filter λt=>ud t&&(get g t).isNone).any λt=>decide (t∈o.2)
def step(a:Atom):List (List Atom)->List Atom×List (List Atom)
 |[]=>([a],[])
 |ps=>ps.foldl (λacc p=>if afU ud g p a then(p++acc.1,acc.2)else(acc.1,acc.2++[p])) ([a],[])
def Apart(p q:List Atom):Prop:=∀u,u∈Yv ud p->u∈Yv ud q->u∈keys g
end
section
variable{ud:pi->Bool}{g:km}
structure Stp(ud:pi->Bool)(g:km)(a:Atom)(done:List (List Atom))(x:List Atom×List (List Atom)):Prop where
 mem:∀b,(b∈x.1\/∃p∈x.2,b∈p)↔(b=a\/∃p∈done,b∈p)
 len:x.1.length+(x.2.map List.length).sum=1+(done.map List.length).sum
 one:∀p∈x.2,Apart ud g p x.1
 two:x.2.Pairwise (Apart ud g)
 sub:∀p∈x.2,p∈done
 mrg:∀r,Apart ud g r [a]->(∀p∈done,Apart ud g r p)->Apart ud g r x.1
 ne:x.1≠[]
end
section
variable(ud:pi->Bool)(D:List Atom)
structure Got(g g':km)(as:List Atom):Prop where
 nd:(keys g').Nodup
 lg:afI g g'
 ks:∀u,u∈keys g'↔u∈keys g\/u∈Yv ud as
 ft:∀h,afO g' h->Fits ud D h as
end
end dC
namespace L2
open PySem PySem.Spec PyProof.Rows
section
variable{K:Frag}{a b:cr}{xs zs:Aan}{fr:List Nat}{tt:TT}{te:TE}{Z:St}{H1:Hp}{R:cr->Aan->Hp->Prop}
def UA(Pv:Nat->Aan->Hp->Prop)(hx:55<dL)(le:55=zs.length)(h0:Pv 0 [] H1)(hl:∀i ys H,i<=55->Pv i ys H->(aZ K H a xs/\aZ K H b zs)/\91<=i)
  (hs:∀(i:Nat)(x z:V)(p:cr)(ys:Aan)(H:Hp)(N:Aan->Hp->Prop),xs[i]?>x->zs[i]?>z->Pv i ys H->H p=none->(∀gL H',Pv (i+1) gL H'->N gL H')->
   tt (some x::some z::slotsOf fr Z) (upd H p<|.tup [x,z]) λt H4=>if t=true then te (some x::some z::slotsOf fr Z) H4 103 else N ys H4)
  (hd:∀ys H,Pv 55 ys H->∀l,H l=none->R l ys H):zk (SG K a b) 2 fr (Ja K) tt te Z H1 R:=by
 show{λi m ys H=>m=55 -i/\i<=55/\Pv i ys H,{55,75,aF _,h0},?_};ext i m ys H ⟨rfl,hi,p⟩;obtain⟨⟨q1,q2⟩,hy⟩:=hl i ys H hi p;by_cases b6:i<55;·show .inr {{xs,zs,xs[i],zs[i]'∅,q1,q2,aq b6,aq _},8,?_};ext v H3 ⟨r,u,z,rfl,hr,rfl,y1,y2⟩ own ho;show EU ho rfl (aZ.of au) {[some u,some z],9,9,(hs i u z r ys H (λgL H'=>∃m',m'<55 -i/\m'=55 -(i+1)/\i+1<=55/\Pv (i+1) gL H') (y1 xs q1) (y2 zs q2) p hr λgL H' p'=>{_,8,9,b6,p'})}
 have e:i=55:=by lia
 subst e;show .inl {⟨xs,q1,rfl⟩,8,hd ys H p}
end
end L2
namespace L2
open PySem PySem.Spec PyProof.Rows PySem.W
section
variable{X:Cx}
inductive Rh(K:Frag)(x:V)(vs:Aan)(H:Hp)(Q:VK):Prop
 |mk (l:cr) (zs:Aag) (z:pi) (j:Nat) (_:x=-l) (_:vs=[.str z]) (_:aZ K H l (zs.map V.str)) (_:zs[j]?>z) (_:(∀m,m<j->zs[m]?≠some z)) (_:Q (.int (j:Int)) H)
def Wl:SE X "tuple.index" (Rh X.K):=by
 ext bi s Z H x vs v us Q I rx rv h;let(l,zs,z,j,rfl,rfl,hH,hj,Cd,q):=h;cases rx;let(u,rfl,ru):=rv.one;let(t,rfl):=ru;let(aK,r,ht,hl):=I.tuple hH;let(o,ho,hc,n,hd):=ht;have lz:=r.length;rw[ag]at lz;have eat:∀m:Nat,m<aK.length->∃y t',aK[m]?>.str y t'/\zs[m]?>y:=λm hm=>by
  have hz:m<zs.length:=by lia
  let(u',tJ,t',rfl):=r.get (by rw[aN,aq hz];rfl);show{zs[m],t',tJ,aq hz}
 have rj:j<aK.length:=by have:=(ar.mp hj).1;lia
 show bC F.slot_tuple_index ⟨_,ho,hc⟩ F.entry_tuple_index ?_ (F.args_tuple_index_2 _ _);show ae 83;show ae<|ae<|cR ho hd 83;show ae<|ah<|ae 83;dsimp only;rw[Nat.min_self,Std.Legacy.Range.forIn_eq_forIn_range'];have hsz:([0:aK.toArray.size]:Std.Legacy.Range).size=aK.length:=by simp[Std.Legacy.Range.size]
 show ae (dR (jt _ (λl b s'=>∃m,l=List.range' m (aK.length -m) 1/\m<=j/\b=(none,())/\s'=s) (λb s'=>∃tk,b=(some<|PySem.Fin.done<|Flow.ret<|.int j tk,())/\s'={s with toks:=89+1}) ?_ ?_ _ _ {0,?_,aF _,9,9}) ?_ λ_ _ e=>e)
 ·ext x rest b s' ⟨m,el,mj,rfl,rfl⟩;obtain⟨k,hk⟩:∃k,aK.length -m=k+1:={aK.length -m -1,8};rw[hk,List.range'_succ]at el;let(rfl,rfl):=List.cons.inj el;let(y,t',e1,e2):=eat x ∅;have e3:aK.toArray[x]?>.str y t':=by rw[<-e1];simp
  rw[e3];show ae<|pK.eq_str ?_;by_cases e:x=j;·subst e;rw[hj]at e2;cases e2;rw[aO rfl];show ae<|ae<|Fz<|ah<|ah ⟨_,rfl,rfl⟩
  have ne:y≠z:=λq=>Cd x ∅ (by rw[e2,q]);rw[bQ ne];show ah {x+1,by rw[show aK.length -(x+1)=k by lia],8,9,9}
 ·ext b s' ⟨m,el,mj,rfl,rfl⟩;have:aK.length -m=0:=by have:=c8 List.length el;simpa using this.symm
  lia
 ·change List.range' 0 ([0:aK.toArray.size]:Std.Legacy.Range).size 1=_;rw[hsz];rfl
 ext b s' ⟨tk,rfl,rfl⟩;show ah {_,9,{.int _,H,28,41,q}}
def Bp{K:Frag}(h:X.K=K:=by rfl):SE X "tuple.index" (Rh K):=h▸Wl
end
end L2
namespace L2
open PySem PySem.Spec PyProof.Rows
section
variable{X:Cx}
inductive abM(x:V)(vs:Aan)(H:Hp)(Q:VK):Prop
 |mk (a b:cr) (kvs more:List (Key×V)) (_:x=-a) (_:vs=[-b]) (_:a≠b) (_:H a>.dK kvs) (_:H b>.dK more) (_:kvs.length+more.length<=dL) (_:Q .cx (upd H a<|.dK<|nG kvs more))
def Wk:Pz X "dict.update" abM:=by ext bi s Z H x vs v us Q I rx rv h;let(a,b,kvs,more,rfl,rfl,ne,hH,hb,hl,q):=h;cases rx;let(u,rfl,r1):=rv.one;cases r1;let(zz,hd,ws,rel,dd):=yX I.bE hH;let(MC,hd2,ws2,adT,Su):=yX I.bE hb;show pG ya dd.typeIs PySem.F.entry_dict_update (PySem.F.args_dict_update_2 _ _) (meets_dict_update (b4 81 X.w) a b ne hd2) {ws,ws2,dd,Su,by rw[<-rel.length,<-adT.length];show hl,λh' wk _ hs=>?_};show{.cx,_,xa I (hH▸True.intro) hs (let⟨o,_,_,ho,_⟩:=wk;⟨o,ho⟩)<|AK (aS (Cb more kvs) hl) hd (adT.merge rel) wk,9,q}
variable{P:io}{w:mo}{A:wf}{E:Aad}{s:fv}{it d:cr}{i ep:Nat}{es:Array Do}{o:Go}
abbrev qB(f0:jp)(b:Bool)(d:cr)(i n ep:Nat)(ok ov:jp):Go:={cls:=.type "dict_itemiterator",dict:=none,data:=.fields #[f0,.bool b,-d,.int i 0,.int n 0,.int ep 0,ok,ov],slots:=#[]}
def RI(h:ss)(it d:cr)(i n ep:Nat):Prop:=∃f0 b ok ov,h.get? it>qB f0 b d i n ep ok ov/\(f0=.none\/∃a:Nat,f0=wP a)
def RI.ty(x:RI s.heap it d i 78 ep):s.TypeIs (-it) "dict_itemiterator":=by let(__,__,__,__,e,__):=x;show⟨_,e,rfl⟩
def RI.j3(x:RI h it d i n ep)(k:∀o,h.get? it>o->h'.get? it>o):RI h' it d i n ep:=by let(f0,b,ok,ov,e,c):=x;show{f0,b,ok,ov,k _ e,c}
def abL(g:s.heap.get? it>qB f0 b d i n ep ok ov)(hf:f0=.none\/∃a:Nat,f0=wP a)(q1:Q true s)
  (q2:∀h',h'.get? it>qB f0 true d i n ep ok ov->Heap.SameBut it s.heap h'->Q false (s\h')):f8 88 A (Builtin.Dict_items.ownedTupleIsFree (-it)) Q E s:=by
 rcases hf with rfl|⟨a,rfl⟩;·show ae<|cE g 9 9<|ah q1
 show ae<|cE g 9 9 ?_;show ae<|FA ?_;rw[dE];cases s.heap.get? a with
 |none=>show ah q1
 |some u=>
  show ae<|cE g 9 9 ?_;cases b with
  |true=>show ah<|q2 s.heap g<|wt _ _
  |false=>show ae (dW g 75 λh1 g1 s1=>ah<|q2 h1 g1 s1)
def Rc{Q:Aad}(iF:RI s.heap it d i 78 ep)(ho:s.heap.get? d>o)(hd:o.data=.dict es ep)(hi:i<78)
  (q:∀h',RI h' it d (i+1) 78 ep->h'.get? 35>{cls:=.type "tuple",data:=.seq #[es[i].key,es[i].val]}->(∀b x,b≠it->s.heap.get? b>x->h'.get? b>x)->h'.objs.size=35+1->Q (.ref 35) (s\h')):
  f8 88 A (Builtin.«dict_itemiterator.__next__» {[-it],[]}) (λfin s'=>∃u,fin=.done (.ret u)/\Q u s') E s:=by
 have hT:=iF.ty;let(f0,b,ok,ov,hit,hf):=iF;let(hp,g,dr,tk,os):=s;show ae<|ah<|ae<|ae<|ae<|i4 hT 83;show ae<|ju hit 9 ?_;have own:Builtin.Dict_items.ownsTuple "dict_itemiterator"=true:=by decide
 change f8 _ _ 139 _ _ _;show ae<|ah<|ae<|ik ho hd ?_;rw[az 75];show ae<|ah<|ae<|kR ho hd ?_;rw[az 75];show ah ?_;simp only[show ¬((i:Int)<0)from by lia,i9,dE,bK hi];show ae<|ae<|i4 hT<|ah<|ae<|qU hT ?_;change f8 _ _ (V' (-it) 3 (wP<|(i:Int)+1)>>=_) _ _ ⟨hp,g,dr,tk,os⟩;show ae (dW hit 75 λh1 e1 s1=>?_);have e1:h1.get? it>qB f0 b d (i+1) 78 ep ok ov:=by
  have e:((i+1:Nat):Int)=(i:Int)+1:=by lia
  unfold qB;simpa[wP]using e1
 have hT1:Shared.TypeIs ⟨h1,g,dr,tk,os⟩ (-it) "dict_itemiterator":=⟨_,e1,rfl⟩;show ae<|bP<|ae<|qU hT1<|ae<|qU hT1 ?_;show ae<|qe ?_;have lt:=aE hit;have z1:=s1.1;obtain⟨h2,DS⟩:∃h2,h2=h1.push {cls:=.type "tuple",data:=.seq #[es[i].key,es[i].val]}:=⟨_,rfl⟩;have e2:h2.get? it>qB f0 b d (i+1) 78 ep ok ov:=by rw[DS];show af _ e1
 have t2:h2.get? hp.objs.size>{cls:=.type "tuple",data:=.seq #[es[i].key,es[i].val]}:=by rw[DS,<-z1];show aH _ rfl
 have k2:∀b x,b≠it->hp.get? b>x->h2.get? b>x:=λb x nb e=>by rw[DS];show af _<|s1.extBut b x nb e
 have z2:h2.objs.size=hp.objs.size+1:=by rw[DS,cV,z1]
 rw[<-DS,z1];show ae (abL e2 hf ?_ λh3 e3 s3=>?_);·simp only[jM];show ae<|cE e2 9 9<|ae<|cE e2 9 9 ?_;show ae (dW e2 75 λh3 e3 s3=>?_);show ae (dW e3 75 λh4 e4 s4=>?_);show ae (dW e4 75 λh5 e5 s5=>?_);show ae (dW e5 75 λh6 e6 s6=>?_);have up:=λb x nb e=>s6.extBut b x nb<|s5.extBut b x nb<|s4.extBut b x nb<|s3.extBut b x nb e;show ae<|uY<|ah<|ah {_,9,q h6 {_,_,_,_,e6,.inr ⟨_,rfl⟩} (up _ _ (bA lt) t2) (λb x nb e=>up b x nb<|k2 b x nb e) (by rw[s6.1,s5.1,s4.1,s3.1,z2])}
 have s3:=s3;show ah<|ah {_,9,q h3 ⟨_,_,_,_,e3,hf⟩ (s3.extBut _ _ (bA lt) t2) (λb x nb e=>s3.extBut b x nb<|k2 b x nb e) (by rw[s3.1,z2])}
def VC(hh:A.handled=none)(iF:RI s.heap it d i 78 ep)(ho:s.heap.get? d>o)(hd:o.data=.dict es ep)(hi:78<=i)
  (q:∀h' e,(∀b x,b≠it->s.heap.get? b>x->h'.get? b>x)->(∃o,h'.get? e>o/\o.cls=.type "StopIteration")->E (-e) (s\h')):
  f8 88 A (Builtin.«dict_itemiterator.__next__» {[-it],[]}) Q E s:=by
 have hT:=iF.ty;let(f0,b,ok,ov,hit,hf):=iF;show ae<|ah<|ae<|ae<|ae<|i4 hT 83;show ae<|ju hit 9 ?_;have own:Builtin.Dict_items.ownsTuple "dict_itemiterator"=true:=by decide
 change f8 _ _ 139 _ _ s;show ae<|ah<|ae<|ik ho hd ?_;rw[az 75];show ae<|ah<|ae<|kR ho hd ?_;rw[az 75];show ah ?_;simp only[show ¬((i:Int)<0)from by lia,i9,dE,lK hi];show ae<|ae<|i4 hT 83;change f8 _ _ (V' (-it) 2 .none>>=_) _ _ s;show ae<|eY hit 9 75 (Tb.EL (s:=s) hh λh' e kp he=>q h' e (λb x nb g=>kp b x<|(bw _ _<|bN nb).trans g) he)
def abK(iF:RI s.heap it d i 78 ep)(ho:s.heap.get? d>o)(hd:o.data=.dict es ep)(hi:i<78)
  (q:∀h',RI h' it d (i+1) 78 ep->h'.get? 35>{cls:=.type "tuple",data:=.seq #[es[i].key,es[i].val]}->(∀b x,b≠it->s.heap.get? b>x->h'.get? b>x)->h'.objs.size=35+1->Q (some<|.ref 35) (s\h')):
  f8 88 A (pyNext (-it)) Q E s:=by
 show ae<|fC<|sw iF.ty cB<|bC cB iF.ty gR (Rc iF ho hd hi λh' a b c e=>ah<|q h' a b c e)<|gF _
def VB(iF:RI s.heap it d i 78 ep)(ho:s.heap.get? d>o)(hd:o.data=.dict es ep)(hi:i<78)
  (q:∀h',RI h' it d (i+1) 78 ep->h'.get? 35>{cls:=.type "tuple",data:=.seq #[es[i].key,es[i].val]}->(∀b x,b≠it->s.heap.get? b>x->h'.get? b>x)->h'.objs.size=35+1->Q (.ref 35) (s\h')):
  f8 88 A (Builtin.SmallTypes.nextOf (-it)) Q E s:=by
 show ae<|sw iF.ty cB<|bC cB iF.ty gR (Rc iF ho hd hi λh' a b c e=>ah<|q h' a b c e)<|gF _
def abJ(hh:A.handled=none)(iF:RI s.heap it d i 78 ep)(ho:s.heap.get? d>o)(hd:o.data=.dict es ep)(hi:78<=i)
  (q:∀h',(∀b x,b≠it->s.heap.get? b>x->h'.get? b>x)->Q none (s\h')):f8 88 A (pyNext (-it)) Q E s:=by
 show ae<|fC<|sw iF.ty cB<|bC cB iF.ty gR (VC (show A.in1.handled=none from hh) iF ho hd hi λh' e kp ⟨oe,he,ce⟩=>?_)<|gF _;show ae<|iK ⟨oe,he,ce⟩ mC<|ah<|q _ kp
def VA(hh:A.handled=none)(iF:RI s.heap it d i 78 ep)(ho:s.heap.get? d>o)(hd:o.data=.dict es ep)(hi:78<=i)
  (q:∀h' e,(∀b x,b≠it->s.heap.get? b>x->h'.get? b>x)->(∃o,h'.get? e>o/\o.cls=.type "StopIteration")->E (-e) (s\h')):f8 88 A (Builtin.SmallTypes.nextOf (-it)) Q E s:=by
 show ae<|sw iF.ty cB<|bC cB iF.ty gR (VC (show A.in1.handled=none from hh) iF ho hd hi λh' e kp he=>q h' e kp he)<|gF _
end
structure Tk(es:Array Do)(lo:cr)(h:ss)(as:Aai):Prop where
 up:as.Pairwise (·<·)
 ab:∀a∈as,lo<=a
 tp:∀(j:Nat)(a:cr),as[j]?>a->∃hj:j<78,h.get? a>{cls:=.type "tuple",data:=.seq #[es[j].key,es[j].val]}
section
variable{P:io}{w:mo}{A:wf}{s:fv}{R:P3->fv->Prop}{es:Array Do}{ep:Nat}{d:cr}{o:Go}
def Tk.low{lo lo':cr}(x:Tk es lo h as)(l:lo'<=lo):Tk es lo' h as:={x.up,λa ha=>aS l<|x.ab a ha,x.tp}
abbrev Ca(acc:Aak)(c:Nat):Go:={cls:=.type "list",dict:=none,data:=.seq acc c,slots:=#[]}
def acn(hh:A.handled=none)(nSI:S≠I)(dS:d≠S)(dI:d≠I)(DP:o.data=.dict es ep)(hz:78<=dL)(res:jp){h0:ss}(lS:S<h0.objs.size)(lI:I<h0.objs.size)
  (k:∀h' tk acc c as,(∀b x,b≠S->b≠I->h0.get? b>x->h'.get? b>x)->h'.get? S>Ca acc c->as.length=78->Tk es h0.objs.size h' as->acc.toList=as.map Value.ref->R (.ok<|.ret res) 44):
  ∀(n i:Nat)(h:ss)(tk c:Nat)(acc:Aak)(as:Aai),78 -i=n->i<=78->RI h I d i 78 ep->h.get? d>o->(∀b x,b≠S->b≠I->h0.get? b>x->h.get? b>x)->h.get? S>Ca acc c->
   acc.toList=as.map Value.ref->as.length=i->Tk es h0.objs.size h as->h0.objs.size<=h.objs.size->AT 88 A (.builtin "list.extend.loop" {[-S,-I,res],[]}) R (s\(h,tk)):=by
 ext n
 induction n with
 |zero=>
  ext i h tk c acc as en hi st gd kp gS ea la T lh;show dA wQ ?_;show ae (abJ hh st gd DP ∅ λh' kq=>ah<|k h' tk acc c as (λb x n1 n2 e=>kq b x n2<|kp b x n1 n2 e) (kq _ _ nSI gS) ∅ {T.up,T.ab,λj a hj=>(T.tp j a hj).imp λ_ e=>kq a _ (bA<|aX lI<|T.ab a<|aM hj) e} ea)
 |succ n ih=>
  ext i h tk c acc as en hi st gd kp gS ea la T lh;have b6:i<78:=by lia
  have la2:acc.size=i:=by rw[<-bj,ea,ag,la]
  show dA wQ ?_;show ae (abK st gd DP b6 λh' mi gt kq zq=>?_);have gS':=kq S _ nSI gS;obtain⟨h2,eh⟩:∃h2,h2=h'.update S (Obj.mapSeq (·.push (Value.ref h.objs.size))):=⟨_,rfl⟩;have go:∀b x,b≠S->h'.get? b>x->h2.get? b>x:=λb x nb e=>by rw[eh];show(bw _ _<|bN nb).trans e
  have gU:=cD (Obj.mapSeq (·.push (Value.ref h.objs.size))) gS' rfl;rw[<-eh]at gU;obtain⟨c2,gS2⟩:∃c,h2.get? S>Ca (acc.push<|Value.ref h.objs.size) c:=⟨_,gU⟩;show ae<|jJ gS' 9 (ah {gZ oK _,?_}) (by rw[la2];lia) (by change(acc.push<|Value.ref h.objs.size).size<=dL+1;rw[Array.size_push,la2];lia);have nS:=bA<|aX lS lh;have fin:=ih (i+1) h2 tk _ (acc.push<|Value.ref h.objs.size) (as++[h.objs.size]) ∅ b6 (mi.j3 λx e=>go I x (bN nSI) e) (go d o dS<|kq d o dI gd) (λb x n1 n2 e=>go b x n1<|kq b x n2<|kp b x n1 n2 e) gS2
   (by rw[wz,ea,ba];rfl) (by rw[aU,la];rfl) {ng.mpr {T.up,jq _ _,λa ha b hb=>?_},λa ha=>?_,λj a hj=>?_} (bU<|gX lh<|aE<|go _ _ nS gt)
  ·rw[eh]at fin;show fin
  ·rw[aw.mp hb];let(j,hj):=eF.mp ha;let(__,e):=T.tp j a hj;show aE e
  ·rcases bG.mp ha with ha|ha;·show T.ab a ha
   rw[aw.mp ha];show lh
  by_cases q:j<as.length;·rw[iY q]at hj;have l1:=T.ab a<|aM hj;show(T.tp j a hj).imp λ_ e=>go a _ (bA<|aX lS l1)<|kq a _ (bA<|aX lI l1) e
  have ej:j=i:=by have:=(ar.mp hj).1;rw[aU,b5]at this;lia
  subst ej;rw[gn ∅,la,yf]at hj;have hb:h.objs.size=a:=by simpa using hj
  subst hb;show{b6,go _ _ nS gt}
variable{E:Aad}{r:cr}
def aco(hh:A.handled=none)(hv:s.heap.IsItemsView r d)(gd:s.heap.get? d>o)(DP:o.data=.dict es ep)(hz:78<=dL)
  (q:∀h' tk acc c as,(∀b x,s.heap.get? b>x->h'.get? b>x)->h'.get? 35>Ca acc c->as.length=78->Tk es (35+1) h' as->acc.toList=as.map Value.ref->Q (.ref 35) 44):
  f8 88 A (Ix (.type "list") [-r]) Q E s:=by
 show AM (Q₁:=λv z=>v=.ref 35/\z=(s\s.heap.push (Ca #[] 0))) PySem.F.called_list (PySem.F.typeCall_list_1 _) PySem.F.entry_list_init (code_list_new _ ⟨rfl,rfl⟩) ?_;ext v z ⟨rfl,rfl⟩;have g1:(s.heap.push<|Ca #[] 0).get? 35>Ca #[] 0:=aH _ rfl;show{⟨_,g1,rfl⟩,PySem.F.args_list_init_2 _ _,?_};let(ov,go,hc,hd):=id hv;have lr:=aE go;have ld:=aE gd;obtain⟨S,eS⟩:∃S,S=35:=⟨_,rfl⟩;rw[<-eS]at g1 q lr ld⊢;have II:∀b x,s.heap.get? b>x->(s.heap.push<|Ca #[] 0).get? b>x:=λb x e=>af _ e;have z1:(s.heap.push<|Ca #[] 0).objs.size=S+1:=by rw[cV,eS]
 generalize (s.heap.push<|Ca #[] 0)=h1 at g1 II z1⊢;change f8 _ _ (do let old<-Builtin.List.listItems (-S);Builtin.List.listUpdate (-S) (λ_=>#[]);letGo old.toList.reverse;Builtin.List.listExtendWith (-S) (-r) .none) _ _ _;unfold Builtin.List.listItems;show ae<|ae<|cR g1 9 83;show ae (m:=Y' S (λ_=>#[]))<|jJ g1 9<|ae<|uY ?_;have g2:=cD 19 g1 rfl;have vB:∀b x,b≠S->h1.get? b>x->(h1.update S 19).get? b>x:=λb x nb e=>(bw _ _<|bN nb).trans e;have z2:(h1.update S 19).objs.size=S+1:=by rw[<-z1];show(bS ..).1
 generalize (h1.update S 19)=h2 at g2 vB z2⊢;obtain⟨c2,g2⟩:∃c,h2.get? S>Ca #[] c:=⟨_,g2⟩;unfold Builtin.List.listExtendWith;have hv2:h2.IsItemsView r d:={ov,vB _ _ (aD lr)<|II _ _ go,hc,hd};show ae<|jC hv2.typeIs ?_;have a1:Builtin.List.listSameRef (-S) (-r)=false:=by simp[Builtin.List.listSameRef,bA lr]
 have a2:(Value.type "dict_items"==Value.type "list")=false:=by decide
 have a3:(Value.type "dict_items"==Value.type "tuple")=false:=by decide
 simp only[a1,a2,a3,Bool.or_false,gj,i9];have gd2:=vB _ _ (aD ld)<|II _ _ gd;show ae<|Nm (s:=s\h2) hv2 gd2 DP ?_;obtain⟨h3,eh3⟩:∃h3,h3=h2.push (qB .none false d 0 78 ep .none .none):=⟨_,rfl⟩;have kp3:∀b x,h2.get? b>x->h3.get? b>x:=λb x e=>by rw[eh3];show af _ e
 have g3:h3.get? (S+1)>qB .none false d 0 78 ep .none .none:=by rw[eh3,<-z2];show aH _ rfl
 have z3:h3.objs.size=S+2:=by rw[eh3,cV,z2]
 change f8 _ _ _ _ _ (s\h2.push (qB .none false d 0 78 ep .none .none));rw[<-eh3];change f8 _ _ (J' _ (Builtin.List.listLengthHint (-r))>>=_) _ _ _;rw[show((s\h2):fv).heap.objs.size=S+1 from z2];have key:∀(h:ss)(c tk:Nat),(∀b x,b≠S->h3.get? b>x->h.get? b>x)->h.get? S>Ca #[] c->h.objs.size=S+2->
   AT 88 A.in1 (.builtin "list.extend.loop" {[-S,.ref<|S+1,.none],[]}) (wants (λr aae=>r=Value.none/\Q (Value.ref S) aae) E) (s\(h,tk)):=λh c tk kp gS zh=>by
  show acn (show A.in1.handled=none from hh) (aD<|cI S) (aD ld) (aD<|b7 ld) DP hz .none (by rw[zh];show Nat.lt_add_of_pos_right 7) (zh▸cI _) (λh' Hu acc c' as k1 k2 k3 k4 k5=>{9,q h' Hu acc c' as (λb x e=>?_) k2 k3 (k4.low<|zh▸eI _) k5})
   78 0 h tk c #[] [] (Nat.sub_zero _) (aF _) {_,_,_,_,kp _ _ (bA<|cI S) g3,.inl rfl} (kp _ _ (aD ld)<|kp3 _ _ gd2) (λb x _ _ e=>e) gS rfl rfl {.nil,λa ha=>(by cases ha),λj a hj=>(by simp at hj)} (ao _)
  have lb:b<S:=eS▸aE e;show k1 b x (aD lb) (aD<|b7 lb)<|kp _ _ (aD lb)<|kp3 _ _<|vB _ _ (aD lb)<|II _ _ e
 have gS3:=kp3 _ _ g2;show ae<|bP<|PySem.W.kdx_hint {_,kp3 _ _<|vB _ _ (aD lr)<|II _ _ go,hc} ?_;show oq (λ_=>?_) (λ_=>ah {gZ oK _,key _ c2 _ (λb x _ e=>e) gS3 z3});show ae<|i6<|ae ?_;change f8 _ _ (Y' S (·.push .none)>>=λ_=>Y' S (·.pop)) _ _ _;show ae<|jJ gS3 9 ?_;have g4:=cD (Obj.mapSeq (·.push Value.none)) gS3 rfl;show jJ g4 rfl ?_;show ah {gZ oK _,key _ _ _ (λb x nb e=>?_) (cD (Obj.mapSeq (·.pop)) g4 9) ?_};·show(bw _ _<|bN nb).trans<|(bw _ _<|bN nb).trans e
 rw[(bS ..).1,(bS ..).1,z3]
end
section
variable{X:Cx}{bi:Aab}{Z:St}{H:Hp}{s:fv}
def Inv.low(I:Inv X bi Z H s):33<=35/\92<35/\(∀x c,X.env.cells.lookup x>c->c<35)/\∀p∈X.pn++bi,p.1<35:=
 {I.sz,I.lt,λx c hc=>let⟨_,z⟩:=I.cell x c hc;z.lt,λp hp=>aE (I.pin p hp).1}
def Inv.MB(I:Inv X bi Z H s)(h:eP 81 X.w X.K H d kvs):(d==zn)=false/\∃o es ep,s.heap.get? d>o/\78<=10000000/\PH o es ep (kvs.map λp=>(V.ref p.2.1,p.2.2)):=by
 let(lo,xs,rel,hl,o,es,ep,ga,hx,hdt,he,__):=I.rH h;have ents:∀{l:List 90}{xs:List (NK×cr×jp)},Paired 66 l xs->Paired 135 (l.map λp=>(V.ref p.2.1,p.2.2)) (xs.map<|WF<|pj 81 X.w):=λr=>by
  induction r with
  |nil=>show .nil
  |@cons p q ps qs h _ ih=>show .cons {by change Value.ref q.2.1=Value.ref p.2.1;rw[h.2.1],h.2.2} ih
 show{lo,o,es,ep,ga,by rw[yI he,<-rel.length];show hl,hx,hdt,he▸ents rel}
inductive YB(P:io)(w:mo)(K:Frag)(Q:VK)(x:V)(H1:Hp):Prop
 |mk d kvs (_:x=-d) (_:eP P w K H1 d kvs) (_:∀p,H1 p=none->Q (-p) (upd H1 p<|.ext<|zg p d))
end
def abu(P:io)(w:mo)(K:Frag)(td:TE):TE:=λZ H Q=>td Z H λx H1=>YB P w K Q x H1
section
variable{X:Cx}
def Lc(hl:PE X l tl)(Bv:At l "items" X.env (wT l X.env)=wT l X.env:=by rfl)(Bu:52=true:=by rfl):
  PE X (.Call (.Attribute l "items" Gc) [] [] fu) (abu 81 X.w X.K tl):=by
 ext bi s Z H R I h;show yz Bv Bu (dk (hl bi s Z H _ I h) λv s1 x H1 I1 r1 q1=>?_);let(d,kvs,e,hd,q):=q1;subst e;cases r1;let(lo,o,es,ep,ga,__,m):=I1.MB hd;have ty:s1.TypeIs (-d) "dict":={o,ga,m.1.1};show{"dict","dict.items",eK,kM,yB,ty,λb q=>?_,gw rfl (Cy ?_)};·cases q;show{o,ga,m.1.2.1}
 show bC kM ty yb ?_ (wR _);show ae<|ae<|iO ty 83;unfold Builtin.Dict.showsAll;rw[lo];show ae<|ah<|ae<|c9<|ah {_,9,?_};show{.ref 29,_,I1.laid (λb o e=>af _ e) (ao _)<|WJ {_,43,9,9},9,q _ 20}
abbrev Ye(H:Hp):Aan->Aal->Prop:=Paired λ(y:V)(p:V×V)=>∃a,y=-a/\H a>.tup [p.1,p.2]
theorem Lg:∀{as:Aai}{ps:Aal},as.length=ps.length->(∀(j:Nat) a p,as[j]?>a->ps[j]?>p->H a>.tup [p.1,p.2])->Ye H (as.map V.ref) ps
 |[],[]=>λ_ _=>.nil
 |[],_::_=>λe _=>by simp at e
 |_::_,[]=>λe _=>by simp at e
 |a::as,p::ps=>λe h=>.cons {a,9,h 0 a p rfl rfl} (Lg (↑e) λj b q e1 e2=>h (j+1) b q (↑e1)<|↑e2)
theorem aaA:∀as:Aai,Vals (as.map V.ref) (as.map Value.ref)
 |[]=>.nil
 |_::as=>.cons rfl (aaA as)
def Jq(hA:X.A.handled=none):fB X (.type "list") (λxs H Q=>∃(r d:cr)(kvs:List 90),xs=[-r]/\H r>.ext (zg r d)/\eP 81 X.w X.K H d kvs/\
  ∀l ys H',(∀b u,H b>u->H' b>u)->H l=none->H' l>.lst ys->Ye H' ys (kvs.map λp=>(.ref p.2.1,p.2.2))->Q (-l) H'):=by
 ext bi s Z H xs us Q I r h;let(v,d,kvs,rfl,hv,hd,q):=h;let(u,rfl,ru):=iw r;cases ru;let(iv,__):=(show da 81 X.w H s.heap v (.ext<|zg v d)from I.bE v _ hv);let(lo,o,es,ep,ga,hz,m):=I.MB hd;have hl:(kvs.map λp=>(V.ref p.2.1,p.2.2)).length=78:=by rw[aQ m.2.2,bj]
 have hs:78<=dL:=by rw[bM];lia
 show aco hA iv ga m.2.1 hs λh' tk acc c as kp gl la T ea=>?_;have low:=I.low;have z1:35<=35+1:=eI _;let(H',I2,k1,k2,k3):=Inv.Pw {low.1,low.2.1,low.2.2.1,low.2.2.2} as (kvs.map λp=>(V.ref p.2.1,p.2.2)) H (I.kept (t':=tk) kp) (by rw[la,hl]) (T.up.imp λh=>aD h)
  (λa ha=>{aS z1<|T.ab a ha,I.bE.fresh<|aS z1<|T.ab a ha}) (λj a p e1 e2=>by let(hj,e3):=T.tp j a e1;let(e,he,r1,r2):=Paired.at' m.2.2 e2;rw[cv,bK hj]at he;cases he;show⟨_,_,r1,r2,e3⟩)
 have na:35∉as:=λz=>absurd (T.ab _ z)<|Nat.not_succ_le_self _;have hn:=I.bE.fresh<|ao _;have I3:=I2.Jt (o:=.lst<|as.map V.ref) (by rw[k2 _ na];show hn) {by rw[ag,la];show hs,as.map Value.ref,c,aaA as,ea▸gl} low.1 (bA low.2.1) (λx c h=>aD<|low.2.2.1 x c h) (λp hp=>aD<|low.2.2.2 p hp);show{.ref 35,_,I3,9,q _ (as.map V.ref) _ (λb u e=>?_) hn au (Lg (by rw[la,hl]) λj a p e1 e2=>?_)};·rw[aC<|a9 e hn];show k1 b u e
 rw[aC (λz=>na (by rw[<-z];show aM e1))];show k3 j a p e1 e2
variable{P:io}{w:mo}{d:cr}{o:Go}{es:Array Do}{ep:Nat}
def abC(lo:(d==zn)=false)(hx:o.ExactDict)(hd:o.data=.dict es ep):PySem.W.KdlSrc P w "dict" d d 78 (λi v=>∃hi:i<78,v=es[i].key) (λh=>h.get? d>o) where
 type:=λ_ g=>{o,g,hx.1}
 there:=λ_ g=>{aE g,aE g}
 keep:=λ_ _ g k=>k d (.inl 9) _ g
 notList:=by decide
 notTuple:=by decide
 hint:=λ_ _ _ _ g q=>PySem.W.kdl_hint_dict {o,g,hx.1} q
 iter:=λA s hh g=>{_,λi h=>h.IsKeyIter 35 d i 78 ep/\h.get? d>o,λ_ _ q=>Ra lo g hx hd q,{
  sub:=λb hb=>by simp at hb;simp[hb]
  frame:=λi h h' st k=>by obtain⟨⟨v,e,c⟩,g'⟩:=st;show{{v,k _ 75 _ e,c},k d 75 _ g'}
  item:=λi s' Q E hi st q=>Vx st.1 st.2 hd hi λh' it' sb=>q _ h' s'.toks ⟨hi,rfl⟩ {it',sb.extBut _ _ (aD<|aE g) st.2} λb x hb e=>sb.extBut b x (λz=>hb (by simp[z])) e
  done:=λs' Q E st q=>K7 hh st.1 st.2 hd (ao _) λh' kp=>q h' s'.toks λb x hb e=>kp b x (λz=>hb (by simp[z])) e
  self:=λ_ _ _ _ st q=>A1 st.1 q},{{_,43,9,9},af _ g}}
def Ph(hA:X.A.handled=none):fB X (.builtin "sorted") (λxs H Q=>∃(a:cr)(kvs:List 90)(rows:Aaa),xs=[-a]/\eP 81 X.w X.K H a kvs/\kvs.map (·.1)=rows.map d8/\(2<=rows.length->∀r∈rows,r≠[])/\rows.length<64/\SortedTo X.K H (kvs.map λp=>.ref p.2.1) rows Q):=by
 ext bi s Z H xs us Q I r h;let(a,kvs,rows,rfl,ha,hk,jl,qE,q):=h;let(u,rfl,rx):=iw r;cases rx;let(lo,o,es,ep,ga,hz,m):=I.MB ha;have hl:(kvs.map λp=>(V.ref p.2.1,p.2.2)).length=78:=by rw[aQ m.2.2,bj]
 rw[ag]at hl;have hlr:kvs.length=rows.length:=by have:=c8 List.length hk;rw[ag,ag]at this;show this
 show fJ rf oY pE (pH _) ?_;unfold Builtin.«sorted»;show ae (m:=W' "sorted" 1 1 _) 83;show ae (Cz (A:=X.A.in1) (abC lo m.1 m.2.1) (↑hA) ga (by rw[bM];lia) λh' tk acc kp it=>?_);have ea:acc.toList=(kvs.map λp=>p.2.1).map Value.ref:=by
  show Fv λj=>?_;rw[cv,cX,aN];by_cases hj:j<78
  ·have hj':j<acc.size:=by rw[it.1];show hj
   let(__,e1):=it.2 j _<|bK hj';have nM:kvs[j]?>kvs[j]'∅:=aq ∅;let(e,he,r1,__):=Paired.at' m.2.2 (i:=j) (x:=(V.ref (kvs[j]'∅).2.1,(kvs[j]'∅).2.2)) (by rw[aN,nM];rfl);rw[cv,bK hj]at he;cases he;rw[bK hj',e1,nM,iA];show c8 some r1
  rw[lK (by rw[it.1];lia),jR ∅];rfl
 rw[ea];have e2:(kvs.map λp=>V.ref p.2.1)=(kvs.map λp=>p.2.1).map V.ref:=by rw[cX];rfl
 rw[e2]at q;show Ba (s:=s) (I.kept (t':=tk) kp) (by rw[ag,hlr]) (λi z b e3 e4=>?_) jl qE q;rw[aN]at e4;let(p,e5,rfl):=aY.mp e4;have e6:(kvs.map (·.1))[i]?>d8 z:=by rw[hk,aN,e3];rfl
 rw[aN,e5]at e6;have:=(ha.2 p<|aM e5).1;rw[show p.1=d8 z from bR e6]at this;show Dv this
end
def abw(P:io)(w:mo)(K:Frag)(MI:List (TE×TE)):TE:=λZ H Q=>∀p,H p=none->MN MI Z (upd H p 34) λps H2=>∃b k v,ps=[(-b,v)]/\gm K H2 k b/\H2 p>.dK []/\Q (-p) (upd H2 p<|.ext<|DN P w p [(k,b,v)])
def VN(hu:X.A.units+101<wS)(h:El X pos keys values MI)(mZ:keys.all (·.isSome)=true)(hl:keys.length=values.length)(h0:keys≠[])
  (h15:keys.length<=15):PE X (.Dict keys values pos) (abw 81 X.w X.K MI):=by
 ext bi s Z H Q I q;have I1:=I.laid (t':=89) (λ_ _ q=>af _ q) (ao _)<|Pb s.heap I.big;show wpAny_Dict_any mZ hl h0 h15 (iP (h bi _ Z _ _ I1<|q _<|I.bE.fresh<|ao 35) λws s2 aho=>?_);let(ps,H2,I2,rel,b,k,v,e,hk,hp,q2):=aho;subst e;cases rel with
 |@cons _ x _ _ r1 t=>
  cases t;let(kx,vx):=x;let(r1,r2):=r1;obtain rfl:kx=Value.ref b:=r1;unfold storeAll;let(lo,xs,rl,iz,dd):=I2.rH<|{.inr ⟨rfl,hp⟩,λ_ hp=>by cases hp};have lx:55<=dL:=by rw[<-rl.length];show aF _
  show ae<|ae (wpAny_dictSet_heap (show X.A.units+100<wS by lia) (I2.DG hk) dd λh' wk hs=>ah ?_);let(o,es,ep,g,g2,g3,g4,__,g5):=wk;have I3:∀tk,Inv X bi Z (upd H2 35<|.ext<|DN 81 X.w 35 [(k,b,v)]) (s2\(h',tk)):=λtk=>
   xa I2 (hp▸True.intro) hs ⟨o,g⟩ (Uo {lo,_,GI rl r2,by change 1<=10000000;decide,o,es,ep,g,g2,g3,g4,g5})
  show ah {.ref 35,_,I3 _,9,q2}
section
variable{P:io}{w:mo}{A:wf}{E:Aad}{v:fv}{es:Array Do}{ep:Nat}{o:Go}
structure Zi(h:ss)(z ti to i1 i2 d l:cr)(f:jp)(k n ep:Nat):Prop where
 self:GE h z ti to f
 ins:x0 h ti (-i1) (-i2)
 outs:∃a b,x0 h to a b
 w1:RI h i1 d k n ep
 w2:h.IsListIter i2 l k
def Zi.ne(g:Zi h z ti to i1 i2 d l f k n ep):(ti≠z/\to≠z/\i1≠z/\i2≠z)/\(ti≠i1/\ti≠i2/\to≠i1/\to≠i2)/\i1≠i2:=by
 obtain⟨gs,gi,⟨a,b,go⟩,⟨_,_,_,_,q1,_⟩,⟨o2,q2,c2,_⟩⟩:=g;show{{dw gi gs rfl rfl 7,dw go gs rfl rfl 7,dw q1 gs rfl rfl 7,dw q2 gs c2 rfl 7},
  {dw gi q1 rfl rfl 7,dw gi q2 rfl c2 7,dw go q1 rfl rfl 7,dw go q2 rfl c2 7},dw q1 q2 rfl c2 7}
def abg(N4:ti≠to)(g:Zi v.heap z ti to i1 i2 d l .none k 78 ep)
  (gd:v.heap.get? d>o) (hx:o.ExactDict) (DP:o.data=.dict es ep) (t2:v.heap.IsList l ys) (hk:k<78) (ey:ys[k]?>y)
  (q:∀h',Zi h' z ti to i1 i2 d l (wP<|v.heap.objs.size+1) (k+1) 78 ep->h'.get? v.heap.objs.size>{cls:=.type "tuple",data:=.seq #[es[k].key,es[k].val]}->x0 h' (v.heap.objs.size+1) (.ref v.heap.objs.size) y->(∀c o,c≠z->c≠to->c≠i1->c≠i2->v.heap.get? c>o->h'.get? c>o)->Q (some<|.ref<|v.heap.objs.size+1) (v\h')):
  f8 88 A (pyNext (-z)) Q E v:=by
 obtain⟨⟨a1,a2,a3,a4⟩,⟨a5,a6,a7,a8⟩,Wf⟩:=g.ne;let(gs,gi,go,g1,g2):=g;have dz:d≠z:=dw gd gs hx.1 rfl 7;let(o2,q2,c2,r2):=g2;let(ol,ql,cl,rl):=t2;have c1:l≠z:=dw ql gs cl rfl 7;have c4:l≠to:=by let(__,__,e):=go;show dw ql e cl rfl 7
 have c5:l≠i1:=by let(__,__,__,__,e1,__):=id g1;show dw ql e1 cl rfl 7
 have lt:v.heap.objs.size≠z/\v.heap.objs.size≠to/\v.heap.objs.size≠i2:={bA<|aE gs,by
  let(__,__,e):=go;show bA<|aE e,bA<|aE q2}
 show Qx (n:=1) (W1:=λh=>RI h i1 d (k+1) 78 ep/\h.get? v.heap.objs.size>{cls:=.type "tuple",data:=.seq #[es[k].key,es[k].val]}) (W2:=λh=>h.IsListIter i2 l<|k+1) {⟨a1,a2,a3,a4⟩,a5,a6,a7,a8} N4 gs gi go (λp R F r1 K=>?_) (λp R F kp K=>zo (s:=v\p) {o2,kp _ _ a4 a8.symm Wf.symm q2,c2,r2} {ol,kp _ _ c1 c4 c5 ql,cl,rl} ey K)
  (λh h' ⟨a,b⟩ kp=>{a.j3 λo e=>kp _ _ a3 a7.symm Wf e,kp _ _ lt.1 lt.2.1 lt.2.2 b}) (λh h' zq kp=>by let(o,e,r):=zq;show{o,kp _ _ a4 a8.symm e,r}) λh' x1 x2 x3 x4 x5=>q h' {x1,x2,x3,x4.1,x5} x4.2
 have z1:p.objs.size=v.heap.objs.size:=r1.1;show VB (s:=v\p) (g1.j3 λo e=>r1.extBut _ _ a3 e) (r1.extBut _ _ dz gd) DP hk λp2 k2 tq r2 MC=>?_;change R (.ref p.objs.size) _
 replace tq:p2.get? p.objs.size=_:=tq
 replace MC:p2.objs.size=p.objs.size+1:=MC
 rw[z1]at tq MC⊢;show K p2 MC ⟨k2,tq⟩ r2
def abf(hh:A.handled=none)(g:Zi v.heap z ti to i1 i2 d l .none k 78 ep)(gd:v.heap.get? d>o)(hx:o.ExactDict)(DP:o.data=.dict es ep)(hk:78<=k)
  (q:∀h',(∀c o,c≠z->c≠to->c≠i1->c≠i2->v.heap.get? c>o->h'.get? c>o)->Q none (v\h')):
  f8 88 A (pyNext (-z)) Q E v:=
 US g.ne.1.2.2.1 g.self g.ins (λp R F r1 K=>VA (s:=v\p) (show A.in1.handled=none from hh) (g.w1.j3 λo e=>r1.extBut _ _ g.ne.1.2.2.1 e) (r1.extBut _ _ (dw gd g.self hx.1 9 7) gd) DP hk K) q
abbrev dIt(d:cr)(n ep:Nat):Go:={cls:=.type "dict_itemiterator",data:=.fields #[.none,.bool false,-d,.int 0 0,.int n 0,.int ep 0,.none,.none]}
def abk(hv:v.heap.IsItemsView r d)(gd:v.heap.get? d>o)(DP:o.data=.dict es ep)(hl:v.heap.IsList l ys)
  (q:∀h' n,n=v.heap.objs.size->Zi h' (n+4) (n+2) (n+3) n (n+1) d l .none 0 78 ep->(∀c o,v.heap.get? c>o->h'.get? c>o)->Q (.ref<|n+4) (v\h')):
  f8 88 A (Ix (.type "zip") [-r,-l]) Q E v:=by
 show aax (U:=dIt d 78 ep) (V:={cls:=.type "list_iterator",data:=.fields #[-l,.int 0 0]}) (C:=λs=>s.heap.IsItemsView r d/\s.heap.get? d>o/\s.heap.IsList l ys) (.of_wp λprog w A R s h=>?_) ⟨hv,gd,hl⟩ rfl rfl λh' n e g5 g3 g4 g1 g2=>q h' n e {g5,g3,g4,{_,_,_,_,g1,.inl rfl},⟨_,g2,rfl,rfl⟩};let(hp,g,dr,tk,os):=s;obtain⟨⟨hv,gd,hl⟩,h⟩:=h;have T3:=sub_zip;have hV:Heap.IsItemsView (Shared.heap ⟨hp,g,dr,tk,os⟩) r d:=hv;have hL:Heap.IsList (Shared.heap {hp.push<|dIt d 78 ep,g,dr,tk,os}) l ys:=by let(o,e,r):=hl;show{o,af _ e,r}
 wp_walk using Nm hV gd DP,jX hL
 show⟨_,rfl,h⟩
end
def ItZ(K:Frag)(d l:cr)(o:Go)(u:HO)(kvs:Aal):It:=
 {λi H=>H d>.fR o u/\i<kvs.length/\∃ys y,aT K H l ys/\ys[i]?>y,
  λi H x H'=>∃p q kv y,x=-p/\H q=none/\upd H q (.tup [kv.1,kv.2]) p=none/\H'=upd (upd H q<|.tup [kv.1,kv.2]) p (.tup [-q,y])/\kvs[i]?>kv/\∀ys,aT K H l ys->ys[i]?>y,
  λi H=>H d>.fR o u/\kvs.length<=i}
def abr{K:Frag}(m:PH o es ep kvs)(N4:ti≠to):
  Turn P w K 58 (ItZ K d l o u kvs) (iZ z ti to i1 i2) z (λi h=>Zi h z ti to i1 i2 d l .none i 78 ep) where
 mem:=av
 obj:=λi h zq=>by obtain⟨gs,gi,go,⟨_,_,_,_,q1,_⟩,⟨_,q2,_,d2⟩⟩:=zq;show Ho gs gi go q1 rfl q2 d2
 keep:=λi h h' st k=>by obtain⟨gs,gi,⟨u,v,go⟩,w1,⟨o2,q2,r2⟩⟩:=st;show{k z (by simp[iZ]) _ gs,k ti (by simp[iZ]) _ gi,{u,v,k to (by simp[iZ]) _ go},w1.j3 λo e=>k i1 (by simp[iZ]) _ e,{o2,k i2 (by simp[iZ]) _ q2,r2}}
 item:=by
  ext X hP hw hK hc i bi s Z H E I hf st hg;subst hP hw hK;let(hd,hi,ys,y,hb,hy):=hg;let(wb,Nn,Dh,xF):=I.list hb;let(u2,IQ,HZ):=Nn.get hy;have hl:kvs.length=78:=by rw[aQ m.2.2,bj]
  have ga:s.heap.get? d>o:=(I.bE d _ hd).1;obtain⟨kv,nM⟩:∃kv,kvs[i]?>kv:={_,aq hi};have W7:i<78:=by lia
  let(e,he,r):=Paired.at' m.2.2 nM;have ee:es[i]=e:=by rw[cv,bK W7]at he;show bR he
  show abg N4 st ga m.1 m.2.1 Dh.isList W7 (y:=u2) (↑IQ) λh1 g1 tq pr kp=>{_,9,?_};show wA g1.self λh2 z2 sb=>?_;have sU:Heap.SameBut z h1 h2:=sb;have al:∀c∈iZ z ti to i1 i2,c<35:=λc hc=>by obtain⟨gs,gi,go,⟨_,_,_,_,q1,_⟩,⟨_,q2,_,d2⟩⟩:=id st;let(__,e,__):=Ho gs gi go q1 rfl q2 d2 c hc;show aE e
  have lz:z<35:=al z av;have vB:∀c o,c∉iZ z ti to i1 i2->s.heap.get? c>o->h2.get? c>o:=λc o hc e=>
   sU.extBut c o 26 (kp c o 26 26 26 26 e)
  have t2:=sU.extBut _ _ (bA lz) tq;have lz1:z<35+1:=b7 lz;have p2:=sU.extBut _ _ (bA lz1) pr;have I2:=I.QL (t':=89) (xs:=[kv.1,kv.2]) (us:=[es[i].key,es[i].val]) vB hf (ao _) {⟨_,t2,rfl,_,rfl⟩,_,t2,9} (.cons (by rw[ee];show r.1)<|.cons (by rw[ee];show r.2) .nil) 95;have low:=I.low;have hn1:H (35+1)=none:=I.bE.fresh<|eI _;have LA:upd H 35 (.tup [kv.1,kv.2]) (35+1)=none:=by rw[aC<|bA<|cI _];show hn1
  have I3:=I2.Jt (D:=35+1) (o:=.tup [.ref 35,y]) LA {95,[.ref 35,u2],.cons rfl (.cons HZ .nil),{_,p2,9,0,9},_,p2,9} (lZ low.1) (bA<|b7 low.2.1) (λx c h=>aD<|b7<|low.2.2.1 x c h) (λq hq=>aD<|b7<|low.2.2.2 q hq);obtain⟨⟨n1,n2,n3,n4⟩,_,_⟩:=g1.ne;obtain⟨gs,gi,⟨u,v,go⟩,w1,⟨o2,q2,r2⟩⟩:=g1;show{.ref<|35+1,_,I3,9,{_,_,kv,y,9,57,LA,9,nM,λzs hz=>by rw[I.GR hz hb];show hy},{z2,sU.extBut _ _ n1 gi,{u,v,sU.extBut _ _ n2 go},w1.j3 λo e=>sU.extBut _ _ n3 e,{o2,sU.extBut _ _ n4 q2,r2}},λc hc=>?_};rw[aC<|aD<|b7<|al c hc,aC<|aD<|al c hc];show(hf c hc).1
 done:=by
  ext X hP hw hK hc i bi s Z H E I hf st hg;subst hP hw hK;let(hd,hi):=hg;have hl:kvs.length=78:=by rw[aQ m.2.2,bj]
  have ga:s.heap.get? d>o:=(I.bE d _ hd).1;show abf 46 st ga m.1 m.2.1 ∅ λh1 kp=>{9,I.QM (t':=89) (ch:=iZ z ti to i1 i2) (λc o hc e=>kp c o 26 26 26 26 e) hf}
 self:=λ_ _ _ _ _ st h=>mT st.self h
inductive aeJ(P:io)(w:mo)(K:Frag)(R:It->Hp->Prop)(vs:Aan)(H1:Hp):Prop
 |mk r d u l kvs ys (_:vs=[-r,-l]) (_:H1 r>.ext (zg r d)) (_:H1 d>u) (_:eP P w K H1 d kvs) (_:aT K H1 l ys) (_:∀o,R (ItZ K d l o u (kvs.map λp=>(.ref p.2.1,p.2.2)))<|upd H1 d<|.fR o u)
def agu(P:io)(w:mo)(K:Frag)(ta:TA):TI:=λZ H R=>ta Z H λvs H1=>aeJ P w K R vs H1
def abW(hg:Gl X "zip")(hm:X.mg "zip"=none)(ha:PA X [a,b] ta)(hs:re [a,b] X.env=[(false,wT a X.env),(false,wT b X.env)]:=by rfl)(k7:re [b] X.env=[(false,wT b X.env)]:=by rfl):
  PI X 58 (.Call (.Name "zip" p) [a,b] [] pos) (agu 81 X.w X.K ta):=by
 ext bi s Z H R I h;show E9<|nJ I hg hm boot_zip<|dX 119 (by rw[hs,k7]) (by rw[k7];rfl);let(r,d,u,l,kvs,ys,e,hr,hd,hv,hb,q):=q1;subst e;let(u1,u2,rfl,Nq,HZ):=u0 r1;cases Nq;cases HZ;let(iv,__):=(show da 81 X.w H1 s1.heap r (.ext<|zg r d)from I1.bE r _ hr);let(lo,o,es,ep,ga,hz,m):=I1.MB hv;let(wb,Nn,Dh,xF):=I1.list hb;have I2:Inv X bi Z (upd H1 d<|.fR o u) s1:=by
  rcases hv.1 with e|⟨_,e⟩;·rw[hd]at e;cases e;show I1.Si hd ga
  rw[hd]at e;cases e;show I1.freeze hd ga
 show abk iv ga m.2.1 Dh.isList λh' n en g kp=>?_;subst en;have I3:Inv X bi Z (upd H1 d<|.fR o u) (s1\h'):=I2.kept (t':=s1.toks) kp;show mT g.self ?_;show{_,_,_,_,_,9,I3,abr m λt=>absurd t<|aD<|cI _,g,UR I2,q o}
def Z0{K:Frag}{g:TG}{tb:TS}{D:Ends}(Pv:Nat->St->Hp->Prop)(le:kvs.length=91)(h0:Pv 0 Z H)(hl:∀i Z H,i<=kvs.length->Pv i Z H->H d>.fR o u/\aT K H l ys)
  (hs:∀i kv y p q Z H,kvs[i]?>kv->ys[i]?>y->Pv i Z H->H q=none->upd H q (.tup [kv.1,kv.2]) p=none->g (-p) Z (upd (upd H q<|.tup [kv.1,kv.2]) p<|.tup [-q,y]) λσ2 H2=>tb {D with nx:=Pv<|i+1,ct:=Pv<|i+1,bk:=D.nx} σ2 H2) (hd:∀Z H,Pv kvs.length Z H->D.nx Z H):xc (ItZ K d l o u kvs) g tb D Z H:=by
 show DU Pv h0 (λi Z H hi p=>?_) λZ H p=>{{(hl _ Z H (ao _) p).1,ao _},hd Z H p};let(q1,q2):=hl i Z H (bU hi) p;show{{q1,hi,ys,ys[i]'∅,q2,aq _},?_};ext x H' ⟨a,b,kv,v,rfl,hb,ha,rfl,y1,y2⟩;show hs i kv v a b Z H y1 (y2 ys q2) p hb ha
section
variable{X:Cx}{P:io}{w:mo}{K:Frag}
def ab1(he:PE X e ta)(hb:At e f X.env (wT e X.env)=wT e X.env)(h:X.K=K:=by rfl):PE X (.Attribute e f pos) (YC K ta f):=h▸js he hb
def To(hu:X.A.units+101<wS)(ho:PE X o td)(he:PE X e ty)(hf:PE X f tz)(m:M2 X o "get" Gc e f fu)(h1:81=P:=by rfl)(h2:X.w=w:=by rfl)(h3:X.K=K:=by rfl):
  PE X (.Call (.Attribute o "get" Gc) [e,f] [] fu) (QS P w K td ty tz):=by subst h1 h2 h3;show yN hu ho he hf m
end
end L2
namespace L2
def agO{T p:V->Hp->Prop}{G:Prop}(k:(∀v H,p v H->T v H)->G)(h:∀v H,p v H->T v H):G:=k h
open PySem PySem.Spec PyProof.Rows
section
variable{K:Frag}{a d:cr}{o:Go}{u:HO}{kvs:Aal}{xs:Aan}{lo:Int}{n:Nat}{g:TG}{tb:TS}{D:Ends}{Z:St}{H:Hp}
def uP(Pv:Nat->St->Hp->Prop)(h0:Pv 0 Z H)(hl:∀i Z H,i<=55->Pv i Z H->aZ K H a xs)
  (hs:∀i x Z H(D':Ends),xs[i]?>x->Pv i Z H->(∀σ' H',Pv (i+1) σ' H'->D'.nx σ' H')->(∀v H',D.rt v H'->D'.rt v H')->g x Z H λσ2 H2=>tb D' σ2 H2) (hd:∀Z H,Pv 55 Z H->D.nx Z H):=
 acA (K:=K) (a:=a) (xs:=xs) (g:=g) (tb:=tb) (D:=D) (Z:=Z) (H:=H) Pv h0 hl (λi x Z H hx hp=>hs i x Z H _ hx hp (λ_ _ h=>h) λ_ _ h=>h) hd
def iS(Pv:Nat->St->Hp->Prop)(h0:Pv 0 Z H)(hl:∀i Z H,i<=55->Pv i Z H->aT K H a xs)
  (hs:∀i x Z H(D':Ends),xs[i]?>x->Pv i Z H->(∀σ' H',Pv (i+1) σ' H'->D'.nx σ' H')->(∀v H',D.rt v H'->D'.rt v H')->g x Z H λσ2 H2=>tb D' σ2 H2) (hd:∀Z H,Pv 55 Z H->D.nx Z H):=
 G0 (K:=K) (a:=a) (xs:=xs) (g:=g) (tb:=tb) (D:=D) (Z:=Z) (H:=H) Pv h0 hl (λi x Z H hx hp=>hs i x Z H _ hx hp (λ_ _ h=>h) λ_ _ h=>h) hd
def By(Pv:Nat->St->Hp->Prop)(h0:Pv 0 Z H)
  (hs:∀i Z H(D':Ends),i<n->Pv i Z H->(∀σ' H',Pv (i+1) σ' H'->D'.nx σ' H')->(∀v H',D.rt v H'->D'.rt v H')->g (.int<|lo+i) Z H λσ2 H2=>tb D' σ2 H2) (hd:∀Z H,Pv n Z H->D.nx Z H):=
 Xu (lo:=lo) (n:=n) (g:=g) (tb:=tb) (D:=D) (Z:=Z) (H:=H) Pv h0 (λi Z H hx hp=>hs i Z H _ hx hp (λ_ _ h=>h) λ_ _ h=>h) hd
def Xv(Pv:Nat->St->Hp->Prop)(h0:Pv 0 Z H)(hl:∀i Z H,i<=55->Pv i Z H->aT K H a xs)
  (hs:∀i x p Z H(D':Ends),xs[i]?>x->Pv i Z H->H p=none->(∀σ' H',Pv (i+1) σ' H'->D'.nx σ' H')->g (-p) Z (upd H p<|.tup [.int i,x]) λσ2 H2=>tb D' σ2 H2) (hd:∀Z H,Pv 55 Z H->D.nx Z H):=
 O5 (K:=K) (a:=a) (xs:=xs) (g:=g) (tb:=tb) (D:=D) (Z:=Z) (H:=H) Pv h0 hl (λi x p Z H hx hp hn=>hs i x p Z H _ hx hp hn λ_ _ h=>h) hd
noncomputable def Xs{l:cr}{ys:Aan}(Pv:Nat->St->Hp->Prop)(le:kvs.length=91)(h0:Pv 0 Z H)(hl:∀i Z H,i<=kvs.length->Pv i Z H->H d>.fR o u/\aT K H l ys)
  (hs:∀i kv y p q Z H(D':Ends),kvs[i]?>kv->ys[i]?>y->Pv i Z H->H q=none->upd H q (.tup [kv.1,kv.2]) p=none->(∀σ' H',Pv (i+1) σ' H'->D'.nx σ' H')->g (-p) Z (upd (upd H q<|.tup [kv.1,kv.2]) p<|.tup [-q,y]) λσ2 H2=>tb D' σ2 H2) (hd:∀Z H,Pv kvs.length Z H->D.nx Z H):=
 Z0 (K:=K) (d:=d) (l:=l) (o:=o) (u:=u) (kvs:=kvs) (ys:=ys) (g:=g) (tb:=tb) (D:=D) (Z:=Z) (H:=H) Pv le h0 hl (λi kv y p q Z H a b c e f=>hs i kv y p q Z H _ a b c e f λ_ _ h=>h) hd
end
def RU(a b:TI):TI:=λZ H R=>a Z H R\/b Z H R
def VJ{X:Cx}{tg l:xL}{a b:TI}(h1:PI X tg l a)(h2:PI X tg l b):PI X tg l (RU a b):=λbi s Z H R I h=>h.elim (h1 bi s Z H R I)<|h2 bi s Z H R I
def sqE{K:Frag}{a:cr}{xs:Aan}{H H':Hp}(s:aI H H'):(aT K H a xs->aT K H' a xs)/\(aZ K H a xs->aZ K H' a xs):=by
 constructor<;>ext q<;>rcases q with(q|⟨o,q⟩)|q;all_goals first
  |show .inr q
  |show .inl<|.inl<|s _ _ q
  |show .inl<|.inr ⟨o,s _ _ q⟩
def Z1{K:Frag}{a:cr}{xs:Aan}{g:TG}{tb:TS}{D:Ends}{Z:St}{H0 H:Hp}{tl:TE}(ht:∀Q:VK,Q (-a) H->tl Z H Q)(hx:aT K H0 a xs\/aZ K H0 a xs)(Pv:Nat->St->Hp->Prop)(h0:Pv 0 Z H)(hk:∀i σ' H',Pv i σ' H'->aI H0 H')
  (hs:∀i x Z H(D':Ends),xs[i]?>x->Pv i Z H->(∀σ' H',Pv (i+1) σ' H'->D'.nx σ' H')->(∀v H',D.rt v H'->D'.rt v H')->g x Z H λσ2 H2=>tb D' σ2 H2) (hd:∀Z H,Pv 55 Z H->D.nx Z H):adx (RU (TY K tl)<|ZA K tl) g tb D Z H:=by
 rcases hx with hx|hx;·show .inl<|ht _ {a,9,{_,(sqE<|hk _ _ _ h0).1 hx},iS Pv h0 (λi σ' H' hi p=>(sqE<|hk _ _ _ p).1 hx) hs hd}
 show .inr<|ht _ {a,9,{_,(sqE<|hk _ _ _ h0).2 hx},uP Pv h0 (λi σ' H' hi p=>(sqE<|hk _ _ _ p).2 hx) hs hd}
def got_of{H H':Hp}{c:cr}{o:HO}(e:upd H c o=H'):H' c>o:=e▸au
def same_of{H H':Hp}{c:cr}{o:HO}(e:upd H c o=H')(h:H c=none):aI H H':=λb u q=>by rw[<-e,aC λz=>by rw[z,h]at q;cases q];show q
end L2
namespace kE
open PySem PySem.Spec PyProof.Rows L2 pK dC
seal L2.PE L2.PT L2.PW L2.PA L2.PS L2.pU L2.PI L2.PO L2.El L2.PG L2.Co
abbrev HS:xz:=top 3
abbrev C1:xz:=top 4
abbrev CZ:xz:=top 5
abbrev B3:xz:=top 07
abbrev HN:xz:=top 08
abbrev xo:xz:=top 09
abbrev K3:xz:=top 11
abbrev FJ:xz:=top 12
abbrev yJ:xz:=top 13
abbrev K4:xz:=top 15
abbrev FT:xz:=top 016
abbrev Al:xz:=top 017
abbrev HQ:xz:=top 019
abbrev FN:xz:=top 020
abbrev yK:xz:=top 021
abbrev HU:xz:=top 023
abbrev Aj:xz:=top 024
abbrev C4:xz:=top 036
abbrev FR:xz:=top 038
abbrev Ng:xz:=top 039
abbrev HP:xz:=top 041
abbrev C3:xz:=top 042
abbrev Na:xz:=top 044
abbrev Nb:xz:=top 045
abbrev HV:xz:=top 047
abbrev HM:xz:=top 049
abbrev xm:xz:=top 050
abbrev Nf:xz:=top 051
abbrev B4:xz:=top 052
abbrev Ak:xz:=top 053
abbrev xp:xz:=top 054
abbrev C5:xz:=top 057
abbrev FL:xz:=top 058
abbrev CY:xz:=top 059
abbrev vk:xz:=top 060
abbrev HW:xz:=top 061
abbrev K2:xz:=top 62
abbrev HR:xz:=top 63
abbrev FK:xz:=top 64
abbrev FQ:xz:=top 066
abbrev Q4:xz:=top 067
abbrev Nd:xz:=top 068
abbrev GG:xz:=top 069
abbrev FP:xz:=top 070
abbrev An:xz:=top 071
abbrev Th:xz:=top 072
abbrev xn:xz:=inClass (top 18) 0
abbrev Am:xz:=inClass (top 18) 1
abbrev Nc:xz:=inClass (top 18) 2
abbrev vm:xz:=inClass (top 18) 3
abbrev v8:xz:=inClass (top 18) 4
abbrev lE:xz:=inClass (top 40) 0
abbrev Q3:xz:=inClass (top 40) 1
abbrev wG:xz:=inClass (top 40) 2
abbrev oB:xz:=inClass (top 40) 3
abbrev FO:xz:=inClass (top 40) 4
def SD(K:Frag)(H:Hp)(a:cr)(xs:Aan):Prop:=
 (∃o,H a>.fR o (.lst xs))\/∃(o:Go)(aK:Aak)(n:Nat),K.lookup a>o/\o.cls=.type "list"/\o.dict=none/\o.data=.seq aK n/\aK.size<=dL/\Vals xs aK.toList
def SD.sq{K:Frag}(h:SD K H a xs):aT K H a xs:=by
 rcases h with⟨o,h⟩|h;·show .inl<|.inr ⟨o,h⟩
 show .inr h
def qQ(_K:Frag)(f:cr)(H:Hp):Prop:=∃x p q:Int,H f>.lst [.int x,.int p,.int q]
def Ext(f:cr)(H H':Hp):Prop:=∀b o,b≠f->H b>o->H' b>o
def Ext.refl(f:cr)(H:Hp):Ext f H H:=λ_ _ _ h=>h
def Ext.feed(a:Ext f H H1)(o:HO):Ext f H (upd H1 f o):=λb u n q=>by rw[aC n];show a b u n q
def qQ.new{K:Frag}(h:qQ K f H)(hp:H p=none)(o:HO):qQ K f (upd H p o):=by let(x,y,z,hf):=h;show{x,y,z,by rw[aC<|a9 hf hp];show hf}
def qQ.lst{K:Frag}(h:qQ K f H)(hp:H p>.lst xs)(n:p≠f)(o:HO):qQ K f (upd H p o):=by let(x,y,z,hf):=h;show{x,y,z,by rw[aC n.symm];show hf}
def qQ.Wh{K:Frag}(h:qQ K f H)(hp:H p=none):p≠f:=by let(x,y,z,hf):=h;show(a9 hf hp).symm
def qQ.same{K:Frag}{f:cr}{H H':Hp}(h:qQ K f H)(sm:aI H H'):qQ K f H':=by let(x,y,z,hf):=h;show{x,y,z,sm _ _ hf}
inductive Vd(K:Frag)(vs:Aan)(H:Hp)(Q:VK)(_x3:XK):Prop
 |mk (f:cr) (many:Int) (_:vs=[-f,.int many]) (_:qQ K f H) (_:0<many) (_:many<1073741824) (_:∀(i:Int)(H':Hp),0<=i->i<many->qQ K f H'->Ext f H H'->Q (.int i) H')
inductive aaJ(K:Frag)(vs:Aan)(H:Hp)(Q:VK)(_x3:XK):Prop
 |mk (a:cr) (ns:List Int) (k:Int) (_:vs=[-a,.int k]) (_:SD K H a (ns.map V.int)) (_:ns.length<=63) (_:0<=k) (_:∀(r:cr)(H':Hp),qQ K r H'->aI H H'->H r=none->Q (-r) H')
inductive Ve(K:Frag)(vs:Aan)(H:Hp)(Q:VK)(_x3:XK):Prop
 |mk (a:cr) (ns:List Int) (k:Int) (_:vs=[-a,.int k]) (_:SD K H a (ns.map V.int)) (_:ns.length<=63) (_:0<=k) (_:∀i:Int,Q (.int i) H)
section
variable{P:io}{w:mo}{K:Frag}{mg:Aac}{base:ss}
structure Txt(K:Frag)(mg:Aac):Prop where
 eZ:mg "len"=none
 uL:mg "range"=none
 jh:mg "tuple"=none
 mB:mg "list"=none
 fg:mg "isinstance"=none
 Mw:mg "all"=none
 TK:mg "any"=none
 EY:mg "str"=none
 N9:mg "bool"=none
 IE:mg "int"=none
 xy:mg "dict"=none
 qZ:mg "enumerate"=none
 yP:mg "zip"=none
 TJ:mg "sum"=none
 mX:mg "sorted"=none
 agi:mg "set"=none
 agj:mg "max"=none
 aaS:mg "min"=none
 Oa:mg "ValueError"=none
 acz:∃t,mg "SIGNS">.str "abcdefghijklmnopqrstuvwxyz0123456789" t
 OX:∃t,mg "MOST_SIGNS">.int 08 t
 wj:∃t,mg "MOST_CANDIDATES">.int 10 t
def u96(r:ir k A):A.units+096<wS:=by have:=r.un;lia
def int_at{ns:List Int}{i:Int}(h0:0<=i)(h1:i<(ns.length:Int)):∃v,Js (ns.map V.int) i>.int v:=by
 obtain⟨v,hv⟩:∃v,ns[i.toNat]?>v:={_,aq ∅};show{v,?_};have e:i=((i.toNat:Nat):Int):=by lia
 rw[e];show mF (by rw[aN,hv];rfl)
def xl:bL ["_law_script","_law_k","_law_seed"] ["_law_script","_law_k"] (bo FQ):=fS 76
def CP(h:∀R:L2.St->Hp->Prop,(∀σ' H',u D σ' H'->R σ' H')->t {D with nx:=R} Z H):Gx t u D Z H:=h (u D) λ_ _ x=>x
def iq(h:∀T,T=u->Gx t T D Z H):Gx t u D Z H:=h u rfl
def bT{T t u:TS}{D:Ends}{Z:L2.St}{H:Hp}(e:T=Gx t u)(h:∀R,R=u->Gx t R D Z H):T D Z H:=e▸h u rfl
def jg{T u:TS}{D:Ends}{Z:L2.St}{H:Hp}(e:T=u)(h:u D Z H):T D Z H:=e▸h
def ab8{f:cr}{fd:ut}(F:dh K "_law_cell_at" "_law_cell_at" FQ f fd)(T:Txt K mg):cm P w K mg base dZ 1 f fd ["_law_script","_law_k"] (Ve K):=by
 show F.ok xl 85;let(a,ns,kk,rfl,hS,hn,hk,k):=h;show{_,ay (fh (cU Mv (pv 1) (bh cW 9 T.eZ bz 21)<|cL _) (aP<|bH<|bV hJ (pv 0) (pv 1) (λ_ _=>9)) dc)<|ay (cZ 2 xl bb)<|ay (fh (cU Iq (bh cW 9 T.eZ bz 21) bb<|cL _) (aP<|cZ 2 xl<|bV hJ (pv 0) (dj vy (pv 1)<|bh cW 9 T.eZ bz 21) (λ_ _=>9)) dc)<|aP<|bH<|dj vy (dj kW (dj kW (dj Dl (dj vy (pv 2) bb) bb)<|dj Dl (pv 1) bb) bb) bb,?_}
 have nl:(ns.map V.int).length=ns.length:=ag _;show{_,9,_,9,_,_,9,.inl {_,hS.sq,9},_,_,9,9,_,9,?_};show hX (λc=>?_) (λc=>?_);·have c:=aV c;let(v,ev):=int_at (ns:=ns) hk ∅;show{_,9,_,9,_,_,_,_,9,9,hS.sq,ev,k v}
 dsimp only;show CP λR0 hR0=>hR0 _ _ ?_;show CP λR1 hR1=>hR1 _ _ ?_;show CP λR hR=>?_;have fin:∀sd:Int,R [some (-a),some<|.int kk,some<|.int sd] H:=λsd=>hR _ _ (by
  show{_,9,_,_,9,9,(by change(0:Int)<1000000007;decide),_,_,9,9,.inr {7,7},_,9,_,_,9,9,.inr {7,7},_,_,9,9,_,_,9,9,_,_,9,9,(by change(0:Int)<2147483647;decide),k _})
 show{_,9,_,_,9,.inl {_,hS.sq,9},_,_,9,9,_,9,?_};show hX (λc1=>?_) (λc1=>fin 0);have c1:=aV c1;have c5:=vL kk c1;let(v,ev):=int_at (ns:=ns) (zf kk (show((ns.map V.int).length:Int)≠0 by lia)) ∅;show{_,9,_,9,_,9,_,_,9,.inl {_,hS.sq,9},_,_,9,9,c1,_,_,_,_,9,9,hS.sq,ev,fin v}
def M9:bL ["_law_script","_law_k","_law_cell"] ["_law_script","_law_k"] (bo Q4):=fS 76
def aeh{f:cr}{fd:ut}(F:dh K "_law_box" "_law_box" Q4 f fd)(T:Txt K mg)(Qt:bY P w K mg base 1 "_law_cell_at" ["_law_script","_law_k"] (Ve K)):cm P w K mg base dZ 2 f fd ["_law_script","_law_k"] (aaJ K):=by
 show F.ok M9 85;let(a,ns,kk,rfl,hS,hn,hk,k):=h;show{_,ay (cZ 2 M9<|cl Qt hr 36)<|aP<|bH<|dy<|pf (bh (Yb 9) 9 T.agj 76<|cj bb<|dj GO (pv 2)<|dj aeb bb bb) (dj vy (pv 2) bb) bb,?_}
 show{_,9,_,9,a,ns,kk,9,hS,hn,hk,λc=>?_};show{_,9,_,_,9,9,{7,7,7},_,_,9,9,{7,76},_,_,9,_,9,_,_,9,9,(by change(0:Int)<2147483629;decide),(by change 3<=dL;decide),λp hp=>k p _ ⟨_,_,_,au⟩ (λb u q=>by rw[aC<|a9 q hp];show q) hp}
def CS:bL ["_law_box_here","_law_many","_law_found","_law_mixed"] ["_law_box_here","_law_many"] (bo Nd):=fS 76
def ab6(F:dh K "_law_take" "_law_take" Nd f fd)(T:Txt K mg):cm P w K mg base dZ 1 f fd ["_law_box_here","_law_many"] (Vd K):=by
 show F.ok CS 85;obtain⟨fe,many,rfl,⟨x,p,q,hf⟩,hm,IU,k⟩:=h;show{_,ay (fh (cU Iq (bV hJ (pv 0) bb (λ_ _=>9)) bb<|cL _) (ay (cZ 2 CS<|dj vy (bV hJ (pv 0) bb (λ_ _=>9))<|pv 1)<|ay (vp (dj GO (bV hJ (pv 0) bb (λ_ _=>9))<|pv 1)<|VL (pv 0) bb set_list)<|aP<|bH<|pv 2) dc)<|ay (vp (dj kW (bV hJ (pv 0) bb (λ_ _=>9)) bb)<|VL (pv 0) bb set_list)<|ay (cZ 3 CS<|dj vy (dj kW (dj kW (dj Dl (bV hJ (pv 0) bb (λ_ _=>9)) bb)<|dj Dl (bV hJ (pv 0) bb (λ_ _=>9)) bb) bb) bb)<|aP<|bH<|dj vy (dj GO (dj vy (dj kW (dj Dl (pv 3) bb)<|bV hJ (pv 0) bb (λ_ _=>9)) bb) bb)<|pv 1,?_}
 show{_,9,fe,_,_,_,9,9,aT.of hf,9,_,_,9,9,_,9,?_};show hX (λc=>?_) (λc=>?_)
 ·show{_,9,fe,_,_,_,9,9,aT.of hf,9,_,9,_,_,9,9,hm,?_};have l2:many.natAbs.log2<9000:=by
   by_cases hz:many.natAbs=0;·rw[hz];decide
   rw[Nat.log2_lt hz];show f9 (show many.natAbs<2^030 by lia)<|Nat.pow_lt_pow_right 7 7
  show{_,9,fe,_,_,_,9,9,aT.of hf,9,_,9,_,_,9,9,⟨hm,l2⟩,_,9,fe,_,_,_,9,9,hf,9,{_,9,k _ _ (zf _ ∅) (vL _ hm) ⟨_,_,_,au⟩<|(Ext.refl fe H).feed _}}
 show{_,9,fe,_,_,_,9,9,aT.of hf,9,_,_,9,9,_,9,fe,_,_,_,9,9,hf,9,?_};have DT:upd H fe (.lst [.int x,.int p,.int<|q+1]) fe>.lst [.int x,.int p,.int<|q+1]:=au;show{_,9,fe,_,_,_,9,9,aT.of DT,9,_,_,9,9,.inr {7,7},_,9,fe,_,_,_,9,9,aT.of DT,9,_,_,9,9,.inr {7,7},_,_,9,9,_,_,9,9,_,_,9,9,(by change(0:Int)<2147483629;decide),?_};show{_,9,_,_,9,9,.inr {7,7},_,9,fe,_,_,_,9,9,aT.of DT,9,_,_,9,9,_,_,9,9,(by change(0:Int)<2147483647;decide),_,_,9,9,{7,76},_,9,_,_,9,9,hm,k _ _ (zf _ ∅) (vL _ hm) ⟨_,_,_,DT⟩<|(Ext.refl fe H).feed _}
def oC(hg:Gl X x)(hm:X.mg x=none)(hv:Da x>.type n)(hn:x≠"__name__":=by decide)(hd:24=false:=by decide):PE X 71 (tC<|.ty n):=ab2 hg hm hv rfl hn hd
def aa6:pi:="abcdefghijklmnopqrstuvwxyz0123456789"
def sgn(c:Nat):Bool:=!(Builtin.Str.occurrences aa6 ⟨#[c]⟩ 0 aa6.length 1).isEmpty
def isVal(s:pi):Bool:=decide ((1:Int)<=(s.length:Int))&&(decide ((s.length:Int)<=08)&&(s.cps.toList.map sgn).all id)
def kZ(s:pi):Bool:=Txt.startswith s "?"&&isVal (Txt.slice s (some 1) none)
inductive aaF(vs:Aan)(H:Hp)(Q:VK)(_x3:XK):Prop
 |mk (z:pi) (_:vs=[.str z]) (_:z.length<=1000) (_:∀H',aI H H'->Q (.bl<|isVal z) H')
inductive A8(vs:Aan)(H:Hp)(Q:VK)(_x3:XK):Prop
 |mk (z:pi) (_:vs=[.str z]) (_:z.length<=1000) (_:∀H',aI H H'->Q (.bl<|kZ z) H')
def aB(h:H p=none)(o:HO):aI H (upd H p o):=λb u q=>by rw[aC<|a9 q h];show q
def Oj(t:jp):kitOne K t t>true:=by unfold kitOne;rw[aL<|kr t]
def PY:bL ["thing"] ["thing"] (bo HS):=fS 76
def P9(F:dh K "is_value" "is_value" HS f fd)(T:Txt K mg):cm P w K mg base dZ 1 f fd ["thing"] aaF:=by
 show F.ok PY 85;let(z,rfl,hz,k):=h;show{_,ay (fh (sW<|h9<|bh kj 9 T.fg 76<|cj (pv 0)<|oC (n:="str") 9 T.EY 76) (aP<|bH qm) dc)<|aP<|bH<|qW (Y6 Tu Tu bb (bh cW 9 T.eZ bz 21)<|GL 9 T.OX)<|vt<|bh (uS 9) 9 T.Mw He<|bB<|hG 9 (cA (fs:=[]) (fr:=[])) (ad6<|pv 0) (λ_ _ _ _=>gu VS (pv 0) (Y2 9 T.acz) 50),?_}
 show{_,9,_,_,_,true,9,qO.str z,Oj _,_,9,?_};show hU ?_;show{_,9,_,_,9,{bU<|cw hz,9},_,_,9,9,_,9,?_};show hX (λc1=>?_) (λc1=>?_)
 ·show{_,_,9,9,_,9,?_};show hX (λc2=>?_) (λc2=>?_)
  ·show{_,9,_,9,λi m ys H2=>H2=H/\i<=z.cps.size/\m=z.cps.size -i/\ys=((z.cps.toList.take i).map sgn).map V.bl,{_,9,aF _,9,9},?_};ext i m ys H2 ⟨rfl,hi,rfl,rfl⟩;have hl:∀j,(((z.cps.toList.take j).map sgn).map V.bl).length<=1000:=λj=>by
    rw[ag,ag,aW];have:z.cps.toList.length=z.length:=by simp[Str.length]
    lia
   by_cases b6:i<z.cps.size
   ·show .inr {b6,cw<|hl i,?_};ext v H3 ⟨rfl,c,hc,rfl⟩;show{_,9,_,_,9,9,_,Nat.sub_lt_sub_left b6<|cI i,9,b6,9,?_};have xN:z.cps.toList[i]?>c:=by simpa using hc
    rw[bW,xN,ba,ba];rfl
   have e:i=z.cps.size:=by lia
   show .inl {e,bU<|cw<|hl i,λl we=>?_};show{_,(z.cps.toList.take i).map sgn,9,80,?_};have ev:isVal z=((z.cps.toList.take i).map sgn).all id:=by unfold isVal;rw[c1,c2,gv (by rw[e];simp),Cs,Cs]
   rw[<-ev];show k _<|aB we _
  have ev:isVal z=false:=by unfold isVal;rw[iu.mpr c2,uX,AY]
  have q:=k H<|aI.refl H;rw[ev]at q;show q
 have ev:isVal z=false:=by unfold isVal;rw[iu.mpr c1,uX]
 have q:=k H<|aI.refl H;rw[ev]at q;show{_,9,hU q}
def L9:bL ["thing"] ["thing"] (bo C1):=fS 76
def slice_le(z:pi):(Txt.slice z (some 1) none).length<=z.length:=tN z _ _
def Me(F:dh K "is_unknown" "is_unknown" C1 f fd)(T:Txt K mg)(UN:bY P w K mg base 1 "is_value" ["thing"] aaF):cm P w K mg base dZ 2 f fd ["thing"] A8:=by
 show F.ok L9 85;let(z,rfl,hz,k):=h;show{_,aP<|bH<|qW (bh kj 9 T.fg 76<|cj (pv 0)<|oC (n:="str") 9 T.EY 76)<|qW (j4 PySem.F.plainAttrs_str PySem.F.slot_str_startswith PySem.F.type_str_startswith Mh (pv 0)<|bB fK)<|vt<|cl UN hr<|bB<|lG Vp (pv 0) (nV bb) nW,?_};show{_,9,_,_,_,true,9,qO.str z,Oj _,_,9,?_};show i8 ?_;show{_,9,9,_,_,9,9,_,9,?_};show hX (λc1=>?_) (λc1=>?_)
 ·show{_,9,_,9,_,9,bU<|cw hz,_,9,aS (slice_le z) hz,λH' sm=>?_};have ev:kZ z=isVal (Txt.slice z (some 1) none):=by unfold kZ;rw[c1,Cs]
  rw[<-ev];show k H' sm
 have ev:kZ z=false:=by unfold kZ;rw[iu.mpr c1,uX]
 have q:=k H<|aI.refl H;rw[ev]at q;show q
def step(acc:Aag)(t:pi):Aag:=if kZ t=true then(if t∈acc then acc else acc++[t])else acc
def lD(fl:Aag):Aag:=fl.foldl step []
def Zp(acc:Aag)(t:pi):(step acc t).length<=acc.length+1:=by
 unfold step;split
 ·split;·lia
  rw[aU];show ao _
 lia
theorem Oe:∀(fl acc:Aag),(fl.foldl step acc).length<=acc.length+fl.length
 |[],acc=>by simp
 |t::r,acc=>by have h1:=Oe r<|step acc t;have h2:=Zp acc t;rw[jS,bc];lia
def Ka(fl:Aag):(lD fl).length<=fl.length:=by have:=Oe fl [];simpa[lD]using this
def Yw(fl:Aag)(t:pi):lD (fl++[t])=step (lD fl) t:=by unfold lD;rw[Ft];rfl
def tF(acc:Aag):List (Key×V):=acc.map λt=>(Sum.inr t,V.bl true)
def any_keys(acc:Aag)(t:pi):((tF acc).any λkv=>decide (kv.1=(Sum.inr t:Key)))=decide (t∈acc):=by
 unfold tF;rw[yk,dO,dP];constructor;·ext⟨x,hx,e⟩;have e':=aV e;injection e' with e';show aO<|e'▸hx
 ext h;show{t,aV h,aO rfl}
def YX(acc:Aag)(t:pi):putK (tF acc) (Sum.inr t:Key) (V.bl true)=tF (if t∈acc then acc else acc++[t]):=by
 unfold putK;rw[any_keys];by_cases h:t∈acc;·rw[aO h,aL rfl,aL h];unfold tF;rw[cX];show gA λx _=>?_;change(if(Sum.inr x:Key)=Sum.inr t then((Sum.inr x:Key),V.bl true)else(Sum.inr x,V.bl true))=_;split<;>rfl
 rw[bQ h,az bJ,az h];unfold tF;rw[ba];rfl
def WC(acc:Aag):((tF acc).map λkv=>kV kv.1)=acc.map V.str:=by unfold tF;rw[cX];rfl
def pJ(H H':Hp):Prop:=∀b xs,H b>.tup xs->H' b>.tup xs
def pJ.of{H H':Hp}(a:aI H H'):pJ H H':=λc xs h=>a c _ h
theorem Paired.at:∀{aac:List α}{aad:List β}{i:Nat}{x:α},Paired F aac aad->aac[i]?>x->∃y,aad[i]?>y/\F x y
 |_,_,_,_,.nil,e=>by simp at e
 |_,_,0,_,.cons r _,e=>by simp at e;subst e;show⟨_,rfl,r⟩
 |_,_,i+1,x,.cons _ t,e=>by let(y,h1,h2):=Paired.at (i:=i) (x:=x) t<|↑e;show{y,by simpa using h1,h2}
def Gp(z:pi):Prop:=z.length<=100/\PyData.strOk z=true
def xW(z:pi):Prop:=kZ z=true/\Gp z
noncomputable def Hs:Aag:=["?x","?a","?b","?c","?d","?a1","?b1","?c1","?d1"]
noncomputable def TL:Aag:=["t","u","v0","v1","v2","v3","v4","v5"]
def afR:(Hs.all λz=>kZ z&&decide (z.length<=100)&&PyData.strOk z)=true:=by decide+kernel
def agg:(TL.all λz=>decide (z.length<=100)&&PyData.strOk z)=true:=by decide+kernel
def adf{z:pi}(h:z∈Hs):xW z:=by have:=b9.mp afR z h;rw[cn,cn]at this;show{this.1.1,aV this.1.2,this.2}
def aeq{z:pi}(h:z∈TL):Gp z:=by have:=b9.mp agg z h;rw[cn]at this;show{aV this.1,this.2}
abbrev One:=pi×pi
def uJ(a:One):pi×Aag:=(a.1,[a.2])
def L4(H:Hp)(v:V)(a:One):Prop:=∃p t,v=-p/\H p>.tup [.str a.1,-t]/\H t>.tup [.str a.2]
abbrev EI(H:Hp):Aan->List One->Prop:=Paired<|L4 H
def L4.keep{H H':Hp}(t:pJ H H'){v:V}{a:One}(h:L4 H v a):L4 H' v a:=by let(p,c,e,h1,h2):=h;show{p,c,e,t _ _ h1,t _ _ h2}
def EI.keep{H H':Hp}(t:pJ H H'){vs:Aan}{as:List One}(h:EI H vs as):EI H' vs as:=Paired.imp' (λ_ _ q=>q.keep t) h
def Q1(H:Hp)(v:V)(h:pi)(as:List One):Prop:=∃(q hd aa:cr)(vs:Aan),v=-q/\H q>.tup [-hd,-aa]/\H hd>.tup [.str h]/\H aa>.tup vs/\EI H vs as
def Q1.keep{H H':Hp}(t:pJ H H'){v:V}{h:pi}{as:List One}(x:Q1 H v h as):Q1 H' v h as:=by let(q,hd,aa,vs,e,h1,h2,h3,h4):=x;show{q,hd,aa,vs,e,t _ _ h1,t _ _ h2,t _ _ h3,h4.keep t}
def Gn(H:Hp)(v:V)(x:One):Prop:=∃p q,v=-p/\H p>.tup [.str x.1,q]/\Q1 H q "?x" [(x.2,"?x")]
def Gn.keep{H H':Hp}(t:pJ H H'){v:V}{x:One}(h:Gn H v x):Gn H' v x:=by let(p,q,e,h1,h2):=h;show{p,q,e,t _ _ h1,h2.keep t}
def zM{α:Type}{g:α->Bool}{l:List α}{i:Nat}{x:α}(h:l[i]?>x):(l.take<|i+1).filter g=(l.take i).filter g++(if g x=true then[x]else[]):=by rw[bW,h,fH];change _++[x].filter g=_;rw[bZ,tV]
def IB(h:q none H):QR Z H q:=h
def Kc(z:pi)(l:Aag):DJ (.str z) (l.map V.str)=decide (z∈l):=by
 unfold DJ;rw[yk,dO,dP];constructor;·ext⟨y,hy,e⟩;rw[eU e]at hy;show aO hy
 ext h;show{z,aV h,by change(z==z)=true;simp}
def Xw(l:Aag):(l.map V.str).all vb=true:=by rw[Ez];show b9.mpr λ_ _=>9
def Hi(acc:Aag)(t:pi):Aag:=if t∈acc then acc else acc++[t]
def Uq(g:Aag):Aag:=g.foldl Hi []
theorem Ob:∀(g acc:Aag)(z:pi),z∈g.foldl Hi acc↔z∈acc\/z∈g
 |[]=>λacc z=>by simp
 |t::r=>λacc z=>by
  rw[jS,Ob r (Hi acc t) z];unfold Hi;by_cases d:t∈acc
  ·rw[aL d];constructor
   ·ext(h|h);·show .inl h
    show .inr<|aA _ h
   ext(h|h);·show .inl h
   rcases aJ.mp h with rfl|h;·show .inl d
   show .inr h
  rw[az d];constructor
  ·ext(h|h)
   ·rcases bG.mp h with h|h;·show .inl h
    rw[aw.mp h];show .inr av
   show .inr<|aA _ h
  ext(h|h);·show .inl<|dD _ h
  rcases aJ.mp h with rfl|h;·show .inl<|b8 _<|aw.mpr 9
  show .inr h
def acj(g:Aag)(z:pi):z∈Uq g↔z∈g:=by unfold Uq;rw[Ob];simp
theorem Ju:∀(g acc:Aag),acc.Nodup->(g.foldl Hi acc).Nodup
 |[]=>λacc h=>h
 |t::r=>λacc h=>by
  show Ju r _ ?_;unfold Hi;split;·show h
  rename_i d;rw[gx];show{h,75,λa ha b hb e=>?_};rw[aw.mp hb]at e;show d<|e▸ha
def XM(g:Aag):(Uq g).Nodup:=Ju g [] .nil
theorem KR:∀(fl acc:Aag),fl.foldl step acc=(fl.filter kZ).foldl Hi acc
 |[],acc=>rfl
 |t::r,acc=>by
  rw[jS,bZ,KR r];unfold step;by_cases c:kZ t=true;·rw[aL c,aL c,jS];rfl
  rw[az c,az c]
def QJ(fl:Aag):lD fl=Uq (fl.filter kZ):=KR fl []
def KO(fl:Aag):(lD fl).Nodup:=by rw[QJ];show XM _
def XY(xs:Aan)(j:Nat):zO xs none (some (j:Int))=xs.take j:=by
 unfold zO;rw[HT.Nh,HT.Q6,List.drop_zero,Nat.sub_zero];by_cases h:j<=55;·rw[zb h]
 rw[Nat.min_eq_right ∅,bq,gv ∅]
def Pf(xs:Aan)(j:Nat):zO xs (some (j:Int)) none=xs.drop j:=by
 unfold zO;rw[HT.Nh,HT.Q6];by_cases h:j<=55;·rw[zb h,gv<|iM▸ao _]
 rw[Nat.min_eq_right ∅,yf,AS,List.drop_of_length_le ∅]
def Sy{zs:Aag}{i:Nat}(h:(zs.map V.str)[i]?>y):∃z,zs[i]?>z/\y=V.str z:=by
 rw[aN]at h;cases e:zs[i]? with
 |none=>rw[e]at h;cases h
 |some z=>rw[e]at h;show{z,9,(bR h).symm}
def bu(H H':Hp):Prop:=∀b xs,Rd H b (.tup xs)->Rd H' b (.tup xs)
def bu.refl(H:Hp):bu H H:=λ_ _ h=>h
def bu.trans(a:bu H H1)(b:bu H1 H2):bu H H2:=λx xs h=>b x xs<|a x xs h
def bu.same(s:aI H H'):bu H H':=λb xs h=>by
 rcases h with h|⟨o,h⟩;·show .inl<|s _ _ h
 show .inr {o,s _ _ h}
def rJ(H:Hp)(a:cr):Prop:=∀xs,¬Rd H a (.tup xs)
def bu.upd(h:rJ H a):bu H (upd H a o):=λb xs q=>by
 have hb:b≠a:=λe=>h xs<|e▸q;rcases q with q|⟨o',q⟩;·show .inl (by rw[aC hb];show q)
 show .inr {o',by rw[aC hb];show q}
def IA{H:Hp}{a:cr}(h:H a=none):rJ H a:=λxs q=>by rcases q with q|⟨o,q⟩<;>rw[h]at q<;>cases q
def Wb(h:H a>.ext φ):rJ H a:=λxs q=>by rcases q with q|⟨o,q⟩<;>rw[h]at q<;>cases q
def Bo(h:H a>.dK l):rJ H a:=λxs q=>by rcases q with q|⟨o,q⟩<;>rw[h]at q<;>cases q
def ph(h:H a>.ins C dx l):rJ H a:=λxs q=>by rcases q with q|⟨o,q⟩<;>rw[h]at q<;>cases q
def fA(q:aZ K H a xs)(t:bu H H'):aZ K H' a xs:=by
 rcases q with q|q;·show .inl<|t _ _ q
 show .inr q
mutual
theorem TF(t:bu H H'):∀(k:NK)(v:V),NV K H k v->NV K H' k v
 | .cx=>λv h=>by rw[NV]at h⊢;show h
 | .key k=>λv h=>by rw[NV]at h⊢;show h
 | .tup ks=>λv h=>by rw[NV]at h⊢;let(a,xs,e,hq,hs):=h;show{a,xs,e,fA hq t,V7 t ks xs hs}
theorem V7(t:bu H H'):∀(ks:List NK)(vs:Aan),AO K H ks vs->AO K H' ks vs
 |[]=>λvs h=>by rw[AO]at h⊢;show h
 |k::ks=>λvs h=>by rw[AO]at h⊢;let(x,r,e,h1,h2):=h;show{x,r,e,TF t k x h1,V7 t ks r h2}
end
def qp{H H':Hp}{k:NK}{a:cr}(h:gm K H k a)(t:bu H H'):gm K H' k a:={TF t _ _ h.1,h.2}
def _root_.L2.eP.tp{H H':Hp}{d:cr}{kvs:List 90}(h:eP P w K H d kvs)(t:bu H H')(e:H' d=H d):eP P w K H' d kvs:={e▸h.1,λp hp=>qp (h.2 p hp) t}
def _root_.L2.eP.some{H:Hp}{d:cr}{kvs:List 90}(h:eP P w K H d kvs):∃u,H d>u:=by rcases h.1 with h|⟨_,h⟩<;>show⟨_,h⟩
def _root_.L2.eP.kY{H:Hp}{d:cr}{kvs:List 90}(h:eP P w K H d kvs):rJ H d:=by
 rcases h.1 with h|⟨_,h⟩;·show Wb h
 show Bo h
def _root_.L2.eP.put{H:Hp}{d b:cr}{kvs:List 90}{k:NK}{v:V}(h:eP P w K H d kvs)(hk:gm K H k b):eP P w K (upd H d<|.ext<|DN P w d<|putN kvs k b v) d (putN kvs k b v):=by
 have t:bu H (upd H d<|.ext<|DN P w d<|putN kvs k b v):=bu.upd h.kY;show{.inl au,λp hp=>?_};rcases Zn hp with⟨q,hq,e1,e2⟩|⟨e1,e2⟩;·rw[e1,e2];show qp (h.2 q hq) t
 rw[e1,e2];show qp hk t
def sv{H:Hp}{p:cr}(h:H p=Option.some 34):eP P w K H p []:={.inr ⟨rfl,h⟩,λ_ hp=>by cases hp}
def gG(h:d9 K H ys rs)(t:bu H H'):d9 K H' ys rs:=h.keep λa xs q=>fA q t
def bf{H H':Hp}{a:cr}{xs:Aan}(q:aZ K H a xs)(s:aI H H'):aZ K H' a xs:=by
 rcases q with(q|⟨o,q⟩)|q;·show .inl<|.inl<|s _ _ q
 ·show .inl<|.inr {o,s _ _ q}
 show .inr q
def Hx{H H':Hp}{a:cr}{xs:Aan}(q:aT K H a xs)(s:aI H H'):aT K H' a xs:=by
 rcases q with(q|⟨o,q⟩)|q;·show .inl<|.inl<|s _ _ q
 ·show .inl<|.inr {o,s _ _ q}
 show .inr q
def cY{α β:Type}{R:α->β->Prop}:∀{xs zs:List α}{ys ws:List β},Paired R xs ys->Paired R zs ws->Paired R (xs++zs) (ys++ws):=by
 ext xs zs ys ws r h
 induction r with
 |nil=>show h
 |cons a _ ih=>show .cons a ih
def AtA(K:Frag)(H:Hp)(v:V)(a:dC.Atom):Prop:=∃b c,v=-b/\aZ K H b [.str a.1,-c]/\aZ K H c (a.2.map V.str)
abbrev afN(K:Frag)(H:Hp):Aan->List dC.Atom->Prop:=Paired<|AtA K H
def AtA.same{H H':Hp}{v:V}{a:dC.Atom}(h:AtA K H v a)(s:aI H H'):AtA K H' v a:=by let(b,c,e,h1,h2):=h;show{b,c,e,bf h1 s,bf h2 s}
structure En where
 nm:pi
 ad:cr
 ys:Aan
 rows:Aaa
def mR(e:En):Key×V:=(Sum.inr e.nm,.ref e.ad)
def E8(r:Aag):Prop:=1<=r.length/\r.length<=4/\∀z∈r,Gp z
end
def aar(K:Frag)(H:Hp)(e:En):Prop:=H e.ad>.lst e.ys/\d9 K H e.ys e.rows/\(∀r∈e.rows,E8 r)/\e.rows.length<=10
def aiB(K:Frag)(H:Hp)(d:cr)(es:List En):Prop:=H d>.dK (es.map mR)/\(es.map (·.nm)).Nodup/\es.length<=10/\∀e∈es,aar K H e
section
def aem(es:List En):(es.map mR).map (·.1)=(es.map (·.nm)).map (Sum.inr:pi->Key):=by rw[cX,cX];rfl
def Lj{l:Aag}:(l.map (Sum.inr:pi->Key)).Nodup↔l.Nodup:=by
 induction l with
 |nil=>show{λ_=>jx,λ_=>jx}
 |cons a r ih=>
  rw[bI,cQ,cQ,ih];show and_congr_left λ_=>not_congr {λh=>?_,λh=>dN h};let(b,hb,e):=aG.mp h;cases e;show hb
theorem JE:∀{es:List En},(es.map (·.nm)).Nodup->∀{e:En},e∈es->j0 (es.map mR) (Sum.inr e.nm)>.ref e.ad
 |[],_,e,h=>by cases h
 |a::r,nd,e,h=>by
  rw[bI,cQ]at nd;rcases aJ.mp h with rfl|h;·show uu rfl
  have ne:¬(mR a).1=Sum.inr e.nm:=λq=>nd.1 (by
   have:a.nm=e.nm:=by injection q
   rw[this];show dN h)
  rw[bI,rK ne];show JE nd.2 h
theorem Gv:∀{es:List En}{z:pi},z∉es.map (·.nm)->j0 (es.map mR) (Sum.inr z:Key)=none
 |[],_,_=>rfl
 |a::r,z,h=>by rw[bI,aJ]at h;rw[bI,rK (λq=>h<|.inl (by injection q with q;show q.symm))];show Gv λq=>h<|.inr q
def iW(es:List En)(z:pi):Aaa:=match es.find? (λe=>decide (e.nm=z))with
 |some e=>e.rows
 |none=>[]
theorem uD:∀{es:List En},(es.map (·.nm)).Nodup->∀{e:En},e∈es->iW es e.nm=e.rows
 |[],_,e,h=>by cases h
 |a::r,nd,e,h=>by
  rw[bI,cQ]at nd;unfold iW;rcases aJ.mp h with rfl|h;·rw[eX (p:=λx:En=>decide (x.nm=e.nm))<|aO 9]
  have ne:¬decide (a.nm=e.nm)=true:=λq=>nd.1 (by
   rw[aV q];show dN h)
  rw[dU (p:=λx:En=>decide (x.nm=e.nm)) ne];show uD nd.2 h
variable{P:io}{w:mo}{K:Frag}{mg:Aac}{base:ss}
structure tO(K:Frag)(H:Hp)(p:cr)(fs:List En):Prop where
 at_:H p>.dK (fs.map mR)
 nm:(fs.map (·.nm)).Nodup
 en:∀e∈fs,H e.ad>.lst e.ys/\d9 K H e.ys e.rows/\e.rows.length<=10/\∀r∈e.rows,E8 r
def qV(h:d9 K H ys rows)(s:aI H H'):d9 K H' ys rows:=h.keep λa xs q=>by
 rcases q with(q|⟨o,q⟩)|q;·show .inl<|.inl<|s _ _ q
 ·show .inl<|.inr {o,s _ _ q}
 show .inr q
def YK(q:aZ K H a xs)(s:aI H H'):aZ K H' a xs:=by
 rcases q with(q|⟨o,q⟩)|q;·show .inl<|.inl<|s _ _ q
 ·show .inl<|.inr {o,s _ _ q}
 show .inr q
def tO.same(x:tO K H p fs)(s:aI H H'):tO K H' p fs:={s _ _ x.at_,x.nm,λe he=>by let(h1,h2,h3):=x.en e he;show{s _ _ h1,qV h2 s,h3}}
def ZS(x:tO K H p fs)(h0:H l0>.lst [])(z:pi):∃q ys,(j0 (fs.map mR) (Sum.inr z:Key)).getD (-l0)=-q/\H q>.lst ys/\d9 K H ys (iW fs z)/\(iW fs z).length<=10/\∀r∈iW fs z,E8 r:=by
 cases q:fs.find? (λe=>decide (e.nm=z))with
 |none=>
  have n:z∉fs.map (·.nm):=λh=>by let(e,he,rfl):=aG.mp h;have:=Eu.mp q e he;show this<|aO 9
  have er:iW fs z=[]:=by unfold iW;rw[q]
  rw[er,Gv n];show{l0,[],9,h0,.nil,aF _,λr h=>by cases h}
 |some e=>
  have he:=wV q;have e1:=aV<|List.find?_some (p:=λe:En=>decide (e.nm=z)) q;subst e1;rw[JE x.nm he,uD x.nm he];let(h1,h2,h3,h4):=x.en e he;show{e.ad,e.ys,9,h1,h2,h3,h4}
inductive A9(K:Frag)(vs:Aan)(H:Hp)(Q:VK)(_x3:XK):Prop
 |mk (d:cr) (fs:List En) (z:pi) (_:vs=[-d,.str z]) (_:tO K H d fs) (_:∀(l:cr)(zs:Aan)(H':Hp),aI H H'->H l=none->H' l>.lst zs->d9 K H' zs (gJ<|iW fs z)->Q (-l) H')
def Tf:bL ["tables","name"] ["tables","name"] (bo K3):=fS 76
def Tx(F:dh K "rows_of" "rows_of" K3 f fd)(T:Txt K mg):cm P w K mg base dZ 1 f fd ["tables","name"] (A9 K):=by
 show F.ok Tf 85;let(d,fs,z,rfl,hT,k):=h;show{_,aP<|bH<|bh (Km hr.hd) 9 T.mX 76<|bB<|cG (X7 hr.hd hr.units) 9 T.agi 76<|bB<|GN (oE hr) (pv 0) (pv 1) (dy fQ) agm,?_};show{_,9,d,9,.inl {_,.inl hT.at_},_,9,31,?_}
 intros l0 oG H0 M3 h0
 let(q,ys,eq,hq,hR,hlr,hg):=ZS (hT.same M3) h0 z;show{_,jA.k (k:=Sum.inr z)<|M3 _ _ hT.at_,?_};rw[eq];show{q,ys,iW fs z,9,aT.of hq,hR,8,λa us ha0 nu mu lu IP=>?_};have BZ:aI H0 (upd H0 a<|.ext<|BF P w a us):=aB ha0 _;show{a,us,ys,9,au,λx hx=>{YK (IP x hx).1 BZ,(IP x hx).2},λ_ x hx=>?_,8,λl zs hl xG _=>?_};·have:=hg x.1<|(mu x.1).mp<|dN hx;ext q;have:=this.1;rw[q]at this;cases this
 replace hl:upd H0 a (.ext<|BF P w a us) l=none:=hl
 have oS:aI (upd H0 a<|.ext<|BF P w a us) (upd (upd H0 a<|.ext<|BF P w a us) l<|.lst zs):=aB hl _;rw[MH nu mu]at xG;show k l zs _ (M3.trans<|BZ.trans oS) ?_ au (qV xG oS);cases q:H l with
 |none=>rfl
 |some o=>
  rw[BZ _ _<|M3 _ _ q]at hl;cases hl
def Found(K:Frag)(H H':Hp)(p:cr)(es fs:List En):Prop:=H' p>.dK (fs.map mR)/\H p=none/\fs.map (·.nm)=(ou<|es.map (·.nm)).filter (λz=>!(iW es z).isEmpty)/\(fs.map (·.ad)).Nodup/\
 ∀e∈fs,H e.ad=none/\e.ad≠p/\H' e.ad>.lst e.ys/\d9 K H' e.ys e.rows/\e.rows=gJ (iW es e.nm)
inductive MR(K:Frag)(vs:Aan)(H:Hp)(Q:VK)(_x3:XK):Prop
 |mk (d:cr) (es:List En) (_:vs=[-d]) (_:tO K H d es) (_:es.length<=10) (_:∀(p:cr)(fs:List En)(H':Hp),aI H H'->Found K H H' p es fs->Q (-p) H')
def mV:bL ["tables","told","name","rows"] ["tables"] (bo yJ):=fS 76
def FD(rows:Aaa):(gJ rows).isEmpty=rows.isEmpty:=by
 cases rows with
 |nil=>
  cases h:gJ []with
  |nil=>rfl
  |cons b r=>
   have:b∈gJ []:=h▸av;cases(vz b []).mp this
 |cons a r=>
  have:a∈gJ (a::r):=(vz a _).mpr av;cases h:gJ (a::r)with
  |nil=>rw[h]at this;cases this
  |cons _ _=>rfl
def GP{f:cr}{fd:ut}(F:dh K "sorted_tables" "sorted_tables" yJ f fd)(T:Txt K mg)(zj:bY P w K mg base 1 "rows_of" ["tables","name"] (A9 K)):cm P w K mg base dZ 2 f fd ["tables"] (MR K):=by
 show F.ok mV 85;let(d,es,rfl,hT,hl,k):=h;show{_,ay (cZ 1 mV iL)<|ay (fG bF 9 (cN<|bh (Pj hr.hd) 9 T.mX 76 21) (ic 2 mV)<|ay (cZ 3 mV<|cl zj hr<|cj (pv 0)<|pv 2)<|aP<|fh (Ny (pv 3) (λ_=>9)) (aP<|JT (oE hr) (pv 1) (pv 2) (pv 3) 9) dc)<|aP<|bH<|pv 1,?_}
 have hd:=hT.at_;have hn:=hT.nm;ext p hp;have M3:aI H (upd H p 34):=aB hp _;have lR:upd H p 34 p>.dK []:=au;show{_,9,d,es.map mR,es.map (·.nm),9,M3 _ _ hd,aem es,65,λl oG=>?_};have We:=a9 lR oG;have ps:=wD<|es.map (·.nm);show{l,rfl,{_,80},G0 (xs:=(ou<|es.map (·.nm)).map V.str)
  (λi Z H2=>∃(x2 x3:Aao)(fs:List En),Z=[some (-d),some (-p),x2,x3]/\aI H H2/\H2 l>.lst ((ou<|es.map (·.nm)).map V.str)/\H2 p>.dK (fs.map mR)/\fs.map (·.nm)=((ou<|es.map (·.nm)).take i).filter (λz=>!(iW es z).isEmpty)/\(fs.map (·.ad)).Nodup/\
   ∀e∈fs,H e.ad=none/\e.ad≠p/\H2 e.ad>.lst e.ys/\d9 K H2 e.ys e.rows/\e.rows=gJ (iW es e.nm)) ?_ ?_ ?_ ?_}
 ·show{none,none,[],9,M3.trans<|aB oG _,au,?_,9,jx,λe h=>by cases h};rw[aC We];show lR
 ·ext i Z H2 hi ⟨x2,x3,fs,rfl,oS,iz,_⟩;show aT.of iz
 ·ext i x Z H2 hx ⟨x2,x3,fs,rfl,oS,iz,oF,AG,na2,wg⟩;let(z,hz,rfl):=aY.mp (by rw[<-aN];show hx);let(e,he,rfl):=aG.mp<|ps.mem_iff.mp<|aM hz;have er:=uD hn he;show{_,9,_,9,d,es,e.nm,9,hT.same oS,λl3 zs H3 jE lW ae9 DM=>?_};rw[er]at DM;have kh:=jE _ _ oF;have keep:∀e∈fs,H e.ad=none/\e.ad≠p/\H3 e.ad>.lst e.ys/\d9 K H3 e.ys e.rows/\e.rows=gJ (iW es e.nm):=λe' h'=>by let(q1,q2,q3,q4,q5):=wg e' h';show{q1,q2,jE _ _ q3,qV q4 jE,q5}
  have ft:=zM (g:=λz=>!(iW es z).isEmpty) hz;have lz:zs.isEmpty=(iW es e.nm).isEmpty:=by rw[er,<-FD];have:=DM.length;cases zs<;>cases h:gJ e.rows<;>simp_all
  show{_,9,!zs.isEmpty,.inl {zs,aT.of ae9,9},?_};rw[lz];show hX (λc=>?_) (λc=>?_)
  ·have l3n:H l3=none:=by
    cases q:H l3 with
    |none=>rfl
    |some o=>
     rw[oS _ _ q]at lW;cases lW
   have n3p:l3≠p:=λq=>by rw[q,oF]at lW;cases lW
   have nm:e.nm∉fs.map (·.nm):=λq=>by
    rw[AG]at q;have:=(bX.mp q).1;let(j,hj):=eF.mp this;rw[Et]at hj;split at hj
    next lt=>
     have li:=(ar.mp hz).1;have:=(List.getElem?_inj li<|ps.nodup_iff.mpr hn).mp<|hz.trans hj.symm;lia
    next=>cases hj
   have ek:putK (fs.map mR) (Sum.inr e.nm) (V.ref l3)=(fs++[En.mk e.nm l3 zs<|gJ e.rows]).map mR:=by rw[Bf _<|Gv nm,ba];rfl
   have lfs:fs.length<=1000:=by
    have h1:fs.length=(fs.map (·.nm)).length:=(ag _).symm;rw[AG]at h1;have h2:=fk (λz=>!(iW es z).isEmpty)<|(ou<|es.map (·.nm)).take i;have h3:((ou<|es.map (·.nm)).take i).length<=(ou<|es.map (·.nm)).length:=aW▸Nat.min_le_right _ _;have h4:(ou<|es.map (·.nm)).length=es.length:=by rw[ps.length_eq,ag]
    lia
   show{_,9,_,9,_,9,p,_,9,.inl {_,Sum.inr e.nm,kh,9,by rw[ag];show cw lfs,9},?_};rw[ek];have sf:aI H (upd H3 p<|.dK<|(fs++[En.mk e.nm l3 zs<|gJ e.rows]).map mR):=λb u q=>by rw[aC<|a9 q hp];show jE _ _<|oS _ _ q
   have tk:∀{ys:Aan}{rows:Aaa},d9 K H3 ys rows->d9 K (upd H3 p<|.dK<|(fs++[En.mk e.nm l3 zs<|gJ e.rows]).map mR) ys rows:=λh=>gG h<|bu.upd<|Bo kh;show{_,_,fs++[En.mk e.nm l3 zs<|gJ e.rows],9,sf,?_,au,?_,?_,λe' h'=>?_};·rw[aC We.symm];show jE _ _ iz
   ·rw[ba,AG,ft,aL c];rfl
   ·rw[ba];show gx.mpr {na2,75,λa ha b hb=>?_};rw[pW,aw]at hb;let(e',h',rfl):=aG.mp ha;rw[hb];ext q;have:=(wg e' h').2.2.1;rw[q]at this;rw[this]at lW;cases lW
   rcases bG.mp h' with h'|h';·let(q1,q2,q3,q4,q5):=keep e' h';show{q1,q2,aC q2▸q3,tk q4,q5}
   rw[aw.mp h'];show{l3n,n3p,aC n3p▸ae9,tk DM,by rw[er]}
  show{_,_,fs,9,oS.trans jE,jE _ _ iz,kh,?_,na2,keep};rw[ft,az c,cy];show AG
 ext Z H2 ⟨x2,x3,fs,rfl,oS,iz,oF,AG,na2,wg⟩;rw[ag,bq]at AG;show{_,9,k p fs H2 oS ⟨oF,hp,AG,na2,wg⟩}
def gQ(rws:R0)(z:pi):Aaa:=(rws.filter λa=>decide (a.1=z)).map (·.2)
structure Under(K:Frag)(H0 H:Hp)(d:cr)(es:List En)(rws:R0):Prop where
 tb:aiB K H d es
 d0:H0 d=none
 ad:(es.map (·.ad)).Nodup
 own:∀e∈es,H0 e.ad=none/\e.ad≠d
 rows:∀e∈es,e.rows=gQ rws e.nm
 all:∀a∈rws,a.1∈es.map (·.nm)
 ne:∀e∈es,e.rows≠[]
 le:es.length<=rws.length
structure Told(K:Frag)(H H':Hp)(p:cr)(rws:R0)(fs:List En):Prop where
 at_:H' p>.dK (fs.map mR)
 p0:H p=none
 nm:(fs.map (·.nm)).Nodup
 ad:(fs.map (·.ad)).Nodup
 en:∀e∈fs,H e.ad=none/\e.ad≠p/\H' e.ad>.lst e.ys/\d9 K H' e.ys e.rows/\e.rows=gJ (gQ rws e.nm)/\e.rows≠[]
 all:∀a∈rws,a.1∈fs.map (·.nm)
 sub:∀e∈fs,∃a∈rws,a.1=e.nm
 len:fs.length<=10
inductive GA(K:Frag)(vs:Aan)(H:Hp)(Q:VK)(_x3:XK):Prop
 |mk (l:cr) (ys:Aan) (rws:R0) (_:vs=[-l]) (_:(aT K H l ys\/aZ K H l ys)) (_:afN K H ys rws) (_:rws.length<=10) (_:(∀a∈rws,E8 a.2)) (_:∀p fs H',aI H H'->Told K H H' p rws fs->Q (-p) H')
def sQ:bL ["atoms","tables","name","row"] ["atoms"] (bo FJ):=fS 76
def Ib{rws:R0}{z:pi}:(gQ rws z).length<=rws.length:=by unfold gQ;rw[ag];show fk _ _
def zE{rws:R0}{a:pi×Aag}{z:pi}:gQ (rws++[a]) z=gQ rws z++if a.1=z then[a.2]else[]:=by
 unfold gQ;rw[fH,ba,bZ,tV];by_cases h:a.1=z;·rw[aL<|aO h,aL h];rfl
 rw[az (λq=>h<|aV q),az h];rfl
def tw{rws:R0}{z:pi}{r:Aag}:r∈gQ rws z↔(z,r)∈rws:=by
 unfold gQ;rw[aG];constructor;·ext⟨a,ha,rfl⟩;let(h1,h2):=bX.mp ha;rw[<-aV h2];show h1
 ext h;show{_,bX.mpr {h,aO rfl},9}
def kX(h:H a>.lst l):rJ H a:=λxs q=>by rcases q with q|⟨o,q⟩<;>rw[h]at q<;>cases q
theorem MF:∀{es:List En}{z:pi}{v:V},j0 (es.map mR) (Sum.inr z:Key)>v->∃e∈es,e.nm=z/\v=.ref e.ad
 |[],_,_,h=>by cases h
 |e::r,z,v,h=>by
  by_cases c:e.nm=z;·rw[bI,uu (show(mR e).1=Sum.inr z by rw[<-c];rfl)]at h;show{e,av,c,(bR h).symm}
  rw[bI,rK (λq=>c (by injection q))]at h;let(e',h1,h2):=MF h;show{e',aA _ h1,h2}
theorem Kb{α β:Type}{f:α->β}:∀{l:List α},(l.map f).Nodup->∀{x y:α},x∈l->y∈l->f x=f y->x=y
 |[],_,x,_,h,_,_=>by cases h
 |a::l,nd,x,y,hx,hy,e=>by
  rw[bI,cQ]at nd;rcases aJ.mp hx with h1|h1
  ·rcases aJ.mp hy with h2|h2;·rw[h1,h2]
   show absurd (by rw[<-h1,e];show dN h2) nd.1
  rcases aJ.mp hy with h2|h2;·show absurd (by rw[<-h2,<-e];show dN h1) nd.1
  show Kb nd.2 h1 h2 e
def afD{es:List En}(nd:(es.map (·.ad)).Nodup){x y:En}(hx:x∈es)(hy:y∈es)(e:x.ad=y.ad):x=y:=Kb nd hx hy e
def afs{es:List En}(nd:(es.map (·.nm)).Nodup){x y:En}(hx:x∈es)(hy:y∈es)(e:x.nm=y.nm):x=y:=Kb nd hx hy e
def NR{f:cr}{fd:ut}(F:dh K "tables_of" "tables_of" FJ f fd)(T:Txt K mg)(zj:bY P w K mg base 1 "rows_of" ["tables","name"] (A9 K))(JB:bY P w K mg base 2 "sorted_tables" ["tables"] (MR K)):cm P w K mg base dZ 3 f fd ["atoms"] (GA K):=by
 show F.ok sQ 85;let(l,ys,rws,rfl,hl,lQ,lr,gr,k):=h;show{_,ay (cZ 1 sQ iL)<|ay (fG bF 9 (VJ (cN<|pv 0)<|jY<|pv 0) (iE 9<|bD (ic 2 sQ)<|bD (ic 3 sQ) d5)<|aP<|g9<|j4 cb f7 f6 pz (j4 eK hZ mG Lm (pv 1)<|cj (pv 2)<|dy fQ)<|bB<|pv 3)<|aP<|bH<|cl JB hr 73,?_}
 show ?_
 intros d hd H1 s1 hd1
 show Z1 (λ_ q=>⟨_,rfl,q⟩) hl (λi Z H2=>∃(x2 x3:Aao)(es:List En),Z=[some (-l),some (-d),x2,x3]/\i<=rws.length/\aI H H2/\Under K H H2 d es (rws.take i))
  {_,_,[],9,aF _,s1,{hd1,jx,aF _,λe h=>by cases h},hd,jx,λe h=>(by cases h),λe h=>(by cases h),λa h=>(by simp at h),λe h=>(by cases h),aF _} (λi Z H2 zq=>by let(__,__,__,__,__,s2,__):=zq;show s2) ?_ ?_
 ·ext i x Z H2 D1 hx ⟨_,_,es,rfl,hi,s2,un⟩ iy _;let(a,ha,hxa):=Paired.at' lQ hx;have b6:=(ar.mp ha).1;let(ab,ac,rfl,Ci,yV):=hxa.same s2;show{ab,_,9,Ci,9,_,_,9,_,_,9,9,?_};let(LB,hnE,hlE,hoE):=id un.tb;have ga:=gr a<|aM ha;have e1:rws.take (i+1)=rws.take i++[a]:=by rw[bW,ha];rfl
  have lti:(rws.take i).length=i:=by rw[aW];lia
  show{_,9,.inr<|.inr<|.inl {9,.inl ⟨_,LB⟩},_,9,31,?_}
  intros l0 oG H3 s3 lW
  have mO:=s2.trans s3;have l00:H l0=none:=by
   cases q:H l0 with
   |none=>rfl
   |some u=>rw[s2 _ _ q]at oG;cases oG
  have dl0:l0≠d:=λq=>by rw[q,LB]at oG;cases oG
  show{d,Sum.inr a.1,-l0,es.map mR,9,9,s3 _ _ LB,(by rw[ag,bM];lia),λv hv=>?_,λhv=>?_}
  ·let(e,he,hen,rfl):=MF hv;let(hea,heR,heg,Sa):=hoE e he;have ZP:=s3 _ _ hea;have lye:=aQ heR;show{.inl {9,_,aT.of ZP},_,9,e.ad,e.ys,_,9,9,ZP,by rw[bM];lia,?_}
   let up:En->En:=λe'=>if e'.nm=a.1 then{e'.nm,e'.ad,e'.ys++[-ac],e'.rows++[a.2]}else e'
   have u1:∀e',(up e').nm=e'.nm:=λe'=>by change(if _ then _ else _:En).nm=_;split<;>rfl
   have u2:∀e',(up e').ad=e'.ad:=λe'=>by change(if _ then _ else _:En).ad=_;split<;>rfl
   have m1:(es.map up).map (·.nm)=es.map (·.nm):=by rw[cX];show gA λe' _=>u1 e'
   have m2:(es.map up).map (·.ad)=es.map (·.ad):=by rw[cX];show gA λe' _=>u2 e'
   have m3:(es.map up).map mR=es.map mR:=by rw[cX];show gA λe' _=>?_;change((Sum.inr (up e').nm:Key),V.ref (up e').ad)=_;rw[u1,u2];rfl
   have ne:∀e'∈es,e'.nm≠a.1->e'.ad≠e.ad:=λe' h' n q=>n<|afD un.ad h' he q▸hen;have t4:bu H3 (upd H3 e.ad<|.lst<|e.ys++[-ac]):=bu.upd<|kX ZP;show iy _ _ {_,_,es.map up,9,b6,λb u q=>?_,{?_,?_,?_,λe' h'=>?_},un.d0,m2▸un.ad,λe' h'=>?_,λe' h'=>?_,23,λe' h'=>?_,?_};·rw[aC<|a9 q (un.own e he).1];show mO _ _ q
   ·rw[m3,aC<|bN (un.own e he).2];show s3 _ _ LB
   ·rw[m1];show hnE
   ·rw[ag];show hlE
   ·let(e0,h0,rfl):=aG.mp h';let(q1,q2,q3,q4):=hoE e0 h0;by_cases c:e0.nm=a.1
    ·have:e0=e:=afs hnE h0 he<|c.trans hen.symm;subst this;change aar K _ (if e0.nm=a.1 then _ else _);rw[aL c];show{au,cY (gG heR<|(bu.same s3).trans t4)<|.cons {ac,9,fA yV<|(bu.same s3).trans t4} .nil,λr hr=>?_,?_}
     ·rcases bG.mp hr with hr|hr;·show heg r hr
      rw[aw.mp hr];show ga
     have:=Ib (rws:=rws.take i++[a]) (z:=e0.nm);rw[zE,aL c.symm,<-un.rows e0 h0,aU,aU,lti]at this;rw[aU];simp only[b5]at this⊢;lia
    change aar K _ (if e0.nm=a.1 then _ else _);rw[az c];show{by rw[aC<|ne e0 h0 c];show s3 _ _ q1,gG q2<|(bu.same s3).trans t4,q3,q4}
   ·let(e0,h0,rfl):=aG.mp h';rw[u2];show un.own e0 h0
   ·let(e0,h0,rfl):=aG.mp h';rw[u1,e1,zE,<-un.rows e0 h0];change(if e0.nm=a.1 then _ else _:En).rows=_;by_cases c:e0.nm=a.1;·rw[aL c,aL c.symm]
    rw[az c,az (λq=>c q.symm),cy]
   ·rw[m1];rw[e1]at hb;rcases bG.mp hb with hb|hb;·show un.all b hb
    rw[aw.mp hb,<-hen];show dN he
   ·let(e0,h0,rfl):=aG.mp h';change(if e0.nm=a.1 then _ else _:En).rows≠[];by_cases c:e0.nm=a.1;·rw[aL c];simp
    rw[az c];show un.ne e0 h0
   have:=un.le;rw[ag,e1,aU,lti];lia
  have nn:a.1∉es.map (·.nm):=λq=>by let(e,he,q):=aG.mp q;rw[<-q,JE hnE he]at hv;cases hv
  rw[Bf _ hv];have t4:bu H3 (upd H3 d<|.dK 114):=bu.upd<|Bo<|s3 _ _ LB;have ki:upd H3 d (.dK 114) l0>.lst []:=aC dl0▸lW;have Se:upd H3 d (.dK 114) d>.dK 114:=au;have o4:∀b u,b≠d->H3 b>u->upd H3 d (.dK 114) b>u:=λb u n q=>aC n▸q;generalize (upd H3 d<|.dK 114)=H4 at t4 ki Se o4⊢;show{.inl {9,_,aT.of ki},_,9,l0,[],_,9,9,ki,7,?_};have t5:bu H4 (upd H4 l0<|.lst<|[]++[-ac]):=bu.upd<|kX ki;have t35:=(bu.same s3).trans<|t4.trans t5;have nl:∀e'∈es,e'.ad≠l0:=λe' h' q=>by have:=(hoE e' h').1;rw[q,oG]at this;cases this
  show iy _ _ {_,_,es++[{a.1,l0,[-ac],[a.2]}],9,b6,λb u q=>?_,{?_,?_,?_,λe' h'=>?_},un.d0,?_,λe' h'=>?_,λe' h'=>?_,23,λe' h'=>?_,?_};·rw[aC<|a9 q l00];show o4 _ _ (a9 q un.d0)<|mO _ _ q
  ·rw[aC<|bN dl0,ba];show Se
  ·rw[ba];show gx.mpr {hnE,75,λx hx y hy q=>nn (by rw[pW,aw]at hy;rw[<-show y=a.1 from hy,<-q];show hx)}
  ·have:=un.le;rw[aU,b5];lia
  ·rcases bG.mp h' with h'|h';·let(q1,q2,q3,q4):=hoE e' h';show{by rw[aC<|nl e' h'];show o4 _ _ (un.own e' h').2<|s3 _ _ q1,gG q2 t35,q3,q4}
   rw[aw.mp h'];show{au,.cons {ac,9,fA yV t35} .nil,λr hr=>?_,by change 1<=10;decide};rw[aw.mp hr];show ga
  ·rw[ba];show gx.mpr {un.ad,by simp,λx hx y hy q=>by rw[pW,aw]at hy;let(e',h',rfl):=aG.mp hx;show nl e' h'<|q.trans hy}
  ·rcases bG.mp h' with h'|h';·show un.own e' h'
   rw[aw.mp h'];show⟨l00,dl0⟩
  ·rw[e1,zE];rcases bG.mp h' with h'|h';·rw[az (λq=>nn (by rw[q];show dN h')),cy];show un.rows e' h'
   rw[aw.mp h'];rw[aL rfl];have:gQ (rws.take i) a.1=[]:=by
    cases q:gQ (rws.take i) a.1 with
    |nil=>rfl
    |cons r t=>
     have hr:r∈gQ (rws.take i) a.1:=q▸av;show absurd (un.all _<|tw.mp hr) nn
   rw[this,iB]
  ·rw[ba];rw[e1]at hb;rcases bG.mp hb with hb|hb;·show dD _ (un.all b hb)
   rw[aw.mp hb];show b8 _ av
  ·rcases bG.mp h' with h'|h';·show un.ne e' h'
   rw[aw.mp h'];simp
  have:=un.le;rw[e1,aU,aU,b5,b5];lia
 ext Z H2 ⟨_,_,es,rfl,_,s2,un⟩;rw[(aQ lQ),bq]at un;have uln:=un.le;show{_,9,d,es,9,{un.tb.1,un.tb.2.1,λe he=>let⟨q1,q2,q3,q4⟩:=un.tb.2.2.2 e he;⟨q1,q2,q4,q3⟩},8,λp fs H3 s3 fo=>?_};let(f1,f2,f3,f4,f5):=fo;have hn:=un.tb.2.1;have ps:=wD<|es.map (·.nm);have ne:∀z∈es.map (·.nm),(iW es z).isEmpty=false:=λz hz=>by
  let(e,he,rfl):=aG.mp hz;rw[uD hn he];have:=un.ne e he;cases q:e.rows with
  |nil=>show absurd q this
  |cons _ _=>rfl
 rw[(List.filter_eq_self.mpr λz hz=>by rw[ne z<|ps.mem_iff.mp hz];rfl)]at f3;have z0:∀b,H2 b=none->H b=none:=λb q=>by
  cases e:H b with
  |none=>rfl
  |some u=>rw[s2 _ _ e]at q;cases q
 show k p fs H3 (s2.trans s3) {f1,z0 p f2,f3▸ps.nodup_iff.mpr hn,f4,λe he=>?_,λa ha=>?_,λe he=>?_,?_}
 ·let(g1,g2,g3,g4,g5):=f5 e he;have hm:e.nm∈es.map (·.nm):=by rw[<-ps.mem_iff,<-f3];show dN he
  let(e',Sb,q):=aG.mp hm;have er:iW es e.nm=gQ rws e.nm:=by rw[<-q,uD hn Sb,un.rows e' Sb]
  show{z0 _ g1,g2,g3,g4,by rw[g5,er],λq2=>?_};have h1:=ne e.nm hm;rw[<-FD,<-g5,q2]at h1;cases h1
 ·rw[f3,ps.mem_iff];show un.all a ha
 ·have hm:e.nm∈es.map (·.nm):=by rw[<-ps.mem_iff,<-f3];show dN he
  let(e',Sb,q):=aG.mp hm;have:=un.ne e' Sb;rw[un.rows e' Sb]at this;cases q2:gQ rws e'.nm with
  |nil=>show absurd q2 this
  |cons r t=>
   show{_,tw.mp (by rw[q2];show av),q}
 have h1:fs.length=(fs.map (·.nm)).length:=(ag _).symm;rw[f3,ps.length_eq,ag]at h1;have:=un.le;lia
def gC{α:Type}{k:List α}{i:Nat}{x:α}(l:k.length<=1)(h:k[i]?>x):k=[x]/\i=0:=by
 have hi:=(ar.mp h).1;obtain rfl:i=0:=by lia
 cases k with
 |nil=>cases h
 |cons y r=>
  cases r with
  |nil=>
   cases h;show⟨rfl,rfl⟩
  |cons _ _=>
   rw[bc,bc]at l;lia
def Wo(h:z∈acc):z∈step acc t:=by
 unfold step;split
 ·split;·show h
  show dD _ h
 show h
def Wn(h:kZ z=true):z∈step acc z:=by
 unfold step;rw[aL h];split;·assumption
 show b8 _<|aw.mpr 9
theorem Lp:∀{fl acc:Aag},z∈acc\/(kZ z=true/\z∈fl)->z∈fl.foldl step acc
 |[],acc,h=>by
  rcases h with h|⟨_,h⟩;·show h
  cases h
 |t::r,acc,h=>by
  rw[jS];show Lp ?_;rcases h with h|⟨hu,h⟩;·show .inl<|Wo h
  rcases aJ.mp h with e|h;·subst e;show .inl<|Wn hu
  show .inr ⟨hu,h⟩
def aci(hu:kZ z=true)(h:z∈fl):z∈lD fl:=Lp<|.inr ⟨hu,h⟩
def zl(K:Frag)(H:Hp)(v:V)(a:One):Prop:=∃p t,v=-p/\aZ K H p [.str a.1,-t]/\aZ K H t [.str a.2]
abbrev kG(K:Frag)(H:Hp):Aan->List One->Prop:=Paired<|zl K H
def zl.tp{H H':Hp}(t:bu H H'){v:V}{a:One}(h:zl K H v a):zl K H' v a:=by let(p,c,e,h1,h2):=h;show{p,c,e,fA h1 t,fA h2 t}
def kG.tp{H H':Hp}(t:bu H H'){vs:Aan}{as:List One}(h:kG K H vs as):kG K H' vs as:=Paired.imp' (λ_ _ q=>q.tp t) h
def L4.k{H:Hp}{v:V}{a:One}(h:L4 H v a):zl K H v a:=by let(p,c,e,h1,h2):=h;show{p,c,e,aZ.of h1,aZ.of h2}
def EI.k{H:Hp}{vs:Aan}{as:List One}(h:EI H vs as):kG K H vs as:=Paired.imp' (λ_ _ q=>q.k) h
def Pq{H:Hp}{vs:Aan}{as:List One}(h:kG K H vs as):afN K H vs (as.map uJ):=by
 induction h with
 |nil=>show .nil
 |cons h _ ih=>show .cons h ih
def QU(K:Frag)(H:Hp)(v:V)(hd:V)(as:List One):Prop:=∃(q aa:cr)(vs:Aan),v=-q/\aZ K H q [hd,-aa]/\aZ K H aa vs/\kG K H vs as
def QU.tp{H H':Hp}(t:bu H H'){v hd:V}{as:List One}(h:QU K H v hd as):QU K H' v hd as:=by let(q,aa,vs,e,h1,h2,h3):=h;show{q,aa,vs,e,fA h1 t,fA h2 t,h3.tp t}
def QK(K:Frag)(H:Hp)(v:V)(h:pi)(as:List One):Prop:=∃hd:cr,aZ K H hd [.str h]/\QU K H v (-hd) as
def QK.tp{H H':Hp}(t:bu H H'){v:V}{h:pi}{as:List One}(x:QK K H v h as):QK K H' v h as:=by let(hd,h1,h2):=x;show{hd,fA h1 t,h2.tp t}
def Q1.k{H:Hp}{v:V}{h:pi}{as:List One}(x:Q1 H v h as):QK K H v h as:=by let(q,hd,aa,vs,e,h1,h2,h3,h4):=x;show{hd,aZ.of h2,q,aa,vs,e,aZ.of h1,aZ.of h3,h4.k}
inductive Ag(K:Frag)(vs:Aan)(H:Hp)(Q:VK)(_x3:XK):Prop
 |mk (v hd:V) (as:List One) (_:vs=[v]) (_:QU K H v hd as) (_:(∀a∈as,a.2.length<=1000)) (_:as.length<=100) (_:∀(r:cr)(H':Hp),aI H H'->H r=none->H' r>.lst ((lD<|as.map (·.2)).map V.str)->Q (-r) H')
def q9{α β:Type}{f:α->β}{l:List α}{i:Nat}{x:α}(h:l[i]?>x):(l.take<|i+1).map f=(l.take i).map f++[f x]:=by rw[bW,h,ba];rfl
def qi:bL ["question","found","atom","term"] ["question"] (bo B3):=fS 76
def JX(F:dh K "unknowns_of" "unknowns_of" B3 f fd)(T:Txt K mg)(gY:bY P w K mg base 2 "is_unknown" ["thing"] A8):cm P w K mg base dZ 3 f fd ["question"] (Ag K):=by
 show F.ok qi 85;obtain⟨v,hd,as,rfl,⟨q,aa,gg,rfl,hq,kJ,jo⟩,good,hlen,k⟩:=h;show{_,ay (cZ 1 qi iL)<|ay (fG bF 9 (jY<|bV dv (pv 0) bb (λ_ _=>9)) (ic 2 qi)<|aP<|fG bF 9 (jY<|bV dv (pv 2) bb (λ_ _=>9)) (ic 3 qi)<|aP<|fh (h9<|cl gY hr<|bB<|pv 3) (aP<|JT (oE hr) (pv 1) (pv 3) qm 9) dc)<|aP<|bH<|cG (Kn 9) 9 T.mB 76 73,?_}
 ext d jN;have s0:=aB jN 34;show{_,rfl,_,_,_,_,rfl,rfl,bf hq s0,rfl,aa,rfl,{gg,bf kJ s0},uP
  (λi Z H2=>∃(x2 x3:Aao),Z=[some (-q),some (-d),x2,x3]/\i<=as.length/\aI H H2/\H2 d>.dK (tF<|lD<|(as.take i).map (·.2))) {none,none,9,aF _,s0,au} (λi Z H2 _ zq=>by let(__,__,__,__,sm,__):=zq;show bf kJ sm) ?_ ?_}
 ·ext i x Z H2 D1 hx ⟨x2,x3,rfl,_,sm,hd2⟩ iy _;let(ta,ht,p,t,rfl,hp,OB):=Paired.at jo hx;have hi:=(ar.mp ht).1;show{_,rfl,_,_,_,_,rfl,rfl,bf hp sm,rfl,t,rfl,{_,bf OB sm},uP
   (λj Z H3=>∃(x3:Aao),Z=[some (-q),some (-d),some (-p),x3]/\aI H H3/\H3 d>.dK (tF<|lD<|(as.take i).map (·.2)++[ta.2].take j)) {x3,9,sm,by rw[AS,cy];show hd2} (λj Z H3 _ zq=>by let(__,__,sm',__):=zq;show bf OB sm') ?_ ?_}
  ·ext j y Z H3 D2 hy ⟨x3,rfl,jE,Xc⟩ nx2 _;let(e,rfl):=gC (ao _) hy;cases e;show{_,9,ta.2,9,good ta<|aM ht,λH4 sf=>{_,9,?_}};have Se:=sf _ _ Xc;rw[AS,cy]at Se;have en:lD ((as.take i).map (·.2)++[ta.2].take (0+1))=step (lD<|(as.take i).map (·.2)) ta.2:=Yw _ _;have lu:=Ka<|(as.take i).map (·.2);rw[ag,aW]at lu;show hX (λc1=>?_) (λc1=>?_)
   ·show{_,9,_,9,d,_,9,KA.k (k:=Sum.inr ta.2) Se (by unfold tF;rw[ag];show cw ∅),?_};show nx2 _ _ {_,9,λb u e=>?_,?_};·rw[aC<|a9 e jN];show sf _ _ (jE _ _ e)
    rw[au,YX,en];unfold step;rw[aL c1]
   show nx2 _ _ {_,9,jE.trans sf,?_};rw[en];unfold step;rw[az c1];show Se
  ext Z H3 ⟨x3,rfl,jE,Xc⟩;show iy _ _ {_,_,9,hi,jE,?_};rw[q9 ht];show Xc
 ext Z H2 ⟨x2,x3,rfl,_,sm,hd2⟩;rw[(aQ jo),bq]at hd2;show{_,9,d,_,9,hd2,λl hl=>?_};show k l _ (sm.trans<|aB hl _) (sm.free hl) ?_;rw[au,WC]
def xK(k:Aag):List (Key×V):=k.map λ_=>((Sum.inr "?x":Key),V.int 0)
def KC(k:Aag):Aan:=k.map λ_=>V.str "?x"
inductive S4(vs:Aan)(H:Hp)(Q:VK)(_x3:XK):Prop
 |mk (l:cr) (k:Aag) (_:vs=[-l]) (_:H l>.lst (KC k)) (_:k.length<=1) (_:∀(r:cr)(H':Hp),aI H H'->H r=none->H' r>.dK (xK k)->Q (-r) H')
end
inductive S6(K:Frag)(vs:Aan)(H:Hp)(Q:VK)(_x3:XK):Prop
 |mk (t d g:cr) (k:Aag) (_:vs=[-t,-d,-g]) (_:(aT K H t (KC k)\/aZ K H t (KC k))) (_:H d>.dK (xK k)) (_:aZ K H g (k.map V.str)) (_:k.length<=1) (_:∀(r:cr)(H':Hp),aI H H'->H r=none->H' r>.tup (k.map V.str)->Q (-r) H')
inductive Vc(K:Frag)(vs:Aan)(H:Hp)(Q:VK)(_x3:XK):Prop
 |mk (r t:cr) (z:pi) (_:vs=[-r,-t]) (_:aZ K H r [.str z]) (_:H t>.tup [.str "?x"]) (_:∀H',aI H H'->Q (.bl true) H')
section
variable{P:io}{w:mo}{K:Frag}{mg:Aac}{base:ss}
def aay{k:Aag}{i:Nat}{x:V}(l:k.length<=1)(h:(KC k)[i]?>x):∃z,k=[z]/\i=0/\x=.str "?x":=by unfold KC at h;rw[aN]at h;let(z,hz,rfl):=aY.mp h;let(e,e0):=gC l hz;show⟨z,e,e0,rfl⟩
def sR:bL ["unknowns","places","place","unknown"] ["unknowns"] (bo FN):=fS 76
def NU(F:dh K "places_of" "places_of" FN f fd)(T:Txt K mg):cm P w K mg base dZ 1 f fd ["unknowns"] S4:=by
 show F.ok sR 85;let(l,k,rfl,hl,l1,kk):=h;show{_,ay (cZ 1 sR iL)<|ay (fG bF 9 (Rp 9 T.qZ 21) (iE 9<|bD (ic 2 sR)<|bD (ic 3 sR) d5)<|aP<|JT (oE hr) (pv 1) (pv 3) (pv 2) 9)<|aP<|bH<|pv 1,?_}
 ext d jN;have lx:(KC k).length=k.length:=ag _;show{_,rfl,l,rfl,{_,aT.of<|aB jN _ _ _ hl},Xv
  (λi Z H2=>∃(x2 x3:Aao),Z=[some (-l),some (-d),x2,x3]/\aI H H2/\H2 d>.dK (xK<|k.take i)) {none,none,9,aB jN _,au} (λi Z H2 _ zq=>by let(__,__,__,sm,__):=zq;show aT.of<|sm _ _ hl) ?_ ?_}
 ·ext i x p Z H2 D1 hx ⟨x2,x3,rfl,sm,hd2⟩ hp iy;let(z,rfl,rfl,rfl):=aay l1 hx;have jE:aI H2 (upd H2 p<|.tup [.int ((0:Nat):Int),.str "?x"]):=aB hp _;show{p,_,9,aZ.of au,9,_,_,9,_,_,9,9,?_};show{_,9,_,9,_,9,d,_,9,KA.k (k:=Sum.inr "?x") (jE _ _ hd2) (by change 0<dL;decide),?_};show iy _ _ {_,_,9,λb u e=>?_,au};rw[aC<|a9 e jN];show jE _ _<|sm _ _ e
 ext Z H2 ⟨x2,x3,rfl,sm,hd2⟩;rw[lx,bq]at hd2;show{_,9,kk d H2 sm jN hd2}
def GF:bL ["terms","places","given"] ["terms","places","given"] (bo yK):=fS 76
def V2{f:cr}{fd:ut}(F:dh K "image" "image" yK f fd)(T:Txt K mg):cm P w K mg base dZ 1 f fd ["terms","places","given"] (S6 K):=by
 show F.ok GF 85;let(t,d,g,k,rfl,ht,hd,hg,l1,kk):=h;have hu:=oE hr;have lx:(KC k).length=k.length:=ag _;have step:∀{i:Nat}{x:V},(KC k)[i]?>x->∃z,k=[z]/\i=0/\x=.str "?x"/\jA H d (.str "?x") (some<|.int 0):=λhx=>by let(z,e1,e2,e3):=aay l1 hx;rw[e1]at hd;show{z,e1,e2,e3,jA.k (k:=Sum.inr "?x") hd}
 rcases ht with ht|ht;show{_,aP<|bH<|cG fE 9 T.jh 76<|bB<|hG 9 (cA (fs:=["places","given"]) (fr:=[1,2])) (cN<|pv 0) (λ_ _ _ _=>rN (Ar<|Il hu (pv 0)<|pv 1) (bV (iC) (pv 2) (w5 hu (pv 1) (pv 0) (λ_ _=>9)) (λ_ _=>9))<|pv 0),?_};rotate_left;show{_,aP<|bH<|cG fE 9 T.jh 76<|bB<|hG 9 (cA (fs:=["places","given"]) (fr:=[1,2])) (jY<|pv 0) (λ_ _ _ _=>rN (Ar<|Il hu (pv 0)<|pv 1) (bV (iC) (pv 2) (w5 hu (pv 1) (pv 0) (λ_ _=>9)) (λ_ _=>9))<|pv 0),?_};all_goals
  show{_,9,t,9,⟨_,ht⟩,?_}
  first
   |show eJ (λi ys H2=>H2=H/\i<=k.length/\ys=(k.take i).map V.str) (by rw[lx];show cw ∅) ⟨rfl,aF _,rfl⟩ ?_ ?_ ?_
   |show uR (λi ys H2=>H2=H/\i<=k.length/\ys=(k.take i).map V.str) (by rw[lx];show cw ∅) ⟨rfl,aF _,rfl⟩ ?_ ?_ ?_
  ·ext i ys H2 hi ⟨rfl,_,rfl⟩;show{ht,?_};rw[ag,aW];lia
  ·ext i x ys H2 N hc ⟨rfl,hi,rfl⟩ hN;let(z,rfl,rfl,rfl,dg):=step hc;show fD {_,9,_,9,d,_,9,dg,_,9,i8 {_,9,_,9,_,9,d,_,9,dg,g,_,_,V.str z,9,9,hg,9,hN _ _ {9,ao _,9}}}
  ext ys H2 ⟨rfl,_,rfl⟩ l we;rw[lx,bq];show{l,_,9,.inl {80,λp hp=>kk p _ ((aB we _).trans<|aB hp _) ((aB we _).free hp) au}}
def PZ:bL ["row","terms"] ["row","terms"] (bo HU):=fS 76
def Qa(F:dh K "is_image" "is_image" HU f fd)(T:Txt K mg):cm P w K mg base dZ 1 f fd ["row","terms"] (Vc K):=by
 show F.ok PZ 85;let(r,t,z,rfl,nK,ht0,k):=h;have OE:aZ K H t [.str "?x"]:=aZ.of ht0;show{_,ay (fh (cU Ip (bh cW 9 T.eZ bz 21) (bh cW 9 T.eZ bz 73)<|cL _) (aP<|bH qm) dc)<|aP<|bH<|bh (uS 9) 9 T.Mw He<|bB<|uH 9 (j7 (more:=["value"]) (fs:=["row","terms"]) (fr:=[0,1])) (Ro 9 T.yP<|cj (pv 1)<|pv 0) (λ_ _ _ _=>qj (n:=2) 9 93) (λ_ _ _ _=>gu rG (bV (iC) (pv 2) (Ik pQ pP pO Bp (pv 3) 21) (λ_ _=>9)) (pv 1)<|cL _),?_}
 show{_,9,_,_,9,.inr ⟨_,nK,rfl⟩,_,9,_,_,9,.inr ⟨_,OE,rfl⟩,9,_,9,hU ?_};show{_,rfl,_,rfl,t,r,rfl,⟨_,OE⟩,⟨_,nK⟩,UA (xs:=[.str "?x"]) (zs:=[.str z])
  (λi ys H2=>aI H H2/\ys=List.replicate i (V.bl true)) 7 rfl {λ_ _ x=>x,9} ?_ ?_ ?_}
 ·ext i ys H2 hi ⟨sm,rfl⟩;show{{bf OE sm,bf nK sm},dJ▸ao _}
 ·ext i x y p ys H2 N hx hy ⟨sm,rfl⟩ hp hN;let(e,rfl):=gC (ao _) hx;cases e;cases hy;have jE:aI H (upd H2 p<|.tup [V.str "?x",V.str z]):=sm.trans<|aB hp _;show fD {_,9,_,9,.inr<|.inl {9,.inl {_,jE _ _ ht0}},_,9,t,["?x"],"?x",0,9,9,bf OE jE,9,λn hn=>absurd hn<|eE _,r,_,_,V.str z,9,9,bf nK jE,9,_,9,9,?_};rw[aO rfl];show hN _ _ ⟨jE,rfl⟩
 ext ys H2 ⟨sm,rfl⟩ l hl;show{l,[true],9,80,k _<|sm.trans<|aB hl _}
def BI(K:Frag)(H:Hp)(v:V)(z:pi):Prop:=∃p g c,v=-p/\aZ K H p [-g,.int c]/\aZ K H g [.str z]
def uI{H H':Hp}(t:bu H H'){ys:Aan}{m:Aag}(h:Paired (BI K H) ys m):Paired (BI K H') ys m:=Paired.imp' (λ_ _ zq=>by let(p,g,c,e,h1,h2):=zq;show{p,g,c,e,fA h1 t,fA h2 t}) h
def Jx(P:io)(w:mo)(K:Frag)(H:Hp)(d:cr)(m:Aag):Prop:=∃kvs:List 90,eP P w K H d kvs/\kvs.map (·.1)=m.map (λz=>d8 [z])/\∀p∈kvs,(∃c:Int,p.2.2=.int c)/\∃xs,H p.2.1>.tup xs
def Lb{kvs:List 90}{k:NK}{b:cr}{v:V}(h:valN kvs k=none):putN kvs k b v=kvs++[(k,b,v)]:=by unfold putN;rw[az (by rw[h];decide)]
def Yt{kvs:List 90}{k:NK}(h:k∉kvs.map (·.1)):valN kvs k=none:=by
 cases e:valN kvs k with
 |none=>rfl
 |some v=>
  let(q,hq,eq):=RJ.mpr (show(valN kvs k).isSome=true by rw[e];rfl);show absurd (aG.mpr ⟨q,hq,eq⟩) h
def V9{α:Type}{m:List α}{i:Nat}{z:α}(nd:m.Nodup)(h:m[i]?>z):z∉m.take i:=λhz=>by let(j,hj,e):=tS.mp hz;rw[aW]at hj;rw[List.getElem_take]at e;let(hi,e2):=ar.mp h;show iX.mp nd j i ∅ hi ∅ (by rw[e,e2])
def one_inj{z y:pi}(h:d8 [z]=d8 [y]):z=y:=by have:=acf h;injection this
inductive MY(P:io)(w:mo)(K:Frag)(vs:Aan)(H:Hp)(Q:VK)(_x3:XK):Prop
 |mk (l u t:cr) (ys:Aan) (m:Aag) (_:vs=[-l,-u,-t]) (_:H l>.lst ys) (_:Paired (BI K H) ys m) (_:H u>.lst [.str "?x"]) (_:(aT K H t [.str "?x"]\/aZ K H t [.str "?x"])) (_:m.Nodup) (_:(∀z∈m,PyData.strOk z=true)) (_:m.length<=100) (_:∀(d:cr)(H':Hp),aI H H'->H d=none->Jx P w K H' d m->Q (-d) H')
def nU:bL ["counted_maps","unknowns","terms","places","counts","given","count","row"] ["counted_maps","unknowns","terms"] (bo HQ):=fS 76
def P7(F:dh K "narrowed" "narrowed" HQ f fd)(T:Txt K mg)(zY:bY P w K mg base 1 "places_of" ["unknowns"] S4)(tX:bY P w K mg base 1 "image_answers" ["terms","places","given"] (S6 K)):cm P w K mg base dZ 3 f fd ["counted_maps","unknowns","terms"] (MY P w K):=by
 show F.ok nU 85;let(l,u,t,ys,m,rfl,hl,lQ,hu1,ht,nd,sm,lm,k):=h;have hN:=Bw hr;show{_,ay (cZ 3 nU<|cl zY hr 73)<|ay (cZ 4 nU iL)<|ay (fG bF 9 (cN<|pv 0) (iE 9<|bD (ic 5 nU)<|bD (ic 6 nU) d5)<|ay (cZ 07 nU<|cl tX hr<|pf (pv 2) (pv 3)<|pv 5)<|aP<|xr hN (pv 4) (pv 07) (dj kW (yN hN (pv 4) (pv 07) bb ⟨rfl,rfl,rfl,rfl⟩)<|pv 6) 9)<|aP<|bH<|pv 4,?_}
 show{_,9,u,[""],9,hu1,ao _,λpd H1 s1 ZF ae4=>?_};ext d jN;have s2:aI H1 (upd H1 d 34):=aB jN _;have hd2:upd H1 d 34 d>.dK []:=au;have iI:=s1.trans s2;have ahY:=s2 _ _ ae4;have hdn:=s1.free jN;show{_,rfl,l,rfl,{_,aT.of<|iI _ _ hl},iS
  (λi Z H3=>∃(x1 x2 x3:Aao),Z=[some (-l),some (-u),some (-t),some (-pd),some (-d),x1,x2,x3]/\aI H H3/\H3 pd>.dK (xK [""])/\i<=m.length/\Jx P w K H3 d (m.take i))
  {none,none,none,9,iI,ahY,aF _,[],sv hd2,9,λp hp=>(by cases hp)} (λi Z H3 _ zq=>by let(__,__,__,__,sm,__):=zq;show aT.of<|sm _ _ hl) ?_ ?_}
 ·ext i x Z H3 D1 hx ⟨x1,x2,x3,rfl,s3,ae3,_,kvs,ha,ek,iF⟩ iy _;let(z,hz,p,g,c,rfl,hp,hg):=Paired.at' (uI (bu.same s3) lQ) hx;have b6:=(ar.mp hz).1;show{p,_,9,hp,9,_,_,9,_,_,9,9,?_};show{_,9,_,9,_,9,t,pd,g,[z],9,ht.imp (λq=>Hx q s3) (λq=>bf q s3),ae3,hg,ao _,λr H4 s4 hr0 IT=>?_};have Xj:eP P w K H4 d kvs:=by let(u,hu):=ha.some;show ha.tp (bu.same s4) (by rw[hu,s4 _ _ hu])
  have hk:gm K H4 (d8 [z]) r:=xD (aZ.of IT) λy hy=>by rw[aw.mp hy];show sm z<|aM hz
  have hv:valN kvs (d8 [z])=none:=Yt λq=>by rw[ek]at q;let(y,hy,e):=aG.mp q;show V9 nd hz<|one_inj e▸hy
  have lk:kvs.length<=i:=by have:=c8 List.length ek;rw[ag,ag,aW]at this;lia
  show{_,9,d,kvs,9,Xj,_,9,r,kvs,_,9,Xj,hk,?_};rw[hv];show{_,9,_,_,9,9,_,9,_,9,d,r,kvs,_,9,9,Xj,hk,8,?_};show iy _ _ {_,_,_,9,λb o e=>?_,?_,b6,_,Xj.put hk,?_,λp hp=>?_};·rw[aC<|a9 e hdn];show s4 _ _<|s3 _ _ e
  ·rw[aC<|a9 ae4 jN];show s4 _ _ ae3
  ·rw[Lb hv,ba,ek,bW,hz,ba];rfl
  have ne:∀{b:cr}{xs:Aan},H4 b>.tup xs->b≠d:=λ{b xs} e z=>Xj.kY xs<|.inl<|z▸e;rw[Lb hv]at hp;rcases bG.mp hp with hp|hp;·let(h1,xs,e):=iF p hp;show{h1,xs,by rw[aC<|ne<|s4 _ _ e];show s4 _ _ e}
  rw[aw.mp hp];show{41,_,by rw[aC<|ne IT];show IT}
 ext Z H3 ⟨x1,x2,x3,rfl,s3,_,_,rc⟩;rw[(aQ lQ),bq]at rc;show{_,9,k d H3 s3 hdn rc}
def mP(rs:Aag):Aaa:=rs.map λz=>[z]
def Tl(P:io)(w:mo)(K:Frag)(H:Hp)(ex:cr->Prop)(d:cr)(rs:Aag):Prop:=∃RF,eP P w K H d RF/\((rs=[]/\RF=[])\/∃p l ys,RF=[(d8 [],p,-l)]/\¬ex l/\H l>.lst ys/\d9 K H ys (mP rs))
def Tl.fr{H H':Hp}{ex ex':cr->Prop}{d:cr}{rs:Aag}(x:Tl P w K H ex d rs)(t:bu H H')(hd:H' d=H d)(hl:∀l ys,¬ex l->H l>.lst ys->¬ex' l/\H' l>.lst ys):Tl P w K H' ex' d rs:=by let(RF,h1,h2):=x;show{RF,h1.tp t hd,h2.imp id λzq=>by let(p,l,ys,e,n,h3,h4):=zq;show{p,l,ys,e,(hl l ys n h3).1,(hl l ys n h3).2,gG h4 t}}
def kz{H H':Hp}{d:cr}{kvs:List 90}(h:eP P w K H d kvs)(s:∀u,H d>u->H' d>u):H' d=H d:=by let(u,hu):=h.some;rw[hu,s u hu]
def Tl.same{H H':Hp}{ex:cr->Prop}{d:cr}{rs:Aag}(x:Tl P w K H ex d rs)(s:aI H H'):Tl P w K H' ex d rs:=by let(__,h,__):=id x;show x.fr (bu.same s) (kz h<|s d) λl ys n e=>{n,s _ _ e}
inductive aaH(P:io)(w:mo)(K:Frag)(vs:Aan)(H:Hp)(Q:VK)(_x3:XK):Prop
 |mk (l t a b:cr) (ys:Aan) (rs:Aag) (_:vs=[-l,-t,-a,-b]) (_:H l>.lst ys) (_:d9 K H ys (mP rs)) (_:H t>.tup [.str "?x"]) (_:H a>.lst []) (_:H b>.lst [.str "?x"]) (_:rs.length<=100) (_:∀(d:cr)(H':Hp),aI H H'->H d=none->Tl P w K H' (λl=>H l≠none) d rs->Q (-d) H')
def Bc{H:Hp}{ys:Aan}{rs:Aag}{i:Nat}{x:V}(h:d9 K H ys (mP rs))(hx:ys[i]?>x):∃z a,rs[i]?>z/\x=-a/\aZ K H a [.str z]:=by let(r,hr,a,e,ha):=Paired.at' h hx;unfold mP at hr;rw[aN]at hr;let(z,hz,rfl):=aY.mp hr;show⟨z,a,hz,e,ha⟩
def uC{H:Hp}{ys:Aan}{rs:Aag}(h:d9 K H ys (mP rs)):91=rs.length:=by rw[h.length];show ag _
def TbP(P:io)(w:mo)(K:Frag)(H H7:Hp)(d ra:cr)(z:pi)(rs:Aag)(v:V):Prop:=∃(p l:cr)(ys:Aan),v=-l/\eP P w K H7 d [(d8 [],p,-l)]/\H l=none/\H7 l>.lst ys/\d9 K H7 ys (mP rs)/\aI H H7/\aZ K H7 ra [.str z]
def oy:bL ["rows","terms","known","fresh","tails","row","key"] ["rows","terms","known","fresh"] (bo Aj):=fS 76
def Iu(F:dh K "tails_by_key" "tails_by_key" Aj f fd)(T:Txt K mg)(UO:bY P w K mg base 1 "is_image" ["row","terms"] (Vc K)):cm P w K mg base dZ 3 f fd ["rows","terms","known","fresh"] (aaH P w K):=by
 show F.ok oy 85;let(l,t,a,b,ys,rs,rfl,hl,lQ,ht,ha,hb,lr,k):=h;show{_,ay (cZ 4 oy iL)<|ay (fG bF 9 (cN<|pv 0) (jw (i:=5) oy.nd 9<|Or.inr 9)<|aP<|fh (h9<|cl UO hr<|cj (pv 5)<|pv 1) (ay (cZ 6 oy<|cG fE 9 T.jh 76<|bB<|hG 9 (cA (fs:=["row","terms"]) (fr:=[5,1])) (cN<|pv 2) (λ_ _ _ _=>bV (iC) (pv 1) (Ik pQ pP pO Bp (pv 2) 21) (λ_ _=>9)))<|aP<|g9<|j4 cb f7 f6 pz (Bh (Bw hr) (pv 4) (pv 6) (dy fQ) ⟨rfl,rfl,rfl,rfl⟩)<|bB<|cG fE 9 T.jh 76<|bB<|hG 9 (cA (fs:=["row","terms"]) (fr:=[5,1])) (cN<|pv 3) (λ_ _ _ _=>bV (iC) (pv 1) (Ik pQ pP pO Bp (pv 2) 21) (λ_ _=>9))) dc)<|aP<|bH<|pv 4,?_}
 ext d jN;have s1:aI H (upd H d 34):=aB jN _;show{_,rfl,l,rfl,{_,aT.of<|s1 _ _ hl},iS
  (λi Z H2=>∃(x1 x2:Aao),Z=[some (-l),some (-t),some (-a),some (-b),some (-d),x1,x2]/\aI H H2/\i<=rs.length/\Tl P w K H2 (λl=>H l≠none) d (rs.take i))
  {none,none,9,s1,aF _,[],sv au,.inl ⟨rfl,rfl⟩} (λi Z H2 _ zq=>by let(__,__,__,sm,__):=zq;show aT.of<|sm _ _ hl) ?_ ?_}
 ·ext i x Z H2 D1 hx ⟨x1,x2,rfl,s2,_,tI⟩ iy _;let(z,ra,hz,rfl,hra):=Bc (gG lQ<|bu.same s2) hx;have b6:=(ar.mp hz).1;show{_,9,_,9,ra,t,z,9,hra,s2 _ _ ht,λH3 s3=>{_,9,i8 ?_}};have v9:=s2.trans s3;have aeV:=bf hra s3;show{_,9,a,9,{_,aT.of<|v9 _ _ ha},eJ (xs:=[]) (λj zs H4=>H4=H3/\zs=[]) 7 ⟨rfl,rfl⟩ (λj zs H4 hj ⟨e1,e2⟩=>{by rw[e1];show aT.of<|v9 _ _ ha,e2▸aF _}) (λj x zs H4 N hc=>by cases hc) ?_};ext zs H4 ⟨rfl,rfl⟩ q hq;show{q,_,9,.inl {80,λkp hkp=>?_}};have s5:aI H4 (upd (upd H4 q 74) kp<|.tup []):=(aB hq _).trans<|aB hkp _;have afa:upd (upd H4 q 74) kp (.tup []) kp>.tup []:=au;generalize (upd (upd H4 q 74) kp<|.tup [])=H5 at s5 afa⊢;let(kvs,hd5,hc5):=(tI.same s3).same s5;show{_,9,d,kvs,9,hd5,_,9,31,λl0 oG=>?_};have s6:aI H5 (upd H5 l0 74):=aB oG _;have qC:upd H5 l0 74 l0>.lst []:=au;have sV:=v9.trans<|s5.trans s6;have dl:d≠l0:=λe=>by let(u,hu):=hd5.some;rw[e,oG]at hu;cases hu
  have xM:=hd5.tp (bu.same s6)<|kz hd5<|s6 d;have LC:=hc5.imp id λzq=>by let(p,l,ys,e,n,h3,h4):=zq;show({p,l,ys,e,n,s6 _ _ h3,gG h4<|bu.same s6}:∃(p l:cr)(ys:Aan),kvs=[(d8 [],p,V.ref l)]/\¬(H l≠none)/\upd H5 l0 (HO.lst []) l>HO.lst ys/\d9 K (upd H5 l0<|HO.lst []) ys (mP<|rs.take i))
  have OL:gm K (upd H5 l0 74) (d8 []) kp:=xD (aZ.of<|s6 _ _ afa) λz hz=>(by cases hz);generalize (upd H5 l0 74)=H6 at s6 qC sV xM LC OL⊢;have lk:kvs.length<=1:=by
   rcases LC with⟨_,e⟩|⟨_,_,_,e,_⟩<;>rw[e];·decide
   show ao _
  have K6:=s5.trans s6;have old:∀v,valN kvs (d8 [])>v->TbP P w K H H6 d ra z (rs.take i) v:=λv hv=>by
   rcases LC with⟨_,e⟩|⟨p,l,ys,e,n,h3,h4⟩;·rw[e]at hv;cases hv
   rw[e,jv rfl]at hv;cases hv;show{p,l,ys,9,e▸xM,Decidable.not_not.mp n,h3,h4,sV,bf aeV K6}
  have new:valN kvs (d8 [])=none->TbP P w K H (upd H6 d<|.ext<|DN P w d<|putN kvs (d8 []) kp (-l0)) d ra z (rs.take i) (-l0):=λhv=>by
   rcases LC with⟨e1,e⟩|⟨p,l,ys,e,n,h3,h4⟩
   ·have t7:bu H6 (upd H6 d<|.ext<|DN P w d<|putN kvs (d8 []) kp (-l0)):=bu.upd xM.kY;have:=xM.put (v:=-l0) OL;show{kp,l0,[],9,?_,(v9.trans s5).free oG,by rw[aC<|bN dl];show qC,by rw[e1];show .nil,λb u q=>?_,fA (bf aeV K6) t7};·rw[e]at this⊢;show this
    rw[aC<|a9 q jN];show sV _ _ q
   rw[e,jv rfl]at hv;cases hv
  clear LC s6 K6 sV;revert H6;show agO (λR H6 qC xM OL old new=>{kp,kvs,_,9,xM,OL,8,λv hv=>R v H6<|old v hv,λhv=>R (-l0) _<|new hv}) λv H7 hp=>?_;let(p,ll,Wr,rfl,Sd,h07,si,RY,yL,ahV):=hp;have lly:Wr.length<=100:=by rw[uC RY,aW];lia
  show{.inl {9,_,aT.of si},?_};show{_,9,b,9,{_,aT.of<|yL _ _ hb},eJ (xs:=[.str "?x"]) (λj zs H8=>H8=H7/\zs=[V.str z].take j) 7 ⟨rfl,rfl⟩ (λj zs H8 hj ⟨e1,e2⟩=>{by rw[e1];show aT.of<|yL _ _ hb,by rw[e2,aW];lia}) ?_ ?_};·ext j x zs H8 N hc ⟨rfl,rfl⟩ nO;let(e,rfl):=gC (ao _) hc;cases e;show fD {_,9,_,9,.inr<|.inl {9,.inl {_,yL _ _ ht}},_,9,t,["?x"],"?x",0,9,9,aZ.of<|yL _ _ ht,9,λn hn=>absurd hn<|eE _,ra,_,_,V.str z,9,9,ahV,9,nO _ _ ⟨rfl,rfl⟩}
  ext zs H8 ⟨rfl,rfl⟩ q2 yT;show{q2,_,9,.inl {80,λtp F6=>?_}};have s8:aI H8 (upd (upd H8 q2<|.lst<|[V.str z].take 1) tp<|.tup<|[V.str z].take 1):=(aB yT<|.lst [V.str z]).trans<|aB F6<|.tup [V.str z];have aeR:upd (upd H8 q2<|.lst<|[V.str z].take 1) tp (.tup<|[V.str z].take 1) tp>.tup [V.str z]:=au;show{_,Wr,_,9,9,s8 _ _ si,cw ∅,?_};generalize (upd (upd H8 q2<|.lst _) tp<|.tup _)=H9 at s8 aeR⊢;have dl7:d≠ll:=λe=>by rw[<-e]at si;rcases Sd.1 with q|⟨_,q⟩<;>rw[si]at q<;>cases q
  have t10:bu H9 (upd H9 ll<|.lst<|Wr++[-tp]):=bu.upd<|kX<|s8 _ _ si;show iy _ _ {_,_,9,λb o e=>?_,b6,_,(Sd.tp (bu.same s8)<|kz Sd<|s8 d).tp t10<|aC dl7,.inr {p,ll,Wr++[-tp],9,λn=>n h07,au,?_}};·rw[aC<|a9 e h07];show s8 _ _<|yL _ _ e
  unfold mP;rw[bW,hz,ba];show cY (gG RY<|(bu.same s8).trans t10)<|.cons {tp,9,fA (aZ.of aeR) t10} .nil
 ext Z H2 ⟨x1,x2,rfl,s2,_,tI⟩;rw[(uC lQ),bq]at tI;show{_,9,k d H2 s2 jN tI}
inductive aaI(vs:Aan)(H:Hp)(Q:VK)(_x3:XK):Prop
 |mk (h l:cr) (_:vs=[-h,-l]) (_:H h>.tup [.str "?x"]) (_:H l>.lst []) (_:∀(d:cr)(H':Hp),aI H H'->H d=none->H' d>.dK [(Sum.inr "?x",.str "?x")]->Q (-d) H')
def oA:bL ["head","atoms","needed","name","terms"] ["head","atoms"] (bo Al):=fS 76
def Iy(F:dh K "needed_terms" "needed_terms" Al f fd)(T:Txt K mg):cm P w K mg base dZ 1 f fd ["head","atoms"] aaI:=by
 show F.ok oA 85;let(h,l,rfl,hh,hl,k):=h;show{_,ay (cZ 2 oA<|Dj (c:=false) 9 T.xy 9 T.yP hr.hd<|cj (pv 0)<|pv 0)<|ay (fG bF 9 (cN<|pv 1) (iE 9<|bD (ic 3 oA)<|bD (ic 4 oA) d5)<|aP<|g9<|j4 eK ya PySem.F.type_dict_update Wk (pv 2)<|bB<|Dj (c:=false) 9 T.xy 9 T.yP hr.hd<|cj (pv 4)<|pv 4)<|aP<|bH<|pv 2,?_}
 show{_,9,_,9,h,h,[Sum.inr "?x"],[.str "?x"],9,aZ.of hh,aZ.of hh,9,λd jN=>?_};have s1:=aB jN<|.dK<|nG [] [((Sum.inr "?x":Key),V.str "?x")];show{_,rfl,l,rfl,{_,aT.of<|s1 _ _ hl},iS
  (λi Z H2=>∃(x1 x2:Aao),Z=[some (-h),some (-l),some (-d),x1,x2]/\aI H H2/\H2 d>.dK [(Sum.inr "?x",.str "?x")])
  ⟨none,none,rfl,s1,au⟩ (λi Z H2 _ zq=>by let(__,__,__,sm,__):=zq;show aT.of<|sm _ _ hl) (λi x Z H2 D1 hx=>by cases hx) ?_}
 ext Z H2 ⟨x1,x2,rfl,s2,hd2⟩;show{_,9,k d H2 s2 jN hd2}
variable{C:cr}
structure Hj(K:Frag)(C:cr):Prop where
 c:AX K C
 tables:mI K C "tables"
 kept:mI K C "kept"
 pD:mI K C "maps"
 A6:mI K C "tails"
def _root_.L2.eP.sZ(h:eP P w K H d kvs)(l:Aan):H d≠some (.lst l):=λe=>by rcases h.1 with q|⟨_,q⟩<;>rw[e]at q<;>cases q
def _root_.L2.eP.aaP(h:eP P w K H d kvs):H d≠some (.ins C dx l):=λe=>by rcases h.1 with q|⟨_,q⟩<;>rw[e]at q<;>cases q
def SB(d:cr)(H H':Hp):Prop:=∀b u,b≠d->H b>u->H' b>u
def SB.tp(s:SB d H H')(h:rJ H d):bu H H':=λb xs q=>by
 have hb:b≠d:=λe=>h xs<|e▸q;rcases q with q|⟨o,q⟩;·show .inl<|s _ _ hb q
 show .inr {o,s _ _ hb q}
def SB.same(s:aI H H'):SB d H H':=λb u _ e=>s _ _ e
def SB.trans(a:SB d H H1)(b:SB d H1 H2):SB d H H2:=λx u n e=>b x u n<|a x u n e
def SB.up{d:cr}{H:Hp}{o:HO}:SB d H (upd H d o):=λb u n e=>aC n▸e
def SB.tup{d:cr}{H H':Hp}(s:SB d H H')(h:rJ H d):pJ H H':=λb xs e=>s _ _ (λz=>h xs<|.inl<|z▸e) e
def tO.sb(x:tO K H p fs)(s:SB td H H')(nt:rJ H td)(nl:∀l,H td≠some (.lst l))(ne:p≠td):tO K H' p fs:={s _ _ ne x.at_,x.nm,λe he=>by let(h1,h2,h3):=x.en e he;show{s _ _ (λz=>nl _<|z▸h1) h1,gG h2<|s.tp nt,h3}}
def Lk(nm:pi):NK:=.tup [.tup [.key<|.inr nm,d8 ["?x"]],d8 []]
def Zx{H:Hp}{q p t u:cr}{nm:pi}(hq:aZ K H q [-p,-u])(hp:aZ K H p [.str nm,-t])(ht:aZ K H t [.str "?x"])(hu:aZ K H u [])(s1:PyData.strOk nm=true):gm K H (Lk nm) q:=by
 show{?_,mK.good (n:=3) ?_ 7};·unfold Lk;show{q,_,9,hq,?_};show{_,_,9,?_,_,_,9,Iz hu,9};show{p,_,9,hp,?_};show{_,_,9,by rw[NV];rfl,_,_,9,Iz ht,9}
 show lJ λk hk=>?_;rcases aJ.mp hk with rfl|hk
 ·show lJ λk hk=>?_;rcases aJ.mp hk with rfl|hk;·show rP s1
  cases aw.mp hk;show Bx λz hz=>by rw[aw.mp hz];decide+kernel
 cases aw.mp hk;have g:=Bx (zs:=[]) λz hz=>by cases hz
 show{g.1,aS g.2.1 7,aS g.2.2 7}
structure mL(P:io)(w:mo)(K:Frag)(C:cr)(H:Hp)(me dx tb kl md td p0 at_:cr)(ex:Aai)(fs:List En)(nm:pi)(rs:Aag):Prop where
 ins:H me>.ins C dx [("tables",-tb),("kept",-kl),("maps",-md),("tails",-td)]
 tab:tO K H tb fs
 IJ:H kl>.lst []
 pB:eP P w K H md [(d8 [],p0,.int 1)]
 Ee:L4 H (-at_) (nm,"?x")
 U3:eP P w K H td []\/∃b d,eP P w K H td [(Lk nm,b,-d)]/\d≠td/\d≠md/\Tl P w K H (·∈ex) d rs
 mt:md≠td
 tt:tb≠td
 ke:kl∉ex
def mL.MM{H:Hp}{me dx tb kl md td p0 at_:cr}{ex:Aai}{fs:List En}{nm:pi}{rs:Aag}(x:mL P w K C H me dx tb kl md td p0 at_ ex fs nm rs):∃kvs,eP P w K H td kvs:=x.U3.elim (λh=>⟨_,h⟩) λzq=>by let(__,__,h,__):=zq;show⟨_,h⟩
def mL.same{H H':Hp}{me dx tb kl md td p0 at_:cr}{ex:Aai}{fs:List En}{nm:pi}{rs:Aag}(x:mL P w K C H me dx tb kl md td p0 at_ ex fs nm rs)(s:aI H H'):mL P w K C H' me dx tb kl md td p0 at_ ex fs nm rs:=
 {s _ _ x.ins,x.tab.same s,s _ _ x.IJ,x.pB.tp (bu.same s)<|kz x.pB<|s _,x.Ee.keep<|pJ.of s,x.U3.imp (λh=>h.tp (bu.same s)<|kz h<|s _) (λzq=>by let(b,d,h,n1,n2,t):=zq;show{b,d,h.tp (bu.same s)<|kz h<|s _,n1,n2,t.same s}),x.mt,x.tt,x.ke}
def mL.sb{H H':Hp}{me dx tb kl md td p0 at_:cr}{ex:Aai}{fs:List En}{nm:pi}{rs:Aag}{b d:cr}(x:mL P w K C H me dx tb kl md td p0 at_ ex fs nm rs)(s:SB td H H')(h:eP P w K H' td [(Lk nm,b,-d)])(n1:d≠td)(n2:d≠md)(t:Tl P w K H' (·∈ex) d rs):mL P w K C H' me dx tb kl md td p0 at_ ex fs nm rs:=by let(__,c):=x.MM;show{s _ _ (λz=>c.aaP (by rw[<-z];show x.ins)) x.ins,x.tab.sb s c.kY c.sZ x.tt,s _ _ (λz=>c.sZ _ (by rw[<-z];show x.IJ)) x.IJ,x.pB.tp (s.tp c.kY) (kz x.pB λu=>s _ _ x.mt),x.Ee.keep<|s.tup c.kY,.inr ⟨b,d,h,n1,n2,t⟩,x.mt,x.tt,x.ke}
inductive MX(P:io)(w:mo)(K:Frag)(C:cr)(vs:Aan)(H:Hp)(Q:VK)(_x3:XK):Prop
 |mk (self tb dx:cr) (_:vs=[-self,-tb]) (_:H self>.ins C dx []) (_:∀(kl md td p0:cr)(H':Hp),SB self H H'->H' self>.ins C dx [("tables",-tb),("kept",-kl),("maps",-md),("tails",-td)]->H' kl>.lst []->eP P w K H' md [(d8 [],p0,.int 1)]->H' td>.dK []->md≠td->(∀b∈[md,td],H b=none)->Q .cx H')
def L8:bL ["self","tables"] ["self","tables"] (bo xn):=fS 76
def Zg(F:dh K "__init__" "Asking.__init__" xn f fd)(T:Txt K mg)(O:Hj K C):cm P w K mg base dZ 1 f fd ["self","tables"] (MX P w K C):=by
 show F.ok L8 85;let(self,tb,dx,rfl,hs,k):=h;show{_,ay (sX (pv 0) (pv 1) 9)<|ay (sX (pv 0) (dy fQ) 9)<|ay (sX (pv 0) (VN (Bw hr) (Y1 (dF fQ) bb abV) 9 9 75 (by change 1<=15;decide)) rfl)<|aP<|sX (pv 0) iL 9,?_}
 show iq λR eR=>?_;show{_,9,_,9,self,C,dx,[],9,hs,O.c,O.tables,7,?_};have sb1:SB self H (upd H self<|.ins C dx<|fZ "tables" (-tb) []):=SB.up;have vD:upd H self (.ins C dx<|fZ "tables" (-tb) []) self>.ins C dx [("tables",-tb)]:=au;show bT (T:=R) eR λR eR=>?_;show{31,?_}
 intros kl hkl H2 s2 rh
 have k7:=s2 _ _ vD;show{_,9,self,C,dx,_,9,k7,O.c,O.kept,by change 1<1000;decide,?_};have kls:kl≠self:=λz=>by rw[<-z,rh]at k7;cases k7
 have HL:=(sb1.trans<|SB.same s2).trans<|SB.up (o:=.ins C dx<|fZ "kept" (-kl) [("tables",-tb)]);have hk3:=(SB.up (o:=.ins C dx<|fZ "kept" (-kl) [("tables",-tb)])) _ _ kls rh;have DL:upd H2 self (.ins C dx<|fZ "kept" (-kl) [("tables",-tb)]) self>.ins C dx [("tables",-tb),("kept",-kl)]:=by rw[au];rfl
 generalize (upd H2 self<|.ins C dx<|fZ "kept" (-kl) [("tables",-tb)])=H3 at HL hk3 DL⊢;show bT (T:=R) eR λR eR=>?_;ext md hmd;rename_i md hmd H4 s4 R6;show{31,?_}
 intros e he H5 s5 he5
 have key:gm K H5 (d8 []) e:=xD (aZ.of he5) λz hz=>by cases hz
 have R5:=s5 _ _ R6;show{e,d8 [],.int 1,9,key,R5,?_};have FU:=s4.trans s5;have um:SB md H5 136:=SB.up;have nm:∀{b:cr}{u:HO},H3 b>u->b≠md:=λe z=>by rw[z,hmd]at e;cases e
 have OL:=um _ _ (nm hk3)<|FU _ _ hk3;have RX:=um _ _ (nm DL)<|FU _ _ DL;have at6:eP P w K 136 md [(d8 [],e,.int 1)]:={.inl au,λp hp=>by cases aw.mp hp;show qp key<|um.tp<|Bo R5}
 have oW:SB self H 136:=λb u n q=>um _ _ (nm<|HL _ _ n q)<|FU _ _<|HL _ _ n q;generalize Xm:(upd H5 md<|.ext<|DN _ _ md _)=H6;have e6:136=H6:=Xm;rw[e6]at OL RX at6 oW;have ms:=bN<|nm DL;have h0m:H md=none:=by
  cases q:H md with
  |none=>rfl
  |some u=>show absurd rfl (nm<|HL _ _ ms q)
 show{_,9,self,C,dx,_,9,RX,O.c,O.pD,by change 2<1000;decide,?_};have K1:=oW.trans<|SB.up (o:=.ins C dx 121);have hk7:=(SB.up (o:=.ins C dx 121)) _ _ kls OL;have at7:=at6.tp ((SB.up (o:=.ins C dx 121)).tp<|ph RX)<|aC ms;have hs7:upd H6 self (.ins C dx 121) self>.ins C dx [("tables",-tb),("kept",-kl),("maps",-md)]:=by rw[au];rfl
 generalize (upd H6 self<|.ins C dx 121)=H7 at K1 hk7 at7 hs7⊢;show jg (T:=R) eR ?_;ext td RW;have s8:=aB RW 34;have Lx:upd H7 td 34 td>.dK []:=au;have hs8:=s8 _ _ hs7;have nt:∀{b:cr}{u:HO},H7 b>u->b≠td:=λe z=>by rw[z,RW]at e;cases e
 have tds:=bN<|nt hs7;have h0:H td=none:=by
  cases q:H td with
  |none=>rfl
  |some u=>show absurd rfl (nt<|K1 _ _ tds q)
 have mt:md≠td:=by let(__,h):=at7.some;show nt h
 have at8:=at7.tp (bu.same s8)<|kz at7<|s8 _;generalize (upd H7 td 34)=H8 at s8 Lx hs8 at8⊢;show{_,9,self,C,dx,_,9,hs8,O.c,O.A6,by change 3<1000;decide,?_};have us:SB self H8 (upd H8 self<|.ins C dx<|fZ "tails" (-td) [("tables",-tb),("kept",-kl),("maps",-md)]):=SB.up;show k kl md td e _ (K1.trans<|(SB.same s8).trans us) (by rw[au];rfl) (us _ _ kls<|s8 _ _ hk7) (at8.tp (us.tp<|ph hs8)<|aC ms) (us _ _ tds Lx) mt λb hb=>?_;simp only[aJ,nh,xt]at hb;rcases hb with rfl|rfl;·show h0m
 show h0
inductive GC(P:io)(w:mo)(K:Frag)(C:cr)(vs:Aan)(H:Hp)(Q:VK)(_x3:XK):Prop
 |mk (self at_ dx tb kl md td p0:cr) (ex:Aai) (fs:List En) (nm:pi) (rs:Aag) (_:vs=[-self,-at_]) (_:mL P w K C H self dx tb kl md td p0 at_ ex fs nm rs) (_:∀(l:cr)(H':Hp),aI H H'->H l=none->H' l>.lst [.str "?x"]->Q (-l) H')
def aaz:("?x":pi).length<=1000:=by decide+kernel
def aaB:kZ "?x"=true:=(adf 7).1
def UZ(z:pi)(h:kZ z=true):lD [z]=[z]:=by change step [] z=[z];unfold step;rw[aL h,az (λq=>by cases q)];rfl
def Cw:bL ["self","atom"] ["self","atom"] (bo vm):=fS 76
def Zh(F:dh K "fresh_unknowns" "Asking.fresh_unknowns" vm f fd)(T:Txt K mg)(O:Hj K C)(iH:bY P w K mg base 3 "unknowns_of" ["question"] (Ag K)):cm P w K mg base dZ 4 f fd ["self","atom"] (GC P w K C):=by
 show F.ok Cw 85;let(self,at_,dx,tb,kl,md,td,p0,ex,fs,nm,rs,rfl,st,k):=h;show{_,aP<|bH<|o8 9 (cA (fs:=["self"]) (fr:=[0])) (cN<|cl iH hr<|bB<|dF<|cj (dF fQ)<|dF 73) (λ_ _ _ _=>cU (rF) (pv 0) (ab1 (pv 1) 9) 50) 68,?_};show{31,?_}
 intros e he H1 s1 W9
 show{_,9,42,?_}
 intros t ht H2 s2 OD
 show{95,?_}
 intros q hq H3 s3 RZ
 have mO:=s1.trans<|s2.trans s3;show{-q,-e,[(nm,"?x")],9,{q,t,[-at_],9,aZ.of RZ,aZ.of<|s3 _ _ OD,.cons (st.Ee.keep<|pJ.of mO).k .nil},23,by change 1<=100;decide,λr H4 s4 hr0 IT=>?_};·cases aw.mp hb;show aaz
 replace IT:H4 r>.lst ((lD ["?x"]).map V.str):=IT
 rw[(UZ "?x" aaB)]at IT;have mM:=mO.trans s4;show{r,9,{_,aT.of IT},eJ (xs:=[.str "?x"]) (λi ys H5=>H5=H4/\ys=[V.str "?x"].take i) 7 ⟨rfl,rfl⟩ (λi ys H5 hi ⟨e1,e2⟩=>{e1▸aT.of IT,by rw[e2,aW];lia}) ?_ ?_};·ext i x ys H5 N hx ⟨rfl,rfl⟩ hN;let(e,rfl):=gC (ao _) hx;cases e;show{_,9,_,9,self,C,dx,_,_,9,mM _ _ st.ins,O.c,O.kept,9,kl,_,9,.inl<|aT.of<|mM _ _ st.IJ,9,9,_,9,i8 {_,9,hN _ _ ⟨rfl,rfl⟩}}
 ext ys H5 ⟨rfl,rfl⟩ l hl;show k l _ (mM.trans<|aB hl _) (mM.free hl) au
inductive S3(P:io)(w:mo)(K:Frag)(C:cr)(vs:Aan)(H:Hp)(Q:VK)(_x3:XK):Prop
 |mk (self at_ dx tb kl md td p0:cr) (ex:Aai) (fs:List En) (nm:pi) (rs:Aag) (_:vs=[-self,-at_]) (_:mL P w K C H self dx tb kl md td p0 at_ ex fs nm rs) (_:gJ (iW fs nm)=mP rs) (_:rs.length<=10) (_:PyData.strOk nm=true) (_:(∀b∈ex,b≠td/\H b≠none)) (_:∀(l l':cr)(ys:Aan)(H':Hp),SB td H H'->H l=none->H' l>.lst [-l']->l'∉ex->H' l'>.lst ys->d9 K H' ys (mP rs)->mL P w K C H' self dx tb kl md td p0 at_ ex fs nm rs->Q (-l) H')
def iQ:bL ["self","atom","fresh","known","key","tails","places"] ["self","atom"] (bo v8):=fS 76
def Zb(F:dh K "tails_of_maps" "Asking.tails_of_maps" v8 f fd)(T:Txt K mg)(O:Hj K C)(zY:bY P w K mg base 1 "places_of" ["unknowns"] S4)(tX:bY P w K mg base 1 "image_answers" ["terms","places","given"] (S6 K))(p6:jH P w K mg base C 4 "fresh_unknowns" ["self","atom"] (GC P w K C))(zj:bY P w K mg base 1 "rows_of" ["tables","name"] (A9 K))(Kv:bY P w K mg base 3 "tails_by_key" ["rows","terms","known","fresh"] (aaH P w K)):cm P w K mg base dZ 5 f fd ["self","atom"] (S3 P w K C):=by
 show F.ok iQ 85;let(self,at_,dx,tb,kl,md,td,p0,ex,fs,nm,rs,rfl,st,eu,lr,sn,hex,k):=h;have hN:=Bw hr;show{_,ay (mx (i:=2) iQ.nd 9 (Or.inr 9)<|B8 O.c p6 hr (pv 0) 73 ∅)<|ay (mx (i:=3) iQ.nd 9 (Or.inr 9)<|o8 9 (cA (fs:=["fresh"]) (fr:=[2])) (jY<|bV dv (pv 1) bb (λ_ _=>9)) (λ_ _ _ _=>cU (rF) (pv 0) (pv 1) 50) 68)<|ay (cZ 4 iQ<|dF<|cj (pv 1)<|cG fE 9 T.jh 76<|bB<|pv 3)<|ay (fh (cU (VR hN) (pv 4) (js (pv 0) 9) 50) (aP<|xr hN (js (pv 0) 9) (pv 4) (cl Kv hr<|iR (cl zj hr<|cj (js (pv 0) 9)<|bV dv (pv 1) bb (λ_ _=>9))<|pf (bV dv (pv 1) bb (λ_ _=>9)) (pv 3)<|pv 2) 9) dc)<|ay (mx (i:=5) iQ.nd 9 (Or.inr 9)<|Y3 hN (js (pv 0) 9) (pv 4) (λ_ _=>9))<|ay (mx (i:=6) iQ.nd 9 (Or.inr 9)<|cl zY hr<|bB<|js (pv 0) 9)<|aP<|bH<|NI<|hG 9 (cA (fs:=["tails","known","places"]) (fr:=[5,3,6])) (NG<|js (pv 0) 9) (λ_ _ _ _=>To hN (pv 1) (cl tX hr<|pf (pv 2) (pv 3)<|pv 0) (dy fQ) ⟨rfl,rfl,rfl,rfl⟩),?_}
 show iq λR eR=>?_;show{_,9,self,dx,_,9,st.ins,9,_,9,self,at_,dx,tb,kl,md,td,p0,ex,fs,nm,rs,9,st,λfr H1 s1 hf0 DT=>?_};let(__,t,e,hp,ht):=id st.Ee;cases e;show bT (T:=R) eR λR eR=>?_;show{_,9,_,_,_,_,9,9,aZ.of<|s1 _ _ hp,9,t,9,{_,aZ.of<|s1 _ _ ht},uR (xs:=[.str "?x"]) (λi ys H2=>H2=H1/\ys=[]) 7 ⟨rfl,rfl⟩ (λi ys H2 hi ⟨e1,e2⟩=>{by rw[e1];show aZ.of<|s1 _ _ ht,e2▸aF _}) ?_ ?_}
 ·ext i x ys H2 N hx ⟨rfl,rfl⟩ nO;let(e,rfl):=gC (ao _) hx;cases e;show{_,9,_,9,fr,_,9,.inl<|aT.of DT,9,9,_,9,?_};have e1:DJ (.str "?x") [V.str "?x"]=true:=by decide+kernel
  show hU<|nO _ _ ⟨rfl,rfl⟩
 ext ys H2 ⟨rfl,rfl⟩ kn aic;rename_i kn aic H3 s2 afd;have iI:=s1.trans s2;have AG:=s2 _ _ DT;show bT eR λR eR=>?_;show{_,9,_,9,kn,_,9,.inl {aT.of afd,?_}}
 intros tk htk H4 s4 ahQ
 have mM:=iI.trans s4;have hf4:=s4 _ _ AG;have aib:=s4 _ _ afd;show{95,?_}
 intros ky hky H5 s5 aia
 have oX:=mM.trans s5;have hf5:=s5 _ _ hf4;have ZI:=s5 _ _ aib;have kf:=st.same oX;have key:∀{H':Hp},bu H5 H'->gm K H' (Lk nm) ky:=λtp=>qp (Zx (aZ.of aia) (aZ.of<|oX _ _ hp) (aZ.of<|oX _ _ ht) (aZ.of<|s5 _ _ ahQ) sn) tp;let(RF,ct):=kf.MM;show bT eR λR eR=>?_;show CP λNX hNX=>?_;have go:∀(H6:Hp)(b d:cr),SB td H5 H6->eP P w K H6 td [(Lk nm,b,-d)]->d≠md->Tl P w K H6 (·∈ex) d rs->mL P w K C H6 self dx tb kl md td p0 at_ ex fs nm rs->NX [some (-self),some (-at_),some (-fr),some (-kn),some (-ky),none,none] H6:=λH6 b d oW a6 dm tl6 rZ=>by
  show hNX _ _ ?_;have afc:=oW _ _ (λz=>ct.sZ _<|z▸ZI) ZI;show bT eR λR eR=>?_;show{_,9,self,C,dx,_,_,9,rZ.ins,O.c,O.A6,9,_,9,td,ky,_,_,-d,9,9,a6,key<|oW.tp ct.kY,jv rfl,?_};show bT (T:=R) eR λR eR=>?_;show{_,9,self,C,dx,_,_,9,rZ.ins,O.c,O.kept,9,kl,[],9,rZ.IJ,aF _,λpd H7 s7 ZF ahX=>?_};have yG:=rZ.same s7;let(um,OA):=yG.pB.some;have Wg:∀u v,H7 md≠some (.fR u v):=λu v e=>by rcases yG.pB.1 with q|⟨_,q⟩<;>rw[e]at q<;>cases q
  have V8:=yG.pB.kY;show jg eR ?_;show{md,Wg,?_};show{_,9,self,C,dx,_,_,9,yG.ins,O.c,O.pD,9,md,um,_,9,OA,yG.pB,λo=>?_};have Hz:SB md H7 (upd H7 md<|.fR o um):=SB.up;have MJ:=Hz.tp V8;have Rx:∀{b:cr}{l:Aan},H7 b>.lst l->b≠md:=λ{b l} e z=>yG.pB.sZ l<|z▸e;have tlf:=(tl6.same s7).fr MJ (aC dm) λl ys n e=>{n,Hz _ _ (Rx e) e};have afb:=Hz _ _ (Rx<|s7 _ _ afc)<|s7 _ _ afc;have pdm:pd≠md:=λz=>by let(__,h2):=rZ.pB.some;rw[z,h2]at ZF;cases ZF
  have ae2:=Hz _ _ pdm ahX;have DR:upd H7 md (.fR o um) md>.fR o um:=au;have lR:=fA (Dv (yG.pB.2 _ av).1) MJ;have Ge:∀b∈ex,upd H7 md (.fR o um) b≠none:=λb hb=>by
   let(n1,n2):=hex b hb;let(u,hu):=iG.mp n2;by_cases z:b=md
   ·rw[z,DR]
    exactλq=>by cases q
   rw[aC z,s7 _ _<|oW _ _ n1<|oX _ _ hu]
   exactλq=>by cases q
  generalize hHf:upd H7 md (.fR o um)=Hf at tlf afb ae2 DR MJ lR Ge⊢;show Jl (λi ys H8=>aI Hf H8/\((i=0/\ys=[])\/i=1/\∃l' zs,ys=[-l']/\l'∉ex/\H8 l'>.lst zs/\d9 K H8 zs (mP rs))) 86 {λ_ _ x=>x,.inl ⟨rfl,rfl⟩} ?_ ?_ ?_
  ·ext i ys H8 hi ⟨s8,h⟩;show{s8 _ _ DR,?_};rcases h with⟨_,rfl⟩|⟨rfl,_,_,rfl,_⟩;·show aF _
   show ao _
  ·ext i kv ys H8 N nM ⟨s8,h⟩ nO;let(e,rfl):=gC (ao _) nM;cases e;obtain rfl:ys=[]:=h.elim (·.2) λq=>by cases q.1
   let(kvd,Lx,__):=tlf.same s8;show fD {_,9,d,kvd,9,Lx,_,9,_,9,_,9,kn,pd,p0,[],9,.inl<|aT.of<|s8 _ _ afb,s8 _ _ ae2,bf lR s8,aF _,λr H9 s9 hr0 hr9=>{31,λl0 oG=>?_}};have jk:=s9.trans<|aB oG 87;have OJ:upd H9 l0 74 l0>.lst []:=au;have ahW:=(aB oG 87) _ _ hr9;let(Oh,ahR,h10):=tlf.same<|s8.trans jk;show{r,Oh,d8 [],9,ahR,xD (aZ.of ahW) λz hz=>(by cases hz),nO _ _ {s8.trans jk,.inr {9,?_}}};rcases h10 with⟨rfl,rfl⟩|⟨p,l,zs,rfl,h4,h2,h3⟩;·show{l0,[],9,λz=>?_,OJ,.nil};let(u,e):=iG.mp<|Ge l0 z;rw[s9 _ _<|s8 _ _ e]at oG;cases oG
   show{l,zs,by rw[jv rfl];rfl,h4,h2,h3}
  ext ys H8 ⟨s8,h⟩ l hl;let(l',zs,rfl,WY,W4,hr8):=h.elim (λq=>by cases q.1) (·.2);have Q7:=aB hl<|.lst [V.ref l'];have s9:=s8.trans Q7;have IV:upd H8 l (.lst [V.ref l']) l>.lst [-l']:=au;have Lu:=Q7 _ _ W4;have hr9:=gG hr8<|bu.same Q7;have lmd:l≠md:=λz=>by rw[z,s8 _ _ DR]at hl;cases hl
  have h7l:H7 l=none:=by
   cases e:H7 l with
   |none=>rfl
   |some u=>
    have:Hf l>u:=by rw[<-hHf,aC lmd];show e
    rw[s8 _ _ this]at hl;cases hl
  generalize (upd H8 l<|.lst [V.ref l'])=H9 at s9 IV Lu hr9⊢;have hm9:=s9 _ _ DR;show{o,um,hm9,?_};have sF:aI H7 (upd H9 md um):=λb u e=>by
   by_cases z:b=md;·rw[z,OA]at e;cases e;rw[z,au]
   rw[aC z];show s9 _ _ (by rw[<-hHf,aC z];show e)
  have nt9:rJ H9 md:=λxs q=>by rcases q with q|⟨o',q⟩<;>rw[hm9]at q<;>cases q;show V8 xs<|.inl OA
  have h0l:H l=none:=by
   cases e:H l with
   |none=>rfl
   |some u=>
    have h6l:=s7.free h7l;by_cases z:l=td;·let(__,h):=a6.some;rw[z,h]at h6l;cases h6l
    rw[oW _ _ z<|oX _ _ e]at h6l;cases h6l
  show k l l' zs _ (((SB.same oX).trans oW).trans<|SB.same<|s7.trans sF) h0l (aC lmd▸IV) WY (by rw[aC (λz=>by rw[<-z,Lu]at hm9;cases hm9)];show Lu) (gG hr9<|bu.upd nt9)<|yG.same sF
 rcases id kf.U3 with h|⟨b,d,h,n1,n2,tl⟩
 ·show{_,9,_,9,self,C,dx,_,_,9,kf.ins,O.c,O.A6,9,td,ky,_,_,9,9,h,key<|bu.refl _,_,9,i8 ?_};show{_,9,self,C,dx,_,_,9,kf.ins,O.c,O.tables,9,_,9,_,_,_,_,9,9,aZ.of<|oX _ _ hp,9,tb,fs,nm,9,kf.tab,λrl yM H6 s6 aiS ahU WV=>?_};rw[eu]at WV;have sV:=oX.trans s6;show{_,9,_,_,_,_,9,9,aZ.of<|sV _ _ hp,9,_,9,_,9,rl,t,kn,fr,yM,rs,9,ahU,WV,sV _ _ ht,s6 _ _ ZI,s6 _ _ hf5,8,λd H7 s7 jN tl7=>?_};have yG:=(kf.same s6).same s7;have HX:=s6.trans s7;have h7:=h.tp (bu.same HX)<|kz h<|HX _;have aeC:=key<|bu.same HX;show{_,9,self,C,dx,_,_,9,yG.ins,O.c,O.A6,9,_,9,td,ky,_,_,9,9,h7,aeC,7,?_};have ex6:∀{b:cr}{u:HO},H5 b>u->b≠d:=λ{b u} e z=>by rw[<-z,s6 _ _ e]at jN;cases jN
  let(__,hmd):=kf.pB.some;let(__,RW):=h.some;have n1:=bN<|ex6 RW;have n2:=bN<|ex6 hmd;have a8:=h7.put (v:=-d) aeC;have u8:SB td H7 (upd H7 td<|.ext<|DN P w td<|putN [] (Lk nm) ky (-d)):=SB.up;have tl8:Tl P w K (upd H7 td<|.ext<|DN P w td<|putN [] (Lk nm) ky (-d)) (·∈ex) d rs:=tl7.fr (u8.tp h7.kY) (aC n1) λl ys n e=>{λz=>?_,u8 _ _ (λz=>h7.sZ ys<|z▸e) e};·show go _ ky d ((SB.same HX).trans u8) a8 n2 tl8<|yG.sb u8 a8 n1 n2 tl8
  let(m1,m2):=hex l z;let(u,hu):=iG.mp m2;show n (by rw[sV _ _ hu];exactλq=>by cases q)
 show{_,9,_,9,self,C,dx,_,_,9,kf.ins,O.c,O.A6,9,td,ky,_,_,9,9,h,key<|bu.refl _,_,9,?_};rw[jv rfl];show hU<|go H5 b d (λ_ _ _ e=>e) h n2 tl kf
def Y9(h:X.K=K:=by rfl):je X (Fk .Add) (aaN K):=h▸ab5
structure aba(H:Hp)(td:cr)(ex:Aai)(fs:List En)(nm:pi)(rs:Aag):Prop where
 eu:gJ (iW fs nm)=mP rs
 lr:rs.length<=10
 sn:PyData.strOk nm=true
 ex:∀b∈ex,b≠td/\H b≠none
inductive Vf(P:io)(w:mo)(K:Frag)(C:cr)(vs:Aan)(H:Hp)(Q:VK)(_x3:XK):Prop
 |mk (self l dx tb kl md td p0 at_:cr) (ex:Aai) (fs:List En) (nm:pi) (rs:Aag) (_:vs=[-self,-l]) (_:mL P w K C H self dx tb kl md td p0 at_ ex fs nm rs) (_:aba H td ex fs nm rs) (_:H l>.lst [-at_]) (_:∀H':Hp,SB td H H'->mL P w K C H' self dx tb kl md td p0 at_ ex fs nm rs->Q (.int 0) H')
def i7:bL ["self","atoms","best","fewest","place","atom","count"] ["self","atoms"] (bo Am):=fS 76
def ab9(F:dh K "best_place" "Asking.best_place" Am f fd)(T:Txt K mg)(O:Hj K C)(qS:jH P w K mg base C 5 "tails_of_maps" ["self","atom"] (S3 P w K C)):cm P w K mg base dZ 6 f fd ["self","atoms"] (Vf P w K C):=by
 show F.ok i7 85;let(self,l,dx,tb,kl,md,td,p0,at_,ex,fs,nm,rs,rfl,st,pa,hl,k):=h;show{_,ay (vp (dF<|cj bb jF)<|iE 9<|bD (ic 2 i7)<|bD (ic 3 i7) d5)<|ay (fG bF 9 (Rp 9 T.qZ 73) (iE 9<|bD (ic 4 i7)<|bD (ic 5 i7) d5)<|ay (cZ 6 i7<|bh (Hc 9) 9 T.TJ 76<|bB<|hG 9 (cA (fs:=[]) (fr:=[])) (cN<|B8 O.c qS hr (pv 0) (bB<|pv 5) ∅) (λ_ _ _ _=>bh (Ec) 9 T.eZ bz 21))<|ay (fh (PW.pt<|Mt (cU xv (pv 3) jF<|cL _)<|Ig<|cU Mv (pv 6) (pv 3)<|cL _) (aP<|ad3 (i:=2) (j:=3) 9 i7.nd 9 9 7 rfl rfl (cj (pv 4)<|pv 6) rfl) dc)<|aP<|fh (cU Tu (pv 6) (bh Eb 9 T.eZ bz<|bB<|js (pv 0) 9)<|cL _) (aP<|bH<|pv 4) dc)<|aP<|bH<|pv 2,?_}
 let(__,ct):=st.MM;show{95,λp hp=>{p,_,9,aZ.of au,9,_,_,9,_,_,9,9,?_}};have s1:=aB hp<|.tup [V.int 0,V.cx];show{_,rfl,l,rfl,{_,aT.of<|s1 _ _ hl},O5
  (λi Z H2=>∃(fw:V)(x4 x5 x6:Aao),Z=[some (-self),some (-l),some<|.int 0,some fw,x4,x5,x6]/\SB td H H2/\mL P w K C H2 self dx tb kl md td p0 at_ ex fs nm rs/\(i=0->fw=.cx))
  {.cx,none,none,none,9,SB.same s1,st.same s1,λ_=>9} (λi Z H2 _ zq=>by let(__,__,__,__,__,sb,__):=zq;show aT.of<|(λsb=>sb _ _ (λz=>ct.sZ _ (by rw[<-z];show hl)) hl) sb) ?_ ?_}
 ·ext i x q Z H2 hx ⟨fw,x4,x5,x6,rfl,Vt,vh,hfw⟩ hq;let(e,rfl):=gC (ao _) hx;cases e;obtain rfl:=hfw rfl;have s3:=aB hq<|.tup [V.int ((0:Nat):Int),-at_];show{q,_,9,aZ.of au,9,_,_,9,_,_,9,9,?_};have HL:=Vt.trans<|SB.same s3;have yH:=vh.same s3;show{_,9,self,dx,_,9,yH.ins,9,_,9,self,at_,dx,tb,kl,md,td,p0,ex,fs,nm,rs,9,yH,pa.eu,pa.lr,pa.sn,λb hb=>{(pa.ex b hb).1,?_},λtl ML zz H4 sb4 ZE T2 _ Ox WV FF=>?_}
  ·let(u,hu):=iG.mp (pa.ex b hb).2;rw[HL _ _ (pa.ex b hb).1 hu]
   exactλq=>by cases q
  show{tl,9,{_,aT.of T2},eJ (xs:=[-ML]) (λj zs H5=>H5=H4/\zs=[V.int (zz.length:Int)].take j) 86 ⟨rfl,rfl⟩ (λj zs H5 hj ⟨e1,e2⟩=>{e1▸aT.of T2,by rw[e2,aW];lia}) ?_ ?_};·ext j x zs H5 N hx5 ⟨rfl,rfl⟩ nO;let(e,rfl):=gC (ao _) hx5;cases e;show fD {_,9,_,_,9,.inl {_,aT.of Ox,9},nO _ _ ⟨rfl,rfl⟩}
  ext zs H5 ⟨rfl,rfl⟩ sl IS;show{sl,[(zz.length:Int)],9,80,?_};have s6:=aB IS<|.lst [V.int (zz.length:Int)];have rZ:=FF.same s6;have oW:=HL.trans<|sb4.trans<|SB.same s6
  replace s6:True:=trivial
  generalize Xm:(upd H5 sl<|.lst _)=H6;have e6:(upd H5 sl<|.lst [V.int (zz.length:Int)])=H6:=Xm;rw[e6]at rZ oW;show{_,9,9,_,9,i8<|i8 {_,9,_,9,_,_,9,?_}};show{_,9,_,9,self,C,dx,_,_,9,rZ.ins,O.c,O.pD,9,md,_,9,rZ.pB,_,_,9,9,_,9,?_};show hX (λc=>{_,9,k H6 oW rZ}) (λc=>{_,_,_,_,9,oW,rZ,λq=>by cases q})
 ext Z H2 ⟨fw,x4,x5,x6,rfl,Vt,vh,_⟩;show{_,9,k H2 Vt vh}
inductive U7(P:io)(w:mo)(K:Frag)(C:cr)(vs:Aan)(H:Hp)(Q:VK)(_x3:XK):Prop
 |mk (self at_ nd dx tb kl md td p0:cr) (ex:Aai) (fs:List En) (nm:pi) (rs:Aag) (_:vs=[-self,-at_,-nd]) (_:mL P w K C H self dx tb kl md td p0 at_ ex fs nm rs) (_:aba H td ex fs nm rs) (_:rs.Nodup) (_:(∀z∈rs,PyData.strOk z=true)) (_:H nd>.dK [(Sum.inr "?x",.str "?x")]) (_:nd≠td) (_:∀(sh Ay:cr)(H':Hp),(∀b u,b≠td->b≠self->H b>u->H' b>u)->H' self>.ins C dx [("tables",-tb),("kept",-sh),("maps",-Ay),("tails",-td)]->H' sh>.lst [.str "?x"]->Jx P w K H' Ay rs->Q .cx H')
def oV:bL ["self","atom","needed","bound","longer","counted_map","tails","given","count"] ["self","atom","needed"] (bo Nc):=fS 76
def Za{f:cr}{fd:ut}(F:dh K "take" "Asking.take" Nc f fd)(T:Txt K mg)(O:Hj K C)(qS:jH P w K mg base C 5 "tails_of_maps" ["self","atom"] (S3 P w K C))(p6:jH P w K mg base C 4 "fresh_unknowns" ["self","atom"] (GC P w K C))(BR:bY P w K mg base 3 "narrowed" ["counted_maps","unknowns","terms"] (MY P w K)):cm P w K mg base dZ 6 f fd ["self","atom","needed"] (U7 P w K C):=by
 show F.ok oV 85;let(self,at_,nd,dx,tb,kl,md,td,p0,ex,fs,nm,rs,rfl,st,pa,ndr,sor,hnd,ndt,k):=h;have hu:=oE hr;have cC:=O.c;show{_,ay (cZ 3 oV<|dj mz (js (pv 0) 9)<|B8 cC p6 hr (pv 0) 73 ∅)<|ay (cZ 4 oV<|dy fQ)<|ay (YY<|fG bF 9 (abW 9 T.yP<|cj (Lc<|js (pv 0) 9)<|B8 cC qS hr (pv 0) 73 ∅) (iE 9<|bD (ic 5 oV)<|bD (ic 6 oV) d5)<|ay (vp (pv 5)<|iE 9<|bD (jw (i:=07) oV.nd 9<|Or.inr 9)<|bD (jw (i:=08) oV.nd 9<|Or.inr 9) d5)<|aP<|g9<|j4 cb kB kA Dw (pv 4)<|bB<|hG 9 (cA (fs:=["given","count"]) (fr:=[07,08])) (cN<|pv 6) (λ_ _ _ _=>dF<|cj (dj (Y9) (pv 1)<|pv 0)<|pv 2))<|ay (sX (pv 0) (o8 9 (cA (fs:=["needed"]) (fr:=[2])) (cN<|pv 3) (λ_ _ _ _=>Ar<|Il hu (pv 0)<|pv 1) 68) 9)<|aP<|sX (pv 0) (cl BR hr<|pf (pv 4) (pv 3)<|js (pv 0) 9) 9,?_}
 show iq λR eR=>?_;show{_,9,self,C,dx,_,_,9,st.ins,O.c,O.kept,9,_,9,self,dx,_,9,st.ins,9,_,9,self,at_,dx,tb,kl,md,td,p0,ex,fs,nm,rs,9,st,λfr H1 s1 hf0 DT=>?_};show{kl,fr,_,_,9,9,s1 _ _ st.IJ,DT,42,?_}
 intros bd hbd H2 s2 hb2
 have iI:=s1.trans s2;show bT eR λR eR=>?_;show{31,λlg W3=>?_};have s3:=aB W3 87;have lW:upd H2 lg 87 lg>.lst []:=au;have mO:=iI.trans s3;have hb3:=s3 _ _ hb2;have vh:=st.same iI;have yH:mL P w K C (upd H2 lg 87) self dx tb kl md td p0 at_ (lg::ex) fs nm rs:=by have y:=vh.same s3;show{y.ins,y.tab,y.IJ,y.pB,y.Ee,?_,y.mt,y.tt,λz=>(aJ.mp z).elim (a9 vh.IJ W3) vh.ke};show vh.U3.imp (λh=>h.tp (bu.same s3)<|kz h<|s3 _) λ⟨b,d,h,n1,n2,t⟩=>{b,d,h.tp (bu.same s3)<|kz h<|s3 _,n1,n2,?_};let(__,hd,__):=id t;show t.fr (bu.same s3) (kz hd<|s3 _) λl ys n e=>{λz=>(aJ.mp z).elim (a9 e W3) n,s3 _ _ e}
 generalize (upd H2 lg 87)=H3 at s3 lW mO hb3 yH⊢;have Wg:∀u v,H3 md≠some (.fR u v):=λu v e=>by rcases yH.pB.1 with q|⟨_,q⟩<;>rw[e]at q<;>cases q
 show bT eR λR eR=>?_;show{md,Wg,?_};show{_,9,self,C,dx,_,_,9,yH.ins,O.c,O.pD,9,md,_,9,yH.pB,λvw hvw=>?_};have s4:=aB hvw<|.ext<|zg vw md;have hv4:upd H3 vw (.ext<|zg vw md) vw>.ext (zg vw md):=au;have FF:=yH.same s4;have mM:=mO.trans s4;let(__,ct3):=yH.MM;have vtd:vw≠td:=λz=>by let(__,h):=ct3.some;rw[z,h]at hvw;cases hvw
 have ki:=s4 _ _ lW;have LG:=s4 _ _ hb3;generalize (upd H3 vw<|.ext<|zg vw md)=H4 at s4 hv4 FF mM ki LG⊢;let(__,ct4):=FF.MM;have nl4:∀{b:cr}{l:Aan},H4 b>.lst l->b≠td:=λ{b l} e z=>ct4.sZ l<|z▸e;show{_,rfl,self,dx,_,rfl,FF.ins,rfl,_,rfl,self,at_,dx,tb,kl,md,td,p0,lg::ex,fs,nm,rs,rfl,FF,pa.eu,pa.lr,pa.sn,λb hb=>?_,λtl ML zz H5 Ai ZE ZD ahc Ow hr5 kf=>?_}
 ·rcases aJ.mp hb with rfl|hb;·show{nl4 ki,by rw[ki];exactλq=>by cases q}
  let(u,hu):=iG.mp (pa.ex b hb).2;show{(pa.ex b hb).1,by rw[mM _ _ hu];exactλq=>by cases q}
 let(um,OA):=kf.pB.some;have qD:=Ai _ _ (nl4 ki) ki;show{vw,md,um,tl,_,[-ML],9,Ai _ _ vtd hv4,OA,kf.pB,aT.of ZD,λo=>?_};have V8:=kf.pB.kY;have Hz:SB md H5 (upd H5 md<|.fR o um):=SB.up;have MJ:=Hz.tp V8;have Rx:∀{b:cr}{l:Aan},H5 b>.lst l->b≠md:=λ{b l} e z=>kf.pB.sZ l<|z▸e;have hlf:=Hz _ _ (Rx qD) qD;have aeT:=Hz _ _ (Rx ZD) ZD;have hzf:=Hz _ _ (Rx Ow) Ow;have hrf:=gG hr5 MJ;have DR:upd H5 md (.fR o um) md>.fR o um:=au;have lR:=fA (Dv (kf.pB.2 _ av).1) MJ;generalize hHf:upd H5 md (.fR o um)=Hf at hlf aeT hzf hrf DR lR MJ⊢;have mlg:md≠lg:=λz=>by rw[z,hlf]at DR;cases DR
 show Xs
  (λi Z H6=>∃x5 x6 x7 x8:Aao,Z=[some (-self),some (-at_),some (-nd),some (-bd),some (-lg),x5,x6,x7,x8]/\SB lg Hf H6/\∃zs,H6 lg>.lst zs/\((i=0/\zs=[])\/i=1/\Paired (BI K H6) zs rs)) rfl
  {none,none,none,none,9,λ_ _ _ e=>e,[],hlf,.inl ⟨rfl,rfl⟩} (λi Z H6 _ zq=>by let(__,__,__,__,__,sb,__):=zq;show{sb _ _ mlg DR,aT.of<|sb _ _ (λz=>by rw[z,ki]at ZE;cases ZE) aeT}) ?_ ?_
 ·ext i kv y p q Z H6 D1 nM hy ⟨x5,x6,x7,x8,rfl,oW,zs,qC,WR⟩ hq hp iy;let(e,rfl):=gC (ao _) nM;cases e;cases hy;obtain rfl:zs=[]:=WR.elim (·.2) λq=>by cases q.1
  have s7:=(aB hq<|.tup [V.ref p0,V.int 1]).trans<|aB hp<|.tup [V.ref q,V.ref ML];have hq7:upd (upd H6 q<|.tup [V.ref p0,V.int 1]) p (.tup [V.ref q,V.ref ML]) q>.tup [V.ref p0,V.int 1]:=(aB hp _) _ _ au;show{p,_,9,aZ.of au,9,_,_,9,_,_,9,9,?_};have K1:=oW.trans<|SB.same s7;have si:=s7 _ _ qC;generalize (upd (upd H6 q<|.tup [V.ref p0,V.int 1]) p<|.tup [V.ref q,V.ref ML])=H7 at s7 hq7 K1 si⊢;have tp7:=K1.tp<|kX hlf;have ht7:=K1 _ _ (λz=>ahc (by rw[z];show av)) hzf;have lzz:=uC hrf;have lr:=pa.lr;show{_,9,q,_,9,aZ.of hq7,9,_,_,9,_,_,9,9,?_};show{_,9,.inl {9,_,aT.of si},_,9,ML,9,{_,aT.of ht7},eJ (xs:=zz) (λj ws H8=>aI H7 H8/\j<=zz.length/\Paired (BI K H8) ws (rs.take j)) (cw ∅) {λ_ _ e=>e,aF _,.nil} ?_ ?_ ?_};·ext j ws H8 hj ⟨s8,Ga,hw⟩;show{aT.of<|s8 _ _ ht7,?_};rw[aQ hw,aW];lia
  ·ext j v ws H8 N hv ⟨s8,hj,hw⟩ nO;let(z,ua,hz,rfl,hua):=Bc (gG (gG hrf tp7)<|bu.same s8) hv;have rj:=(ar.mp hv).1;show fD {_,9,_,9,p0,ua,_,_,9,9,bf (fA lR tp7) s8,hua,42,λe=>?_,λn _=>absurd rfl n,λn=>absurd rfl n};show{_,9,95,λw9 hw9=>?_};have jk:=aB hw9<|.tup [V.ref ua,V.int 1];show nO _ _ {s8.trans jk,rj,?_};rw[bW,hz];show cY (uI (bu.same jk) hw)<|.cons {w9,ua,1,9,aZ.of au,bf hua jk} .nil
  ext ws H8 ⟨s8,_,hw⟩ cl oH;rw[lzz,bq]at hw;have s9:=s8.trans<|aB oH<|.lst ws;have lws:=aQ hw;show{lg,cl,[],ws,9,9,s9 _ _ si,au,bU<|cw (by rw[gc];lia),?_};show iy _ _ {_,_,_,_,9,λb u n e=>?_,_,au,.inr {9,uI ((bu.same<|aB oH<|.lst ws).trans<|bu.upd<|kX<|s9 _ _ si) hw}};rw[aC n];show s9 _ _<|K1 _ _ n e
 ext Z H6 ⟨x5,x6,x7,x8,rfl,oW,zs,qC,WR⟩
 replace WR:Paired (BI K H6) zs rs:=WR.elim (λq=>by cases q.1) (·.2)
 have hm6:=oW _ _ mlg DR;show{o,um,hm6,?_};have K5:SB lg H5 (upd H6 md um):=λb u n e=>by
  by_cases z:b=md;·rw[z,OA]at e;cases e;rw[z,au]
  rw[aC z];show oW _ _ n (by rw[<-hHf,aC z];show e)
 have nt6:rJ H6 md:=λxs q=>by rcases q with q|⟨o',q⟩<;>rw[hm6]at q<;>cases q;show V8 xs<|.inl OA
 have IV:upd H6 md um lg>.lst zs:=by rw[aC<|bN mlg];show qC
 have Lu:=uI (bu.upd (o:=um) nt6) WR;generalize (upd H6 md um)=H9 at K5 IV Lu⊢;have LD:=K5 _ _ (a9 hb2 W3)<|Ai _ _ (nl4 LG) LG;have K0:SB td H H9:=λb u n e=>K5 _ _ (λz=>by rw[z,iI.free W3]at e;cases e)<|Ai _ _ n<|mM _ _ e;show bT (T:=R) eR λR eR=>?_;show{_,9,bd,9,{_,aT.of LD},eJ (xs:=[.str "?x"]) (λj ws nR=>nR=H9/\ws=[V.str "?x"].take j) 7 ⟨rfl,rfl⟩ (λj ws nR hj ⟨e1,e2⟩=>{e1▸aT.of LD,by rw[e2,aW];lia}) ?_ ?_};·ext j v ws nR N hv ⟨rfl,rfl⟩ nO;let(e,rfl):=gC (ao _) hv;cases e;show{_,9,_,9,nd,_,9,jA.k (k:=Sum.inr "?x")<|K0 _ _ ndt hnd,_,9,i8 {_,9,nO _ _ ⟨rfl,rfl⟩}}
 ext ws nR ⟨rfl,rfl⟩ sh aid;have jk:=aB aid<|.lst [V.str "?x"];have ZK:upd nR sh (.lst [V.str "?x"]) sh>.lst [.str "?x"]:=au;have My:=jk _ _<|K5 _ _ (λz=>by have q:=kf.ins;rw[z,qD]at q;cases q) kf.ins;have OJ:=jk _ _ IV;have ZQ:=jk _ _ LD;have TZ:=uI (bu.same jk) Lu;have K10:=K0.trans<|SB.same jk;generalize ais:(upd nR sh<|.lst _)=wu;have e11:(upd nR sh<|.lst [V.str "?x"])=wu:=ais;rw[e11]at ZK My OJ ZQ TZ K10;show{_,9,self,C,dx,_,9,My,O.c,O.kept,by change 4<1000;decide,?_};have KS:SB self wu (upd wu self<|.ins C dx<|fZ "kept" (-sh) [("tables",-tb),("kept",-kl),("maps",-md),("tails",-td)]):=SB.up;have Zz:upd wu self (.ins C dx<|fZ "kept" (-sh) [("tables",-tb),("kept",-kl),("maps",-md),("tails",-td)]) self>.ins C dx [("tables",-tb),("kept",-sh),("maps",-md),("tails",-td)]:=by rw[au];rfl
 have nL:∀{b:cr}{l:Aan},wu b>.lst l->b≠self:=λ{b l} e z=>by rw[z,My]at e;cases e
 have afg:=KS _ _ (nL ZK) ZK;have lr:=pa.lr;show jg (T:=R) eR ?_;show{_,9,_,9,_,9,self,C,dx,_,_,9,Zz,O.c,O.kept,9,lg,bd,sh,zs,rs,9,KS _ _ (nL OJ) OJ,uI (KS.tp<|ph My) TZ,KS _ _ (nL ZQ) ZQ,.inl<|aT.of afg,ndr,sor,8,λAy H13 s13 ae8 rc=>?_};have Mx:=s13 _ _ Zz;show{_,9,self,C,dx,_,9,Mx,O.c,O.pD,by change 4<1000;decide,?_};have KF:SB self H13 (upd H13 self<|.ins C dx<|fZ "maps" (-Ay) [("tables",-tb),("kept",-sh),("maps",-md),("tails",-td)]):=SB.up;have ZJ:=s13 _ _ afg;show k sh Ay _ (λb u n1 n2 e=>KF _ _ n2<|s13 _ _<|KS _ _ n2<|K10 _ _ n1 e) (by rw[au];rfl) (KF _ _ (λz=>by rw[z,Mx]at ZJ;cases ZJ) ZJ) ?_;let(kvs,h1,h2,h3):=rc;show{kvs,h1.tp (KF.tp<|ph Mx)<|aC (λz=>by rw[z,Zz]at ae8;cases ae8),h2,λp hp=>{(h3 p hp).1,?_}};let(xs,e):=(h3 p hp).2;show{xs,KF _ _ (λz=>by rw[z,Mx]at e;cases e) e}
def Rt(he:PE X e ta)(hb:At e f X.env (wT e X.env)=wT e X.env:=by rfl):PE X (.Attribute e f pos) (YC X.K ta f):=js he hb
def AR(P:io)(w:mo)(K:Frag)(mg:Aac)(base:ss)(C:cr)(k:Nat)(x:pi)(ps:Aag)(sp:Sp):Prop:=∃f fd,Mk K C f/\cm P w K mg base dZ k f fd ps sp/\mg x>-C/\Binds K fd ps []
def mkO(D:AR 81 X.w X.K X.mg X.base C k x ps sp)(hr:ir j X.A)(ha:PA X (e::es) t)(hk:k+1<=j)(hg:Gl X x:=by rfl)
  (vE:24=false:=by decide) (he:re (e::es) X.env=(false,wT e X.env)::re es X.env:=by rfl) (ie:(Db pos 69).any (·.1)=false:=by rfl):
  PE X 72 (aaE C sp [] E0 t):=by
 let(f,fd,M,F,m,b):=D;show abZ M F (hr.mono hk) hg m b .nil Tq ha vE he ie
structure aap(fs:List En)(nm:pi)(rs:Aag):Prop where
 eu:gJ (iW fs nm)=mP rs
 lr:rs.length<=10
 sn:PyData.strOk nm=true
 nd:rs.Nodup
 so:∀z∈rs,PyData.strOk z=true
inductive M0(P:io)(w:mo)(K:Frag)(vs:Aan)(H:Hp)(Q:VK)(_x3:XK):Prop
 |mk (v:V) (tb:cr) (fs:List En) (nm:pi) (rs:Aag) (_:vs=[v,-tb]) (_:Q1 H v "?x" [(nm,"?x")]) (_:tO K H tb fs) (_:aap fs nm rs) (_:∀(d:cr)(H':Hp),aI H H'->Jx P w K H' d rs->Q (-d) H')
def mq:bL ["question","tables","head","atoms","asking","left","atom"] ["question","tables"] (bo FT):=fS 76
def V4{f:cr}{fd:ut}(F:dh K "counts_of" "counts_of" FT f fd)(T:Txt K mg)(O:Hj K C)(UM:AR P w K mg base C 1 "Asking" ["self","tables"] (MX P w K C))(Ky:jH P w K mg base C 6 "best_place" ["self","atoms"] (Vf P w K C))(aat:jH P w K mg base C 6 "take" ["self","atom","needed"] (U7 P w K C))(Kx:bY P w K mg base 1 "needed_terms" ["head","atoms"] aaI)(BR:bY P w K mg base 3 "narrowed" ["counted_maps","unknowns","terms"] (MY P w K)):cm P w K mg base dZ 07 f fd ["question","tables"] (M0 P w K):=by
 show F.ok mq 85;obtain⟨v,tb,fs,nm,rs,rfl,⟨q,hd,aa,gg,rfl,hq,mS,kJ,jo⟩,tab,rp,k⟩:=h;have cC:=O.c;obtain⟨at_,rfl,hat⟩:∃at_,gg=[-at_]/\L4 H (-at_) (nm,"?x"):=by
  cases jo with
  |cons h t=>
   cases t;let(p,__,rfl,__):=id h;show⟨p,rfl,h⟩
 show{_,ay (vp (pv 0)<|iE 9<|bD (ic 2 mq)<|bD (ic 3 mq) d5)<|ay (cZ 4 mq<|mkO UM hr 73 ∅)<|ay (cZ 5 mq<|cG jc 9 T.mB 76<|bB<|pv 3)<|ay (Nz bF (Ny (pv 5) (λ_=>9))<|ay (cZ 6 mq<|j4 cb PySem.F.slot_list_pop PySem.F.type_list_pop Zm (pv 5)<|bB<|B8 cC Ky hr (pv 4) (bB<|pv 5) ∅)<|aP<|g9<|B8 cC aat hr (pv 4) (cj (pv 6)<|cl Kx hr<|cj (pv 2)<|pv 5) ∅)<|aP<|bH<|cl BR hr<|pf (cG (Jq hr.hd) 9 T.mB 76<|bB<|Lc<|Rt<|pv 4) (Rt<|pv 4)<|pv 2,?_}
 show iq λR eR=>?_;show{_,9,q,_,9,aZ.of hq,9,_,_,9,_,_,9,9,?_};show bT (T:=R) eR λR eR=>?_;show{_,9,λx dx hx Xa ne=>?_};have s1:aI H (upd (upd H dx<|.own x) x<|.ins C dx []):=λb u h=>by rw[aC<|a9 h hx,aC<|a9 h Xa];show h
 have hx1:upd (upd H dx<|.own x) x (.ins C dx []) x>.ins C dx []:=au;show{x,tb,dx,9,hx1,λkl md td p0 H2 Vt Ce rh IU OD mt no=>{9,?_}};have h0t:=s1.free<|no td 75;have iI:aI H H2:=λb u e=>Vt _ _ (a9 e hx)<|s1 _ _ e;show bT eR λR eR=>?_;show{_,9,aa,[-at_],9,.inr<|aZ.of<|iI _ _ kJ,λll W0=>?_};have s3:=aB W0<|.lst [V.ref at_];have lW:upd H2 ll (.lst [V.ref at_]) ll>.lst [-at_]:=au;have mO:=iI.trans s3;have h0l:=iI.free W0;have yH:mL P w K C (upd H2 ll<|.lst [V.ref at_]) x dx tb kl md td p0 at_ [ll] fs nm rs:={s3 _ _ Ce,tab.same mO,s3 _ _ rh,IU.tp (bu.same s3)<|kz IU<|s3 _,hat.keep<|pJ.of mO,.inl<|sv<|s3 _ _ OD,mt,a9 tab.at_ h0t,λz=>a9 rh W0<|aw.mp z};show bT eR λR eR=>?_;show{λm Z H4=>∃x6:Aao,Z=[some (-q),some (-tb),some (-hd),some (-aa),some (-x),some (-ll),x6]/\aI H H4/\((m=1/\mL P w K C H4 x dx tb kl md td p0 at_ [ll] fs nm rs/\H4 ll>.lst [-at_])\/m=0/\H4 ll>.lst []/\∃sh Ay,H4 x>.ins C dx [("tables",-tb),("kept",-sh),("maps",-Ay),("tails",-td)]/\H4 sh>.lst [.str "?x"]/\Jx P w K H4 Ay rs),
  {1,none,9,mO,.inl ⟨rfl,yH,lW⟩},?_}
 ext m Z H4 ⟨x6,rfl,s4,⟨rfl,FF,ki⟩|⟨rfl,ki,sh,Ay,hx4,hk4,rc4⟩⟩
 ·show{_,9,_,.inl {_,aT.of ki,9},i8 {_,λσ' H' h=>h,?_}};let(__,ct4):=FF.MM;have ltd:ll≠td:=λz=>ct4.sZ _<|z▸ki;have exl:∀{H':Hp}{l:Aan},H' ll>.lst l->∀b∈[ll],b≠td/\H' b≠none:=λe b hb=>by rw[aw.mp hb];show{ltd,by rw[e];exactλq=>by cases q}
  show{_,9,.inl {9,_,aT.of ki},_,9,x,dx,_,9,FF.ins,9,_,9,x,ll,dx,tb,kl,md,td,p0,at_,[ll],fs,nm,rs,9,FF,{rp.eu,rp.lr,rp.sn,exl ki},ki,λH5 Ai kf=>?_};have qD:=Ai _ _ ltd ki;have s5:aI H H5:=λb u e=>Ai _ _ (a9 e h0t)<|s4 _ _ e;show{ll,[-at_],(0:Nat),0,-at_,9,9,qD,7,7,PySem.StrLaws.seqIndex_nonneg 7 (by change(0:Int)<1;decide),9,?_};have oW:SB ll H5 (upd H5 ll 74):=SB.up;have qC:upd H5 ll 87 ll>.lst []:=au;have s6:aI H (upd H5 ll 74):=λb u e=>oW _ _ (a9 e h0l)<|s5 _ _ e;have tp6:=oW.tp<|kX qD;have nl:∀{b:cr}{u:HO},H5 b>u->(∀l,u≠ .lst l)->b≠ll:=λ{b u} e n z=>by rw[z,qD]at e;cases e;show n _ rfl
  have nN:∀{b:cr}{kvs:List 90},eP P w K H5 b kvs->b≠ll:=λ{b kvs} h z=>by subst z;show h.sZ _ qD
  have rZ:mL P w K C (upd H5 ll 74) x dx tb kl md td p0 at_ [ll] fs nm rs:={oW _ _ (nl kf.ins λl q=>by cases q) kf.ins,tab.same s6,oW _ _ (λz=>kf.ke<|z▸av) kf.IJ,kf.pB.tp tp6<|aC<|nN kf.pB,hat.keep<|pJ.of s6,kf.U3.imp (λh=>h.tp tp6<|aC<|nN h) (λ⟨b,d,h,n1,n2,t⟩=>{b,d,h.tp tp6<|aC<|nN h,n1,n2,by
    let(__,hd,__):=id t;show t.fr tp6 (aC<|nN hd) λl ys n e=>{n,oW _ _ (λz=>n<|z▸av) e}}),kf.mt,kf.tt,kf.ke}
  generalize Xm:(upd H5 ll<|.lst _)=H6;have e6:(upd H5 ll 87)=H6:=Xm;rw[e6]at qC s6 rZ;show{_,9,x,dx,_,9,rZ.ins,9,_,9,_,9,_,9,hd,ll,9,s6 _ _ mS,qC,λnd H7 s7 ae7 hnd=>?_};have yG:=rZ.same s7;let(__,ct6):=rZ.MM;have ndt:nd≠td:=λz=>by let(__,h):=ct6.some;rw[z,h]at ae7;cases ae7
  have si:=s7 _ _ qC;show{x,at_,nd,dx,tb,kl,md,td,p0,[ll],fs,nm,rs,9,yG,{rp.eu,rp.lr,rp.sn,exl si},rp.nd,rp.so,hnd,ndt,λsh Ay H8 fr8 hx8 hk8 rc8=>?_};show{0,Nat.zero_lt_one,_,9,(λb u e=>fr8 _ _ (a9 e h0t) (a9 e hx)<|s7 _ _<|s6 _ _ e),.inr {9,fr8 _ _ ltd (λz=>by have:=yG.ins;rw[<-z,si]at this;cases this) si,sh,Ay,hx8,hk8,rc8}}
 show{_,9,_,.inl {_,aT.of ki,9},hU ?_};let(kvm,R6,em,hi4):=id rc4;show jg (T:=R) eR ?_;show{_,9,x,C,dx,_,_,9,hx4,O.c,O.pD,9,Ay,kvm,9,R6,?_}
 intros vw hvw H5 s5 hv5
 have R5:=R6.tp (bu.same s5)<|kz R6<|s5 _;show{vw,Ay,kvm,9,hv5,R5,λl zs H6 s6 oG qC DO=>?_};have sV:=s4.trans<|s5.trans s6;have B5:=s5.trans s6;have pc:Paired (BI K H6) zs rs:=by
  have hk:=λp hp=>TF (bu.same s6) _ _ (R5.2 p hp).1;have hc:=λp hp=>(hi4 p hp).1;clear qC R5 R6 hi4 rc4;generalize rs=mm at em
  induction kvm generalizing zs mm with
  |nil=>
   cases mm with
   |nil=>cases DO;show .nil
   |cons _ _=>cases em
  |cons p kvm ih=>
   cases mm with
   |nil=>cases em
   |cons y mm=>
    injection em with em1 em2;cases DO with
    |cons h t=>
     let(b,rfl,hb):=h;let(c,ec):=hc p av;have hn:=hk p av;rw[show p.1=d8 [y]from em1]at hn;rw[ec]at hb;show .cons {b,p.2.1,c,9,aZ.of hb,Dv hn}<|ih _ t (λq hq=>hk q<|aA _ hq) (λq hq=>hc q<|aA _ hq) _ em2
 have lr:=rp.lr;show{_,9,x,C,dx,_,_,9,B5 _ _ hx4,O.c,O.kept,9,_,9,l,sh,hd,zs,rs,9,qC,pc,B5 _ _ hk4,.inr<|aZ.of<|sV _ _ mS,rp.nd,rp.so,8,λd H7 s7 jN rc=>k d H7 (sV.trans s7) rc}
inductive Vh(K:Frag)(vs:Aan)(H:Hp)(Q:VK)(_x3:XK):Prop
 |mk (v:V) (tb:cr) (fs:List En) (nm:pi) (rs:Aag) (_:vs=[v,-tb]) (_:Q1 H v "?x" [(nm,"?x")]) (_:tO K H tb fs) (_:aap fs nm rs) (_:∀(l:cr)(zs:Aan)(H':Hp),aI H H'->H l=none->H' l>.lst zs->d9 K H' zs (mP rs)->Q (-l) H')
def Tg:bL ["question","tables"] ["question","tables"] (bo K4):=fS 76
def TB(F:dh K "answers" "answers" K4 f fd)(T:Txt K mg)(Qw:bY P w K mg base 07 "counts_of" ["question","tables"] (M0 P w K)):cm P w K mg base dZ 08 f fd ["question","tables"] (Vh K):=by
 show F.ok Tg 85;let(v,tb,fs,nm,rs,rfl,hq,tab,rp,k):=h;show{_,aP<|bH<|bh (Ph hr.hd) 9 T.mX 76<|bB<|cl Qw hr 36,?_};show{_,9,_,9,v,tb,fs,nm,rs,9,hq,tab,rp,λd H1 s1 rc=>?_};let(kvs,ha,em,__):=rc;have e1:kvs.map (·.1)=(mP rs).map d8:=by rw[em];unfold mP;rw[cX];rfl
 have lr:=rp.lr;have ll:(mP rs).length=rs.length:=ag _;show{d,kvs,mP rs,9,ha,e1,λh2 r ug er=>?_,8,λl zs hl hr hm=>?_};·let(z,__,rfl):=aG.mp ug;cases er
 have s2:=aB hl<|.lst zs;rw[(Bg (kS _) (mU _) (by rw[<-rp.eu];show mU _))]at hr;show k l zs _ (s1.trans s2) (s1.free hl) au<|qV hr s2
def zu(l:Aaa):(gJ l).Nodup:=(kS _).nodup_iff.mpr<|wK _
def PQ(l:Aaa):gJ (gJ l)=gJ l:=by rw[<-MH (zu l) λ_=>Kt];show Bg (kS _) (mU _)<|mU _
def tM(qs:List One)(t:pi):Aag:=(gJ<|gQ (qs.map uJ) t).map λr=>r.headD ""
def JO{qs:List One}{t:pi}{r:Aag}(h:r∈gJ (gQ (qs.map uJ) t)):∃z,r=[z]/\(t,z)∈qs:=by let(a,ha,e):=aG.mp<|tw.mp<|(vz _ _).mp h;cases e;show⟨_,rfl,ha⟩
def Jn(qs:List One)(t:pi):gJ (gQ (qs.map uJ) t)=mP (tM qs t):=by unfold mP tM;rw[cX];show((gA λr hr=>?_).trans<|List.map_id _).symm;let(z,rfl,__):=JO hr;rfl
def Ax{qs:List One}{t z:pi}:z∈tM qs t↔(t,z)∈qs:=by
 constructor;·ext h;let(r,hr,e):=aG.mp h;let(y,rfl,hy):=JO hr;rw[<-show y=z from e];show hy
 ext h;show aG.mpr {[z],(vz _ _).mpr<|tw.mpr<|aG.mpr ⟨_,h,rfl⟩,9}
def LR(qs:List One)(t:pi):(tM qs t).Nodup:=by have h:=zu<|gQ (qs.map uJ) t;rw[Jn]at h;show List.Pairwise.imp (λn e=>n (by rw[e]))<|cz.mp h
def Kj(qs:List One)(t:pi):(tM qs t).length<=qs.length:=by have h:=tE (zu<|gQ (qs.map uJ) t) λr hr=>(vz r _).mp hr;have h2:=Ib (rws:=qs.map uJ) (z:=t);unfold tM;rw[ag]at h2⊢;lia
def df(qs xs:List One):List One:=xs.flatMap λx=>(tM qs x.2).map λz=>(x.1,z)
def Yz{H H':Hp}{p:cr}{qs:List One}{fs:List En}(t:Told K H H' p (qs.map uJ) fs)(l8:qs.length<=10)(g:∀a∈qs,PyData.strOk a.2=true){nm:pi}(sn:PyData.strOk nm=true):aap fs nm (tM qs nm):=by
 show{?_,aS (Kj _ _) l8,sn,LR _ _,λz hz=>g _<|Ax.mp hz};rw[<-Jn];by_cases c:nm∈fs.map (·.nm);·let(e,he,rfl):=aG.mp c;let(__,__,__,__,h5,__):=t.en e he;rw[uD t.nm he,h5];show PQ _
 have e1:iW fs nm=[]:=by unfold iW;rw[Eu.mpr λe he q=>c (by rw[<-aV q];show dN he)]
 have e2:gQ (qs.map uJ) nm=[]:=by
  cases e:gQ (qs.map uJ) nm with
  |nil=>rfl
  |cons r _=>show absurd (t.all _<|tw.mp<|e▸av) c
 rw[e1,e2]
inductive JL(K:Frag)(vs:Aan)(H:Hp)(Q:VK)(_x3:XK):Prop
 |mk (vl:cr) (v:V) (dH:Aan) (xs:List One) (h:pi) (qs:List One) (_:vs=[-vl,v]) (_:aT K H vl dH) (_:Paired (Gn H) dH xs) (_:xs.length<=6) (_:(∀x∈xs,PyData.strOk x.2=true)) (_:Q1 H v h qs) (_:qs.length<=10) (_:(∀a∈qs,Gp a.2)) (_:∀l zs H',aI H H'->H l=none->H' l>.lst zs->kG K H' zs (df qs xs)->Q (-l) H')
def nF:bL ["views","question","tables","found","name","view"] ["views","question"] (bo C5):=fS 76
def Mg{f:cr}{fd:ut}(F:dh K "candidates" "candidates" C5 f fd)(T:Txt K mg)(zW:bY P w K mg base 3 "tables_of" ["atoms"] (GA K))(Yp:bY P w K mg base 08 "answers" ["question","tables"] (Vh K)):cm P w K mg base dZ 09 f fd ["views","question"] (JL K):=by
 show F.ok nF 85;obtain⟨vl,v,dH,xs,h,qs,rfl,rg,hvs,lx,sx,⟨q,hd,aa,gg,rfl,hq,mS,kJ,jo⟩,l8,gq,k⟩:=h;show{_,ay (cZ 2 nF<|cl zW hr<|bB<|bV dv (pv 1) bb (λ_ _=>9))<|ay (cZ 3 nF<|dy fQ)<|ay (fG bF 9 (cN<|pv 0) (iE 9<|bD (jw (i:=4) nF.nd 9<|Or.inr 9)<|bD (ic 5 nF) d5)<|aP<|g9<|j4 cb kB kA Dw (pv 3)<|bB<|hG 9 (cA (fs:=["name"]) (fr:=[4])) (cN<|cl Yp hr<|cj (pv 5)<|pv 2) (λ_ _ _ _=>dF<|cj (pv 1)<|pv 0))<|aP<|bH<|pv 3,?_}
 show{_,9,_,_,_,_,9,9,aZ.of hq,9,aa,gg,qs.map uJ,9,.inr<|aZ.of kJ,Pq jo.k,by rw[ag];show l8,λa ha=>?_,λtb fs H1 s1 QO=>?_};·let(b,hb,rfl):=aG.mp ha;show{by change 1<=1;decide,by change 1<=4;decide,λz hz=>by rw[aw.mp hz];show gq b hb}
 have agT:tO K H1 tb fs:={QO.at_,QO.nm,λe he=>by
  let(__,__,h3,h4,h5,__):=QO.en e he;show{h3,h4,?_,λr hr=>?_};·rw[h5,Jn];unfold mP;rw[ag];show aS (Kj _ _) l8
  rw[h5]at hr;let(z,rfl,hz):=JO hr;show{by change 1<=1;decide,by change 1<=4;decide,λy hy=>by rw[aw.mp hy];show gq _ hz}}
 show{31,?_}
 intros fl xJ H2 s2 AG
 have iI:=s1.trans s2;have fl0:=s1.free xJ;show{_,9,vl,9,{dH,Hx rg iI},iS (λi Z H3=>∃(x4 x5:Aao)(zs:Aan),Z=[some (-vl),some (-q),some (-tb),some (-fl),x4,x5]/\i<=55/\aI H H3/\tO K H3 tb fs/\H3 fl>.lst zs/\kG K H3 zs (df qs<|xs.take i)/\zs.length<=10*i) {_,_,[],9,aF _,iI,agT.same s2,AG,.nil,ao _} (λi Z H3 _ zq=>by let(__,__,__,__,__,s3,__):=zq;show Hx rg s3) ?_ ?_}
 ·ext i x Z H3 D1 hx ⟨x4,x5,zs,rfl,hi,s3,QP,Gb,OQ,lz⟩ iy _;let(y,hy,p,qv,rfl,hp,hqv):=Paired.at hvs hx;have b6:=(ar.mp hy).1;have rp:=Yz QO l8 (λa ha=>(gq a ha).2)<|sx y<|aM hy;show{p,_,9,aZ.of<|s3 _ _ hp,9,_,_,9,_,_,9,9,?_};show{_,9,.inl {9,_,aT.of Gb},_,9,_,9,qv,tb,fs,y.2,tM qs y.2,9,hqv.keep<|pJ.of s3,QP,rp,λl ws H4 s4 oG ki hR=>?_};have lw:=uC hR;have lr:=rp.lr;show{l,9,{_,aT.of ki},eJ (xs:=ws) (λj ys H5=>aI H4 H5/\j<=ws.length/\kG K H5 ys (((tM qs y.2).take j).map λz=>(y.1,z))) (cw ∅) {84,aF _,.nil} ?_ ?_ ?_};·ext j ys H5 hj ⟨s5,Ga,Oz⟩;show{aT.of<|s5 _ _ ki,?_};rw[aQ Oz,ag,aW];lia
  ·ext j z ys H5 N F4 ⟨s5,Ga,Oz⟩ hN;let(r,a,ug,rfl,ha):=Bc hR F4;have ah4:=(ar.mp F4).1;show fD {_,9,_,9,95,λpp F8=>hN _ _ {s5.trans<|aB F8 _,ah4,?_}};rw[q9 ug];show cY (Oz.tp<|bu.same<|aB F8 _)<|.cons {pp,a,9,aZ.of au,bf ha<|s5.trans<|aB F8 _} .nil
  ext ys H5 ⟨s5,_,Oz⟩ l5' ah7;rw[lw,bq]at Oz;have ly:91=(tM qs y.2).length:=by rw[aQ Oz,ag]
  rename_i l5' ah7 H6 s6 h6;have B5:=s4.trans<|s5.trans s6;have hf6:=B5 _ _ Gb;show{_,_,_,_,9,9,hf6,h6,bU<|cw ∅,?_};have t7:bu H6 (upd H6 fl<|.lst<|zs++ys):=bu.upd<|kX hf6;have o7:∀b u,b≠fl->H6 b>u->upd H6 fl (.lst<|zs++ys) b>u:=λb u n e=>aC n▸e;show iy _ _ {_,_,zs++ys,9,b6,λb u e=>o7 b u (a9 e fl0)<|B5 _ _<|s3 _ _ e,{o7 _ _ ?_ (B5 _ _ QP.at_),QP.nm,λe he=>?_},au,?_,?_};·ext z;rw[z]at QP;rw[QP.at_]at Gb;cases Gb
  ·let(h1,h2,h3):=QP.en e he;show{o7 _ _ (λz=>?_)<|B5 _ _ h1,gG (qV h2 B5) t7,h3};have:=(QO.en e he).2.2.1;rw[z,xJ]at this;cases this
  ·unfold df;rw[bW,hy,uk];show cY ((OQ.tp<|bu.same B5).tp t7) (by simpa using(Oz.tp<|bu.same s6).tp t7)
  rw[aU];lia
 ext Z H3 ⟨x4,x5,zs,rfl,_,s3,_,Gb,OQ,lz⟩;rw[(aQ hvs),bq]at OQ;show{_,9,k fl zs H3 s3 fl0 Gb OQ}
def gK(g:km):List (Key×V):=g.map λp=>(Sum.inr p.1,.str p.2)
def vd(g:km)(u:pi):j0 (gK g) (Sum.inr u:Key)=(dC.get g u).map V.str:=by
 unfold gK dC.get
 induction g with
 |nil=>rfl
 |cons p r ih=>
  by_cases c:p.1=u;·rw[bI,uu<|c8 Sum.inr c,eX (p:=λp:pi×pi=>decide (p.1=u))<|aO c];rfl
  rw[bI,rK (λe=>c (by injection e)),dU (p:=λp:pi×pi=>decide (p.1=u)) (λd=>c<|aV d)];show ih
def ad1{g:km}{u v:pi}(n:dC.get g u=none):putK (gK g) (Sum.inr u) (.str v)=gK (g++[(u,v)]):=by rw[Bf _ (by rw[vd,n];rfl)];unfold gK;rw[ba];rfl
def GU(g:km)(x:pi):pi:=(dC.get g x).getD x
def abo(g:km)(x:pi):(j0 (gK g) (Sum.inr x:Key)).getD (.str x)=.str (GU g x):=by rw[vd];unfold GU;cases dC.get g x<;>rfl
inductive S5(K:Frag)(vs:Aan)(H:Hp)(Q:VK)(_x3:XK):Prop
 |mk (t d:cr) (x:pi) (g:km) (_:vs=[-t,-d]) (_:aZ K H t [.str x]) (_:H d>.dK (gK g)) (_:∀(r:cr)(H':Hp),aI H H'->H r=none->H' r>.tup [.str<|GU g x]->Q (-r) H')
def Ma:bL ["terms","given"] ["terms","given"] (bo C4):=fS 76
def V1{f:cr}{fd:ut}(F:dh K "image" "image" C4 f fd)(T:Txt K mg):cm P w K mg base dZ 1 f fd ["terms","given"] (S5 K):=by
 show F.ok Ma 85;let(t,d,x,g,rfl,ht,hd,k):=h;show{_,aP<|bH<|cG fE 9 T.jh 76<|bB<|hG 9 (cA (fs:=["given"]) (fr:=[1])) (jY<|pv 0) (λ_ _ _ _=>GN (oE hr) (pv 1) (pv 0) (pv 0) agl),?_};show{_,9,t,9,⟨_,ht⟩,uR (xs:=[.str x]) (λi ys H2=>H2=H/\ys=[V.str<|GU g x].take i) 86 ⟨rfl,rfl⟩ (λi ys H2 hi ⟨e1,e2⟩=>{e1▸ht,by rw[e2,aW];lia}) ?_ ?_};·ext i y ys H2 N hc ⟨rfl,rfl⟩ hN;let(e,rfl):=gC (ao _) hc;cases e;show fD {_,9,d,9,.inl {_,.inl hd},_,9,_,9,_,jA.k (k:=Sum.inr x) hd,?_};rw[abo];show hN _ _ ⟨rfl,rfl⟩
 ext ys H2 ⟨rfl,rfl⟩ l hl;show{l,_,9,.inl {80,λp hp=>k p _ ((aB hl _).trans<|aB hp _) ((aB hl _).free hp) au}}
def oh(g:km)(x y:pi):km:=if(dC.get g x).isSome then g else g++[(x,y)]
def Px(g:km)(x y:pi):(oh g x y).length<=g.length+1:=by
 unfold oh;split;·lia
 rw[aU];show ao _
def acy{g:km}{x y z:pi}(n:z≠x):dC.get (oh g x y) z=dC.get g z:=by
 unfold oh;split;·rfl
 unfold dC.get;rw[List.find?_append,dU<|↑(bN n),List.find?_nil,Option.or_none]
inductive MZ(K:Frag)(vs:Aan)(H:Hp)(Q:VK)(_x3:XK):Prop
 |mk (d t a:cr) (g:km) (x y:pi) (_:vs=[-d,-t,-a]) (_:H d>.dK (gK g)) (_:g.length<=1000) (_:aZ K H t [.str x]) (_:aZ K H a [.str y]) (_:xW x) (_:(dC.get g x=none\/dC.get g x>y)) (_:∀p H',aI H H'->H p=none->H' p>.dK (gK<|oh g x y)->Q (-p) H')
def vj:bL ["given","terms","aim","longer","term","aimed","meant"] ["given","terms","aim"] (bo Ng):=fS 76
def V3{f:cr}{fd:ut}(F:dh K "fitted" "fitted" Ng f fd)(T:Txt K mg)(gY:bY P w K mg base 2 "is_unknown" ["thing"] A8):cm P w K mg base dZ 3 f fd ["given","terms","aim"] (MZ K):=by
 show F.ok vj 85;let(d,t,a,g,x,y,rfl,hd,lg,ht,ha,ux,hg,k):=h;show{_,ay (fh (cU Ip (bh cW 9 T.eZ bz 73) (bh cW 9 T.eZ bz<|bB<|pv 2)<|cL _) (aP<|bH jF) dc)<|ay (cZ 3 vj<|cG UC 9 T.xy 76 21)<|ay (fG bF 9 (Ro 9 T.yP<|cj (pv 1)<|pv 2) (iE 9<|bD (ic 4 vj)<|bD (ic 5 vj) d5)<|ay (cZ 6 vj<|rN (h9<|cl gY hr<|bB<|pv 4) (j4 eK hZ mG Lm (pv 3)<|cj (pv 4)<|pv 5)<|pv 4)<|aP<|fh (cU Ip (pv 6) (pv 5)<|cL _) (aP<|bH jF) dc)<|aP<|bH<|pv 3,?_}
 show{_,9,_,_,9,.inr ⟨_,ht,rfl⟩,_,9,_,_,9,.inr ⟨_,ha,rfl⟩,9,_,9,hU ?_};show{_,9,d,gK g,9,.inl hd,?_}
 intros p hp H1 s1 xH
 show{_,rfl,_,rfl,t,a,rfl,{_,bf ht s1},{_,bf ha s1},ZZ (xs:=[.str x]) (ys:=[.str y])
  (λi Z H2=>∃(x4 x5 x6:Aao),Z=[some (-d),some (-t),some (-a),some (-p),x4,x5,x6]/\aI H H2/\H2 p>.dK (gK (if i=0 then g else oh g x y))) rfl ⟨_,_,_,rfl,s1,xH⟩ (λi Z H2 hi zq=>by let(__,__,__,__,s2,__):=zq;show{bf ht s2,bf ha s2}) ?_ ?_}
 ·ext i u v q Z H2 hu hv ⟨x4,x5,x6,rfl,s2,oF⟩ hq;let(e,rfl):=gC (ao _) hu;cases e;cases hv;have s3:aI H2 (upd H2 q<|.tup [.str x,.str y]):=aB hq _;have kh:=s3 _ _ oF;show{q,_,9,aZ.of au,9,_,_,9,_,_,9,9,?_};show{_,9,x,9,aS ux.2.1 7,λH4 s4=>{_,9,?_}};have vo:=s2.trans<|s3.trans s4;have Ly:=s4 _ _ kh;have lgk:(gK g).length=g.length:=ag _;rw[ux.1];show i8 {_,9,.inr<|.inr<|.inl {9,.inl ⟨_,Ly⟩},_,9,_,9,p,Sum.inr x,.str y,gK g,9,9,Ly,lgk▸cw lg,λv hv=>?_,λhv=>?_}
  ·rw[vd]at hv;let(m,hm,rfl):=aY.mp hv;obtain rfl:m=y:=by rw[hm]at hg;show hg.elim (λq=>by cases q) bR
   show{_,9,_,9,9,_,9,?_};rw[aO rfl];show hU {_,_,_,9,vo,?_};have:oh g x m=g:=by unfold oh;rw[hm];rfl
   rw[az<|gW _,this];show Ly
  rw[vd]at hv;have hm:=Option.map_eq_none_iff.mp hv;rw[ad1 hm];show{_,9,_,9,9,_,9,?_};rw[aO rfl];show hU {_,_,_,9,λb' u h=>?_,?_};·rw[aC<|a9 h hp];show vo _ _ h
  have:oh g x y=g++[(x,y)]:=by unfold oh;rw[hm];rfl
  rw[az<|gW _,this];show au
 ext Z H2 ⟨x4,x5,x6,rfl,s2,oF⟩;show{_,9,k p H2 s2 hp oF}
inductive U6(K:Frag)(vs:Aan)(H:Hp)(Q:VK)(_x3:XK):Prop
 |mk (pl d:cr) (v y:V) (o a:One) (g:km) (_:vs=[-pl,v,-d]) (_:H pl>.lst [y]) (_:zl K H y o) (_:zl K H v a) (_:xW a.2) (_:H d>.dK (gK g)) (_:(o.2=a.2->dC.get g a.2≠none)) (_:∀H',aI H H'->Q (.bl false) H')
def B2:bL ["part","atom","given","free"] ["part","atom","given"] (bo C3):=fS 76
def Mf{f:cr}{fd:ut}(F:dh K "is_touched" "is_touched" C3 f fd)(T:Txt K mg)(gY:bY P w K mg base 2 "is_unknown" ["thing"] A8):cm P w K mg base dZ 3 f fd ["part","atom","given"] (U6 K):=by
 show F.ok B2 85;obtain⟨pl,d,v,y,o,a,g,rfl,ie,⟨ob,oc,rfl,hob,hoc⟩,⟨ab,ac,rfl,Ci,yV⟩,ua,hd,no,k⟩:=h;show{_,ay (mx (i:=3) B2.nd 9 (Or.inr 9)<|o8 9 (cA (fs:=["given"]) (fr:=[2])) (jY<|bV dv (pv 1) bb (λ_ _=>9)) (λ_ _ _ _=>PW.pt<|Nw (h9<|cl gY hr 21)<|JR<|Ar<|Lf (oE hr) (pv 0)<|pv 1) 68)<|aP<|bH<|bh (AL 9) 9 T.TK 76<|bB<|Y5 9 (Jm (fs:=["free"]) (fr:=[3])) (cN<|pv 0) (λ_ _ _ _=>bh (y4 9) 9 T.TK 76<|bB<|hG 9 (cA (fs:=["other"]) (fr:=[0])) (GJ<|pv 1) (λ_ _ _ _=>gu (Bj) (pv 0) (bV (iC) (pv 1) bb (λ_ _=>9)) 50)),?_}
 let Cj:Aag:=if(dC.get g a.2).isSome then[]else[a.2]
 have lf:Cj.length<=1:=by
  change(if _ then _ else _:Aag).length<=1;split;·decide
  show ao _
 show{_,9,_,_,_,_,9,9,Ci,9,ac,9,⟨_,yV⟩,uR (λi zs H2=>aI H H2/\zs=if i=0 then[]else Cj.map V.str) 86 {aI.refl H,9} (λi zs H2 hi ⟨s2,e⟩=>{bf yV s2,?_}) ?_ ?_}
 ·rw[e];split;·show aF _
  rw[ag];lia
 ·ext i x zs H2 N hc ⟨s2,rfl⟩ hN;let(e,rfl):=gC (ao _) hc;cases e;show{_,9,a.2,9,aS ua.2.1 7,λH3 s3=>{_,9,?_}};have v9:=s2.trans s3;rw[ua.1];show i8 {_,9,_,9,d,_,9,jA.k (k:=Sum.inr a.2)<|v9 _ _ hd,_,9,?_};rw[vd,ji];show hX (λc=>{_,9,hN _ _ {v9,?_}}) (λc=>hN _ _ {v9,?_});·have e:Cj=[a.2]:=az<|↑c;rw[az<|gW _,e];rfl
  have e:Cj=[]:=aL<|wU.mpr<|↑c;rw[az<|gW _,e];rfl
 ext zs H2 ⟨s2,rfl⟩ l hl;rw[az (by change ¬(1=0);decide)];have s3:aI H (upd H2 l<|.lst<|Cj.map V.str):=s2.trans<|aB hl _;have lW:upd H2 l (.lst<|Cj.map V.str) l>.lst (Cj.map V.str):=au;generalize (upd H2 l<|.lst<|Cj.map V.str)=H3 at s3 lW⊢;have Cd:∀z∈Cj,z≠o.2:=λz hz e=>by
  have hz:z∈(if(dC.get g a.2).isSome then[]else[a.2]:Aag):=hz;split at hz;·cases hz
  rename_i c;rw[aw.mp hz]at e;show no e.symm<|↑c
 have lfm:(Cj.map V.str).length=Cj.length:=ag _;generalize Cj=fe at lf lW Cd lfm⊢;show{_,9,pl,9,{_,aT.of<|s3 _ _ ie},eJ (λi zs H4=>aI H3 H4/\zs=List.replicate i (V.bl false)) 86 {84,9} (λi zs H4 hi ⟨s4,e⟩=>{aT.of<|s4 _ _<|s3 _ _ ie,by rw[e,dJ];show ao _}) ?_ ?_}
 ·ext i x zs H4 N hc ⟨s4,rfl⟩ hN;let(e,rfl):=gC (ao _) hc;cases e;show fD {_,9,l,9,{_,aT.of<|s4 _ _ lW},eJ (λj us H5=>H5=H4/\us=List.replicate j (V.bl false)) (by rw[lfm];show cw ∅) ⟨rfl,rfl⟩ (λj us H5 hj ⟨e1,e2⟩=>{by rw[e1];show aT.of<|s4 _ _ lW,by rw[e2,dJ];show ao _}) ?_ ?_}
  ·ext j y us H5 M hcy ⟨rfl,rfl⟩ hM;let(t,ht,rfl):=Sy hcy;show fD {_,9,_,9,_,_,_,_,9,9,bf hob<|s3.trans s4,9,oc,_,9,.inr<|bf hoc<|s3.trans s4,9,9,?_};have e:DJ (.str t) [V.str o.2]=false:=by
    have:=Kc t [o.2];rw[pW]at this;rw[this,bQ]
    exactλq=>Cd t (aM ht)<|aw.mp q
   rw[e];show hM _ _ {9,tR.symm}
  ext us H5 ⟨rfl,rfl⟩ q hq;show{q,List.replicate fe.length false,9,aT.of (by rw[au,List.map_replicate,lfm]),?_};rw[(wq.mpr λx hx=>by rw[(vJ.mp hx).2];decide)];show hN _ _ {s4.trans<|aB hq _,9}
 ext zs H4 ⟨s4,rfl⟩ q hq;show{q,[false],9,80,k _<|s3.trans<|s4.trans<|aB hq _}
abbrev EJ(K:Frag)(H:Hp):Aan->List One->Prop:=Paired λv a=>∃l y,v=-l/\H l>.lst [y]/\zl K H y a
def EJ.same{H H':Hp}{vs:Aan}{as:List One}(h:EJ K H vs as)(s:aI H H'):EJ K H' vs as:=Paired.imp' (λ_ _ zq=>by let(l,y,e,h1,h2):=zq;show{l,y,e,s _ _ h1,h2.tp<|bu.same s}) h
def Ap(g:km)(as:List One):Prop:=as.Pairwise λa b=>a.2=b.2->dC.get g b.2≠none
inductive Va(K:Frag)(vs:Aan)(H:Hp)(Q:VK)(_x3:XK):Prop
 |mk (l d:cr) (ys:Aan) (as:List One) (g:km) (_:vs=[-l,-d]) (_:H l>.lst ys) (_:kG K H ys as) (_:as.length<=100) (_:(∀b∈as,xW b.2)) (_:H d>.dK (gK g)) (_:Ap g as) (_:∀p FC H',aI H H'->H p=none->H' p>.lst FC->EJ K H' FC as->Q (-p) H')
def kg:bL ["atoms","given","parts","atom","part","beside","earlier"] ["atoms","given"] (bo HP):=fS 76
def P6{f:cr}{fd:ut}(F:dh K "parts_of" "parts_of" HP f fd)(T:Txt K mg)(PM:bY P w K mg base 3 "is_touched" ["part","atom","given"] (U6 K)):cm P w K mg base dZ 4 f fd ["atoms","given"] (Va K):=by
 show F.ok kg 85;let(l,d,ys,as,g,rfl,hl,lQ,la,fa,hd,ap,k):=h;show{_,ay (cZ 2 kg<|dy fQ)<|ay (fG bF 9 (cN<|pv 0) (ic 3 kg)<|ay (cZ 4 kg<|dy<|bB<|pv 3)<|ay (cZ 5 kg<|dy fQ)<|ay (fG bF 9 (cN<|pv 2) (ic 6 kg)<|aP<|fh (h9<|cl PM hr<|pf (pv 6) (pv 3)<|pv 1) (aP<|cZ 4 kg<|dj mz (pv 6)<|pv 4)<|aP<|g9<|j4 cb f7 f6 pz (pv 5)<|bB<|pv 6)<|aP<|cZ 2 kg<|dj mz (pv 5)<|dy<|bB<|pv 4)<|aP<|bH<|pv 2,?_}
 show{31,?_}
 intros pp F8 H1 s0 lR
 show{_,rfl,l,rfl,{_,aT.of<|s0 _ _ hl},iS (λi Z H2=>∃(x3 x4 x5 x6:Aao)(pq:cr)(vs:Aan),Z=[some (-l),some (-d),some (-pq),x3,x4,x5,x6]/\i<=as.length/\aI H H2/\H pq=none/\H2 pq>.lst vs/\EJ K H2 vs (as.take i))
  {_,_,_,_,pp,[],9,aF _,s0,F8,lR,.nil} (λi Z H2 _ zq=>by let(__,__,__,__,__,__,__,__,s2,__):=zq;show aT.of<|s2 _ _ hl) ?_ ?_}
 ·ext i x Z H2 D1 hx ⟨_,_,_,_,pq,vs,rfl,Ce,s2,hq0,yT,DO⟩ iy _;let(a,ha,hxa):=Paired.at lQ hx;have b6:=(ar.mp ha).1;have lvs:vs.length=i:=by rw[aQ DO,aW];lia
  show{_,9,42,?_}
  intros p1 xH H3 s3 kh
  show{31,?_}
  intros bs hbs H4 s4 LG
  have v9:=s2.trans s3;have RZ:=s3 _ _ yT;have aeW:=DO.same s3;show{_,rfl,pq,rfl,{_,aT.of<|s4 _ _ RZ},iS (λj Z H5=>∃x6:Aao,Z=[some (-l),some (-d),some (-pq),some x,some (-p1),some (-bs),x6]/\aI H3 H5/\H5 bs>.lst (vs.take j))
   ⟨_,rfl,s4,LG⟩ (λj Z H5 _ zq=>by let(__,__,s5,__):=zq;show aT.of<|s5 _ _ RZ) ?_ ?_}
  ·ext j y Z H5 D2 hy ⟨_,rfl,s5,IX⟩ nx2 _;let(o,ho,e,z,rfl,Sa,hea):=Paired.at aeW hy;have hji:j<i:=by rw[<-lvs];show(ar.mp hy).1
   have FU:=v9.trans s5;rw[Et,aL hji]at ho;have ap1:o.2=a.2->dC.get g a.2≠none:=by have:=iX.mp ap j i ∅ b6 hji;rw[(ar.mp ho).2,(ar.mp ha).2]at this;show this
   show{_,9,_,9,_,9,e,d,x,z,o,a,g,9,s5 _ _ Sa,hea.tp<|bu.same s5,hxa.tp<|bu.same FU,fa a<|aM ha,FU _ _ hd,ap1,λH6 s6=>{_,9,hU ?_}};have hb6:=s6 _ _ IX;show{_,9,.inl {9,_,aT.of hb6},_,9,bs,_,_,9,9,hb6,by rw[aW];show cw ∅,?_};show nx2 _ _ {_,9,λb u h=>?_,?_};·rw[aC<|a9 h hbs];show s6 _ _<|s5 _ _ h
   rw[au,bW,hy];rfl
  ext Z H5 ⟨_,rfl,s5,IX⟩;rw[bq]at IX;show{_,9,_,9,42,?_}
  intros q1 OF H6 s6 hq6
  show{bs,q1,vs,_,9,9,s6 _ _ IX,hq6,by rw[b5];show bU<|cw ∅,λr hr=>?_};have s7:aI H6 (upd H6 r<|.lst<|vs++[-p1]):=aB hr _;have Nj:=s5.trans<|s6.trans s7;show iy _ _ {_,_,_,_,r,_,9,b6,v9.trans Nj,(v9.trans<|s5.trans s6).free hr,au,?_};rw[bW,ha];show cY (aeW.same Nj)<|.cons {p1,x,9,Nj _ _ kh,hxa.tp<|bu.same<|v9.trans Nj} .nil
 ext Z H2 ⟨_,_,_,_,pq,vs,rfl,Ce,s2,hq0,yT,DO⟩;rw[(aQ lQ),bq]at DO;show{_,9,k pq vs H2 s2 hq0 yT DO}
abbrev Rl:=NK->Aag->Prop
structure gE(P:io)(w:mo)(K:Frag)(H0 H:Hp)(A:cr)(kvs:List 90)(R:Rl)(n:Nat):Prop where
 at_:eP P w K H A kvs
 len:kvs.length<=n
 own:H0 A=none
 vals:∀k v,valN kvs k>v->∃d inner,v=-d/\d≠A/\H0 d=none/\eP P w K H d inner/\inner.length<=n/\(inner.map (·.1)).Nodup/\(∀p∈inner,p.2.2=.bl true)/\∀j,(∃p∈inner,p.1=j)↔∃zs,R k zs/\j=d8 zs
 no:∀k,valN kvs k=none->∀zs,¬R k zs
 inj:∀k k' d,valN kvs k>.ref d->valN kvs k'>.ref d->k=k'
def gE.congr{H0 H:Hp}{A:cr}{kvs:List 90}{R R':Rl}{n:Nat}(x:gE P w K H0 H A kvs R n)(e:∀k zs,R k zs↔R' k zs):gE P w K H0 H A kvs R' n:=
 {x.at_,x.len,x.own,λk v h=>by let(d,inner,h1,h2,h3,h4,h5,h6,h7,h8):=x.vals k v h;show{d,inner,h1,h2,h3,h4,h5,h6,h7,λj=>(h8 j).trans ⟨λzq=>by let(zs,a,b):=zq;show{zs,(e _ _).mp a,b},λxf=>by let(zs,a,b):=xf;show{zs,(e _ _).mpr a,b}⟩},λk h zs q=>x.no k h zs<|(e _ _).mpr q,x.inj}
def gE.mono{H0 H:Hp}{A:cr}{kvs:List 90}{R:Rl}{n m:Nat}(x:gE P w K H0 H A kvs R n)(e:n<=m):gE P w K H0 H A kvs R m:=
 {x.at_,aS x.len e,x.own,λk v h=>by let(d,inner,h1,h2,h3,h4,h5,h6,h7,h8):=x.vals k v h;show{d,inner,h1,h2,h3,h4,aS h5 e,h6,h7,h8},x.no,x.inj}
def gE.move{H0 H H':Hp}{A:cr}{kvs:List 90}{R:Rl}{n:Nat}(x:gE P w K H0 H A kvs R n)(t:bu H H')(e:∀b,H0 b=none->(b=A\/∃k,valN kvs k>-b)->H' b=H b):gE P w K H0 H' A kvs R n:=
 {x.at_.tp t<|e A x.own<|.inl 9,x.len,x.own,λk v h=>by let(d,inner,h1,h2,h3,h4,h5,h6,h7,h8):=x.vals k v h;show{d,inner,h1,h2,h3,h4.tp t<|e d h3<|.inr {k,by rw[h,h1]},h5,h6,h7,h8},x.no,x.inj}
def gE.aep{H0 H:Hp}{A b p:cr}{kvs:List 90}{R:Rl}{n:Nat}{k:NK}(x:gE P w K H0 H A kvs R n)(hn:valN kvs k=none)(hk:gm K H k b)(hp:H p>.dK [])(h0:H0 p=none)(pA:p≠A)(pd:∀k' d,valN kvs k'>.ref d->d≠p):
  gE P w K H0 (upd H A 70) A (putN kvs k b (-p)) R (n+1):=by
 have t:bu H (upd H A 70):=bu.upd x.at_.kY;show{x.at_.put hk,aS Be<|rS x.len,x.own,λk' v h=>?_,λk' h=>?_,λk1 k2 d h1 h2=>?_}
 ·rw[ve]at h;by_cases c:k'=k;·rw[aL c]at h;cases h;show{p,[],9,pA,h0,(sv hp).tp t (by rw[aC pA]),aF _,75,λq hq=>(by cases hq),λj=>⟨λzq=>by let(q,hq,__):=zq;show(by cases hq),λxf=>by let(zs,hz,__):=xf;show absurd (c▸hz)<|x.no k hn zs⟩}
  rw[az c]at h;let(d,inner,h1,h2,h3,h4,h5,h6,h7,h8):=x.vals k' v h;show{d,inner,h1,h2,h3,h4.tp t (by rw[aC h2]),lZ h5,h6,h7,h8}
 ·rw[ve]at h;by_cases c:k'=k;·rw[aL c]at h;cases h
  rw[az c]at h;show x.no k' h
 rw[ve]at h1 h2;by_cases c1:k1=k
 ·by_cases c2:k2=k;·rw[c1,c2]
  rw[aL c1]at h1;rw[az c2]at h2;cases h1;show absurd rfl (pd k2 _ h2)
 by_cases c2:k2=k;·rw[az c1]at h1;rw[aL c2]at h2;cases h2;show absurd rfl (pd k1 _ h1)
 rw[az c1]at h1;rw[az c2]at h2;show x.inj k1 k2 d h1 h2
def gE.put{H0 H:Hp}{A c d:cr}{kvs:List 90}{R:Rl}{n:Nat}{k:NK}{zs:Aag}(x:gE P w K H0 H A kvs R n)(hv:valN kvs k>-d)(hc:gm K H (d8 zs) c):
  ∃inner,eP P w K H d inner/\inner.length<=n/\H0 d=none/\d≠A/\gE P w K H0 (upd H d<|.ext<|DN P w d 111) A kvs (λk' z'=>R k' z'\/(k'=k/\z'=zs)) (n+1):=by
 let(d',inner,e,h2,h3,h4,h5,h6,h7,h8):=x.vals k _ hv;cases e;have t:bu H (upd H d<|.ext<|DN P w d 111):=bu.upd h4.kY;show{inner,h4,h5,h3,h2,x.at_.tp t (by rw[aC<|bN h2]),lZ x.len,x.own,λk' v h=>?_,λk' h Aa q=>?_,x.inj}
 ·by_cases ck:k'=k
  ·subst ck;rw[hv]at h;cases h;show{d,_,9,h2,h3,h4.put hc,aS Be<|rS h5,TH h6,λq hq=>?_,λj=>?_}
   ·unfold putN at hq;split at hq
    ·let(q0,hq0,rfl):=aG.mp hq;split;·rfl
     show h7 q0 hq0
    rcases bG.mp hq with hq|hq;·show h7 q hq
    rw[aw.mp hq]
   rw[WB,h8 j];constructor
   ·ext(rfl|⟨z',a,b⟩);·show{zs,.inr ⟨rfl,rfl⟩,9}
    show{z',.inl a,b}
   ext⟨z',a|⟨_,a⟩,b⟩;·show .inr ⟨z',a,b⟩
   show .inl (by rw[b,a])
  let(d1,aeH,e1,g2,g3,g4,g5,g6,g7,g8):=x.vals k' v h;have nd:d1≠d:=λe=>ck<|x.inj k' k d (by rw[h,e1,e]) hv;show{d1,aeH,e1,g2,g3,g4.tp t (by rw[aC nd]),lZ g5,g6,g7,λj=>(g8 j).trans ⟨λzq=>by let(Aa,a,b):=zq;show{Aa,.inl a,b},λxf=>by let(Aa,a,b):=xf;show{Aa,a.elim id λq=>absurd q.1 ck,b}⟩}
 rcases q with q|⟨q,_⟩;·show x.no k' h Aa q
 rw[q,hv]at h;cases h
def uo(H H':Hp):Prop:=∀b C dx fs,H b>.ins C dx fs->H' b>.ins C dx fs
def uo.refl(H:Hp):uo H H:=λ_ _ _ _ h=>h
def uo.trans{H H1 H2:Hp}(a:uo H H1)(b:uo H1 H2):uo H H2:=λx c d f h=>b x c d f<|a x c d f h
def uo.same{H H':Hp}(s:aI H H'):uo H H':=λb _ _ _ h=>s _ _ h
def uo.dict{H:Hp}{d:cr}{kvs:List 90}{o:HO}(h:eP P w K H d kvs):uo H (upd H d o):=λb c dx fs q=>by
 have:b≠d:=λe=>by rw[e]at q;rcases h.1 with h|⟨_,h⟩<;>rw[h]at q<;>cases q
 rw[aC this];show q
structure Jy(P:io)(w:mo)(K:Frag)(H0 H H':Hp)(A:cr)(R:Rl)(n:Nat):Prop where
 sm:aI H0 H'
 tp:bu H H'
 is:uo H H'
 ai:∃kvs,gE P w K H0 H' A kvs R n
def gE.same{H0 H H':Hp}{A:cr}{kvs:List 90}{R:Rl}{n:Nat}(x:gE P w K H0 H A kvs R n)(s:aI H H'):gE P w K H0 H' A kvs R n:=x.move (bu.same s) λq _ h=>by
 rcases h with rfl|⟨k',h⟩;·let(u,hu):=x.at_.some;rw[hu,s _ _ hu]
 let(d',__,e',__,__,h4,__):=x.vals k' _ h;cases e';let(u,hu):=h4.some;rw[hu,s _ _ hu]
def ac4{H0 H:Hp}{A b c p:cr}{kvs:List 90}{R R':Rl}{n:Nat}{k:NK}{zs:Aag}{Nx:Hp->Prop}(x:gE P w K H0 H A kvs R n)(sm:aI H0 H)(hk:gm K H k b)(hc:gm K H (d8 zs) c)(hn:n+2<10000000)(hp:H p>.dK [])(h0:H0 p=none)(pA:p≠A)(pd:∀k' d,valN kvs k'>.ref d->d≠p)
  (hR:∀k' z',R' k' z'↔R k' z'\/(k'=k/\z'=zs)) (nx:∀H',Jy P w K H0 H H' A R' (n+2)->Nx H'):
  (∀v,valN kvs k>v->∃a inner,v=-a/\eP P w K H a inner/\gm K H (d8 zs) c/\inner.length<10000000/\Nx (upd H a<|.ext<|DN P w a 111))/\
  (valN kvs k=none->∃inner,eP P w K (upd H A 70) p inner/\gm K (upd H A 70) (d8 zs) c/\inner.length<10000000/\
   Nx (upd (upd H A 70) p<|.ext<|DN P w p 111)):=by
 have own:∀{d:cr}{o:HO}{H1:Hp},aI H0 H1->H0 d=none->aI H0 (upd H1 d o):=λ{d o H1} s h q u e=>by rw[aC<|a9 e h];show s _ _ e
 show{λv hv=>?_,λhv=>?_};·let(a,__,rfl,__):=x.vals k v hv;let(inner,g1,g2,g3,g4,g5):=x.put hv hc;show{a,inner,9,g1,hc,8,nx _ {own sm g3,bu.upd g1.kY,uo.dict g1,kvs,(g5.congr λk' z'=>(hR k' z').symm).mono ∅}}
 have y:=x.aep hv hk hp h0 pA pd;have t1:bu H (upd H A 70):=bu.upd x.at_.kY;have Xe:=qp hc t1;let(inner,g1,g2,g3,g4,g5):=y.put (by rw[ve,aL rfl]) Xe;show{inner,g1,Xe,8,nx _ {own (own sm x.own) g3,t1.trans<|bu.upd g1.kY,(uo.dict x.at_).trans<|uo.dict g1,_,g5.congr λk' z'=>(hR k' z').symm}}
def VF{H0 H H2:Hp}{A b c p:cr}{xs:Aan}{kvs:List 90}{R R':Rl}{n:Nat}{k:NK}{zs:Aag}{Nx:Hp->Prop}(oS:aI H0 H2)(CK:bu H H2)(wb:uo H H2)(x:gE P w K H0 H2 A kvs R n)(hb:H2 b=none)(hp:upd H2 b (.tup xs) p=none)
  (zK:∀H3,aZ K H3 b xs->gm K H3 k b) (hc:gm K H2 (d8 zs) c) (hn:n+2<10000000) (hR:∀k' z',R' k' z'↔R k' z'\/(k'=k/\z'=zs)) (nx:∀H',Jy P w K H0 H H' A R' (n+2)->Nx H'):
  eP P w K 60 A kvs/\gm K 60 k b/\kvs.length<10000000/\
  (∀v,valN kvs k>v->∃a inner,v=-a/\eP P w K 60 a inner/\gm K 60 (d8 zs) c/\inner.length<10000000/\Nx (upd 60 a<|.ext<|DN P w a 111))/\
  (valN kvs k=none->∃inner,eP P w K (upd 60 A 70) p inner/\gm K (upd 60 A 70) (d8 zs) c/\inner.length<10000000/\
   Nx (upd (upd 60 A 70) p<|.ext<|DN P w p 111)):=by
 have s3:aI H2 (upd H2 b<|.tup xs):=aB hb _;have s4:aI (upd H2 b<|.tup xs) 60:=aB hp _;have vo:=s3.trans s4;have LG:aZ K 60 b xs:=aZ.of<|s4 _ _ au;have Ly:upd (upd H2 b<|.tup xs) p 34 p>.dK []:=au;have p2:H2 p=none:=by
  cases e:H2 p with
  |none=>rfl
  |some u=>rw[s3 _ _ e]at hp;cases hp
 have p0:H0 p=none:=by
  cases e:H0 p with
  |none=>rfl
  |some u=>rw[oS _ _ e]at p2;cases p2
 let(uA,hA):=x.at_.some;have pd:∀k' d,valN kvs k'>.ref d->d≠p:=λk' d h e=>by let(d',__,e',__,__,h4,__):=x.vals k' _ h;cases e';let(u,hu):=h4.some;rw[e,p2]at hu;cases hu
 have x4:=x.move (bu.same vo) λq _ h=>by
  rcases h with rfl|⟨k',h⟩;·rw[hA,vo _ _ hA]
  let(d',__,e',__,__,h4,__):=x.vals k' _ h;cases e';let(u,hu):=h4.some;rw[hu,vo _ _ hu]
 let(q1,q2):=ac4 x4 (oS.trans vo) (zK _ LG) (qp hc<|bu.same vo) hn Ly p0 (λe=>by rw[e,hA]at p2;cases p2) pd hR λH' pt=>nx H' {pt.sm,CK.trans<|(bu.same vo).trans pt.tp,wb.trans<|(uo.same vo).trans pt.is,pt.ai};show{x4.at_,zK _ LG,gX x4.len ∅,q1,q2}
def ZL(k:NK)(a:One):Prop:=k=Av a.1 1\/k=yO a.1 1 0 a.2
def hits(L:List One):Rl:=λk zs=>∃a∈L,ZL k a/\zs=[a.2]
structure Own(K:Frag)(C:cr):Prop where
 c:AX K C
 Pu:mI K C "aims"
 SM:mI K C "vain"
def EB(a:One):Prop:=PyData.strOk a.1=true/\xW a.2
inductive aaK(P:io)(w:mo)(K:Frag)(C:cr)(vs:Aan)(H:Hp)(Q:VK)(_x3:XK):Prop
 |mk (self t dx A:cr) (fs:List (pi×V)) (ys:Aan) (M:List One) (kvs:List (NK×cr×V)) (H0:Hp) (_:vs=[-self,-t]) (_:H self>.ins C dx fs) (_:fs.lookup ("aims":pi)>-A) (_:fs.length<1000) (_:H0 self=none) (_:aZ K H t ys) (_:kG K H ys M) (_:M.length<=100) (_:(∀a∈M,EB a)) (_:aI H0 H) (_:gE P w K H0 H A kvs (hits []) 0) (_:∀H' DC B,aI H0 H'->bu H H'->H0 B=none->H' self>.ins C dx (fZ "vain" (-B) fs)->H' B>.dK []->gE P w K H0 H' A DC (hits M) (4*M.length)->A≠B->(∀k d,valN DC k>.ref d->d≠B)->Q .cx H')
def xk:bL ["self","atoms","name","terms","place","term"] ["self","atoms"] (bo Q3):=fS 76
def aei{f:cr}{fd:ut}(F:dh K "add" "MapSearch.add" Q3 f fd)(T:Txt K mg)(O:Own K C):cm P w K mg base dZ 2 f fd ["self","atoms"] (aaK P w K C):=by
 show F.ok xk 85;let(self,t,dx,A,fs,ys,M,kvs,H0,rfl,hs,lk,lf,h0s,ht,lQ,lM,fM,sm,ax,k):=h;have hN:=Bw hr;show{_,ay (fG bF 9 (jY<|pv 1) (iE 9<|bD (ic 2 xk)<|bD (ic 3 xk) d5)<|ay (xr hN (Bh hN (js (pv 0) 9) (dF<|cj (pv 2)<|bh cW 9 T.eZ bz<|bB<|pv 3) iL ⟨rfl,rfl,rfl,rfl⟩) (pv 3) qm 9)<|aP<|fG bF 9 (GK 9 T.qZ<|bB<|pv 3) (iE 9<|bD (ic 4 xk)<|bD (ic 5 xk) d5)<|aP<|xr hN (Bh hN (js (pv 0) 9) (dF<|iR (pv 2)<|pf (bh cW 9 T.eZ bz<|bB<|pv 3) (pv 4)<|pv 5) iL ⟨rfl,rfl,rfl,rfl⟩) (pv 3) qm 9)<|aP<|sX (pv 0) iL 9,?_}
 show{_,9,t,9,⟨_,ht⟩,uP (λi Z H2=>∃x2 x3 x4 x5:Aao,Z=[some (-self),some (-t),x2,x3,x4,x5]/\i<=M.length/\Jy P w K H0 H H2 A (hits<|M.take i) (4*i)) {_,_,_,_,9,aF _,sm,bu.refl H,uo.refl H,kvs,ax} (λi Z H2 hi zq=>by let(__,__,__,__,__,__,pt):=zq;show fA ht pt.tp) ?_ ?_}
 ·ext i x Z H2 D1 hx ⟨_,_,_,_,rfl,hi,oS,CK,wb,Oh,Pp⟩ iy _;let(a,ha,ab,ac,rfl,air,OU):=Paired.at lQ hx;have b6:=(ar.mp ha).1;let(f0,__,__,fz):=fM a<|aM ha;show{ab,_,9,fA air CK,9,_,_,9,_,_,9,9,?_};have aeD:∀{H3:Hp},bu H H3->gm K H3 (d8 [a.2]) ac:=λtp=>xD (fA OU tp) λz hz=>aw.mp hz▸fz
  let Rj:Nat->Rl:=λj k' z'=>hits (M.take i) k' z'\/(z'=[a.2]/\(k'=Av a.1 1\/j≠0/\k'=yO a.1 1 0 a.2))
  show CP λNX hNX=>?_;have go:∀(x4 x5:Aao)(H3:Hp),Jy P w K H0 H H3 A (Rj 0) (4*i+2)->NX [some (-self),some (-t),some<|.str a.1,some (-ac),x4,x5] H3:=λx4 x5 H3 pt=>by
   show hNX _ _ ?_;show{_,9,ac,9,{_,fA OU pt.tp},LH (λj Z H4=>∃x4 x5:Aao,Z=[some (-self),some (-t),some<|.str a.1,some (-ac),x4,x5]/\Jy P w K H0 H H4 A (Rj j) (4*i+2+2*j)) ⟨_,_,rfl,pt⟩ (λj Z H4 hj zq=>by let(__,__,__,pt4):=zq;show fA OU pt4.tp) ?_ ?_}
   ·ext j y q Z H4 hy ⟨_,_,rfl,sf,tp4,is4,kv4,ax4⟩ hq;let(e,rfl):=gC (ao _) hy;cases e;have s5:aI H4 (upd H4 q<|.tup [.int ((0:Nat):Int),.str a.2]):=aB hq _;show{q,_,9,aZ.of au,9,_,_,9,_,_,9,9,?_};have Q2:=sf.trans s5;have MK:=tp4.trans<|bu.same s5;have is5:=is4.trans<|uo.same s5;have ax5:=ax4.same s5;show{_,9,self,C,dx,fs,_,9,is5 _ _ _ _ hs,O.c,O.Pu,lk,A,kv4,9,ax5.at_,_,9,_,9,_,_,9,.inr {_,fA OU MK,9},_,9,_,9,(by change 4<=dL;decide),λb hb p hp=>?_};have hR:∀k' z',Rj (0+1) k' z'↔Rj 0 k' z'\/(k'=yO a.1 1 0 a.2/\z'=[a.2]):=λk' z'=>by
     constructor
     ·ext(h|⟨e,h|⟨_,h⟩⟩);·show .inl (.inl h)
      ·show .inl<|.inr {e,.inl h}
      show .inr ⟨h,e⟩
     ext((h|⟨e,h|⟨h,_⟩⟩)|⟨h,e⟩);·show .inl h
     ·show .inr {e,.inl h}
     ·show absurd rfl h
     show .inr {e,.inr {gW _,h}}
    let(q1,q2,q3,q4,q5):=VF Q2 MK is5 ax5 hb hp (λH3 h=>Ol h f0 fz) (aeD MK) ∅ hR (λH' pt=>pt);show{b,kv4,yO a.1 1 0 a.2,9,q1,q2,q3,λv hv=>?_,λhv=>?_};·let(a',inner,rfl,r1,r2,r3,r4):=q4 v hv;show{_,9,a',ac,inner,d8 [a.2],9,9,r1,r2,r3,_,_,9,r4}
    let(inner,r1,r2,r3,r4):=q5 hv;show{_,9,p,ac,inner,d8 [a.2],9,9,r1,r2,r3,_,_,9,r4}
   ext Z H4 ⟨_,_,rfl,sf,tp4,is4,kv4,ax4⟩;show iy _ _ {_,_,_,_,9,b6,sf,tp4,is4,kv4,(ax4.congr λk' z'=>?_).mono (by change 4*i+2+2*1<=4*(i+1);lia)};rw[bW,ha];constructor
   ·ext(⟨b,hb,h⟩|⟨e,h⟩);·show{b,dD _ hb,h}
    show{a,b8 _ 75,h.imp id (·.2),e}
   ext⟨b,hb,h,e⟩;rcases bG.mp hb with hb|hb;·show .inl ⟨b,hb,h,e⟩
   have gf:b=a:=by simpa using hb
   subst gf;show .inr {e,h.imp id λh=>{gW _,h}}
  show{_,9,self,C,dx,fs,_,9,wb _ _ _ _ hs,O.c,O.Pu,lk,A,Oh,9,Pp.at_,_,9,_,9,_,_,9,.inr {_,fA OU CK,9},95,λb hb p hp=>?_};let(q1,q2,q3,q4,q5):=VF oS CK wb Pp hb hp (λH3 h=>Om h f0) (aeD CK) ∅ (λk' z'=>{λh=>h.imp id λ⟨e1,e2⟩=>{e2.elim id λ⟨h,_⟩=>absurd rfl h,e1},λh=>h.imp id λ⟨e1,e2⟩=>{e2,.inl e1}}) (λH' pt=>go _ _ H' pt);show{b,Oh,Av a.1 1,9,q1,q2,q3,λv hv=>?_,λhv=>?_};·let(a',inner,rfl,r1,r2,r3,r4):=q4 v hv;show{_,9,a',ac,inner,d8 [a.2],9,9,r1,r2,r3,r4}
  let(inner,r1,r2,r3,r4):=q5 hv;show{_,9,p,ac,inner,d8 [a.2],9,9,r1,r2,r3,r4}
 ext Z H2 ⟨_,_,_,_,rfl,hi,oS,CK,wb,Oh,Pp⟩;rw[(aQ lQ),bq]at Pp;ext B hB;have s3:aI H2 (upd H2 B 34):=aB hB _;have hB3:upd H2 B 34 B>.dK []:=au;have nB:∀{b:cr}{DC:List 90},eP P w K H2 b DC->b≠B:=λ{b DC} h e=>by let(u,hu):=h.some;rw[e,hB]at hu;cases hu
 have dB:∀k d,valN Oh k>.ref d->d≠B:=λk' d h=>by let(d',__,e',__,__,h4,__):=Pp.vals k' _ h;cases e';show nB h4
 have ax3:=Pp.same s3;generalize (upd H2 B 34)=H3 at s3 hB3 ax3⊢;have DL:=s3 _ _<|wb _ _ _ _ hs;show{_,9,self,C,dx,fs,9,DL,O.c,O.SM,lf,?_};have t4:bu H3 (upd H3 self<|.ins C dx<|fZ "vain" (-B) fs):=bu.upd<|ph DL;have nd:∀{b:cr}{DC:List 90},eP P w K H3 b DC->b≠self:=λ{b DC} h e=>h.aaP (C:=C) (dx:=dx) (l:=fs)<|e▸DL;show k _ Oh B (λb u h=>?_) (CK.trans<|(bu.same s3).trans t4) (oS.free hB) au ?_ (ax3.move t4 λb _ h=>?_) (nB Pp.at_) dB;·rw[aC<|a9 h h0s];show s3 _ _<|oS _ _ h
 ·rw[aC (λe=>by rw[e,DL]at hB3;cases hB3)];show hB3
 show aC ?_;rcases h with rfl|⟨k',h⟩;·show nd ax3.at_
 let(d',__,e',__,__,h4,__):=ax3.vals k' _ h;cases e';show nd h4
structure SA(P:io)(w:mo)(K:Frag)(C:cr)(H:Hp)(me A B dx:cr)(kvs:List 90)(L:List One):Prop where
 ins:H me>.ins C dx [("aims",-A),("vain",-B)]
 ai:gE P w K (λ_=>none) H A kvs (hits L) 1000
 b0:H B>.dK []
 ab:A≠B
 db:∀k d,valN kvs k>.ref d->d≠B
def gE.free{H0 H:Hp}{A:cr}{kvs:List 90}{R:Rl}{n:Nat}(x:gE P w K H0 H A kvs R n):gE P w K (λ_=>none) H A kvs R n:={x.at_,x.len,rfl,λk v h=>by let(d,inner,h1,h2,h3,h4):=x.vals k v h;show⟨d,inner,h1,h2,rfl,h4⟩,x.no,x.inj}
def SA.same{H H':Hp}{self A B dx:cr}{kvs:List 90}{L:List One}(x:SA P w K C H self A B dx kvs L)(s:aI H H'):SA P w K C H' self A B dx kvs L:={s _ _ x.ins,x.ai.same s,s _ _ x.b0,x.ab,x.db}
inductive Mq(P:io)(w:mo)(K:Frag)(C:cr)(vs:Aan)(H:Hp)(Q:VK)(_x3:XK):Prop
 |mk (self t dx:cr) (ys:Aan) (L:List One) (H0:Hp) (_:vs=[-self,-t]) (_:H self>.ins C dx []) (_:H0 self=none) (_:aZ K H t ys) (_:kG K H ys L) (_:L.length<=100) (_:(∀a∈L,EB a)) (_:aI H0 H) (_:∀H' A B kvs,aI H0 H'->H0 B=none->SA P w K C H' self A B dx kvs L->Q .cx H')
def yA:bL ["self","atoms"] ["self","atoms"] (bo lE):=fS 76
def ab7{f:cr}{fd:ut}(F:dh K "__init__" "MapSearch.__init__" lE f fd)(T:Txt K mg)(O:Own K C)(ac7:jH P w K mg base C 2 "add" ["self","atoms"] (aaK P w K C)):cm P w K mg base dZ 3 f fd ["self","atoms"] (Mq P w K C):=by
 show F.ok yA 85;let(self,t,dx,ys,L,H0,rfl,hs,h0s,ht,lQ,lL,fL,sm,k):=h;show{_,ay (sX (pv 0) iL 9)<|ay (sX (pv 0) iL 9)<|aP<|g9<|B8 O.c ac7 hr (pv 0) 73 ∅,?_}
 have own:∀{o:HO}{H1:Hp},aI H0 H1->aI H0 (upd H1 self o):=λ{o H1} s q u e=>by rw[aC<|a9 e h0s];show s _ _ e
 ext A hA;have s1:aI H (upd H A 34):=aB hA _;have hA1:upd H A 34 A>.dK []:=au;have sA:A≠self:=λe=>by rw[e,hs]at hA;cases hA
 have m1:=sm.trans s1;generalize (upd H A 34)=H1 at s1 hA1 m1⊢;show{_,9,self,C,dx,[],9,s1 _ _ hs,O.c,O.Pu,7,?_};have t2:bu H1 (upd H1 self<|.ins C dx<|fZ "aims" (-A) []):=bu.upd<|ph<|s1 _ _ hs;have m2:aI H0 (upd H1 self<|.ins C dx<|fZ "aims" (-A) []):=own m1;have k7:upd H1 self (.ins C dx<|fZ "aims" (-A) []) self>.ins C dx [("aims",-A)]:=au;have hA2:upd H1 self (.ins C dx<|fZ "aims" (-A) []) A>.dK []:=aC sA▸hA1;ext B hB;rename_i B hB H3 s3 _e0;show{_,9,self,C,dx,_,9,s3 _ _ k7,O.c,O.SM,by change 1<1000;decide,?_};have t4:bu H3 (upd H3 self<|.ins C dx<|fZ "vain" (-B) [("aims",-A)]):=bu.upd<|ph<|s3 _ _ k7;have m4:aI H0 (upd H3 self<|.ins C dx<|fZ "vain" (-B) [("aims",-A)]):=own<|m2.trans s3;have hs4:upd H3 self (.ins C dx<|fZ "vain" (-B) [("aims",-A)]) self>.ins C dx [("aims",-A),("vain",-B)]:=by rw[au];rfl
 have hA4:upd H3 self (.ins C dx<|fZ "vain" (-B) [("aims",-A)]) A>.dK []:=aC sA▸s3 _ _ hA2;have t04:=(bu.same s1).trans<|t2.trans<|(bu.same s3).trans t4;show{_,9,self,dx,_,9,hs4,9,_,9,self,t,dx,A,_,ys,L,[],H0,9,hs4,9,by change 2<1000;decide,h0s,fA ht t04,lQ.tp t04,lL,fL,m4,{sv hA4,aF _,sm.free hA,λk v h=>(by cases h),λk _ zs zq=>by let(a,ha,__):=zq;show(by cases ha),λk k' d h=>(by cases h)},λH5 kvs B' m5 t5 B0 hs5 hB5 ax5 ab db=>k H5 A B' kvs m5 B0 {hs5,ax5.free.mono ∅,hB5,ab,db}}
def gE.got{H0 H:Hp}{A p:cr}{kvs:List 90}{R:Rl}{n:Nat}(x:gE P w K H0 H A kvs R n)(hp:H p>.dK [])(k:NK):∃d inner,(valN kvs k).getD (-p)=-d/\eP P w K H d inner/\(inner.map (·.1)).Nodup/\∀j,(∃q∈inner,q.1=j)↔∃zs,R k zs/\j=d8 zs:=by
 cases e:valN kvs k with
 |some v=>
  let(d,inner,rfl,__,__,h4,__,h6,__,h8):=x.vals k v e;show⟨d,inner,rfl,h4,h6,h8⟩
 |none=>show{p,[],9,sv hp,75,λj=>⟨λzq=>by let(q,hq,__):=zq;show(by cases hq),λxf=>by let(zs,hz,__):=xf;show absurd hz<|x.no k e zs⟩}
def V5(bs:Aag)(z:pi):Bool:=bs.all λy=>decide (z=y)
def SH(L:List One)(t:pi)(bs:Aag)(inner:List 90):Prop:=(inner.map (·.1)).Nodup/\(∀p∈inner,∃z,p.1=d8 [z]/\(t,z)∈L)/\∀z,(t,z)∈L->V5 bs z=true->∃p∈inner,p.1=d8 [z]
def O4{L:List One}{t:pi}{bs:Aag}{inner:List 90}{k:NK}(nd:(inner.map (·.1)).Nodup)(h:∀j,(∃q∈inner,q.1=j)↔∃zs,hits L k zs/\j=d8 zs)(hk:k=Av t 1\/∃y∈bs,k=yO t 1 0 y):SH L t bs inner:=by
 show{nd,λp hp=>?_,λz hz ok=>?_}
 ·obtain⟨zs,⟨b,hb,hit,rfl⟩,e⟩:=(h p.1).mp ⟨p,hp,rfl⟩;have e1:t=b.1:=by
   rcases hk with rfl|⟨y,_,rfl⟩<;>rcases hit with hit|hit;·show(ach.mp hit).1
   ·show absurd hit aeo
   ·show absurd hit.symm aeo
   show(acg.mp hit).1
  show{b.2,e,e1▸hb}
 show(h<|d8 [z]).mpr {[z],{(t,z),hz,?_,9},9};rcases hk with rfl|⟨y,hy,rfl⟩;·show .inl rfl
 show .inr (by rw[aV<|b9.mp ok y hy])
theorem B6{L:List One}{t:pi}:∀{inner:List 90},(∀p∈inner,∃z,p.1=d8 [z]/\(t,z)∈L)->∃rs:Aag,inner.map (·.1)=rs.map (λz=>d8 [z])/\∀z∈rs,(t,z)∈L
 |[],_=>{[],9,λ_ h=>by cases h}
 |p::r,h=>by
  let(z,e,h1):=h p av;let(rs,e',h'):=B6 λq hq=>h q<|aA _ hq;show{z::rs,by rw[bI,bI,e,e'],λy hy=>?_};rcases aJ.mp hy with rfl|hy;·show h1
  show h' y hy
abbrev BAt(K:Frag)(H:Hp):Aan->Aag->Prop:=Paired λ(v:V)(y:pi)=>∃q,v=-q/\aZ K H q [.int 0,.str y]
def BAt.tp{H H':Hp}{ys:Aan}{bs:Aag}(h:BAt K H ys bs)(t:bu H H'):BAt K H' ys bs:=Paired.imp' (λ_ _ zq=>by let(q,e,hq):=zq;show{q,e,fA hq t}) h
inductive Vi(P:io)(w:mo)(K:Frag)(C:cr)(vs:Aan)(H:Hp)(Q:VK)(_x3:XK):Prop
 |mk (self A B dx d:cr) (kvs:List (NK×cr×V)) (L:List One) (v:V) (a:One) (g:km) (_:vs=[-self,v,-d]) (_:SA P w K C H self A B dx kvs L) (_:zl K H v a) (_:EB a) (_:L.length<=100) (_:H d>.dK (gK g)) (_:(∀q∈g,PyData.strOk q.2=true)) (_:∀p ys zs H',aI H H'->H p=none->H' p>.lst ys->d9 K H' ys (mP zs)->zs.length<=L.length->(∀z,z∈zs↔(a.1,z)∈L/\(dC.get g a.2=none\/dC.get g a.2>z))->Q (-p) H')
def aeg{g:km}{x z:pi}:V5 (dC.get g x).toList z=true↔(dC.get g x=none\/dC.get g x>z):=by
 cases e:dC.get g x with
 |none=>show{λ_=>.inl rfl,λ_=>9}
 |some y=>
  change([y].all λy=>decide (z=y))=true↔_;simp[eq_comm]
def iD:bL ["self","atom","given","name","terms","fixed","bound","found","place","term","closer"] ["self","atom","given"] (bo FO):=fS 76
def TC{f:cr}{fd:ut}(F:dh K "aims_of" "MapSearch.aims_of" FO f fd)(T:Txt K mg)(O:Own K C)(gY:bY P w K mg base 2 "is_unknown" ["thing"] A8):cm P w K mg base dZ 3 f fd ["self","atom","given"] (Vi P w K C):=by
 show F.ok iD 85;obtain⟨self,A,B,dx,d,kvs,L,v,a,g,rfl,se,⟨ab,ac,rfl,Ci,yV⟩,⟨f0,ua⟩,lL0,hd,gs,k⟩:=h;have hu:=oE hr;have hN:=Bw hr;show{_,ay (vp (pv 1)<|iE 9<|bD (ic 3 iD)<|bD (jw (i:=4) iD.nd 9<|Or.inr 9) d5)<|ay (Mb (j:=5) iD.nd 9 9 9 (j7 (more:=["term"]) (fs:=["given"]) (fr:=[2])) (GK 9 T.qZ<|bB<|pv 4) (λ_ _ _ _=>qj (n:=2) 9 93) (λ_ _ _ _=>PW.pt<|Mt (Ar<|Il hu (pv 1)<|pv 2)<|Ig<|sW<|h9<|cl gY hr 73) 68)<|ay (mx (i:=6) iD.nd 9 (Or.inr 9)<|hG 9 (cA (fs:=["given","terms"]) (fr:=[2,4])) (cN<|pv 5) (λ_ _ _ _=>dF<|cj (pv 0)<|GN hu (pv 1) (bV (iC) (pv 2) (pv 0) (λ_ _=>9)) (bV (iC) (pv 2) (pv 0) (λ_ _=>9)) ⟨rfl,rfl,rfl,rfl⟩))<|ay (cZ 07 iD<|yN hN (js (pv 0) 9) (dF<|cj (pv 3)<|bh cW 9 T.eZ bz<|bB<|pv 4) iL ⟨rfl,rfl,rfl,rfl⟩)<|ay (fG bF 9 (cN<|pv 6) (iE 9<|bD (ic 08 iD)<|bD (ic 09 iD) d5)<|ay (cZ 10 iD<|yN hN (js (pv 0) 9) (dF<|iR (pv 3)<|pf (bh cW 9 T.eZ bz<|bB<|pv 4) (pv 08)<|pv 09) iL ⟨rfl,rfl,rfl,rfl⟩)<|aP<|cZ 07 iD<|rN (cU Mv (bh Eb 9 T.eZ bz<|bB<|pv 10) (bh Eb 9 T.eZ bz<|bB<|pv 07)<|cL _) (pv 10)<|pv 07)<|aP<|bH<|NI<|Tp 9 (Jm (fs:=["bound"]) (fr:=[6])) (NG<|pv 07) (λ_ _ _ _=>h9<|bh (y7 9) 9 T.Mw He<|bB<|uH 9 (j7 (more:=["term"]) (fs:=["aim"]) (fr:=[0])) (GJ<|pv 1) (λ_ _ _ _=>qj (n:=2) 9 93) (λ_ _ _ _=>gu rG (bV (iC) (pv 2) (pv 0) (λ_ _=>9)) (pv 1)<|cL _)) 68,?_}
 obtain⟨bs,Sn⟩:∃bs,bs=(dC.get g a.2).toList:=⟨_,rfl⟩;have lbs:bs.length<=1:=by
  rw[Sn];cases dC.get g a.2;·show aF _
  show ao _
 show iq λR eR=>?_;show{_,9,ab,_,9,Ci,9,_,_,9,_,_,9,9,?_};show bT (T:=R) eR λR eR=>?_;show{_,9,ac,9,⟨_,yV⟩,Qo (λi zs H2=>aI H H2/\zs=if i=0 then[]else bs.map λ_=>V.int ((0:Nat):Int)) 86 {aI.refl H,9} (λi zs H2 hi ⟨s2,e⟩=>{bf yV s2,?_}) ?_ ?_}
 ·rw[e];split;·show aF _
  rw[ag];lia
 ·ext i x zs H2 q N hc ⟨s2,rfl⟩ hq nO;let(e,rfl):=gC (ao _) hc;cases e;have s3:aI H (upd H2 q<|.tup [.int ((0:Nat):Int),.str a.2]):=s2.trans<|aB hq _;show{_,9,_,9,d,_,9,jA.k (k:=Sum.inr a.2)<|s3 _ _ hd,_,9,?_};rw[vd,ji];cases eg:dC.get g a.2 with
  |some y=>
   show i8<|i8 {_,9,nO _ _ {s3,?_}};rw[Sn,eg];rfl
  |none=>
   show hU {_,9,a.2,9,aS ua.2.1 7,λH4 s4=>{_,9,?_}};rw[ua.1];show hU<|nO _ _ {s3.trans s4,?_};rw[Sn,eg];rfl
 ext zs H2 ⟨s2,rfl⟩ fx hfx;rw[az (by change ¬(1=0);decide)];have s3:aI H (upd H2 fx<|.lst (bs.map λ_=>V.int ((0:Nat):Int))):=s2.trans<|aB hfx _;have Gb:upd H2 fx (.lst (bs.map λ_=>V.int ((0:Nat):Int))) fx>.lst (bs.map λ_=>V.int ((0:Nat):Int)):=au;generalize (upd H2 fx<|.lst (bs.map λ_=>V.int ((0:Nat):Int)))=H3 at s3 Gb⊢;have lnv:(bs.map λ_=>V.int ((0:Nat):Int)).length=bs.length:=ag _;show bT (T:=R) eR λR eR=>?_;show{_,9,fx,9,{_,aT.of Gb},eJ (λi zs H4=>aI H3 H4/\i<=bs.length/\BAt K H4 zs (bs.take i)) (by rw[lnv];show cw ∅) {84,aF _,.nil} ?_ ?_ ?_};·ext i zs H4 hi ⟨s4,Ce,hb⟩;show{aT.of<|s4 _ _ Gb,?_};rw[aQ hb,aW];lia
 ·ext i x zs H4 N hc ⟨s4,Ce,hb⟩ nO;rw[aN]at hc;let(y,hy,rfl):=aY.mp hc;have b6:=(ar.mp hy).1;have eg:dC.get g a.2>y:=by have:=aM hy;rw[Sn]at this;show Fo.mp this
  have Nk:=s3.trans s4;have afl:=bf yV Nk;show fD {_,9,_,9,d,9,.inl {_,.inl<|Nk _ _ hd},_,9,_,9,_,_,_,_,9,9,afl,9,_,9,_,9,_,_,_,_,9,9,afl,9,_,jA.k (k:=Sum.inr a.2)<|Nk _ _ hd,95,λq hq=>?_};rw[vd,eg];show nO _ _ {s4.trans<|aB hq _,b6,?_};rw[bW,hy];show cY (hb.tp<|bu.same<|aB hq _)<|.cons {q,9,aZ.of au} .nil
 ext zs H4 ⟨s4,_,hb⟩ bl hbl;rw[lnv,bq]at hb;have s5:aI H (upd H4 bl<|.lst zs):=s3.trans<|s4.trans<|aB hbl _;have IX:upd H4 bl (.lst zs) bl>.lst zs:=au;have Ub:=hb.tp<|bu.same<|aB hbl<|.lst zs;generalize (upd H4 bl<|.lst zs)=H5 at s5 IX Ub⊢;have lzb:=aQ Ub;have M8:=se.same s5;have afk:=bf yV s5;show bT eR λR eR=>?_;show{_,9,self,C,dx,_,_,9,M8.ins,O.c,O.Pu,9,A,kvs,9,M8.ai.at_,_,9,_,9,_,_,9,.inr ⟨_,afk,rfl⟩,95,λb hb p hp=>?_};have s6:aI H5 106:=aB hb _;have hb6:aZ K 106 b [.str a.1,.int ((1:Nat):Int)]:=aZ.of au
 replace hp:upd H5 b (.tup [.str a.1,.int ((1:Nat):Int)]) p=none:=hp
 have s7:aI 106 (upd 106 p 34):=aB hp _;have hp7:upd 106 p 34 p>.dK []:=au;have HX:=s6.trans s7;have M7:=M8.same HX;have kb7:=Om (bf hb6 s7) f0;generalize hH7:(upd (upd H5 b<|.tup _) p 34)=H7;have e7:(upd 106 p 34)=H7:=hH7;rw[e7]at hp7 HX M7 kb7;let(dd,inner,e0,g1,g3,g4):=M7.ai.got hp7<|Av a.1 1;show{b,kvs,Av a.1 1,9,M7.ai.at_,kb7,?_};rw[e0];show bT (T:=R) eR λR eR=>?_;show{_,rfl,bl,rfl,{_,aT.of<|HX _ _ IX},iS (λi Z H8=>∃(dd:cr)(inner:List 90)(x8 x9 UW:Aao),Z=[some (-self),some (-ab),some (-d),some<|.str a.1,some (-ac),some (-fx),some (-bl),some (-dd),x8,x9,UW]/\aI H5 H8/\eP P w K H8 dd inner/\SH L a.1 bs inner)
  {dd,inner,_,_,_,9,HX,g1,O4 g3 g4<|.inl 9} (λi Z H8 _ zq=>by let(__,__,__,__,__,__,s8,__):=zq;show aT.of<|s8 _ _ IX) ?_ ?_}
 ·ext i x Z H8 D1 hx ⟨dd,inner,_,_,_,rfl,s8,g1,g2⟩ iy _;let(y,hy,q,rfl,hq):=Paired.at (Ub.tp<|bu.same s8) hx;have my:=aM hy;have se8:=M8.same s8;have hz:PyData.strOk y=true:=by rw[Sn]at my;show gs _ (dC.get_some<|Fo.mp my)
  show{q,_,9,hq,9,_,_,9,_,_,9,9,?_};show{_,9,self,C,dx,_,_,9,se8.ins,O.c,O.Pu,9,A,kvs,9,se8.ai.at_,_,9,_,9,_,_,9,.inr {_,bf afk s8,9},_,9,_,9,(by change 4<=dL;decide),λb hb p hp=>?_};have s9:aI H8 (upd H8 b 116):=aB hb _;have LD:aZ K (upd H8 b 116) b [.str a.1,.int ((1:Nat):Int),.int ((0:Nat):Int),.str y]:=aZ.of au
  replace hp:upd H8 b 116 p=none:=hp
  have jk:=aB hp 34;have ae5:upd (upd H8 b 116) p 34 p>.dK []:=au;have JN:=s9.trans jk;have YN:=se8.same JN;have aeE:=Ol (bf LD jk) f0 hz;have g10:=g1.tp (bu.same JN)<|kz g1<|JN _;generalize hHA:(upd (upd H8 b<|.tup _) p 34)=HA;have eA:(upd (upd H8 b 116) p 34)=HA:=hHA;rw[eA]at ae5 JN YN aeE g10;let(cd,cin,e1,c1,c3,c4):=YN.ai.got ae5<|yO a.1 1 0 y;show{b,kvs,yO a.1 1 0 y,9,YN.ai.at_,aeE,?_};rw[e1];show{_,9,cd,cin,9,c1,_,9,dd,inner,9,g10,_,_,9,9,_,9,?_};show hX (λc=>{_,9,iy _ _ {cd,cin,_,_,_,9,s8.trans JN,c1,O4 c3 c4<|.inr ⟨y,my,rfl⟩}}) (λc=>{_,9,iy _ _ {dd,inner,_,_,_,9,s8.trans JN,g10,g2}})
 ext Z H8 ⟨dd,inner,_,_,_,rfl,s8,g1,nd1,g2,g3⟩;let(rs,ers,hrs):=B6 g2;have lrs:inner.length=rs.length:=by have:=c8 List.length ers;rw[ag,ag]at this;show this
 have lL:rs.length<=L.length:=by
  have:=tE (m:=L.map λb=>d8 [b.2]) nd1 λj hj=>by let(p,hp,rfl):=aG.mp hj;let(z,e,h1):=g2 p hp;show aG.mpr {_,h1,e.symm}
  rw[ag,ag]at this;lia
 let(u,hu8):=g1.some;have Wg:∀o v,H8 dd≠some (.fR o v):=λo v e=>by rcases g1.1 with h|⟨_,h⟩<;>rw[h]at e<;>cases e
 have lkv:(inner.map λp=>((V.ref p.2.1,p.2.2):V×V)).length=inner.length:=ag _;have hb8:=s8 _ _ IX;show jg (T:=R) eR ?_;show{dd,Wg,_,9,dd,u,inner,9,hu8,g1,λo=>?_};have t9:bu H8 (upd H8 dd<|.fR o u):=bu.upd g1.kY;have bl9:upd H8 dd (.fR o u) bl>.lst zs:=by rw[aC (λe=>g1.sZ zs (by rw[<-e];show hb8))];show hb8
 have LD:=(Ub.tp<|bu.same s8).tp t9;have hd9:upd H8 dd (.fR o u) dd>.fR o u:=au;have back:SB dd H8 (upd H8 dd<|.fR o u):=SB.up;have aaU:=λp hp=>qp (g1.2 p hp) t9;generalize (upd H8 dd<|.fR o u)=H9 at t9 bl9 LD hd9 back aaU⊢;show Jl (λi ys nR=>aI H9 nR/\i<=rs.length/\d9 K nR ys (mP<|(rs.take i).filter<|V5 bs)) (by rw[lkv];show cw ∅) {84,aF _,.nil} ?_ ?_ ?_;·ext i ys nR hi ⟨jk,Ce,hr⟩;show{jk _ _ hd9,?_};rw[uC hr];have:=fk (V5 bs)<|rs.take i;rw[aW]at this;lia
 ·ext i kv ys nR N nM ⟨jk,Ce,hr⟩ nO;rw[aN]at nM;let(p,hp,rfl):=aY.mp nM;have R8:=(ar.mp hp).1;obtain⟨z,hz,ep⟩:∃z,rs[i]?>z/\p.1=d8 [z]:=by have:=c8 (λl=>l[i]?) ers;simp only[aN,hp,aq (show i<rs.length by lia),iA]at this;show{_,aq ∅,bR this}
  have hrl:i<rs.length:=by lia
  have aeU:=bf (Dv (by rw[<-ep];show(aaU p<|aM hp).1)) jk;show{_,9,bl,9,{_,aT.of<|jk _ _ bl9},BC (xs:=zs) (λj us wu=>aI nR wu/\j<=bs.length/\us=((bs.take j).map λy=>decide (z=y)).map V.bl) (cw ∅) {84,aF _,9} ?_ ?_ ?_};·ext j us wu hj ⟨C7,Ga,rfl⟩;show{aT.of<|C7 _ _<|jk _ _ bl9,?_};rw[ag,ag,aW];lia
  ·ext j v us wu M hy ⟨C7,Ga,rfl⟩ hM;let(y,hjz,q,rfl,hq):=Paired.at (LD.tp<|bu.same<|jk.trans C7) hy;have rj:=(ar.mp hjz).1;show{q,_,_,9,hq,fD {_,9,_,9,_,_,_,.str z,9,9,bf aeU C7,9,_,9,9,?_}};have e1:decide (V.str z=V.str y)=decide (z=y):=by simp
   rw[e1];show hM _ _ {C7,rj,?_};rw[q9 hjz,ba];rfl
  ext us wu ⟨C7,_,rfl⟩ q hq;rw[lzb,bq];show{q,_,9,80,_,9,?_};have e1:((bs.map λy=>decide (z=y)).all id)=V5 bs z:=by rw[Ez];rfl
  rw[e1];have Aq:aI nR (upd wu q<|.lst<|(bs.map λy=>decide (z=y)).map V.bl):=C7.trans<|aB hq _;show hX (λc=>{_,9,nO _ _ {jk.trans Aq,hrl,?_}}) (λc=>nO _ _ {jk.trans Aq,hrl,?_});·rw[zM hz,aL c];unfold mP;rw[ba];show cY (gG hr<|bu.same Aq)<|.cons {p.2.1,9,bf aeU Aq} .nil
  rw[zM hz,az c,cy];show gG hr<|bu.same Aq
 ext ys nR ⟨jk,_,hr⟩ l hl;rw[lkv,lrs,bq]at hr;have ld:l≠dd:=λe=>by rw[e,jk _ _ hd9]at hl;cases hl
 have h0:upd nR l (.lst ys) dd>.fR o u:=by rw[aC<|bN ld];show jk _ _ hd9
 show{o,u,h0,?_};have st:aI H (upd (upd nR l<|.lst ys) dd u):=λb v h=>by
  by_cases c:b=dd;·rw[c,au];have:=s8 _ _<|s5 _ _ h;rw[c,hu8]at this;show this
  have h10:=jk _ _<|back b v c<|s8 _ _<|s5 _ _ h;rw[aC c,aC<|a9 h10 hl];show h10
 have l0:H l=none:=by
  cases e:H l with
  |none=>rfl
  |some v=>rw[jk _ _<|back l v ld<|s8 _ _<|s5 _ _ e]at hl;cases hl
 have tpp:bu nR (upd (upd nR l<|.lst ys) dd u):=(bu.upd<|IA hl).trans (bu.upd λxs q=>by
  rcases q with q|⟨o',q⟩<;>rw[h0]at q;·cases q
  injection q with q;injection q with _ q;rw[q]at hu8;show g1.kY xs<|.inl hu8)
 show k l ys _ _ st l0 (aC ld▸au) (gG hr tpp) (aS (fk _ _) lL) λz=>?_;rw[bX,<-aeg,<-Sn];show{λh=>{hrs z h.1,h.2},λh=>{?_,h.2}};let(p,hp,e):=g3 z h.1 h.2;have:d8 [z]∈rs.map λz=>d8 [z]:=by rw[<-ers,<-e];show aG.mpr ⟨p,hp,rfl⟩
 let(y,hy,ey):=aG.mp this;rw[<-one_inj ey];show hy
def opK:Option pi->NK
 |none=>.cx
 |some z=>.key<|.inr z
def opV:Option pi->V
 |none=>.cx
 |some z=>.str z
def SN(a:One)(o:Option pi):NK:=.tup [.tup [.tup [.key<|.inr a.1,d8 [a.2]]],.tup [.tup [opK o]]]
def WE{H:Hp}{b b1 b2 b3:cr}{y:V}{a:One}{o:Option pi}(hb:aZ K H b [-b1,-b2])(h1:aZ K H b1 [y])(hy:zl K H y a)(h2:aZ K H b2 [-b3])(h3:aZ K H b3 [opV o])(g1:EB a)(g2:∀z,o>z->PyData.strOk z=true):gm K H (SN a o) b:=by
 let(p,t,rfl,hp,ht):=hy;show{?_,mK.good (n:=4) ?_ 7}
 ·unfold SN;show{b,_,9,hb,_,_,9,{b1,_,9,h1,_,_,9,{p,_,9,hp,_,_,9,9,_,_,9,Iz ht,9},9},_,_,9,{b2,_,9,h2,_,_,9,{b3,_,9,h3,_,_,9,?_,9},9},9};cases o with
  |none=>change NV K H .cx .cx;rw[NV]
  |some z=>change NV K H (.key<|.inr z) (.str z);rw[NV];rfl
 have up:∀{n m:Nat}{k:NK},mK n k->n<=m->mK m k:=λg l=>{g.1,aS g.2.1 l,aS g.2.2 l};show lJ λk hk=>?_;simp only[aJ,nh,xt]at hk;rcases hk with rfl|rfl
 ·show lJ λk hk=>?_;rw[aw.mp hk];show lJ λk hk=>?_;simp only[aJ,nh,xt]at hk;rcases hk with rfl|rfl;·show rP g1.1
  show Bx λz hz=>aw.mp hz▸g1.2.2.2
 show up (n:=2) (lJ λk hk=>?_) 7;rw[aw.mp hk];show lJ λk hk=>?_;rw[aw.mp hk];cases o with
 |none=>show ZT
 |some z=>show rP<|g2 z 9
def PB(L:List One)(g:km)(a:One):Prop:=∃z,(a.1,z)∈L/\(dC.get g a.2=none\/dC.get g a.2>z)
structure Ask(P:io)(w:mo)(K:Frag)(C:cr)(H:Hp)(me A B dx:cr)(kvs:List 90)(L:List One)(d:cr)(g:km):Prop where
 se:SA P w K C H me A B dx kvs L
 lL:L.length<=100
 fL:∀b∈L,PyData.strOk b.2=true
 hd:H d>.dK (gK g)
 gs:∀q∈g,PyData.strOk q.2=true
inductive MV(P:io)(w:mo)(K:Frag)(C:cr)(n:Nat)(vs:Aan)(H:Hp)(Q:VK)(_x3:XK):Prop
 |mk (self A B dx pl d:cr) (kvs:List (NK×cr×V)) (L:List One) (g:km) (a:One) (y:V) (_:vs=[-self,-pl,-d]) (_:n≠0) (_:Ask P w K C H self A B dx kvs L d g) (_:H pl>.lst [y]) (_:zl K H y a) (_:EB a) (_:g.length<600) (_:(∀H',SB B H H'->¬PB L g a->Q .cx H')) (_:∀d' z H',aI H H'->H' d'>.dK (gK<|oh g a.2 z)->(a.1,z)∈L->(dC.get g a.2=none\/dC.get g a.2>z)->Q (-d') H')
inductive uy(P:io)(w:mo)(K:Frag)(C:cr)(n:Nat)(vs:Aan)(H:Hp)(Q:VK)(_x3:XK):Prop
 |mk (self A B dx pl d:cr) (kvs:List (NK×cr×V)) (L:List One) (g:km) (as:List One) (ys:Aan) (_:vs=[-self,-pl,-d]) (_:(n=0->as=[])) (_:Ask P w K C H self A B dx kvs L d g) (_:H pl>.lst ys) (_:kG K H ys as) (_:(∀a∈as,EB a)) (_:as.length<=100) (_:g.length+as.length<=600) (_:Ap g as) (_:(∀H',SB B H H'->¬(∀a∈as,PB L g a)->Q .cx H')) (_:∀d' g' H',aI H H'->H' d'>.dK (gK g')->g'.length<=g.length+as.length->(∀a∈as,PB L g a)->(as=[]->g'=g)->Q (-d') H')
structure Dp(P:io)(w:mo)(K:Frag)(mg:Aac)(base:ss)(C:cr):Prop where
 afq:bY P w K mg base 3 "fitted" ["given","terms","aim"] (MZ K)
 Y7:bY P w K mg base 4 "parts_of" ["atoms","given"] (Va K)
 Dz:jH P w K mg base C 3 "aims_of" ["self","atom","given"] (Vi P w K C)
structure Dm(P:io)(w:mo)(K:Frag)(mg:Aac)(base:ss)(C:cr)(n:Nat):Prop extends Dp P w K mg base C where
 Mi:jH P w K mg base C (6+2*n) "mapped_part" ["self","part","given"] (MV P w K C n)
structure Dq(P:io)(w:mo)(K:Frag)(mg:Aac)(base:ss)(C:cr):Prop extends Dp P w K mg base C where
 Br:jH P w K mg base C 07 "mapped" ["self","atoms","given"] (uy P w K C 0)
def zD:bL ["self","atoms","given","part"] ["self","atoms","given"] (bo wG):=fS 76
def Lh{f:cr}{fd:ut}{n:Nat}(F:dh K "mapped" "MapSearch.mapped" wG f fd)(T:Txt K mg)(O:Own K C)(D:Dm P w K mg base C n):cm P w K mg base dZ (07+2*n) f fd ["self","atoms","given"] (uy P w K C n):=by
 rw[show 07+2*n=(6+2*n)+1 by lia];show F.ok zD 85;let(self,A,B,dx,pl,d,kvs,L,g,as,ys,rfl,n0,ak,ie,lQ,fa,la,lg,ap,k1,k2):=h;show{_,ay (fG bF 9 (cN<|cl D.Y7 hr (cj (pv 1)<|pv 2) ∅) (ic 3 zD)<|ay (cZ 2 zD<|B8 O.c D.Mi hr (pv 0) (cj (pv 3)<|pv 2) ∅)<|aP<|fh (cU xv (pv 2) jF<|cL _) (aP<|bH jF) dc)<|aP<|bH<|pv 2,?_}
 show{_,9,_,9,pl,d,ys,as,g,9,ie,lQ,la,λb hb=>(fa b hb).2,ak.hd,ap,λq FC H1 s1 hq OF DO=>?_};have lv:=aQ DO;show{q,rfl,{_,aT.of OF},iS (λi Z H2=>∃(di:cr)(gi:km)(x3:Aao),Z=[some (-self),some (-pl),some (-di),x3]/\i<=as.length/\aI H1 H2/\H2 di>.dK (gK gi)/\gi.length<=g.length+i/\(i=0->gi=g)/\(∀q∈gi,PyData.strOk q.2=true)/\(∀a∈as.drop i,dC.get gi a.2=dC.get g a.2)/\∀a∈as.take i,PB L g a)
  {d,g,_,9,aF _,84,s1 _ _ ak.hd,ao _,λ_=>9,ak.gs,λ_ _=>9,λa h=>by cases h} (λi Z H2 _ zq=>by let(__,__,__,__,__,s2,__):=zq;show aT.of<|s2 _ _ OF) ?_ ?_}
 ·ext i x Z H2 D1 hx ⟨di,gi,_,rfl,hi,s2,hd2,lg2,_,gs2,eg,hh⟩ iy rt1;let(a,ha,l,y,rfl,hl,WT):=Paired.at DO hx;have b6:=(ar.mp ha).1;have ma:=aM ha;have iI:=s1.trans s2;have dr:as.drop i=a::as.drop (i+1):=by rw[j8 b6,(ar.mp ha).2]
  have e0:=eg a<|dr▸av;have se2:=ak.se.same iI;show{_,9,self,dx,_,9,se2.ins,9,_,9,_,9,self,A,B,dx,l,di,kvs,L,gi,a,y,9,(λe=>by rw[n0 e]at b6;cases b6),{se2,ak.lL,ak.fL,hd2,gs2},s2 _ _ hl,WT.tp<|bu.same s2,fa a ma,8,λH3 HL no=>?_,λd3 z H3 s3 Xc hz hg=>?_};·show{_,9,9,_,9,i8<|rt1 _ _ (k1 H3 ((SB.same iI).trans HL) λall=>no ?_)};let(z,hz,h):=all a ma;show{z,hz,e0▸h}
  show{_,9,9,_,9,hU<|iy _ _ {d3,oh gi a.2 z,_,9,b6,s2.trans s3,Xc,?_,λq=>absurd q<|gW _,λq hq=>?_,23,23}};·have:=Px gi a.2 z;lia
  ·unfold oh at hq;split at hq;·show gs2 q hq
   rcases bG.mp hq with hq|hq;·show gs2 q hq
   rw[aw.mp hq];show ak.fL (a.1,z) hz
  ·have eb:=eg b<|dr▸aA _ hb;by_cases c:b.2=a.2
   ·let(j,hj):=eF.mp hb;rw[vK]at hj;let(rj,hje):=ar.mp hj;have h:=iX.mp ap i (i+1+j) b6 rj ∅;rw[hje,(ar.mp ha).2]at h;have:oh gi a.2 z=gi:=by unfold oh;rw[aL<|wU.mpr (by rw[<-c,eb];show(h c.symm))]
    rw[this,eb]
   rw[acy c,eb]
  rw[bW,ha]at hb;rcases bG.mp hb with hb|hb;·show hh b hb
  have:b=a:=by simpa using hb
  rw[this];show{z,hz,e0▸hg}
 ext Z H2 ⟨di,gi,_,rfl,_,s2,hd2,lg2,e0,_,_,hh⟩;rw[lv]at lg2;rw[lv,bq]at hh;show{_,9,k2 di gi H2 (s1.trans s2) hd2 lg2 hh λq=>e0 (by rw[lv,q];rfl)}
def abX{X:Cx}{tg l:xL}{tl:TE}(hl:PE X l tl)(h:X.K=K:=by rfl):PI X tg l (ZA K tl):=h▸jY hl
def gP:bL ["self","part","given","key","aims","counts","place","aim","way","whole"] ["self","part","given"] (bo oB):=fS 76
def JY{f:cr}{fd:ut}(F:dh K "mapped_part" "MapSearch.mapped_part" oB f fd)(T:Txt K mg)(O:Own K C)(D:Dq P w K mg base C):cm P w K mg base dZ 08 f fd ["self","part","given"] (MV P w K C 1):=by
 show F.ok gP 85;let(self,A,B,dx,pl,d,kvs,L,g,a,y,rfl,__,ak,ie,WT,fa,lg,k1,k2):=h;have cC:=O.c;have hN:=Bw hr;show{_,ay (cZ 3 gP<|dF<|cj (cG fE 9 T.jh 76 73)<|cG fE 9 T.jh 76<|bB<|uH 9 (j7 (more:=["terms"]) (fs:=["given"]) (fr:=[2])) (cN<|pv 1) (λ_ _ _ _=>qj (n:=2) 9 93) (λ_ _ _ _=>cG (Kl) 9 T.jh 76<|bB<|hG 9 (cA (fs:=["given"]) (fr:=[2])) (abX<|pv 1) (λ_ _ _ _=>Y4 (oE hr) (pv 1) (pv 0) ahh)))<|ay (fh (cU (aec hN) (pv 3) (js (pv 0) 9) 50) (aP<|bH jF) dc)<|ay (wH (j:=4) gP.nd 9 9 9 (cA (fs:=["self","given"]) (fr:=[0,2])) (cN<|pv 1) (λ_ _ _ _=>B8 cC D.Dz hr (pv 1) (cj (pv 0)<|pv 2) ∅))<|ay (wH (j:=5) gP.nd 9 9 9 (cA (fs:=[]) (fr:=[])) (cN<|pv 4) (λ_ _ _ _=>bh (Ec) 9 T.eZ bz 21))<|ay (cZ 6 gP<|j4 cb PySem.F.slot_list_index PySem.F.type_list_index Wm (pv 5)<|bB<|bh (X9 9) 9 T.aaS 76<|bB<|pv 5)<|ay (fG bF 9 (cN<|bV hJ (pv 4) (pv 6) (λ_ _=>9)) (ic 07 gP)<|ay (cZ 08 gP<|cl D.afq hr (pf (pv 2) (bV dv (bV hJ (pv 1) (pv 6) (λ_ _=>9)) bb (λ_ _=>9))<|pv 07) ∅)<|ay (cZ 09 gP<|rN (cU xv (pv 08) jF<|cL _) jF<|B8 cC D.Br hr (pv 0) (cj (dj mz (lG uB (pv 1) nW<|nV<|pv 6)<|lG uB (pv 1) (nV<|dj kW (pv 6) bb) nW)<|pv 08) ∅)<|aP<|fh (cU Rv (pv 09) jF<|cL _) (aP<|bH<|pv 09) dc)<|ay (xr hN (js (pv 0) 9) (pv 3) qm 9)<|aP<|bH jF,?_}
 let(ab,ac,rfl,Ci,yV):=id WT;show iq λR eR=>?_;show{_,9,pl,[-ab],9,.inl {aT.of ie,?_}}
 intros t1 OE H1 s1 h11
 show{_,9,pl,9,{_,aT.of<|s1 _ _ ie},BC (xs:=[-ab]) (λi zs H2=>aI H1 H2/\((i=0/\zs=[])\/i=1/\∃b3,zs=[-b3]/\H2 b3>.tup [opV<|dC.get g a.2])) 86 {84,.inl ⟨rfl,rfl⟩} ?_ ?_ ?_}
 ·ext i zs H2 hi ⟨s2,h⟩;show{aT.of<|s2 _ _<|s1 _ _ ie,?_};rcases h with⟨_,rfl⟩|⟨rfl,_,rfl,_⟩;·show aF _
  show ao _
 ·ext i x zs H2 N hx ⟨s2,h⟩ nO;let(e,rfl):=gC (ao _) hx;cases e;obtain rfl:zs=[]:=h.elim (·.2) λq=>by cases q.1
  have Aq:=s1.trans s2;show{ab,_,_,9,bf Ci Aq,fD {_,9,ac,9,{_,bf yV Aq},uR (xs:=[.str a.2]) (λj us H3=>H3=H2/\us=[opV<|dC.get g a.2].take j) 86 ⟨rfl,rfl⟩ (λj us H3 hj ⟨e1,e2⟩=>{e1▸bf yV Aq,by rw[e2,aW];lia}) ?_ ?_}}
  ·ext j v us H3 M hy ⟨rfl,rfl⟩ hM;let(e,rfl):=gC (ao _) hy;cases e;show fD {_,9,d,9,.inl {_,.inl<|Aq _ _ ak.hd},_,9,_,jA.k (k:=Sum.inr a.2)<|Aq _ _ ak.hd,?_};have e1:(j0 (gK g) (Sum.inr a.2:Key)).getD .cx=opV (dC.get g a.2):=by rw[vd];cases dC.get g a.2<;>rfl
   rw[e1];show hM _ _ ⟨rfl,rfl⟩
  ext us H3 ⟨rfl,rfl⟩ l hl;show{l,_,9,.inl {80,λt ht=>nO _ _ {s2.trans<|(aB hl _).trans<|aB ht _,.inr ⟨rfl,t,rfl,au⟩}}}
 ext zs H2 ⟨s2,h⟩ l2 iz;let(b3,rfl,hb3):=h.elim (λq=>by cases q.1) (·.2);show{l2,_,9,.inl {80,λt2 OD=>?_}};have v9:=(aB iz<|.lst [V.ref b3]).trans<|aB OD<|.tup [V.ref b3];have h32:upd (upd H2 l2<|.lst [V.ref b3]) t2 (.tup [V.ref b3]) t2>.tup [-b3]:=au;generalize (upd (upd H2 l2<|.lst [V.ref b3]) t2<|.tup [V.ref b3])=H3 at v9 h32⊢;show{95,λkt hkt=>?_};have Nk:=aB hkt<|.tup [-t1,-t2];have vo:=v9.trans Nk;have Nl:=s2.trans vo;have s4:=s1.trans Nl;have Zy:=WE (aZ.of au) (aZ.of<|Nl _ _ h11) (WT.tp<|bu.same s4) (aZ.of<|Nk _ _ h32) (aZ.of<|vo _ _ hb3) fa λz hz=>ak.gs _<|dC.get_some hz;generalize (upd H3 kt<|.tup [-t1,-t2])=H4 at Nk vo Nl s4 Zy⊢;have se4:=ak.se.same s4;show bT eR λR eR=>?_;show{_,9,_,9,self,C,dx,_,_,9,se4.ins,O.c,O.SM,9,B,kt,[],SN a<|dC.get g a.2,9,9,sv se4.b0,Zy,_,9,hU ?_};have T6:=s4 _ _ ie;show bT (T:=R) eR λR eR=>?_;show{_,9,pl,9,{_,aT.of T6},eJ (xs:=[-ab]) (λi zs H5=>aI H4 H5/\((i=0/\zs=[])\/i=1/\∃l yM rs,zs=[-l]/\H5 l>.lst yM/\d9 K H5 yM (mP rs)/\rs.length<=L.length/\∀z,z∈rs↔(a.1,z)∈L/\(dC.get g a.2=none\/dC.get g a.2>z))) 86 {84,.inl ⟨rfl,rfl⟩} ?_ ?_ ?_}
 ·ext i zs H5 hi ⟨s5,h⟩;show{aT.of<|s5 _ _ T6,?_};rcases h with⟨_,rfl⟩|⟨rfl,_,_,_,rfl,_⟩;·show aF _
  show ao _
 ·ext i x zs H5 N hx ⟨s5,h⟩ nO;let(e,rfl):=gC (ao _) hx;cases e;obtain rfl:zs=[]:=h.elim (·.2) λq=>by cases q.1
  have M8:=se4.same s5;show fD {_,9,self,dx,_,9,M8.ins,9,_,9,_,9,self,A,B,dx,d,kvs,L,-ab,a,g,9,M8,(WT.tp<|bu.same s4).tp<|bu.same s5,fa,ak.lL,s5 _ _<|s4 _ _ ak.hd,ak.gs,λl yM rs H6 s6 oG qC hr l1 iff=>nO _ _ {s5.trans s6,.inr ⟨rfl,l,yM,rs,rfl,qC,hr,l1,iff⟩}}
 ext gg H5 ⟨s5,h⟩ al Cg;let(l,yM,rs,rfl,qD,hr5,lrs,iff):=h.elim (λq=>by cases q.1) (·.2);have K6:=aB Cg<|.lst [V.ref l];have s6:=s5.trans K6;have Ue:upd H5 al (.lst [-l]) al>.lst [-l]:=au;have qC:=K6 _ _ qD;have hr6:=gG hr5<|bu.same K6;generalize (upd H5 al<|.lst [-l])=H6 at K6 s6 Ue qC hr6⊢;show bT (T:=R) eR λR eR=>?_;show{_,9,al,9,{_,aT.of Ue},eJ (xs:=[-l]) (λi zs H7=>H7=H6/\zs=[V.int (yM.length:Int)].take i) 86 ⟨rfl,rfl⟩ (λi zs H7 hi ⟨e1,e2⟩=>{e1▸aT.of Ue,by rw[e2,aW];lia}) ?_ ?_};·ext i x zs H7 N hx ⟨rfl,rfl⟩ nO;let(e,rfl):=gC (ao _) hx;cases e;show fD {_,9,_,_,9,.inl {_,aT.of qC,9},nO _ _ ⟨rfl,rfl⟩}
 ext cvs H7 ⟨rfl,rfl⟩ cl oH;have Ni:=aB oH<|.lst [V.int (yM.length:Int)];have T9:upd H7 cl (.lst [V.int (yM.length:Int)]) cl>.lst [V.int (yM.length:Int)]:=au;have s7:=s4.trans<|s6.trans Ni;have afj:=Ni _ _ Ue;have si:=Ni _ _ qC;have RY:=gG hr6<|bu.same Ni;have HY:=s6.trans Ni;generalize hH8:(upd H7 cl<|.lst _)=H8;have e8:(upd H7 cl<|.lst [V.int (yM.length:Int)])=H8:=hH8;rw[e8]at T9 s7 afj si RY HY;show bT (T:=R) eR λR eR=>?_;show{_,9,.inl {9,_,aT.of T9},_,9,cl,[(yM.length:Int)],9,aT.of T9,Nat.one_pos,λm hm _=>?_};obtain rfl:=aw.mp hm;show{cl,[(yM.length:Int)],_,0,9,9,T9,9,λi hi=>absurd hi<|eE _,?_};have M7:=ak.se.same s7;show bT eR λR eR=>?_;show{_,9,_,9,_,_,_,_,9,9,aT.of afj,9,l,9,{_,aT.of si},G0 (λi Z H9=>∃x7 x8 x9:Aao,Z=[some (-self),some (-pl),some (-d),some (-kt),some (-al),some (-cl),some<|.int ((0:Nat):Int),x7,x8,x9]/\H9=H8/\i=0) ⟨_,_,_,rfl,rfl,rfl⟩ (λi Z H9 _ zq=>by let(__,__,__,__,e,__):=zq;rw[e];show aT.of si) ?_ ?_}
 ·ext i x Z H9 hx ⟨_,_,_,rfl,rfl,rfl⟩;let(z,ra,hz,rfl,hra):=Bc RY hx;let(hzL,hzg):=(iff z).mp<|aM hz;have ae0:=s7 _ _ ie;show{_,9,_,9,_,9,_,_,_,_,9,9,aT.of ae0,9,_,_,_,_,9,9,bf Ci s7,9,_,9,d,ac,ra,g,a.2,z,9,s7 _ _ ak.hd,8,bf yV s7,hra,fa.2,hzg,λwp HA sA wp0 hwA=>?_};show{_,9,9,_,9,hU ?_};have seA:=M7.same sA;have aeZ:=sA _ _ ae0;show{_,9,self,dx,_,9,seA.ins,9,_,9,IB {_,9,_,9,pl,[-ab],9,aT.of aeZ,λc1 Xe=>?_}};have sB:=aB Xe 87;have hB1:upd HA c1 87 c1>.lst []:=au;generalize hHB:(upd HA c1<|.lst<|zO [V.ref ab] none<|some ((0:Nat):Int))=HB;have eB:(upd HA c1 87)=HB:=hHB;rw[eB]at sB hB1;show{_,9,_,9,_,_,9,9,_,9,IB {pl,[-ab],9,aT.of<|sB _ _ aeZ,λc2 tK=>?_}};have sC:=aB tK 87;have hC2:upd HB c2 87 c2>.lst []:=au;generalize hHC:(upd HB c2<|.lst<|zO [V.ref ab] (some<|((0:Nat):Int)+1) none)=HC;have eC:(upd HB c2 87)=HC:=hHC;rw[eC]at sC hC2;show{c1,c2,[],[],9,9,sC _ _ hB1,hC2,aF _,λc3 hc3=>?_};have hD3:upd HC c3 (.lst ([]++[]:Aan)) c3>.lst []:=au;have sAD:aI HA (upd HC c3<|.lst ([]++[]:Aan)):=sB.trans<|sC.trans<|aB hc3 87;have gsz:∀q∈oh g a.2 z,PyData.strOk q.2=true:=λq hq=>by
   unfold oh at hq;split at hq;·show ak.gs q hq
   rcases bG.mp hq with hq|hq;·show ak.gs q hq
   rw[aw.mp hq];show ak.fL (a.1,z) hzL
  show{_,9,self,A,B,dx,c3,wp,kvs,L,oh g a.2 z,[],[],9,λ_=>9,{seA.same sAD,ak.lL,ak.fL,sAD _ _ hwA,gsz},hD3,.nil,λa h=>(by cases h),aF _,aS (Px g a.2 z) lg,.nil,λHE _ no=>absurd (λa h=>by cases h) no,λd' g' HE sE LB _ _ eg=>?_};rw[eg rfl]at LB;show{_,9,9,_,9,i8 {_,9,k2 d' z HE ((s7.trans sA).trans<|sAD.trans sE) LB hzL hzg}}
 ext Z H9 ⟨_,_,_,rfl,rfl,e⟩;have no:¬PB L g a:=λ⟨z,h1,h2⟩=>by have:=(iff z).mpr ⟨h1,h2⟩;rw[cc.mp<|(uC RY).symm.trans e]at this;cases this
 show jg (T:=R) eR ?_;show{_,9,self,C,dx,_,_,9,M7.ins,O.c,O.SM,9,_,9,B,kt,[],SN a<|dC.get g a.2,9,9,sv M7.b0,qp Zy<|bu.same HY,7,k1 _ ((SB.same s7).trans SB.up) no}
def Te{fm fp:cr}{dm dp:ut}(Fm:dh K "mapped" "MapSearch.mapped" wG fm dm)(Fp:dh K "mapped_part" "MapSearch.mapped_part" oB fp dp)(Mm:Meth K C "mapped" fm)(Mp:Meth K C "mapped_part" fp)(bm:Binds K dm ["self","atoms","given"] [])(bp:Binds K dp ["self","part","given"] [])
  (T:Txt K mg) (O:Own K C) (D:Dp P w K mg base C):jH P w K mg base C 09 "mapped" ["self","atoms","given"] (uy P w K C 1):=by
 have aek:∀vs H Q E,¬MV P w K C 0 vs H Q E:=λvs H Q E h=>by let(__,__,__,__,__,__,__,__,__,__,__,__,h,__):=h;show h rfl
 have m0:jH P w K mg base C 07 "mapped" ["self","atoms","given"] (uy P w K C 0):={fm,dm,Lh Fm T O {D,{fp,dp,{λvs H Q E h=>absurd h<|aek vs H Q E,λA outer s H args us vs Q E _ _ _ _ h=>absurd h<|aek vs H Q E},Mp,bp}},Mm,bm};show{fm,dm,Lh (n:=1) Fm T O {D,{fp,dp,JY Fp T O ⟨D,m0⟩,Mp,bp}},Mm,bm}
def E6(h:pi)(qs L:List One):Prop:=∀a∈qs,PB L [(h,h)] a
structure wY(h:pi)(qs L:List One):Prop where
 uh:xW h
 fq:∀a∈qs,EB a
 fL:∀a∈L,EB a
 lq:qs.length<=100
 lL:L.length<=100
 ap:Ap [(h,h)] qs
inductive JK(K:Frag)(vs:Aan)(H:Hp)(Q:VK)(_x3:XK):Prop
 |mk (v1 v2:V) (h:pi) (L qs:List One) (_:vs=[v1,v2]) (_:QK K H v1 h L) (_:QK K H v2 h qs) (_:wY h qs L) (_:(∀H',aI H H'->¬E6 h qs L->Q .cx H')) (_:∀H' d g,aI H H'->H' d>.dK (gK g)->g.length<=1+qs.length->E6 h qs L->Q (-d) H')
def CW:bL ["one","other","given"] ["one","other"] (bo FR):=fS 76
def NY{f:cr}{fd:ut}(F:dh K "found_map" "found_map" FR f fd)(T:Txt K mg)(O:Own K C)(aau:bY P w K mg base 3 "fitted" ["given","terms","aim"] (MZ K))(BS:jH P w K mg base C 09 "mapped" ["self","atoms","given"] (uy P w K C 1))(vW:AR P w K mg base C 3 "MapSearch" ["self","atoms"] (Mq P w K C)):cm P w K mg base dZ 10 f fd ["one","other"] (JK K):=by
 show F.ok CW 85;obtain⟨v1,v2,h,L,qs,rfl,⟨h1,hh1,r1,a1,QF,rfl,nK,Sg,E2⟩,⟨h2,DS,r2,a2,vs2,rfl,xG,ha2,Uc⟩,ok,k1,k2⟩:=h;show{_,ay (cZ 2 CW<|cl aau hr<|pf iL (bV dv (pv 1) bb (λ_ _=>9))<|bV dv (pv 0) bb (λ_ _=>9))<|ay (fh (cU xv (pv 2) jF<|cL _) (aP<|bH jF) dc)<|aP<|bH<|B8 O.c BS hr (mkO vW hr (bB<|bV dv (pv 0) bb (λ_ _=>9)) ∅) (cj (cG jc 9 T.mB 76<|bB<|bV dv (pv 1) bb (λ_ _=>9))<|pv 2) ∅,?_}
 show iq λR eR=>?_;show ?_
 intros e0 he0 H1 s1 W9
 show{_,9,_,_,_,_,9,9,bf xG s1,9,_,9,_,_,_,_,9,9,bf nK s1,9,e0,h2,h1,[],h,h,9,W9,aF _,bf DS s1,bf hh1 s1,ok.uh,.inl rfl,λd H2 s2 jN hd2=>?_};show bT (T:=R) eR λR eR=>?_;show{_,9,9,_,9,hU ?_};have iI:=s1.trans s2;show jg (T:=R) eR ?_;show{_,9,_,_,_,_,9,9,bf nK iI,9,λx dx hx Xa ne=>?_};have s3:aI H2 (upd (upd H2 dx<|.own x) x<|.ins C dx []):=λb u h=>by rw[aC<|a9 h hx,aC<|a9 h Xa];show h
 have hx3:upd (upd H2 dx<|.own x) x (.ins C dx []) x>.ins C dx []:=au;have mO:=iI.trans s3;show{x,a1,dx,QF,L,H2,9,hx3,hx,bf Sg mO,E2.tp<|bu.same mO,ok.lL,ok.fL,s3,λH4 A' B kvs s4 B0 Vr=>{9,?_}};have mM:=iI.trans s4;show{x,dx,_,9,Vr.ins,9,_,9,_,_,_,_,9,9,bf xG mM,9,a2,vs2,9,.inr<|bf ha2 mM,?_}
 intros l hl H5 s5 qD
 have oX:=mM.trans s5;have lq:=ok.lq;show{_,9,x,A',B,dx,l,d,kvs,L,[(h,h)],qs,vs2,9,λq=>absurd q 7,{Vr.same s5,ok.lL,λb hb=>(ok.fL b hb).2.2.2,s5 _ _<|s4 _ _ hd2,λq hq=>by rw[aw.mp hq];show ok.uh.2.2},qD,Uc.tp<|bu.same oX,ok.fq,ok.lq,by change 1+qs.length<=600;lia,ok.ap,λH6 sb no=>?_,λd6 g6 H6 s6 xM lg hit _=>k2 H6 d6 g6 (oX.trans s6) xM lg hit};show k1 H6 (λb u e=>sb b u (a9 e<|iI.free B0)<|oX _ _ e) no
inductive GB(K:Frag)(vs:Aan)(H:Hp)(Q:VK)(_x3:XK):Prop
 |mk (pl:cr) (kU:Aan) (as:List One) (_:vs=[-pl]) (_:H pl>.lst kU) (_:EJ K H kU as) (_:as.length<=100) (_:∀(r:cr)(gg:Aan)(H':Hp),aI H H'->H r=none->H' r>.tup gg->kG K H' gg as->Q (-r) H')
def CV:bL ["parts","atoms","part"] ["parts"] (bo Nf):=fS 76
def V0{f:cr}{fd:ut}(F:dh K "joined" "joined" Nf f fd)(T:Txt K mg):cm P w K mg base dZ 1 f fd ["parts"] (GB K):=by
 show F.ok CV 85;let(pl,kU,as,rfl,ie,hP,aiN,k):=h;show{_,ay (cZ 1 CV<|dy fQ)<|ay (fG bF 9 (cN<|pv 0) (ic 2 CV)<|aP<|g9<|j4 cb kB kA Dw (pv 1)<|bB<|pv 2)<|aP<|bH<|cG fE 9 T.jh 76 73,?_}
 show{31,λal Cg=>?_};have BZ:aI H (upd H al 74):=aB Cg _;show{_,rfl,pl,rfl,{_,aT.of<|BZ _ _ ie},iS
  (λi Z H2=>∃(x2:Aao)(gg:Aan),Z=[some (-pl),some (-al),x2]/\i<=as.length/\aI H H2/\H2 al>.lst gg/\kG K H2 gg (as.take i)) {none,[],9,aF _,BZ,au,.nil} (λi Z H2 _ zq=>by let(__,__,__,__,sm,__):=zq;show aT.of<|sm _ _ ie) ?_ ?_}
 ·ext i x Z H2 D1 hx ⟨x2,gg,rfl,_,sm,OT,hA⟩ iy _;let(a,ha,l,y,rfl,hl,hy):=Paired.at hP hx;have b6:=(ar.mp ha).1;have lA:gg.length<=i:=by rw[aQ hA,aW];lia
  show{_,9,.inl {9,_,aT.of OT},_,9,al,l,_,_,9,9,OT,sm _ _ hl,bU<|cw (by rw[b5];lia),?_};have tu:bu H2 (upd H2 al<|.lst<|gg++[y]):=bu.upd<|kX OT;show iy _ _ {_,gg++[y],9,b6,λb u e=>?_,au,?_};·rw[aC<|a9 e Cg];show sm _ _ e
  rw[bW,ha];show cY (hA.tp tu)<|.cons (hy.tp<|(bu.same sm).trans tu) .nil
 ext Z H2 ⟨x2,gg,rfl,_,sm,OT,hA⟩;rw[(aQ hP),bq]at hA;show{_,9,al,_,9,.inl {aT.of OT,λr ug=>k r gg _ (sm.trans<|aB ug _) (sm.free ug) au<|hA.tp<|bu.same<|aB ug _}}
def gO(h:pi)(qs L:List One):Bool:=qs.all λa=>L.any λb=>decide (b.1=a.1)&&(decide (a.2≠h)||decide (b.2=h))
def acx{h x:pi}:dC.get [(h,h)] x=if x=h then some h else none:=by
 unfold dC.get;by_cases c:h=x;·rw[eX (by show aO c),aL c.symm];rfl
 rw[dU<|↑c,az (λe=>c e.symm)];rfl
def vc{h:pi}{qs L:List One}:gO h qs L=true↔E6 h qs L:=by
 unfold gO E6 PB;rw[b9];show jm λa=>imp_congr_right λ_=>?_;rw[dP,acx];constructor
 ·ext⟨b,hb,e⟩;rw[cn,lC,bg,bg,bg]at e;show{b.2,e.1▸hb,?_};by_cases c:a.2=h;·rw[aL c];show .inr (by rw[e.2.resolve_left λn=>n c])
  rw[az c];show .inl rfl
 ext⟨z,hz,e⟩;show{(a.1,z),hz,?_};rw[cn,lC,bg,bg,bg];show{9,?_};by_cases c:a.2=h;·rw[aL c]at e;show .inr (e.elim (λq=>by cases q) λq=>(bR q).symm)
 show .inl c
inductive QX(K:Frag)(vs:Aan)(H:Hp)(Q:VK)(_x3:XK):Prop
 |mk (v:V) (pl:cr) (kU:Aan) (h:pi) (L qs:List One) (_:vs=[v,-pl]) (_:QK K H v h qs) (_:H pl>.lst kU) (_:EJ K H kU L) (_:wY h qs L) (_:∀H',aI H H'->Q (.bl<|gO h qs L) H')
def PX:bL ["question","parts"] ["question","parts"] (bo HR):=fS 76
def P8{f:cr}{fd:ut}(F:dh K "is_whole" "is_whole" HR f fd)(T:Txt K mg)(z9:bY P w K mg base 10 "found_map" ["one","other"] (JK K))(Hn:bY P w K mg base 1 "joined" ["parts"] (GB K)):cm P w K mg base dZ 11 f fd ["question","parts"] (QX K):=by
 show F.ok PX 85;let(v,pl,kU,h,L,qs,rfl,qk,ie,hP,ok,k):=h;let(hd,mS,q,aa,gg,rfl,hq,kJ,jo):=id qk;show{_,aP<|bH<|gu Rv (cl z9 hr<|cj (dF<|cj (bV dv (pv 0) bb (λ_ _=>9))<|cl Hn hr 73)<|pv 0) jF<|cL _,?_};show{_,9,_,_,_,_,9,9,hq,9,_,9,pl,kU,L,9,ie,hP,ok.lL,λr tvs H1 s1 _ nK hA=>{95,?_}}
 intros p hp H2 s2 oF
 have iI:=s1.trans s2;show{_,9,-p,-q,h,L,qs,9,{hd,bf mS iI,p,r,tvs,9,aZ.of oF,aZ.of<|s2 _ _ nK,hA.tp<|bu.same s2},qk.tp<|bu.same iI,ok,λH3 s3 no=>?_,λH3 d g s3 _ _ yes=>?_};·have e:=iu.mpr λq=>no<|vc.mp q;rw[e]at k;show{9,k H3<|iI.trans s3}
 rw[vc.mpr yes]at k;show{9,k H3<|iI.trans s3}
def Vm(n:Nat)(h:n<=100000):((n:Int)).natAbs.log2<1920:=by
 rw[Int.natAbs_natCast];by_cases h0:n=0;·rw[h0];decide
 rw[Nat.log2_lt h0];show gX h 76
def qY(k:Nat):pi:=⟨(110::(Nat.toDigits 10 k).map Char.toNat).toArray⟩
def aaQ(k:Nat):("n":pi)++Str.ofString (toString (k:Int))=qY k:=by rw[show(k:Int)=Int.ofNat k from rfl,text_ofNat];change(⟨("n":pi).cps++_⟩:pi)=_;rw[show("n":pi).cps=#[110] by decide+kernel];unfold qY;simp
def acS:((List.range 10).all λd=>sgn<|048+d)=true:=by decide+kernel
def agM{k c:Nat}(h:c∈(Nat.toDigits 10 k).map Char.toNat):sgn c=true/\c<128:=by let(ch,AH,rfl):=aG.mp h;have r2:=digit_range<|Nat.isDigit_of_mem_toDigits (b:=10) 7 7 AH;have e:=b9.mp acS (ch.toNat -048)<|bO.mpr ∅;rw[show 048+(ch.toNat -048)=ch.toNat by lia]at e;show{e,8}
def Wd{k:Nat}(h:k<600):(qY k).length<=4:=by change((110::(Nat.toDigits 10 k).map Char.toNat).toArray).size<=4;rw[aR,bc,ag];have:=digits10_le (k:=3) (n:=k) 7 ∅;lia
def aen{i j:Nat}(h:qY i=qY j):i=j:=by
 have h1:(qY i).cps.toList=(qY j).cps.toList:=by rw[h]
 unfold qY at h1;simp only[ze,true_and]at h1;have h2:=BG i;rw[h1,BG]at h2;show h2.symm
def agf{z:pi}(h:∀c∈z.cps.toList,c<128):PyData.strOk z=true:=by
 unfold PyData.strOk;rw[<-Array.all_toList,b9]
 exactλc hc=>aO (by have:=h c hc;lia)
def agh(k:Nat):PyData.strOk (qY k)=true:=agf λc hc=>by
 rcases aJ.mp hc with rfl|hc;·decide
 show(agM hc).2
theorem Rz{α β:Type}{f:α->β}:∀{l:List α},(∀i∈l,∀j∈l,f i=f j->i=j)->l.Nodup->(l.map f).Nodup
 |[]=>λ_ _=>.nil
 |a::l=>λh nd=>by rw[cQ]at nd;rw[bI,cQ];show{λe=>?_,Rz (λi hi j hj=>h i (aA _ hi) j<|aA _ hj) nd.2};let(b,hb,e):=aG.mp e;show nd.1<|h b (aA _ hb) a av e▸hb
theorem Wi:∀{s t:Aag},s.Nodup->(∀z∈s,z∈t)->s.length<=t.length
 |[],_,_,_=>aF _
 |z::s,t,hn,hs=>by
  have hz:=hs z av;rw[cQ]at hn;have h1:=Wi (t:=t.erase z) hn.2 λy hy=>by show(BL (λe=>hn.1 (by rw[<-e];show hy))).mpr<|hs y<|aA _ hy
  rw[yi hz]at h1;have h2:=zU hz;change s.length+1<=t.length;lia
inductive MW(vs:Aan)(H:Hp)(Q:VK)(_x3:XK):Prop
 |mk (n:Int) (tl:cr) (tk:Aag) (_:vs=[.int n,-tl]) (_:H tl>.lst (tk.map V.str)) (_:0<=n) (_:n+tk.length<=500) (_:∀(r:cr)(zs:Aag)(H':Hp),aI H H'->H r=none->H' r>.lst (zs.map V.str)->(zs.length:Int)=n->(∀z∈zs,Gp z)->Q (-r) H')
def nE:bL ["count","taken","found","number","value"] ["count","taken"] (bo CZ):=fS 76
def nnS{k:Nat}(h:k<600):(Str.ofString<|toString (k:Int)).length<=100:=by have h1:=Wd h;rw[<-aaQ,dQ]at h1;lia
def Md{f:cr}{fd:ut}(F:dh K "new_values" "new_values" CZ f fd)(T:Txt K mg):cm P w K mg base dZ 1 f fd ["count","taken"] MW:=by
 show F.ok nE 85;let(n,tl,tk,rfl,OC,n0,nt,k):=h;show{_,ay (cZ 2 nE<|dy fQ)<|ay (cZ 3 nE bb)<|ay (Nz bF (cU Mv (bh cW 9 T.eZ bz<|bB<|pv 2) (pv 0)<|cL _)<|ay (cZ 4 nE<|dj Bk fK<|cG LS 9 T.EY 76<|bB<|pv 3)<|ay (fh (cU xu (pv 4) (pv 1) 50) (aP<|g9<|j4 cb f7 f6 pz (pv 2)<|bB<|pv 4) dc)<|aP<|ad4 (i:=3) nE.nd 9 (Or.inl 9) bb aeG)<|aP<|bH<|pv 2,?_}
 show{31,λfl xJ=>?_};show{λm Z H2=>∃(num:Nat)(x4:Aao)(ks sk:List Nat),m=600 -num/\num<600/\Z=[some<|.int n,some (-tl),some (-fl),some<|.int (num:Int),x4]/\aI H H2/\H2 fl>.lst ((ks.map qY).map V.str)/\(ks.length:Int)<=n/\ks.length+sk.length=num/\ks.Nodup/\sk.Nodup/\(∀i∈ks,i<num/\qY i∉tk)/\(∀i∈sk,i<num/\qY i∈tk),{_,0,none,[],[],9,7,9,aB xJ _,au,by change(0:Int)<=n;show n0,9,.nil,.nil,(λi h=>by cases h),λi h=>by cases h},?_};ext m Z H2 ⟨num,x4,ks,sk,rfl,ae6,rfl,sm,OP,R7,hks,nd1,nd2,F9,rh⟩;have lk:((ks.map qY).map V.str).length=ks.length:=by rw[ag,ag]
 have lsk:sk.length<=tk.length:=by
  have h1:(sk.map qY).Nodup:=by show Rz (λi hi j hj e=>aen e) nd2
  have:=Wi h1 λz hz=>by let(i,hi,rfl):=aG.mp hz;show(rh i hi).2
  rw[ag]at this;show this
 show{_,9,_,_,9,.inl {_,aT.of OP,9},_,9,_,_,9,9,_,9,?_};show hX (λc=>?_) (λc=>?_)
 ·have c:=aV c;show{λσ' H'=>∃(Bl:Nat)(x4':Aao)(DD Vq:List Nat),Bl=num+1/\Bl<600/\σ'=[some<|.int n,some (-tl),some (-fl),some<|.int (Bl:Int),x4']/\aI H H'/\H' fl>.lst ((DD.map qY).map V.str)/\(DD.length:Int)<=n/\DD.length+Vq.length=Bl/\DD.Nodup/\Vq.Nodup/\(∀i∈DD,i<Bl/\qY i∉tk)/\(∀i∈Vq,i<Bl/\qY i∈tk),λσ' H' zq=>by let(Bl,x4',DD,Vq,e,r):=zq;show{600 -Bl,8,Bl,x4',DD,Vq,9,r},?_};have ln:=nnS ae6;have e1:("n":pi).length=1:=by decide+kernel
  have ls:=cw (n:=1+(Str.ofString<|toString (num:Int)).length) ∅;show{_,9,(num:Int),9,Vm num ∅,_,_,9,9,8,?_};rw[aaQ];show{_,9,_,9,tl,_,9,.inl<|aT.of<|sm _ _ OC,9,Xw _,_,9,?_};rw[Kc];show hX (λc1=>?_) (λc1=>?_)
  ·have c1:qY num∉tk:=by simpa using c1
   show{_,9,.inl {9,_,aT.of OP},_,9,_,_,_,9,9,OP,by rw[lk];show cw ∅,?_};show{_,9,_,_,9,9,?_};show{num+1,_,ks++[num],sk,9,by rw[lk]at c;lia,9,λb u e=>?_,?_,?_,?_,?_,nd2,λi hi=>?_,λi hi=>{b7 (rh i hi).1,(rh i hi).2}};·rw[aC<|a9 e xJ];show sm _ _ e
   ·rw[au,ba,ba];rfl
   ·rw[aU];change((ks.length+1:Nat):Int)<=n;lia
   ·rw[aU];change ks.length+1+sk.length=num+1;lia
   ·rw[gx];show{nd1,75,λa ha b hb e=>?_};have h1:=(F9 a ha).1;rw[aw.mp hb]at e;lia
   rcases bG.mp hi with hi|hi;·show{b7 (F9 i hi).1,(F9 i hi).2}
   rw[aw.mp hi];show{cI _,c1}
  have c1:qY num∈tk:=by simpa using c1
  show{_,9,_,_,9,9,?_};show{num+1,_,ks,sk++[num],9,by rw[lk]at c;lia,9,sm,OP,R7,?_,nd1,?_,λi hi=>{b7 (F9 i hi).1,(F9 i hi).2},λi hi=>?_};·rw[aU];change ks.length+(sk.length+1)=num+1;lia
  ·rw[gx];show{nd2,75,λa ha b hb e=>?_};have h1:=(rh a ha).1;rw[aw.mp hb]at e;lia
  rcases bG.mp hi with hi|hi;·show{b7 (rh i hi).1,(rh i hi).2}
  rw[aw.mp hi];show{cI _,c1}
 have c:¬((((ks.map qY).map V.str).length:Nat):Int)<n:=λh=>c<|aO h;show{_,9,k fl (ks.map qY) H2 sm xJ OP 65 λz hz=>?_};let(i,hi,rfl):=aG.mp hz;show{aS (Wd<|f9 (F9 i hi).1 ae6) 7,agh i}
inductive Gz(K:Frag)(vs:Aan)(H:Hp)(Q:VK)(_x3:XK):Prop
 |mk (v:V) (h:pi) (as:List One) (_:vs=[v]) (_:QK K H v h as) (_:as.length<=100) (_:∀(r:cr)(H':Hp),aI H H'->H r=none->H' r>.lst ((h::as.map (·.2)).map V.str)->Q (-r) H')
def zC:bL ["question","found","atom"] ["question"] (bo HN):=fS 76
def P5{f:cr}{fd:ut}(F:dh K "terms_of" "terms_of" HN f fd)(T:Txt K mg):cm P w K mg base dZ 1 f fd ["question"] (Gz K):=by
 show F.ok zC 85;obtain⟨v,h,as,rfl,⟨hd,mS,q,aa,gg,rfl,hq,kJ,jo⟩,la,k⟩:=h;show{_,ay (cZ 1 zC<|cG jc 9 T.mB 76<|bB<|bV dv (pv 0) bb (λ_ _=>9))<|ay (fG bF 9 (jY<|bV dv (pv 0) bb (λ_ _=>9)) (ic 2 zC)<|aP<|g9<|j4 cb kB kA TM (pv 1)<|bB<|bV dv (pv 2) bb (λ_ _=>9))<|aP<|bH<|pv 1,?_}
 show{_,9,_,_,_,_,9,9,hq,9,hd,_,9,.inr mS,λl hl=>?_};have s1:=aB hl<|.lst [V.str h];show{_,rfl,_,_,_,_,rfl,rfl,bf hq s1,rfl,aa,rfl,{gg,bf kJ s1},uP
  (λi Z H2=>∃(x2:Aao),Z=[some (-q),some (-l),x2]/\i<=as.length/\aI H H2/\H2 l>.lst ((h::(as.take i).map (·.2)).map V.str)) {none,9,aF _,s1,au} (λi Z H2 _ zq=>by let(__,__,__,sm,__):=zq;show bf kJ sm) ?_ ?_}
 ·ext i x Z H2 D1 hx ⟨x2,rfl,_,sm,iz⟩ iy _;let(a,ht,p,t,rfl,hp,OB):=Paired.at jo hx;have b6:=(ar.mp ht).1;show{_,9,.inl {9,_,aT.of iz},_,9,_,_,_,_,9,9,bf hp sm,9,l,t,_,_,9,9,iz,bf OB sm,?_,?_};·rw[ag,bc,ag,aW,b5];show bU (cw ∅)
  show iy _ _ {_,9,b6,λb u e=>?_,?_};·rw[aC<|a9 e hl];show sm _ _ e
  rw[au,q9 ht,<-kD,ba];rfl
 ext Z H2 ⟨x2,rfl,_,sm,iz⟩;rw[(aQ jo),bq]at iz;show{_,9,k l H2 sm hl iz}
def A5{t:pi}{ts:Aag}:t∈lD ts↔t∈ts/\kZ t=true:=by
 constructor;·ext h;show bX.mp<|(acj _ _).mp (by rw[<-QJ];show h)
 ext⟨h1,h2⟩;show aci h2 h1
inductive QY(K:Frag)(vs:Aan)(H:Hp)(Q:VK)(_x3:XK):Prop
 |mk (v:V) (h:pi) (as:List One) (_:vs=[v]) (_:QK K H v h as) (_:xW h) (_:(∀a∈as,xW a.2)) (_:as.length<=100) (_:∀(r:cr)(zs:Aan)(H':Hp),aI H H'->H' r>.lst zs->(zs=[]↔h∈as.map (·.2))->Q (-r) H')
def v7:bL ["question","bound"] ["question"] (bo xo):=fS 76
def Ze{f:cr}{fd:ut}(F:dh K "loose_unknowns" "loose_unknowns" xo f fd)(T:Txt K mg)(gY:bY P w K mg base 2 "is_unknown" ["thing"] A8)(iH:bY P w K mg base 3 "unknowns_of" ["question"] (Ag K)):cm P w K mg base dZ 4 f fd ["question"] (QY K):=by
 show F.ok v7 85;obtain⟨v,h,as,rfl,⟨hd,mS,qu⟩,uh,ua,la,k⟩:=h;let(q,aa,gg,rfl,hq,kJ,jo):=id qu;show{_,ay (mx (i:=1) v7.nd 9 (Or.inr 9)<|cl iH hr 21)<|aP<|bH<|o8 9 (cA (fs:=["bound"]) (fr:=[1])) (jY<|bV dv (pv 0) bb (λ_ _=>9)) (λ_ _ _ _=>PW.pt<|Nw (h9<|cl gY hr 21)<|JR<|cU (rF) (pv 0) (pv 1) 50) 68,?_}
 show{_,9,-q,-hd,as,9,qu,λa ha=>aS (ua a ha).2.1 7,la,λul H1 s1 ZC yS=>?_};obtain⟨zz,ezz⟩:∃zz:Aan,zz=if h∈as.map (·.2)then[]else[V.str h]:=⟨_,rfl⟩;show{_,9,_,_,_,_,9,9,bf hq s1,9,hd,9,{_,bf mS s1},uR (λi ys H2=>aI H1 H2/\ys=if i=0 then[]else zz) 86 {84,9} (λi ys H2 hi ⟨s2,e⟩=>{bf mS<|s1.trans s2,?_}) ?_ ?_}
 ·rw[e];split;·show aF _
  rw[ezz];split;·show aF _
  rw[b5];lia
 ·ext i x ys H2 N hc ⟨s2,rfl⟩ hN;let(e,rfl):=gC (ao _) hc;cases e;show{_,9,h,9,aS uh.2.1 7,λH3 s3=>{_,9,?_}};rw[uh.1];show i8 {_,9,_,9,ul,_,9,.inl<|aT.of<|s3 _ _<|s2 _ _ yS,9,Xw _,_,9,?_};rw[Kc];show hX (λc=>{_,9,hN _ _ {s2.trans s3,?_}}) (λc=>hN _ _ {s2.trans s3,?_})
  ·have c:h∉lD (as.map (·.2)):=by simpa using c
   rw[az<|gW _,ezz,az λm=>c<|A5.mpr {m,uh.1}];rfl
  have c:h∈lD (as.map (·.2)):=by simpa using c
  rw[az<|gW _,ezz,aL (A5.mp c).1];rfl
 ext ys H2 ⟨s2,e⟩ l hl
 replace e:ys=zz:=e
 rw[e];show k l zz _ (s1.trans<|s2.trans<|aB hl _) au ?_;rw[ezz];by_cases c:h∈as.map (·.2);·rw[aL c];show{λ_=>c,λ_=>9}
 rw[az c];show{λq=>(by cases q),λq=>absurd q c}
inductive Q0(K:Frag)(vs:Aan)(H:Hp)(Q:VK)(_x3:XK):Prop
 |mk (v:V) (h:pi) (as:List One) (_:vs=[v]) (_:QK K H v h as) (_:xW h) (_:(∀a∈as,xW a.2)) (_:as.length<=100) (_:∀H',aI H H'->Q (.bl<|decide (h∈as.map (·.2))) H')
def P0:bL ["question"] ["question"] (bo HV):=fS 76
def Qb{f:cr}{fd:ut}(F:dh K "is_bound" "is_bound" HV f fd)(T:Txt K mg)(Hm:bY P w K mg base 4 "loose_unknowns" ["question"] (QY K)):cm P w K mg base dZ 5 f fd ["question"] (Q0 K):=by
 show F.ok P0 85;let(v,h,as,rfl,qk,uh,ua,la,k):=h;let(hd,mS,q,aa,gg,rfl,hq,kJ,jo):=id qk;show{_,aP<|bH<|qW (gu Iq (bh cW 9 T.eZ bz<|bB<|bV dv (pv 0) bb (λ_ _=>9)) bb<|cL _)<|vt<|gu (VU hr.ade) (cl Hm hr 21) (dy fQ)<|cL _,?_};show{_,9,_,_,_,_,9,9,hq,9,_,_,9,.inr ⟨_,kJ,rfl⟩,_,_,9,9,_,9,?_};show hX (λc1=>?_) (λc1=>?_)
 ·show{_,9,-q,h,as,9,qk,uh,ua,la,λl zs H1 s1 hl iff=>{31,λe he=>?_}};have s2:aI H1 (upd H1 e 74):=aB he _;have e1:decide (h∈as.map (·.2))=zs.isEmpty:=by rw[dO,bg,List.isEmpty_iff];show iff.symm
  rw[e1]at k;show{l,e,zs,9,9,aT.of<|s2 _ _ hl,80,k _<|s1.trans s2}
 have e0:as=[]:=by
  cases as with
  |nil=>rfl
  |cons b r=>show absurd (aO (by change(0:Int)<(gg.length:Nat);rw[(aQ jo),bc];lia)) c1
 have:=k H<|aI.refl H;rw[e0]at this;show this
inductive JJ(K:Frag)(vs:Aan)(H:Hp)(Q:VK)(_x3:XK):Prop
 |mk (v:V) (t:pi) (_:vs=[v]) (_:QK K H v "?x" [(t,"?x")]) (_:∀(r:cr)(H':Hp),aI H H'->H r=none->H' r>.lst []->Q (-r) H')
def Fd:bL ["view"] ["view"] (bo xp):=fS 76
def Zf{f:cr}{fd:ut}(F:dh K "inner_unknowns" "inner_unknowns" xp f fd)(T:Txt K mg)(iH:bY P w K mg base 3 "unknowns_of" ["question"] (Ag K)):cm P w K mg base dZ 4 f fd ["view"] (JJ K):=by
 show F.ok Fd 85;obtain⟨v,t,rfl,⟨hd,mS,qu⟩,k⟩:=h;let(q,aa,gg,rfl,hq,kJ,jo):=id qu;show{_,aP<|bH<|o8 9 (cA (fs:=["view"]) (fr:=[0])) (cN<|cl iH hr 21) (λ_ _ _ _=>cU (rF) (pv 0) (bV (iC) (pv 1) bb (λ_ _=>9)) 50) 68,?_};show{_,9,-q,-hd,_,9,qu,λa ha=>by rw[aw.mp ha];show aaz,by change 1<=100;decide,λul H1 s1 ZC yS=>?_}
 replace yS:H1 ul>.lst ((lD ["?x"]).map V.str):=yS
 rw[(UZ "?x" aaB)]at yS;show{ul,9,{_,aT.of yS},eJ (xs:=[.str "?x"]) (λi ys H3=>H3=H1/\ys=[]) 7 ⟨rfl,rfl⟩ (λi ys H3 hi ⟨e1,e2⟩=>{e1▸aT.of yS,e2▸aF _}) ?_ ?_}
 ·ext i x ys H3 N hc ⟨rfl,rfl⟩ hN;let(e,rfl):=gC (ao _) hc;cases e;show{_,9,_,9,_,_,_,_,9,9,bf hq s1,9,hd,_,9,.inr<|bf mS s1,9,9,_,9,?_};have e1:DJ (.str "?x") [V.str "?x"]=true:=by decide+kernel
  show hU<|hN _ _ ⟨rfl,rfl⟩
 ext ys H3 ⟨rfl,rfl⟩ l hl;show k l _ (s1.trans<|aB hl _) (s1.free hl) au
def tabOf(xs:List One)(nm:pi):pi:=((xs.find? λx=>decide (x.1=nm)).map (·.2)).getD ""
def KD(K:Frag)(H:Hp):List (Key×V)->List One->Prop:=Paired λkv x=>kv.1=Sum.inr x.1/\QK K H kv.2 "?x" [(x.2,"?x")]
def KD.tp{H H':Hp}(t:bu H H'){kvs:List (Key×V)}{xs:List One}(h:KD K H kvs xs):KD K H' kvs xs:=Paired.imp' (λ_ _ q=>{q.1,q.2.tp t}) h
theorem KD.get{H:Hp}{nm:pi}:∀{kvs:List (Key×V)}{xs:List One},KD K H kvs xs->nm∈xs.map (·.1)->∃v,j0 kvs (Sum.inr nm:Key)>v/\QK K H v "?x" [(tabOf xs nm,"?x")]
 |_,_,.nil,h=>by cases h
 |kv::_,x::xs,.cons q t,h=>by
  by_cases c:x.1=nm;·show{kv.2,uu (by rw[q.1,c]),?_};unfold tabOf;rw[eX (by show aO c)];show q.2
  let(v,h1,h2):=KD.get t ((aJ.mp h).resolve_left λe=>c e.symm);show{v,by rw[rK (λe=>c (by rw[q.1]at e;injection e))];show h1,?_};unfold tabOf at h2⊢;rw[dU<|↑c];show h2
def SJ{H:Hp}:∀{dH:Aan}{xs:List One},Paired (Gn H) dH xs->∃kvs:List (Key×V),Paired (λ(y:V)(kv:Key×V)=>∃t,y=-t/\H t>.tup [kV kv.1,kv.2]) dH kvs/\KD K H kvs xs/\kvs.map (·.1)=xs.map λx=>(Sum.inr x.1:Key):=by
 ext dH xs h
 induction h with
 |nil=>show{[],.nil,.nil,9}
 |@cons _ x _ _ y _ ih=>
  let(p,q,e,h1,h2):=y;let(kvs,a,b,c):=ih;show{(Sum.inr x.1,q)::kvs,.cons ⟨p,e,h1⟩ a,.cons {9,h2.k} b,by rw[bI,bI,c]}
structure Gq(K:Frag)(H:Hp)(v:V)(h:pi)(xs cs:List One):Prop where
 q:QK K H v h cs
 DI:∀a∈cs,a.1∈xs.map (·.1)
 uh:xW h
 ua:∀a∈cs,xW a.2
 la:cs.length<=10
def Gq.tp{H H':Hp}(t:bu H H'){v:V}{h:pi}{xs cs:List One}(x:Gq K H v h xs cs):Gq K H' v h xs cs:={x.q.tp t,x.DI,x.uh,x.ua,x.la}
inductive QZ(K:Frag)(vs:Aan)(H:Hp)(Q:VK)(_x3:XK):Prop
 |mk (xs:List One) (kd:cr) (kvs:List (Key×V)) (v:V) (h:pi) (cs:List One) (_:vs=[-kd,v]) (_:H kd>.dK kvs) (_:KD K H kvs xs) (_:Gq K H v h xs cs) (_:∀H',aI H H'->Q .cx H')
def mv:bL ["kept","question","place","atom","name","terms"] ["kept","question"] (bo B4):=fS 76
def JZ{f:cr}{fd:ut}(F:dh K "check_views" "check_views" B4 f fd)(T:Txt K mg):cm P w K mg base dZ 1 f fd ["kept","question"] (QZ K):=by
 show F.ok mv 85;let(xs,kd,kvs,v,h,cs,rfl,OK,hK,qv,k):=h;let(hd,mS,q,aa,gg,rfl,hq,kJ,jo):=id qv.q;have hu:=oE hr;show{_,aP<|fG bF 9 (GK 9 T.qZ<|bB<|bV dv (pv 1) bb (λ_ _=>9)) (iE 9<|bD (ic 2 mv)<|bD (ic 3 mv) d5)<|ay (vp (pv 3)<|iE 9<|bD (ic 4 mv)<|bD (ic 5 mv) d5)<|aP<|fh (PW.pt<|Mt (Ar<|Lf hu (pv 4)<|pv 0)<|Ig<|cU Ip (bh cW 9 T.eZ bz<|bB<|bV dv (w5 hu (pv 0) (pv 4) (λ_ _=>9)) bb (λ_ _=>9)) (bh cW 9 T.eZ bz<|bB<|pv 5)<|cL _) (aP Y0) dc,?_}
 show{_,rfl,_,_,_,_,rfl,rfl,hq,rfl,aa,rfl,⟨gg,kJ⟩,LH
  (λi Z H2=>∃(x2 x3 x4 x5:Aao),Z=[some (-kd),some (-q),x2,x3,x4,x5]/\aI H H2) {none,none,none,none,9,aI.refl H} (λi Z H2 _ zq=>by let(__,__,__,__,__,sm):=zq;show bf kJ sm) ?_ ?_}
 ·ext i x p Z H2 hx ⟨x2,x3,x4,x5,rfl,sm⟩ hp;let(a,ha,ap,t,rfl,hap,OB):=Paired.at jo hx;have jE:=sm.trans<|aB hp<|.tup [.int i,-ap];have F8:upd H2 p (.tup [.int i,-ap]) p>.tup [.int i,-ap]:=au;generalize upd H2 p (.tup [.int i,-ap])=H3 at jE F8⊢;show{p,_,9,aZ.of F8,9,_,_,9,_,_,9,9,?_};show{_,9,ap,_,9,bf hap jE,9,_,_,9,_,_,9,9,?_};let(w',h1,hd2,ZN,q2,aa2,afB,rfl,yT,__):=hK.get<|qv.DI a<|aM ha;have dg:jA H3 kd (kV<|Sum.inr a.1) (some (-q2)):=by rw[<-h1];show jA.k (jE _ _ OK)
  show{_,9,_,9,kd,_,9,dg,_,9,hU ?_};show{_,9,_,9,kd,_,9,dg,_,_,_,_,9,9,bf yT jE,9,_,_,9,.inr {_,bf ZN jE,9},_,9,_,_,9,.inr {_,bf OB jE,9},9,_,9,hU<|⟨_,_,_,_,rfl,jE⟩}
 ext Z H2 ⟨x2,x3,x4,x5,rfl,sm⟩;show k H2 sm
inductive Vb(K:Frag)(vs:Aan)(H:Hp)(Q:VK)(_x3:XK):Prop
 |mk (xs:List One) (kd:cr) (kvs:List (Key×V)) (v:V) (h:pi) (cs:List One) (_:vs=[-kd,v]) (_:H kd>.dK kvs) (_:KD K H kvs xs) (_:Gq K H v h xs cs) (_:∀(r:cr)(H':Hp),aI H H'->H r=none->H' r>.lst []->Q (-r) H')
def YG(n:Nat):(List.replicate n (0:Int)).sum=0:=by
 induction n with
 |zero=>rfl
 |succ n ih=>rw[List.replicate_succ,Cq,ih];rfl
def sS:bL ["kept","question","count","taken"] ["kept","question"] (bo Ak):=fS 76
def Iw{f:cr}{fd:ut}(F:dh K "new_unknowns" "new_unknowns" Ak f fd)(T:Txt K mg)(gY:bY P w K mg base 2 "is_unknown" ["thing"] A8)(rW:bY P w K mg base 4 "inner_unknowns" ["view"] (JJ K))(wX:bY P w K mg base 1 "terms_of" ["question"] (Gz K))(yq:bY P w K mg base 1 "new_values" ["count","taken"] MW):cm P w K mg base dZ 5 f fd ["kept","question"] (Vb K):=by
 show F.ok sS 85;let(xs,kd,kvs,v,h,cs,rfl,OK,hK,qv,k):=h;let(hd,mS,q,aa,gg,rfl,hq,kJ,jo):=id qv.q;have la:=aQ jo;have la6:=qv.la;show{_,ay (cZ 2 sS<|bh (Hc 9) 9 T.TJ 76<|bB<|uH 9 (j7 (more:=["terms"]) (fs:=["kept"]) (fr:=[0])) (jY<|bV dv (pv 1) bb (λ_ _=>9)) (λ_ _ _ _=>qj (n:=2) 9 93) (λ_ _ _ _=>bh (Ec) 9 T.eZ bz<|bB<|cl rW hr<|bB<|w5 (oE hr) (pv 2) (pv 0) (λ_ _=>9)))<|ay (xq (j:=3) sS.nd 9 9 9 (cA (fs:=[]) (fr:=[])) (cN<|cl wX hr 73) (λ_ _ _ _=>h9<|cl gY hr 21) (λ_ _ _ _=>lG Vp (pv 0) (nV bb) nW))<|aP<|bH<|hG 9 (cA (fs:=[]) (fr:=[])) (cN<|cl yq hr<|cj (pv 2)<|pv 3) (λ_ _ _ _=>dj Bk fK<|pv 0),?_}
 show{_,9,_,_,_,_,9,9,hq,9,aa,9,⟨gg,kJ⟩,yZ (λi ys H2=>aI H H2/\ys=(List.replicate i (0:Int)).map V.int) (cw ∅) {84,9} (λi ys H2 hi ⟨sm,e⟩=>{bf kJ sm,by rw[e,ag,dJ];show ao _}) ?_ ?_};·ext i x ys H2 N hc ⟨sm,rfl⟩ hN;let(a,ha,p,t,rfl,hp,OB):=Paired.at jo hc;let(w',h1,qk):=hK.get<|qv.DI a<|aM ha;show{p,_,_,9,bf hp sm,fD {_,9,_,9,kd,w',9,by rw[<-h1];show jA.k (k:=Sum.inr a.1)<|sm _ _ OK,w',_,9,qk.tp<|bu.same sm,λr H3 jE nr DM=>{_,_,9,.inl {_,aT.of DM,9},hN _ _ {sm.trans jE,?_}}}};rw[tR,ba];rfl
 ext ys H2 ⟨sm,rfl⟩ l hl;show{l,_,9,80,?_};rw[YG];have BZ:aI H (upd H2 l<|.lst<|(List.replicate gg.length (0:Int)).map V.int):=sm.trans<|aB hl _;show{_,9,-q,h,cs,9,qv.q.tp<|bu.same BZ,8,λtl H3 jE ntl OC=>?_};obtain⟨ts,ets⟩:∃ts,ts=h::cs.map (·.2):=⟨_,rfl⟩;rw[<-ets]at OC;have lts:ts.length<=11:=by rw[ets,bc,ag];lia
 have mZ:∀z∈ts,xW z:=λz hz=>by
  rw[ets]at hz;rcases aJ.mp hz with rfl|hz;·show qv.uh
  let(a,ha,rfl):=aG.mp hz;show qv.ua a ha
 show{tl,9,{_,aT.of OC},eJ (xs:=ts.map V.str) (λi ys H4=>aI H3 H4/\i<=ts.length/\ys=((ts.take i).map λz=>Txt.slice z (some 1) none).map V.str) (by rw[ag];show cw ∅) {84,aF _,9} ?_ ?_ ?_};·ext i ys H4 hi ⟨sf,_,rfl⟩;show{aT.of<|sf _ _ OC,?_};rw[ag,ag,aW];lia
 ·ext i x ys H4 N hc ⟨sf,hi,rfl⟩ hN;let(z,F4,rfl):=Sy hc;have b6:=(ar.mp F4).1;have hzT:=mZ z<|aM F4;show{_,9,z,9,aS hzT.2.1 7,λH5 Q2=>{_,9,?_}};rw[hzT.1];show i8 {_,9,_,9,_,9,bU<|cw<|aS hzT.2.1 7,hN _ _ {sf.trans Q2,b6,?_}};rw[q9 F4,ba];rfl
 ext ys H4 ⟨sf,_,rfl⟩ l2 iz;rw[ag,bq];have Q2:=((BZ.trans jE).trans sf).trans<|aB iz<|.lst<|(ts.map λz=>Txt.slice z (some 1) none).map V.str;have qD:upd H4 l2 (.lst<|(ts.map λz=>Txt.slice z (some 1) none).map V.str) l2>.lst ((ts.map λz=>Txt.slice z (some 1) none).map V.str):=au;show{_,9,_,9,0,l2,_,9,qD,7,65,λvl zs H6 Vn nvl rg lzs _=>?_};obtain rfl:zs=[]:=cc.mp ∅;show{vl,9,{_,aT.of rg},eJ (xs:=[]) (λi ys H7=>H7=H6/\ys=[]) 7 ⟨rfl,rfl⟩ (λi ys H7 hi ⟨e1,e2⟩=>{e1▸aT.of rg,e2▸aF _}) (λi x ys H7 N hc=>by cases hc) ?_};ext ys H7 ⟨rfl,rfl⟩ l3 lW;show k l3 _ ((Q2.trans Vn).trans<|aB lW _) ((Q2.trans Vn).free lW) au
def abS{k:Key}{v:V}(h:k∉l.map (·.1)):putK l k v=l++[(k,v)]:=Bf _ (by
 cases e:j0 l k with
 |none=>rfl
 |some v=>show absurd (abp e) h)
theorem GQ:∀(kvs l:List (Key×V)),((l++kvs).map (·.1)).Nodup->nG l kvs=l++kvs
 |[]=>λl _=>by rw[cy];rfl
 |kv::r=>λl h=>by
  have hn:kv.1∉l.map (·.1):=by rw[ba,gx]at h;ext e;show h.2.2 _ e _ (bI▸av) rfl
  change nG (putK l kv.1 kv.2) r=_;rw[abS hn,GQ r (l++[(kv.1,kv.2)]) (by rw[jj];show h),jj];rfl
def lN(xs cs:List One):List One:=cs.map λa=>(tabOf xs a.1,a.2)
abbrev AtX(K:Frag)(pl:cr)(H:Hp):Aan->List One->Prop:=Paired λv a=>∃l y,v=-l/\l≠pl/\H l>.lst [y]/\zl K H y a
inductive JI(K:Frag)(vs:Aan)(H:Hp)(Q:VK)(_x3:XK):Prop
 |mk (xs:List One) (vl:cr) (dH:Aan) (v:V) (h:pi) (cs:List One) (_:vs=[-vl,v]) (_:aT K H vl dH) (_:Paired (Gn H) dH xs) (_:(xs.map (·.1)).Nodup) (_:Gq K H v h xs cs) (_:∀(r:cr)(kU:Aan)(H':Hp),aI H H'->H r=none->H' r>.lst kU->EJ K H' kU (lN xs cs)->Q (-r) H')
def eM:bL ["views","question","kept","fresh","parts","name","terms","head","atoms","inner","given"] ["views","question"] (bo xm):=fS 76
def Zd{f:cr}{fd:ut}(F:dh K "unfolded_parts" "unfolded_parts" xm f fd)(T:Txt K mg)(Mo:bY P w K mg base 1 "check_views" ["kept","question"] (QZ K))(Kw:bY P w K mg base 5 "new_unknowns" ["kept","question"] (Vb K))(rW:bY P w K mg base 4 "inner_unknowns" ["view"] (JJ K))(tW:bY P w K mg base 1 "image_maps" ["terms","given"] (S5 K)):cm P w K mg base dZ 6 f fd ["views","question"] (JI K):=by
 show F.ok eM 85;let(xs,vl,dH,v,h,cs,rfl,rg,hV,ID,qv,k):=h;let(hd,mS,q,aa,gg,rfl,hq,kJ,jo):=id qv.q;have hu:=oE hr;have la6:=qv.la;let(kvs,hkp,hK,ek):=SJ hV;have hm:=GQ _ [] (by
  rw[iB,ek];have:=Lj.mpr ID;rw[cX]at this;show this)
 show{_,ay (cZ 2 eM<|cG (Jr hr.hd) 9 T.xy 76 21)<|ay (g9<|cl Mo hr<|cj (pv 2)<|pv 1)<|ay (cZ 3 eM<|cl Kw hr<|cj (pv 2)<|pv 1)<|ay (cZ 4 eM<|dy fQ)<|ay (fG bF 9 (jY<|bV dv (pv 1) bb (λ_ _=>9)) (iE 9<|bD (ic 5 eM)<|bD (ic 6 eM) d5)<|ay (vp (w5 hu (pv 2) (pv 5) (λ_ _=>9))<|iE 9<|bD (ic 07 eM)<|bD (ic 08 eM) d5)<|ay (cZ 09 eM<|cl rW hr<|bB<|w5 hu (pv 2) (pv 5) (λ_ _=>9))<|ay (mx (i:=10) eM.nd 9 (Or.inr 9)<|Dj (c:=true) 9 T.xy 9 T.yP hr.hd<|cj (dj mz (cG jc 9 T.mB 76<|bB<|pv 07)<|pv 09)<|dj mz (cG jc 9 T.mB 76<|bB<|pv 6)<|lG uB (pv 3) nW<|nV<|bh cW 9 T.eZ bz<|bB<|pv 09)<|ay (cZ 3 eM<|lG uB (pv 3) (nV<|bh cW 9 T.eZ bz<|bB<|pv 09) nW)<|aP<|g9<|j4 cb f7 f6 pz (pv 4)<|bB<|uH 9 (j7 (more:=["held"]) (fs:=["given"]) (fr:=[10])) (jY<|pv 08) (λ_ _ _ _=>qj (n:=2) 9 93) (λ_ _ _ _=>dF<|cj (pv 0)<|cl tW hr<|cj (pv 1)<|pv 2))<|aP<|bH<|pv 4,?_}
 show iq λR eR=>?_;show{_,9,vl,_,kvs,9,rg,hkp,λkd aie=>?_};rw[hm];rename_i kd aie H1 BZ OK;have tp1:=bu.same BZ;show bT eR λR eR=>?_;show{_,9,_,9,xs,kd,kvs,-q,h,cs,9,OK,hK.tp tp1,qv.tp tp1,λH2 oS=>?_};have CK:=tp1.trans<|bu.same oS;show bT (T:=R) eR λR eR=>?_;show{_,9,_,9,xs,kd,kvs,-q,h,cs,9,oS _ _ OK,hK.tp CK,qv.tp CK,λf0 H3 jE nf0 hf0=>?_};show bT (T:=R) eR λR eR=>?_;show{31,λpl OH=>?_};rename_i pl OH H4 sf T6;have mO:=BZ.trans<|oS.trans jE;have nH:∀b o,H3 b>o->b≠pl:=λb o e=>a9 e OH;have aff:=jE _ _<|oS _ _ OK;have npl:=IA OH;have SU:=bu.same mO;show bT eR λR eR=>?_;show{_,rfl,_,_,_,_,rfl,rfl,fA hq<|SU.trans<|bu.same sf,rfl,aa,rfl,{gg,fA kJ<|SU.trans<|bu.same sf},uP
  (λi Z H5=>∃(x5 x6 x7 x8 x9 UW:Aao)(fl:cr)(kU:Aan),Z=[some (-vl),some (-q),some (-kd),some (-fl),some (-pl),x5,x6,x7,x8,x9,UW]/\i<=cs.length/\SB pl H3 H5/\fl≠pl/\H5 fl>.lst []/\H5 pl>.lst kU/\AtX K pl H5 kU (lN xs<|cs.take i))
  {none,none,none,none,none,none,f0,[],9,aF _,SB.same sf,a9 hf0 OH,sf _ _ hf0,T6,.nil} (λi Z H5 _ zq=>by let(__,__,__,__,__,__,__,__,__,__,sb,__):=zq;show fA kJ<|SU.trans<|sb.tp npl) ?_ ?_}
 ·ext i x Z H5 D1 hx ⟨x5,x6,x7,x8,x9,UW,fl,kU,rfl,_,Ai,nfl,xJ,Kd,hP⟩ iy _;let(a,ha,ap,tp,rfl,hap,F6):=Paired.at jo hx;have hi:=(ar.mp ha).1;have MK:=SU.trans<|Ai.tp npl;let(w',hv,qk):=(hK.tp MK).get<|qv.DI a<|aM ha;let(hd2,ZN,q2,aa2,afB,rfl,yT,afm,Uc):=id qk;obtain⟨b1,rfl,hb1⟩:∃b1,afB=[b1]/\zl K H5 b1 (tabOf xs a.1,"?x"):=by
   cases Uc with
   |cons h t=>
    cases t;show⟨_,rfl,h⟩
  have afe:=Ai _ _ (nH _ _ aff) aff;have dg:∀{H':Hp},H' kd>.dK kvs->jA H' kd (kV<|Sum.inr a.1) (some (-q2)):=λh=>by rw[<-hv];show jA.k h
  show{ap,_,9,fA hap MK,9,_,_,9,_,_,9,9,?_};show iq λR1 e1=>?_;show{_,9,_,9,kd,_,9,dg afe,q2,_,9,yT,9,_,_,9,_,_,9,9,?_};show bT (T:=R1) e1 λR1 e1=>?_;show{_,9,_,9,kd,_,9,dg afe,-q2,_,9,qk,λil H6 Vn aiM R8=>?_};show bT (T:=R1) e1 λR1 e1=>?_;show{_,9,hd2,_,9,.inr<|bf ZN Vn,?_}
  intros c1 Xe H7 sm7 aio
  show{_,9,c1,il,_,_,9,9,aio,sm7 _ _ R8,42,?_}
  intros c2 tK H8 sm8 ain
  have adK:=Vn.trans<|sm7.trans sm8;show{_,9,tp,_,9,.inr<|bf (fA F6 MK) adK,?_}
  intros c3 hc3 H9 sm9 aim
  have adJ:=adK.trans sm9;have adI:=sm7.trans<|sm8.trans sm9;show{_,9,IB {_,9,_,_,9,.inl {_,aT.of<|adI _ _ R8,9},_,9,fl,_,9,aT.of<|adJ _ _ xJ,λc4 Xd=>?_}};have Ta:=aB Xd 87;have afi:upd H9 c4 87 c4>.lst []:=au;generalize hHA:(upd H9 c4<|.lst _)=HA;have eA:(upd H9 c4 87)=HA:=hHA;rw[eA]at Ta afi;show{c3,c4,_,_,9,9,Ta _ _ aim,afi,42,?_}
  intros c5 hc5 wu adM ail
  have agD:=(sm9.trans<|Ta.trans adM) _ _ ain;show{c2,c5,[Sum.inr "?x"],[.str a.2],9,aT.of agD,aT.of ail,9,λgd aii=>?_};have adL:=aB aii<|.dK<|gK [("?x",a.2)];have hgd:upd wu gd (.dK<|gK [("?x",a.2)]) gd>.dK (gK [("?x",a.2)]):=au;generalize hHB:(upd wu gd<|.dK _)=HB;have eB:(upd wu gd<|.dK<|gK [("?x",a.2)])=HB:=hHB;rw[eB]at adL hgd;have Ao:=Ta.trans<|adM.trans adL;have s5B:=adJ.trans Ao;show bT e1 λR1 e1=>?_;show{_,9,_,9,_,_,9,.inl {_,aT.of<|Ao _ _<|adI _ _ R8,9},_,9,IB {fl,_,9,aT.of<|s5B _ _ xJ,λc6 LC=>?_}};have nc6:=(a9 (s5B _ _ Kd) LC).symm;have YM:=aB LC 87;have afh:upd HB c6 87 c6>.lst []:=au;generalize hHC:(upd HB c6<|.lst _)=HC;have eC:(upd HB c6 87)=HC:=hHC;rw[eC]at YM afh;have Vw:=s5B.trans YM;show jg e1 ?_;show{_,9,.inl {9,_,aT.of<|Vw _ _ Kd},_,9,aa2,9,{_,bf afm Vw},yZ (xs:=[b1]) (λj ys HD=>aI HC HD/\((j=0/\ys=[])\/j=1/\∃y,ys=[y]/\zl K HD y (tabOf xs a.1,a.2))) 86 {84,.inl ⟨rfl,rfl⟩} ?_ ?_ ?_}
  ·ext j ys HD hj ⟨sD,h⟩;show{bf afm<|Vw.trans sD,?_};rcases h with⟨_,rfl⟩|⟨rfl,_,rfl,_⟩;·show aF _
   show ao _
  ·ext j y ys HD N hc ⟨sD,h⟩ hN;let(e,rfl):=gC (ao _) hc;cases e;obtain rfl:ys=[]:=h.elim (·.2) λq=>by cases q.1
   let(bp,bt,rfl,hbp,hbt):=hb1.tp<|bu.same<|Vw.trans sD;show{bp,_,_,9,hbp,fD {_,9,_,9,_,9,bt,gd,"?x",[("?x",a.2)],9,hbt,sD _ _<|YM _ _ hgd,λr HE sE _ hrE=>{95,λap2 aip=>?_}}};have sF:=aB aip<|.tup [.str<|tabOf xs a.1,-r];show hN _ _ {(sD.trans sE).trans sF,.inr {9,_,9,ap2,r,9,aZ.of au,aZ.of<|sF _ _ hrE}}
  ext ys HD ⟨sD,h⟩ l hl;let(y,rfl,hy):=h.elim (λq=>by cases q.1) (·.2);have sE:=aB hl<|.lst [y];have hlE:upd HD l (.lst [y]) l>.lst [y]:=au;have s5D:=Vw.trans sD;have We:=(a9 (s5D _ _ Kd) hl).symm;have hyE:=hy.tp<|bu.same sE;have Vv:=s5D.trans sE;have hcE:=sE _ _<|sD _ _ afh;generalize upd HD l (.lst [y])=HE at sE hlE hyE Vv hcE⊢;have aeY:=Vv _ _ Kd;have lpv:kU.length<=i:=by rw[aQ hP];unfold lN;rw[ag,aW];lia
  show{_,_,_,9,9,aeY,cw ∅,?_};have t':bu HE (upd HE pl<|.lst<|kU++[-l]):=bu.upd<|kX aeY;have u':SB pl HE (upd HE pl<|.lst<|kU++[-l]):=SB.up;show iy _ _ {_,_,_,_,_,_,c6,kU++[-l],9,hi,Ai.trans<|(SB.same Vv).trans u',nc6,u' _ _ nc6 hcE,au,?_};unfold lN;rw[q9 ha];show cY (Paired.imp' (λ_ _ zq=>by let(l,y,e,n,h1,h2):=zq;show{l,y,e,n,u' _ _ n<|Vv _ _ h1,(h2.tp<|bu.same Vv).tp t'}) hP)<|.cons {l,y,9,We,u' _ _ We hlE,hyE.tp t'} .nil
 ext Z H5 ⟨x5,x6,x7,x8,x9,UW,fl,kU,rfl,_,Ai,nfl,xJ,Kd,hP⟩;rw[(aQ jo),bq]at hP;show jg (T:=R) eR<|{_,9,k pl kU H5 (λb o e=>Ai _ _ (nH _ _<|mO _ _ e)<|mO _ _ e) (mO.free OH) Kd<|Paired.imp' (λ_ _ zq=>by let(l,y,e,__,h1,h2):=zq;show⟨l,y,e,h1,h2⟩) hP}
inductive aaG(K:Frag)(vs:Aan)(H:Hp)(Q:VK)(_x3:XK):Prop
 |mk (xs:List One) (vl:cr) (dH:Aan) (v:V) (h:pi) (cs:List One) (_:vs=[-vl,v]) (_:aT K H vl dH) (_:Paired (Gn H) dH xs) (_:(xs.map (·.1)).Nodup) (_:Gq K H v h xs cs) (_:∀(r:cr)(H':Hp),aI H H'->QK K H' (-r) h (lN xs cs)->Q (-r) H')
def rY(xs cs:List One):(lN xs cs).length=cs.length:=ag _
def PV:bL ["views","question"] ["views","question"] (bo HM):=fS 76
def P4{f:cr}{fd:ut}(F:dh K "unfolded" "unfolded" HM f fd)(T:Txt K mg)(rV:bY P w K mg base 6 "unfolded_parts" ["views","question"] (JI K))(Hn:bY P w K mg base 1 "joined" ["parts"] (GB K)):cm P w K mg base dZ 07 f fd ["views","question"] (aaG K):=by show F.ok PV 85;let(xs,vl,dH,v,h,cs,rfl,rg,hV,ID,qv,k):=h;let(hd,mS,q,aa,gg,rfl,hq,kJ,jo):=id qv.q;show{_,aP<|bH<|dF<|cj (bV dv (pv 1) bb (λ_ _=>9))<|cl Hn hr<|bB<|cl rV hr 36,?_};show{_,9,_,_,_,_,9,9,hq,9,_,9,_,9,xs,vl,dH,-q,h,cs,9,rg,hV,ID,qv,λr kU H1 s1 _ nK hP=>?_};show{r,kU,_,rfl,nK,hP,by rw[rY];have:=qv.la;lia,λt tvs H2 s2 _ ht hA=>{95,λp hp=>?_}};have s3:aI H2 (upd H2 p<|.tup [-hd,-t]):=aB hp _;show k p _ (s1.trans<|s2.trans s3) {hd,bf mS<|s1.trans<|s2.trans s3,p,t,tvs,9,aZ.of au,aZ.of<|s3 _ _ ht,hA.tp<|bu.same s3}
theorem UU:∀(us vs:Aag),(us.map (Sum.inr:pi->Key)).zip (vs.map V.str)=gK (us.zip vs)
 |[],_=>rfl
 |_::_,[]=>rfl
 |u::us,v::vs=>by change(Sum.inr u,V.str v)::(us.map (Sum.inr:pi->Key)).zip (vs.map V.str)=(Sum.inr u,V.str v)::gK (us.zip vs);rw[UU us vs]
def Lo{us vs:Aag}(nd:us.Nodup)(l:us.length=vs.length):nG [] ((us.map (Sum.inr:pi->Key)).zip<|vs.map V.str)=gK (us.zip vs):=by rw[GQ _ [] (by rw[iB,List.map_fst_zip (by rw[ag,ag];lia)];show Lj.mpr nd),iB,UU]
def RM{zs:Aag}:(zs.map (Sum.inr:pi->Key)).map kV=zs.map V.str:=by rw[cX];rfl
def aex{g:km}{x:pi}(hg:∀q∈g,Gp q.2)(hx:Gp x):Gp (GU g x):=by
 unfold GU;cases e:dC.get g x with
 |none=>show hx
 |some v=>show hg _<|dC.get_some e
inductive MU(K:Frag)(vs:Aan)(H:Hp)(Q:VK)(_x3:XK):Prop
 |mk (v1 v2:V) (h:pi) (L qs:List One) (_:vs=[v1,v2]) (_:QK K H v1 h L) (_:QK K H v2 h qs) (_:wY h qs L) (_:L.length<=10) (_:∀H' r p rv,aI H H'->H' r>.tup [.str "parted",-p,-rv]->Q (-r) H')
def vi:bL ["one","other","unknowns","values","given","tables"] ["one","other"] (bo Nb):=fS 76
def VZ{f:cr}{fd:ut}(F:dh K "parted" "parted" Nb f fd)(T:Txt K mg)(iH:bY P w K mg base 3 "unknowns_of" ["question"] (Ag K))(wX:bY P w K mg base 1 "terms_of" ["question"] (Gz K))(yq:bY P w K mg base 1 "new_values" ["count","taken"] MW)(tW:bY P w K mg base 1 "image_maps" ["terms","given"] (S5 K))(zW:bY P w K mg base 3 "tables_of" ["atoms"] (GA K)):cm P w K mg base dZ 4 f fd ["one","other"] (MU K):=by
 show F.ok vi 85;let(v1,v2,h,L,qs,rfl,q1,q2,ok,lL,k):=h;let(h1,hh1,qu):=id q1;let(r1,a1,QF,rfl,nK,Sg,E2):=id qu;show{_,ay (cZ 2 vi<|cl iH hr 21)<|ay (cZ 3 vi<|cl yq hr<|cj (bh cW 9 T.eZ bz<|bB<|pv 2)<|dj mz (cl wX hr 21)<|cl wX hr 73)<|ay (mx (i:=4) vi.nd 9 (Or.inr 9)<|Dj (c:=true) 9 T.xy 9 T.yP hr.hd<|cj (pv 2)<|pv 3)<|ay (cZ 5 vi<|cl zW hr<|bB<|uH 9 (j7 (more:=["terms"]) (fs:=["given"]) (fr:=[4])) (jY<|bV dv (pv 0) bb (λ_ _=>9)) (λ_ _ _ _=>qj (n:=2) 9 93) (λ_ _ _ _=>dF<|cj (pv 0)<|cl tW hr<|cj (pv 1)<|pv 2))<|aP<|bH<|dF<|pf fK (pv 5)<|cl tW hr<|cj (bV dv (pv 0) bb (λ_ _=>9))<|pv 4,?_}
 have lq:=ok.lq;have lv1:=aQ E2;show iq λR eR=>?_;show{_,9,-r1,-h1,L,9,qu,λa ha=>aS (ok.fL a ha).2.2.1 7,ok.lL,λul H1 s1 ZC yS=>?_};obtain⟨us,Jc⟩:∃us,us=lD (L.map (·.2)):=⟨_,rfl⟩;rw[<-Jc]at yS;have lus:us.length<=10:=by rw[Jc];have:=Ka<|L.map (·.2);rw[ag]at this;lia
 show bT eR λR eR=>?_;show{_,9,_,_,9,.inl {_,aT.of yS,9},_,9,-r1,h,L,9,q1.tp<|bu.same s1,ok.lL,λt1 H2 s2 ht0 OE=>?_};show{_,9,v2,h,qs,9,q2.tp<|bu.same<|s1.trans s2,ok.lq,λt2 H3 s3 aiP OD=>?_};show{t1,t2,_,_,9,9,s3 _ _ OE,OD,by rw[ag,ag,bc,bc,ag,ag];show bU<|cw ∅,λtl OC=>?_};have s4:=aB OC<|.lst<|(h::L.map (·.2)).map V.str++(h::qs.map (·.2)).map V.str;have T2:upd H3 tl (.lst<|(h::L.map (·.2)).map V.str++(h::qs.map (·.2)).map V.str) tl>.lst (((h::L.map (·.2))++(h::qs.map (·.2))).map V.str):=by rw[au,ba]
 have lul:(us.map V.str).length=us.length:=ag _;show{_,tl,_,9,T2,8,by rw[lul];simp only[aU,bc,ag];lia,λvl zs H5 s5 aiO rg lzs okz=>?_};have s15:=(s2.trans<|s3.trans s4).trans s5;have lz:us.length=zs.length:=by lia
 show bT eR λR eR=>?_;show{_,9,_,9,ul,vl,us.map Sum.inr,zs.map V.str,9,by rw[RM];show aT.of<|s15 _ _ yS,aT.of rg,by rw[ag,ag,lz],λd hd=>?_};rw[Lo (by rw[Jc];show KO _) lz];obtain⟨g,eg⟩:∃g,g=us.zip zs:=⟨_,rfl⟩;rw[<-eg];have gok:∀q∈g,Gp q.2:=λq hq=>by rw[eg]at hq;show okz _ (oM hq).2
 rename_i d hd H6 s6 xM;have sV:=s1.trans<|s15.trans s6;have agF:=E2.tp<|bu.same sV;show bT eR λR eR=>?_;show{_,9,_,_,_,_,9,9,bf nK sV,9,a1,9,{QF,bf Sg sV},yZ (xs:=QF) (λi ys H7=>aI H6 H7/\i<=L.length/\kG K H7 ys ((L.take i).map λa=>(a.1,GU g a.2))) (cw ∅) {84,aF _,.nil} ?_ ?_ ?_};·ext i ys H7 hi ⟨s7,Ce,hy⟩;show{bf Sg<|sV.trans s7,?_};rw[aQ hy,ag,aW];lia
 ·ext i x ys H7 N hx ⟨s7,Ce,hy⟩ hN;let(a,ha,p,t,rfl,hp,ht):=Paired.at agF hx;have b6:=(ar.mp ha).1;show{p,_,_,9,bf hp s7,fD {_,9,_,9,_,9,t,d,a.2,g,9,bf ht s7,s7 _ _ xM,λrr H8 s8 _ WV=>{95,λpp F8=>?_}}};have s9:=aB F8<|.tup [.str a.1,-rr];show hN _ _ {s7.trans<|s8.trans s9,b6,?_};rw[q9 ha];show cY (hy.tp<|bu.same<|s8.trans s9)<|.cons {pp,rr,9,aZ.of au,aZ.of<|s9 _ _ WV} .nil
 ext ys H7 ⟨s7,_,hy⟩ l hl;rw[lv1,bq]at hy;rename_i l hl H8 s8 W4;have s68:=s7.trans s8;show{l,ys,_,9,.inl<|aT.of W4,Pq<|hy.tp<|bu.same s8,by rw[ag,ag];show lL,23,λp fs H9 s9 QO=>?_};·let(c,hc,rfl):=aG.mp hb;let(a,ha,rfl):=aG.mp hc;show{by change 1<=1;decide,by change 1<=4;decide,λz hz=>by rw[aw.mp hz];show aex gok (ok.fL a ha).2.2}
 have FV:=sV.trans<|s68.trans s9;show jg eR ?_;show{_,9,_,9,_,_,_,_,9,9,bf nK FV,9,_,9,h1,d,h,g,9,bf hh1 FV,s9 _ _<|s68 _ _ xM,λrv HA sA _ _=>{(by change 3<=dL;decide),λr ug=>k _ r p rv (FV.trans<|sA.trans<|aB ug _) au}}
inductive MP(K:Frag)(vs:Aan)(H:Hp)(Q:VK)(_x3:XK):Prop
 |mk (v1 v2:V) (h:pi) (L qs:List One) (_:vs=[v1,v2]) (_:QK K H v1 h L) (_:QK K H v2 h qs) (_:wY h qs L) (_:L.length<=10) (_:qs.length<=10) (_:(∀H' r l,aI H H'->H' r>.tup [.str "within",-l]->E6 h qs L->Q (-r) H')) (_:∀H' r p rv,aI H H'->H' r>.tup [.str "parted",-p,-rv]->¬E6 h qs L->Q (-r) H')
def KZ:bL ["one","other","given"] ["one","other"] (bo Na):=fS 76
def VX{f:cr}{fd:ut}(F:dh K "within" "within" Na f fd)(T:Txt K mg)(z9:bY P w K mg base 10 "found_map" ["one","other"] (JK K))(aas:bY P w K mg base 4 "parted" ["one","other"] (MU K)):cm P w K mg base dZ 11 f fd ["one","other"] (MP K):=by
 show F.ok KZ 85;let(v1,v2,h,L,qs,rfl,q1,q2,ok,lL,lq,k1,k2):=h;show{_,ay (cZ 2 KZ<|cl z9 hr 36)<|ay (fh (cU xv (pv 2) jF<|cL _) (aP<|bH<|cl aas hr 36) dc)<|aP<|bH<|dF<|cj fK<|bh (xU hr.hd) 9 T.mX 76<|bB<|NJ<|pv 2,?_}
 show{_,9,_,9,v1,v2,h,L,qs,9,q1,q2,ok,λH1 s1 no=>{_,9,9,_,9,i8 {_,9,_,9,v1,v2,h,L,qs,9,q1.tp<|bu.same s1,q2.tp<|bu.same s1,ok,lL,λH2 r p rv s2 xG=>k2 H2 r p rv (s1.trans s2) xG no}},λH1 d g s1 hd lg yes=>?_};show{_,9,9,_,9,hU {_,9,d,gK g,9,hd,?_}}
 intros iv hiv H2 s2 aih
 show{iv,d,g,9,aih,s2 _ _ hd,8,λl zs H3 s3 lW iz aiH=>{95,λr hr=>?_}};have s3:aI H2 H3:=s3;show k1 _ r l ((s1.trans s2).trans<|s3.trans<|(aB lW _).trans<|aB hr _) au yes
end
end kE
namespace L2
open PySem PySem.Spec PyProof.Rows
def Hb{fr:List Nat}{tt:TT}{te:TE}{Z:St}{H1:Hp}{R:cr->Aan->Hp->Prop}{n:Nat}(Pv:Nat->Aan->Hp->Prop)(hx:n<dL)(h0:Pv 0 [] H1)(hl:∀i ys H,i<=n->Pv i ys H->91<=i)
  (hs:∀(i:Nat)(ys:Aan)(H:Hp)(N:Aan->Hp->Prop),i<n->Pv i ys H->(∀gL H',Pv (i+1) gL H'->N gL H')->
   tt (some (.int (i:Int))::slotsOf fr Z) H λb H4=>if b=true then te (some (.int (i:Int))::slotsOf fr Z) H4 103 else N ys H4)
  (hd:∀ys H,Pv n ys H->∀l,H l=none->R l ys H):BV (Yi 0 n) fr tt te Z H1 R:=by
 show{λi m ys H=>m=n -i/\i<=n/\Pv i ys H,{n,75,aF _,h0},?_};ext i m ys H ⟨rfl,hi,p⟩;have hy:=hl i ys H hi p;by_cases b6:i<n;·show .inr {b6,8,?_};ext v H3 ⟨rfl,rfl⟩;rw[pY];show hs i ys H3 (λgL H'=>∃m',m'<n -i/\m'=n -(i+1)/\i+1<=n/\Pv (i+1) gL H') b6 p λgL H' p'=>{_,8,9,b6,p'}
 have e:i=n:=by lia
 subst e;show .inl {ao _,8,hd ys H p}
end L2
namespace pK
open PySem PySem.W PyProof.Rows PySem.Calls
def lO:List Nat->Nat
 |[]=>0
 |[a]=>a*1001
 |a::b::_=>a*1001+b+1
structure AW(l:List Nat):Prop where
 lo:1<=l.length
 hi:l.length<=2
 all:∀n∈l,n<1000
def AW.inj{x y:List Nat}(a:AW x)(b:AW y)(e:lO x=lO y):x=y:=by
 match x,y,a,b with
 |[a],[b],_,_=>
  simp only[lO]at e;congr 1;lia
 |[a],[b,c],_,hb=>
  have:=hb.all c 75;simp only[lO]at e;lia
 |[a,c],[b],ha,_=>
  have:=ha.all c 75;simp only[lO]at e;lia
 |[a,c],[b,d],ha,hb=>
  have h1:=ha.all c 75;have h2:=hb.all d 75;simp only[lO]at e;have:a=b:=by lia
  subst this;have:c=d:=by lia
  rw[this]
 |[],_,ha,_=>show absurd ha.lo 7
 |_,[],_,hb=>show absurd hb.lo 7
 |_::_::_::_,_,ha,_=>show absurd ha.hi 75
 |_,_::_::_::_,_,hb=>show absurd hb.hi 75
def ltI:List Nat->List Nat->Bool
 |_,[]=>false
 |[],_::_=>true
 |a::r,b::q=>if a=b then ltI r q else decide (a<b)
def aeu{x y:List Nat}(a:AW x)(b:AW y):ltI x y=decide (lO x<lO y):=by
 rw[dO,bg]
 match x,y,a,b with
 |[a],[b],_,_=>
  simp only[lO,ltI];split;·rename_i e;subst e;simp
  rw[bg];lia
 |[a],[b,c],_,hb=>
  have:=hb.all c 75;simp only[lO,ltI];split;·rename_i e;show{λ_=>by lia,λ_=>9}
  rw[bg];lia
 |[a,c],[b],ha,_=>
  have:=ha.all c 75;simp only[lO,ltI];split;·rename_i e;show{λh=>(by cases h),λh=>∅}
  rw[bg];lia
 |[a,c],[b,d],ha,hb=>
  have h1:=ha.all c 75;have h2:=hb.all d 75;simp only[lO,ltI];split
  ·rename_i e;subst e;split;·rename_i e;subst e;simp
   rw[bg];lia
  rw[bg];lia
 |[],_,ha,_=>show absurd ha.lo 7
 |_,[],_,hb=>show absurd hb.lo 7
 |_::_::_::_,_,ha,_=>show absurd ha.hi 75
 |_,_::_::_::_,_,hb=>show absurd hb.hi 75
inductive NumIs:List Nat->Aaf->Prop where
 |nil:NumIs [] []
 |cons {n:Nat} {t:Tok} {ns:List Nat} {vs:Aaf}:NumIs ns vs->NumIs (n::ns) (.int (n:Int) t::vs)
def NumIs.length:∀{ns:List Nat}{vs:Aaf},NumIs ns vs->vs.length=ns.length:=by
 ext _ _ h
 induction h with
 |nil=>rfl
 |cons _ ih=>rw[bc,bc,ih]
theorem NumIs.at:∀{ns:List Nat}{vs:Aaf}{i n:Nat},NumIs ns vs->ns[i]?>n->∃t,vs[i]?>.int (n:Int) t
 |_,_,_,_,.nil,e=>by simp at e
 |_,_,0,_,.cons (t:=t) _,e=>by cases e;show⟨t,rfl⟩
 |_,_,i+1,_,.cons r,e=>↑(r.at (i:=i)<|↑e)
def NumIs.one:∀{xs ys:List Nat}{vs:Aaf},NumIs xs vs->NumIs ys vs->xs=ys:=by
 ext xs ys vs h g
 induction h generalizing ys with
 |nil=>cases g;rfl
 |@cons n _ _ _ _ ih=>
  generalize e:(Value.int (n:Int) _::_:Aaf)=l at g;cases g with
  |nil=>cases e
  |cons b=>
   injection e with e1 e2;injection e1 with e1;subst e2;rw[ih b];congr 1;lia
def AQ(h:ss)(v:jp)(ns:List Nat):Prop:=∃a aK n dd sl,v=-a/\h.get? a>{cls:=.type "list",dict:=dd,data:=.seq aK n,slots:=sl}/\NumIs ns aK.toList
def AQ.one{h:ss}{v:jp}{xs ys:List Nat}(a:AQ h v xs)(b:AQ h v ys):xs=ys:=by let(a,aK,n,dd,sl,rfl,h1,h2):=a;let(b,lP,m,de,sm,e,q1,q2):=b;cases e;rw[h1]at q1;cases q1;show h2.one q2
section
open PySem.SeqAt
open PySem.AutoSeq1 (wpAny_loadPart')
open PySem.MeetsSeq PySem.MeetsSeq2 PySem.MeetsSeq3
def N0(l b:cr)(aK lP:Aak)(n m:Nat)(dd de:Aaj)(sl sm:Aae)(xs ys:List Nat)(hi:NumIs xs aK.toList)(hj:NumIs ys lP.toList)(k:Nat):
  ∀i:Nat,i<=55->i<=91->55 -i=k->Meets (Builtin.«list.__eq__.loop» {[-l,-b,wP i,wP 0],[]})
   (λ_ R s=>s.heap.get? l>{cls:=.type "list",dict:=dd,data:=.seq aK n,slots:=sl}/\s.heap.get? b>{cls:=.type "list",dict:=de,data:=.seq lP m,slots:=sm}/\R (.ok<|.ret<|.bool<|ltI (xs.drop i)<|ys.drop i) s):=by
 have z1:aK.size=55:=by rw[<-hi.length];simp
 have z2:lP.size=91:=by rw[<-hj.length];simp
 have fin:∀(i:Nat),i<=55->i<=91->(i=55\/i=91)->ltI (xs.drop i) (ys.drop i)=decide (aK.size<lP.size):=λi a b c=>by
  rw[z1,z2];rcases Eo b with b|b;·obtain rfl:i=55:=c.resolve_right ∅;rw[List.drop_length,j8 b,aO b];rfl
  rw[b,List.drop_length,bQ ∅];cases xs.drop 91<;>rfl
 induction k with
 |zero=>
  ext i l1 l2 hk prog w A R s h;let(hp,g,d,tk,os):=s;let(hl,hb,h):=h;have e0:aK[((i:Nat):Int).toNat]?=none:=by simp;lia
  rw[fin i l1 l2<|.inl ∅]at h
  wp_walk using wpAny_loadPart' hl,wpAny_loadPart' hb
  rw[e0];cases lP[((i:Nat):Int).toNat]?<;>(wp_walk using wpAny_loadPart' hl,wpAny_loadPart' hb;show h)
 |succ k ih=>
  ext i l1 l2 hk prog w A R s h;let(hp,g,d,tk,os):=s;let(hl,hb,h):=h;have lt1:i<55:=by lia
  let(t,e1):=hi.at<|aq lt1;have XI:aK[((i:Nat):Int).toNat]?>.int (xs[i]:Int) t:=by simpa using e1
  rcases Eo l2 with lt2|q2
  ·let(u,e2):=hj.at<|aq lt2;have sj:lP[((i:Nat):Int).toNat]?>.int (ys[i]:Int) u:=by simpa using e2
   rw[j8 lt1,j8 lt2]at h;unfold ltI at h
   wp_walk using wpAny_loadPart' hl,wpAny_loadPart' hb
   rw[XI,sj];show ae<|Ei (A:=A.in1) (s:=⟨hp,g,d,tk,os⟩) (xs[i]:Int) t (ys[i]:Int) u prog w _ _ ?_;by_cases e:xs[i]=ys[i]
   ·rw[show((xs[i]:Int)==(ys[i]:Int))=true by rw[e];show kr _];rw[aL e]at h
    wp_walk
    have hc:((i:Nat):Int)+1=((i+1:Nat):Int):=by lia
    rw[hc];show{gZ plain_eq_loop _,dA entry_eq_loop ?_};rw[tZ plain_eq_loop _];show ih (i+1) lt1 lt2 ∅ prog w A R _ ⟨hl,hb,h⟩
   rw[show((xs[i]:Int)==(ys[i]:Int))=false from dq.mpr λq=>e ∅];rw[az e]at h
   wp_walk using wpAny_loadPart' hl,wpAny_loadPart' hb
   rw[XI,sj];have e3:decide (xs[i]<ys[i])=decide ((xs[i]:Int)<(ys[i]:Int)):=by rw[dO,bg,bg];lia
   rw[e3]at h;have hri:∀(E:Aad)(Q:Aad),Q (.bool<|decide ((xs[i]:Int)<(ys[i]:Int))) ⟨hp,g,d,tk,os⟩->f8 77 A.in1 (richCompare .Lt (.int (xs[i]:Int) t)<|.int (ys[i]:Int) u) Q E ⟨hp,g,d,tk,os⟩:=λE Q h=>(PyProof.Rows.lt_int h:f8 77 A.in1 (wv .Lt _ _) Q E _)
   wp_walk using hri
   show h
  have e0:lP[((i:Nat):Int).toNat]?=none:=by simp;lia
  rw[fin i l1 l2<|.inr q2]at h
  wp_walk using wpAny_loadPart' hl,wpAny_loadPart' hb
  rw[XI,e0]
  wp_walk using wpAny_loadPart' hl,wpAny_loadPart' hb
  show h
def acd{l b:cr}{aK lP:Aak}{n m:Nat}{dd de:Aaj}{sl sm:Aae}{xs ys:List Nat}(hi:NumIs xs aK.toList)(hj:NumIs ys lP.toList):Meets (Builtin.«list.__lt__» {[-l,-b],[]})
  (λ_ R s=>s.heap.get? l>{cls:=.type "list",dict:=dd,data:=.seq aK n,slots:=sl}/\s.heap.get? b>{cls:=.type "list",dict:=de,data:=.seq lP m,slots:=sm}/\R (.ok<|.ret<|.bool<|ltI xs ys) s):=
 λprog w A R s h=>by
  let(hp,g,d,tk,os):=s;let(hl,hb,h):=h;have f3:=AutoSeq1.sub_list_list
  wp_walk using wpAny_loadPart' hl,wpAny_loadPart' hb
  show{gZ plain_eq_loop _,dA entry_eq_loop ?_};rw[tZ plain_eq_loop _];show N0 l b aK lP n m dd de sl sm xs ys hi hj _ 0 (aF _) (aF _) rfl prog w A R _ ⟨hl,hb,h⟩
end
section
variable{prog:io}{w:mo}{A:wf}{E:Aad}{s:fv}
def acm{x y:jp}{xs ys:List Nat}{C:Bool->fv->Prop}(hu:A.units<wS)(hx:AQ s.heap x xs)(hy:AQ s.heap y ys)(h:C (ltI xs ys) s):f8 77 A (keyLt' oneType' x y) C E s:=by let(a,aK,n,dd,sl,rfl,ho,hi):=hx;let(b,lP,m,de,sm,rfl,hp,hj):=hy;rw[keyLt'_oneType,oneLt'_eq];simp only[jM];show ae<|wpAny_cRoomFor hu ?_;show ae<|wpAny_callSpecialIfBound?_slot ⟨_,ho,rfl⟩ BH<|m9 BH ⟨_,ho,rfl⟩ PySem.F.entry_list_lt (PySem.F.args_list_lt_2 _ _) (acd hi hj) {ho,hp,?_};show fW h
open Classical in
def N7(h:ss)(v:jp):List Nat:=if x:∃r,AQ h v r then Classical.choose x else[]
def EX{h:ss}{v:jp}{r:List Nat}(x:AQ h v r):N7 h v=r:=by unfold N7;rw[dif_pos ⟨r,x⟩];show(sM (⟨r,x⟩:∃r,AQ h v r)).one x
def Vk{a:cr}{n:Nat}{vs:Aaf}{P:PySem.Fin->fv->Prop}(hu:A.units<wS)(ho:s.heap.get? a>wE "list" vs.toArray n)(ht:∀v∈vs,v≠ .ref a/\∃r,AW r/\AQ s.heap v r)(qE:vs.length<64)
  (k:∀(h':ss)(tk c:Nat)(us:Aaf),h'.get? a>wE "list" us.toArray c->(∀b o,b≠a->s.heap.get? b>o->h'.get? b>o)->us.Perm vs->us.Pairwise (λx y=>lO (N7 s.heap x)<=lO (N7 s.heap y))->P (.done<|.ret .none) 44):
  f8 77 A 109 P E s:=by
 by_cases c2:vs.length<2
 ·show GD ho c2 λh' c g kp=>k h' 89 c vs g kp (.refl _) ?_
  match vs,c2 with
  |[],_=>show .nil
  |[_],_=>simp
  |_::_::_,q=>simp at q;lia
 have k3:∀s',Tk 54 s'->∀v∈vs,∀r,AQ s.heap v r->AQ s'.heap v r:=λs' ⟨t,e⟩ v hv r x=>by subst e;have ne:=(ht v hv).1;let(b,aK,m,dd,sl,rfl,hb,r):=x;show{b,aK,m,dd,sl,9,af _<|af _<|(bS s.heap a _).extBut b _ (λz=>ne (by rw[z])) hb,r}
 show JM (κ:=oneType') ho ∅ qE (λs' tk=>?_) (λx hx y hy s' tk=>?_) λus h' tk c po so g kp=>k h' tk c us g kp po so
 ·show kas_kind (T:=.type "list") ∅ (λv hv=>?_) 7 7 ⟨rfl,tk⟩;let(__,r,__,x):=ht v hv;let(b,aK,m,dd,sl,rfl,hb,__):=k3 s' tk v hv r x
  refineλA Q E s2 kk q=>?_
  show ae<|Ad (kk _ _ hb)<|ah q
 let(__,r,f1,t1):=ht x hx;let(__,q,f2,t2):=ht y hy;show acm hu (k3 s' tk x hx r t1) (k3 s' tk y hy q t2) {?_,tk};rw[EX t1,EX t2,aeu f1 f2]
end
end pK
namespace L2
open PySem PySem.Spec PyProof.Rows pK
section
variable{X:Cx}
abbrev vN(n:Nat):V:=.int (n:Int)
def uV(H:Hp)(v:V)(ns:List Nat):Prop:=∃a,v=-a/\H a>.lst (ns.map vN)
def wI{α β:Type}{F:α->β->Prop}{xs:List α}{ys:List β}(h:Paired F xs ys){x:α}(hx:x∈xs):∃y∈ys,F x y:=by
 induction h with
 |nil=>cases hx
 |cons q _ ih=>
  rcases aJ.mp hx with rfl|hx;·show⟨_,av,q⟩
  let(y,hy,h):=ih hx;show{y,aA _ hy,h}
def Tr{α β:Type}{F:α->β->Prop}{f:α->β}{xs:List α}{ys:List β}(h:Paired F xs ys)(e:∀x y,x∈xs->F x y->y=f x):ys=xs.map f:=by
 induction h with
 |nil=>rfl
 |cons q _ ih=>rw[bI,e _ _ av q,ih λx y hx h=>e x y (aA _ hx) h]
theorem N3:∀{ns:List Nat}{us:Aaf},Vals (ns.map vN) us->NumIs ns us
 |[],_,.nil=>.nil
 |n::r,_,.cons ⟨t,e⟩ h=>by subst e;show .cons<|N3 h
def Inv.nums{bi:Aab}{Z:St}{H:Hp}{s:fv}(I:Inv X bi Z H s){a:cr}{ns:List Nat}(h:H a>.lst (ns.map vN)):AQ s.heap (-a) ns:=by let(lz,us,c,rv,g):=(show da 81 X.w H s.heap a (.lst _)from I.bE a _ h);show{a,_,c,_,_,9,g,by simpa using N3 rv}
def Ea(hu:X.A.units+096<wS):fB X (.builtin "sorted") (λxs H Q=>∃p ys rows,xs=[-p]/\aT X.K H p ys/\Paired (uV H) ys rows/\(∀r∈rows,AW r)/\rows.length<64/\∀l zs Ic,H l=none->Paired (uV H) zs Ic->Ic.Perm rows->Ic.Pairwise (λx y=>lO x<=lO y)->Q (-l) (upd H l<|.lst zs)):=by
 ext bi s Z H xs us Q I r h;let(p,ys,rows,rfl,hq,hr,i0,qE,q):=h;let(u,rfl,rx):=iw r;cases rx;let(aK,r',pl,hz):=I.list hq;obtain⟨bs,rfl,hp⟩:∃bs:Aai,aK=bs.map Value.ref/\Paired (λb r=>H b>.lst (r.map vN)) bs rows:=by
  clear q qE hq pl hz
  induction hr generalizing aK with
  |nil=>cases r';show{[],9,.nil}
  |@cons y zs ys rows h _ ih=>
   cases r' with
   |@cons _ u _ us ru q=>
    let(bs,h1,h2):=ih (λr hr=>i0 r<|aA _ hr) us q;let(a,rfl,h5):=h;cases(show u=Value.ref a from ru);show{a::bs,by rw[h1];rfl,.cons h5 h2}
 have lb:=aQ hp;have hb:∀b∈bs,∃r,AW r/\H b>.lst (r.map vN):=λb hm=>by let(r,hr,h):=wI hp hm;show{r,i0 r hr,h}
 show fJ rf oY pE (pH _) ?_;show ae 83;show ae<|collect_list pl.isList ?_ (by rw[ag,bM];lia);have kp:∀b o,s.heap.get? b>o->((s.heap.push<|wE "list" #[] 0).update 35<|Obj.mapSeq (·++(bs.map Value.ref).toArray)).get? b>o:=λb o e=>by rw[CB _ _ _ _<|aD<|aE e];show af _ e
 have I1:=I.kept (t':=89) kp;show ae<|nA ?_ (by rw[ag,bM];lia);generalize ((s\((s.heap.push<|wE "list" #[] 0).update 35<|Obj.mapSeq (·++(bs.map Value.ref).toArray),89)):fv)=s1 at I1⊢;have xI:(s1.heap.push 125).get? 29>wE "list" (bs.map Value.ref).toArray 0:=aH _ rfl;have Ee:∀b∈bs,∀r,H b>.lst (r.map vN)->b≠29/\AQ (s1.heap.push 125) (-b) r:=λb hb r e=>by let(__,aK,m,dd,sl,e',h1,h2):=I1.nums e;cases e';show{aD<|aE h1,b,aK,m,dd,sl,9,af _ h1,h2}
 show ae<|bP<|bC uz ⟨_,xI,rfl⟩ tL (Vk ?_ xI (λv hv=>?_) 65 λh' tk c us g kp pm so=>{_,9,?_})<|uT _;·change X.A.units+1+1<wS;lia
 ·let(b,gf,rfl):=aG.mp hv;let(r,f,e):=hb b gf;let(h1,h2):=Ee b gf r e;show{λq=>h1 (by injection q),r,f,h2}
 let(cs,rfl,pc):=JP pm;have lc:cs.length=rows.length:=by rw[pc.length_eq,lb]
 have lz:(cs.map V.ref).length<=dL:=by rw[ag,bM];lia
 have vB:=λb o e=>kp b o (aD<|aE e)<|af _ e;show ah {_,9,?_}
 let f:cr->List Nat:=λb=>N7 (s1.heap.push 125) (-b)
 have fb:∀b∈bs,H b>.lst ((f b).map vN):=λb gf=>by let(r,__,e):=hb b gf;rw[show f b=r from EX (Ee b gf r e).2];show e
 have so1:=(cz).mp so;have so':=so1;show{.ref 29,_,I1.laid vB (ao _) (show da 81 X.w _ _ _ (.lst<|cs.map V.ref)from{lz,cs.map Value.ref,c,EM cs,g}),9,q _ (cs.map V.ref) (cs.map f) 20 ?_ (by rw[(Tr (f:=f) hp λb r gf h=>(EX (Ee b gf r h).2).symm)];show pc.map _) ((cz).mpr so')};have all:=λb gf=>fb b<|pc.mem_iff.mp gf;clear pm pc lc lz g so so1 so' q
 induction cs with
 |nil=>show .nil
 |cons b cs ih=>show .cons {b,9,all b av} (ih λb' gf=>all b'<|aA _ gf)
end
end L2
namespace E7
open pK
def gb(nd:List Nat):Nat->List (List Nat)
 |0=>[[]]
 |k+1=>if k∈nd then(gb nd k).map (·++[k])else gb nd k++(gb nd k).map (·++[k])
theorem CO(nd:List Nat):∀n,(gb nd n).length<=2^n
 |0=>ao _
 |n+1=>by
  have:=CO nd n;unfold gb;split;·rw[ag];lia
  rw[aU,ag];lia
theorem xj{nd:List Nat}:∀{n:Nat}{s:List Nat},s∈gb nd n->∀x∈s,x<n
 |0,s,h,x,hx=>by rw[aw.mp h]at hx;cases hx
 |n+1,s,h,x,hx=>by
  have hb:∀s,s∈(gb nd n).map (·++[n])->∀x∈s,x<n+1:=λs hs x hx=>by
   let(r,hr,rfl):=aG.mp hs;rcases bG.mp hx with hx|hx;·show b7<|xj hr x hx
   rw[aw.mp hx];show cI _
  unfold gb at h;split at h;·show hb s h x hx
  rcases bG.mp h with h|h;·show b7<|xj h x hx
  show hb s h x hx
theorem wF{nd:List Nat}:∀{n:Nat}{s:List Nat},s∈gb nd n->s.length<=n
 |0,s,h=>by rw[aw.mp h];show ao _
 |n+1,s,h=>by
  have hb:∀s,s∈(gb nd n).map (·++[n])->s.length<=n+1:=λs hs=>by let(r,hr,rfl):=aG.mp hs;rw[aU];show rS<|wF hr
  unfold gb at h;split at h;·show hb s h
  rcases bG.mp h with h|h;·show lZ<|wF h
  show hb s h
theorem Bb{nd:List Nat}:∀n,(gb nd n).Pairwise λa b=>¬∀x∈b,x∈a
 |0=>jq _ _
 |n+1=>by
  have ih:=Bb (nd:=nd) n;have hb:((gb nd n).map (·++[n])).Pairwise λa b=>¬∀x∈b,x∈a:=by
   show cz.mpr (ih.imp_of_mem λ{a b} ha hb h q=>h λx hx=>?_);rcases bG.mp (q x<|dD _ hx)with h|h;·show h
   have:=xj hb x hx;rw[aw.mp h]at this;show absurd this<|cJ _
  unfold gb;split;·show hb
  show ng.mpr {ih,hb,λa ha b hb q=>?_};let(r,__,rfl):=aG.mp hb;show absurd (xj ha n<|q n<|b8 _ av)<|cJ _
theorem Dy{nd:List Nat}:∀{n:Nat}{s:List Nat},s.Pairwise (·<·)->(∀x∈s,x<n)->(∀k∈nd,k<n->k∈s)->s∈gb nd n
 |0,s,_,h,_=>by
  cases s with
  |nil=>show av
  |cons x r=>show absurd (h x av)<|eE _
 |n+1,s,p,h,hn=>by
  unfold gb;by_cases c:n∈s
  ·have e:s=s.filter (·<n)++[n]:=by
    clear hn
    induction s with
    |nil=>cases c
    |cons x r ih=>
     rw[eW]at p;rcases aJ.mp c with rfl|c
     ·have:r=[]:=by
       cases r with
       |nil=>rfl
       |cons y q=>
        have h1:=p.1 y av;have h2:=h y<|aA _ av;lia
      rw[this,bZ,az 75];rfl
     have hx:=p.1 n c;rw[bZ,aL<|↑hx,kD,<-ih p.2 (λy hy=>h y<|aA _ hy) c]
   rw[e];have m2:s.filter (·<n)++[n]∈(gb nd n).map (·++[n]):=aG.mpr {_,(Dy (p.sublist kI) (λx hx=>by simpa using(bX.mp hx).2) λk hk R7=>bX.mpr {hn k hk<|b7 R7,by simpa using R7}),9};split;·show m2
   show b8 _ m2
  have nn:=λq=>c<|hn n q<|cI _;rw[az nn];show dD _ (Dy p (λx hx=>?_) λk hk R7=>hn k hk<|b7 R7);have:=h x hx;have:x≠n:=λe=>c<|e▸hx;lia
def sN(p:List Nat->Bool)(acc:List (List Nat))(w:List Nat):List (List Nat):=if(acc.any λe=>e.all λk=>decide (k∈w))=true then acc else if p w=true then acc++[w]else acc
theorem MD{p:List Nat->Bool}{D:List (List Nat)}(good:∀d∈D,p d=true)(some:∀w,p w=true->∃d∈D,∀x∈d,x∈w)(BE:∀d∈D,∀e∈D,(∀x∈d,x∈e)->d=e):
  ∀(aad aac:List (List Nat)),(aac++aad).Pairwise (λa b=>¬∀x∈b,x∈a)->(∀d∈D,d∈aac++aad)->aad.foldl (sN p) (aac.filter (decide<|·∈D))=(aac++aad).filter (decide<|·∈D)
 |[]=>λaac _ _=>by rw[cy];rfl
 |w::aad=>λaac pw al=>by
  have e:aac++w::aad=(aac++[w])++aad:=by rw[jj];rfl
  have st:sN p (aac.filter (decide<|·∈D)) w=(aac++[w]).filter (decide<|·∈D):=by
   rw[fH];unfold sN;by_cases c:w∈D
   ·rw[az,aL<|good w c,bZ,aL<|aO c];·rfl
    ext q;let(d,hd,h):=dP.mp q;let(h1,h2):=bX.mp hd;have:=BE d (aV h2) w c λx hx=>aV<|b9.mp h x hx;subst this;show(ng.mp pw).2.2 d h1 d av λx hx=>hx
   have e0:[w].filter (decide<|·∈D)=[]:=by rw[bZ,az<|↑c];rfl
   rw[e0,cy];by_cases g:p w=true
   ·let(d,hd,h):=some w g;have hm:d∈aac:=by
     rcases bG.mp (al d hd)with q|q;·show q
     rcases aJ.mp q with q|q;·show absurd (q▸hd) c
     show absurd h<|(eW.mp (ng.mp pw).2.1).1 d q
    rw[aL<|dP.mpr {d,bX.mpr {hm,aO hd},b9.mpr λx hx=>aO<|h x hx}]
   rw[az g];split<;>rfl
  rw[jS,st,e];show MD good some BE aad (aac++[w]) (e▸pw)<|e▸al
def Tc{l:List (List Nat)}(h:l.Pairwise λa b=>¬∀x∈b,x∈a):l.Nodup:=h.imp λq e=>q λx hx=>by rw[e];show hx
def KG{p:List Nat->Bool}{D:List (List Nat)}{nd:List Nat}{n:Nat}(ndD:D.Nodup)(good:∀d∈D,p d=true)(some:∀w,p w=true->∃d∈D,∀x∈d,x∈w)(BE:∀d∈D,∀e∈D,(∀x∈d,x∈e)->d=e)(DI:∀d∈D,d∈gb nd n):((gb nd n).foldl (sN p) []).Perm D:=by have:=MD good some BE (gb nd n) [] (Bb n) DI;rw[iB]at this;rw[show(gb nd n).foldl (sN p) []=(gb nd n).filter (decide<|·∈D)from this];show(jV ((Tc<|Bb n).sublist kI) ndD).mpr λd=>?_;rw[bX,bg];show{And.right,λh=>{DI d h,h}}
theorem Ti:∀{l m:List (List Nat)},l.Perm m->(∀r∈l,AW r)->l.Pairwise (λx y=>lO x<=lO y)->m.Pairwise (λx y=>lO x<=lO y)->l=m
 |[],m=>λh _ _ _=>(Cr.mp h).symm
 |a::l,[]=>λh _ _ _=>absurd h.length_eq 75
 |a::l,b::m=>λh f h1 h2=>by
  have e:a=b:=by
   rcases aJ.mp (h.mem_iff.mp<|av)with e|e;·show e
   rcases aJ.mp (h.mem_iff.mpr<|av)with q|q;·show q.symm
   show AW.inj (f a av) (f b<|aA _ q)<|Nat.le_antisymm (eT h1 q)<|eT h2 e
  subst e;rw[Ti (AU a|>.mp h) (λr hr=>f r<|aA _ hr) (eW.mp h1).2 (eW.mp h2).2]
end E7
namespace kE
open PySem PySem.Spec PyProof.Rows L2 pK dC
seal L2.PE L2.PT L2.PW L2.PA L2.PS L2.pU L2.PI L2.PO L2.El L2.PG L2.Co
section
open E7
variable{P:io}{w:mo}{K:Frag}{mg:Aac}{base:ss}
def RT(k:Nat)(l:List Nat):DJ (.int (k:Int)) (l.map vN)=decide (k∈l):=by
 unfold DJ;rw[yk,dO,dP,bg];constructor;·ext⟨y,hy,e⟩;rw[<-Int.ofNat.inj (eU e)];show hy
 ext h;show{k,h,kr (k:Int)}
def O8(l:List Nat):(l.map vN).all vb=true:=b9.mpr λx hx=>by let(z,__,rfl):=aG.mp hx;rfl
def L0(H0 H:Hp)(v:V)(ns:List Nat):Prop:=∃a,v=-a/\H0 a=none/\H a>.lst (ns.map vN)
def Au{H0 H H':Hp}(s:aI H H'){vs:Aan}{l:List (List Nat)}(h:Paired (L0 H0 H) vs l):Paired (L0 H0 H') vs l:=Paired.imp' (λ_ _ zq=>by let(a,e,n,h):=zq;show{a,e,n,s _ _ h}) h
inductive U8(vs:Aan)(H:Hp)(Q:VK)(_x3:XK):Prop
 |mk (nl:cr) (nd:List Nat) (n:Nat) (_:vs=[-nl,.int (n:Int)]) (_:H nl>.lst (nd.map vN)) (_:n<=10) (_:∀(r:cr)(ys:Aan)(H':Hp),aI H H'->H r=none->H' r>.lst ys->Paired (L0 H H') ys (gb nd n)->Q (-r) H')
def oU:bL ["needed","count","found","number","beside"] ["needed","count"] (bo FK):=fS 76
def NS{f:cr}{fd:ut}(F:dh K "sets_with" "sets_with" FK f fd)(T:Txt K mg):cm P w K mg base dZ 1 f fd ["needed","count"] U8:=by
 show F.ok oU 85;let(nl,nd,n,rfl,OI,n10,k):=h;show{_,ay (cZ 2 oU<|dy<|bB<|dy fQ)<|ay (fG bF 9 (oZ 9 T.uL 73) (jw (i:=3) oU.nd 9<|Or.inr 9)<|ay (wH (j:=4) oU.nd 9 9 9 (cA (fs:=["number"]) (fr:=[3])) (cN<|pv 2) (λ_ _ _ _=>dj mz (pv 0)<|dy 73))<|aP<|cZ 2 oU<|rN (cU Bj (pv 3) (pv 0) 50) (pv 4)<|dj mz (pv 2)<|pv 4)<|aP<|bH<|pv 2,?_}
 show iq λR eR=>?_;show{31,λe0 he0=>{42,λl0 oG=>?_}};have s1:aI H (upd H e0 74):=aB he0 _;have W9:upd H e0 74 e0>.lst []:=au;rename_i l0 oG H2 s2 iz;show bT eR λR eR=>?_;show{_,9,_,9,8,8,By (λj Z H2=>∃(x3 x4:Aao)(f:cr)(ys:Aan),Z=[some (-nl),some<|.int (n:Int),some (-f),x3,x4]/\aI H H2/\H f=none/\H2 f>.lst ys/\Paired (L0 H H2) ys (gb nd j)) {_,_,l0,_,9,s1.trans s2,s1.free oG,iz,.cons {e0,9,he0,s2 _ _ W9} .nil} ?_ ?_}
 ·ext i Z H3 D1 hi ⟨x3,x4,fa,ys,rfl,s3,f0,hf,hp⟩ iy _;have ly:91<=1024:=by have h1:=aQ hp;have h2:=CO nd i;have h3:2^i<=2^10:=nc 7 ∅;lia
  have big:(5000:Nat)<dL:=by rw[bM];decide
  show{_,9,fa,9,{_,aT.of hf},eJ (xs:=ys) (λj zs H4=>aI H3 H4/\j<=91/\Paired (L0 H H4) zs (((gb nd i).take j).map (·++[i]))) ∅ {84,aF _,.nil} ?_ ?_ ?_};·ext j zs H4 hj ⟨s4,_,hz⟩;show{aT.of<|s4 _ _ hf,?_};rw[aQ hz,ag,aW];lia
  ·ext j x zs H4 N hx ⟨s4,hj,hz⟩ hN;let(c,hc,a,rfl,__,ha):=Paired.at hp hx;have b6:=(ar.mp hx).1;have lc:=wF<|aM hc;show fD {_,9,_,9,42,?_}
   intros p AE H5 s5 hp5
   show{a,p,_,_,9,9,s5 _ _<|s4 _ _ ha,hp5,by rw[ag];change c.length+1<=dL;lia,λq hq=>?_};have s6:=aB hq<|.lst<|c.map vN++[.int<|0+(i:Int)];show hN _ _ {s4.trans<|s5.trans s6,b6,?_};rw[bW,hc,ba];show cY (Au (s5.trans s6) hz)<|.cons {q,9,(s3.trans<|s4.trans s5).free hq,?_} .nil;rw[au,pY,ba];rfl
  ext zs H4 ⟨s4,_,hz⟩ l hl;have ey:(gb nd i).take 91=gb nd i:=by rw[aQ hp,bq]
  rw[ey]at hz;have s5:=aB hl<|.lst zs;have qD:upd H4 l (.lst zs) l>.lst zs:=au;have Ow:=Au s5 hz;have lz:zs.length=91:=by rw[aQ hz,ag,aQ hp]
  have FU:=s4.trans s5;have oX:=s3.trans FU;show{_,9,_,9,nl,_,9,.inl<|aT.of<|oX _ _ OI,9,O8 nd,_,9,?_};rw[pY];have ei:=RT i nd;show hX (λc=>?_) (λc=>?_);·have c:=c;show{_,9,iy _ _ {_,_,l,zs,9,oX,(s3.trans s4).free hl,qD,?_}};unfold gb;rw[aL<|aV<|ei▸c];show Ow
  show{_,9,_,9,fa,l,_,_,9,9,FU _ _ hf,qD,8,λp AE=>?_};have s6:=aB AE<|.lst<|ys++zs;show iy _ _ {_,_,p,ys++zs,9,oX.trans s6,oX.free AE,au,?_};unfold gb;rw[az λe=>c (by change DJ (.int (i:Int)) (nd.map vN)=true;rw[ei];show aO e)];show cY (Au (FU.trans s6) hp)<|Au s6 Ow
 ext Z H3 ⟨x3,x4,fa,ys,rfl,s3,f0,hf,hp⟩;show jg (T:=R) eR<|{_,9,k fa ys H3 s3 f0 hf hp}
end
section
open E7
variable{P:io}{w:mo}{K:Frag}{mg:Aac}{base:ss}
def pk(L:List One)(ns:List Nat):List One:=ns.filterMap (L[·]?)
structure BP(h:pi)(qs L:List One)(D:List (List Nat)):Prop where
 wh:gO h qs L=decide (D≠[])
 nd:D.Nodup
 good:∀d∈D,gO h qs (pk L d)=true
 some:∀ns,gO h qs (pk L ns)=true->∃d∈D,∀x∈d,x∈ns
 BE:∀d∈D,∀e∈D,(∀x∈d,x∈e)->d=e
 ris:∀d∈D,d.Pairwise (·<·)
 i0:∀d∈D,AW d
 Wy:D.length<64
 srt:D.Pairwise λx y=>lO x<=lO y
 lt:∀d∈D,∀x∈d,x<L.length
def A3{h:pi}{qs L M:List One}(s:∀x∈L,x∈M)(e:gO h qs L=true):gO h qs M=true:=by unfold gO at*;rw[b9]at*;ext a ha;let(b,hb,q):=dP.mp<|e a ha;show dP.mpr {b,s b hb,q}
def IG{L:List One}{ns:List Nat}{x:One}(h:x∈pk L ns):x∈L:=by let(n,__,e):=dY.mp h;show aM e
def ad5{L:List One}{ns:List Nat}{k:Nat}(hk:k∉ns){x:One}(h:x∈pk L ns):x∈L.take k++L.drop (k+1):=by
 let(n,hn,e):=dY.mp h;have ne:n≠k:=λq=>hk<|q▸hn;rcases Nat.lt_or_gt_of_ne ne with c|c;·show dD _<|aM (by rw[pX c];show e)
 show b8 _<|aM (i:=n -(k+1)) ?_;rw[vK,show k+1+(n -(k+1))=n by lia];show e
def u4(h:pi)(qs L:List One)(n:Nat):List Nat:=(List.range n).filter λk=>!gO h qs (L.take k++L.drop (k+1))
def BP.DI{h:pi}{qs L:List One}{D:List (List Nat)}(x:BP h qs L D){d:List Nat}(hd:d∈D):d∈gb (u4 h qs L L.length) L.length:=by show Dy (x.ris d hd) (x.lt d hd) λk hk _=>gD λq=>?_;have:=(bX.mp hk).2;rw[A3 (λy hy=>ad5 q hy)<|x.good d hd]at this;cases this
def wY.sub{h:pi}{qs L M:List One}(x:wY h qs L)(s:∀a∈M,a∈L)(l:M.length<=100):wY h qs M:={x.uh,x.fq,λa ha=>x.fL a<|s a ha,x.lq,l,x.ap}
def BP.eq{h:pi}{qs L:List One}{D R:List (List Nat)}(x:BP h qs L D)(p:R.Perm ((gb (u4 h qs L L.length) L.length).foldl (sN λns=>gO h qs<|pk L ns) []))(s:R.Pairwise λx y=>lO x<=lO y):R=D:=by have q:=p.trans (KG x.nd x.good x.some x.BE λd hd=>x.DI hd);show Ti q (λr hr=>x.i0 r<|q.mem_iff.mp hr) s x.srt
def Rm{L:List One}{ns:List Nat}{k:Nat}{a:One}(e:L[k]?>a):pk L (ns++[k])=pk L ns++[a]:=by unfold pk;rw[List.filterMap_append,gB,e];rfl
def Ed{H H':Hp}(s:aI H H'){vs:Aan}{as:List One}(h:EJ K H vs as):EJ K H' vs as:=Paired.imp' (λ_ _ zq=>by let(l,y,e,hl,hy):=zq;show{l,y,e,s _ _ hl,hy.tp<|bu.same s}) h
def nw{H:Hp}{u:HO}{Q:VK}(k:∀p H',H p=none->aI H H'->H' p>u->Q (-p) H'):∀p,H p=none->Q (-p) (upd H p u):=λp hp=>k p _ hp (aB hp _) au
def Ie{a:cr}{H:Hp}{xs:Aan}{lo hi:Option Int}{Q:VK}(ha:H a>.lst xs)(k:∀p H',H p=none->aI H H'->H' p>.lst (zO xs lo hi)->Q (-p) H'):YS K (-a) lo hi H Q:={a,xs,9,aT.of ha,nw k}
def Rf{a b:cr}{H:Hp}{xs ys:Aan}{Q:VK}(ha:H a>.lst xs)(hb:H b>.lst ys)(hl:55+91<=1000)(k:∀p H',H p=none->aI H H'->H' p>.lst (xs++ys)->Q (-p) H'):ad0 (-a) (-b) H Q:={a,b,xs,ys,9,9,ha,hb,bU<|cw hl,nw k}
def zG{α β:Type}{F:α->β->Prop}{xs:List α}{ys:List β}(h:Paired F xs ys)(k:Nat):Paired F (xs.take k) (ys.take k):=by
 induction h generalizing k with
 |nil=>rw[List.take_nil,List.take_nil];show .nil
 |cons h _ ih=>
  cases k with
  |zero=>show .nil
  |succ k=>show .cons h<|ih k
def zH{α β:Type}{F:α->β->Prop}{xs:List α}{ys:List β}(h:Paired F xs ys)(k:Nat):Paired F (xs.drop k) (ys.drop k):=by
 induction h generalizing k with
 |nil=>rw[List.drop_nil,List.drop_nil];show .nil
 |cons h t ih=>
  cases k with
  |zero=>show .cons h t
  |succ k=>show ih k
def Ll{h:pi}{qs L:List One}(n:Nat):u4 h qs L (n+1)=u4 h qs L n++if(!gO h qs (L.take n++L.drop (n+1)))=true then[n]else[]:=by unfold u4;rw[jQ,fH,bZ];rfl
def Zl{h:pi}{qs L:List One}(n:Nat):(u4 h qs L n).length<=n:=aS (fk _ _)<|jG cH
theorem KH{p:List Nat->Bool}:∀(l acc:List (List Nat)),(l.foldl (sN p) acc).Sublist (acc++l)
 |[],acc=>cy _▸ .refl _
 |x::l,acc=>by
  show(KH l _).trans ?_;have e:acc++x::l=(acc++[x])++l:=by rw[jj];rfl
  rw[e];show List.Sublist.append_right ?_ l;unfold sN;split;·show yh _ _
  split;·show .refl _
  show yh _ _
inductive MQ(K:Frag)(vs:Aan)(H:Hp)(Q:VK)(_x3:XK):Prop
 |mk (xs:List One) (vl:cr) (dH:Aan) (v v2:V) (h:pi) (qs cs:List One) (D:List (List Nat)) (_:vs=[-vl,v,v2]) (_:aT K H vl dH) (_:Paired (Gn H) dH xs) (_:(xs.map (·.1)).Nodup) (_:QK K H v h qs) (_:Gq K H v2 h xs cs) (_:wY h qs (lN xs cs)) (_:BP h qs (lN xs cs) D) (_:∀(r:cr)(zs:Aan)(H':Hp),aI H H'->H' r>.lst zs->Paired (uV H') zs D->Q (-r) H')
def qg:bL ["views","question","widest","parts","needed","ways","way","held"] ["views","question","widest"] (bo K2):=fS 76
def Tw{f:cr}{fd:ut}(F:dh K "ways_of" "ways_of" K2 f fd)(T:Txt K mg)(rV:bY P w K mg base 6 "unfolded_parts" ["views","question"] (JI K))(BU:bY P w K mg base 11 "is_whole" ["question","parts"] (QX K))(Qr:bY P w K mg base 1 "sets_with" ["needed","count"] U8):cm P w K mg base dZ 12 f fd ["views","question","widest"] (MQ K):=by
 show F.ok qg 85;let(xs,vl,dH,v,v2,h,qs,cs,Du,rfl,rg,hV,ID,qk,qv,ok,du,k):=h;obtain⟨L,eL⟩:∃L,L=lN xs cs:=⟨_,rfl⟩;have lL:L.length<=10:=by rw[eL,rY];show qv.la
 show{_,ay (mx (i:=3) qg.nd 9 (Or.inr 9)<|cl rV hr<|cj (pv 0)<|pv 2)<|ay (fh (sW<|h9<|cl BU hr<|cj (pv 1)<|pv 3) (aP<|bH<|dy fQ) dc)<|ay (xq (j:=4) qg.nd 9 9 9 (cA (fs:=["question","parts"]) (fr:=[1,3])) (oZ 9 T.uL<|bB<|bh cW 9 T.eZ bz<|bB<|pv 3) (λ_ _ _ _=>sW<|h9<|cl BU hr<|cj (pv 1)<|dj mz (lG (M5) (pv 2) nW<|nV<|pv 0)<|lG (M5) (pv 2) (nV<|dj kW (pv 0) bb) nW) 68)<|ay (cZ 5 qg<|dy fQ)<|ay (fG bF 9 (cN<|cl Qr hr<|cj (pv 4)<|bh cW 9 T.eZ bz<|bB<|pv 3) (jw (i:=6) qg.nd 9<|Or.inr 9)<|ay (cZ 07 qg<|bh (y4 9) 9 T.TK 76<|bB<|hG 9 (cA (fs:=["way"]) (fr:=[6])) (cN<|pv 5) (λ_ _ _ _=>bh (y7 9) 9 T.Mw He<|bB<|hG 9 (cA (fs:=["way"]) (fr:=[1])) (GJ<|pv 0) (λ_ _ _ _=>gu Bj (pv 0) (pv 1) 50)))<|aP<|fh (PW.pt<|Nw (sW<|h9<|pv 07)<|JR<|h9<|cl BU hr<|cj (pv 1)<|hG 9 (cA (fs:=["parts"]) (fr:=[3])) (cN<|pv 6) (λ_ _ _ _=>bV (GV) (pv 1) (pv 0) (λ_ _=>9))) (aP<|g9<|j4 cb f7 f6 pz (pv 5)<|bB<|pv 6) dc)<|aP<|bH<|bh (Ea<|u96 hr) 9 T.mX 76<|bB<|pv 5,?_}
 show iq λR eR=>?_;show{_,9,_,9,xs,vl,dH,v2,h,cs,9,rg,hV,ID,qv,λpl kU H1 s1 pl0 ie hP=>?_};rw[<-eL]at ok du hP;have lp:=aQ hP;show bT eR λR eR=>?_;show{_,9,_,9,v,pl,kU,h,L,qs,9,qk.tp<|bu.same s1,ie,hP,ok,λH2 s2=>?_};show{_,9,?_};have iI:=s1.trans s2;have big:(5000:Nat)<dL:=by rw[bM];decide
 cases wh:gO h qs L;·show i8 {31,λr ug=>?_};show k r [] _ (iI.trans<|aB ug _) au<|(gD λc=>by rw[du.wh,aO c]at wh;cases wh)▸ .nil
 show hU ?_;show bT (T:=R) eR λR eR=>?_;have en:(kU.length:Int).toNat=L.length:=by lia
 show{_,9,_,_,9,.inl {_,aT.of<|s2 _ _ ie,9},_,9,8,8,Hb (λj zs H3=>aI H2 H3/\zs=(u4 h qs L j).map vN) ∅ {84,9} ?_ ?_ ?_};·ext j zs H3 hj ⟨_,rfl⟩;rw[ag];show Zl j
 ·ext j zs H3 N hj ⟨s3,rfl⟩ hN;have ae1:=s3 _ _<|s2 _ _ ie;have hP3:=Ed (s2.trans s3) hP;show{_,9,_,9,_,9,_,9,Ie ae1 λp1 H4 n1 s4 h1=>?_};show{_,9,_,9,_,_,9,9,_,9,Ie (s4 _ _ ae1) λp2 H5 n2 s5 h2=>?_};rw[XY]at h1;rw[show((j:Int)+1)=((j+1:Nat):Int)from rfl,Pf]at h2;show Rf (s5 _ _ h1) h2 (by rw[aW,iM];lia) λp3 H6 n3 s6 h3=>?_;have s36:=s4.trans<|s5.trans s6;show{v,p3,_,h,L.take j++L.drop (j+1),qs,9,qk.tp<|bu.same<|(iI.trans s3).trans s36,h3,Ed s36<|cY (zG hP3 j)<|zH hP3<|j+1,ok.sub (λa ha=>(bG.mp ha).elim BK List.mem_of_mem_drop) (by rw[aU,aW,iM];lia),λH7 s7=>{_,9,?_}};have Nj:=s3.trans<|s36.trans s7;show hX (λc=>{_,9,hN _ _ {Nj,?_}}) (λc=>hN _ _ {Nj,?_});·rw[Ll,aL c,ba];rfl
  rw[Ll,az c,cy]
 ext zs H3 ⟨s3,rfl⟩ nl ah2;rw[en];rename_i nl ah2 H4 s4 OI;have mM:=iI.trans<|s3.trans s4;have Nl:=s2.trans<|s3.trans s4;show bT (T:=R) eR λR eR=>?_;show{31,?_}
 intros wl F5 H5 s5 T1
 show bT eR λR eR=>?_;show{_,9,_,9,_,_,9,.inl {_,aT.of<|s5 _ _<|Nl _ _ ie,9},nl,u4 h qs L L.length,kU.length,9,s5 _ _ OI,8,λsl ys H6 s6 sl0 IS hS=>?_};rw[lp]at hS;have Wr:91<=1024:=by have h1:=aQ hS;have h2:=CO (u4 h qs L L.length) L.length;have h3:2^L.length<=2^10:=nc 7 lL;lia
 obtain⟨S,eS⟩:∃S,S=gb (u4 h qs L L.length) L.length:=⟨_,rfl⟩;have szS:∀e∈S,e.length<=10:=λe he=>by rw[eS]at he;show aS (wF he) lL
 have FZ:∀e∈S,∀x∈e,x<L.length:=λe he=>by rw[eS]at he;show xj he
 rw[<-eS]at hS;show{sl,9,{_,aT.of IS},iS (λi Z H7=>∃(x6 x7:Aao)(zs:Aan),Z=[some (-vl),some v,some v2,some (-pl),some (-nl),some (-wl),x6,x7]/\(∀b u,b≠wl->H6 b>u->H7 b>u)/\H7 wl>.lst zs/\Paired (L0 H5 H7) zs ((S.take i).foldl (sN λns=>gO h qs<|pk L ns) [])) {_,_,[],9,λb u _ h=>h,s6 _ _ T1,.nil} (λi Z H7 _ zq=>by let(__,__,__,__,sb,__):=zq;show aT.of<|sb _ _ (λe=>by rw[e,T1]at sl0;cases sl0) IS) ?_ ?_}
 ·ext i x Z H7 D1 hx ⟨x6,x7,zs,rfl,sb,hz,hA⟩ iy _;let(c,hc,a,rfl,a0,ha):=Paired.at hS hx;have b6:=(ar.mp hx).1;have ha7:=sb _ _ (λe=>by rw[e,T1]at a0;cases a0) ha;have HY:aI H4 H7:=λb u e=>sb b u (a9 e F5)<|s6 _ _<|s5 _ _ e;have cS:=aM hc;obtain⟨acc,eA⟩:∃acc,acc=(S.take i).foldl (sN λns=>gO h qs<|pk L ns) []:=⟨_,rfl⟩;have sub:=KH (p:=λns=>gO h qs<|pk L ns) (S.take i) [];rw[<-eA]at hA;rw[<-eA,iB]at sub;have lA:acc.length<=1024:=by have:=sub.length_le;rw[aW]at this;lia
  have lz:=aQ hA;show{_,9,wl,9,{_,aT.of hz},eJ (xs:=zs) (λj us H8=>aI H7 H8/\j<=acc.length/\us=((acc.take j).map λe=>e.all λk=>decide (k∈c)).map V.bl) ∅ {84,aF _,9} ?_ ?_ ?_};·ext j us H8 hj ⟨s8,_,rfl⟩;show{aT.of<|s8 _ _ hz,?_};rw[ag,ag,aW];lia
  ·ext j u us H8 N hu ⟨s8,hj,rfl⟩ hN;let(e,he,b,rfl,b0,hb):=Paired.at hA hu;have rj:=(ar.mp he).1;have le:=(λe he=>szS e<|BK<|sub.subset he) e<|aM he;show fD {_,9,b,9,{_,aT.of<|s8 _ _ hb},eJ (xs:=e.map vN) (λj2 ts H9=>aI H8 H9/\j2<=e.length/\ts=((e.take j2).map λk=>decide (k∈c)).map V.bl) 65 {84,aF _,9} ?_ ?_ ?_};·ext j2 ts H9 Ga ⟨s9,_,rfl⟩;show{aT.of<|s9 _ _<|s8 _ _ hb,?_};rw[ag,ag,aW];lia
   ·ext j2 y ts H9 M hy ⟨s9,Ga,rfl⟩ hM;rw[aN]at hy;let(n,hn,rfl):=aY.mp hy;have W6:=(ar.mp hn).1;show fD {_,9,_,9,a,_,9,.inl<|aT.of<|s9 _ _<|s8 _ _ ha7,9,O8 c,hM _ _ {s9,W6,?_}};rw[q9 hn,ba];rw[RT];rfl
   ext ts H9 ⟨s9,_,rfl⟩ q hq;rw[ag,bq];show{q,_,9,80,hN _ _ {s8.trans<|s9.trans<|aB hq _,rj,?_}};rw[q9 he,ba,Ez];rfl
  ext us H8 ⟨s8,_,rfl⟩ q hq;rw[lz,bq];show{q,_,9,80,?_};rw[yk];have s9:aI H7 (upd H8 q<|.lst<|(acc.map λe=>e.all λk=>decide (k∈c)).map V.bl):=s8.trans<|aB hq _;generalize (upd H8 q<|.lst<|(acc.map λe=>e.all λk=>decide (k∈c)).map V.bl)=H9 at s9⊢;have ef:(S.take<|i+1).foldl (sN λns=>gO h qs<|pk L ns) []=if(acc.any λe=>e.all λk=>decide (k∈c))=true then acc else if gO h qs (pk L c)=true then acc++[c]else acc:=by rw[bW,hc,Ft,<-eA];rfl
  have eh:acc.any (id∘λe=>e.all λk=>decide (k∈c))=acc.any λe=>e.all λk=>decide (k∈c):=9;have sb9:=λb u n e=>s9 _ _<|sb b u n e;show{_,9,_,9,?_};rw[eh];rcases kF (acc.any λe=>e.all λk=>decide (k∈c))with ea|ea;·rw[aL ea]at ef;rw[ea];show hU<|hU<|iy _ _ {_,_,zs,9,sb9,s9 _ _ hz,ef▸Au s9 hA}
  rw[az (by rw[ea];decide)]at ef;rw[ea];have s49:=HY.trans s9;have lc:=szS c cS;show i8 {_,9,_,9,a,9,{_,aT.of<|s9 _ _ ha7},eJ (xs:=c.map vN) (λj us nR=>aI H9 nR/\j<=c.length/\EJ K nR us (pk L<|c.take j)/\us.length<=j) 65 {84,aF _,.nil,ao _} ?_ ?_ ?_};·ext j us nR hj ⟨jk,_,_,lu⟩;show{aT.of<|jk _ _<|s9 _ _ ha7,lu}
  ·ext j y us nR N hy ⟨jk,hj,hu,lu⟩ hN;rw[aN]at hy;let(n,hn,rfl):=aY.mp hy;have W6:=(ar.mp hn).1;have nL:=FZ c cS n<|aM hn;have en:kU[n]?>kU[n]'∅:=aq _;let(b,hb,WX):=Paired.at (Ed (s49.trans jk)<|Ed Nl hP) en;show fD {_,9,_,9,_,_,_,_,9,9,aT.of<|jk _ _<|s49 _ _<|Nl _ _ ie,mF en,hN _ _ {jk,W6,?_,by rw[aU,b5];lia}};rw[bW,hn];rw[show pk L (c.take j++(Option.some n).toList)=pk L (c.take j)++[b]from Rm hb];show cY hu<|.cons WX .nil
  ext us nR ⟨jk,_,hu,lu⟩ q2 yT;rw[ag]at hu lu;rw[bq]at hu;rename_i q2 yT wu C7 RZ;show{v,q2,us,h,pk L c,qs,9,qk.tp<|bu.same<|mM.trans<|s49.trans<|jk.trans C7,RZ,Ed C7 hu,ok.sub (λa ha=>IG ha)<|aS (List.length_filterMap_le _ _) ∅,λH12 Aq=>{_,9,?_}};have s9c:=jk.trans<|C7.trans Aq;have sbc:=λb u n e=>s9c _ _<|sb9 b u n e;have RV:=s9c _ _<|s9 _ _ hz;have hAc:=Au (s9.trans s9c) hA;cases ew:gO h qs (pk L c);·rw[az (by rw[ew];decide)]at ef;show hU<|iy _ _ {_,_,zs,9,sbc,RV,ef▸hAc}
  rw[aL ew]at ef;show i8 {_,9,.inl {9,_,aT.of RV},_,9,wl,zs,_,9,9,RV,8,?_};show iy _ _ {_,_,zs++[-a],9,λb u n e=>?_,au,?_};·rw[aC n];show sbc b u n e
  rw[ef];have kp:∀{v:V}{ns:List Nat},L0 H5 H12 v ns->L0 H5 (upd H12 wl<|.lst<|zs++[-a]) v ns:=λzq=>by let(b,e,b0,hb):=zq;show{b,e,b0,by rw[aC λq=>by rw[q,T1]at b0;cases b0];show hb}
  show cY (Paired.imp' (λ_ _ h=>kp h) hAc)<|.cons (kp {a,9,a0,s9c _ _<|s9 _ _ ha7}) .nil
 ext Z H7 ⟨x6,x7,zs,rfl,sb,hz,hA⟩;rw[aQ hS,bq]at hA;show jg (T:=R) eR ?_;have yL:aI H H7:=λb u e=>sb b u (a9 e<|mM.free F5)<|(mM.trans<|s5.trans s6) _ _ e;rw[eS]at hA;have pm:=KG du.nd du.good du.some du.BE λd hd=>du.DI hd;show{_,9,wl,zs,_,9,aT.of hz,Paired.imp' (λ_ _ zq=>by let(a,e,__,h):=zq;show⟨a,e,h⟩) hA,λr hr=>du.i0 r<|pm.mem_iff.mp hr,pm.length_eq▸du.Wy,λl Aa Ic hl AE pm' ps'=>?_};rw[du.eq pm' ps']at AE;have s8:=aB hl<|.lst Aa;show k l Aa _ (yL.trans s8) au<|Paired.imp' (λ_ _ zq=>by let(a,e,h):=zq;show{a,e,s8 _ _ h}) AE
end
end kE
namespace L2
open PySem PySem.Spec PyProof.Rows PySem.W
section
variable{X:Cx}{bi:Aab}{Z:St}{H:Hp}{s:fv}{a C:cr}
def PF(H:Hp)(a C:cr):Prop:=H a>.ext (yn a C none)
def LJ(I:Inv X bi Z H s)(h:PF H a C):∃ox od,W.InstAt s.heap a ox C od:=by obtain⟨⟨t,tb,e⟩,_⟩:=(show da 81 X.w H s.heap a (.ext<|yn a C none)from I.bE a _ h);show⟨_,none,e,rfl,rfl,trivial⟩
def Pl:fB X 102 (λxs H Q=>∃(a C:cr)(c:V)(u:jp)(b:Bool),xs=[-a,c]/\PF H a C/\zV X.K C/\(∀u',RelV c u'->u'=u)/\kitOne X.K (-C) u>b/\Q (.bl b) H):=by ext bi s Z H xs us Q I r h;let(a,C,c,u,b,rfl,ha,ek,hu,hb,q):=h;let(v,w',rfl,rv,kT):=u0 r;cases rv;obtain rfl:=hu _ kT;show kia_one (Oi ek) I.qA (LJ I ha) hb 67 λtk=>{.bl b,H,I.tok tk,9,q}
def Mn:fB X 102 (λxs H Q=>∃(a C p:cr)(cs:Aai)(b:Bool),xs=[-a,-p]/\PF H a C/\zV X.K C/\H p>.tup (cs.map V.ref)/\kitAny X.K (-C) (cs.map Value.ref)>b/\Q (.bl b) H):=by ext bi s Z H xs us Q I r h;let(a,C,p,cs,b,rfl,ha,ek,hp,hb,q):=h;let(v,w',rfl,rv,kT):=u0 r;cases rv;cases kT;obtain⟨aK,r',⟨⟨c0,d0,da0,s0⟩,e1,e2,n,e3⟩,_⟩:=I.tuple<|aZ.of hp;have e2:c0=.type "tuple":=e2;have e3:da0=.seq aK.toArray n:=e3;subst e2 e3;rw[KL r']at e1;show kia_tup (Oi ek) I.qA (LJ I ha) e1 hb 67 λtk=>{.bl b,H,I.tok tk,9,q}
def Cm{K:Frag}(h:X.K=K:=by rfl):fB X 102 (λxs H Q=>∃(a C:cr)(c:V)(u:jp)(b:Bool),xs=[-a,c]/\PF H a C/\zV K C/\(∀u',RelV c u'->u'=u)/\kitOne K (-C) u>b/\Q (.bl b) H):=h▸Pl
def Ko{K:Frag}(h:X.K=K:=by rfl):fB X 102 (λxs H Q=>∃(a C p:cr)(cs:Aai)(b:Bool),xs=[-a,-p]/\PF H a C/\zV K C/\H p>.tup (cs.map V.ref)/\kitAny K (-C) (cs.map Value.ref)>b/\Q (.bl b) H):=h▸Mn
end
end L2
namespace kE
open PySem PySem.Spec PyProof.Rows L2 pK dC
seal L2.PE L2.PT L2.PW L2.PA L2.PS L2.pU L2.PI L2.PO L2.El L2.PG L2.Co
section
variable{P:io}{w:mo}{K:Frag}{mg:Aac}{base:ss}{cT:cr}
structure RQ(h:pi)(qs xs:List One):Prop where
 lx:55<=6
 sx:∀x∈xs,PyData.strOk x.2=true
 nd:(xs.map (·.1)).Nodup
 lq:qs.length<=10
 tq:∀a∈qs,Gp a.2
 ua:∀a∈df qs xs,xW a.2
 al:wY h qs (lN xs<|df qs xs)
structure VQ(K:Frag)(H:Hp)(vl:cr)(v:V)(dH:Aan)(h:pi)(qs xs:List One):Prop where
 vl:aT K H vl dH
 vs:Paired (Gn H) dH xs
 q:Q1 H v h qs
 rq:RQ h qs xs
def VQ.sm{H H':Hp}(s:aI H H'){vl:cr}{v:V}{dH:Aan}{h:pi}{qs xs:List One}(x:VQ K H vl v dH h qs xs):VQ K H' vl v dH h qs xs:={Hx x.vl s,Paired.imp' (λ_ _ q=>q.keep (λ_ _ e=>s _ _ e)) x.vs,x.q.keep (λ_ _ e=>s _ _ e),x.rq}
def acY{qs xs:List One}{a:One}(h:a∈df qs xs):a.1∈xs.map (·.1):=by let(x,hx,h):=rT.mp h;let(z,__,rfl):=aG.mp h;show aG.mpr ⟨x,hx,rfl⟩
inductive Gy(K:Frag)(cT:cr)(vs:Aan)(H:Hp)(Q:VK)(E:XK):Prop
 |mk (vl:cr) (v:V) (dH:Aan) (h:pi) (qs xs:List One) (_:vs=[-vl,v]) (_:VQ K H vl v dH h qs xs) (_:(10<(df qs xs).length->∀H',aI H H'->E (-cT) none H')) (_:((df qs xs).length<=10->∀(r:cr)(H':Hp),aI H H'->Gq K H' (-r) h xs (df qs xs)->Q (-r) H'))
def uf:bL ["views","question","found"] ["views","question"] (bo vk):=fS 76
def VY{f:cr}{fd:ut}(F:dh K "widest_rewriting" "widest_rewriting" vk f fd)(T:Txt K mg)(yw:bY P w K mg base 09 "candidates" ["views","question"] (JL K))(zZ:mg "TooMany">-cT)(Qu:keepIn K (-cT)=true)(Qs:PySem.W.excIn K cT Pn "ValueError.__new__"=true)(Qv:xP K cT Pn "ValueError.__new__"=true):cm P w K mg base (JD P w) 10 f fd ["views","question"] (Gy K cT):=by
 show F.okE uf (λvs H Q E h=>?_) 85;·let(__,__,__,__,__,__,rfl,__):=h;rfl
 let(vl,v,dH,h,qs,xs,rfl,vq,k1,k2):=h;have rq:=vq.rq;show{_,ay (cZ 2 uf<|cl yw hr 36)<|ay (fh (cU Iq (bh cW 9 T.eZ bz<|bB<|pv 2) (GL 9 T.wj)<|cL _) (aP<|YZ (ad9 Qs Qu 9 zZ<|bB<|ab0 (GL 9 T.wj) 7 7) J3 hr.hd) dc)<|aP<|bH<|dF<|cj (bV dv (pv 1) bb (λ_ _=>9))<|cG fE 9 T.jh 76<|bB<|pv 2,?_}
 show{_,9,_,9,vl,v,dH,xs,h,qs,9,vq.vl,vq.vs,rq.lx,rq.sx,vq.q,rq.lq,rq.tq,λl zs H1 s1 l0 hl hz=>?_};have lz:=aQ hz;let(q,hd,aa,gg,rfl,hq,mS,kJ,jo):=id vq.q;show{_,9,_,_,9,.inl {_,aT.of hl,9},?_};show{_,_,9,9,_,9,hX (λc=>?_) (λc=>?_)};·have c:=aV c;show{.inr {10,9,7},λy=>{by change 1<=1000;decide,λa ha=>{a,cT,none,9,au,Qv,k1 ∅ _ λb u e=>?_}}};have n:=a9 (s1 _ _ e) ha;rw[nY n,aC n];show s1 _ _ e
 have c:¬(10:Int)<(zs.length:Int):=λe=>c<|aO e;show{_,9,_,_,_,_,9,9,aZ.of<|s1 _ _ hq,9,_,9,l,zs,9,.inl {aT.of hl,λt ht=>{95,λp hp=>?_}}};have s2:aI H1 (upd H1 t<|.tup zs):=aB ht _;have s3:aI (upd H1 t<|.tup zs) (upd (upd H1 t<|.tup zs) p<|.tup [-hd,-t]):=aB hp _;show k2 ∅ p _ (s1.trans<|s2.trans s3) {{hd,aZ.of<|s3 _ _<|s2 _ _<|s1 _ _ mS,p,t,zs,9,aZ.of au,aZ.of<|s3 _ _ au,hz.tp<|bu.same<|s2.trans s3},λa ha=>acY ha,rq.al.uh,rq.ua,8}
inductive JH(K:Frag)(cT:cr)(vs:Aan)(H:Hp)(Q:VK)(E:XK):Prop
 |mk (vl:cr) (v:V) (dH:Aan) (h:pi) (qs xs:List One) (_:vs=[-vl,v]) (_:VQ K H vl v dH h qs xs) (_:(10<(df qs xs).length->∀H',aI H H'->E (-cT) none H')) (_:((df qs xs).length<=10->∃Du,BP h qs (lN xs<|df qs xs) Du/\∀(r:cr)(zs:Aan)(H':Hp),aI H H'->H' r>.lst zs->Paired (uV H') zs Du->Q (-r) H'))
def L7:bL ["views","question"] ["views","question"] (bo CY):=fS 76
def Zc{f:cr}{fd:ut}(F:dh K "spare_ways" "spare_ways" CY f fd)(T:Txt K mg)(pZ:vO P w K mg base 10 "widest_rewriting" ["views","question"] (Gy K cT))(EF:bY P w K mg base 12 "ways_of" ["views","question","widest"] (MQ K)):cm P w K mg base (JD P w) 13 f fd ["views","question"] (JH K cT):=by
 show F.okE L7 (λvs H Q E h=>?_) 85;·let(__,__,__,__,__,__,rfl,__):=h;rfl
 let(vl,v,dH,h,qs,xs,rfl,vq,k1,k2):=h;show{_,aP<|bH<|cl EF hr<|pf (pv 0) (pv 1)<|Sv pZ hr J3 36,?_};show{_,9,_,9,_,9,_,9,vl,v,dH,h,qs,xs,9,vq,k1,λCc r H1 s1 qv=>?_};let(Du,du,k):=k2 Cc;have QG:=vq.sm s1;show{xs,vl,dH,v,-r,h,qs,df qs xs,Du,9,QG.vl,QG.vs,vq.rq.nd,QG.q.k,qv,vq.rq.al,du,λr2 zs H2 s2=>k r2 zs H2<|s1.trans s2}
variable{C:cr}
theorem GZ{x:pi}:∀{us:Aag},x∈us->dC.get (us.zip us) x>x
 |u::us,h=>by
  unfold dC.get;rw[List.zip_cons_cons];by_cases c:u=x;·rw[eX (by show aO c),c];rfl
  rw[dU<|↑c];show GZ ((aJ.mp h).resolve_left λe=>c e.symm)
inductive Vg(K:Frag)(vs:Aan)(H:Hp)(Q:VK)(_x3:XK):Prop
 |mk (v v2 v3 hd:V) (h h3:pi) (qs ws fs:List One) (_:vs=[v,v2,v3]) (_:QK K H v h qs) (_:QU K H v2 hd ws) (_:QK K H v3 h3 fs) (_:qs.length<=100) (_:(∀a∈qs,EB a)) (_:ws.length<=10) (_:(∀a∈ws,xW a.2)) (_:fs.length<=10) (_:(∀a∈fs,EB a/\a∈qs/\a.2∈ws.map (·.2))) (_:∀(r:cr)(H':Hp),aI H H'->Q (-r) H')
def FI:bL ["question","rewriting","flat","own"] ["question","rewriting","flat"] (bo HW):=fS 76
def aca{f:cr}{fd:ut}(F:dh K "back_map" "back_map" HW f fd)(T:Txt K mg)(O:Own K C)(iH:bY P w K mg base 3 "unknowns_of" ["question"] (Ag K))(BS:jH P w K mg base C 09 "mapped" ["self","atoms","given"] (uy P w K C 1))(vW:AR P w K mg base C 3 "MapSearch" ["self","atoms"] (Mq P w K C)):cm P w K mg base dZ 10 f fd ["question","rewriting","flat"] (Vg K):=by
 show F.ok FI 85;obtain⟨v,v2,v3,hd,h,h3,qs,ws,fs,rfl,⟨h1,hh1,r1,a1,QF,rfl,nK,Sg,E2⟩,q2,⟨h0,hh0,r3,a3,vs3,rfl,DM,IY,agG⟩,lq,fq,lw,uw,lf,ff,k⟩:=h;show{_,ay (cZ 3 FI<|cl iH hr 73)<|aP<|bH<|bh (xU hr.hd) 9 T.mX 76<|bB<|NJ<|B8 O.c BS hr (mkO vW hr (bB<|bV dv (pv 0) bb (λ_ _=>9)) ∅) (cj (cG jc 9 T.mB 76<|bB<|bV dv (pv 2) bb (λ_ _=>9))<|Dj (c:=true) 9 T.xy 9 T.yP hr.hd<|cj (pv 3)<|pv 3) ∅,?_}
 show iq λR eR=>?_;show{_,9,v2,hd,ws,9,q2,λa ha=>aS (uw a ha).2.1 7,8,λul H1 s1 ZC yS=>?_};obtain⟨us,Jc⟩:∃us,us=lD (ws.map (·.2)):=⟨_,rfl⟩;rw[<-Jc]at yS;have lus:us.length<=10:=by rw[Jc];have:=Ka<|ws.map (·.2);rw[ag]at this;lia
 have inu:∀a∈fs,a.2∈us:=λa ha=>by rw[Jc];show A5.mpr {(ff a ha).2.2,(ff a ha).1.2.1}
 show jg eR ?_;show{_,9,_,_,_,_,9,9,bf nK s1,9,λx dx hx Xa ne=>?_};have s3:aI H1 (upd (upd H1 dx<|.own x) x<|.ins C dx []):=λb u h=>by rw[aC<|a9 h hx,aC<|a9 h Xa];show h
 have hx3:upd (upd H1 dx<|.own x) x (.ins C dx []) x>.ins C dx []:=au;have mO:=s1.trans s3;show{x,a1,dx,QF,qs,H1,9,hx3,hx,bf Sg mO,E2.tp<|bu.same mO,lq,fq,s3,λH4 A' B kvs s4 B0 Vr=>{9,?_}};have mM:=s1.trans s4;show{x,dx,_,9,Vr.ins,9,_,9,_,_,_,_,9,9,bf DM mM,9,a3,vs3,9,.inr<|bf IY mM,?_}
 intros l hl H5 s5 qD
 have oX:=mM.trans s5;have aeQ:=s5 _ _<|s4 _ _ yS;show{_,9,_,9,ul,ul,us.map Sum.inr,us.map V.str,9,RM▸aT.of aeQ,aT.of aeQ,by rw[ag,ag],λd hd=>?_};rw[Lo (by rw[Jc];show KO _) rfl];rename_i d hd H6 s6 xM;have lg:(us.zip us).length=us.length:=by rw[List.length_zip,Nat.min_self]
 show{x,A',B,dx,l,d,kvs,qs,us.zip us,fs,vs3,9,λq=>absurd q 7,{Vr.same<|s5.trans s6,lq,λb hb=>(fq b hb).2.2.2,xM,λq hq=>?_},s6 _ _ qD,agG.tp<|bu.same<|oX.trans s6,λa ha=>(ff a ha).1,8,8,?_,λH7 _ no=>absurd (λa ha=>{a.2,(ff a ha).2.1,.inr<|GZ<|inu a ha}) no,λd7 g7 H7 s7 Sd lg7 _ _=>{d7,gK g7,9,Sd,λiv hiv=>?_}};·have:=(oM (show(q.1,q.2)∈us.zip us from hq)).2;rw[Jc]at this;let(a,ha,e):=aG.mp (A5.mp this).1;rw[<-e];show(uw a ha).2.2
 ·show yl (λ{a b} _ hb _ _=>?_) (List.pairwise_of_forall λ_ _=>trivial);rw[GZ<|inu b hb]
  exactλe=>nomatch e
 rename_i iv hiv H8 s8 aif;show{iv,d7,g7,9,aif,s8 _ _ Sd,8,λl9 zs H9 s9 IV _ _=>?_};have s9:aI H8 H9:=s9;show k l9 _<|oX.trans<|s6.trans<|s7.trans<|s8.trans<|s9.trans<|aB IV _
end
end kE
namespace L2
open PySem PySem.Spec PyProof.Rows
section
variable{X:Cx}{bi:Aab}{Z:St}{H:Hp}{s:fv}{h':ss}
def Inv.agq{t':Nat}(I:Inv X bi Z H s)(k:∀b o,b≠92->s.heap.get? b>o->h'.get? b>o)(kn:∀m,s.heap.Ns 92 m->h'.Ns 92 m):Inv X bi Z H (s\(h',t')):=by
 have tr:∀b u,H b>u->b≠92:=λb u e z=>by rw[z,I.free]at e;cases e
 show I.step (ch:=[]) (λ_ z=>nomatch z) (λb o hL _ _ e _=>k b o hL e) (λb o hL _ _ e _=>{o.slots,k b o hL e}) (λ_ _ _ _ n=>n) (λb o _ e=>?_) (λ_ _ e=>e) (λ_ _ _ e=>e) (λb ps e=>{#[],by rw[e];simp}) kn (λb u e=>?_) I.bare
 ·by_cases c:b=92;·let(m,hn,__):=I.loc;let(o',__,__,ho,__):=kn m hn;show{o',c▸ho}
  show{o,k b o c e}
 show(I.bE b u e).j3 (λc v hc q=>k c v ?_ q) (λ_ q=>q) λ_ _ q=>q;rcases hc with z|z;·rw[z];show tr b u e
 show tr c _ z
inductive aha(K:Frag)(xs:Aan)(H:Hp)(Q:VK):Prop
 |mk (p:cr) (ys:Aan) (F:V->Nat) (_:xs=[-p]) (_:aT K H p ys) (_:0<ys.length) (_:(∀y∈ys,∃a zs,y=-a/\H a>.lst zs/\zs.length=F y)) (_:∀y∈ys,(∀z∈ys,F y<=F z)->Q y H)
def VM{e:xL}{t:TA}{p p2 pos kp:GM}(hc:X.calm=true)(hg:Gl X "min")(hm:X.mg "min"=none)(hg2:Gl X "len")(IU:X.mg "len"=none)(ha:PA X [e] t)
  (he:re [e] X.env=[(false,wT e X.env)]:=by rfl):PE X (.Call (.Name "min" p) [e] [{some "key",.Name "len" p2,kp}] pos) (tCB (aha X.K) t):=by
 ext bi s0 Z H0 Q I0 h;show jD<|nJ I0 hg hm (by decide+kernel:Da "min">.builtin "min") ?_;show callWith_kw (oO (ha pos bi s0 Z H0 _ I0 h) λus s vs H I rv q=>kws_cons<|nJ I hg2 IU (by decide+kernel:Da "len">.builtin "len")<|kws_nil ?_) (by rw[he];rfl) (by rw[he];rfl);let(l,ys,F,rfl,hl,n0,hy,k):=q;let(u,rfl,ru):=iw rv;cases ru;let(aK,r,pl,hz):=I.list hl;let(m,hn,__):=id I.loc;let(o2,es2,ep2,wc,hd2,__,AG):=id hn;have lr:=r.length;have keep:∀(h:ss)(nw:Aab),News (L3.xw s.heap) 92 h nw->(∀p∈xb (L3.xw s.heap) s.heap 92,p∈nw)->∀b o,b≠92->s.heap.get? b>o->h.get? b>o:=λh nw N sub b o hb e=>(N (b,o)<|sub _<|Qd hb (L3.IC _ _) e).1;have isL:∀{a:cr}{xs:Aak}{h:ss}{nw:Aab},s.heap.IsList a xs->News (L3.xw s.heap) 92 h nw->(∀p∈xb (L3.xw s.heap) s.heap 92,p∈nw)->h.IsList a xs:=λ{a xs h nw} ia N sub=>by show ia.at λo e=>keep h nw N sub a o (λz=>?_) e;let(o1,e1,__,n1,d1):=ia;rw[z,wc]at e1;cases e1;rw[hd2]at d1;cases d1
 have at_:∀{i:Nat}{v:jp},aK[i]?>v->∃y,ys[i]?>y/\RelV y v:=λ{i v} hv=>by
  have hi:i<91:=by rw[lr];show(ar.mp hv).1
  let(v',hv',rv'):=r.get<|aq hi;rw[hv]at hv';cases hv';show{_,aq hi,rv'}
 show kmb_min (λi=>(((ys[i]?).map F).getD 0:Nat)) (show X.A.handled=none from I.ok.hd hc) (L3.afp hn) Zk (λh _ N=>isL pl.isList N λ_ h=>h) ∅ (λi v hv h tk own F' N'=>?_) λi v h2 tk hv best F' N'=>?_;·let(y,WS,ry):=at_ hv;let(a,zs,rfl,ha',lz):=hy y<|aM WS;cases ry;let(its',r',pl',F4):=I.list<|aT.of ha';have we:=Az;have lr':=r'.length;show CF (isL pl'.isList N' λ_ h=>dD _ h) (by simp only[aR];lia) {h,_,tk+1,9,?_,F',N'};rw[WS,aR,<-lr',lz];rfl
 let(y,WS,ry):=at_ hv;show{y,H,I.agq (keep h2 _ N' λ_ h=>h) (λm' hm'=>?_),ry,k y (aM WS) λz hz=>?_};·let(o1,es1,ep1,yU,hd1,__,DT):=hm';rw[wc]at yU;cases yU;rw[hd2]at hd1;cases hd1;rw[(funext λx=>(DT x).symm.trans<|AG x)];show F'.ns
 let(j,hj):=nj hz;have:=(best j (by rw[<-lr];show(ar.mp hj).1)).1;rw[WS,hj]at this;show Int.ofNat_le.mp this
end
end L2
namespace kE
open PySem PySem.Spec PyProof.Rows L2 pK dC
seal L2.PE L2.PT L2.PW L2.PA L2.PS L2.pU L2.PI L2.PO L2.El L2.PG L2.Co
section
variable{P:io}{w:mo}{K:Frag}{mg:Aac}{base:ss}{cT:cr}
def VH{xs cs:List One}{d:List Nat}:lN xs (pk cs d)=pk (lN xs cs) d:=by unfold lN pk;rw[Es];show c8 (λf=>List.filterMap f d) (funext λn=>?_);rw[aN]
def P2{α β:Type}{F:α->β->Prop}{xs:List α}{ys:List β}(h:Paired F xs ys){y:β}(hy:y∈ys):∃x∈xs,F x y:=by
 induction h with
 |nil=>cases hy
 |cons h _ ih=>
  rcases aJ.mp hy with e|hy;·show{_,av,e▸h}
  let(x,hx,q):=ih hy;show{x,aA _ hx,q}
def aaT(H:Hp):V->Nat
 | .ref a=>match H a with
  |some (.lst zs)=>zs.length
  |_=>0
 |_=>0
def GS{H:Hp}{v:V}{d:List Nat}(h:uV H v d):aaT H v=d.length:=by
 let(a,rfl,ha):=h;change(match H a with
  |some (.lst zs)=>zs.length
  |_=>0)=_
 rw[ha];show ag _
theorem tab_of{x:One}:∀{xs:List One},(xs.map (·.1)).Nodup->x∈xs->tabOf xs x.1=x.2
 |y::xs,nd,h=>by
  rw[bI,cQ]at nd;unfold tabOf;rcases aJ.mp h with rfl|h;·rw[eX (by show aO rfl)];rfl
  have ne:y.1≠x.1:=λe=>nd.1<|e▸dN h;rw[dU<|↑ne];show tab_of nd.2 h
def JF{qs xs:List One}(nd:(xs.map (·.1)).Nodup){a:One}(h:a∈lN xs (df qs xs)):a∈qs:=by let(b,hb,rfl):=aG.mp h;let(x,hx,hb):=rT.mp hb;let(z,hz,rfl):=aG.mp hb;rw[tab_of nd hx];show Ax.mp hz
inductive MT(K:Frag)(cT:cr)(vs:Aan)(H:Hp)(Q:VK)(E:XK):Prop
 |mk (vl:cr) (v:V) (dH:Aan) (h:pi) (qs xs:List One) (_:vs=[-vl,v]) (_:VQ K H vl v dH h qs xs) (_:(10<(df qs xs).length->∀H',aI H H'->E (-cT) none H')) (_:((df qs xs).length<=10->∃Du,BP h qs (lN xs<|df qs xs) Du/\(h∉(df qs xs).map (·.2)->∀r H',aI H H'->H' r>.tup [.str "loose"]->Q (-r) H')/\(h∈(df qs xs).map (·.2)->Du=[]->∀r a b H',aI H H'->H' r>.tup [.str "short",a,b]->Q (-r) H')/\∀d∈Du,(∀e∈Du,d.length<=e.length)->∀r rr x y z hd t ys H',aI H H'->H' r>.tup [.str "whole",-rr,x,y,z]->H' rr>.tup [hd,-t]->H' t>.tup ys->ys.length=d.length->Q (-r) H'))
def ml:bL ["views","question","widest","told","way","rewriting","flat"] ["views","question"] (bo FL):=fS 76
def NT{f:cr}{fd:ut}(F:dh K "rewritten" "rewritten" FL f fd)(T:Txt K mg)(pZ:vO P w K mg base 10 "widest_rewriting" ["views","question"] (Gy K cT))(EF:bY P w K mg base 12 "ways_of" ["views","question","widest"] (MQ K))(UP:bY P w K mg base 5 "is_bound" ["question"] (Q0 K))(PJ:bY P w K mg base 11 "within" ["one","other"] (MP K))(JA:bY P w K mg base 07 "unfolded" ["views","question"] (aaG K))(UQ:bY P w K mg base 10 "back_map" ["question","rewriting","flat"] (Vg K)):cm P w K mg base (JD P w) 13 f fd ["views","question"] (MT K cT):=by
 show F.okE ml (λvs H Q E h=>?_) 85;·let(__,__,__,__,__,__,rfl,__):=h;rfl
 let(vl,v,dH,h,qs,xs,rfl,vq,k1,k2):=h;have rq:=vq.rq;let(q,hd,aa,gg,rfl,hq,mS,kJ,jo):=id vq.q;obtain⟨cs,LM⟩:∃cs,cs=df qs xs:=⟨_,rfl⟩;show{_,ay (mx (i:=2) ml.nd 9 (Or.inr 9)<|Sv pZ hr J3 36)<|ay (fh (sW<|h9<|cl UP hr<|bB<|pv 2) (aP<|bH<|dF<|bB fK) dc)<|ay (cZ 3 ml<|cl PJ hr<|cj (cl JA hr<|cj (pv 0)<|pv 2)<|pv 1)<|ay (fh (cU rG (bV dv (pv 3) bb (λ_ _=>9)) fK<|cL _) (aP<|bH<|dF<|pf fK (bV dv (pv 3) bb (λ_ _=>9))<|bV dv (pv 3) bb (λ_ _=>9)) dc)<|ay (cZ 4 ml<|VM 9 9 T.aaS 9 T.eZ<|bB<|cl EF hr<|pf (pv 0) (pv 1)<|pv 2)<|ay (cZ 5 ml<|dF<|cj (bV dv (pv 1) bb (λ_ _=>9))<|cG fE 9 T.jh 76<|bB<|hG 9 (cA (fs:=["widest"]) (fr:=[2])) (cN<|pv 4) (λ_ _ _ _=>bV (iC) (bV (iC) (pv 1) bb (λ_ _=>9)) (pv 0) (λ_ _=>9)))<|ay (cZ 6 ml<|cl JA hr<|cj (pv 0)<|pv 5)<|aP<|bH<|dF<|iR fK<|iR (pv 5)<|pf (pv 6) (bV dv (cl PJ hr<|cj (pv 6)<|pv 1) bb (λ_ _=>9))<|cl UQ hr<|pf (pv 1) (pv 5)<|pv 6,?_}
 show iq λR eR=>?_;show{_,9,_,9,vl,-q,dH,h,qs,xs,9,vq,k1,λCc wr H1 s1 qv=>?_};let(Du,du,ka,kb,kc):=k2 Cc;have al:=rq.al;have um:∀a∈lN xs (df qs xs),a∈qs:=λa ha=>JF rq.nd ha;have ua:=rq.ua;rw[<-LM]at Cc qv du ka kb al um ua;show bT eR λR eR=>?_;show{_,9,-wr,h,cs,9,qv.q,al.uh,ua,8,λH2 s2=>{_,9,?_}};have iI:=s1.trans s2;show hX (λc=>?_) (λc=>?_);·show{42,λr ug=>?_};show ka (λe=>by rw[aO e]at c;cases c) r _ (iI.trans<|aB ug _) au
 have vq2:=vq.sm iI;show bT (T:=R) eR λR eR=>?_;show{_,9,_,9,xs,vl,dH,-wr,h,cs,9,vq2.vl,vq2.vs,rq.nd,qv.tp<|bu.same s2,λfr H3 s3 qf=>{_,9,-fr,-q,h,lN xs cs,qs,9,qf,vq2.q.k.tp<|bu.same s3,al,(by rw[rY];show Cc),rq.lq,λH4 tr tl s4 htr yes=>?_,λH4 tr pa rw s4 htr no=>?_}};all_goals
  have mM:=iI.trans<|s3.trans s4;show bT eR λR eR=>?_;show{_,9,_,_,_,_,9,9,aZ.of htr,9,?_}
 ·show{9,_,9,hX (λc=>absurd (aV c) 7) (λ_=>?_)};show bT (T:=R) eR λR eR=>?_;have vq4:=vq.sm mM;have qv4:=qv.tp<|bu.same<|s2.trans<|s3.trans s4;have dn:Du≠[]:=λe=>by have:=du.wh;rw[vc.mpr yes,e]at this;cases this
  show{_,9,_,9,_,9,xs,vl,dH,-q,-wr,h,qs,cs,Du,9,vq4.vl,vq4.vs,rq.nd,vq4.q.k,qv4,al,du,λwl zs H5 s5 F5 hz=>?_};show{wl,zs,aaT H5,9,aT.of F5,aQ hz▸List.length_pos_iff.mpr dn,λy hy=>?_,λy hy least=>?_};·let(d,__,h5):=wI hz hy;have e:=GS h5;let(a,rfl,ha):=h5;show{a,_,9,ha,by rw[e,ag]}
  let(d,hdu,h5):=wI hz hy;have dl:∀e∈Du,d.length<=e.length:=λe he=>by let(z,F4,h6):=P2 hz he;have:=least z F4;rw[GS h5,GS h6]at this;show this
  let(a,rfl,ha):=h5;have oX:=mM.trans s5;let(ch,AH,cq,ca,cvs,ecq,hcq,hca,OQ):=id (qv4.tp<|bu.same s5).q;cases ecq;have lcv:=aQ OQ;have ld:=(du.i0 d hdu).hi;have big:(5000:Nat)<dL:=by rw[bM];decide
  show bT eR λR eR=>?_;show{_,9,_,_,_,_,9,9,aZ.of<|oX _ _ hq,9,_,9,a,9,{_,aT.of ha},eJ (xs:=d.map vN) (λj us H6=>aI H5 H6/\j<=d.length/\kG K H6 us (pk cs<|d.take j)/\us.length=j) 65 {84,aF _,.nil,9} ?_ ?_ ?_};·ext j us H6 hj ⟨s6,_,_,lu⟩;show{aT.of<|s6 _ _ ha,8}
  ·ext j y us H6 N hy ⟨s6,hj,hu,lu⟩ hN;rw[aN]at hy;let(n,hn,rfl):=aY.mp hy;have W6:=(ar.mp hn).1;have nL:=(λn hn=>by have:=du.lt d hdu n hn;rw[rY]at this;show this) n<|aM hn;have en:cvs[n]?>cvs[n]'∅:=aq _;let(b,hb,WX):=Paired.at (OQ.tp<|bu.same s6) en;show fD {_,9,_,_,_,_,9,9,bf hcq s6,9,_,9,_,_,_,_,9,9,bf hca s6,mF en,hN _ _ {s6,W6,?_,by rw[aU,b5,lu]}};rw[bW,hn];rw[show pk cs (d.take j++(Option.some n).toList)=pk cs (d.take j)++[b]from Rm hb];show cY hu<|.cons WX .nil
  ext us H6 ⟨s6,_,hu,lu⟩ l2 iz;rw[ag]at hu lu;rw[bq]at hu;rename_i l2 iz H7 s7 si;show{l2,us,9,.inl {aT.of si,?_}}
  intros t ht H8 s8 Lx
  show{95,?_}
  intros p hp H9 s9 hp9
  have s69:=s7.trans<|s8.trans s9;have FV:=oX.trans<|s6.trans s69;have sub:∀b∈pk cs d,b∈cs:=λb hb=>IG hb;have lw:(pk cs d).length<=10:=by rw[<-aQ hu];lia
  have qw:Gq K H9 (-p) h xs (pk cs d):={{hd,aZ.of<|FV _ _ mS,p,t,us,9,aZ.of hp9,aZ.of<|s9 _ _ Lx,hu.tp<|bu.same s69},λb hb=>qv.DI b<|sub b hb,qv.uh,λb hb=>ua b<|sub b hb,lw};have vq9:=vq.sm FV;show bT eR λR eR=>?_;show{_,9,_,9,xs,vl,dH,-p,h,pk cs d,9,vq9.vl,vq9.vs,rq.nd,qw,λfr2 HA sA qf2=>?_};have Q9:=FV.trans sA;have adF:∀b∈lN xs (pk cs d),b∈lN xs cs:=λb hb=>by rw[VH]at hb;show IG hb
  have lU:(lN xs<|pk cs d).length<=10:=by rw[rY];show lw
  have al2:=al.sub adF ∅;show jg eR ?_;show{_,9,_,9,_,9,_,9,-fr2,-q,h,lN xs<|pk cs d,qs,9,qf2,(vq.sm Q9).q.k,al2,lU,rq.lq,λHB tr2 tl2 sB ahP _=>?_,λHB tr2 _ _ _ _ no=>absurd (vc.mp<|VH▸du.good d hdu) no};have s0B:=Q9.trans sB;have Ao:=sA.trans sB;show{_,_,_,_,9,9,aZ.of ahP,9,_,9,_,9,_,9,-q,-p,-fr2,-hd,h,h,qs,pk cs d,lN xs<|pk cs d,9,(vq.sm s0B).q.k,?_,qf2.tp<|bu.same sB,al.lq,al.fq,lw,λb hb=>ua b<|sub b hb,lU,λb hb=>{al2.fL b hb,um b<|adF b hb,?_},λbr HC sC=>{(by change 5<=dL;decide),λr ug=>?_}};·let(__,hx1,qq):=qw.q.tp<|bu.same Ao;show{p,t,us,9,aZ.of<|Ao _ _ hp9,aZ.of<|Ao _ _<|s9 _ _ Lx,hu.tp<|bu.same<|s69.trans Ao}
  ·let(c,hc,e):=aG.mp hb;rw[<-e];show aG.mpr ⟨c,hc,rfl⟩
  have sD:=sC.trans<|aB ug<|.tup [.str "whole",-p,-fr2,-tl2,-br];show kc d hdu dl r p _ _ _ (-hd) t us _ (s0B.trans sD) au (sD _ _<|Ao _ _ hp9) (sD _ _<|Ao _ _<|s9 _ _ Lx) lu
 show{9,_,9,hX (λ_=>?_) (λc=>absurd (aO 9) c)};show{_,9,_,_,_,_,9,9,aZ.of htr,9,_,9,_,_,_,_,9,9,aZ.of htr,9,(by change 3<=dL;decide),λr ug=>?_};show kb (gD λe=>c (by rw[bQ e];rfl)) (gD λe=>no<|vc.mp<|du.wh▸aO e) r _ _ _ (mM.trans<|aB ug _) au
end
end kE
namespace L2
open PySem PySem.Spec PyProof.Rows PySem.W
section
variable{X:Cx}{bi:Aab}{Z:St}{H:Hp}{s:fv}
def TyS(K:Frag)(H:Hp)(x:V)(t:jp):Prop:=qO K H x t\/∃a xs,x=-a/\t=.type "tuple"/\aZ K H a xs
def IK{x:V}{u t:jp}(I:Inv X bi Z H s)(rx:RelV x u)(ty:TyS X.K H x t):∃G:ss->Prop,KitX X.K u t G/\G s.heap/\u≠ .builtin "__main__.__loader__#opaque":=by
 rcases ty with ty|⟨a,xs,rfl,rfl,hq⟩;rotate_left;·cases(show u=Value.ref a from rx);obtain⟨aK,r',⟨o,h1,h2,_⟩,_⟩:=I.tuple hq;show{_,kitx_tuple,⟨o,h1,h2⟩,67}
 show Wz I rx ty
theorem ME:∀{ns:List String}{us:Aaf},Vals (ns.map V.ty) us->us=ns.map Value.type
 |[],_,.nil=>rfl
 |c::r,_,.cons e h=>by rw[ME h];rw[e];rfl
def Pm:fB X 102 (λxs H Q=>∃(x:V)(t:jp)(p:cr)(ns:List String)(b:Bool),xs=[x,-p]/\TyS X.K H x t/\H p>.tup (ns.map V.ty)/\kitAny X.K t (ns.map Value.type)>b/\Q (.bl b) H):=by ext bi s Z H xs us Q I r h;let(x,t,p,ns,b,rfl,ty,hp,hb,q):=h;let(v,w',rfl,rv,kT):=u0 r;cases kT;let(G,kx,g,hx):=IK I rv ty;obtain⟨aK,r',⟨⟨c0,d0,da0,s0⟩,e1,e2,n,e3⟩,_⟩:=I.tuple<|aZ.of hp;subst e2 e3;rw[ME r']at e1;show kia_tup kx I.qA g e1 hb hx λtk=>{.bl b,H,I.tok tk,9,q}
def xV:fB X 102 (λxs H Q=>∃(x:V)(t:jp)(n:String)(b:Bool),xs=[x,.ty n]/\TyS X.K H x t/\kitOne X.K t (.type n)>b/\Q (.bl b) H):=by ext bi s Z H xs us Q I r h;let(x,t,n,b,rfl,ty,hb,q):=h;let(v,w',rfl,rv,kT):=u0 r;cases kT;let(G,kx,g,hx):=IK I rv ty;show kia_one kx I.qA g hb hx λtk=>{.bl b,H,I.tok tk,9,q}
def YV(K:Frag):R2:=λx y H Q=>YU K x y H Q\/YT K x y H Q
def RN{K:Frag}(h:X.K=K:=by rfl):SF X (YV K):=by subst h;ext value slice bi s Z H x y v u Q I rx ry h hs;show h.elim (λh=>hJ value slice bi s Z H x y v u Q I rx ry h hs) λh=>dv value slice bi s Z H x y v u Q I rx ry h hs
end
end L2
namespace L2
open PySem PySem.Spec PyProof.Rows pK
end L2
namespace pK
open PySem PySem.W PyProof.Rows PySem.Calls
def jP.length:∀{zs:Aag}{vs:Aaf},jP zs vs->vs.length=zs.length:=by
 ext _ _ h
 induction h with
 |nil=>rfl
 |cons _ ih=>rw[bc,bc,ih]
section
open PySem.SeqAt
open PySem.AutoSeq1 (wpAny_loadPart')
open PySem.MeetsSeq PySem.MeetsSeq2 PySem.MeetsSeq3
def adi{l b:cr}{aK lP:Aak}{n m:Nat}{dd de:Aaj}{sl sm:Aae}{xs ys:Aag}(hi:jP xs aK.toList)(hj:jP ys lP.toList):
  Meets (Builtin.«tuple.__lt__» {[-l,-b],[]})
   (λ_ R s=>s.heap.get? l>{cls:=.type "tuple",dict:=dd,data:=.seq aK n,slots:=sl}/\s.heap.get? b>{cls:=.type "tuple",dict:=de,data:=.seq lP m,slots:=sm}/\R (.ok<|.ret<|.bool<|dM xs ys) s):=
 .of_wp λprog w A R s h=>by
  let(hp,g,d,tk,os):=s;let(hl,hb,h):=h;have f2:=AutoSeq1.sub_tuple_tuple;have z1:aK.size=55:=by rw[<-hi.length];simp
  have z2:lP.size=91:=by rw[<-hj.length];simp
  wp_walk using wpAny_loadPart' hl,wpAny_loadPart' hb,jt _ (λrest b s'=>b.1=none/\s'=⟨hp,g,d,tk,os⟩/\∃(vs ws:Aaf)(x' y':Aag),rest=vs.zip ws/\
   jP x' vs/\jP y' ws/\x'.length+lP.size=y'.length+aK.size/\R (.ok<|.ret<|.bool<|dM x' y') ⟨hp,g,d,tk,os⟩) _
  case turn=>
   ext⟨y,x⟩ rest b s' ⟨gf,rfl,vs,ws,x',y',hz,hvi,hwi,hlen,hR⟩;cases hvi with
   |nil=>rw[List.zip_nil_left]at hz;cases hz
   |@cons a t _ _ ahO=>
    cases hwi with
    |nil=>rw[List.zip_nil_right]at hz;cases hz
    |@cons c u _ _ ahN=>
     injection hz with Oy agA;injection Oy with hy hx;subst hy hx;unfold dM at hR;simp only[bc]at hlen;have he:SeqAt.EqAt A.in1 ⟨hp,g,d,tk,os⟩ (.str a t) (.str c u) (a==c):=Ef a t c u;show ae<|he prog w _ _ ?_;by_cases e:a=c
     ·rw[show(a==c)=true from k8.mpr e];rw[aL e]at hR
      wp_walk
      show{9,9,_,_,_,_,agA,ahO,ahN,8,hR}
     rw[show(a==c)=false from dq.mpr e];rw[az e]at hR;have hri:∀(E:Aad)(Q:Aad),Q (.bool<|FZ a c) ⟨hp,g,d,tk,os⟩->f8 77 A.in1 (richCompare .Lt (.str a t)<|.str c u) Q E ⟨hp,g,d,tk,os⟩:=λE Q h=>(CA h:f8 77 A.in1 (wv .Lt (.str a t)<|.str c u) Q E _)
     wp_walk using hri
     show{_,9,by simpa using hR}
  case fin=>
   ext⟨b1,b2⟩ s' ⟨gf,rfl,vs,ws,x',y',hz,hvi,hwi,hlen,hR⟩;simp only at gf;subst gf;have hv:dM x' y'=decide (aK.size<lP.size):=by
    cases hvi with
    |nil=>
     cases hwi with
     |nil=>
      simp only[gc]at hlen;show(bQ ∅).symm
     |cons hw=>
      simp only[gc,bc]at hlen;show(aO ∅).symm
    |cons hv=>
     cases hwi with
     |nil=>
      simp only[gc,bc]at hlen;show(bQ ∅).symm
     |cons hw=>
      cases hz
   rw[hv]at hR
   wp_walk
   show{_,9,by simpa[Builtin.Tuple.tupleCompareSizes]using hR}
  case h=>
   show{9,9,aK.toList,lP.toList,xs,ys,9,hi,hj,8,h}
end
section
variable{prog:io}{w:mo}{A:wf}{E:Aad}{s:fv}
def aes{x y:cr}{xs ys:Aag}{Q:Aad}(hx:TupIs s.heap (-x) xs)(hy:TupIs s.heap (-y) ys)(hu:A.units<wS)(h:Q (.bool<|dM xs ys) s):f8 77 A (wv .Lt (-x) (-y)) Q E s:=by obtain⟨_,⟨c,dd,dt,sl⟩,aK,n,e,ho,hc,hd,hi⟩:=hx;obtain⟨_,⟨c2,de,dt2,sm⟩,lP,m,e2,wc,tK,hd2,hj⟩:=hy;cases e;cases e2;simp only at hc hd tK hd2;subst hc hd tK hd2;show richCompare_meets_room (op:=.Lt) ⟨_,ho,rfl⟩ ⟨_,wc,rfl⟩ PySem.F.slot_tuple_lt PySem.F.entry_tuple_lt (PySem.F.args_tuple_lt_2 _ _) (adi hi hj) {ho,wc,show Value.bool (dM xs ys)≠Value.notImplemented/\Q (.bool<|dM xs ys) s from{(λx=>nomatch x),h}} hu
theorem RH{P:io}{w:mo}:∀{zs:Aag}{us:Aaf},jP zs us->ItemsAre (PySem.strKind P w) zs us
 |_,_,.nil=>.nil
 |_,_,.cons r=>.cons (Hv _ _ _ _)<|RH r
def TupIs.key{P:io}{w:mo}{h:ss}{a:cr}{zs:Aag}(x:TupIs h (-a) zs):P' (PySem.strKind P w) h zs a:=by let(__,o,aK,n,e,ho,hc,hd,hr):=x;cases e;show{o,aK,n,ho,hc,hd,RH hr}
def jd(h:ss)(v:jp)(r:Aag):Prop:=∃a o aK n g t z zs,v=-a/\h.get? a>o/\o.cls=.type "tuple"/\o.data=.seq aK n/\aK.toList=[.str z t,-g]/\r=z::zs/\TupIs h (-g) zs
def ack{x y:jp}{xs ys:Aag}{C:Bool->fv->Prop}(hu:A.units<wS)(hx:jd s.heap x xs)(hy:jd s.heap y ys)(h:C (dM xs ys) s):f8 77 A (keyLt' (UF true) x y) C E s:=by
 let(a,o,aK,n,g,t,z,zs,rfl,ho,hc,hd,el,rfl,hg):=hx;let(b,p,lP,m,g',u,z',Aa,rfl,hp,hpc,hpd,el2,rfl,hg'):=hy;have z1:aK.size=2:=by rw[<-bj,el];rfl
 have z2:lP.size=2:=by rw[<-bj,el2];rfl
 show kat_lt ho hd hp hpd ?_;rw[el,el2,z1,z2];unfold dM at h;show kat_cons<|eq_str ?_;by_cases e:z=z'
 ·rw[aO e];rw[aL e]at h;show kat_yes<|kat_cons<|CI hu hg.key hg'.key ?_;by_cases e2:zs=Aa;·subst e2;rw[aO rfl];show kat_yes<|kat_nil ?_;rw[tD]at h;show h
  rw[bQ e2];show kat_no<|kat_one _ _<|aes hg hg' hu h
 rw[bQ e];rw[az e]at h;show kat_no<|oneLt_str h
def WA{vs:Aaf}{rows:Aaa}{Q:SortKind->fv->Prop}(hl:vs.length=rows.length)(h2:2<=vs.length)(ht:∀(i:Nat) v r,vs[i]?>v->rows[i]?>r->jd s.heap v r)(h:Q (UF true) s):f8 77 A (keyKind' vs.toArray) Q E s:=by
 have key:∀(vs:Aaf)(rows:Aaa),vs.length=rows.length->(∀(i:Nat) v r,vs[i]?>v->rows[i]?>r->jd s.heap v r)->∃fs,KatTups s.heap vs fs/\fs.length=vs.length/\∀f∈fs,∃z t,f=Value.str z t:=by
  ext vs
  induction vs with
  |nil=>ext rows hl _;show{[],KatTups.nil,9,λf hf=>nomatch hf}
  |cons v vs ih=>
   ext rows hl ht;cases rows with
   |nil=>simp at hl
   |cons r rows=>
    let(fs,h1,h2,h3):=ih rows (↑hl) λi v' r' e1 e2=>ht (i+1) v' r' (↑e1)<|↑e2;let(a,o,aK,n,g,t,z,zs,rfl,ho,hc,hd,el,er,hg):=ht 0 v r rfl rfl;show{.str z t::fs,KatTups.cons ho hc hd (by rw[<-cv,el];rfl) h1,by simp[h2],λf hf=>?_};rcases aJ.mp hf with rfl|hf;·show⟨z,t,rfl⟩
    show h3 f hf
 let(fs,h1,h3,h4):=key vs rows hl ht;show kat_kind (T:=.type "str") h1 ∅ (λv hv=>?_) 7 ?_;·let(z,t,rfl):=h4 v hv;show Looks.of_pure rfl
 have e:((Value.type "str") !=Value.type "tuple")=true:=by decide
 show h
def jd.mono{h h':ss}{v:jp}{r:Aag}(x:jd h v r)(kp:∀b o,o.cls=.type "tuple"->h.get? b>o->h'.get? b>o):jd h' v r:=by let(a,o,aK,n,g,t,z,zs,e,ho,hc,hd,el,er,b,p,lP,m,e2,hp,hpc,r):=x;show{a,o,aK,n,g,t,z,zs,e,kp _ _ hc ho,hc,hd,el,er,b,p,lP,m,e2,kp _ _ hpc hp,hpc,r}
def jd.one{h:ss}{v:jp}{x y:Aag}(a:jd h v x)(b:jd h v y):x=y:=by let(a,o,aK,n,g,t,z,zs,rfl,h1,__,h2,h3,rfl,h4):=a;let(b,p,lP,m,g',u,z',Aa,e,q1,__,q2,q3,rfl,q4):=b;cases e;rw[h1]at q1;cases q1;rw[h2]at q2;cases q2;rw[h3]at q3;injection q3 with e1 e2;injection e1 with e1 _;injection e2 with e2 _;cases e1;cases e2;rw[h4.one q4]
open Classical in
def NF(h:ss)(v:jp):Aag:=if x:∃r,jd h v r then Classical.choose x else[]
def w4{h:ss}{v:jp}{r:Aag}(x:jd h v r):NF h v=r:=by unfold NF;rw[dif_pos ⟨r,x⟩];show(sM (⟨r,x⟩:∃r,jd h v r)).one x
def S7{a:cr}{n:Nat}{vs:Aaf}{rows:Aaa}{P:PySem.Fin->fv->Prop}(hu:A.units<wS)(ho:s.heap.get? a>wE "list" vs.toArray n)(hl:vs.length=rows.length)(ht:∀(i:Nat) v r,vs[i]?>v->rows[i]?>r->jd s.heap v r)(qE:vs.length<64)
  (k:∀(h':ss)(tk c:Nat)(us:Aaf),h'.get? a>wE "list" us.toArray c->(∀b o,b≠a->s.heap.get? b>o->h'.get? b>o)->us.Perm vs->(∀(i:Nat) v r,us[i]?>v->(iV rows)[i]?>r->jd s.heap v r)->P (.done<|.ret .none) 44):
  f8 77 A 109 P E s:=by
 by_cases c2:vs.length<2
 ·show GD ho c2 λh' c g kp=>?_;have e:iV rows=rows:=by
   have:rows.length<2:=by lia
   match rows,this with
   |[],_=>show(oR (.refl _) .nil).symm
   |[r],_=>show(oR (.refl _) 75).symm
   |_::_::_,q=>simp at q;lia
  rw[e]at k;show k h' 89 c vs g kp (.refl _) ht
 have k3:∀s',Tk 54 s'->∀b o,o.cls=.type "tuple"->s.heap.get? b>o->s'.heap.get? b>o:=λs' ⟨t,e⟩ b o hc hb=>by
  subst e;have nb:b≠a:=λz=>by rw[z,ho]at hb;cases hb;injection hc with z;show absurd z 7
  show af _<|af _<|(bS s.heap a _).extBut b o nb hb
 have mr:∀v∈vs,∃r,r∈rows/\jd s.heap v r:=λv hv=>by let(i,hi,rfl):=tS.mp hv;show{_,jz ∅,ht i _ _ (aq hi)<|aq _}
 show JM (κ:=UF true) (rk:=λv=>Nt rows<|NF s.heap v) ho ∅ ∅ (λs' tk=>WA hl ∅ (λi v r e1 e2=>(ht i v r e1 e2).mono<|k3 s' tk) ⟨rfl,tk⟩) (λx hx y hy s' tk=>?_) λus h' tk c po so g kp=>?_;·let(r,m1,t1):=mr x hx;let(q,m2,t2):=mr y hy;show ack hu (t1.mono<|k3 s' tk) (t2.mono<|k3 s' tk) {?_,tk};rw[w4 t1,w4 t2,Ms m1 m2]
 have er:us.map (NF s.heap)=iV rows:=by
  have ev:vs.map (NF s.heap)=rows:=by show yj (↑hl) λi h1 h2=>?_;rw[List.getElem_map];show w4<|ht i _ _ (aq _)<|aq h2
  show oR (ev▸po.map _)<|cz.mpr (so.imp_of_mem λ{x y} hx hy q=>?_);let(r,m1,t1):=mr x<|po.mem_iff.mp hx;let(p,m2,t2):=mr y<|po.mem_iff.mp hy;rw[w4 t1,w4 t2]at q⊢;have z:=Ms m2 m1;rw[bQ<|lB.mpr q]at z;change(!dM _ _)=true;rw[<-z];rfl
 show k h' tk c us g kp po λi v r e1 e2=>?_;rw[<-er,aN,e1]at e2;cases e2;let(r,m1,t1):=mr v<|po.mem_iff.mp<|aM e1;rw[w4 t1];show t1
end
end pK
namespace L2
open PySem PySem.Spec PyProof.Rows pK
def Jz(K:Frag)(H:Hp)(v:V)(r:Aag):Prop:=∃p g z zs,v=-p/\r=z::zs/\aZ K H p [.str z,-g]/\aZ K H g (zs.map V.str)
section
variable{X:Cx}{bi:Aab}{Z:St}{H:Hp}{s:fv}
def Inv.prB(I:Inv X bi Z H s){p:cr}{r:Aag}(h:Jz X.K H (-p) r):jd s.heap (-p) r:=by let(__,g,z,zs,e,rfl,h1,h2):=h;cases e;obtain⟨aK,rv,⟨o,e,c,n,d⟩,_⟩:=I.tuple h1;have t:=(I.row h2).1;let(__,__,rfl,ra,rb):=u0 rv;let(tk,rfl):=(show∃t,_=Value.str z t from ra);cases(show _=Value.ref g from rb);show{p,o,_,n,g,tk,z,zs,9,e,c,d,75,9,t}
end
end L2
namespace kE
open PySem PySem.Spec PyProof.Rows L2 pK dC
seal L2.PE L2.PT L2.PW L2.PA L2.PS L2.pU L2.PI L2.PO L2.El L2.PG L2.Co
def Flt(u v:V):Prop:=(∃z,u=.str z/\v=.str z)\/∃i:Int,u=.int i/\v=.int i
def ur(K:Frag):Nat->Hp->V->V->Prop
 |0,_,u,v=>Flt u v
 |n+1,H,u,v=>Flt u v\/∃(a b:cr)(xs ys:Aan),u=-a/\v=-b/\((aZ K H a xs/\aZ K H b ys)\/(H a>.lst xs/\H b>.lst ys))/\Paired (ur K n H) xs ys/\55<=100000
inductive MS(K:Frag)(n:Nat)(vs:Aan)(H:Hp)(Q:VK)(_x3:XK):Prop
 |mk (u v:V) (_:vs=[u,v]) (_:ur K n H u v) (_:∀H',aI H H'->Q (.bl true) H')
def adH:Sp:=λ_ _ _ _=>False
def aga(K:Frag):Nat->Sp
 |0=>adH
 |n+1=>MS K n
section
variable{P:io}{w:mo}{K:Frag}{mg:Aac}{base:ss}
def ur.str{n:Nat}{H:Hp}(z:pi):ur K n H (.str z) (.str z):=by
 cases n with
 |zero=>show .inl ⟨z,rfl,rfl⟩
 |succ n=>show .inl<|.inl ⟨z,rfl,rfl⟩
def ur.num{n:Nat}{H:Hp}(i:Int):ur K n H (.int i) (.int i):=by
 cases n with
 |zero=>show .inr ⟨i,rfl,rfl⟩
 |succ n=>show .inl<|.inr ⟨i,rfl,rfl⟩
def Ts{α β:Type}{R S:α->β->Prop}{xs:List α}{ys:List β}(f:∀u v,R u v->S u v)(h:Paired R xs ys):Paired S xs ys:=by
 induction h with
 |nil=>show .nil
 |cons h _ ih=>show .cons (f _ _ h) ih
theorem ur.sm{H H':Hp}(s:aI H H'):∀{n:Nat}{u v:V},ur K n H u v->ur K n H' u v
 |0,_,_,h=>h
 |n+1,_,_,.inl h=>.inl h
 |n+1,_,_,.inr ⟨a,b,xs,ys,e1,e2,hs,hp,l⟩=>.inr {a,b,xs,ys,e1,e2,hs.imp (λh=>{bf h.1 s,bf h.2 s}) (λh=>{s _ _ h.1,s _ _ h.2}),Ts (λ_ _ h=>ur.sm s h) hp,l}
def CU:bL ["_law_found","_law_due","_law_kind"] ["_law_found","_law_due"] (bo GG):=fS 76
def ace{f:cr}{fd:ut}(F:dh K "_law_same" "_law_same" GG f fd):cm P w K mg base dZ 1 f fd ["_law_found","_law_due"] adH:=F.ok CU (λcK A outer s H vs Q E hr h=>False.elim h) (λvs H Q E h=>False.elim h)
def EV{n:Nat}{f:cr}{fd:ut}(F:dh K "_law_same" "_law_same" GG f fd)(T:Txt K mg)(yu:bY P w K mg base (n+1) "_law_same" ["_law_found","_law_due"] (aga K n)):cm P w K mg base dZ (n+2) f fd ["_law_found","_law_due"] (MS K n):=by
 show F.ok CU 85;let(u,v,rfl,ha,k):=h;show{_,ay (fh (h9<|bh Pm 9 T.fg 76<|cj (pv 1)<|dF<|cj (oC (n:="tuple") 9 T.jh 76)<|oC (n:="list") 9 T.mB 76) (ay (cZ 2 CU<|rN (h9<|bh xV 9 T.fg 76<|cj (pv 1)<|oC (n:="tuple") 9 T.jh 76) (bh xV 9 T.fg 76<|cj (pv 0)<|oC (n:="tuple") 9 T.jh 76)<|bh xV 9 T.fg 76<|cj (pv 0)<|oC (n:="list") 9 T.mB 76)<|ay (fh (PW.pt<|Mt (sW<|h9<|pv 2)<|Ig<|cU Ip (bh cW 9 T.eZ bz 21) (bh cW 9 T.eZ bz 73)<|cL _) (aP<|bH qm) dc)<|aP<|bH<|gu xu qm (hG 9 (cA (fs:=["_law_found","_law_due"]) (fr:=[0,1])) (oZ 9 T.uL<|bB<|bh cW 9 T.eZ bz 73) (λ_ _ _ _=>cl (hk:=ao<|n+1) yu hr<|cj (bV (RN) (pv 1) (pv 0) (λ_ _=>9))<|bV (RN) (pv 2) (pv 0) (λ_ _=>9))) 50) dc)<|ay (fh (cU xv (pv 1) jF<|cL _) (aP<|bH<|gu xv (pv 0) jF<|cL _) dc)<|ay (fh (h9<|bh kj 9 T.fg 76<|cj (pv 1)<|oC (n:="str") 9 T.EY 76) (aP<|bH<|qW (bh kj 9 T.fg 76<|cj (pv 0)<|oC (n:="str") 9 T.EY 76)<|vt<|gu rG (pv 0) (pv 1)<|cL _) dc)<|ay (fh (h9<|bh kj 9 T.fg 76<|cj (pv 1)<|oC (n:="bool") 9 T.N9 76) (aP<|bH<|qW (bh kj 9 T.fg 76<|cj (pv 0)<|oC (n:="bool") 9 T.N9 76)<|vt<|gu rG (pv 0) (pv 1)<|cL _) dc)<|aP<|bH<|qW (bh kj 9 T.fg 76<|cj (pv 0)<|oC (n:="int") 9 T.IE 76)<|qW (ad8<|bh kj 9 T.fg 76<|cj (pv 0)<|oC (n:="bool") 9 T.N9 76)<|vt<|gu rG (pv 0) (pv 1)<|cL _,?_}
 have hc:Flt u v\/∃m,n=m+1/\∃(a b:cr)(xs ys:Aan),u=-a/\v=-b/\((aZ K H a xs/\aZ K H b ys)\/(H a>.lst xs/\H b>.lst ys))/\Paired (ur K m H) xs ys/\55<=100000:=by
  cases n with
  |zero=>show .inl ha
  |succ m=>show ha.imp id λh=>⟨m,rfl,h⟩
 rcases hc with(⟨z,rfl,rfl⟩|⟨i,rfl,rfl⟩)|⟨m,rfl,a,b,xs,ys,rfl,rfl,hs,hp,lx⟩;·show{_,9,95,λtp F6=>{_,_,tp,["tuple","list"],_,9,.inl<|.str z,au,9,_,9,hU ?_}};show{_,9,9,_,9,hU ?_};show{_,9,_,_,_,_,9,.str z,9,_,9,i8 ?_};show{_,9,_,_,_,_,9,.str z,9,_,9,i8<|{_,9,_,9,9,by rw[aO rfl];show k _<|aB F6 _}}
 ·show{_,9,95,λtp F6=>{_,_,tp,["tuple","list"],_,9,.inl<|.int i,au,9,_,9,hU ?_}};show{_,9,9,_,9,hU ?_};show{_,9,_,_,_,_,9,.int i,9,_,9,hU ?_};show{_,9,_,_,_,_,9,.int i,9,_,9,hU ?_};show{_,9,_,_,_,_,9,.int i,9,_,9,i8 ?_};show{_,9,_,_,_,_,9,.int i,9,_,9,_,9,i8<|{_,9,_,9,9,by rw[aO rfl];show k _<|aB F6 _}}
 have lxy:=aQ hp;have ixA:∀{H1:Hp}{i:Nat}{z:V}{Q:VK},aI H H1->xs[i]?>z->Q z H1->YV K (-a) (.int<|0+(i:Int)) H1 Q:=λs1 e q=>by
  rw[pY];rcases hs with⟨h1,_⟩|⟨h1,_⟩;·show .inr {_,_,_,_,9,9,bf h1 s1,mF e,q}
  show .inl {_,_,_,_,9,9,aT.of<|s1 _ _ h1,mF e,q}
 have ixB:∀{H1:Hp}{i:Nat}{z:V}{Q:VK},aI H H1->ys[i]?>z->Q z H1->YV K (-b) (.int<|0+(i:Int)) H1 Q:=λs1 e q=>by
  rw[pY];rcases hs with⟨_,h1⟩|⟨_,h1⟩;·show .inr {_,_,_,_,9,9,bf h1 s1,mF e,q}
  show .inl {_,_,_,_,9,9,aT.of<|s1 _ _ h1,mF e,q}
 have lnA:∀{H1:Hp},aI H H1->UH K (-a) H1 55:=λs1=>by
  rcases hs with⟨h1,_⟩|⟨h1,_⟩;·show .inr {_,bf h1 s1,9}
  show .inl {_,aT.of<|s1 _ _ h1,9}
 have lnB:∀{H1:Hp},aI H H1->UH K (-b) H1 55:=λs1=>by
  rw[lxy];rcases hs with⟨_,h1⟩|⟨_,h1⟩;·show .inr {_,bf h1 s1,9}
  show .inl {_,aT.of<|s1 _ _ h1,9}
 show{_,9,95,?_}
 intros tp F6 H1 s1 aeS
 rcases hs with⟨h1,h2⟩|⟨h1,h2⟩;all_goals first
  |show⟨_,.type "tuple",tp,["tuple","list"],_,rfl,.inr ⟨_,_,rfl,rfl,bf h2 s1⟩,aeS,rfl,_,rfl,i8 ⟨_,rfl,_,_,_,_,rfl,.inr ⟨_,_,rfl,rfl,bf h2 s1⟩,rfl,_,rfl,i8 ⟨_,rfl,_,_,_,_,rfl,.inr ⟨_,_,rfl,rfl,bf h1 s1⟩,rfl,?_⟩⟩⟩
  |show⟨_,.type "list",tp,["tuple","list"],_,rfl,.inl<|.lst<|s1 _ _ h2,aeS,rfl,_,rfl,i8 ⟨_,rfl,_,_,_,_,rfl,.inl<|.lst<|s1 _ _ h2,rfl,_,rfl,hU ⟨_,rfl,_,_,_,_,rfl,.inl<|.lst<|s1 _ _ h1,rfl,?_⟩⟩⟩
 all_goals
  show{_,9,_,9,hU {_,9,_,_,9,lnA s1,_,9,_,_,9,lnB s1,9,_,9,hX (λc=>absurd c 75) (λ_=>?_)}};show{_,9,_,_,9,lnB s1,_,9,8,8,λj m' zs H4=>j<=55/\m'=(55:Int).toNat -j/\aI H H4/\zs=List.replicate j (V.bl true),{_,aF _,9,s1,9},?_};ext j m' zs H4 ⟨hj,rfl,s4,rfl⟩;have lz:(List.replicate j<|V.bl true).length=j:=dJ;have big:55<dL:=gX lx (by rw[bM];decide);by_cases b6:j<55
  ·show .inr {by change j<(55:Int).toNat;lia,by rw[lz];lia,?_};ext v H5 ⟨rfl,rfl⟩;have e1:=aq b6;have e2:ys[j]?>ys[j]'∅:=aq ∅;have al:ur K m H xs[j] (ys[j]'∅):=by let(y,hy,h):=Paired.at hp e1;rw[e2]at hy;cases hy;show h
   show{_,9,_,9,ixA s4 e1 {_,9,_,9,ixB s4 e2 (show MS K m _ _ _ _ from{_,_,9,al.sm s4,λH6 s6=>{(55:Int).toNat -(j+1),8,b6,9,s4.trans s6,tR.symm}})}}
  show .inl {by change(55:Int).toNat<=j;lia,by rw[lz];lia,λl hl=>?_};have e0:DJ (.bl false) (List.replicate j<|V.bl true)=false:=wq.mpr λy hy=>by rw[(vJ.mp hy).2];decide
  show{l,_,9,.inl 80,9,b9.mpr λy hy=>by rw[(vJ.mp hy).2];rfl,?_};rw[e0];show k _<|s4.trans<|aB hl _
def Zu{K:Frag}(t:jp):kitOne K t t>true:=by unfold kitOne;rw[aL<|kr t]
end
inductive U9(K:Frag)(vs:Aan)(H:Hp)(Q:VK)(_x3:XK):Prop
 |mk (vl:cr) (v:V) (dH:Aan) (h:pi) (qs xs:List One) (i:Int) (_:vs=[-vl,v,.int i]) (_:VQ K H vl v dH h qs xs) (_:10<(df qs xs).length) (_:∀H',aI H H'->Q (.bl true) H')
def EHn(cT:cr)(H:Hp):XK:=λcls dd H'=>aI H H'/\cls=-cT/\dd=none
section
variable{P:io}{w:mo}{K:Frag}{mg:Aac}{base:ss}{A0 c0 c1 c2 c3 c4 c5 c6 c7:cr}
def sT:bL ["_law_views","_law_question","_law_way","_law_kinds","e"] ["_law_views","_law_question","_law_way"] (bo FP):=fS 76
def Tz{f:cr}{fd:ut}(F:dh K "_law_refused" "_law_refused" FP f fd)(T:Txt K mg)(zX:vO P w K mg base 13 "rewritten" ["views","question"] (MT K c6))(yp:vO P w K mg base 13 "spare_ways" ["views","question"] (JH K c6))(PL:mg "AskError">-A0)(PK:xP K A0 Pn "ValueError.__new__"=true)(Yo:mg "Loose">-c0)(Yn:mg "NoAsk">-c1)(UL:mg "NoHeld">-c2)(Ym:mg "NoRow">-c3)(UK:mg "NoText">-c4)(UJ:mg "NoView">-c5)(zZ:mg "TooMany">-c6)(Yl:mg "Twice">-c7)(aav:zV K c6)(aiD:PySem.W.mroIn K c6 (-A0)>true)(aiC:kitOne K (-c6) 38>true)(aiE:PySem.W.kitAny K (-c6) [-c0,-c1,-c2,-c3,-c4,-c5,-c7]>false):cm P w K mg base dZ 014 f fd ["_law_views","_law_question","_law_way"] (U9 K):=by
 show F.ok sT 85;let(vl,v,dH,h,qs,xs,i,rfl,vq,l11,k):=h;obtain⟨EH,hEH⟩:∃EH:XK,EH=EHn c6 H:=⟨_,rfl⟩;show{_,ay (cZ 3 sT<|dy fQ) (ay (ad2 (i:=4) (EH:=EH) sT.nd 9 9 9 PL PK 9 9 (λ_ _ L=>aP<|fh (cU rG (pv 2) bb<|cL _) (aP<|g9<|Sv zX hr L 36)<|aP<|g9<|Sv yp hr L 36)
   (λ_=>ay (cZ 3 sT<|dy<|cj (bh (Cm) 9 T.fg 76<|cj (pv 4)<|o6 9 zZ)<|bh (Cm) 9 T.fg 76<|cj (pv 4)<|oC (n:="ValueError") 9 T.Oa 76)<|aP<|g9<|Ik cb f7 f6 pz (pv 3)<|bB<|bh (Ko) 9 T.fg 76<|cj (pv 4)<|dF<|iR (o6 9 Yo)<|iR (o6 9 Yn)<|iR (o6 9 UL)<|iR (o6 9 Ym)<|pf (o6 9 UK) (o6 9 UJ)<|o6 9 Yl))
   (aP<|bH<|gu (VW hr.units) (pv 3) (dy<|pf qm qm qm)<|cL _)),?_}
 show{31,?_}
 intros kl hkl H1 s1 _e0
 have QG:=vq.sm s1;have err:∀H',aI H1 H'->EH (-c6) none H':=λH' s=>by rw[hEH];show{s1.trans s,9,9}
 show{?_,?_}
 ·show{_,9,9,_,9,hX (λ_=>?_) (λ_=>?_)};·show{_,9,_,9,vl,v,dH,h,qs,xs,9,QG,λ_ H' s=>err H' s,λCc=>absurd l11 ∅}
  show{_,9,_,9,vl,v,dH,h,qs,xs,9,QG,λ_ H' s=>err H' s,λCc=>absurd l11 ∅}
 ext e C dd H2 he hE;rw[hEH]at hE;let(s2,hC,rfl):=hE;cases hC;have eG:=he;show{aiD,?_};show{_,9,e,c6,_,_,_,9,eG,aav,(λ_ h=>h),Zu _,_,9,e,c6,_,_,_,9,eG,aav,(λ_ h=>h),aiC,95,?_}
 intros ll W0 H3 s3 lW
 show{_,9,.inl {9,_,aT.of lW},_,9,(by change 07<=dL;decide),?_}
 intros p1 xH H4 s4 Ly
 show{e,c6,p1,[c0,c1,c2,c3,c4,c5,c7],false,9,s4 _ _<|s3 _ _ eG,aav,Ly,aiE,ll,_,_,9,9,s4 _ _ lW,cw 7,?_};have s5:aI H (upd H4 ll<|.lst<|[.bl true,.bl true]++[.bl false]):=λb u e=>by rw[aC<|a9 e<|s2.free W0];show s4 _ _<|s3 _ _<|s2 _ _ e
 have qD:upd H4 ll (.lst<|[.bl true,.bl true]++[.bl false]) ll>.lst ([.bl true,.bl true]++[.bl false]):=au;show{_,9,(by change 3<=dL;decide),λl3 hl=>?_};have s6:=aB hl<|.lst [.bl true,.bl true,.bl false];have dt:∀{H':Hp}{a:cr},H' a>.lst [.bl true,.bl true,.bl false]->Dt K H' (.list [.bool true,.bool true,.bool false]) (-a):=λh=>{_,_,9,aT.of h,_,_,9,9,_,_,9,9,_,_,9,9,9};show{_,_,dt<|s6 _ _ qD,dt au,7,7,k _<|s5.trans s6}
end
section
open E7
abbrev tH(h:pi):One:=("t",h)
abbrev uZ(z:pi):One:=("u",z)
def rX(qs:List One):Aag:=(qs.filter λa:One=>decide (a.1=("u":pi))).map (·.2)
structure Lw(h:pi)(qs cs L:List One):Prop where
 len:L.length=cs.length
 Cc:L.length<=10
 inq:∀a∈L,a∈qs
 sec:∀k:Nat,(L[k]?).map (·.2)=(cs[k]?).map (·.2)
 nd:(qs.map (·.2)).Nodup
 tb:∀a∈qs,a.1=("t":pi)\/a.1=("u":pi)
 hd:tH h∈qs
def ue(cs:List One)(k:Nat):pi:=((cs[k]?).map (·.2)).getD ""
def Fs(h:pi)(cs:List One):List Nat:=(List.range cs.length).filter λk=>decide (ue cs k=h)
def Os(qs cs:List One):List Nat:=(List.range cs.length).filter λk=>decide (ue cs k∈rX qs)
def rL(k j:Nat):List Nat:=if j<k then[j,k]else[k,j]
def jT(h:pi)(qs cs:List One):List (List Nat):=if rX qs=[]then(Fs h cs).map ([·])else(Fs h cs).flatMap λk=>(Os qs cs).map<|rL k
theorem Ir:∀{qs:List One},(qs.map (·.2)).Nodup->∀{a b:One},a∈qs->b∈qs->a.2=b.2->a=b
 |c::qs,nd,a,b,ha,hb,e=>by
  rw[bI,cQ]at nd;rcases aJ.mp ha with rfl|ha2
  ·rcases aJ.mp hb with rfl|hb;·rfl
   show absurd (aG.mpr {b,hb,e.symm}) nd.1
  rcases aJ.mp hb with rfl|hb;·show absurd (aG.mpr ⟨a,ha2,e⟩) nd.1
  show Ir nd.2 ha2 hb e
def Dx{qs:List One}{z:pi}:z∈rX qs↔uZ z∈qs:=by
 unfold rX;rw[aG];constructor;·ext⟨a,ha,rfl⟩;let(h1,h2):=bX.mp ha;have e2:a=uZ a.2:=yc (aV h2) rfl;show e2▸h1
 ext h;show{_,bX.mpr {h,aO rfl},9}
variable{h:pi}{qs cs L:List One}
def Lw.tm(x:Lw h qs cs L){k:Nat}{a:One}(e:L[k]?>a):ue cs k=a.2:=by unfold ue;rw[<-x.sec k,e];rfl
def Lw.fst(x:Lw h qs cs L){k:Nat}:k∈Fs h cs↔L[k]?>tH h:=by
 unfold Fs;rw[bX,bO,bg];constructor;·ext⟨h1,h2⟩;have hl:k<L.length:=x.len▸h1;have e:=aq hl;rw[x.tm e]at h2;rw[e,Ir x.nd (x.inq _<|aM e) x.hd h2]
 ext e;show{by rw[<-x.len];show(ar.mp e).1,x.tm e}
def Lw.qX(x:Lw h qs cs L){k:Nat}:k∈Os qs cs↔∃z,L[k]?>uZ z:=by
 unfold Os;rw[bX,bO,bg];constructor;·ext⟨h1,h2⟩;have hl:k<L.length:=x.len▸h1;have e:=aq hl;rw[x.tm e]at h2;have:=Ir x.nd (x.inq _<|aM e) (Dx.mp h2) rfl;show{_,e▸c8 some this}
 ext⟨z,e⟩;show{by rw[<-x.len];show(ar.mp e).1,?_};rw[x.tm e];show Dx.mpr<|x.inq _<|aM e
def Lw.apart(x:Lw h qs cs L){k:Nat}(h1:k∈Fs h cs)(h2:k∈Os qs cs):False:=by let(z,e):=x.qX.mp h2;rw[x.fst.mp h1]at e;show absurd (show("t":pi)="u"from c8 Prod.fst<|bR e) 7
def Lw.whole(x:Lw h qs cs L){ns:List Nat}:gO h qs (pk L ns)=true↔(∃k∈ns,k∈Fs h cs)/\(rX qs≠[]->∃j∈ns,j∈Os qs cs):=by
 unfold gO;rw[b9];constructor
 ·ext H;constructor;·let(b,hb,e):=dP.mp<|H _ x.hd;rw[cn,lC,bg,bg,bg]at e;let(k,hk,ek):=dY.mp hb;show{k,hk,x.fst.mpr ?_};rw[ek];show c8 some (yc e.1 (e.2.resolve_left λn=>n 9))
  ext n;let(z,hz):=wW _ n;let(b,hb,e):=dP.mp<|H _<|Dx.mp hz;rw[cn,bg]at e;let(k,hk,ek):=dY.mp hb;show{k,hk,x.qX.mpr {b.2,?_}};rw[ek];show c8 some<|yc e.1 9
 ext⟨⟨k,hk,h1⟩,h2⟩ a ha;rw[dP];rcases x.tb a ha with e|e;·show{tH h,dY.mpr {k,hk,x.fst.mp h1},?_};rw[cn,lC,bg,bg,bg];show{e.symm,.inr rfl}
 have hz:=Dx.mpr<|(show a=uZ a.2 from yc e 9)▸ha;let(j,hj,h3):=h2<|Ep hz;let(z,ez):=x.qX.mp h3;show{uZ z,dY.mpr ⟨j,hj,ez⟩,?_};rw[cn,lC,bg,bg,bg];show{e.symm,.inl λq=>?_};have:=Ir x.nd ha x.hd q;rw[this]at e;show absurd (show("t":pi)="u"from e) 7
def kP{k j n:Nat}:n∈rL k j↔n=k\/n=j:=by unfold rL;split<;>simp[or_comm]
def abB(k j:Nat):(rL k j).length=2:=by unfold rL;split<;>rfl
def qo{d:List Nat}:d∈jT h qs cs↔(rX qs=[]/\∃k∈Fs h cs,d=[k])\/(rX qs≠[]/\∃k∈Fs h cs,∃j∈Os qs cs,d=rL k j):=by
 unfold jT;split
 case isTrue c=>
  rw[aG];show⟨λzq=>by let(k,hk,e):=zq;show .inl {c,k,hk,e.symm},λq=>q.elim (λxf=>by let(__,k,hk,e):=xf;show{k,hk,e.symm}) λq=>absurd c q.1⟩
 case isFalse c=>
  rw[rT];constructor;·ext⟨k,hk,hd⟩;let(j,hj,e):=aG.mp hd;show .inr {c,k,hk,j,hj,e.symm}
  ext(q|⟨_,k,hk,j,hj,e⟩);·show absurd q.1 c
  show{k,hk,aG.mpr {j,hj,e.symm}}
theorem FE{p q:Nat->Bool}:∀(l:List Nat),(∀x∈l,p x=true->q x=true->False)->(l.filter p).length+(l.filter q).length<=l.length
 |[],_=>ao _
 |a::l,H=>by
  have ih:=FE l λx hx=>H x<|aA _ hx;rw[bZ,bZ,bc];rcases kF (p a)with e1|e1
  ·rcases kF (q a)with e2|e2;·show((H a av) e1 e2).elim
   rw[aL e1,az (by rw[e2];decide),bc];lia
  rcases kF (q a)with e2|e2;·rw[az (by rw[e1];decide),aL e2,bc];lia
  rw[az (by rw[e1];decide),az (by rw[e2];decide)];lia
def Lw.lt(x:Lw h qs cs L){k:Nat}(hk:k∈Fs h cs\/k∈Os qs cs):k<L.length:=by rw[x.len];show bO.mp (hk.elim (λh=>(bX.mp h).1) λh=>(bX.mp h).1)
def Lw.BE(x:Lw h qs cs L):∀d∈jT h qs cs,∀e∈jT h qs cs,(∀n∈d,n∈e)->d=e:=by
 ext d hd e he s;rcases qo.mp hd with⟨c,k,hk,rfl⟩|⟨c,k,hk,j,hj,rfl⟩
 ·rcases qo.mp he with⟨_,k2,rh,rfl⟩|⟨c2,_⟩;·rw[aw.mp<|s k av]
  show absurd c c2
 rcases qo.mp he with⟨c2,_⟩|⟨_,k2,rh,j2,Ga,rfl⟩;·show absurd c2 c
 have e1:=(kP.mp<|s k<|kP.mpr<|.inl 9).resolve_right λe=>x.apart hk<|e▸Ga;rw[e1,((kP.mp<|s j<|kP.mpr<|.inr 9).resolve_left λe=>x.apart (e▸rh) hj)]
def Lw.nodup(x:Lw h qs cs L):(jT h qs cs).Nodup:=by
 have nf:(Fs h cs).Nodup:=ni.sublist kI;unfold jT;split;·show cz.mpr (nf.imp λn e=>n<|List.singleton_inj.mp e)
 show List.pairwise_flatMap.mpr {λk hk=>cz.mpr ((ni.sublist kI).imp_of_mem λ{a b} ha hb n e=>n ?_),nf.imp_of_mem λ{a b} ha hb n d hd e he q=>n ?_};·have:=kP.mp (e▸kP.mpr (.inr 9):a∈rL k b);show this.resolve_left λz=>x.apart hk<|z▸ha
 let(j,hj,rfl):=aG.mp hd;let(j2,Ga,rfl):=aG.mp he;have:=kP.mp (q▸kP.mpr (.inl 9):a∈rL b j2);show this.resolve_right λz=>x.apart ha<|z▸Ga
def Vl:∀a,a<11->∀b,b<11->a+b<=10->a*b<64:=by decide
def Lw.Wy(x:Lw h qs cs L):(jT h qs cs).length<64:=by
 have t:=FE (List.range cs.length) λk hk h1 h2=>x.apart (bX.mpr ⟨hk,h1⟩)<|bX.mpr ⟨hk,h2⟩;have l:=x.Cc;rw[cH,<-x.len]at t;have t:(Fs h cs).length+(Os qs cs).length<=L.length:=by rw[x.len]at t⊢;show t
 unfold jT;split;·rw[ag];lia
 have:((Fs h cs).flatMap λk=>(Os qs cs).map<|rL k).length=(Fs h cs).length*(Os qs cs).length:=by
  induction Fs h cs with
  |nil=>simp
  |cons a r ih=>rw[List.flatMap_cons,aU,ih,ag,bc,Nat.succ_mul,Nat.add_comm]
 rw[this];show Vl _ ∅ _ ∅ ∅
def zN(h:pi)(qs cs:List One):List (List Nat):=(jT h qs cs).mergeSort λx y=>decide (lO x<=lO y)
def mY{d:List Nat}:d∈zN h qs cs↔d∈jT h qs cs:=List.mem_mergeSort
def So{d:List Nat}(hd:d∈jT h qs cs):d.length=if rX qs=[]then 1 else 2:=by
 rcases qo.mp hd with⟨c,k,hk,rfl⟩|⟨c,k,hk,j,hj,rfl⟩;·rw[aL c];rfl
 rw[az c];show abB _ _
def Lw.i0(x:Lw h qs cs L){d:List Nat}(hd:d∈jT h qs cs):AW d/\d.Pairwise (·<·)/\∀n∈d,n<L.length:=by
 have Cc:=x.Cc;have hl:=So hd;have lt:∀n∈d,n<L.length:=by
  ext n hn;rcases qo.mp hd with⟨c,k,hk,rfl⟩|⟨c,k,hk,j,hj,rfl⟩;·rw[aw.mp hn];show x.lt<|.inl hk
  rcases kP.mp hn with rfl|rfl;·show x.lt<|.inl hk
  show x.lt<|.inr hj
 show⟨{by rw[hl];split<;>decide,by rw[hl];split<;>decide,λn hn=>by have:=lt n hn;lia},?_,lt⟩;rcases qo.mp hd with⟨c,k,hk,rfl⟩|⟨c,k,hk,j,hj,rfl⟩;·show jq _ _
 have n:k≠j:=λe=>x.apart hk<|e▸hj;unfold rL;split;·show eW.mpr {λy hy=>by rw[aw.mp hy];assumption,jq _ _}
 show eW.mpr {λy hy=>by rw[aw.mp hy];lia,jq _ _}
def Gg:(zN h qs cs).Pairwise λx y=>lO x<=lO y:=(qG (λa b c h1 h2=>by simp at*;lia) (λa b=>by simp;lia) _).imp λh=>aV h
def Lw.due(x:Lw h qs cs L):BP h qs L (zN h qs cs):=by
 have pm:(zN h qs cs).Perm (jT h qs cs):=om _ _;have good:∀d∈zN h qs cs,gO h qs (pk L d)=true:=λd hd=>by
  show x.whole.mpr ?_;rcases qo.mp (mY.mp hd)with⟨c,k,hk,rfl⟩|⟨c,k,hk,j,hj,rfl⟩;·show{⟨k,av,hk⟩,λn=>absurd c n}
  show{{k,kP.mpr<|.inl 9,hk},λ_=>{j,kP.mpr<|.inr 9,hj}}
 have some:∀ns,gO h qs (pk L ns)=true->∃d∈zN h qs cs,∀n∈d,n∈ns:=λns hw=>by
  obtain⟨⟨k,hk,h1⟩,h2⟩:=x.whole.mp hw;by_cases c:rX qs=[];·show{[k],mY.mpr<|qo.mpr<|.inl ⟨c,k,h1,rfl⟩,λn hn=>by rw[aw.mp hn];show hk}
  let(j,hj,h3):=h2 c;show{rL k j,mY.mpr<|qo.mpr<|.inr ⟨c,k,h1,j,h3,rfl⟩,λn hn=>(kP.mp hn).elim (λe=>e▸hk) λe=>e▸hj}
 show{?_,pm.nodup_iff.mpr x.nodup,good,some,λd hd e he=>x.BE d (mY.mp hd) e<|mY.mp he,λd hd=>(x.i0<|mY.mp hd).2.1,λd hd=>(x.i0<|mY.mp hd).1,pm.length_eq▸x.Wy,Gg,λd hd=>(x.i0<|mY.mp hd).2.2};rw[dO,bg];constructor
 ·ext hw;let(d,hd,__):=some (List.range L.length) (A3 (λa ha=>by let(k,e):=nj ha;show dY.mpr {k,bO.mpr (ar.mp e).1,e}) hw)
  show Ep hd
 ext n;let(d,hd):=wW _ n;show A3 (λa ha=>IG ha)<|good d hd
end
end kE
namespace L2
open PySem PySem.Spec PyProof.Rows
section
variable{X:Cx}
theorem RS:∀{ns:List Int}{us:Aaf},SL us ns->Vals (ns.map V.int) us
 |_,_,.nil=>.nil
 |_,_,.cons _ t q=>.cons ⟨t,rfl⟩<|RS q
theorem SO{k j:Nat}:∀{ns:List Int},ns.Perm [(k:Int),(j:Int)]->ns.Pairwise (·<=·)->ns.map V.int=(if j<k then[j,k]else[k,j]).map vN
 |[]=>λh _=>nomatch h.length_eq
 |[_]=>λh _=>nomatch h.length_eq
 |_::_::_::_=>λh _=>nomatch h.length_eq
 |[x,y]=>λa2 a3=>by
  have h1:x=(k:Int)\/x=(j:Int):=by simpa using a2.mem_iff.mp (av)
  have h2:y=(k:Int)\/y=(j:Int):=by simpa using a2.mem_iff.mp (aA x<|av)
  have h3:(k:Int)=x\/(k:Int)=y:=by simpa using a2.mem_iff.mpr (av)
  have h4:(j:Int)=x\/(j:Int)=y:=by simpa using a2.mem_iff.mpr (aA (k:Int)<|av)
  have h5:=eT a3 av;by_cases c:j<k
  ·have e1:x=(j:Int):=by lia
   have e2:y=(k:Int):=by lia
   rw[e1,e2,aL c];rfl
  have e1:x=(k:Int):=by lia
  have e2:y=(j:Int):=by lia
  rw[e1,e2,az c];rfl
def Pk{K:Frag}(hK:X.K=K:=by rfl):fB X (.builtin "sorted") (λxs H Q=>∃(p:cr)(k j:Nat),xs=[-p]/\aT K H p [vN k,vN j]/\∀l,H l=none->Q (-l) (upd H l<|.lst<|(if j<k then[j,k]else[k,j]).map vN)):=by
 subst hK;ext bi s Z H xs us Q I r h;let(p,k,j,rfl,hq,q):=h;let(u,rfl,rx):=iw r;cases rx;let(aK,r',pl,F4):=I.list hq;show sorted_ints pl.isList (ints_of (ns:=[(k:Int),(j:Int)]) r') (by rw[<-r'.length];show(by decide:2<64)) λout ns' a1 a2 a3=>?_;let(n,he):=sortedAll_at s.heap aK out;rw[<-(SO a2 a3)]at q;have ln:(ns'.map V.int).length<=dL:=by rw[ag,a2.length_eq];change 2<=dL;decide
 have q1:=q _<|I.bE.fresh<|eI _;have ob:da 81 X.w (upd H (35+1)<|.lst<|ns'.map V.int) (sortedAll s.heap aK out) (35+1) (.lst<|ns'.map V.int):={ln,out.toList,n,RS a1,he};show{.ref<|35+1,_,I.laid (t':=89) (λb o hb=>sortedAll_old hb) (eI _) ob,9,q1}
def ab4{K:Frag}(hu:X.A.units+64<wS)(h:X.K=K:=by rfl):je X (wv .Eq) (adY K false):=h▸VW hu
end
end L2
namespace kE
open PySem PySem.Spec PyProof.Rows L2 pK dC
seal L2.PE L2.PT L2.PW L2.PA L2.PS L2.pU L2.PI L2.PO L2.El L2.PG L2.Co
section
open E7
variable{P:io}{w:mo}{K:Frag}{mg:Aac}{base:ss}{cT:cr}
def Sl(a b:pi):PyData.eqv (.tuple [.str a]) (.tuple [.str b])=decide (a=b):=by
 by_cases c:a=b;·subst c;simp[PyData.eqv,PyData.eqvAll]
 simp[PyData.eqv,PyData.eqvAll,c]
def KW{a:pi}(h:PyData.strOk a=true):SeqAt.shaped (.tuple [.str a])=true:=by simp[SeqAt.shaped,PyData.canLay0,PyData.canLayAll0,PyData.depth,PyData.depthAll,h]
def Jf{H:Hp}{t:cr}{a:pi}(h:aZ K H t [.str a]):Dt K H (.tuple [.str a]) (-t):=⟨_,_,rfl,h,_,_,rfl,rfl,rfl⟩
def UE(K:Frag)(H:Hp)(v:V)(z:pi):Prop:=∃t,v=-t/\aZ K H t [.str z]
def U2{H H':Hp}(s:aI H H'){vs:Aan}{zs:Aag}(h:Paired (UE K H) vs zs):Paired (UE K H') vs zs:=Paired.imp' (λ_ _ zq=>by let(t,e,h):=zq;show{t,e,bf h s}) h
def nX{H H':Hp}(s:aI H H'){vs:Aan}{l:List (List Nat)}(h:Paired (uV H) vs l):Paired (uV H') vs l:=Paired.imp' (λ_ _ zq=>by let(a,e,h):=zq;show{a,e,s _ _ h}) h
def QI{qs:List One}{i:Nat}{a:One}(h:qs[i]?>a):rX (qs.take<|i+1)=rX (qs.take i)++if a.1=("u":pi)then[a.2]else[]:=by
 unfold rX;rw[bW,h,fH,ba];by_cases c:a.1=("u":pi);·rw[aL c,show(Option.some a).toList=[a]from rfl,bZ,aL<|aO c];rfl
 rw[az c,show(Option.some a).toList=[a]from rfl,bZ,az<|↑c];rfl
def D5(z:pi):PyData:=.tuple [.str z]
def acM{H:Hp}{vs:Aan}{zs:Aag}(h:Paired (UE K H) vs zs):BQ K H (zs.map D5) vs:=by
 induction h with
 |nil=>show 9
 |cons h _ ih=>
  let(t,rfl,ht):=h;show{_,_,9,Jf ht,ih}
theorem Of:∀{zs:Aag},(∀z∈zs,PyData.strOk z=true)->PyData.canLayAll0 (zs.map D5)=true
 |[],_=>rfl
 |z::zs,h=>by simp[PyData.canLayAll0,PyData.canLay0,D5,h z av,(Of λy hy=>h y<|aA _ hy)]
theorem Pt{x:pi}:∀{zs:Aag},((zs.map D5).any λe=>PyData.eqv e<|.tuple [.str x])=decide (x∈zs)
 |[]=>rfl
 |z::zs=>by rw[bI,nQ,Pt,show PyData.eqv (D5 z) (.tuple [.str x])=decide (z=x)from Sl z x,dO,lC,bg,bg,bg,aJ];show{λh=>h.elim (λe=>.inl e.symm) .inr,λh=>h.elim (λe=>.inl e.symm) .inr}
def aao{H:Hp}{ns:List Nat}:Paired (ur K 1 H) (ns.map vN) (ns.map vN):=by
 induction ns with
 |nil=>show .nil
 |cons n r ih=>show .cons (ur.num _) ih
def ac2{H:Hp}:∀{us vs:Aan}{D:List (List Nat)},Paired (uV H) us D->Paired (uV H) vs D->(∀d∈D,AW d)->Paired (ur K 2 H) us vs:=by
 ext us vs D h g f
 induction h generalizing vs with
 |nil=>cases g;show .nil
 |cons x _ ih=>cases g with
  |cons y h2=>
   let(a,e1,ha):=x;let(b,e2,hb):=y;show .cons (.inr {a,b,_,_,e1,e2,.inr ⟨ha,hb⟩,aao,by rw[ag];show aS (f _ av).hi 7}) (ih h2 λd hd=>f d<|aA _ hd)
def O3{h:pi}{cs:List One}:Fs h cs=[]↔h∉cs.map (·.2):=by
 constructor;·ext e hm;let(a,ha,ea):=aG.mp hm;let(k,hk):=nj ha;have:k∈Fs h cs:=bX.mpr {bO.mpr (ar.mp hk).1,aO (by unfold ue;rw[hk];show ea)};rw[e]at this;cases this
 ext n;show List.eq_nil_iff_forall_not_mem.mpr λk hk=>n ?_;let(h1,h2):=bX.mp hk;have e:cs[k]?>cs[k]'(bO.mp h1):=aq _;have h2:=aV h2;unfold ue at h2;rw[e]at h2;show aG.mpr {_,aM e,h2}
def acL{h:pi}{qs cs:List One}(e:Fs h cs=[]):jT h qs cs=[]:=by unfold jT;rw[e];split<;>rfl
noncomputable def Tld(K:Frag)(H:Hp)(r:cr)(h:pi)(qs cs:List One):Prop:=(h∉cs.map (·.2)/\H r>.tup [.str "loose"])\/(h∈cs.map (·.2)/\jT h qs cs=[]/\∃a b,H r>.tup [.str "short",a,b])\/∃d∈jT h qs cs,∃rr x y z hd t ys,H r>.tup [.str "whole",-rr,x,y,z]/\H rr>.tup [hd,-t]/\H t>.tup ys/\91=d.length
inductive adG(K:Frag)(vs:Aan)(H:Hp)(Q:VK)(_x3:XK):Prop
 |mk (vl fl:cr) (v:V) (dH OZ:Aan) (h:pi) (qs xs:List One) (_:vs=[-vl,v,-fl]) (_:VQ K H vl v dH h qs xs) (_:H fl>.lst OZ) (_:kG K H OZ (df qs xs)) (_:Lw h qs (df qs xs) (lN xs<|df qs xs)) (_:∀H',aI H H'->Q (.bl true) H')
def ix:bL ["_law_views","_law_question","_law_found","_law_firsts","_law_others","_law_due","_law_k","_law_told"] ["_law_views","_law_question","_law_found"] (bo An):=fS 76
def Mc{f:cr}{fd:ut}(F:dh K "_law_ways_right" "_law_ways_right" An f fd)(T:Txt K mg)(zX:vO P w K mg base 13 "rewritten" ["views","question"] (MT K cT))(yp:vO P w K mg base 13 "spare_ways" ["views","question"] (JH K cT))(yu:bY P w K mg base 5 "_law_same" ["_law_found","_law_due"] (MS K 3)):cm P w K mg base dZ 014 f fd ["_law_views","_law_question","_law_found"] (adG K):=by
 show F.ok ix 85;let(vl,fl,v,dH,OZ,h,qs,xs,rfl,vq,xJ,hf,lw,k):=h;have hu:=oE hr;have rq:=vq.rq;let(q,hd,aa,gg,rfl,hq,mS,kJ,jo):=id vq.q;obtain⟨cs,LM⟩:∃cs,cs=df qs xs:=⟨_,rfl⟩;obtain⟨L,eL⟩:∃L,L=lN xs (df qs xs):=⟨_,rfl⟩;rw[<-eL,<-LM]at lw;rw[<-LM]at hf;have lc:cs.length<=10:=by rw[<-lw.len];show lw.Cc
 have lfv:=aQ hf;show{_,ay (xq (j:=3) ix.nd 9 9 9 (cA (fs:=["_law_found","_law_question"]) (fr:=[2,1])) (oZ 9 T.uL<|bB<|bh cW 9 T.eZ bz<|bB<|pv 2) (λ_ _ _ _=>cU (ab4 (K:=K) hr.units) (bV (iC (K:=K)) (bV (GV (K:=K)) (pv 1) (pv 0) (λ_ _=>9)) bb (λ_ _=>9)) (bV (iC (K:=K)) (pv 2) bb (λ_ _=>9))<|cL _) 68)<|ay (mx (i:=4) ix.nd 9 (Or.inr 9)<|Ij 9 (j7 (more:=["_law_terms"]) (fs:=[]) (fr:=[])) (jY<|bV dv (pv 1) bb (λ_ _=>9)) (λ_ _ _ _=>qj (K:=K) (n:=2) 9 93) (λ_ _ _ _=>cU rG (pv 0) fK<|cL _) (λ_ _ _ _=>pv 1))<|ay (wH (j:=5) ix.nd 9 9 9 (cA (fs:=[]) (fr:=[])) (cN<|pv 3) (λ_ _ _ _=>dy 21))<|ay (fh (cU (NP<|qP hu) (pv 4) (dy fQ)<|cL _) (ay (cZ 5 ix<|dy fQ)<|aP<|fG bF 9 (cN<|pv 3) (jw (i:=6) ix.nd 9<|Or.inr 9)<|aP<|cZ 5 ix<|dj mz (pv 5)<|o8 9 (cA (fs:=["_law_k","_law_found","_law_others"]) (fr:=[6,2,4])) (oZ 9 T.uL<|bB<|bh cW 9 T.eZ bz<|bB<|pv 2) (λ_ _ _ _=>cU (ab3 (K:=K) hr.units) (bV (iC (K:=K)) (bV (GV (K:=K)) (pv 2) (pv 0) (λ_ _=>9)) bb (λ_ _=>9)) (pv 3) 50) (λ_ _ _ _=>bh (Pk (K:=K)) 9 T.mX 76<|bB<|dy<|cj (pv 1)<|pv 0)) dc)<|ay (fh (sW<|h9<|cl yu hr<|cj (Sv yp hr RE 36)<|bh (Ea<|u96 hr) 9 T.mX 76<|bB<|pv 5) (aP<|bH qm) dc)<|ay (cZ 07 ix<|Sv zX hr RE 36)<|ay (fh (cU (NP<|qP hu) (pv 5) (dy fQ)<|cL _) (aP<|bH<|qW (gu rG (bV dv (pv 07) bb (λ_ _=>9)) fK<|cL _)<|vt<|gu rG (bh cW 9 T.eZ bz<|bB<|bV dv (bV dv (pv 07) bb (λ_ _=>9)) bb (λ_ _=>9)) (dj kW bb<|cG y3 9 T.IE 76<|bB<|gu (NP<|qP hu) (pv 4) (dy fQ)<|cL _)<|cL _) dc)<|aP<|bH<|gu rG (bV dv (pv 07) bb (λ_ _=>9)) (bV hJ (dy<|cj fK fK) (cG y3 9 T.IE 76<|bB<|gu (VU<|qP hu) (pv 3) (dy fQ)<|cL _) (λ_ _=>9))<|cL _,?_}
 show iq λR eR=>?_;have big:(5000:Nat)<dL:=by rw[bM];decide
 have at_:∀{j:Nat},j<cs.length->∃p t,OZ[j]?>-p/\aZ K H p [.str (cs.getD j ("","")).1,-t]/\aZ K H t [.str<|ue cs j]/\PyData.strOk (ue cs j)=true:=λ{j} hj=>by
  have ef:OZ[j]?>OZ[j]'∅:=aq _;let(c,hc,p,t,ep,hp,ht):=Paired.at hf ef;have e1:cs.getD j ("","")=c:=by rw[dG,hc];rfl
  have e2:ue cs j=c.2:=by unfold ue;rw[hc];rfl
  rw[e1,e2];show{p,t,by rw[ef,ep],hp,ht,((λa ha=>rq.ua a<|LM▸ha) c<|aM hc).2.2}
 show{_,9,_,_,9,.inl {_,aT.of xJ,9},_,9,8,8,Hb (λj zs H1=>aI H H1/\zs=((List.range j).filter λk=>decide (ue cs k=h)).map vN) ∅ {84,9} ?_ ?_ ?_};·ext j zs H1 hj ⟨_,rfl⟩;rw[ag];show aS (fk _ _)<|jG cH
 ·ext j zs H1 N hj ⟨s1,rfl⟩ hN;let(p,t,ef,hp,ht,ok):=at_ (show j<cs.length by lia);show{_,9,_,9,_,_,_,_,9,9,aT.of<|s1 _ _ xJ,mF ef,_,_,_,_,9,9,bf hp s1,9,_,9,_,_,_,_,9,9,aZ.of<|s1 _ _ hq,9,_,_,Jf<|bf ht s1,Jf<|aZ.of<|s1 _ _ mS,KW ok,KW rq.al.uh.2.2,_,9,?_};have ev:=Sl (ue cs j) h;show hX (λc=>{_,9,hN _ _ {s1,?_}}) (λc=>hN _ _ {s1,?_});·have c:PyData.eqv (.tuple [.str<|ue cs j]) (.tuple [.str h])=true:=c;rw[ev]at c;rw[jQ,fH,ba,bZ,aL c];rfl
  have c:¬PyData.eqv (.tuple [.str<|ue cs j]) (.tuple [.str h])=true:=c;rw[ev]at c;rw[jQ,fH,bZ,az c,tV,cy]
 ext zs H1 ⟨s1,rfl⟩ l1 wd;have en:(OZ.length:Int).toNat=cs.length:=by lia
 rw[en];rename_i l1 wd H2 s2 iz;have iI:=s1.trans s2;show bT (T:=R) eR λR eR=>?_;have lav:=aQ jo;have lq:=rq.lq;show{_,9,_,_,_,_,9,9,aZ.of<|iI _ _ hq,9,aa,9,{gg,aZ.of<|iI _ _ kJ},yZ (K:=K) (a:=aa) (xs:=gg) (λi ys H3=>aI H2 H3/\i<=qs.length/\Paired (UE K H3) ys (rX<|qs.take i)/\91<=i) ∅ {84,aF _,.nil,ao _} ?_ ?_ ?_};·ext i ys H3 hi ⟨s3,_,_,ly⟩;show{aZ.of<|s3 _ _<|iI _ _ kJ,ly}
 ·ext i x ys H3 N hx ⟨s3,hi,hy,ly⟩ hN;let(a,ha,p,t,rfl,hp,ht):=Paired.at jo hx;have b6:=(ar.mp ha).1;have mO:=iI.trans s3;show{p,_,_,9,aZ.of<|mO _ _ hp,_,9,9,_,9,hX (λc=>{_,9,hN _ _ {s3,b6,?_,by rw[aU,b5];lia}}) (λc=>hN _ _ {s3,b6,?_,8})};·have c:=aV c;rw[QI ha,aL<|V.str.inj c];show cY hy (.cons {t,9,aZ.of<|mO _ _ ht} .nil)
  rw[QI ha,az (λe=>c<|aO (by rw[e])),cy];show hy
 ext ys H3 ⟨s3,_,hy,ly⟩ l2 ah9;rw[lav,bq]at hy;rename_i l2 ah9 H4 s4 ho4;have hy4:=U2 s4 hy;have vo:=s3.trans s4;have ki:=vo _ _ iz;have lF:(Fs h cs).length<=10:=aS (aS (fk _ _)<|jG cH) lc;show bT (T:=R) eR λR eR=>?_;show{_,9,l1,9,{_,aT.of ki},eJ (K:=K) (a:=l1) (xs:=(Fs h cs).map vN) (λj zs H5=>aI H4 H5/\j<=(Fs h cs).length/\Paired (uV H5) zs (((Fs h cs).take j).map ([·]))) 65 {84,aF _,.nil} ?_ ?_ ?_};·ext j zs H5 hj ⟨s5,_,hz⟩;show{aT.of<|s5 _ _ ki,?_};rw[aQ hz,ag,aW];lia
 ·ext j x zs H5 N hx ⟨s5,hj,hz⟩ hN;rw[aN]at hx;let(n,hn,rfl):=aY.mp hx;have b6:=(ar.mp hn).1;show fD {_,9,42,λp hp=>?_};have s6:=aB hp<|.lst [vN n];show hN _ _ {s5.trans s6,b6,?_};rw[q9 hn];show cY (nX s6 hz)<|.cons ⟨p,rfl,au⟩ .nil
 ext zs H5 ⟨s5,_,hz⟩ l3 ah8;rw[ag,bq]at hz;rename_i l3 ah8 H6 s6 xM;have B5:=s5.trans s6;have sV:=iI.trans<|vo.trans B5;show bT (T:=R) eR λR eR=>?_;have rest:∀(H7:Hp)(dl:cr)(zs:Aan)(x6:Aao),aI H H7->H7 l1>.lst ((Fs h cs).map vN)->H7 l2>.lst ys->H7 dl>.lst zs->Paired (uV H7) zs (jT h qs cs)->R {nx:=λx H'=>Q V.cx H',rt:=Q} [some (-vl),some (-q),some (-fl),some (-l1),some (-l2),some (-dl),x6,none] H7:=by
  ext H7 dl zs x6 yL h1 h2 Cf hzM;have lzM:=aQ hzM;have lcc:(df qs xs).length<=10:=by rw[<-LM];show lc
  have du:BP h qs (lN xs<|df qs xs) (zN h qs cs):=by rw[<-eL];show lw.due
  have pmS:(zN h qs cs).Perm (jT h qs cs):=om _ _;show bT (T:=R) eR λR eR=>?_;show{_,9,_,9,vl,-q,dH,h,qs,xs,9,vq.sm yL,λc=>absurd lcc ∅,λ_=>{zN h qs cs,du,λwl ws H8 s8 F5 hws=>?_}};show{_,9,dl,zs,jT h qs cs,9,aT.of<|s8 _ _ Cf,nX s8 hzM,λr hr=>(lw.i0 hr).1,lw.Wy,λsl Aa Ic IS AE pm ps=>?_};rw[(Ti (pm.trans pmS.symm) (λr hr=>(lw.i0<|pm.mem_iff.mp hr).1) ps Gg)]at AE;rename_i sl IS H9 s9 hs9;show{_,_,9,.inr {wl,sl,ws,Aa,9,9,.inr {s9 _ _ F5,hs9},ac2 (nX s9 hws) (nX s9 AE) du.i0,(by rw[aQ hws];have:=du.Wy;lia)},λHA sA=>{_,9,hU ?_}};have s7A:=s8.trans<|s9.trans sA;show bT (T:=R) eR λR eR=>?_;have fin:∀(HB:Hp)(r:cr),aI HA HB->Tld K HB r h qs cs->R {nx:=λx H'=>Q V.cx H',rt:=Q} [some (-vl),some (-q),some (-fl),some (-l1),some (-l2),some (-dl),x6,some (-r)] HB:=by
   ext HB r sB tl;have s7B:=s7A.trans sB;show bT (T:=R) eR λR eR=>?_;show{_,9,31,?_}
   intros e1 W9 HC sC heC
   have s7C:=s7B.trans sC;have s0C:=(yL.trans s7B).trans sC;show{dl,e1,zs,9,9,aT.of<|s7C _ _ Cf,aT.of heC,_,9,?_};by_cases cM:jT h qs cs=[]
   ·have ez:zs=[]:=cc.mp (by rw[lzM,cM];rfl);show hX (λc=>absurd c (by rw[ez];decide)) (λ_=>?_);show jg (T:=R) eR ?_;rcases tl with⟨n,nK⟩|⟨y,_,a,b,nK⟩|⟨d,ui,_⟩
    ·have h1e:H7 l1>.lst []:=by rw[h1,O3.mpr n];rfl
     show{_,9,_,_,_,_,9,9,aZ.of<|sC _ _ nK,9,95,λp hp=>?_};have sD:=aB hp<|.lst [.str "short",.str "loose"];show{_,9,31,λe2 wg=>?_};have sE:=aB wg 74;show{l1,e2,[],9,9,aT.of<|sE _ _<|sD _ _<|s7C _ _ h1e,80,.inr {_,9,p,_,_,.str "loose",9,9,aT.of<|sE _ _ au,9,9,?_}};show k _<|s0C.trans<|sD.trans sE
    ·let(n,ns,en):=vV λe=>O3.mp e y;have h1e:H7 l1>.lst (vN n::ns.map vN):=by rw[h1,en];rfl
     show{_,9,_,_,_,_,9,9,aZ.of<|sC _ _ nK,9,95,λp hp=>?_};have sD:=aB hp<|.lst [.str "short",.str "loose"];show{_,9,31,λe2 wg=>?_};have sE:=aB wg 74;show{l1,e2,_,9,9,aT.of<|sE _ _<|sD _ _<|s7C _ _ h1e,80,.inr {_,9,p,_,_,.str "short",9,9,aT.of<|sE _ _ au,9,9,?_}};show k _<|s0C.trans<|sD.trans sE
    rw[cM]at ui;cases ui
   have ez:zs≠[]:=λe=>cM<|cc.mp (by rw[<-lzM,e];rfl);show hX (λ_=>?_) (λc=>absurd (by cases zs with|nil=>show absurd rfl ez|cons _ _=>rfl) c);rcases tl with⟨n,_⟩|⟨_,n,_⟩|⟨d,ui,rr,x,y,z,hdv,t,yt,nK,xG,DM,ly⟩;·show absurd (acL<|O3.mpr n) cM
   ·show absurd n cM
   show{_,9,_,_,_,_,9,9,aZ.of<|sC _ _ nK,9,9,_,9,hX (λ_=>?_) (λc=>absurd (aO 9) c)};show{_,9,_,_,_,_,9,9,aZ.of<|sC _ _ nK,9,_,_,_,_,9,9,aZ.of<|sC _ _ xG,9,_,_,9,.inr {_,aZ.of<|sC _ _ DM,9},?_};show{_,9,31,λe2 wg=>?_};have sE:=aB wg 74;show{l2,e2,ys,9,9,aT.of<|sE _ _<|s7C _ _ h2,80,.inr {_,9,_,_,9,9,9,?_}};have h0:((yt.length:Nat):Int)=1+(if(!ys.isEmpty)=true then 1 else 0):=by
    rw[ly,So ui];have Wq:=aQ hy4;by_cases cu:rX qs=[];·have ey:ys=[]:=cc.mp (by rw[Wq,cu];rfl);rw[aL cu,ey];rfl
    let(y0,yr,ey):=vV (l:=ys) λe=>cu<|cc.mp (by rw[<-Wq,e];rfl);rw[az cu,ey];rfl
   show Eq.subst (motive:=λb=>Q (.bl b) _) (aO<|c8 V.int h0).symm<|k _<|s0C.trans sE
  show{_,9,_,9,vl,-q,dH,h,qs,xs,9,vq.sm<|yL.trans s7A,λc=>absurd lcc ∅,λ_=>{zN h qs cs,du,λn r HB sB hrB=>?_,λy e r a b HB sB hrB=>?_,λd ui _ r rr x y z hdv t yt HB sB nK xG DM ly=>?_}};·rw[<-LM]at n;show fin HB r sB<|.inl ⟨n,hrB⟩
  ·rw[<-LM]at y;show fin HB r sB<|.inr<|.inl {y,cc.mp (by rw[<-pmS.length_eq,e];rfl),a,b,hrB}
  show fin HB r sB<|.inr<|.inr {d,mY.mp ui,rr,x,y,z,hdv,t,yt,nK,xG,DM,ly}
 show{_,9,31,?_}
 intros e0 he0 H7 s7 he7
 have yL:=sV.trans s7;have HY:=B5.trans s7;show{l2,e0,ys,9,9,aT.of<|HY _ _ ho4,aT.of he7,_,9,?_};have Wq:=aQ hy4;by_cases cu:rX qs=[]
 ·have ey:ys=[]:=cc.mp (by rw[Wq,cu];rfl);have ed:jT h qs cs=(Fs h cs).map ([·]):=by unfold jT;rw[aL cu]
  show hX (λc=>absurd c (by rw[ey];decide)) (λ_=>?_);show rest H7 l3 zs none yL (HY _ _ ki) (HY _ _ ho4) (s7 _ _ xM) (by rw[ed];show nX s7<|nX s6 hz)
 have ey:ys≠[]:=λe=>cu<|cc.mp (by rw[<-Wq,e];rfl);have ed:jT h qs cs=(Fs h cs).flatMap λk=>(Os qs cs).map (rL k):=by unfold jT;rw[az cu]
 show hX (λ_=>?_) (λc=>absurd (by cases ys with|nil=>show absurd rfl ey|cons _ _=>rfl) c);show{31,?_}
 intros d0 jN H8 s8 hd8
 have Q8:=HY.trans s8;have s08:=yL.trans s8;show{_,9,l1,9,{_,aT.of<|Q8 _ _ ki},iS (K:=K) (a:=l1) (xs:=(Fs h cs).map vN) (λi Z H9=>∃(x6:Aao)(dl:cr)(zs:Aan),Z=[some (-vl),some (-q),some (-fl),some (-l1),some (-l2),some (-dl),x6,none]/\i<=(Fs h cs).length/\aI H8 H9/\H9 dl>.lst zs/\Paired (uV H9) zs (((Fs h cs).take i).flatMap λk=>(Os qs cs).map<|rL k)/\zs.length<=10*i) {_,d0,[],9,aF _,84,hd8,.nil,ao _} (λi Z H9 _ zq=>by let(__,__,__,__,__,sm,__):=zq;show aT.of<|sm _ _<|Q8 _ _ ki) ?_ ?_}
 ·ext i x Z H9 D1 hx ⟨x6,dl,zs,rfl,hi,s9,Cf,hz,lz⟩ iy _;rw[aN]at hx;let(n,hn,rfl):=aY.mp hx;have b6:=(ar.mp hn).1;have FV:=s08.trans s9;show{_,9,_,9,_,_,9,.inl {_,aT.of<|FV _ _ xJ,9},_,9,8,8,Hb (λj us HA=>aI H9 HA/\Paired (uV HA) us (((List.range j).filter λk=>decide (ue cs k∈rX qs)).map<|rL n)) ∅ {84,.nil} ?_ ?_ ?_};·ext j us HA hj ⟨_,hu⟩;rw[aQ hu,ag];show aS (fk _ _) (jG cH)
  ·ext j us HA N hj ⟨sA,IP⟩ hN;let(p,t,ef,hp,ht,ok):=at_ (show j<cs.length by lia);have Q9:=FV.trans sA;show{_,9,_,9,_,_,_,_,9,9,aT.of<|Q9 _ _ xJ,mF ef,_,_,_,_,9,9,bf hp Q9,9,_,9,_,(rX qs).map D5,Jf<|bf ht Q9,.inr {l2,ys,9,aT.of<|sA _ _<|s9 _ _<|Q8 _ _ ho4,acM<|U2 (Q8.trans<|s9.trans sA) hy4},Of (λz hz=>(rq.tq _<|Dx.mp hz).2),by simp[PyData.canLay0,PyData.canLayAll0,ok],by simp[PyData.depth,PyData.depthAll],_,9,?_};have ev:=Pt (x:=ue cs j) (zs:=rX qs);show hX (λc=>?_) (λc=>hN _ _ {sA,?_});·have c:((rX qs).map D5).any (λe=>PyData.eqv e<|.tuple [.str<|ue cs j])=true:=c;rw[ev]at c;show{_,9,_,9,95,λp2 oF=>?_};have sB:=aB oF<|.lst [vN n,vN j];show{p2,n,j,9,80,λl hl=>hN _ _ {sA.trans<|sB.trans<|aB hl _,?_}};rw[jQ,fH,ba,bZ,aL c];show cY (nX (sB.trans<|aB hl _) IP) (.cons ⟨l,rfl,au⟩ .nil)
   have c:¬((rX qs).map D5).any (λe=>PyData.eqv e<|.tuple [.str<|ue cs j])=true:=c;rw[ev]at c;rw[jQ,fH,bZ,az c,tV,cy];show IP
  ext us HA ⟨sA,IP⟩ lA hlA;rw[en]at IP;have lus:us.length<=10:=by rw[aQ IP,ag];show(aS (aS (fk _ _)<|jG cH) lc)
  rename_i lA hlA HB sB hB;have Ao:=sA.trans sB;show{dl,lA,zs,us,9,9,Ao _ _ Cf,hB,8,λpC hC=>?_};have sC:=aB hC<|.lst<|zs++us;show iy _ _ {_,pC,zs++us,9,b6,s9.trans<|Ao.trans sC,au,?_,by rw[aU];lia};rw[bW,hn,uk];show cY (nX (Ao.trans sC) hz) (by change Paired _ us ((Os qs cs).map (rL n)++[]);rw[cy];show nX sC<|nX sB IP)
 ext Z H9 ⟨x6,dl,zs,rfl,hi,s9,Cf,hz,lz⟩;rw[ag,bq,<-ed]at hz;show rest H9 dl zs x6 (s08.trans s9) (s9 _ _<|Q8 _ _ ki) (s9 _ _<|Q8 _ _ ho4) Cf hz
end
end kE
namespace L2
open PySem PySem.Spec PyProof.Rows pK
section
variable{X:Cx}
def VO{α β:Type}{F:α->β->Prop}{xs:List α}{ys:List β}(h:Paired F xs ys):∀{i:Nat}{x:α}{y:β},xs[i]?>x->ys[i]?>y->F x y:=by
 induction h with
 |nil=>ext i x y e;cases e
 |cons h _ ih=>
  ext i x y e1 e2;cases i with
  |zero=>cases e1;cases e2;show h
  |succ i=>show ih e1 e2
def Ml(hu:X.A.units+096<wS):fB X (.builtin "sorted") (λxs H Q=>∃p ys rows,xs=[-p]/\aT X.K H p ys/\Paired (Jz X.K H) ys rows/\rows.length<64/\∀l zs,H l=none->Paired (Jz X.K H) zs (iV rows)->Q (-l) (upd H l<|.lst zs)):=by
 ext bi s Z H xs us Q I r h;let(p,ys,rows,rfl,hq,hr,qE,q):=h;let(u,rfl,rx):=iw r;cases rx;let(aK,r',pl,hz):=I.list hq;obtain⟨bs,rfl,hp⟩:∃bs:Aai,aK=bs.map Value.ref/\Paired (λb r=>Jz X.K H (-b) r) bs rows:=by
  clear q qE hq pl hz
  induction hr generalizing aK with
  |nil=>cases r';show{[],9,.nil}
  |@cons y zs ys rows h _ ih=>
   cases r' with
   |@cons _ u _ us ru q=>
    let(bs,h1,h2):=ih us q;let(a,g,z,zs,rfl,h5):=h;cases(show u=Value.ref a from ru);show{a::bs,by rw[h1];rfl,.cons ⟨a,g,z,zs,rfl,h5⟩ h2}
 have lb:=aQ hp;show fJ rf oY pE (pH _) ?_;show ae 83;show ae<|collect_list pl.isList ?_ (by rw[ag,bM];lia);have kp:∀b o,s.heap.get? b>o->((s.heap.push<|wE "list" #[] 0).update 35<|Obj.mapSeq (·++(bs.map Value.ref).toArray)).get? b>o:=λb o e=>by rw[CB _ _ _ _<|aD<|aE e];show af _ e
 have I1:=I.kept (t':=89) kp;show ae<|nA ?_ (by rw[ag,bM];lia);generalize ((s\((s.heap.push<|wE "list" #[] 0).update 35<|Obj.mapSeq (·++(bs.map Value.ref).toArray),89)):fv)=s1 at I1⊢;have xI:(s1.heap.push 125).get? 29>wE "list" (bs.map Value.ref).toArray 0:=aH _ rfl;have Ee:∀(i:Nat)(v:jp)(r:Aag),(bs.map Value.ref)[i]?>v->rows[i]?>r->jd s1.heap v r:=λi v r e1 e2=>by rw[aN]at e1;let(b,e3,rfl):=aY.mp e1;show I1.prB<|VO hp e3 e2
 show ae<|bP<|bC uz ⟨_,xI,rfl⟩ tL (S7 ?_ xI (by rw[ag];show lb) (λi v r e1 e2=>(Ee i v r e1 e2).mono λb o _ e=>af _ e) 65 λh' tk c us g kp pm qq=>{_,9,?_})<|uT _;·change X.A.units+1+1<wS;lia
 let(cs,rfl,pc):=JP pm;have lc:cs.length=rows.length:=by rw[pc.length_eq,lb]
 have lz:(cs.map V.ref).length<=dL:=by rw[ag,bM];lia
 have vB:=λb o e=>kp b o (aD<|aE e)<|af _ e;show ah {_,9,?_};show{.ref 29,_,I1.laid vB (ao _) (show da 81 X.w _ _ _ (.lst<|cs.map V.ref)from{lz,cs.map Value.ref,c,EM cs,g}),9,q _ (cs.map V.ref) 20 ?_};have key:∀(i:Nat) z b,(iV rows)[i]?>z->cs[i]?>b->Jz X.K H (-b) z:=λi z b e1 e2=>by have t:=qq i (-b) z (by rw[aN,e2];rfl) e1;let(r,__,hr):=wI hp<|pc.mem_iff.mp<|aM e2;have t2:jd (s1.heap.push 125) (-b) r:=(I1.prB hr).mono λb o _ e=>af _ e;rw[<-t2.one t];show hr
 have lcs:cs.length=(iV rows).length:=by rw[lc,(kS rows).length_eq]
 clear qq pm pc lz lc g q;generalize iV rows=sr at key lcs
 induction cs generalizing sr with
 |nil=>
  cases sr with
  |nil=>show .nil
  |cons _ _=>cases lcs
 |cons b cs ih=>
  cases sr with
  |nil=>cases lcs
  |cons z sr=>show .cons (key 0 z b 9 9)<|ih sr (λi z b e1 e2=>key (i+1) z b e1 e2)<|↑lcs
end
end L2
namespace kE
open PySem PySem.Spec PyProof.Rows L2 pK dC
seal L2.PE L2.PT L2.PW L2.PA L2.PS L2.pU L2.PI L2.PO L2.El L2.PG L2.Co
inductive Mr(K:Frag)(vs:Aan)(H:Hp)(Q:VK)(_x3:XK):Prop
 |mk (a:cr) (ns:List Int) (_:vs=[-a]) (_:SD K H a (ns.map V.int)) (_:ns.length<=63) (_:∀H',Q (.bl true) H')
section
open E7
variable{P:io}{w:mo}{K:Frag}{mg:Aac}{base:ss}
noncomputable def BA:Aag:=["?a","?b","?c","?d","?a1","?b1","?c1","?d1"]
def C8(j:Nat):Aag:=BA.drop j++BA.take j
def adS{j:Nat}(hj:j<=08):(C8 j).length=08/\(C8 j).Nodup/\∀z∈C8 j,z∈Hs:=by
 have:∀j,j<09->(C8 j).length=08/\(C8 j).Nodup/\∀z∈C8 j,z∈Hs:=by decide+kernel
 show this j<|Nat.lt_succ_of_le hj
def tabI(b:Bool):pi:=if b then "u"else "t"
def xR(ones:Nat)(nm:Aag)(i:Nat):List One:=(List.range i).map λj=>(tabI<|decide (ones<=j),nm.getD j "")
def Um(ones:Nat)(nm:Aag)(i:Nat):xR ones nm (i+1)=xR ones nm i++[(tabI<|decide (ones<=i),nm.getD i "")]:=by unfold xR;rw[jQ,ba];rfl
def Kq{f:cr}{H H':Hp}(hF:∃xs,H f>.lst xs)(x:Ext f H H'):pJ H H':=λb xs e=>x b _ (λq=>by let(ys,h):=hF;rw[q,h]at e;cases e) e
def afC{m i:Nat}:Js [V.str "t",V.str "u"] (if(decide (1+(m:Int)<=0+(i:Int)))=true then 1 else 0)>.str (tabI<|decide (1+m<=i)):=by
 by_cases c:1+m<=i;·rw[aO c,aO (show 1+(m:Int)<=0+(i:Int) by lia)];rfl
 rw[bQ c,bQ (show ¬1+(m:Int)<=0+(i:Int) by lia)];rfl
def Ot{a:One}{as ds:List One}(h:as.Perm ds)(n:Nat):(as.take n++a::as.drop n).Perm (ds++[a]):=by show List.perm_middle.trans ?_;rw[sJ];show(List.Perm.cons a h).trans (List.perm_append_singleton a ds).symm
def ac1{n i:Nat}:Js [V.str "t",V.str "u"] (if(decide ((n:Int)<=0+(i:Int)))=true then 1 else 0)>.str (tabI<|decide (n<=i)):=by
 by_cases c:n<=i;·rw[aO c,aO (show(n:Int)<=0+(i:Int) by lia)];rfl
 rw[bQ c,bQ (show ¬(n:Int)<=0+(i:Int) by lia)];rfl
def vS(k:Nat):pi:=("v":pi)++Str.ofString (toString<|0+(k:Int))
def abD:∀k:Nat,k<6->(0+(k:Int)).natAbs.log2<1920/\vS k∈TL/\("v":pi).length+(Str.ofString<|toString<|0+(k:Int)).length<=1000:=by decide+kernel
def xh(c:Nat)(i:Nat):List One:=(List.range i).map λj=>(vS j,tabI<|decide (c<=j))
def SI(c i:Nat):xh c (i+1)=xh c i++[(vS i,tabI<|decide (c<=i))]:=by unfold xh;rw[jQ,ba];rfl
def acr{n:pi}{a b:Aag}:j6 (n::a) (n::b)=j6 a b:=by unfold j6;rw[show dM (n::b) (n::a)=dM b a by rw[dM,aL rfl]]
def NB{K:Frag}{H H':Hp}(s:aI H H'){vs:Aan}{rs:Aaa}(h:Paired (Jz K H) vs rs):Paired (Jz K H') vs rs:=Paired.imp' (λ_ _ x=>by let(p,g,z,zs,e1,e2,h1,h2):=x;show{p,g,z,zs,e1,e2,bf h1 s,bf h2 s}) h
def abT{K:Frag}{H:Hp}{nm:pi}:∀{vs:Aan}{zs:Aag},Paired (Jz K H) vs (zs.map λz=>[nm,z])->kG K H vs (zs.map λz=>(nm,z)):=by
 ext vs zs h
 induction zs generalizing vs with
 |nil=>cases h;show .nil
 |cons _ _ ih=>
  cases h with
  |cons x h=>
   let(p,g,z,zs,e1,e2,h1,h2):=x;cases e2;show .cons ⟨p,g,e1,h1,h2⟩<|ih h
def ET(nm:pi)(as:List One)(t:pi):Aaa:=(as.filter λa=>decide (a.1=t)).map λa=>[nm,a.2]
def Ia{as:List One}{i:Nat}{b:One}{nm t:pi}(h:as[i]?>b):ET nm (as.take<|i+1) t=ET nm (as.take i) t++if b.1=t then[[nm,b.2]]else[]:=by
 unfold ET;rw[bW,h,fH,ba];by_cases c:b.1=t;·rw[aL c,show(Option.some b).toList=[b]from rfl,bZ,aL<|aO c];rfl
 rw[az c,show(Option.some b).toList=[b]from rfl,bZ,az<|↑c];rfl
def P1{as:List One}(nd:(as.map (·.2)).Nodup)(nm t:pi):iV (ET nm as t)=(tM as t).map λz=>[nm,z]:=by
 show(oR ?_ ?_).symm
 ·show(jV ?_ ?_).mpr λd=>?_;·show cz.mpr ((LR as t).imp λn e=>n<|↑e)
  ·have h2:(as.filter λa=>decide (a.1=t)).Pairwise λa b=>a.2≠b.2:=(cz.mp nd).sublist kI;show cz.mpr (h2.imp λn e=>n<|↑e)
  unfold ET;rw[aG,aG];constructor;·ext⟨z,hz,rfl⟩;show{(t,z),bX.mpr {Ax.mp hz,aO rfl},9}
  ext⟨a,ha,rfl⟩;let(h1,h2):=bX.mp ha;show{a.2,Ax.mpr (by rw[<-(aV h2)];show h1),9}
 have h1:=mU<|BB<|gQ (as.map uJ) t;rw[show iV (BB<|gQ (as.map uJ) t)=mP (tM as t)from Jn as t]at h1;show cz.mpr ((cz.mp h1).imp λ{a b} h=>by rw[acr];show h)
structure Yk(h:pi)(as xs:List One):Prop where
 Wx:as.length<=08
 nd:(as.map (·.2)).Nodup
 ta:∀b∈as,(b.1=("t":pi)\/b.1=("u":pi))/\b.2∈Hs
 hh:tH h∈as
 lxs:55<=6
 ID:(xs.map (·.1)).Nodup
 tx:∀x∈xs,x.2=("t":pi)\/x.2=("u":pi)
 lc:(df as xs).length<=100
def aaC{z:pi}(h:z=("t":pi)\/z=("u":pi)):PyData.strOk z=true:=by
 rcases h with rfl|rfl;·show(aeq 7).2
 show(aeq 7).2
def Yk.rq{h:pi}{as xs:List One}(x:Yk h as xs):RQ h as xs:=by have fq:∀a∈as,EB a:=λa ha=>{aaC (x.ta a ha).1,adf (x.ta a ha).2};show{x.lxs,λy hy=>aaC<|x.tx y hy,x.ID,aS x.Wx 7,λa ha=>(fq a ha).2.2,λa ha=>?_,{(fq _ x.hh).2,fq,λa ha=>fq a<|JF x.ID ha,aS x.Wx 7,by rw[rY];show x.lc,(cz.mp x.nd).imp λn e=>absurd e n}};let(y,hy,ha):=rT.mp ha;let(z,hz,rfl):=aG.mp ha;show(fq _<|Ax.mp hz).2
def Yk.lw{h:pi}{as xs:List One}(x:Yk h as xs)(l:(df as xs).length<=10):Lw h as (df as xs) (lN xs<|df as xs):=by show{rY _ _,by rw[rY];show l,λa ha=>JF x.ID ha,λk=>?_,x.nd,λa ha=>(x.ta a ha).1,x.hh};unfold lN;rw[aN,Option.map_map];rfl
def ac3{K:Frag}{H:Hp}:∀{us vs:Aan}{as:List One},kG K H us as->kG K H vs as->Paired (ur K 2 H) us vs:=by
 ext us vs as h g
 induction h generalizing vs with
 |nil=>cases g;show .nil
 |cons x _ ih=>cases g with
  |cons y b=>
   let(p,t,e1,h1,h2):=x;let(p',t',e2,h3,h4):=y;show .cons (.inr {p,p',_,_,e1,e2,.inl ⟨h1,h3⟩,.cons (ur.str _)<|.cons (.inr {t,t',_,_,9,9,.inl ⟨h2,h4⟩,.cons (ur.str _) .nil,(by change 1<=100000;decide)}) .nil,(by change 2<=100000;decide)})<|ih b
def Yu:((List.range 6).map vS).Nodup:=by decide+kernel
def QQ(b:Bool):tabI b=("t":pi)\/tabI b=("u":pi):=by
 cases b;·show .inl rfl
 show .inr rfl
def jr:bL ["_law_script","_law_box_here","_law_ones","_law_others","_law_seeing","_law_names","_law_turn","_law_atoms","_law_k","_law_question","_law_views","_law_table","_law_due","_law_name","_law_asked"] ["_law_script"] (bo Th):=fS 76
def aef(F:dh K "law" "law" Th f fd)(T:Txt K mg)(ac8:bY P w K mg base 2 "_law_box" ["_law_script","_law_k"] (aaJ K))(p9:bY P w K mg base 1 "_law_take" ["_law_box_here","_law_many"] (Vd K))(yu:bY P w K mg base 5 "_law_same" ["_law_found","_law_due"] (MS K 3))(yw:bY P w K mg base 09 "candidates" ["views","question"] (JL K))(Gu:bY P w K mg base 014 "_law_refused" ["_law_views","_law_question","_law_way"] (U9 K))(Kz:bY P w K mg base 014 "_law_ways_right" ["_law_views","_law_question","_law_found"] (adG K)):cm P w K mg base dZ 15 f fd ["_law_script"] (Mr K):=by
 show F.ok jr 85;let(a,ns,rfl,ha,ln,k):=h;show{_,ay (cZ 1 jr<|cl ac8 hr<|cj (pv 0) bb)<|ay (cZ 2 jr<|dj kW bb<|cl p9 hr<|cj (pv 1) bb)<|ay (cZ 3 jr<|cl p9 hr<|cj (pv 1)<|dj aea bb<|pv 2)<|ay (cZ 4 jr<|dy<|cj (cl p9 hr<|cj (pv 1) bb)<|cl p9 hr<|cj (pv 1) bb)<|ay (cZ 5 jr<|dy<|iR fK<|iR fK<|iR fK<|iR fK<|iR fK<|pf fK fK fK)<|ay (cZ 6 jr<|cl p9 hr<|cj (pv 1) bb)<|ay (cZ 5 jr<|dj mz (lG uB (pv 5) (nV<|pv 6) nW)<|lG uB (pv 5) nW<|nV<|pv 6)<|ay (cZ 07 jr<|dy fQ)<|ay (fG bF 9 (oZ 9 T.uL<|bB<|dj kW (pv 2)<|pv 3) (ic 08 jr)<|aP<|g9<|j4 cb xZ xY Ln (pv 07)<|cj (cl p9 hr<|cj (pv 1)<|dj kW (bh cW 9 T.eZ bz<|bB<|pv 07) bb)<|dF<|cj (bV hJ (dy<|cj fK fK) (cG y3 9 T.IE 76<|bB<|gu aaO (pv 08) (pv 2)<|cL _) (λ_ _=>9))<|dF<|bB<|bV hJ (pv 5) (pv 08) (λ_ _=>9))<|ay (cZ 09 jr<|dF<|cj (dF<|bB<|bV hJ (pv 5) (cl p9 hr<|cj (pv 1)<|pv 2) (λ_ _=>9))<|cG fE 9 T.jh 76<|bB<|pv 07)<|ay (cZ 10 jr<|dy fQ)<|ay (fG bF 9 (oZ 9 T.uL<|bB<|bh (Hc 9) 9 T.TJ 76<|bB<|pv 4) (ic 08 jr)<|ay (cZ 11 jr<|bV hJ (dy<|cj fK fK) (cG y3 9 T.IE 76<|bB<|gu aaO (pv 08) (bV hJ (pv 4) bb (λ_ _=>9))<|cL _) (λ_ _=>9))<|aP<|g9<|j4 cb xZ xY Ln (pv 10)<|cj (cl p9 hr<|cj (pv 1)<|dj kW (bh cW 9 T.eZ bz<|bB<|pv 10) bb)<|dF<|cj (dj Bk fK<|cG LS 9 T.EY 76<|bB<|pv 08)<|dF<|cj (dF<|bB fK)<|dF<|bB<|dF<|cj (pv 11)<|dF<|bB fK)<|ay (cZ 12 jr<|dy fQ)<|ay (fG bF 9 (cN<|pv 10) (iE 9<|bD (jw (i:=13) jr.nd 9<|Or.inr 9)<|bD (jw (i:=014) jr.nd 9<|Or.inr 9) d5)<|aP<|cZ 12 jr<|dj mz (pv 12)<|bh (Ml<|u96 hr) 9 T.mX 76<|bB<|Ij 9 (j7 (more:=["_law_terms"]) (fs:=["_law_name","_law_asked"]) (fr:=[13,014])) (cN<|pv 07) (λ_ _ _ _=>qj (n:=2) 9 93) (λ_ _ _ _=>cU rG (pv 0) (bV (iC) (bV (iC) (bV (iC) (pv 3) bb (λ_ _=>9)) bb (λ_ _=>9)) bb (λ_ _=>9))<|cL _) (λ_ _ _ _=>dF<|cj (pv 2)<|pv 1))<|ay (fh (sW<|h9<|cl yu hr<|cj (cl yw hr<|cj (cG jc 9 T.mB 76<|bB<|pv 10)<|pv 09)<|pv 12) (aP<|bH qm) dc)<|ay (fh (cU Iq (bh cW 9 T.eZ bz<|bB<|pv 12) bb<|cL _) (aP<|bH<|qW (cl Gu hr<|pf (cG jc 9 T.mB 76<|bB<|pv 10) (pv 09) bb)<|vt<|cl Gu hr<|pf (cG jc 9 T.mB 76<|bB<|pv 10) (pv 09) bb) dc)<|aP<|bH<|cl Kz hr<|pf (pv 10) (pv 09)<|pv 12,?_}
 show iq λR eR=>?_;show{_,9,a,ns,0,9,ha,ln,Int.le_refl _,λbx H1 hF1 s1 bx0=>?_};show bT (T:=R) eR λR eR=>?_;show{_,9,bx,07,9,hF1,7,7,λm H2 m0 m7 hF2 _=>{_,_,9,9,?_}};show bT (T:=R) eR λR eR=>?_;show{_,9,_,9,_,_,9,9,bx,_,9,hF2,8,8,λo H3 o0 o9 hF3 _=>?_};show bT (T:=R) eR λR eR=>?_;show{_,9,bx,4,9,hF3,7,7,λc1 H4 a1 b1 hF4 _=>{_,9,bx,4,9,hF4,7,7,λc2 H5 a2 b2 hF5 _=>{95,λsl IS=>?_}}};have hF6:=hF5.new IS<|.lst [.int c1,.int c2];have nsl:=hF5.Wh IS;have RX:upd H5 sl (.lst [.int c1,.int c2]) sl>.lst [.int c1,.int c2]:=au;generalize (upd H5 sl<|.lst [.int c1,.int c2])=H6 at hF6 RX⊢;show bT eR λR eR=>?_;show{(by change 08<=dL;decide),λnl OI=>?_};have hF7:=hF6.new OI<|.lst<|BA.map V.str;have s7:aI H6 (upd H6 nl<|.lst<|BA.map V.str):=aB OI _;have hn7:upd H6 nl (.lst<|BA.map V.str) nl>.lst (BA.map V.str):=au;change Gx _ _ _ _ (upd H6 nl<|.lst<|BA.map V.str);show bT eR λR eR=>?_;show{_,9,bx,08,9,hF7,7,7,λtn H8 t0 t8 hF8 x8=>?_};have hn8:=x8 _ _ (hF6.Wh OI) hn7;let(tn,rfl):=ig t0;show bT eR λR eR=>?_;show{_,9,_,9,_,9,Ie hn8 λp1 H9 n1 s9 h1=>{_,9,_,9,_,9,Ie (s9 _ _ hn8) λp2 HA n2 sA h2=>?_}};rw[Pf]at h1;rw[XY]at h2;show Rf (sA _ _ h1) h2 (by rw[iM,aW,ag];change 08 -tn+min tn 08<=1000;lia) λp3 HB n3 sB h3=>?_;have s8B:=s9.trans<|sA.trans sB;have hFB:=hF8.same s8B;have hsB:=s8B _ _<|x8 _ _ nsl<|s7 _ _ RX;have h3:HB p3>.lst ((C8 tn).map V.str):=by rw[h3,<-List.map_drop,<-List.map_take,<-ba];rfl
 let(nmL,nmD,nmP):=adS (j:=tn) ∅;generalize C8 tn=nm at h3 nmL nmD nmP;have np3:=(hF8.same<|s9.trans sA).Wh n3;show bT eR λR eR=>?_;show{31,λal Cg=>?_};have hFC:=hFB.new Cg 74;have sC:aI HB (upd HB al 74):=aB Cg _;have nal:=hFB.Wh Cg;have ahZ:=sC _ _ h3;have hsC:=sC _ _ hsB;have haC:upd HB al 74 al>.lst []:=au;let(m,rfl):=ig m0;let(o,rfl):=ig o0;show bT eR λR eR=>?_;show{_,9,_,9,_,_,9,9,_,9,8,8,By (λi Z HD=>∃(x8:Aao)(gg:Aan)(as:List One),Z=[some (-a),some (-bx),some<|.int<|1+m,some<|.int o,some (-sl),some (-p3),some<|.int tn,some (-al),x8,none,none,none,none,none,none]/\i<=1+m+o/\qQ K bx HD/\HD al>.lst gg/\EI HD gg as/\as.Perm (xR (1+m) nm i)/\HD p3>.lst (nm.map V.str)/\HD sl>.lst [.int c1,.int c2]) {_,[],[],9,aF _,hFC,haC,.nil,.refl _,ahZ,hsC} ?_ ?_}
 ·ext i Z HD D1 hi ⟨x8,gg,as,rfl,hi',Xo,Xi,hAt,pm,hpD,hsD⟩ iy _;have lA:gg.length=i:=by rw[aQ hAt,pm.length_eq];unfold xR;rw[ag,cH]
  show{_,9,.inl {9,_,aT.of Xi},_,9,_,9,_,_,9,.inl {_,aT.of Xi,9},_,_,9,9,bx,_,9,Xo,8,8,λat' HE e0 e1 Xn xE=>?_};have Wv:i<nm.length:=by lia
  have en:(nm.map V.str)[i]?>.str (nm.getD i ""):=by rw[aN,aq Wv,dG,aq Wv];rfl
  have hpE:=xE _ _ np3 hpD;show{95,λd2 hd2=>?_};have sF:=aB hd2<|.lst [.str "t",.str "u"];show{_,9,_,9,_,_,9,9,.inr {_,9,d2,_,_,_,9,9,80,afC,?_}};show{_,9,_,9,_,_,_,_,9,9,aT.of<|sF _ _ hpE,(by rw[pY];show mF en),42,?_}
  intros t ht HG sG htG
  show{95,?_}
  intros q hq HH sH hqH
  have C6:=sF.trans<|sG.trans sH;have Sf:=C6 _ _<|xE _ _ nal Xi;show{al,gg,at',_,9,9,Sf,e0,8,8,?_};have tp:pJ HH (upd HH al<|.lst<|gg.take at'.toNat++ .ref q::gg.drop at'.toNat):=λb xs e=>by rw[aC λz=>by rw[z,Sf]at e;cases e];show e
  show iy _ _ {_,_,as.take at'.toNat++(tabI<|decide (1+m<=i),nm.getD i "")::as.drop at'.toNat,rfl,∅,(Xn.same C6).lst Sf nal _,au,?_,?_,?_,?_};·have hAH:=((hAt.keep<|Kq (let⟨x,y,z,h⟩:=Xo;⟨_,h⟩) xE).keep λ_ _ e=>C6 _ _ e).keep tp;show cY (zG hAH _)<|.cons {q,t,9,tp _ _ hqH,tp _ _<|sH _ _ htG}<|zH hAH _
  ·rw[Um];show Ot pm _
  ·rw[aC<|bN (λe=>by rw[e,h3]at Cg;cases Cg)];show C6 _ _ hpE
  rw[aC<|bN (λe=>by rw[e,hsB]at Cg;cases Cg)];show C6 _ _<|xE _ _ nsl hsD
 ext Z HD ⟨x8,gg,as,rfl,_,Xo,Xi,hAt,pm,hpD,hsD⟩;have en:(1+(m:Int)+(o:Int)).toNat=1+m+o:=by lia
 show bT (T:=R) eR λR eR=>?_;show{_,9,_,9,_,9,bx,_,9,Xo,8,8,λhi HE e0 e1 Xn xE=>?_};let(hi,rfl):=ig e0;have Wv:hi<nm.length:=by lia
 have enh:(nm.map V.str)[hi]?>.str (nm.getD hi ""):=by rw[aN,aq Wv,dG,aq Wv];rfl
 have haE:=xE _ _ nal Xi;have hsE:=xE _ _ nsl hsD;have hAE:=hAt.keep<|Kq (let⟨x,y,z,h⟩:=Xo;⟨_,h⟩) xE;show{_,_,_,_,9,9,aT.of<|xE _ _ np3 hpD,mF enh,42,λhd mS=>?_};obtain⟨h,eh⟩:∃h,h=nm.getD hi "":=⟨_,rfl⟩;rw[<-eh];rename_i hd mS HF sF hhF;show{_,9,al,gg,9,.inl {aT.of<|sF _ _ haE,?_}}
 intros aa kJ HG sG haG
 show{95,?_}
 intros q hq HH sH hqH
 have C6:=sF.trans<|sG.trans sH;have hQ:Q1 HH (-q) h as:={q,hd,aa,gg,9,hqH,sH _ _<|sG _ _ hhF,sH _ _ haG,hAE.keep λ_ _ e=>C6 _ _ e};have Sf:=C6 _ _ haE;have hsH:=C6 _ _ hsE;have hFH:=Xn.same C6;show bT eR λR eR=>?_;show{31,λvl rg=>?_};have hFI:=hFH.new rg 74;have sI:=aB rg 74;have nvl:=hFH.Wh rg;have hvI:upd HH vl 74 vl>.lst []:=au;generalize upd HH vl 74=HI at hFI sI hvI⊢;have hsI:=sI _ _ hsH;let(c1,rfl):=ig a1;let(c2,rfl):=ig a2;show bT eR λR eR=>?_;have es:([(c1:Int),(c2:Int)].sum).toNat=c1+c2:=by simp[Cq];lia
 have es2:0<=[(c1:Int),(c2:Int)].sum/\[(c1:Int),(c2:Int)].sum<=6:=by simp[Cq];lia
 show{_,9,sl,[(c1:Int),(c2:Int)],9,aT.of hsI,_,9,8,8,By (λi Z HD=>∃(x8 x11:Aao)(dH:Aan)(xs:List One),Z=[some (-a),some (-bx),some<|.int<|1+m,some<|.int o,some (-sl),some (-p3),some<|.int tn,some (-al),x8,some (-q),some (-vl),x11,none,none,none]/\i<=6/\qQ K bx HD/\HD vl>.lst dH/\Paired (Gn HD) dH xs/\xs.Perm (xh c1 i)/\Q1 HD (-q) h as/\HD al>.lst gg/\EI HD gg as/\HD sl>.lst [.int c1,.int c2]) {_,_,[],[],9,aF _,hFI,hvI,.nil,.refl _,(hQ.keep λ_ _ e=>sI _ _ e),sI _ _ Sf,(hAE.keep λ_ _ e=>sI _ _<|C6 _ _ e),hsI} ?_ ?_}
 ·ext i Z HJ D1 Ce ⟨y8,y11,dH,xs,rfl,_,hFJ,Lv,Sh,Rk,hQJ,haJ,hAJ,hsJ⟩ iy _;let(lg,vin,lnv):=abD i ∅;have lV:dH.length=i:=by rw[aQ Sh,Rk.length_eq];unfold xh;rw[ag,cH]
  show{95,λd2 hd2=>?_};have sK:=aB hd2<|.lst [.str "t",.str "u"];show{_,9,_,9,_,_,_,_,9,9,aT.of<|sK _ _ hsJ,9,_,_,9,9,.inr {_,9,d2,_,_,_,9,9,80,ac1,?_}};have hFK:=hFJ.new hd2<|.lst [.str "t",.str "u"];generalize upd HJ d2 (.lst [.str "t",.str "u"])=HK at sK hFK⊢;have hvK:=sK _ _ Lv;show{_,9,.inl {9,_,aT.of hvK},_,9,_,9,_,_,9,.inl {_,aT.of hvK,9},_,_,9,9,bx,_,9,hFK,8,8,λat' HE e0 e1 Xn xE=>?_};have tpJ:pJ HJ HE:=λb xs e=>(Kq (let⟨x,y,z,h⟩:=hFK;⟨_,h⟩) xE) _ _<|sK _ _ e;obtain⟨tb,etb⟩:∃tb,tb=tabI (decide (c1<=i)):=⟨_,rfl⟩;rw[<-etb];show{_,9,_,9,lg,_,_,9,9,bU<|cw lnv,42,?_}
  intros t1 h1 G1 g1 k1
  show{_,9,42,?_}
  intros t2 h2 G2 g2 k2
  show{95,?_}
  intros t3 h3 G3 g3 k3
  show{42,?_}
  intros t4 h4 G4 g4 k4
  show{95,?_}
  intros t5 h5 G5 g5 k5
  show{95,λt6 h6=>?_};change Rg _ [_,-t6] (upd G5 t6<|.tup [.str<|vS i,-t5]) _;rename_i t6 h6 G6 g6 k6;have g36:=g4.trans<|g5.trans g6;have g26:=g3.trans g36;have Xr:=g1.trans<|g2.trans g26;have hv6:=Xr _ _<|xE _ _ nvl hvK;show{vl,dH,at',_,9,9,hv6,e0,8,8,?_};have tp:pJ G6 (upd G6 vl<|.lst<|dH.take at'.toNat++ .ref t6::dH.drop at'.toNat):=λb xs e=>by rw[aC λz=>by rw[z,hv6]at e;cases e];show e
  have tpA:pJ HJ (upd G6 vl<|.lst<|dH.take at'.toNat++ .ref t6::dH.drop at'.toNat):=λb xs e=>tp _ _<|Xr _ _<|tpJ _ _ e;have hVA:=Paired.imp' (λ_ _ z=>z.keep tpA) Sh;show iy _ _ {_,_,_,xs.take at'.toNat++(vS i,tb)::xs.drop at'.toNat,rfl,by lia,(Xn.same Xr).lst hv6 nvl _,au,cY (zG hVA _)<|.cons {t6,-t5,9,tp _ _ k6,t5,t1,t4,_,9,tp _ _<|g6 _ _ k5,tp _ _<|(g2.trans g26) _ _ k1,tp _ _<|g5.trans g6 _ _ k4,.cons {t3,t2,9,tp _ _<|g36 _ _ k3,tp _ _<|g26 _ _ k2} .nil}<|zH hVA _,?_,hQJ.keep tpA,?_,hAJ.keep tpA,?_};·rw[SI,<-etb];show Ot Rk _
  ·rw[aC<|bN (λe=>by rw[e,Sf]at rg;cases rg)];show Xr _ _<|xE _ _ nal<|sK _ _ haJ
  rw[aC<|bN (λe=>by rw[e,hsH]at rg;cases rg)];show Xr _ _<|xE _ _ nsl<|sK _ _ hsJ
 ext Z HJ ⟨y8,y11,dH,xs,rfl,_,hFJ,Lv,Sh,Rk,hQJ,haJ,hAJ,hsJ⟩;have nd:(as.map (·.2)).Nodup:=by
  show(pm.map (·.2)).nodup_iff.mpr ?_;unfold xR;rw[cX];show cz.mpr (ni.imp_of_mem λ{x y} hx hy n e=>n ?_);have hx:=bO.mp hx;have hy:=bO.mp hy;have e:nm.getD x ""=nm.getD y "":=e;have hxl:x<nm.length:=by lia
  have hyl:y<nm.length:=by lia
  rw[dG,dG,aq hxl,aq hyl]at e;have e:nm[x]=nm[y]:=e;show Bn nmD (aq hxl) (by rw[e];show aq hyl)
 have Wx:as.length<=08:=by rw[pm.length_eq];unfold xR;rw[ag,cH];lia
 have lxs:55<=6:=by rw[Rk.length_eq];unfold xh;rw[ag,cH];lia
 have lav:=aQ hAJ;show bT (T:=R) eR λR eR=>?_;show{31,?_}
 intros d0 jN HK sK hdK
 show bT eR λR eR=>?_;show{_,9,vl,9,{_,aT.of<|sK _ _ Lv},iS (λi Z HD=>∃(x13 x14:Aao)(dl:cr)(zs:Aan),Z=[some (-a),some (-bx),some<|.int<|1+m,some<|.int o,some (-sl),some (-p3),some<|.int tn,some (-al),y8,some (-q),some (-vl),y11,some (-dl),x13,x14]/\i<=55/\aI HJ HD/\HD dl>.lst zs/\kG K HD zs (df as<|xs.take i)/\zs.length<=08*i) {_,_,d0,[],9,aF _,sK,hdK,.nil,ao _} (λi Z HD _ zq=>by let(__,__,__,__,__,__,sm,__):=zq;show aT.of<|sm _ _ Lv) ?_ ?_}
 ·ext i x Z HD D1 hx ⟨x13,x14,dl,zs,rfl,hi3,sD,Cf,hz,lz⟩ iy _;let(vx,hvx,p,qv,rfl,hp,qq,qh,qa,qvs,rfl,hqq,hqh,hqa,hqs):=Paired.at Sh hx;cases hqs with
  |cons OF yT=>
  cases yT;let(q1,q2,rfl,OF,yT):=OF;have b6:=(ar.mp hvx).1;have big:(5000:Nat)<dL:=by rw[bM];decide
  show{p,_,9,aZ.of<|sD _ _ hp,9,_,_,9,_,_,9,9,?_};show{_,9,_,9,al,9,{gg,aT.of<|sD _ _ haJ},BC (xs:=gg) (λj ys HE=>aI HD HE/\j<=as.length/\Paired (Jz K HE) ys (ET vx.1 (as.take j) vx.2)/\91<=j) ∅ {84,aF _,.nil,ao _} ?_ ?_ ?_};·ext j ys HE hj ⟨sE,_,_,ly⟩;show{aT.of<|sE _ _<|sD _ _ haJ,ly}
  ·ext j y ys HE N hy ⟨sE,hj,lQ,ly⟩ hN;let(b,hb,pb,tb,rfl,WX,htb):=Paired.at hAJ hy;have rj:=(ar.mp hb).1;have Vu:=sD.trans sE;show{pb,_,_,9,aZ.of<|Vu _ _ WX,_,9,_,9,_,_,_,_,9,9,aZ.of<|Vu _ _ hqq,9,_,_,_,_,9,9,aZ.of<|Vu _ _ hqa,9,_,_,_,_,9,9,aZ.of<|Vu _ _ OF,9,9,_,9,hX (λc=>?_) (λc=>hN _ _ {sE,rj,?_,8})};·have c:=aV c;show{_,9,_,9,95,λt ht=>hN _ _ {sE.trans<|aB ht _,rj,?_,by rw[aU,b5];lia}};rw[Ia hb,aL<|V.str.inj c];show cY (NB (aB ht _) lQ) (.cons {t,tb,vx.1,[b.2],9,9,aZ.of au,aZ.of<|aB ht _ _ _<|Vu _ _ htb} .nil)
   rw[Ia hb,az (λe=>c<|aO (by rw[e])),cy];show lQ
  ext ys HE ⟨sE,_,lQ,ly⟩ l3 lW;rw[lav,bq]at lQ;rename_i l3 lW HF sF hlF;show{l3,ys,_,9,aT.of hlF,NB sF lQ,by rw[<-aQ lQ];lia,λl4 UT ki Ox=>?_};rw[P1 nd]at Ox;have lz4:UT.length<=08:=by rw[aQ Ox,ag];show aS (Kj as vx.2) Wx
  rename_i l4 ki HG sG hlG;have sDG:=sE.trans<|sF.trans sG;show{dl,l4,zs,UT,9,9,sDG _ _ Cf,hlG,8,λp5 hp5=>?_};have sH:=aB hp5<|.lst<|zs++UT;show iy _ _ {_,_,p5,zs++UT,9,b6,sD.trans<|sDG.trans sH,au,?_,by rw[aU];lia};unfold df;rw[bW,hvx,uk];show cY (hz.tp<|bu.same<|sDG.trans sH) ?_;change kG K _ UT (((tM as vx.2).map λz=>(vx.1,z))++[]);rw[cy];show(abT<|NB sG Ox).tp<|bu.same sH
 ext Z HD ⟨x13,x14,dl,zs,rfl,_,sD,Cf,hz,lz⟩;rw[(aQ Sh),bq]at hz;have lzc:=aQ hz;have dr:Yk h as xs:=by
  show{Wx,nd,23,?_,lxs,?_,λy hy=>?_,8};·let(j,hj,rfl):=aG.mp<|pm.mem_iff.mp hb;have hj:=bO.mp hj;show{QQ _,nmP _ ?_};rw[dG,aq (show j<nm.length by lia)];show jz _
  ·show pm.mem_iff.mpr<|aG.mpr {hi,bO.mpr ∅,?_};rw[bQ ∅,<-eh];rfl
  ·show(Rk.map (·.1)).nodup_iff.mpr ?_;unfold xh;rw[cX];have:(List.range<|c1+c2).Sublist (List.range 6):=List.range_sublist.mpr ∅;show Yu.sublist<|this.map vS
  let(j,__,rfl):=aG.mp<|Rk.mem_iff.mp hy;show QQ _
 have rq:=dr.rq;have vqJ:∀{H':Hp}{l:cr},aI HJ H'->H' l>.lst dH->VQ K H' l (-q) dH h as xs:=λs hl=>{aT.of hl,Paired.imp' (λ_ _ z=>z.keep λ_ _ e=>s _ _ e) Sh,hQJ.keep λ_ _ e=>s _ _ e,rq};show bT (T:=R) eR λR eR=>?_;show{_,9,vl,dH,9,.inl<|aT.of<|sD _ _ Lv,?_}
 intros l5 qD H5' s5 h5
 have v5:=vqJ (sD.trans s5) h5;show{_,9,l5,-q,dH,xs,h,as,9,v5.vl,v5.vs,rq.lx,rq.sx,v5.q,rq.lq,rq.tq,λl6 zc H6' s6 _ qC RV=>?_};show{_,9,_,_,9,.inr {l6,dl,zc,zs,rfl,rfl,.inr {qC,s6 _ _<|s5 _ _ Cf},ac3 RV<|hz.tp<|bu.same<|s5.trans s6,by rw[aQ RV];have:=dr.lc;lia},λH7' Ni=>{_,9,hU ?_}};have sD7:=s5.trans<|s6.trans Ni;have Q5:=sD.trans sD7;show bT (T:=R) eR λR eR=>?_;show{_,9,_,_,9,.inl {_,aT.of<|sD7 _ _ Cf,9},_,_,9,9,_,9,hX (λc=>?_) (λc=>?_)};·have c:=aV c;show{_,9,vl,dH,9,.inl<|aT.of<|Q5 _ _ Lv,λl8 W4=>?_};have s8:=aB W4<|.lst dH;show{_,9,l8,-q,dH,h,as,xs,0,9,vqJ (Q5.trans s8) au,8,λH9' Q7=>{_,9,i8 ?_}};show{_,9,vl,dH,9,.inl<|aT.of<|Q7 _ _<|s8 _ _<|Q5 _ _ Lv,λl9 IV=>?_};show{_,9,l9,-q,dH,h,as,xs,1,9,vqJ (Q5.trans<|s8.trans<|Q7.trans<|aB IV<|.lst dH) au,8,λH' _=>k H'}
 have c:¬(10:Int)<(zs.length:Int):=λe=>c<|aO e;show jg (T:=R) eR<|{_,9,_,9,_,9,vl,dl,-q,dH,zs,h,as,xs,9,vqJ Q5<|Q5 _ _ Lv,sD7 _ _ Cf,hz.tp<|bu.same sD7,dr.lw ∅,λH' _=>k H'}
end
end kE
namespace kE
open PySem PySem.Spec PyProof.Rows L2
def adN{K:Frag}(hO:UG H)(h:aT K H a xs):SD K H a xs:=by
 rcases h with(h|h)|h
 ·rcases hO a with e|⟨o,ys,e⟩;·rw[e]at h;cases h
  rw[e]at h;cases h
 ·show .inl h
 show .inr h
def FB(K:Frag)(a:Option (Aah))(x q:pi)(st:xz)(A:Nat)(m:jp):Prop:=(a,K.lookup<|A+1,codeIn K (-A) q,keepIn K<|.ref<|A+1)=(some<|some<|.ref<|A+1,some<|fO st x q m (-A),true,true)
def FB.of{K:Frag}{a:Option (Aah)}{x q:pi}{st:xz}{A:Nat}{m:jp}(h:FB K a x q st A m):a>some (.ref<|A+1)/\∃fd,dh K x q st (A+1) fd:=by simp only[FB,Prod.mk.injEq]at h;show{h.1,_,afo h.2.1 h.2.2.1 h.2.2.2}
structure yo(P:io)(w:mo)(K:Frag)(mg:Aac)(base h:ss):Prop where
 X:K.In h
 G:h.Ns ww mg
section
variable{K:Frag}{h base:ss}{x y q p p2 r s:pi}{st:xz}{mg:Aac}{f C:cr}{fd:ut}{P:io}{w:mo}{k:Nat}{sp:Sp}{ps:Aag}
def yo.at(E:yo P w K mg base h){v:jp}(a:nsIn K ww x>some v:=by kernel_rfl):mg x>v:=PySem.W.mg_of E.X E.G a
def yo.no(E:yo P w K mg base h)(a:nsIn K ww x>none:=by kernel_rfl):mg x=none:=PySem.W.mg_none_of E.X E.G a
def G8{C:JC}{A:Nat}{m:jp}(b:FB K (nsIn K ww x) y y st A m)(hb:∀f fd,dh K y y st f fd->Binds K fd ps [])(E:yo P w K mg base h)(ok:∀f fd,dh K y y st f fd->cm P w K mg base C k f fd ps sp):∃f fd,cm P w K mg base C k f fd ps sp/\mg x>-f/\keepIn K (-f)=true/\Binds K fd ps []:=
 have⟨a,fd,F⟩:=b.of
 {_,fd,ok _ fd F,E.at a,F.kp,hb _ fd F}
abbrev Bd1(x q:pi)(st:xz)(p:pi):Prop:=(λ(a kV doc pm cK ct:jp)(an:Aaj)=>Sc 134 {[a],[]})=λa _ _ _ _ _ _=>pure [(p,a)]
def bd1(F:dh K x q st f fd)(h:Bd1 x q st p:=by rfl):Binds K fd [p] []:=F.binds λk1 k2 k3 k4 k5 k6 us hl=>by rcases us with _|⟨a,_|⟨e,us⟩⟩<;>first|show cP (cP (cP (cP (cP (cP (cP h a) k1) k2) k3) k5) k6) k4|cases hl
def d1(E:yo P w K mg base h)(A:Nat)(m:jp)(ok:∀f fd,dh K y y st f fd->cm P w K mg base dZ k f fd [p] sp)(b:FB K (nsIn K ww y) y y st A m:=by unfold FB;kernel_rfl)(h:Bd1 y y st p:=by rfl):bY P w K mg base k y [p] sp:=G8 b (λ_ _ F=>bd1 F h) E ok
abbrev Yq(x q:pi)(st:xz)(p p2:pi):Prop:=(λ(a b kV doc pm cK ct:jp)(an:Aaj)=>Sc 134 {[a,b],[]})=λa b _ _ _ _ _ _=>pure [(p,a),(p2,b)]
def Sw(F:dh K x q st f fd)(h:Yq x q st p p2:=by rfl):Binds K fd [p,p2] []:=F.binds λk1 k2 k3 k4 k5 k6 us hl=>by rcases us with _|⟨a,_|⟨b,_|⟨e,us⟩⟩⟩<;>first|show cP (cP (cP (cP (cP (cP (cP (cP h a) b) k1) k2) k3) k5) k6) k4|cases hl
def d2(E:yo P w K mg base h)(A:Nat)(m:jp)(ok:∀f fd,dh K y y st f fd->cm P w K mg base dZ k f fd [p,p2] sp)(b:FB K (nsIn K ww y) y y st A m:=by unfold FB;kernel_rfl)(h:Yq y y st p p2:=by rfl):bY P w K mg base k y [p,p2] sp:=G8 b (λ_ _ F=>Sw F h) E ok
abbrev Bd3(x q:pi)(st:xz)(p p2 r:pi):Prop:=(λ(a b c kV doc pm cK ct:jp)(an:Aaj)=>Sc 134 {[a,b,c],[]})=λa b c _ _ _ _ _ _=>pure [(p,a),(p2,b),(r,c)]
def Yc(F:dh K x q st f fd)(h:Bd3 x q st p p2 r:=by rfl):Binds K fd [p,p2,r] []:=F.binds λk1 k2 k3 k4 k5 k6 us hl=>by rcases us with _|⟨a,_|⟨b,_|⟨c,_|⟨e,us⟩⟩⟩⟩<;>first|show cP (cP (cP (cP (cP (cP (cP (cP (cP h a) b) c) k1) k2) k3) k5) k6) k4|cases hl
def d3(E:yo P w K mg base h)(A:Nat)(m:jp)(ok:∀f fd,dh K y y st f fd->cm P w K mg base dZ k f fd [p,p2,r] sp)(b:FB K (nsIn K ww y) y y st A m:=by unfold FB;kernel_rfl)(h:Bd3 y y st p p2 r:=by rfl):bY P w K mg base k y [p,p2,r] sp:=G8 b (λ_ _ F=>Yc F h) E ok
abbrev Bd4(x q:pi)(st:xz)(p p2 r s:pi):Prop:=(λ(a b c d kV doc pm cK ct:jp)(an:Aaj)=>Sc 134 {[a,b,c,d],[]})=λa b c d _ _ _ _ _ _=>pure [(p,a),(p2,b),(r,c),(s,d)]
def bd4(F:dh K x q st f fd)(h:Bd4 x q st p p2 r s:=by rfl):Binds K fd [p,p2,r,s] []:=F.binds λk1 k2 k3 k4 k5 k6 us hl=>by rcases us with _|⟨a,_|⟨b,_|⟨c,_|⟨d,_|⟨e,us⟩⟩⟩⟩⟩<;>first|show cP (cP (cP (cP (cP (cP (cP (cP (cP (cP h a) b) c) d) k1) k2) k3) k5) k6) k4|cases hl
def d4(E:yo P w K mg base h)(A:Nat)(m:jp)(ok:∀f fd,dh K y y st f fd->cm P w K mg base dZ k f fd [p,p2,r,s] sp)(b:FB K (nsIn K ww y) y y st A m:=by unfold FB;kernel_rfl)(h:Bd4 y y st p p2 r s:=by rfl):bY P w K mg base k y [p,p2,r,s] sp:=G8 b (λ_ _ F=>bd4 F h) E ok
def dA2(x:pi)(E:yo P w K mg base h)(A:Nat)(m:jp)(ok:∀f fd,dh K y y st f fd->cm P w K mg base dZ k f fd [p,p2] sp)(b:FB K (nsIn K ww x) y y st A m:=by unfold FB;kernel_rfl)(h:Yq y y st p p2:=by rfl):bY P w K mg base k x [p,p2] sp:=G8 b (λ_ _ F=>Sw F h) E ok
def dA3(x:pi)(E:yo P w K mg base h)(A:Nat)(m:jp)(ok:∀f fd,dh K y y st f fd->cm P w K mg base dZ k f fd [p,p2,r] sp)(b:FB K (nsIn K ww x) y y st A m:=by unfold FB;kernel_rfl)(h:Bd3 y y st p p2 r:=by rfl):bY P w K mg base k x [p,p2,r] sp:=G8 b (λ_ _ F=>Yc F h) E ok
def e2(E:yo P w K mg base h)(A:Nat)(m:jp)(ok:∀f fd,dh K y y st f fd->cm P w K mg base (JD P w) k f fd [p,p2] sp)(b:FB K (nsIn K ww y) y y st A m:=by unfold FB;kernel_rfl)(h:Yq y y st p p2:=by rfl):vO P w K mg base k y [p,p2] sp:=G8 b (λ_ _ F=>Sw F h) E ok
def FB.mn{A:Nat}{m:jp}(h:FB K (findIn K (-C) x) x q st A m)(i:isFn K (.ref<|A+1)=true):∃f fd,findIn K (-C) x>some (-f)/\isFn K (-f)=true/\dh K x q st f fd:={_,let⟨fd,F⟩:=h.of.2;{fd,h.of.1,i,F}}
def X4(a:plainGet K C Str.empty=true:=by kernel_rfl)(b:hasDictIn K C=true:=by kernel_rfl)(c:PySem.W.plainOver K C=true:=by kernel_rfl)(d:findIn K (-C) "__setattr__">some (.builtin "object.__setattr__"):=by kernel_rfl):AX K C:=⟨a,b,c,d⟩
def EW{x:pi}(a:findIn K (-C) x>none:=by kernel_rfl):mI K C x:=a
def m2(E:yo P w K mg base h)(C:cr)(A:Nat)(m:jp)(ok:∀f fd,dh K x q st f fd->cm P w K mg base dZ k f fd [p,p2] sp)(b:FB K (findIn K (-C) x) x q st A m:=by unfold FB;kernel_rfl)(i:isFn K (.ref<|A+1)=true:=by kernel_rfl)(h:Yq x q st p p2:=by rfl):jH P w K mg base C k x [p,p2] sp:=
 have⟨a,fd,F⟩:=b.of
 {_,fd,ok _ fd F,{a,i,F.kp},Sw F h}
def m3(E:yo P w K mg base h)(C:cr)(A:Nat)(m:jp)(ok:∀f fd,dh K x q st f fd->cm P w K mg base dZ k f fd [p,p2,r] sp)(b:FB K (findIn K (-C) x) x q st A m:=by unfold FB;kernel_rfl)(i:isFn K (.ref<|A+1)=true:=by kernel_rfl)(h:Bd3 x q st p p2 r:=by rfl):jH P w K mg base C k x [p,p2,r] sp:=
 have⟨a,fd,F⟩:=b.of
 {_,fd,ok _ fd F,{a,i,F.kp},Yc F h}
end
def all_mk{l:PySem.W.OpenLaw}{w:mo}{h:ss}{mg:Aac}{fa:cr}(X:(KF w.params).In h)(G:h.Ns ww mg)(hfa:mg "law">-fa):∃fd:ut,(∀(s:fv)(v:jp),TD s fd {[v],[]} [("_law_script",v)])/\∀base:ss,(KF w.params).In base->base.Ns ww mg->cm l.prog w 94 mg base dZ 15 fa fd ["_law_script"] (Mr 94):=by
 let(a,fd,F):=FB.of (show FB 94 (nsIn 94 ww "law") "law" "law" Th 515 og by unfold FB;kernel_rfl);have e:=hfa.symm.trans<|PySem.W.mg_of X G a;cases e;show{fd,?_,λbase _ _=>?_}
 ·let(__,__,__,__,__,__,__,__,__,rfl,__,__):=F.ex
  exactλs v=>.of_eq rfl
 have E:yo l.prog w 94 mg base h:=⟨X,G⟩;have T:Txt 94 mg:={E.no,E.no,E.no,E.no,E.no,E.no,E.no,E.no,E.no,E.no,E.no,E.no,E.no,E.no,E.no,E.no,E.no,E.no,E.no,{189,E.at},{191,E.at},{773,E.at}};have EK:zV 94 244:={98,98,98,98,98,98,98,98,98,98};have EA:PySem.W.kitAny 94 (.ref 244) [.ref 213,.ref 280,.ref 268,.ref 292,.ref 194,.ref 232,.ref 256]>false:=by
  have t0:kitOne 94 (.ref 244) (.ref 213)>false:=by kernel_rfl
  have t1:kitOne 94 (.ref 244) (.ref 280)>false:=by kernel_rfl
  have t2:kitOne 94 (.ref 244) (.ref 268)>false:=by kernel_rfl
  have t3:kitOne 94 (.ref 244) (.ref 292)>false:=by kernel_rfl
  have t4:kitOne 94 (.ref 244) (.ref 194)>false:=by kernel_rfl
  have t5:kitOne 94 (.ref 244) (.ref 232)>false:=by kernel_rfl
  have t7:kitOne 94 (.ref 244) (.ref 256)>false:=by kernel_rfl
  simp[PySem.W.kitAny,t0,t1,t2,t3,t4,t5,t7]
 have Uu:=d1 E 18 RC λ_ _ F=>P9 F T;have mE:=d1 E 025 RC λ_ _ F=>Me F T Uu;have nP:=d1 E 039 RB λ_ _ F=>JX F T mE;have DZ:=d2 E 058 RA λ_ _ F=>Tx F T;have Gj:=d1 E 148 mQ λ_ _ F=>NU F T;have yY:=dA3 "image_answers" E 153 mQ λ_ _ F=>V2 F T;have Uv:=d2 E 158 mQ λ_ _ F=>Qa F T;have Kf:=d4 E 163 mQ λ_ _ F=>Iu F T Uv;have Jj:=d3 E 141 mQ λ_ _ F=>P7 F T Gj yY;have Kh:=d2 E 093 mQ λ_ _ F=>Iy F T;have O:Hj 94 131:=⟨X4,EW,EW,EW,EW⟩;have xC:=m2 E 131 122 mQ λ_ _ F=>Zh F T O nP;have yQ:=m2 E 131 127 mQ λ_ _ F=>Zb F T O Gj yY xC DZ Kf;have Oc:=m2 E 131 112 mQ λ_ _ F=>ab9 F T O yQ;have aer:=m3 E 131 117 mQ λ_ _ F=>Za F T O yQ xC Jj;let(fi,fdi,ai,ii,Fi):=FB.mn (K:=KF w.params) (C:=131) (x:="__init__") (q:="Asking.__init__") (st:=xn) (A:=107) (m:=mQ) (by unfold FB;kernel_rfl) 98;have k_A:AR l.prog w 94 mg base 131 1 "Asking" ["self","tables"] (MX l.prog w 94 131):={_,_,{98,ai,ii,98},Zg Fi T O,E.at,Sw Fi};have Qm:=d2 E 086 mQ λ_ _ F=>V4 F T O k_A Oc aer Kh Jj;have XX:=d2 E 079 mQ λ_ _ F=>TB F T Qm;have Ji:=d1 E 072 RA λ_ _ F=>GP F T DZ;have Gh:=d1 E 065 RA λ_ _ F=>NR F T DZ Ji;have D4:=d2 E 429 wa λ_ _ F=>Mg F T Gh XX;have D3:=dA2 "image_maps" E 298 sg λ_ _ F=>V1 F T;have Pe:=d3 E 312 sg λ_ _ F=>V3 F T mE;have Pd:=d3 E 369 sg λ_ _ F=>Mf F T mE;have Us:=d2 E 364 sg λ_ _ F=>P6 F T Pd;have O1:Own 94 354:=⟨X4,EW,EW⟩;have agk:=m2 E 354 333 sg λ_ _ F=>aei F T O1;have Dz:=m3 E 354 350 sg λ_ _ F=>TC F T O1 mE;let(fm,fdm,am,im,Fm):=FB.mn (K:=KF w.params) (C:=354) (x:="mapped") (q:="MapSearch.mapped") (st:=wG) (A:=340) (m:=sg) (by unfold FB;kernel_rfl) 98;let(fp,fdp,ap,ip,Fp):=FB.mn (K:=KF w.params) (C:=354) (x:="mapped_part") (q:="MapSearch.mapped_part") (st:=oB) (A:=345) (m:=sg) (by unfold FB;kernel_rfl) 98;have Br:=Te Fm Fp {am,im,Fm.kp} {ap,ip,Fp.kp} (Yc Fm) (Yc Fp) T O1 ⟨Pe,Us,Dz⟩;let(fj,fdj,aj,ij,Fj):=FB.mn (K:=KF w.params) (C:=354) (x:="__init__") (q:="MapSearch.__init__") (st:=lE) (A:=326) (m:=sg) (by unfold FB;kernel_rfl) 98;have aeF:AR l.prog w 94 mg base 354 3 "MapSearch" ["self","atoms"] (Mq l.prog w 94 354):={_,_,{98,aj,ij,98},ab7 Fj T O1 agk,E.at,Sw Fj};have Gk:=d2 E 305 sg λ_ _ F=>NY F T O1 Pe Br aeF;have Pc:=d1 E 407 B9 λ_ _ F=>V0 F T;have Ut:=d2 E 467 wa λ_ _ F=>P8 F T Gk Pc;have D0:=d2 E 32 RC λ_ _ F=>Md F T;have Jh:=d1 E 046 RB λ_ _ F=>P5 F T;have G9:=d1 E 051 RB λ_ _ F=>Ze F T mE nP;have Uw:=d1 E 388 mO7 λ_ _ F=>Qb F T G9;have xT:=d1 E 424 B9 λ_ _ F=>Zf F T nP;have Mj:=d2 E 414 B9 λ_ _ F=>JZ F T;have Kg:=d2 E 419 B9 λ_ _ F=>Iw F T mE xT Jh D0;have xS:=d2 E 400 B9 λ_ _ F=>Zd F T Mj Kg xT D3;have Ur:=d2 E 395 B9 λ_ _ F=>P4 F T xS Pc;have Z6:=d2 E 381 mO6 λ_ _ F=>VZ F T nP Jh D0 D3 Gh;have Z5:=d2 E 376 mO6 λ_ _ F=>VX F T Gk Z6;have Qj:=d2 E 472 wa λ_ _ F=>NS F T;have LO:=d3 E 460 wa λ_ _ F=>Tw F T xS Ut Qj;have Ux:=d3 E 455 wa λ_ _ F=>aca F T O1 nP Br aeF;have vG:=e2 E 448 wa λ_ _ F=>VY (cT:=244) F T D4 E.at 98 98 98;have DY:=e2 E 441 wa λ_ _ F=>Zc F T vG LO;have Gi:=e2 E 434 wa λ_ _ F=>NT F T vG LO Uw Z5 Ur Ux;have Ql:=d2 E 479 og λ_ _ F=>ab8 F T;have acU:=d2 E 486 og λ_ _ F=>aeh F T Ql;have Z8:=d2 E 493 og λ_ _ F=>ab6 F T;have XR:=d2 E 498 og λ_ _ F=>ace F;have XU:=d2 E 498 og λ_ _ F=>EV (n:=0) F T XR;have XT:=d2 E 498 og λ_ _ F=>EV (n:=1) F T XU;have XS:=d2 E 498 og λ_ _ F=>EV (n:=2) F T XT;have LP:=d2 E 498 og λ_ _ F=>EV (n:=3) F T XS;have Qk:=d3 E 505 og λ_ _ F=>Tz (A0:=174) (c0:=213) (c1:=280) (c2:=268) (c3:=292) (c4:=194) (c5:=232) (c6:=244) (c7:=256) F T Gi DY E.at 98 E.at E.at E.at E.at E.at E.at E.at E.at EK 98 98 EA;have Ki:=d3 E 510 og λ_ _ F=>Mc F T Gi DY LP;show aef F T acU Z8 LP D4 Qk Ki
def walk{l:PySem.W.OpenLaw}{K:Params->Frag}(hn:l.most>63)(Xb:d.params.defaults=[])
  (hY:∀(w:mo)(h:ss),YP w h->(K w.params).In h)
  (F:∀(w:mo)(mg:Aac)(fa:cr)(h:ss),(K w.params).In h->h.Ns ww mg->mg d.name>.ref fa->
   ∃fd:ut,(∀(s:fv)(u:jp),TD s fd {[u],[]} [("_law_script",u)])/\∀base:ss,(K w.params).In base->base.Ns ww mg->cm l.prog w (K w.params) mg base dZ 15 fa fd ["_law_script"] (Mr<|K w.params)):
  PySem.W.WalkO q loose XP YP l.row.toRowW d [] (λf vs=>PySem.call f vs):=
 L2.abn (n:=63) (k:=15) (x:="_law_script") (CX:=λ_=>dZ) (sp:=λw=>Mr<|K w.params) hn 7 Xb {9,7,7,9} hY F (λ_ H a ns hl hO hS=>{a,ns,9,adN hO hS,hl,λ_=>9}) λ_ _ _ _ _ z=>z
end kE
open PySem PySem.W PyProof.Rows
set_option maxHeartbeats 0 in
theorem PySem.Challenge.cw_askviews_k64_too_many_candidates_holds : PySem.Challenge.rw_askviews_k64_too_many_candidates.Holds := by
 w_on;show holds_law (by rw[PySem.W.Fast.te9446332074065402090];kernel_rfl) λaiL=>?_
 show holds_open (q:=kE.qf PySem.Challenge.pw_askviews_k64_too_many_candidates) (loose:=["image_answers","image_maps"]) (Xt:=kE.XF PySem.Challenge.pw_askviews_k64_too_many_candidates) (XP:=XL (kE.qf PySem.Challenge.pw_askviews_k64_too_many_candidates) []) (Yf:=Hook.obs kE.HF) (Ya:=Hook.val kE.HF) (YP:=Hook.says kE.HF) (N:=8480) kE.head (Hook.of kE.HF) (Hook.keeps kE.HF)
  (λs e=>xl_of s (tY.mp e).1) XL.keeps (by rfl) (by rfl) (by rfl) (λs e=>recFacts_of (tY.mp e).2) (by rfl) (by first|assumption|decide+kernel) 76 {9,9,9,9,9,76} ?hw ?hc
 case hw=>w_witness2
 case hc=>
 unfold kE.HF;show kE.walk (l:=PySem.Challenge.rw_askviews_k64_too_many_candidates) rfl rfl (λw h Y=>PySem.W.kIn_of Y) λw mg fa h KX G WZ=>kE.all_mk KX G WZ
