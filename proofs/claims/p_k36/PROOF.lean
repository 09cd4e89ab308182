import PyProof.Rows.All
import Wide.All
import OpenK.AllK
import PySem.Challenge.RW_askviews_k36_least_forms
set_option Elab.async false
set_option linter.all false
set_option bootstrap.genMatcherCode false
set_option maxRecDepth 100000
set_option maxHeartbeats 4000000
open PySem renaming Addr->bn,sizeLine->ca,Shared->cr,Program->dL,wpAny->fv,model->f8,Value->f',Str->io,World->i3,Heap->i5,starEach->i6,mainGlobals->i7,FuncData->i8,wpAny_callSpecial?_slot->jp,Around->mo,compareOp->on,foldedSetIterable->rc,sysModules->re,eval->sn,Stmt->ss,rawInt->sK,Expr->u8,cLine->v6,attributeBase->wf,NameKind->wn,OsState->wv,Scope->ww,codeAny->wE,carriedByValue->wP,IsPair->wS,bootBuiltins->wT,backTo->xL,binaryOp->x0,swapsWith->AC,DictEntry->Ch,assignEach->C',sliceBounds->Db,letOwnedTupleGo->Do,importedModules->Ev,call->EQ,Pos->Fa,typeLookup->Fk,holding->FM,behindInMarks->FS,tupleKind->F',ZipApart->GE,relabel->GM,merged->GT,Obj->G',atKey->IN,pyNext->IR,keywordEach->J',IsPart->KB,bindArgs->KM,ReadsAll->K',GenState->L',BindsTo->M',pyIter->No,subscripted->NE,IsZip->On,valueAt->Os,storedH->Pi,notedBy->Ps,callerA->PP,Tok->P3,Keyword->P',entryOfKey->Rs,entryFor->Sc,compEnvC->SC,builtinsNs->SL,backToKw->SZ,assign->Tl,Result->TD,IsTupleKey->TW,treeTable->T',seqIndex?->Uf,getMethod->UF,Env->UV,standAt->U',rule->V',ItemsOf->WF,hashByValue->WP,compPost->W1,Reads->W',IsRangeIter->XV,Drawn->X',WalksS->Y',IsEnum->ZB,setItem->Z'
open PyProof.Rows renaming seqObj->v0,get?_update_seq->At,AllBare->Ix,envOfC->KE,IsTup->Op,IntsAre->Re,StrsAre->Wp
open PySem.W renaming kas_asc->zn,kas_rev->FB,kas_desc->Gc,behindTheImports->Go
local macro_rules|`({$xs:term,*})=>`(⟨$xs,*⟩)
local macro_rules|`(tactic|let($x:ident,$xs:ident,*):=$e)=>`(tactic|obtain⟨$x:ident,$[$xs:ident],*⟩:=$e)
local macro_rules|`(tactic|show$e)=>match e.raw.getHeadInfo with|.synthetic ..=>Lean.Macro.throwUnsupported|_=>`(tactic|refine $e)
local macro_rules|`(tactic|ext$xs*)=>`(tactic|rintro $xs*)
local macro_rules|`(∅)=>`((by lia))
set_option hygiene false
local macro_rules|`(9)=>`(rfl)
local macro_rules|`(7)=>`((by decide))
local macro_rules|`(8)=>`((by lia))
local macro_rules|`(21)=>`((by decide+kernel))
local macro_rules|`(17)=>`(s.heap.objs.size)
local macro_rules|`(71)=>`(λcX A outer s H vs Q E hr h=>?_)
local macro_rules|`(96)=>`(xs.length)
local macro_rules|`(58)=>`((by simp))
local macro_rules|`(61)=>`(s2.heap.objs.size)
local macro_rules|`(59)=>`(f8 X.prog X.w)
local macro_rules|`(24)=>`(f8 prog w)
local macro_rules|`(57)=>`(X.prog)
local macro_rules|`(75)=>`(s1.heap.objs.size)
local macro_rules|`(88)=>`(eB X (x::more++fs) scope C s H ex)
local macro_rules|`(77)=>`((by show 0<=ca;decide))
local macro_rules|`(97)=>`(λ(p:NK×bn×V)(q:NK×bn×f')=>p.1=q.1/\p.2.1=q.2.1/\RelV p.2.2 q.2.2)
local macro_rules|`(86)=>`((by with_unfolding_all rfl))
local macro_rules|`(70)=>`(.lst [])
local macro_rules|`(98)=>`(if iA rk (p.getD n 0) (p.getD (n -1) 0)=true then KasT.ret n else zn p f (n+1))
local macro_rules|`(83)=>`((by show 2<=ca;decide))
local macro_rules|`(68)=>`(.ref a)
local macro_rules|`(69)=>`(.dK [])
local macro_rules|`(74)=>`(NK×bn×V)
local macro_rules|`(76)=>`(ps t.mask h D)
local macro_rules|`(81)=>`(((eJ items.size 0 lo:Nat):Int)==0&&(1:Int)==1&&(eJ items.size items.size hi -eJ items.size 0 lo)==items.size)
local macro_rules|`(67)=>`(es.size)
local macro_rules|`(78)=>`(.dK (fs.map gC))
local macro_rules|`(91)=>`(.ext (DN P w A (putN kvs k b (.ref p))))
local macro_rules|`(347)=>`(eJ items.size items.size hi -eJ items.size 0 lo)
local macro_rules|`(87)=>`(x==("__debug__":io))
noncomputable section
open PySem.W (Frag findIn nsIn fnOf emptyDict keepIn instObj plainGet kitOne codeIn hasDictIn isFn lookIn)
abbrev Aaa:=List (PySem.Str×List PySem.Str)
abbrev Aab:=List (List PySem.Str)
abbrev Aac:=List (PySem.Addr×PySem.Obj)
abbrev Aad:=PySem.Str->Option PySem.Value
abbrev Aae:=PySem.Value->PySem.Shared->Prop
abbrev Aaf:=Array (Option PySem.Value)
abbrev Aag:=List PySem.Value
abbrev Aah:=List PySem.Str
abbrev Aaj:=List PySem.Addr
abbrev Aak:=Option PySem.Addr
abbrev Aal:=Array PySem.Value
section
open PySem
def ae:=@wpAny_bind
def ah:=@List.length_map
def aj:=@PySem.Heap.get?_push_of_some
def ao:=@wpAny_pure
def aq:=@List.getElem?_eq_some_iff
def au:=@Nat.le_refl
def av:=@List.getElem?_eq_getElem
def aw:=@List.mem_cons_self
def ay:=@List.mem_cons_of_mem
def az:=@List.mem_map
def aA:=@List.mem_singleton
def aC:=@List.length_append
def aE:=@List.mem_of_getElem?
def aF:=@List.map_append
def aI:=@if_neg
def aJ:=@Nat.zero_le
def aL:=@if_pos
def aN:=@List.mem_cons
def aQ:=@List.size_toArray
def aR:=@PySem.Heap.get?_push_size
def aS:=@List.mem_append
def aT:=@List.take_length
def aU:=@of_decide_eq_true
def aV:=@List.length_take
def aW:=@Nat.ne_of_lt
def aX:=@PySem.Heap.lt_size
def aZ:=@List.getElem?_map
def a9:=@PySem.Paired.length
def bb:=@decide_eq_true
def bc:=@Nat.le_trans
def bh:=@List.take_add_one
def bj:=@List.mem_append_right
def bo:=@List.map_cons
def br:=@Nat.lt_of_lt_of_le
def bt:=@List.all_eq_true
def bu:=@List.mem_append_left
def bx:=@List.length_cons
def bA:=@Option.map_eq_some_iff
def bB:=@Array.length_toList
def bC:=@boot_len
def bE:=@Nat.le_of_lt
def bG:=@PySem.PassesOwn.never
def bI:=@List.mem_map_of_mem
def bL:=@Bool.false_ne_true
def bO:=@PySem.F.plainAttrs_list
def bQ:=@Bool.and_eq_true
def bW:=@sizeLine_eq
def bY:=@Option.some.inj
def b4:=@List.map_congr_left
def b5:=@wpAny_holding
def b8:=@List.map_map
def b9:=@wpAny_call_entry
def cj:=@PySem.Heap.SameBut.update
def cq:=@Nat.ne_of_gt
def cv:=@PySem.Heap.get?_update_other
def cw:=@List.mem_range
def cz:=@decide_eq_false
def cA:=@List.getD_eq_getElem?_getD
def cB:=@PySem.W.mg_none_of
def cD:=@Bool.false_eq_true
def cE:=@Array.getElem?_eq_getElem
def cK:=@List.filter_cons
def cM:=@List.mem_filter
def cQ:=@Ne.symm
def cS:=@List.length_filter_le
def cT:=@wpAny_newObj_type
def cV:=@congrFun
def cW:=@congrArg
def cY:=@List.nodup_cons
def cZ:=@List.append_nil
def c6:=@beq_eq_false_iff_ne
def c7:=@Nat.lt_irrefl
def c9:=@List.length_drop
def df:=@Array.getElem?_toList
def dj:=@List.take_of_length_le
def dk:=@wpAny_seqItems
def dq:=@List.nodup_nil
def du:=@PySem.Heap.size_push
def dw:=@wpAny_field
def dy:=@List.mem_iff_getElem?
def dC:=@List.length_singleton
def dE:=@wpAny_mono
def dF:=@List.length_eq_zero_iff
def dJ:=@Nat.lt_succ_self
def dN:=@List.append_assoc
def dP:=@Nat.lt_trans
def dQ:=@List.filter_append
def dU:=@PySem.Heap.get?_update_self
def dX:=@LawfulBEq.eq_of_beq
def dY:=@PySem.F.plainAttrs_dict
def d8:=@Nat.le_succ
def eC:=@Nat.not_lt_zero
def eE:=@PySem.F.type_list_extend
def eF:=@PySem.F.slot_list_extend
def eG:=@Nat.le_add_right
def eK:=@PyProof.Rows.callWith_type1
def eO:=@wpAny_truthy_bool
def eP:=@Nat.lt_succ_of_lt
def eR:=@List.nodup_append
def eS:=@List.length_range
def eT:=@Int.toNat_natCast
def eU:=@PyProof.Rows.slot_tuple_getitem
def eW:=@List.getElem?_append_right
def fk:=@codeAny_builtin
def fq:=@PySem.W.kia_one
def fu:=@Bool.eq_iff_iff
def fD:=@PySem.Calls.callWith_builtin
def fG:=@List.drop_eq_getElem_cons
def fI:=@List.filterMap_cons
def fN:=@PySem.F.slot_dict_keyiterator_next
def fR:=@if_false
def fT:=@PySem.F.slot_dict_get
def fU:=@List.map_nil
def fV:=@List.length_replicate
def fY:=@Nat.lt_of_le_of_lt
def fZ:=@PySem.Calls.spliced_cons
def gf:=@List.mem_flatten
def gx:=@List.find?_cons_of_pos
def gA:=@List.find?_cons_of_neg
def gH:=@List.getElem?_append_left
def gN:=@builtinLookup_eq_fast
def gW:=@PySem.F.type_list_append
def gX:=@PySem.F.slot_list_append
def gY:=@Nat.succ_le_succ
def hV:=@wpAny_setField
def hX:=@PySem.F.slot_dict_setdefault
def h9:=@Bool.and_eq_true_iff
def ic:=@Option.isSome_map
def ie:=@Bool.eq_false_iff
def ig:=@List.foldl_cons
def ij:=@wpAny_typeOf
def iu:=@wpAny_attempt
def iw:=@strLen_append
def iy:=@Bool.true_and
def iz:=@Array.getElem?_eq_some_iff
def iD:=@List.any_eq_true
def iF:=@wpAny_pyIter_tuple
def iJ:=@decide_eq_true_iff
def iO:=@List.rel_of_pairwise_cons
def iP:=@List.mem_of_find?_eq_some
def iV:=@wpAny_specialOf
def iW:=@wpAny_rule
def jc:=@List.find?_cons
def jd:=@PySem.F.slot_zip_next
def jm:=@wpAny_typeNameOfWhole_keyiter
def jn:=@PyProof.Rows.vals1
def ju:=@wpAny_isInstance
def jz:=@List.lookup_cons
def jA:=@List.getElem_mem
def jF:=@PySem.F.entry_dict_get
def jG:=@List.drop_eq_nil_of_le
def jH:=@wpAny_setField_rec
def jJ:=@tupleKind_room_in1
def jN:=@call_meetsIn
def jO:=@PySem.Code.quiet_builtin
def jP:=@wpAny_passesOwn
def jQ:=@wpAny_notOrdered_dict
def jR:=@typeLookup_type
def jW:=@Option.map_some
def jX:=@List.take_append_drop
def jY:=@List.nil_append
def jZ:=@List.length_nil
def j6:=@PySem.F.slot_NoneType_hash
def j7:=@List.sum_cons
def j8:=@List.length_eraseIdx_of_lt
def j9:=@PySem.F.slot_tuple_iterator_next
def kg:=@List.pairwise_map
def ki:=@Decidable.not_not
def kj:=@PySem.Calls.spliced_nil
def kn:=@lookup_relabel_local
def kq:=@List.pairwise_iff_getElem
def kr:=@List.mem_of_mem_take
def ky:=@PySem.Calls.evalArgs_plain
def kz:=@PySem.Calls.call_function_entry
def kF:=@Bool.false_and
def kN:=@Nat.le_of_not_lt
def kR:=@mem_of_lookup
def kS:=@List.eraseIdx_eq_take_drop_succ
def kT:=@wpAny_getItem_str_slice
def kU:=@List.lookup_eq_some_iff
def k7:=@if_true
def lA:=@Nat.mul_assoc
def lD:=@call_meets
def lE:=@List.pairwise_cons
def lF:=@List.mem_filterMap
def lG:=@Int.emod_lt_of_pos
def lN:=@Nat.mul_add
def lV:=@wpAny_pyIter_list
def lW:=@wpAny_dictEntries
def lX:=@Nat.lt_trichotomy
def lY:=@Nat.le_succ_of_le
def l9:=@PySem.F.slot_tuple_hash
def md:=@wpAny_fieldsOf
def mz:=@codeAny_mono
def mC:=@PySem.F.type_dict_setdefault
def mF:=@List.take_zero
def mG:=@List.getElem?_eq_none
def mH:=@List.any_map
def mI:=@Int.zero_add
def mJ:=@Bool.and_false
def mN:=@wpAny_forIn_list
def mZ:=@Nat.mod_lt
def m6:=@List.not_mem_nil
def m7:=@PySem.Heap.get?_none_of_le
def nh:=@plainId_quiet
def nB:=@PySem.W.mg_of
def nF:=@List.perm_ext_iff_of_nodup
def nG:=@List.any_cons
def nM:=@List.flatten_append
def nX:=@Nat.min_eq_left
def nY:=@List.filter_nil
def nZ:=@List.cons.injEq
def og:=@Int.emod_nonneg
def oh:=@wpAny_Call_Name_kw
def oo:=@sub_AttributeError
def ou:=@of_decide_eq_false
def oJ:=@PySem.F.args_tuple_add_2
def oK:=@PySem.F.args_dict_keyiterator_next_1
def oM:=@PyProof.Rows.F.entry_set_update_loop
def oN:=@PySem.Obj.data_mapFields
def oO:=@Nat.pow_succ
def oP:=@List.mem_replicate
def oQ:=@List.map_singleton
def oV:=@Array.forIn_toList
def oW:=@typeIs_str
def oX:=@strKind_is
def pB:=@isSubtype_stop
def pJ:=@PySem.F.entry_dict_keyiterator_next
def pK:=@Nat.not_lt
def pO:=@wpAny_Call_method0_late
def pT:=@PySem.F.entry_tuple_add
def pV:=@PySem.F.args_dict_get_3
def pX:=@wpAny_storeSet_of
def pY:=@wpAny_setState_of
def pZ:=@wpAny_Call_method
def qe:=@List.foldl_append
def qh:=@PySem.F.args_zip_next_1
def qq:=@PySem.F.slot_tuple_add
def qt:=@Option.map_eq_none_iff
def qu:=@List.length_pos_of_mem
def qx:=@List.flatten_singleton
def qB:=@Bool.not_true
def qG:=@merged_length_le
def qI:=@beq_self_eq_true
def qL:=@List.cons_append
def qM:=@PySem.F.entry_zip_next
def rn:=@PySem.F.type_dict_get
def rB:=@wpAny_ite_split
def rC:=@wpAny_execs_nil
def rO:=@post_val_or_str
def si:=@codeAny_call_builtin
def sj:=@beq_iff_eq
def sC:=@PySem.Txt.slice_le
def sD:=@PySem.F.args_dict_setdefault_3
def sE:=@Nat.le_of_eq
def sF:=@Nat.add_le_add_right
def sI:=@List.sum_append
def sJ:=@List.replicate_succ'
def sL:=@List.pairwise_append
def sM:=@List.find?_some
def sN:=@PySem.F.args_list_append_2
def sQ:=@PySem.F.entry_dict_setdefault
def sR:=@wpAny_dictSet_pairs
def sX:=@evalArgs_none
def sY:=@PySem.W.plainGet_of
def sZ:=@Nat.mul_le_mul_left
def tw:=@PySem.F.plain_extend_loop
def tD:=@PySem.F.entry_list_append
def tE:=@wpAny_newTuple
def tW:=@PyProof.Rows.good_str
def uh:=@List.drop_zero
def ui:=@PySem.F.args_tuple_iterator_next_1
def uF:=@Nat.add_mul
def uG:=@List.map_id
def uP:=@putSet_of
def uZ:=@PySem.W.callWith_K
def u3:=@List.getElem?_take
def u4:=@List.filterMap_map
def u5:=@PySem.F.slot_list_append
def u6:=@PySem.F.entry_tuple_iterator_next
def u7:=@Array.getD_eq_getD_getElem?
def u9:=@wpAny_newList
def vf:=@PyProof.Rows.listUpdate_at
def vp:=@Nat.add_assoc
def vq:=@List.all_cons
def vt:=@PySem.Calls.Name_function_global
def vv:=@Array.perm_iff_toList_perm
def vx:=@wpAny_pyIter_slot
def vK:=@PySem.Str.length_append
def vL:=@list_append
def vM:=@Nat.mul_left_comm
def vN:=@PySem.Heap.SameBut.refl
def vO:=@Function.comp_def
def vP:=@Array.toList_push
def wa:=@Classical.byContradiction
def wq:=@wpAny_pyIter_zip
def wt:=@wpAny_comprehension_free
def wu:=@wpAny_askSetting
def wZ:=@noFill_tuple_add
def w4:=@merged_take_succ
def xB:=@PySem.IsL.update
def xC:=@PySem.F.slot_dict_values
def xE:=@Option.isSome_iff_exists
def xF:=@Nat.succ_pos
def xG:=@Nat.succ_ne_self
def xH:=@Nat.sub_self
def xI:=@Nat.min_eq_right
def xJ:=@Nat.add_zero
def xK:=@List.mem_of_mem_eraseIdx
def xM:=@List.length_erase_of_mem
def xN:=@List.getElem?_take_of_lt
def xP:=@Array.toList_inj
def xQ:=@Array.getElem?_replicate
def xR:=@Array.all_toList
def xS:=@meetsH_dict_get_default
def xT:=@PySem.F.type_list_index
def xU:=@PySem.F.type_list_clear
def xV:=@PySem.F.slot_list_index
def xW:=@PySem.F.slot_list_clear
def xX:=@PySem.F.slot_dict_items
def xY:=@PySem.F.slot_dict_clear
def xZ:=@PySem.F.args_dict_get_2
def ya:=@PyProof.Rows.ext_toList
def yb:=@Nat.add_sub_cancel_left
def yc:=@List.pairwise_mergeSort
def yd:=@List.getElem?_replicate
def ye:=@List.Pairwise.filterMap
def yf:=@wpAny_updateSeq
def yg:=@wpAny_dictEpoch
def yM:=@List.of_mem_zip
def yN:=@PySem.Heap.DictOf.new
def yP:=@wpAny_pyNext_range_end
def yQ:=@wpAny_pyNext_list_item
def yR:=@wpAny_pyIter_rangeiter
def yS:=@wpAny_nextOf_list_item
def yT:=@wpAny_Assign_Subscript
def yW:=@PyProof.Rows.subscriptTail_builtinR
def yZ:=@PyProof.Rows.seqEpoch_at
def zu:=@codeAny_compStart_list
def zC:=@PySem.W.cellsFrom_some
def zD:=@PySem.F.slot_dict_iter
def zE:=@PySem.PyData.shownAll_length
def zF:=@PySem.Paired.snoc
def zG:=@Nat.mod_mul
def zH:=@Nat.lt_of_succ_lt_succ
def zI:=@List.range_succ_eq_map
def zJ:=@List.pairwise_lt_range
def zK:=@List.getElem?_set_self
def zL:=@Array.getElem?_eq_none
def zN:=@wpAny_tryCatch
def zO:=@wpAny_pyNext_list_end
def zP:=@wpAny_isTrue_Compare1
def zQ:=@wpAny_isOneOf_keyiter
def Ah:=@isSubtype_type
def As:=@entryFor_alias
def Ay:=@PySem.F.type_list_pop
def Az:=@PySem.F.slot_list_pop
def AA:=@PySem.F.plain_set_new
def AD:=@PySem.Obj.isFreed_of_fields
def AE:=@List.filterMap_append
def AI:=@wpAny_raiseAttrError
def AJ:=@wpAny_loadName_local
def A8:=@or_false
def BC:=@PySem.W.KIN.val_back
def BD:=@PySem.Obj.data_mapDictKeys
def BE:=@Nat.pow_le_pow_right
def BF:=@Nat.mul_le_mul_right
def BG:=@List.mem_erase_of_ne
def BH:=@List.length_eraseIdx
def BI:=@List.getElem?_set_ne
def BJ:=@PySem.F.kt_typeCall_dict_1
def BK:=@PySem.F.args_list_extend_2
def BL:=@Array.mem_toList_iff
def BM:=@wpAny_standAt
def BN:=@wpAny_onRaise
def BO:=@seq_tuple_add
def Cb:=@Sum.inr.injEq
def Cc:=@Bool.or_false
def Cd:=@wpAny_loadName_cell
def Cf:=@PyProof.Rows.entry_tuple_getitem
def Cg:=@Nat.add_le_add_left
def Ci:=@List.take_succ_cons
def Cj:=@List.mergeSort_perm
def Ck:=@List.length_pos_iff
def Cm:=@PySem.F.entry_list_extend
def Cp:=@wpAny_setItem_heap
def Cq:=@wpAny_pyIter_range
def Cy:=@seqIndex_neg
def CU:=@PyProof.Rows.plain_sorted
def DF:=@PyProof.Rows.entry_sorted
def DJ:=@concat_meets
def DV:=@PyProof.Rows.args_tuple_getitem
def DW:=@PyProof.Rows.args_sorted1
def D5:=@PySem.SeqAt.RcNeAt.lists
def D6:=@PySem.SeqAt.EqAt.str_str
def D7:=@PySem.SeqAt.EqAt.str_int
def D8:=@PySem.SeqAt.EqAt.int_str
def D9:=@PySem.W.kitx_tuple
def Ea:=@PySem.F.called_set
def Eb:=@Option.isSome_some
def Ec:=@Nat.sub_zero
def Ed:=@List.sum_nil
def Ee:=@List.getElem?_drop
def Ef:=@List.find?_eq_none
def Eg:=@List.countP_append
def Eh:=@List.all_map
def Ei:=@PySem.F.slot_list_extend
def Ej:=@PySem.F.args_dict_init_2
def Eo:=@Bool.or_true
def ES:=@Iff.rfl
def EU:=@wpAny_sequenceKey
def EV:=@wpAny_pyIter_enum
def EW:=@wpAny_assign_Name
def E1:=@eqIsQuiet_byValue
def E2:=@bne_self_eq_false
def E3:=@PySem.StrLaws.subAt_one
def E4:=@PySem.W.kitx_list
def E5:=@PySem.W.kitx_dict
def E6:=@PySem.Obj.cls_mapFields
def E7:=@List.take_sublist
def E8:=@List.map_inj_left
def E9:=@List.find?_isSome
def Fb:=@List.any_eq_false
def Fc:=@PySem.F.entry_dict_init
def Fd:=@Bool.not_eq_true'
def Fe:=@wpAny_of_eq
def Fg:=@wpAny_letGo
def Fq:=@seqIndex_of
def FA:=@PyProof.Rows.kind_sorted
def Gw:=@PyProof.Rows.good_int
def GU:=@and_true
def GW:=@Prod.ext
def GY:=@wpAny_load
def GZ:=@wpAny_call
def G0:=@wpAny_Name
def Iy:=@PySem.Walks.list
def IA:=@PyProof.Rows.Subscript_
def IF:=@PyProof.Rows.Call_
end
namespace L2
open PySem PySem.Spec PyProof.Rows
abbrev Key:=Sum Int io
def Bj:Key->f'->Bool
 | .inl k,v=>Value.isInt k v
 | .inr x,v=>Value.isStrOf x v
def agv(w:i3):Key->Int
 | .inl k=>hashInt k
 | .inr x=>hashStr w x
theorem iU:∀{k:Key}{v:f'},Bj k v=true->(∃i t,k=Sum.inl i/\v=Value.int i t)\/(∃x t,k=Sum.inr x/\v=Value.str x t)
 | .inl i,v,h=>by let(t,e):=Value.isInt_shape h;show .inl ⟨i,t,rfl,e⟩
 | .inr x,v,h=>by let(t,e):=Value.isStrOf_shape h;show .inr ⟨x,t,rfl,e⟩
def Vt(i:Int)(t:P3):Bj (.inl i) (.int i t)=true:=by simp[Bj,Value.isInt]
def Vs(x:io)(t:P3):Bj (.inr x) (.str x t)=true:=by simp[Bj,Value.isStrOf]
def ad6(a b:Int):decide ((Sum.inl a:Key)=Sum.inl b)=(a==b):=by
 by_cases e:a=b
 ·subst e;simp
 ·have h:¬(Sum.inl a:Key)=Sum.inl b:=λq=>e (Sum.inl.inj q);rw[cz h];show(c6.mpr e).symm
def ad3(a b:io):decide ((Sum.inr a:Key)=Sum.inr b)=decide (a=b):=by
 by_cases e:a=b
 ·subst e;simp
 ·have h:¬(Sum.inr a:Key)=Sum.inr b:=λq=>e (Sum.inr.inj q);rw[cz h,cz e]
def ad5(a:Int)(b:io):decide ((Sum.inl a:Key)=Sum.inr b)=false:=cz (λq=>nomatch q)
def ad4(a:io)(b:Int):decide ((Sum.inr a:Key)=Sum.inl b)=false:=cz (λq=>nomatch q)
noncomputable def bS(prog:dL)(w:i3):PySem.KeyKind prog w Key where
 is:=Bj
 hash:=agv w
 inj:=λv a b ha hb=>by
  rcases iU ha with⟨i,t,rfl,rfl⟩|⟨x,t,rfl,rfl⟩
  ·rcases iU hb with⟨j,u,rfl,e⟩|⟨y,u,rfl,e⟩
   ·injection e with e1 _;rw[e1]
   ·show nomatch e
  ·rcases iU hb with⟨j,u,rfl,e⟩|⟨y,u,rfl,e⟩
   ·show nomatch e
   ·injection e with e1 _;rw[e1]
 byValue:=λk v h=>by rcases iU h with⟨i,t,rfl,rfl⟩|⟨x,t,rfl,rfl⟩<;>rfl
 pyHash:=λhv h=>by
  rcases iU hv with⟨i,t,rfl,rfl⟩|⟨x,t,rfl,rfl⟩
  ·show wpAny_pyHash_int h
  ·show wpAny_pyHash_str h
 eqBool:=λhu hv h=>by
  rcases iU hu with⟨i,t,rfl,rfl⟩|⟨x,t,rfl,rfl⟩
  ·rcases iU hv with⟨j,u,rfl,rfl⟩|⟨y,u,rfl,rfl⟩
   ·rw[ad6]at h;show wpAny_eqBool_int h
   ·rw[ad5]at h;show D8 i t y u _ _ _ _ h
  ·rcases iU hv with⟨j,u,rfl,rfl⟩|⟨y,u,rfl,rfl⟩
   ·rw[ad4]at h;show D7 x t j u _ _ _ _ h
   ·rw[ad3]at h;show wpAny_eqBool_str h
 «strs»:=λk x t v h=>by
  rcases iU h with⟨i,u,rfl,e⟩|⟨y,u,rfl,e⟩
  ·show nomatch e
  ·injection e with e1 _;subst e1;cases v<;>rfl
def Ph(prog:dL)(w:i3)(i:Int)(t:P3):(bS prog w).is (.inl i) (.int i t)=true:=Vt i t
def Fw(prog:dL)(w:i3)(x:io)(t:P3):(bS prog w).is (.inr x) (.str x t)=true:=Vs x t
inductive V where
 |b7|bl (b:Bool)|int (i:Int)|str (x:io)|vJ (b:Array UInt8)|Oo (b:UInt64)|ref (a:bn)|ty (n:String)
 deriving DecidableEq
abbrev Aam:=List (V×V)
abbrev Aao:=List V
abbrev Aap:=Option V
def RelV:V->f'->Prop
 | .b7,u=>u=Value.none
 | .bl b,u=>u=Value.bool b
 | .int i,u=>∃t,u=Value.int i t
 | .str x,u=>∃t,u=Value.str x t
 | .vJ b,u=>∃t,u=Value.bytes b t
 | .Oo b,u=>∃t,u=Value.float b t
 | .ref a,u=>u=Value.ref a
 | .ty n,u=>u=Value.type n
abbrev Vals:Aao->Aag->Prop:=Paired RelV
def Vals.length(r:Vals xs us):96=us.length:=a9 r
theorem Vals.get:∀{xs:Aao}{us:Aag}{i:Nat}{x:V},Vals xs us->xs[i]?=some x->∃u,us[i]?=some u/\RelV x u
 |_,_,_,_,.nil,e=>by simp at e
 |_,_,0,_,.cons r _,e=>by simp at e;subst e;show⟨_,rfl,r⟩
 |_,_,i+1,x,.cons _ t,e=>by let(u,h1,h2):=Vals.get (i:=i) (x:=x) t (by simpa using e);show{u,by simpa using h1,h2}
theorem Vals.set(r:RelV x u):∀{xs:Aao}{us:Aag}(i:Nat),Vals xs us->Vals (xs.set i x) (us.set i u)
 |_,_,_,.nil=>.nil
 |_,_,0,.cons _ t=>.cons r t
 |_,_,i+1,.cons q t=>.cons q (Vals.set r i t)
theorem Vals.append:∀{xs ys:Aao}{us ws:Aag},Vals xs us->Vals ys ws->Vals (xs++ys) (us++ws)
 |_,_,_,_,.nil,s=>s
 |_,_,_,_,.cons r t,s=>.cons r (Vals.append t s)
theorem Vals.take:∀{xs:Aao}{us:Aag}(n:Nat),Vals xs us->Vals (xs.take n) (us.take n)
 |_,_,0,_=>.nil
 |_,_,_+1,.nil=>.nil
 |_,_,n+1,.cons r t=>.cons r (Vals.take n t)
theorem Vals.drop:∀{xs:Aao}{us:Aag}(n:Nat),Vals xs us->Vals (xs.drop n) (us.drop n)
 |_,_,0,r=>r
 |_,_,_+1,.nil=>.nil
 |_,_,n+1,.cons _ t=>Vals.drop n t
def mY:Aap->Option f'->Prop
 |some v,some u=>RelV v u
 |none,none=>True
 |_,_=>False
def KV:List (κ×V)->List (κ×f')->Prop:=Paired λ(p:κ×V)(q:κ×f')=>p.1=q.1/\RelV p.2 q.2
def kV:Key->V
 | .inl i=>.int i
 | .inr x=>.str x
inductive HO where
 |lst (xs:Aao)
 |tup (xs:Aao)
 |dK (kvs:List (Key×V))|dT (kvs:List (List Key×V))
 |set (S:Int->Bool) (n:Nat)
 |ins (C dx:bn) (fs:List (io×V))
 |own (x:bn)
 |xd (fs:List (io×V))
 |met (f x:bn)
 |rng (lo hi:Int)
 |fX (o:G') (u:HO)
 |L1 (ps:Aal)
 |ext (φ:i5->Prop)
abbrev Hp:=bn->Option HO
def upd(H:Hp)(a:bn)(o:HO):Hp:=λb=>if b=a then some o else H b
def ar:upd H a o a=some o:=by unfold upd;rw[aL rfl]
def aM(h:b≠a):upd H a o b=H b:=by unfold upd;rw[aI h]
def RZ{H:Hp}(h:H a=some o)(h':H b=some u)(d:o≠u):a≠b:=by ext e;subst e;rw[h]at h';show d (bY h')
def bw{H:Hp}(h:H a=some o)(h':H b=none):a≠b:=by ext e;subst e;rw[h]at h';cases h'
section
variable(P:dL)(w:i3)
noncomputable def dG(H:Hp)(h:i5)(a:bn):HO->Prop
 | .lst xs=>96<=ca/\∃(aY:Aag)(n:Nat),Vals xs aY/\h.get? a=some {cls:=.type "list",data:=.seq aY.toArray n}
 | .tup xs=>96<=ca/\∃aY:Aag,Vals xs aY/\Op h a aY.toArray/\∃o,h.get? a=some o/\o.dict=none
 | .dK kvs=>kvs.length<=ca/\(a==re)=false/\∃vs,KV kvs vs/\h.DictOf (bS P w) a vs
 | .dT kvs=>kvs.length<=ca/\(a==re)=false/\∃xs:List (List Key×bn×f'),
   Paired (λ(p:List Key×V)(q:List Key×bn×f')=>p.1=q.1/\H q.2.1=some (.tup (p.1.map kV))/\RelV p.2 q.2.2) kvs xs/\
   ∃o es ep,h.get? a=some o/\o.ExactDict/\o.data=.dict es ep/\es.toList=xs.map (Rs (F' (bS P w)))/\(xs.map (·.1)).Nodup
 | .set S n=>h.SetOf (intKind P w) a S n
 | .ins C dx fs=>H dx=some (.own a)/\fs.length<=1000/\dx≠a/\h.get? a=some (instObj C dx)/\
   ∃mA,h.Ns1 dx mA/\(∀f,mY (fs.lookup f) (mA f))/\PySem.Within mA (fs.map (·.1))
 | .own _=>∃o,h.get? a=some o
 | .xd fs=>∃mA,h.Ns1 a mA/\∀f,mY (fs.lookup f) (mA f)
 | .rng lo hi=>∃t u v,h.get? a=some {cls:=.type "range",data:=.fields #[.int lo t,.int hi u,.int 1 v]}
 | .fX o u=>h.get? a=some o/\dG H h a u
 | .L1 ps=>h.get? a=some {cls:=.none,data:=.fields ps}
 | .met f x=>h.get? a=some (PySem.W.methodObj (.ref f) (.ref x))
 | .ext φ=>φ h/\(∃o,h.get? a=some o)/\∀h1 h2:i5,φ h1->(∀o,h1.get? a=some o->h2.get? a=some o)->φ h2
def kh(H:Hp)(h:i5):Prop:=∀a o,H a=some o->dG P w H h a o
end
section
variable{P:dL}{w:i3}{H H':Hp}{h h':i5}{a:bn}{o:HO}
def dG.lt(x:dG P w H h a o):a<h.objs.size:=by
 cases o with
 |lst xs=>let(__,__,__,__,e):=x;show aX e
 |tup xs=>let(__,__,__,p,__):=x;show p.lt
 |dK kvs=>let(__,__,__,__,o,__,__,e,__):=x;show aX e
 |dT kvs=>let(__,__,__,__,o,__,__,e,__):=x;show aX e
 |set S n=>let(o,__,__,__,e,__):=x;show aX e
 |ins C dx fs=>let(__,__,__,e,__):=x;show aX e
 |own y=>let(__,e):=x;show aX e
 |xd fs=>obtain⟨_,⟨_,_,_,e,_⟩,_⟩:=x;show aX e
 |rng lo hi=>let(__,__,__,e):=x;show aX e
 |fX ob u=>let(e,__):=x;show aX e
 |L1 ps=>show aX (show h.get? a=some _ from x)
 |met f y=>show aX (show h.get? a=some _ from x)
 |ext φ=>obtain⟨_,⟨_,e⟩,_⟩:=x;show aX e
theorem Paired.R5:∀{l₁:List α}{aac:List β},Paired F l₁ aac->(∀a b,F a b->G a b)->Paired G l₁ aac
 |_,_,.nil,_=>.nil
 |_,_,.cons r t,f=>.cons (f _ _ r) (Paired.R5 t f)
def Paired.imp'(f:∀a b,F a b->G a b)(r:Paired F l₁ aac):Paired G l₁ aac:=Paired.R5 r f
def dG.rF(x:dG P w H h a o)(k:∀b u,(b=a\/H b=some (.own a))->h.get? b=some u->h'.get? b=some u)
  (ho:∀b,H b=some (.own a)->H' b=some (.own a)) (ht:∀b xs,H b=some (.tup xs)->H' b=some (.tup xs)):dG P w H' h' a o:=by
 induction o with
 |lst xs=>let(z,aY,n,r,e):=x;show{z,aY,n,r,k _ _ (.inl 9) e}
 |tup xs=>obtain⟨z,aY,r,⟨ob,e,c⟩,o2,e2,c2⟩:=x;show{z,aY,r,{ob,k _ _ (.inl 9) e,c},o2,k _ _ (.inl 9) e2,c2}
 |dK kvs=>let(z,y,vs,r,ob,es,ep,e,c):=x;show{z,y,vs,r,ob,es,ep,k _ _ (.inl 9) e,c}
 |dT kvs=>
  let(z,y,xs,r,ob,es,ep,e,c):=x;show{z,y,xs,Paired.R5 r λp q z=>{z.1,ht _ _ z.2.1,z.2.2},ob,es,ep,k _ _ (.inl 9) e,c}
 |set S n=>let(ob,es,ep,t,e,c):=x;show{ob,es,ep,t,k _ _ (.inl 9) e,c}
 |ins C dx fs=>
  obtain⟨d,z,ne,e,mA,⟨od,es,ep,e2,c⟩,r⟩:=x;show{ho _ d,z,ne,k _ _ (.inl 9) e,mA,{od,es,ep,k _ _ (.inr d) e2,c},r}
 |own y=>let(ob,e):=x;show{ob,k _ _ (.inl 9) e}
 |xd fs=>obtain⟨mA,⟨od,es,ep,e,c⟩,r⟩:=x;show{mA,{od,es,ep,k _ _ (.inl 9) e,c},r}
 |rng lo hi=>let(t,u,v,e):=x;show{t,u,v,k _ _ (.inl 9) e}
 |fX ob u ih=>let(e,q):=x;show{k _ _ (.inl 9) e,ih q}
 |L1 ps=>
  show k a _ (.inl 9) x
 |met f y=>
  show k a _ (.inl 9) x
 |ext φ=>obtain⟨p,⟨o,e⟩,st⟩:=x;show{st _ _ p λo q=>k _ _ (.inl 9) q,{o,k _ _ (.inl 9) e},st}
def kh.lt(x:kh P w H h)(e:H a=some o):a<h.objs.size:=(x a o e).lt
def kh.fresh(x:kh P w H h)(e:h.objs.size<=a):H a=none:=by
 cases q:H a with
 |none=>rfl
 |some u=>show absurd (br (x.lt q) e) (c7 _)
def kh.kept(x:kh P w H h)(k:∀b u,h.get? b=some u->h'.get? b=some u):kh P w H h':=λa o e=>
 (x a o e).rF (λb u _ q=>k b u q) (λ_ q=>q) λ_ _ q=>q
def kh.laid(x:kh P w H h)(k:∀b u,h.get? b=some u->h'.get? b=some u)(hp:h.objs.size<=a)(new:dG P w (upd H a o) h' a o):kh P w (upd H a o) h':=λb u e=>by
 have hn:=x.fresh hp;by_cases hb:b=a
 ·subst hb;rw[ar]at e;cases e;show new
 ·rw[aM hb]at e;show(x b u e).rF (λc v _ q=>k c v q) (λc q=>by rw[aM (bw q hn)];show q) λc xs q=>by rw[aM (bw q hn)];show q
end
def Rd(H:Hp)(a:bn)(u:HO):Prop:=H a=some u\/∃o,H a=some (.fX o u)
def Rd.ok(r:Rd H a u)(x:kh P w H h):dG P w H h a u:=by
 rcases r with r|⟨o,r⟩
 ·show x a u r
 ·let(__,q):=x a _ r;show q
def WK:Option HO->Prop
 |some (.lst _)=>True
 |some (.dK _)=>True
 |some (.dT _)=>True
 |some (.set _ _)=>True
 |some (.ins _ _ _)=>True
 |some (.ext _)=>True
 |_=>False
section
variable{P:dL}{w:i3}{H:Hp}{h h':i5}{x e:bn}{o':HO}
def kh.write(ok:kh P w H h)(mu:WK (H x))(he:e=x\/H e=some (.own x))(k:∀b u,b≠e->h.get? b=some u->h'.get? b=some u)(QM:∃u,h'.get? e=some u)
  (new:dG P w (upd H x o') h' x o'):kh P w (upd H x o') h':=λb u q=>by
 have adM:∀c y,H c=some (.own y)->c≠x:=λc y r z=>by subst z;rw[r]at mu;show mu
 by_cases hb:b=x
 ·subst hb;rw[ar]at q;cases q;show new
 ·rw[aM hb]at q;by_cases N9:b=e
  ·have q':H b=some (.own x):=by
    rcases he with z|z
    ·show absurd (N9.trans z) hb
    ·rw[N9];show z
   rw[q]at q';cases q';let(v,hv):=QM;show{v,N9▸hv}
  ·show(ok b u q).rF (λc v hc r=>k c v ?_ r) (λc r=>by rw[aM (adM c b r)];show r) λc xs r=>by rw[aM ((λc xs r z=>by subst z;rw[r]at mu;show mu) c xs r)];show r
   rcases hc with rfl|hc
   ·show N9
   ·ext rfl;rcases he with z|z
    ·show adM c b hc z
    ·rw[hc]at z;cases z;show hb rfl
end
structure Un(fs ex:Aaj)(H H':Hp)(h h':i5):Prop where
 keep:∀b o,h.get? b=some o->H b=none->b∉fs->b∉ex->h'.get? b=some o
 slot:∀b o,h.get? b=some o->H b=none->b∈fs->b∉ex->∃sl,h'.get? b=some {o with slots:=sl}
 free:∀b o,h.get? b=some o->H b=none->b∉ex->H' b=none
 there:∀b o,h.get? b=some o->b∉ex->∃o',h'.get? b=some o'
 iX:∀b xs,H b=some (.tup xs)->H' b=some (.tup xs)
 vh:∀b o u,H b=some (.fX o u)->H' b=some (.fX o u)
 AM:∀b ps,H b=some (.L1 ps)->∃more,H' b=some (.L1 (ps++more))
section
variable{fs ex:Aaj}{H H1:Hp}{h h1 h':i5}{a x e:bn}{o:HO}
def Un.any(u:Un fs ex H H1 h h1)(q:h.get? b=some ob)(n:H b=none)(hx:b∉ex):∃sl,h1.get? b=some {ob with slots:=sl}:=by
 by_cases hb:b∈fs
 ·show u.slot b ob q n hb hx
 ·show{ob.slots,u.keep b ob q n hb hx}
def Un.kept(k:∀b u,h.get? b=some u->h'.get? b=some u):Un fs ex H H h h':=
 {λb ob q _ _ _=>k b ob q,λb ob q _ _ _=>{ob.slots,k b ob q},λ_ _ _ n _=>n,λb ob q _=>{ob,k b ob q},λ_ _ q=>q,λ_ _ _ q=>q,λ_ ps q=>{#[],by rw[q];simp}}
def Un.refl:Un fs ex H H h h:=Un.kept λ_ _ q=>q
def Un.laid(k:∀b u,h.get? b=some u->h'.get? b=some u)(hp:h.objs.size<=a)(hn:H a=none):Un fs ex H (upd H a o) h h' where
 keep:=λb u q _ _ _=>k b u q
 slot:=λb u q _ _ _=>{u.slots,k b u q}
 free:=λb u q n _=>by rw[aM (aW (br (aX q) hp))];show n
 there:=λb u q _=>{u,k b u q}
 iX:=λb xs q=>by rw[aM (bw q hn)];show q
 vh:=λb u xs q=>by rw[aM (bw q hn)];show q
 AM:=λb ps q=>{#[],by rw[aM (bw q hn),q];simp}
def Un.write(mu:WK (H x))(he:e=x\/H e=some (.own x))(k:∀b u,b≠e->h.get? b=some u->h'.get? b=some u)(QM:∃u,h'.get? e=some u):Un fs ex H (upd H x o) h h':=by
 have hx:∀b,H b=none->b≠x:=λb n z=>by subst z;rw[n]at mu;show mu
 have hb:∀b,H b=none->b≠e:=λb n z=>by
  subst z;rcases he with r|r
  ·show hx b n r
  ·rw[n]at r;cases r
 have hm:∀b u,H b=some u->¬WK (some u)->b≠x:=λb u q nm z=>by subst z;rw[q]at mu;show nm mu
 show{λb u q n _ _=>k b u (hb b n) q,λb u q n _ _=>{u.slots,k b u (hb b n) q},λb u q n _=>by rw[aM (hx b n)];show n,λb u q _=>?_,
  λb xs q=>by rw[aM (hm b _ q λz=>z)];show q,λb u xs q=>by rw[aM (hm b _ q λz=>z)];show q,λb ps q=>{#[],by rw[aM (hm b _ q λz=>z),q];simp}}
 by_cases N9:b=e
 ·subst N9;show QM
 ·show{u,k b u N9 q}
end
def trk(h:i5)(H:Hp):Aaj:=(List.range h.objs.size).filter λa=>(H a).isSome
def Gv(h:i5)(H:Hp):i5:=PySem.W.hideAll h (trk h H)
def VT(h:i5)(H:Hp):(Gv h H).objs.size=h.objs.size:=PySem.W.hideAll_size _ _
def YC(e:h.get? b=some o)(n:H b=none):(Gv h H).get? b=some o:=
 PySem.W.hideAll_get _ e λhm=>by have q:=(cM.mp hm).2;rw[n]at q;simp at q
def abD(e:(Gv h H).get? b=some o):h.get? b=some o/\H b=none:=by
 have e':=PySem.W.of_hideAll (trk h H) e;show{e',?_};cases q:H b with
 |none=>rfl
 |some x=>
  have z:(Gv h H).get? b=none:=PySem.W.hideAll_none (trk h H) (cM.mpr {cw.mpr (aX e'),by simp[q]});rw[z]at e;cases e
def acw(g h:i5)(L:bn):Aac:=(List.range h.objs.size).filterMap λa=>if a=L\/(g.get? a).isSome=true then none else(h.get? a).map λo=>(a,o)
def rest(g h:i5)(L d:bn):Aac:=(acw g h L).filter λp=>decide (p.1≠d)
structure Mod(K:Frag)(mg:Aad)(base:i5):Prop where
 Qu:K.In base
 glob:base.Ns i7 mg
 blt:∃mb,base.Ns SL mb/\∀x:io,x≠"__name__"->mb x=wT x
 nolimit:base.NoLimit
structure Cx where
 prog:dL
 w:i3
 K:Frag
 mg:Aad
 base:i5
 A:mo
 N:Aah
 aab:cr
 aae:Hp
 env:UV
 outer:List UV
 stack:List UV
 ex:Aaj
 fn:io->Bool
 calm:Bool
 pn:Aac
 xe:Aae
def DA(l:List UV):Aaj:=l.filterMap (·.frame)
abbrev Cx.fs(X:Cx):Aaj:=DA X.outer
def Vis(sc:ww)(x:io):Prop:=sc.names.lookup x=some .local\/sc.names.lookup x=some .cell\/sc.names.lookup x=some .free
def Loc(sc:ww)(x:io):Prop:=sc.names.lookup x=some .local\/sc.names.lookup x=some .cell
def Look(env:UV)(h:i5)(m:Aad)(x:io)(u:f'):Prop:=
 (env.kindOf x=some .local/\m x=some u)\/((env.kindOf x=some .cell\/env.kindOf x=some .free)/\∃c,env.cells.lookup x=some c/\h.IsCell c (some u))
structure Cx.Ok(X:Cx):Prop where
 mod:Mod X.K X.mg X.base
 kind:X.env.scope.kind=.function
 glob:X.env.globals=i7
 blt:X.env.builtins=SL
 above:X.aab.heap.objs.size<=X.env.locals
 inj:∀x y c,X.env.cells.lookup x=some c->X.env.cells.lookup y=some c->x=y
 has:∀x,(X.env.kindOf x=some .cell\/X.env.kindOf x=some .free)->∃c,X.env.cells.lookup x=some c
 Q7:∀x c,X.fn x=true->X.env.cells.lookup x=some c->X.aab.heap.objs.size<=c
 hd:X.calm=true->X.A.handled=none
 frames:X.A.frames=some X.stack
 TU:X.stack=X.outer\/(X.stack=X.env::X.outer/\X.env.frame=some X.env.locals)
 Ov:∀b∈X.ex,b≠X.env.locals/\∀x c,X.env.cells.lookup x=some c->c≠b
 bs:∀b o,X.base.get? b=some o->X.aab.heap.get? b=some o/\X.aae b=none
 B9:X.base.objs.size<=X.aab.heap.objs.size
 Gq:∀b o,X.base.get? b=some o->b∉X.ex
 Bn:∀b∈X.ex,b∉X.fs
 tX:X.aab.heap.FunFrames X.base X.outer
 KU:∀b∈X.fs,X.aae b=none
structure Inv(X:Cx)(bi:Aac)(Z:List (Aap))(H:Hp)(s:cr):Prop where
 ok:X.Ok
 os:s.os=X.aab.os
 bare:Ix s.gens
 base:Un X.fs X.ex X.aae H X.aab.heap s.heap
 loc:∃m,s.heap.Ns X.env.locals m/\∀(i:Nat)(x:io)(v:V),X.N[i]?=some x->Z[i]?=some (some v)->Vis X.env.scope x->∃u,RelV v u/\Look X.env s.heap m x u
 cell:∀x c,X.env.cells.lookup x=some c->∃v,s.heap.IsCell c v
 free:H X.env.locals=none
 nV:∀x c,X.env.cells.lookup x=some c->H c=none
 pin:∀p∈X.pn++bi,s.heap.get? p.1=some p.2/\H p.1=none/\p.1≠X.env.locals/\p.1∉X.fs/\∀v,p.2.data≠ .cell v
 bK:kh 57 X.w H s.heap
 len:Z.length=X.N.length
section
variable{X:Cx}{bi:Aac}{Z:List (Aap)}{H H':Hp}{s:cr}{h':i5}
def Cx.Ok.agq(ok:X.Ok)(e:X.base.get? b=some o):b∉X.fs:=λhb=>by have:=(ok.tX.mem hb).1;rw[e]at this;cases this
def Inv.bs(I:Inv X bi Z H s):∀b o,X.base.get? b=some o->s.heap.get? b=some o/\H b=none:=λb o e=>
 {I.base.keep b o (I.ok.bs b o e).1 (I.ok.bs b o e).2 (I.ok.agq e) (I.ok.Gq b o e),I.base.free b o (I.ok.bs b o e).1 (I.ok.bs b o e).2 (I.ok.Gq b o e)}
def Inv.bk(I:Inv X bi Z H s):∀b o,X.base.get? b=some o->s.heap.get? b=some o:=λb o e=>(I.bs b o e).1
def Inv.mod(I:Inv X bi Z H s):Mod X.K X.mg X.base:=I.ok.mod
def Inv.nq(I:Inv X bi Z H s):X.K.In s.heap:=I.ok.mod.Qu.keeps I.bk
def Inv.lt(I:Inv X bi Z H s):X.env.locals<17:=let⟨_,hn,_⟩:=I.loc;hn.lt
def Inv.sz(I:Inv X bi Z H s):X.aab.heap.objs.size<=17:=bc I.ok.above (bE I.lt)
def Inv.Yc(I:Inv X bi Z H s)(h:17<=a):a∉X.fs:=λhb=>by let(__,o,ho,__):=I.ok.tX.mem hb;show absurd (br (aX ho) (bc I.sz h)) (c7 _)
def Inv.OM(I:Inv X bi Z H s):∀x c,X.env.cells.lookup x=some c->c≠X.env.locals:=λx c e z=>by let(v,o,ho,hd):=I.cell x c e;obtain⟨m,⟨o',es,ep,Ak,yE,_⟩,_⟩:=I.loc;rw[z,Ak]at ho;cases ho;rw[yE]at hd;cases hd
def Inv.tX(I:Inv X bi Z H s):s.heap.FunFrames X.base X.outer:=by
 have all:∀(l:List UV),(∀b∈DA l,b∈X.fs)->X.aab.heap.FunFrames X.base l->s.heap.FunFrames X.base l:=by
  ext l
  induction l with
  |nil=>ext _ _;trivial
  |cons env r ih=>
   ext hs hl;obtain⟨hk,⟨L,o,hf,hn,ho,hd⟩,hr⟩:=hl;have hL:=hs L (by unfold DA;rw[fI,hf];show aw);let(sl,e):=I.base.slot L o ho (I.ok.KU L hL) hL λz=>I.ok.Bn L z hL;show{hk,⟨L,_,hf,hn,e,hd⟩,ih (λb hb=>hs b (by unfold DA;rw[fI,hf];show ay _ hb)) hr}
 show all X.outer (λ_ hb=>hb) I.ok.tX
def Inv.stack(I:Inv X bi Z H s):s.heap.FunFrames X.base X.stack:=by
 rcases I.ok.TU with e|⟨e,hf⟩
 ·rw[e];show I.tX
 ·rw[e];let(m,hn,__):=I.loc;show .cons (by rw[I.ok.kind];decide) hf hn ?_ I.tX;show m7 (bc I.ok.B9 I.ok.above)
def Inv.G4(I:Inv X bi Z H s):∀b∈DA X.stack,b∈X.env.locals::X.fs:=λb hb=>by
 rcases I.ok.TU with e|⟨e,hf⟩
 ·rw[e]at hb;show ay _ hb
 ·rw[e]at hb;unfold DA at hb;rw[fI,hf]at hb;show hb
def Inv.IM(I:Inv X bi Z H s):∀b∈DA X.stack,H b=none:=λb hb=>by
 rcases aN.mp (I.G4 b hb)with e|hb
 ·rw[e];show I.free
 ·let(__,o,ho,__):=I.ok.tX.mem hb;show I.base.free b o ho (I.ok.KU b hb) λz=>I.ok.Bn b z hb
def Inv.step{ch:Aaj}(I:Inv X bi Z H s)
  (B5:∀b∈ch,(b∈X.ex\/X.aab.heap.objs.size<=b)/\b≠X.env.locals/\(∀x c,X.env.cells.lookup x=some c->c≠b)/\∀p∈X.pn++bi,p.1≠b)
  (keep:∀b o,b≠X.env.locals->b∉X.fs->b∉ch->s.heap.get? b=some o->H b=none->h'.get? b=some o)
  (slot:∀b o,b≠X.env.locals->b∈X.fs->b∉ch->s.heap.get? b=some o->H b=none->∃sl,h'.get? b=some {o with slots:=sl}) (free:∀b o,b∉ch->s.heap.get? b=some o->H b=none->H' b=none)
  (there:∀b o,b∉ch->s.heap.get? b=some o->∃o',h'.get? b=some o')
  (iX:∀b xs,H b=some (.tup xs)->H' b=some (.tup xs)) (vh:∀b o u,H b=some (.fX o u)->H' b=some (.fX o u)) (AM:∀b ps,H b=some (.L1 ps)->∃more,H' b=some (.L1 (ps++more)))
  (ns:∀m,s.heap.Ns X.env.locals m->h'.Ns X.env.locals m) (bK:kh 57 X.w H' h') (hg:Ix g'):
  Inv X bi Z H' {s with heap:=h',gens:=g',drawn:=d',toks:=t'}:=by
 have Qp:∀b o,X.aab.heap.get? b=some o->b≠X.env.locals:=λb o e=>aW (br (aX e) I.ok.above);have neC:∀b o,X.aab.heap.get? b=some o->b∉X.ex->b∉ch:=λb o e hx hb=>by
  rcases(B5 b hb).1 with z|z
  ·show hx z
  ·show absurd (br (aX e) z) (c7 _)
 have cellK:∀x c,X.env.cells.lookup x=some c->∀v,s.heap.IsCell c v->h'.IsCell c v:=λx c e v ⟨o,ho,hd⟩=>by
  have U4:=λz=>(B5 c z).2.2.1 x c e rfl;by_cases hc:c∈X.fs
  ·let(sl,q):=slot c o (I.OM x c e) hc U4 ho (I.nV x c e);show⟨_,q,hd⟩
  ·show{o,keep c o (I.OM x c e) hc U4 ho (I.nV x c e),hd}
 show{I.ok,I.os,hg,{λb o e n hb hx=>keep b o (Qp b o e) hb (neC b o e hx) (I.base.keep b o e n hb hx) (I.base.free b o e n hx),λb o e n hb hx=>?_,λb o e n hx=>?_,λb o e hx=>?_,λb xs e=>iX b xs (I.base.iX b xs e),λb o xs e=>vh b o xs (I.base.vh b o xs e),λb ps e=>?_},?_,λx c e=>?_,?_,λx c e=>?_,λp hp=>?_,bK,I.len}
 ·let(sl,e1):=I.base.slot b o e n hb hx;let(sl',e2):=slot b _ (Qp b o e) hb (neC b o e hx) e1 (I.base.free b o e n hx);show⟨sl',e2⟩
 ·let(o',e1):=I.base.there b o e hx;show free b o' (neC b o e hx) e1 (I.base.free b o e n hx)
 ·let(o',e1):=I.base.there b o e hx;show there b o' (neC b o e hx) e1
 ·let(m1,e1):=I.base.AM b ps e;let(m2,e2):=AM b _ e1;show{m1++m2,by rw[e2,Array.append_assoc]}
 ·let(m,hn,hl):=I.loc;show{m,ns m hn,λi x v e1 e2 e3=>?_};let(u,r,l):=hl i x v e1 e2 e3;show{u,r,?_};rcases l with l|⟨k,c,e,z⟩
  ·show .inl l
  ·show .inr {k,c,e,cellK x c e _ z}
 ·let(v,z):=I.cell x c e;show{v,cellK x c e v z}
 ·obtain⟨m,⟨o,_,_,ho,_⟩,_⟩:=I.loc;show free _ o (λz=>(B5 _ z).2.1 9) ho I.free
 ·let(v,o,ho,hd):=I.cell x c e;show free c o (λz=>(B5 c z).2.2.1 x c e 9) ho (I.nV x c e)
 ·let(e,n,ne,nf,d):=I.pin p hp;have U4:=λz=>(B5 p.1 z).2.2.2 p hp rfl;show{keep p.1 p.2 ne nf U4 e n,free p.1 p.2 U4 e n,ne,nf,d}
def Inv.un(I:Inv X bi Z H s)(u:Un X.fs [] H H' s.heap h')(bK:kh 57 X.w H' h'):Inv X bi Z H' {s with heap:=h',toks:=t'}:=by
 obtain⟨m,⟨o,es,ep,ho,r⟩,_⟩:=id I.loc;let(sl,hL):=u.any ho I.free 58;show I.step (ch:=[]) (λ_ z=>nomatch z) (λb o _ hb _ e n=>u.keep b o e n hb 58) (λb o _ hb _ e n=>u.slot b o e n hb 58) (λb o _ e n=>u.free b o e n 58) (λb o _ e=>u.there b o e 58) u.iX u.vh u.AM (λm' hm=>by let(o',uV,vI,Ak,r'):=hm;rw[ho]at Ak;cases Ak;show⟨_,uV,vI,hL,r'⟩) bK I.bare
def Inv.call(I:Inv X bi Z H s)(u:Un (DA X.stack) ch H H' s.heap h')(bK:kh 57 X.w H' h')(hg:Ix g')
  (B5:∀b∈ch,(b∈X.ex\/X.aab.heap.objs.size<=b)/\b≠X.env.locals/\(∀x c,X.env.cells.lookup x=some c->c≠b)/\∀p∈X.pn++bi,p.1≠b):
  Inv X bi Z H' {s with heap:=h',gens:=g',drawn:=d',toks:=t'}:=by
 obtain⟨m,⟨o,es,ep,ho,r⟩,_⟩:=id I.loc;let(sl,hL):=u.any ho I.free λz=>(B5 _ z).2.1 rfl;show I.step B5 (λb o hL hb hc e n=>u.keep b o e n (λz=>(aN.mp (I.G4 b z)).elim hL hb) hc) (λb o _ _ hc e n=>u.any e n hc) (λb o hc e n=>u.free b o e n hc) (λb o hc e=>u.there b o e hc) u.iX u.vh u.AM (λm' hm=>by let(o',uV,vI,Ak,r'):=hm;rw[ho]at Ak;cases Ak;show⟨_,uV,vI,hL,r'⟩) bK hg
def Inv.turned(I:Inv X bi Z H s)(k:∀b o,b≠it->s.heap.get? b=some o->h'.get? b=some o)(hn:H it=none)(hL:it≠X.env.locals)
  (h1:it∈X.ex\/X.aab.heap.objs.size<=it) (h2:∀x c,X.env.cells.lookup x=some c->c≠it) (h3:∀p∈X.pn++bi,p.1≠it):Inv X bi Z H {s with heap:=h',toks:=t'}:=by
 have nit:∀b u,H b=some u->b≠it:=λb u e z=>by rw[z,hn]at e;cases e
 show I.step (ch:=[it]) (λb hb=>?_) (λb o _ _ hc e _=>k b o (λz=>hc (by simp[z])) e) (λb o _ _ hc e _=>{o.slots,k b o (λz=>hc (by simp[z])) e}) (λ_ _ _ _ n=>n)
  (λb o hc e=>{o,k b o (λz=>hc (by simp[z])) e}) (λ_ _ e=>e) (λ_ _ _ e=>e) (λb ps e=>{#[],by rw[e];simp}) (λm hm=>?_) (λb u e=>?_) I.bare
 ·have e:b=it:=by simpa using hb
  subst e;show⟨h1,hL,h2,h3⟩
 ·let(o,es,ep,ho,r):=hm;show{o,es,ep,k _ o (cQ hL) ho,r}
 ·show(I.bK b u e).rF (λc v hc q=>k c v ?_ q) (λ_ q=>q) λ_ _ q=>q;rcases hc with z|z
  ·rw[z];show nit b u e
  ·show nit c _ z
def Inv.tok(I:Inv X bi Z H s)(t:Nat):Inv X bi Z H {s with toks:=t}:=I.un Un.refl I.bK
def Inv.kept(I:Inv X bi Z H s)(k:∀b u,s.heap.get? b=some u->h'.get? b=some u):Inv X bi Z H {s with heap:=h',toks:=t'}:=I.un (Un.kept k) (I.bK.kept k)
def Inv.laid(I:Inv X bi Z H s)(k:∀b u,s.heap.get? b=some u->h'.get? b=some u)(hp:17<=a)(new:dG 57 X.w (upd H a o) h' a o):
  Inv X bi Z (upd H a o) {s with heap:=h',toks:=t'}:=I.un (Un.laid k hp (I.bK.fresh hp)) (I.bK.laid k hp new)
def Inv.write(I:Inv X bi Z H s)(mu:WK (H x))(he:e=x\/H e=some (.own x))(k:∀b u,b≠e->s.heap.get? b=some u->h'.get? b=some u)(QM:∃u,h'.get? e=some u)
  (new:dG 57 X.w (upd H x o) h' x o):Inv X bi Z (upd H x o) {s with heap:=h',toks:=t'}:=I.un (Un.write mu he k QM) (I.bK.write mu he k QM new)
def Inv.qT(I:Inv X bi Z H s)(h:∀p∈afu,s.heap.get? p.1=some p.2/\H p.1=none/\p.1≠X.env.locals/\p.1∉X.fs/\∀v,p.2.data≠ .cell v):Inv X afu Z H s:=
 {I.ok,I.os,I.bare,I.base,I.loc,I.cell,I.free,I.nV,λp hp=>(aS.mp hp).elim (λz=>I.pin p (bu _ z)) (h p),I.bK,I.len}
def Na{N:Aah}(hN:N.Nodup){i j:Nat}(a:N[i]?=some x)(b:N[j]?=some x):i=j:=by let(h1,e1):=aq.mp a;let(h2,e2):=aq.mp b;show(List.getElem_inj hN).mp (e1.trans e2.symm)
def J3(I:Inv X bi Z H s)(hN:X.N.Nodup)(hi:X.N[i]?=some x)(hx:Loc X.env.scope x)(r:RelV v u)
  (h:∀s',Inv X bi (Z.set i (some v)) H s'->(∃a,Heap.SameBut a s.heap s'.heap/\(a=X.env.locals\/X.env.cells.lookup x=some a))->Q () s') (hf:X.fn x=true\/X.env.scope.names.lookup x=some .local:=by first|exact .inl rfl|exact .inr rfl|assumption):fv M A (storeName X.env x u) Q E s:=by
 let(m,hn,hl):=id I.loc;have hiZ:i<Z.length:=by rw[I.len];show(aq.mp hi).1
 have OM:=I.OM;have tracked:∀{a:bn}{h':i5},(∃o,s.heap.get? a=some o/\H a=none)->Heap.SameBut a s.heap h'->kh 57 X.w H h':=λ{a h'} ha hs b ob e=>by
  let(__,__,aau):=ha;show(I.bK b ob e).rF (λc w' hc q=>(hs.2 c ?_).trans q) (λ_ q=>q) λ_ _ q=>q;ext rfl;rcases hc with rfl|hc
  ·rw[aau]at e;cases e
  ·rw[aau]at hc;cases hc
 rcases hx with hk|hk
 ·show wpAny_storeName_local hk hn (λh' hn' hs=>?_) (by rw[I.ok.kind];rfl);let(oL,__,__,HL,__):=id hn;show h _ {I.ok,I.os,I.bare,{λb o e n hb hx=>(hs.2 b (aW (br (aX e) I.ok.above))).trans (I.base.keep b o e n hb hx),λb o e n hb hx=>?_,I.base.free,λb o e hx=>?_,I.base.iX,I.base.vh,I.base.AM},{_,hn',λj y v' e1 e2 e3=>?_},λy c e=>?_,I.free,I.nV,λp hp=>?_,tracked {oL,HL,I.free} hs,by simpa using I.len} {_,hs,.inl rfl}
  ·let(sl,e1):=I.base.slot b o e n hb hx;show{sl,(hs.2 b (aW (br (aX e) I.ok.above))).trans e1}
  ·let(o',e1):=I.base.there b o e hx;show{o',(hs.2 b (aW (br (aX e) I.ok.above))).trans e1}
  ·by_cases hj:j=i
   ·subst hj;rw[hi]at e1;cases e1;rw[zK hiZ]at e2;cases e2;show{u,r,.inl {hk,58}}
   ·rw[BI (cQ hj)]at e2;let(u',r',q):=hl j y v' e1 e2 e3;show{u',r',?_};rcases q with⟨k,e⟩|⟨k,c,e,z⟩
    ·show .inl {k,?_};have:y≠x:=λe=>hj (Na hN e1 (e▸hi));simp[this,e]
    ·show .inr {k,c,e,z.sameBut hs (OM y c e)}
  ·let(w',z):=I.cell y c e;show{w',z.sameBut hs (OM y c e)}
  ·let(e,n,ne,nf,d):=I.pin p hp;show{(hs.2 p.1 ne).trans e,n,ne,nf,d}
 ·have hfn:X.fn x=true:=by
   rcases hf with z|z
   ·show z
   ·rw[z]at hk;cases hk
  let(c,hc):=I.ok.has x (.inl hk);let(w',z):=I.cell x c hc;show wpAny_storeName_cell I.ok.kind hk hc z (λh' KO hs=>?_);let(oc,hoc,ahn):=id z;show h {s with heap:=h'} {I.ok,I.os,I.bare,{λb o e n hb hx=>(hs.2 b (aW (br (aX e) (I.ok.Q7 x c hfn hc)))).trans (I.base.keep b o e n hb hx),λb o e n hb hx=>?_,I.base.free,λb o e hx=>?_,I.base.iX,I.base.vh,I.base.AM},{m,hn.sameBut hs (cQ (OM x c hc)),λj y v' e1 e2 e3=>?_},λy c' e=>?_,I.free,I.nV,λp hp=>?_,tracked {oc,hoc,I.nV x c hc} hs,by simpa using I.len} {c,hs,.inr hc}
  ·let(sl,e1):=I.base.slot b o e n hb hx;show{sl,(hs.2 b (aW (br (aX e) (I.ok.Q7 x c hfn hc)))).trans e1}
  ·let(o',e1):=I.base.there b o e hx;show{o',(hs.2 b (aW (br (aX e) (I.ok.Q7 x c hfn hc)))).trans e1}
  ·by_cases hj:j=i
   ·subst hj;rw[hi]at e1;cases e1;rw[zK hiZ]at e2;cases e2;show{u,r,.inr {.inl hk,c,hc,KO}}
   ·rw[BI (cQ hj)]at e2;let(u',r',q):=hl j y v' e1 e2 e3;show{u',r',?_};rcases q with q|⟨k,c',e,z'⟩
    ·show .inl q
    ·show .inr {k,c',e,z'.sameBut hs ?_};ext rfl;show hj (Na hN e1 (I.ok.inj _ _ _ e hc▸hi))
  ·by_cases hcc:c'=c
   ·subst hcc;show⟨_,KO⟩
   ·let(w2,z2):=I.cell y c' e;show{w2,z2.sameBut hs hcc}
  ·let(e,n,ne,nf,d):=I.pin p hp;show{(hs.2 p.1 ?_).trans e,n,ne,nf,d};ext q;rw[q,hoc]at e;show d w' (by rw[<-(bY e)];show ahn)
def F5(I:Inv X bi Z H s)(hN:X.N.Nodup)(hi:X.N[i]?=some x)(hx:Loc X.env.scope x)(r:RelV v u)
  (h:∀s',Inv X bi (Z.set i (some v)) H s'->Q () s') (hf:X.fn x=true\/X.env.scope.names.lookup x=some .local:=by first|exact .inl rfl|exact .inr rfl|assumption):fv M A (storeName X.env x u) Q E s:=
 J3 I hN hi hx r (λs' I' _=>h s' I') hf
def Inv.aaz(I:Inv X bi Z H s)(ho:s'.os=s.os)(u:Un (DA X.stack) ch H H' s.heap s'.heap)(bK:kh 57 X.w H' s'.heap)(hg:Ix s'.gens)
  (B5:∀b∈ch,(b∈X.ex\/X.aab.heap.objs.size<=b)/\b≠X.env.locals/\(∀x c,X.env.cells.lookup x=some c->c≠b)/\∀p∈X.pn++bi,p.1≠b):Inv X bi Z H' s':=by
 let(h',g',d',t',o'):=s';have e:=ho;subst e;show I.call u bK hg B5
abbrev XK:=f'->Aak->Hp->Prop
abbrev St:=List (Aap)
abbrev VK:=V->Hp->Prop
abbrev TE:=St->Hp->VK->Prop
abbrev TT:=St->Hp->(Bool->Hp->Prop)->Prop
abbrev TA:=St->Hp->(Aao->Hp->Prop)->Prop
structure Ends where
 nx:St->Hp->Prop
 rt:VK
 bk:St->Hp->Prop:=λ_ _=>False
 ct:St->Hp->Prop:=λ_ _=>False
abbrev TS:=Ends->St->Hp->Prop
end
inductive EP(X:Cx)(bi:Aac)(Z:St)(Q:VK)(u:f')(s':cr):Prop
 |mk v H' (_:Inv X bi Z H' s') (_:RelV v u) (_:Q v H')
inductive TP(X:Cx)(bi:Aac)(Z:St)(Q:Bool->Hp->Prop)(b:Bool)(s':cr):Prop
 |mk H' (_:Inv X bi Z H' s') (_:Q b H')
inductive AP(X:Cx)(bi:Aac)(Z:St)(Q:Aao->Hp->Prop)(us:Aag)(s':cr):Prop
 |mk vs H' (_:Inv X bi Z H' s') (_:Vals vs us) (_:Q vs H')
def SP(X:Cx)(bi:Aac)(D:Ends)(f:Flow)(s':cr):Prop:=
 match f with
 | .next=>∃σ' H',Inv X bi σ' H' s'/\D.nx σ' H'
 | .brk=>∃σ' H',Inv X bi σ' H' s'/\D.bk σ' H'
 | .cont=>∃σ' H',Inv X bi σ' H' s'/\D.ct σ' H'
 | .ret u=>∃v σ' H',Inv X bi σ' H' s'/\RelV v u/\D.rt v H'
def PE(X:Cx)(e:u8)(t:TE):Prop:=
 ∀(bi:Aac)(s:cr)(Z:St)(H:Hp)(Q:VK),Inv X bi Z H s->t Z H Q->fv 59 X.A (sn e X.env) (EP X bi Z Q) X.xe s
def PT(X:Cx)(e:u8)(t:TT):Prop:=
 ∀(bi:Aac)(s:cr)(Z:St)(H:Hp)(Q:Bool->Hp->Prop),Inv X bi Z H s->t Z H Q->fv 59 X.A (isTrue e X.env (sn e X.env)) (TP X bi Z Q) X.xe s
def PW(X:Cx)(e:u8)(t:TT):Prop:=
 ∀(whole:Sem f')(bi:Aac)(s:cr)(Z:St)(H:Hp)(Q:Bool->Hp->Prop),Inv X bi Z H s->t Z H Q->fv 59 X.A (isTrue e X.env whole) (TP X bi Z Q) X.xe s
def PW.pt(h:PW X e t):PT X e t:=h _
def PA(X:Cx)(es:List u8)(t:TA):Prop:=
 ∀(pos:Fa)(bi:Aac)(s:cr)(Z:St)(H:Hp)(Q:Aao->Hp->Prop),Inv X bi Z H s->t Z H Q->fv 59 X.A (spliced (xL pos (i6 es X.env))) (AP X bi Z Q) X.xe s
def PS(X:Cx)(st:ss)(t:TS):Prop:=
 ∀(bi:Aac)(s:cr)(Z:St)(H:Hp)(D:Ends),Inv X bi Z H s->t D Z H->fv 59 X.A (exec st X.env) (SP X bi D) X.xe s
def qr(X:Cx)(st:List ss)(t:TS):Prop:=
 ∀(bi:Aac)(s:cr)(Z:St)(H:Hp)(D:Ends),Inv X bi Z H s->t D Z H->fv 59 X.A (execs st X.env) (SP X bi D) X.xe s
def hU(h:fv M A t Q E s)(hQ:∀a s,Q a s->Q' a s):fv M A t Q' E s:=dE h hQ λ_ _ x=>x
def da{X:Cx}{bi:Aac}{Z:St}{Q:VK}{t:Sem f'}{Q':Aae}{s:cr}(h:fv 59 X.A t (EP X bi Z Q) X.xe s)(k:∀u s x H,Inv X bi Z H s->RelV x u->Q x H->Q' u s):fv 59 X.A t Q' X.xe s:=hU h λu s ⟨x,H,I,r,q⟩=>k u s x H I r q
def tH{X:Cx}{bi:Aac}{Z:St}{Q:Aao->Hp->Prop}{t:Sem (Aag)}{Q':Aag->cr->Prop}{s:cr}(h:fv 59 X.A t (AP X bi Z Q) X.xe s)(k:∀u s x H,Inv X bi Z H s->Vals x u->Q x H->Q' u s):fv 59 X.A t Q' X.xe s:=hU h λu s ⟨x,H,I,r,q⟩=>k u s x H I r q
def IK{X:Cx}{bi:Aac}{Z:St}{Q:Bool->Hp->Prop}{t:Sem Bool}{Q':Bool->cr->Prop}{s:cr}(h:fv 59 X.A t (TP X bi Z Q) X.xe s)(k:∀u s H,Inv X bi Z H s->Q u H->Q' u s):fv 59 X.A t Q' X.xe s:=hU h λu s ⟨H,I,q⟩=>k u s H I q
section
variable{X:Cx}
inductive acM(i:Nat)(Z:St)(H:Hp)(Q:VK):Prop
 |mk v (_:Z[i]?=some (some v)) (_:Q v H)
def tC(v:V):TE:=λ_ H Q=>Q v H
def adu(hN:X.N[i]?=some x)(hv:Vis X.env.scope x)(hd:87=false:=by decide)(Dw:(x==("__classdict__":io))=false:=by decide):PE X (.Name x pos) (acM i):=by
 ext bi s Z H Q I h;let(v,e,h):=h;let(m,hn,hl):=I.loc;let(u,r,l):=hl i x v hN e hv;have fin:EP X bi Z Q u s:=⟨v,H,I,r,h⟩;rcases l with⟨hk,hm⟩|⟨hk,c,hc,LJ⟩
 ·show G0 (AJ I.ok.kind hk hn hm fin) hd
 ·rcases hk with hk|hk
  ·show G0 (Cd I.ok.kind hk hc LJ fin) hd
  ·show G0 (wpAny_loadName_free I.ok.kind hk hc LJ fin Dw) hd
def aK{i j pos}:PE X (.Constant (.int i) j pos) (tC (.int i)):=λ_ _ _ H _ I h=>wpAny_Constant_int {.int i,H,I.tok _,⟨_,rfl⟩,h}
def fJ{b j pos}:PE X (.Constant (.bool b) j pos) (tC (.bl b)):=λ_ _ _ H _ I h=>Constant_bool {.bl b,H,I,9,h}
def gQ{j pos}:PE X (.Constant .none j pos) (tC .b7):=λ_ _ _ H _ I h=>Constant_none {.b7,H,I,9,h}
def gG{x j pos}:PE X (.Constant (.str x) j pos) (tC (.str x)):=λ_ _ _ H _ I h=>Calls.Constant_str {.str x,H,I.tok _,⟨_,rfl⟩,h}
def Gl(X:Cx)(x:io):Prop:=X.env.kindOf x=some .globalImplicit
def Jn(I:Inv X bi Z H s)(hg:Gl X x)(hm:X.mg x=some u)(h:Q u s)
  (hd:87=false:=by decide):fv 59 X.A (sn (.Name x pos) X.env) Q E s:=
 vt I.ok.kind hg (Calls.loadGlobal_global (I.ok.glob▸I.mod.glob.keeps I.bk) hm h) hd
def rV(I:Inv X bi Z H s)(hg:Gl X x)(hm:X.mg x=none)(hv:wT x=some u)(h:Q u s)
  (hn:x≠"__name__":=by decide) (hd:87=false:=by decide):fv 59 X.A (sn (.Name x pos) X.env) Q E s:=by
 let(mb,h1,h2):=I.mod.blt;show vt I.ok.kind hg (Calls.loadGlobal_builtin (I.ok.glob▸I.mod.glob.keeps I.bk) hm (I.ok.blt▸h1.keeps I.bk) ((h2 x hn).trans hv) h) hd
def Qi(hg:Gl X x)(hm:X.mg x=some u)(r:RelV v u)(hd:87=false:=by decide):PE X (.Name x pos) (tC v):=
 λ_ _ _ H _ I h=>Jn I hg hm ⟨v,H,I,r,h⟩ hd
def abt(hg:Gl X x)(hm:X.mg x=none)(hv:wT x=some u)(r:RelV v u)(hn:x≠"__name__":=by decide)(hd:87=false:=by decide):PE X (.Name x pos) (tC v):=
 λ_ _ _ H _ I h=>rV I hg hm hv ⟨v,H,I,r,h⟩ hn hd
variable{a b:u8}{pos:Fa}
def PC(X:Cx)(op:CmpOp)(a b:u8)(t:TE):Prop:=
 ∀(bi:Aac)(s:cr)(Z:St)(H:Hp)(Q:VK),Inv X bi Z H s->t Z H Q->
  fv 59 X.A (sn a X.env) (λv aaa=>fv 59 X.A (sn b X.env) (λu aad=>fv 59 X.A (on op v u) (EP X bi Z Q) X.xe aad) X.xe aaa) X.xe s
inductive PQ(Q:Bool->Hp->Prop)(x:V)(H1:Hp):Prop
 |mk c (_:x=.bl c) (_:Q c H1)
def tB(t:TE):TT:=λZ H Q=>t Z H λx H1=>PQ Q x H1
def Uu(h:PC X op a b t)(h1:FS op b=false:=by first|exact agr _ (by decide) (by decide)|rfl):PT X (.Compare a [op] [b] pos) (tB t):=by ext bi s Z H Q I hw;show zP (hU (h bi s Z H _ I hw) λv s1 h1=>hU h1 λu s2 h2=>hU h2 λc s3 cb=>?_) h1;let(x,H1,I1,r1,q1):=cb;let(d,rfl,q):=q1;cases r1;show eO ⟨H1,I1,q⟩
def eZ(h:PE X e t)(he:∀whole,isTrue e X.env whole=(do let v<-whole;U' e.pos;FM [v] (truthy v)):=by intro _;rfl):PT X e (tB t):=by ext bi s Z H Q I hw;show isTrue_plain (da (h bi s Z H _ I hw) λv s1 x H1 I1 r1 q1=>?_) (he _);let(d,rfl,q):=q1;cases r1;show eO ⟨H1,I1,q⟩
variable{ta tb:TE}{tA PQ:TT}{rest:List u8}
def age(t u:TT):TT:=λZ H Q=>t Z H λc H1=>if c=true then u Z H1 Q else Q false H1
def tOr(t u:TT):TT:=λZ H Q=>t Z H λc H1=>if c=true then Q true H1 else u Z H1 Q
def af5(t:TT):TT:=λZ H Q=>t Z H λc H1=>Q (!c) H1
def Ez(ha:PT X a tA):PW X (.BoolOp .And [a] pos) tA:=by
 ext wh bi s Z H Q I h;show isTrue_and (hU (ha bi s Z H Q I h) λc s1 e=>?_);cases c with
 |true=>show isTrue_and_nil e
 |false=>show e
def ot(ha:PT X a tA):PW X (.BoolOp .Or [a] pos) tA:=by
 ext wh bi s Z H Q I h;show isTrue_or (hU (ha bi s Z H Q I h) λc s1 e=>?_);cases c with
 |false=>show isTrue_or_nil e
 |true=>show e
def Hk(ha:PT X a tA)(hb:PW X (.BoolOp .And (b::rest) pos) PQ):PW X (.BoolOp .And (a::b::rest) pos) (age tA PQ):=by
 ext wh bi s Z H Q I h;show isTrue_and (IK (ha bi s Z H _ I h) λc s1 H1 I1 q1=>?_);cases c with
 |true=>show hb wh bi s1 Z H1 Q I1 q1
 |false=>show⟨H1,I1,q1⟩
def km(ha:PT X a tA)(hb:PW X (.BoolOp .Or (b::rest) pos) PQ):PW X (.BoolOp .Or (a::b::rest) pos) (tOr tA PQ):=by
 ext wh bi s Z H Q I h;show isTrue_or (IK (ha bi s Z H _ I h) λc s1 H1 I1 q1=>?_);cases c with
 |true=>show⟨H1,I1,q1⟩
 |false=>show hb wh bi s1 Z H1 Q I1 q1
def gP(ha:PT X a tA):PT X (.UnaryOp .Not a pos) (af5 tA):=by ext bi s Z H Q I h;show isTrue_not (IK (ha bi s Z H (λc H1=>Q (!c) H1) I h) λ_ _ a b c=>⟨a,b,c⟩)
inductive ac0(tb:TE)(Z:St)(Q:VK)(x:V)(H1:Hp):Prop
 |mk c (_:x=.bl c) (_:if c=true then tb Z H1 Q else Q (.bl false) H1)
def afl(ta tb:TE):TE:=λZ H Q=>ta Z H λx H1=>ac0 tb Z Q x H1
inductive acT(Q:VK)(x:V)(H1:Hp):Prop
 |mk c (_:x=.bl c) (_:Q (.bl (!c)) H1)
def afd(ta:TE):TE:=λZ H Q=>ta Z H λx H1=>acT Q x H1
def wV{op}(h:PE X a t):PE X (.BoolOp op [a] pos) t:=λbi s Z H Q I hw=>BoolOp_one (h bi s Z H Q I hw)
def uQ(ha:PE X a ta)(hb:PE X (.BoolOp .And (b::rest) pos) tb):PE X (.BoolOp .And (a::b::rest) pos) (afl ta tb):=by
 ext bi s Z H Q I h;show BoolOp_and (da (ha bi s Z H _ I h) λv s1 x H1 I1 r1 q1=>?_);let(c,rfl,q1):=q1;cases r1;show eO ?_;cases c with
 |true=>show hb bi s1 Z H1 Q I1 q1
 |false=>show{.bl false,H1,I1,9,q1}
def adw(ha:PE X a ta):PE X (.UnaryOp .Not a pos) (afd ta):=by ext bi s Z H Q I h;show UnaryOp_ (da (ha bi s Z H _ I h) λv s1 x H1 I1 r1 q1=>?_);let(c,rfl,q1):=q1;cases r1;show not_of (eO {.bl (!c),H1,I1,9,q1})
def tIf(t:TT)(ta tb:TE):TE:=λZ H Q=>t Z H λc H1=>if c=true then ta Z H1 Q else tb Z H1 Q
def Gm(hc:PT X c tA)(ha:PE X a ta)(hb:PE X b tb):PE X (.IfExp c a b pos) (tIf tA ta tb):=by
 ext bi s Z H Q I h;show wpAny_IfExp (IK (hc bi s Z H _ I h) λd s1 H1 I1 q1=>?_);cases d with
 |true=>show ha bi s1 Z H1 Q I1 q1
 |false=>show hb bi s1 Z H1 Q I1 q1
end
def bg(K:Frag)(H:Hp)(a:bn)(xs:Aao):Prop:=
 Rd H a (.lst xs)\/
  ∃(o:G')(aY:Aal)(n:Nat),K.lookup a=some o/\o.cls=.type "list"/\o.dict=none/\o.data=.seq aY n/\aY.size<=ca/\Vals xs aY.toList
def ba(K:Frag)(H:Hp)(a:bn)(xs:Aao):Prop:=
 Rd H a (.tup xs)\/
  ∃(o:G')(aY:Aal)(n:Nat),K.lookup a=some o/\o.cls=.type "tuple"/\o.data=.seq aY n/\aY.size<=ca/\Vals xs aY.toList
def ahQ:f'->Aap
 | .none=>some .b7
 | .bool b=>some (.bl b)
 | .int i _=>some (.int i)
 | .str x _=>some (.str x)
 | .bytes b _=>some (.vJ b)
 | .float b _=>some (.Oo b)
 | .ref a=>some 68
 | .type n=>some (.ty n)
 |_=>none
def RelV.abs(r:RelV x u):ahQ u=some x:=by
 cases x with
 |b7=>cases r;rfl
 |bl _=>cases r;rfl
 |int _=>let(t,rfl):=r;rfl
 |str _=>let(t,rfl):=r;rfl
 |vJ _=>let(t,rfl):=r;rfl
 |Oo _=>let(t,rfl):=r;rfl
 |ref _=>cases r;rfl
 |ty _=>cases r;rfl
def RelV.inj(r:RelV x u)(q:RelV y u):x=y:=bY (r.abs.symm.trans q.abs)
theorem Vals.inj:∀{xs ys:Aao}{us:Aag},Vals xs us->Vals ys us->xs=ys
 |_,_,_,.nil,.nil=>rfl
 |_,_,_,.cons r t,.cons r' t'=>by rw[r.inj r',Vals.inj t t']
section
variable{X:Cx}{bi:Aac}{Z:St}{H:Hp}{s:cr}{a:bn}{xs ys:Aao}
def bg.of{K:Frag}(h:H a=some (.lst xs)):bg K H a xs:=.inl (.inl h)
def ba.of{K:Frag}(h:H a=some (.tup xs)):ba K H a xs:=.inl (.inl h)
def Inv.list(I:Inv X bi Z H s)(h:bg X.K H a xs):∃aY:Aag,Vals xs aY/\PlainL s.heap a aY.toArray/\96<=ca:=by
 rcases h with h|⟨o,aY,n,hk,hc,hd,hs,hz,r⟩
 ·let(z,aY,n,r,e):=h.ok I.bK;show{aY,r,⟨_,n,e,rfl,rfl,rfl⟩,z}
 ·show{aY.toList,r,{o,n,I.nq a o hk,hc,hd,by simpa using hs},?_};have e:=r.length;simp only[bB]at e;lia
def Inv.tuple(I:Inv X bi Z H s)(h:ba X.K H a xs):∃aY:Aag,Vals xs aY/\Op s.heap a aY.toArray/\96<=ca:=by
 rcases h with h|⟨o,aY,n,hk,hc,hs,hz,r⟩
 ·let(z,aY,r,p,__):=h.ok I.bK;show⟨aY,r,p,z⟩
 ·show{aY.toList,r,{o,I.nq a o hk,hc,n,by simpa using hs},?_};have e:=r.length;simp only[bB]at e;lia
def Inv.Yg(I:Inv X bi Z H s)(h:bg X.K H a xs)(h':bg X.K H a ys):xs=ys:=by
 obtain⟨aY,r,⟨o,n,e,_,_,d⟩,_⟩:=I.list h;obtain⟨its',r',⟨o',n',e',_,_,d'⟩,_⟩:=I.list h';rw[e]at e';cases e';rw[d]at d';injection d' with d1 _;have:aY=its':=by simpa using cW Array.toList d1
 subst this;show r.inj r'
def Inv.uJ(I:Inv X bi Z H s)(h:ba X.K H a xs)(h':ba X.K H a ys):xs=ys:=by
 obtain⟨aY,r,⟨o,e,_,n,d⟩,_⟩:=I.tuple h;obtain⟨its',r',⟨o',e',_,n',d'⟩,_⟩:=I.tuple h';rw[e]at e';cases e';rw[d]at d';injection d' with d1 _;have:aY=its':=by simpa using cW Array.toList d1
 subst this;show r.inj r'
end
abbrev Cx.yU(X:Cx)(E:Aae):Cx:={X with xe:=E}
abbrev Cx.nox(X:Cx):Cx:=X.yU λ_ _=>False
def Cx.Ok.yU{X:Cx}(ok:X.Ok)(E:Aae):(X.yU E).Ok:=
 {ok.mod,ok.kind,ok.glob,ok.blt,ok.above,ok.inj,ok.has,ok.Q7,ok.hd,ok.frames,ok.TU,ok.Ov,ok.bs,ok.B9,ok.Gq,ok.Bn,ok.tX,ok.KU}
def Cx.Ok.uI{X:Cx}(ok:(X.yU E).Ok):X.Ok:=
 {ok.mod,ok.kind,ok.glob,ok.blt,ok.above,ok.inj,ok.has,ok.Q7,ok.hd,ok.frames,ok.TU,ok.Ov,ok.bs,ok.B9,ok.Gq,ok.Bn,ok.tX,ok.KU}
section
variable{X:Cx}{bi:Aac}{Z:St}{H:Hp}{s:cr}{E:Aae}
def Inv.yU(I:Inv X bi Z H s)(E:Aae):Inv (X.yU E) bi Z H s:={I.ok.yU E,I.os,I.bare,I.base,I.loc,I.cell,I.free,I.nV,I.pin,I.bK,I.len}
def Inv.uI(I:Inv (X.yU E) bi Z H s):Inv X bi Z H s:={I.ok.uI,I.os,I.bare,I.base,I.loc,I.cell,I.free,I.nV,I.pin,I.bK,I.len}
def SP.uI(h:SP (X.yU E) bi D f s'):SP X bi D f s':=by
 cases f with
 |next=>obtain⟨σ',H',I,q⟩:=h;show{σ',H',I.uI,q}
 |brk=>obtain⟨σ',H',I,q⟩:=h;show{σ',H',I.uI,q}
 |cont=>obtain⟨σ',H',I,q⟩:=h;show{σ',H',I.uI,q}
 |ret u=>obtain⟨v,σ',H',I,r,q⟩:=h;show{v,σ',H',I.uI,r,q}
def qr.nox{st:List ss}(h:qr X.nox st t):qr X st t:=λbi s Z H D I hw=>
 dE (h bi s Z H D (I.yU _) hw) (λ_ _ q=>q.uI) λ_ _ z=>False.elim z
end
section
variable{X:Cx}{st:ss}{rest:List ss}{t u:TS}{e:u8}{te:TE}{pos:Fa}
def afe:TS:=λD Z H=>D.nx Z H
def acR(t u:TS):TS:=λD Z H=>t {D with nx:=u D} Z H
def cm:qr X [] afe:=λ_ _ Z H _ I h=>rC ⟨Z,H,I,h⟩
def aB(h1:PS X st t)(h2:qr X rest u):qr X (st::rest) (acR t u):=by
 ext bi s Z H D I h;show wpAny_execs_cons (hU (h1 bi s Z H {D with nx:=u D} I h) λf s1 q=>?_);cases f with
 |next=>
  obtain⟨σ',H',I',q⟩:=q;show h2 bi s1 σ' H' D I' q
 |ret v=>show q
 |brk=>show q
 |cont=>show q
def aO(h1:PS X st t):qr X [st] t:=by
 ext bi s Z H D I h;show wpAny_execs_cons (hU (h1 bi s Z H D I h) λf s1 q=>?_);cases f with
 |next=>show rC q
 |ret v=>show q
 |brk=>show q
 |cont=>show q
def Inv.quiet(I:Inv X bi Z H s):interactive X.env=false:=by simp[interactive,I.ok.kind]
def afg(te:TE):TS:=λD Z H=>te Z H λ_ H1=>D.nx Z H1
def gn(he:PE X e te)(hs:AC e none pos.line X.env=pure false:=by rfl):PS X (.Expr e pos) (afg te):=by ext bi s Z H D I h;show wpAny_Expr_any (da (he bi s Z H _ I h) λv s1 x H1 I1 r1 q1=>⟨Z,H1,I1,q1⟩) I.quiet hs
def af4(te:TE):TS:=λD Z H=>te Z H D.rt
def bJ(he:PE X e te):PS X (.Return (some e) pos) (af4 te):=by ext bi s Z H D I h;show wpAny_Return_some (da (he bi s Z H _ I h) λv s1 x H1 I1 r1 q1=>⟨x,Z,H1,I1,r1,q1⟩)
def af7(c:TT)(t u:TS):TS:=λD Z H=>c Z H λb H1=>if b=true then t D Z H1 else u D Z H1
def dg(hc:PT X c tc)(ha:qr X a t)(hb:qr X b u):PS X (.If c a b pos) (af7 tc t u):=by
 ext bi s Z H D I h;show wpAny_If (IK (hc bi s Z H _ I h) λd s1 H1 I1 q1=>?_);cases d with
 |true=>show ha bi s1 Z H1 D I1 q1
 |false=>show hb bi s1 Z H1 D I1 q1
abbrev TG:=V->St->Hp->(St->Hp->Prop)->Prop
abbrev TGs:=Aao->St->Hp->(St->Hp->Prop)->Prop
end
def PG(X:Cx)(target:u8)(t:TG):Prop:=
 ∀(bi:Aac)(s:cr)(Z:St)(H:Hp)(v:V)(u:f')(Q:St->Hp->Prop),Inv X bi Z H s->RelV v u->t v Z H Q->
  fv 59 X.A (Tl target X.env u) (λ_ s'=>∃σ' H',Inv X bi σ' H' s'/\Q σ' H') X.xe s
def ID(X:Cx)(ts:List u8)(t:TGs):Prop:=
 ∀(bi:Aac)(s:cr)(Z:St)(H:Hp)(vs:Aao)(us:Aag)(Q:St->Hp->Prop),Inv X bi Z H s->Vals vs us->t vs Z H Q->
  fv 59 X.A (assignInOrder ((C' ts X.env).map (·.2)) us) (λ_ s'=>∃σ' H',Inv X bi σ' H' s'/\Q σ' H') X.xe s
abbrev BB:=V->V->V->Hp->(Hp->Prop)->Prop
def ae0(X:Cx)(t:BB):Prop:=
 ∀(bi:Aac)(s:cr)(Z:St)(H:Hp)(o i v:V)(ov iv u:f')(Q:Hp->Prop),Inv X bi Z H s->RelV o ov->RelV i iv->RelV v u->t o i v H Q->
  fv 59 X.A (Z' ov iv u) (λ_ s'=>∃H',Inv X bi Z H' s'/\Q H') X.xe s
abbrev TIp:=V->V->Hp->VK->Prop
def PIp(X:Cx)(op:Operator)(t:TIp):Prop:=
 ∀(bi:Aac)(s:cr)(Z:St)(H:Hp)(x y:V)(v u:f')(Q:VK),Inv X bi Z H s->RelV x v->RelV y u->t x y H Q->
  fv 59 X.A (inplaceOp op v u) (EP X bi Z Q) X.xe s
section
variable{X:Cx}{pos:Fa}
def yF(i:Nat):TG:=λv Z H Q=>Q (Z.set i (some v)) H
def o6(hN:X.N.Nodup)(hi:X.N[i]?=some x)(hx:Loc X.env.scope x)(hf:X.fn x=true\/X.env.scope.names.lookup x=some .local:=by first|exact .inl rfl|exact .inr rfl|assumption):PG X (.Name x pos) (yF i):=by ext bi s Z H v u Q I r h;show EW (F5 I hN hi hx r (λs' I'=>⟨_,H,I',h⟩) hf)
def aeA:TGs:=λvs Z H Q=>vs=[]/\Q Z H
inductive SD(t:TG)(u:TGs)(vs:Aao)(Z:St)(H:Hp)(Q:St->Hp->Prop):Prop
 |mk v r (_:vs=v::r) (_:t v Z H λσ' H'=>u r σ' H' Q)
def gM:ID X [] aeA:=by ext bi s Z H vs us Q I r h;let(e,h):=h;subst e;cases r;show assignInOrder_nil ⟨Z,H,I,h⟩
def cn(h1:PG X e t)(h2:ID X es u)
  (hs:(C' (e::es) X.env).map (·.2)=Tl e X.env::(C' es X.env).map (·.2):=by rfl):ID X (e::es) (SD t u):=by
 ext bi s Z H vs us Q I r h;let(v,vr,e1,h):=h;subst e1;cases r with
 |cons r rr=>
  rw[hs];show assignInOrder_cons (hU (h1 bi s Z H _ _ _ I r h) λ_ s1 ⟨σ1,H1,I1,q1⟩=>h2 bi s1 σ1 H1 _ _ Q I1 rr q1)
inductive YN(K:Frag)(n:Nat)(t:TGs)(v:V)(Z:St)(H:Hp)(Q:St->Hp->Prop):Prop
 |mk a xs (_:v=.ref a) (_:ba K H a xs) (_:xs.length=n) (_:t xs Z H Q)
def kG(hc:X.calm=true)(h:ID X es t)
  (hn:(C' es X.env).length=n:=by rfl) (yA:(C' es X.env).findIdx? (·.1)=none:=by rfl):PG X (.Tuple es k pos) (YN X.K n t):=by
 ext bi s Z H v u Q I r hw;let(a,xs,e1,hq,hl,hw):=hw;subst e1;cases r;let(aY,rv,ht,hz):=I.tuple hq;show assign_Tuple_tuple (I.ok.hd hc) ht (by simp[hn,<-hl,rv.length]) yA λh' hx=>?_;show h bi _ Z H xs _ Q (I.kept (t':=s.toks) λb o e=>hx b o (aW (aX e)) e) (by simpa using rv) hw
def ahE(to ti:TE)(t:BB):TG:=λv Z H Q=>to Z H λo H1=>ti Z H1 λi H2=>t o i v H2 λH3=>Q Z H3
def UC(ho:PE X o to)(hi:PE X i ti)(hs:ae0 X t)
  (ha:∀v,Tl (.Subscript o i pos) X.env v=(do
   let ov<-FM [v] (sn o X.env)
   let iv<-FM [v,ov] (sn i X.env)
   U' pos
   FM [v,ov,iv] (Z' ov iv v)
   release [v,ov,iv] []):=by intro _;rfl):PG X (.Subscript o i pos) (ahE to ti t):=by
 ext bi s Z H v u Q I r h;show ae (b5 (da (ho bi s Z H _ I h) λov s1 x H1 I1 r1 q1=>?_));show ae (b5 (da (hi bi s1 Z H1 _ I1 q1) λiv s2 y H2 I2 r2 q2=>?_));show ae (BM (ae (b5 (hU (hs bi s2 Z H2 x y v ov iv u _ I2 r1 r2 r q2) λ_ s3 ⟨H3,I3,q3⟩=>wpAny_release ⟨Z,H3,I3,q3⟩))))
def W9(te:TE)(g:TG):TS:=λD Z H=>te Z H λx H1=>g x Z H1 D.nx
def CS(he:PE X e te)(hg:PG X tg g)(hs:swapsWithSole [tg] e pos.line X.env=pure false:=by rfl)(hw:swappedStores [tg] e X.env=pure none:=by rfl)
  (h1:(C' [tg] X.env).map (·.2)=[Tl tg X.env]:=by rfl):PS X (.Assign [tg] e pos) (W9 te g):=by
 ext bi s Z H D I h;show wpAny_Assign_stores (da (he bi s Z H _ I h) λv s1 x H1 I1 r1 q1=>?_) hs hw;rw[h1];show hU (hg bi s1 Z H1 x v _ I1 r1 q1) λ_ s2 q=>q
def ka(hN:X.N.Nodup)(hi:X.N[i]?=some x)(hx:Loc X.env.scope x)(he:PE X e te)(hs:AC e (some (.Name x pos')) pos.line X.env=pure false:=by rfl)(hf:X.fn x=true\/X.env.scope.names.lookup x=some .local:=by first|exact .inl rfl|exact .inr rfl|assumption):
  PS X (.Assign [.Name x pos'] e pos) (W9 te (yF i)):=by
 ext bi s Z H D I h;show wpAny_Assign_Name (da (he bi s Z H _ I h) λv s1 y H1 I1 r1 q1=>F5 I1 hN hi hx r1 (λs2 I2=>⟨_,H1,I2,q1⟩) hf) hs
inductive agd(i:Nat)(te:TE)(ti:TIp)(D:Ends)(Z:St)(H:Hp):Prop
 |mk x (_:Z[i]?=some (some x)) (_:te Z H λy H1=>ti x y H1 λz H2=>D.nx (Z.set i (some z)) H2)
def adq{i:Nat}{x:io}{e:u8}{te:TE}{op:Operator}{ti:TIp}{pos':Fa}(hN:X.N.Nodup)(hi:X.N[i]?=some x)(hx:Loc X.env.scope x)(he:PE X e te)(ho:PIp X op ti)(hf:X.fn x=true\/X.env.scope.names.lookup x=some .local:=by first|exact .inl rfl|exact .inr rfl|assumption):
  PS X (.AugAssign (.Name x pos') op e pos) (agd i te ti):=by
 ext bi s Z H D I h;let(v,e1,h):=h;let(m,hn,hl):=I.loc;have vis:Vis X.env.scope x:=by rcases hx with k|k;show .inl k;show .inr (.inl k)
 let(u,r,l):=hl i x v hi e1 vis;show wpAny_AugAssign_Name ?_;have go:fv 59 X.A (sn e X.env) (λw aad=>fv 59 X.A (inplaceOp op u w) (λr aaf=>fv 59 X.A (storeName X.env x r) (λ_=>SP X bi D .next) X.xe aaf) X.xe aad) X.xe s:=by show da (he bi s Z H _ I h) λw s1 y H1 I1 r1 q1=>?_;show hU (ho bi s1 Z H1 v y u w _ I1 r r1 q1) λz s2 cy=>?_;let(zv,H2,I2,r2,q2):=cy;show F5 I2 hN hi hx r2 (λs3 I3=>⟨_,H2,I3,q2⟩) hf
 rcases l with⟨hk,hm⟩|⟨hk,c,hc,LJ⟩
 ·show AJ I.ok.kind hk hn hm go
 ·rcases hk with hk|hk
  ·show Cd I.ok.kind hk hc LJ go
  ·rcases hx with k|k
   ·have:X.env.scope.names.lookup x=some .free:=hk;rw[k]at this;cases this
   ·have:X.env.scope.names.lookup x=some .free:=hk;rw[k]at this;cases this
inductive ipI(f:Int->Int->Int)(x:V)(y:V)(H:Hp)(Q:VK):Prop
 |mk i j (_:x=.int i) (_:y=.int j) (_:Q (.int (f i j)) H)
def ad9:PIp X .Add (ipI λi j=>i+j):=by ext bi s Z H x y v u Q I r1 r2 h;let(i,j,e1,e2,q):=h;subst e1;subst e2;let(t,rfl):=r1;let(t',rfl):=r2;show iadd_int {.int _,H,I.tok _,⟨_,rfl⟩,q}
def acL(c:TT)(tb:TS):TS:=λD Z H=>∃W:Nat->St->Hp->Prop,(∃m,W m Z H)/\∀m Z H,W m Z H->
 c Z H λb H1=>if b=true then∃N:St->Hp->Prop,(∀σ' H',N σ' H'->∃m',m'<m/\W m' σ' H')/\tb {D with nx:=N,ct:=N,bk:=D.nx} Z H1 else D.nx Z H1
def MC(hp:PassesOwn 59 X.A X.env X.xe)(hc:PT X c tc)(hb:qr X body tb):PS X (.While c body [] pos) (acL tc tb):=by
 ext bi s Z H D I h;obtain⟨W,⟨m0,w0⟩,turn⟩:=h;show wpAny_While (codeAny_whileLoop (λn s'=>∃σ' H',Inv X bi σ' H' s'/\W n σ' H') ?_ m0 ⟨Z,H,I,w0⟩);ext n s1 ⟨σ1,H1,I1,w1⟩;show jP hp (IK (hc bi s1 σ1 H1 _ I1 (turn n σ1 H1 w1)) λb s2 H2 I2 q2=>?_);cases b with
 |true=>
  let(N,hN,q2):=q2;show jP hp (hU (hb bi s2 σ1 H2 _ I2 q2) λf s3 q3=>?_);cases f with
  |next=>
   obtain⟨σ3,H3,I3,n3⟩:=q3;let(m',hm,w3):=hN σ3 H3 n3;show⟨m',hm,σ3,H3,I3,w3⟩
  |cont=>
   obtain⟨σ3,H3,I3,n3⟩:=q3;let(m',hm,w3):=hN σ3 H3 n3;show⟨m',hm,σ3,H3,I3,w3⟩
  |brk=>show q3
  |ret v=>show q3
 |false=>
  show rC ⟨σ1,H2,I2,q2⟩
structure It where
 go:Nat->Hp->Prop
 Cn:Nat->Hp->V->Hp->Prop
 stop:Nat->Hp->Prop
end
def oU(X:Cx)(bi:Aac)(H:Hp)(b:bn):Prop:=
 H b=none/\b≠X.env.locals/\b∉X.fs/\(b∈X.ex\/X.aab.heap.objs.size<=b)/\(∀x c,X.env.cells.lookup x=some c->c≠b)/\∀p∈X.pn++bi,p.1≠b
def Inv.vi(I:Inv X bi Z H s)(hb:17<=b)(hn:H' b=none):oU X bi H' b:=by
 show{hn,cq (br I.lt hb),I.Yc hb,.inr (bc I.sz hb),λx c e z=>?_,λp hp z=>?_}
 ·let(v,q):=I.cell x c e;show absurd (br q.lt (z▸hb)) (c7 _)
 ·show absurd (br (aX (I.pin p hp).1) (z▸hb)) (c7 _)
structure Turn(P:dL)(w:i3)(K:Frag)(tg:u8)(J:It)(fp:Aaj)(it:bn)(tn:Nat->i5->Prop):Prop where
 mem:it∈fp
 obj:∀i h,tn i h->∀b∈fp,∃o,h.get? b=some o/\∀v,o.data≠ .cell v
 keep:∀i h h',tn i h->(∀b∈fp,∀o,h.get? b=some o->h'.get? b=some o)->tn i h'
 item:∀(X:Cx),57=P->X.w=w->X.K=K->X.calm=true->∀(i:Nat)(bi:Aac)(s:cr)(Z:St)(H:Hp)(E:Aae),Inv X bi Z H s->(∀b∈fp,oU X bi H b)->tn i s.heap->J.go i H->
  fv (f8 P w) X.A (IR (.ref it)) (λr s1=>∃u,r=some u/\
   fv (f8 P w) X.A (Do tg (.ref it) u) (λ_ s2=>∃x H',Inv X bi Z H' s2/\RelV x u/\J.Cn i H x H'/\tn (i+1) s2.heap/\∀b∈fp,H' b=none) E s1) E s
 done:∀(X:Cx),57=P->X.w=w->X.K=K->X.calm=true->∀(i:Nat)(bi:Aac)(s:cr)(Z:St)(H:Hp)(E:Aae),Inv X bi Z H s->(∀b∈fp,oU X bi H b)->tn i s.heap->J.stop i H->
  fv (f8 P w) X.A (IR (.ref it)) (λr s1=>r=none/\Inv X bi Z H s1) E s
 self:∀(A:mo)(i:Nat)(s:cr)(Q:Aae)(E:Aae),tn i s.heap->Q (.ref it) s->fv (f8 P w) A (No (.ref it)) Q E s
abbrev TI:=St->Hp->(It->Hp->Prop)->Prop
def PIE(X:Cx)(bi:Aac)(Z:St)(tg:u8)(R:It->Hp->Prop)(itv:f')(s2:cr):Prop:=
 ∃(it:bn)(fp:Aaj)(tn:Nat->i5->Prop)(J:It)(H':Hp),itv=.ref it/\Inv X bi Z H' s2/\Turn 57 X.w X.K tg J fp it tn/\tn 0 s2.heap/\(∀b∈fp,oU X bi H' b)/\R J H'
def PI(X:Cx)(tg v4:u8)(wi:TI):Prop:=
 ∀(bi:Aac)(s:cr)(Z:St)(H:Hp)(R:It->Hp->Prop),Inv X bi Z H s->wi Z H R->
  fv 59 X.A (sn v4 X.env) (λv s1=>fv 59 X.A (No v) (PIE X bi Z tg R) X.xe s1) X.xe s
def EJ(ho:s.heap.get? it=some o)(hc:o.cls=.type n)(hd:o.data=.fields vs)
  (hn:["enumerate","zip","dict_itemiterator","dict_reverseitemiterator","odict_iterator","itertools.zip_longest","itertools.pairwise"].contains n=false) (hQ:Q () s):fv M A (Do tg (.ref it) u) Q E s:=by
 cases tg<;>first
  |show ao hQ
  |(cases u<;>first
    |show ao hQ
    |(show ae (GY ho ?_);rw[hc,hd];change fv M A (if(["enumerate","zip","dict_itemiterator","dict_reverseitemiterator","odict_iterator","itertools.zip_longest","itertools.pairwise"].contains n&&vs[0]?==some (sK _))=true then _ else _) Q E s;rw[aI (by ext h;rw[hn,kF]at h;cases h)];show ao hQ))
def Rf(K:Frag)(a:bn):It:=
 {λi H=>∃xs x,bg K H a xs/\xs[i]?=some x,λi H x H'=>H'=H/\∀xs,bg K H a xs->xs[i]?=some x,λi H=>∃xs,bg K H a xs/\96<=i}
def WN(K:Frag)(a:bn):It:=
 {λi H=>∃xs x,ba K H a xs/\xs[i]?=some x,λi H x H'=>H'=H/\∀xs,ba K H a xs->xs[i]?=some x,λi H=>∃xs,ba K H a xs/\96<=i}
def Itr(lo:Int)(n:Nat):It:={λi _=>i<n,λi H x H'=>H'=H/\x=.int (lo+i),λi _=>n<=i}
def Tx{K:Frag}(a it:bn):Turn P w K tg (Rf K a) [it] it (λi h=>h.IsListIter it a i) where
 mem:=by simp
 obj:=λi h st b hb=>by
  have e:b=it:=by simpa using hb
  subst e;let(o,e,c,d):=st;show{o,e,λv z=>by rw[d]at z;cases z}
 keep:=λi h h' st k=>st.at λo e=>k it 58 o e
 item:=by ext X hP hw hK hc i bi s Z H E I hf st hg;subst hP hw hK;let(xs,x,hq,hx):=hg;let(aY,rv,p,hz):=I.list hq;let(u,hu,ru):=rv.get hx;let(f0,f1,f2,f3,f4,f5):=hf it 58;show yQ st p.isList (by simpa using hu) λh' lO sb=>?_;let(o,e,c,d):=id lO;show{u,9,EJ e c d 7 {x,H,(I.turned (t':=s.toks) (λb o hb e=>(sb.2 b hb).trans e) f0 f1 f3 f4 f5),ru,{9,λys hy=>by rw[I.Yg hy hq];show hx},lO,λb hb=>(hf b hb).1}}
 done:=by ext X hP hw hK hc i bi s Z H E I hf st hg;subst hP hw hK;let(xs,hq,hx):=hg;let(aY,rv,p,hz):=I.list hq;let(f0,f1,f2,f3,f4,f5):=hf it 58;have hl:=rv.length;show zO (I.ok.hd hc) st p.isList (by simp;lia) λh' eb=>{9,I.turned (λb o hb e=>eb b o hb e) f0 f1 f3 f4 f5}
 self:=λ_ _ _ _ _ st h=>wpAny_pyIter_listiter st h
def Rq{K:Frag}(a it:bn):Turn P w K tg (WN K a) [it] it (λi h=>h.IsTupleIter it a i) where
 mem:=by simp
 obj:=λi h st b hb=>by
  have e:b=it:=by simpa using hb
  subst e;let(o,e,c,d):=st;show{o,e,λv z=>by rw[d]at z;cases z}
 keep:=λi h h' st k=>st.at λo e=>k it 58 o e
 item:=by ext X hP hw hK hc i bi s Z H E I hf st hg;subst hP hw hK;let(xs,x,hq,hx):=hg;let(aY,rv,p,hz):=I.tuple hq;let(u,hu,ru):=rv.get hx;let(f0,f1,f2,f3,f4,f5):=hf it 58;show wpAny_pyNext_tuple_item st (show s.heap.IsTuple a aY.toArray from p) (by simpa using hu) λh' lO sb=>?_;let(o,e,c,d):=id lO;show{u,9,EJ e c d 7 {x,H,(I.turned (t':=s.toks) (λb o hb e=>(sb.2 b hb).trans e) f0 f1 f3 f4 f5),ru,{9,λys hy=>by rw[I.uJ hy hq];show hx},lO,λb hb=>(hf b hb).1}}
 done:=by ext X hP hw hK hc i bi s Z H E I hf st hg;subst hP hw hK;let(xs,hq,hx):=hg;let(aY,rv,p,hz):=I.tuple hq;let(f0,f1,f2,f3,f4,f5):=hf it 58;have hl:=rv.length;show wpAny_pyNext_tuple_end (I.ok.hd hc) st (show s.heap.IsTuple a aY.toArray from p) (by simp;lia) λh' eb=>{9,I.turned (λb o hb e=>eb b o hb e) f0 f1 f3 f4 f5}
 self:=λ_ _ _ _ _ st h=>wpAny_pyIter_tupleiter st h
def Rr{K:Frag}(it:bn)(lo:Int)(n:Nat):Turn P w K tg (Itr lo n) [it] it (λi h=>XV h it (lo+(i:Nat)*1) ((n:Int) -(i:Nat)) 1) where
 mem:=by simp
 obj:=λi h st b hb=>by
  have e:b=it:=by simpa using hb
  subst e;show{_,st,λv z=>by have z':=z;cases z'}
 keep:=λi h h' st k=>k it 58 _ st
 item:=by ext X hP hw hK hc i bi s Z H E I hf st hg;subst hP hw hK;let(f0,f1,f2,f3,f4,f5):=hf it 58;show(Walks.range (prog:=57) (w:=X.w) (I.ok.hd hc) it lo 1 n).item i s _ _ hg st λv h' tk hv lO kk=>?_;let(t,rfl):=hv;show{_,9,EJ lO rfl rfl 7 {.int (lo+i),H,(I.turned (λb o hb e=>kk b o (by simpa using hb) e) f0 f1 f3 f4 f5),{t,?_},⟨rfl,rfl⟩,lO,λb hb=>(hf b hb).1}};rw[Int.mul_one]
 done:=by ext X hP hw hK hc i bi s Z H E I hf st hg;let(f0,f1,f2,f3,f4,f5):=hf it 58;show yP (I.ok.hd hc) st (by have:n<=i:=hg;lia) λh' eb=>{9,I.turned (λb o hb e=>eb b o hb e) f0 f1 f3 f4 f5}
 self:=λ_ _ _ _ _ st h=>yR st h
section
variable{X:Cx}{tg:u8}
inductive aef(K:Frag)(R:It->Hp->Prop)(x:V)(H1:Hp):Prop
 |mk a (_:x=.ref a) (_:(∃xs,bg K H1 a xs)) (_:R (Rf K a) H1)
def aas(K:Frag)(tl:TE):TI:=λZ H R=>tl Z H λx H1=>aef K R x H1
inductive afE(K:Frag)(R:It->Hp->Prop)(x:V)(H1:Hp):Prop
 |mk a (_:x=.ref a) (_:(∃xs,ba K H1 a xs)) (_:R (WN K a) H1)
def aec(K:Frag)(tl:TE):TI:=λZ H R=>tl Z H λx H1=>afE K R x H1
def dO(hl:PE X l tl):PI X tg l (aas X.K tl):=by
 ext bi s Z H R I h;show da (hl bi s Z H _ I h) λv s1 x H1 I1 r1 q1=>?_;obtain⟨a,e,⟨xs,hq⟩,q⟩:=q1;subst e;cases r1;let(aY,rv,p,hz):=I1.list hq;show lV p.isList ?_;show{75,[75],_,_,H1,9,I1.kept λb o e=>aj _ e,Tx a _,{_,aR _ rfl,9,9},λb hb=>?_,q};have e:b=75:=by simpa using hb
 subst e;show I1.vi (au _) (I1.bK.fresh (au _))
def il(hl:PE X l tl):PI X tg l (aec X.K tl):=by
 ext bi s Z H R I h;show da (hl bi s Z H _ I h) λv s1 x H1 I1 r1 q1=>?_;obtain⟨a,e,⟨xs,hq⟩,q⟩:=q1;subst e;cases r1;let(aY,rv,p,hz):=I1.tuple hq;show iF (show s1.heap.IsTuple a aY.toArray from p) ?_;show{75,[75],_,_,H1,9,I1.kept λb o e=>aj _ e,Rq a _,{_,aR _ rfl,9,9},λb hb=>?_,q};have e:b=75:=by simpa using hb
 subst e;show I1.vi (au _) (I1.bK.fresh (au _))
def Xx{lo hi:Int}(I:Inv X bi Z H s)(h1:-(2^62)<=lo)(h2:lo<2^62)(h3:-(2^62)<=hi)(h4:hi<2^62)
  (q:R (Itr lo (hi -lo).toNat) H):fv 59 X.A (No (.ref 17)) (PIE X bi Z tg R) E {s with heap:=s.heap.push {cls:=.type "range",data:=.fields #[.int lo t,.int hi u,.int 1 v]},toks:=tk}:=by
 show Cq (IsRange.new ..) (small_one h1 h2 h3 h4) ?_;have I1:Inv X bi Z H {s with heap:=s.heap.push {cls:=.type "range",data:=.fields #[.int lo t,.int hi u,.int 1 v]},toks:=tk}:=I.kept λb o e=>aj _ e;show{(s.heap.push {cls:=.type "range",data:=.fields #[.int lo t,.int hi u,.int 1 v]}).objs.size,[(s.heap.push {cls:=.type "range",data:=.fields #[.int lo t,.int hi u,.int 1 v]}).objs.size],_,_,H,rfl,
  I1.kept λb o e=>aj _ e,Rr _ lo (hi -lo).toNat,?_,λb hb=>?_,q}
 ·have e1:lo+((0:Nat):Int)*1=lo:=by simp
  have e2:(((hi -lo).toNat:Nat):Int) -((0:Nat):Int)=Builtin.Range.rangeSize lo hi 1:=by rw[rangeSize_one];split<;>lia
  rw[e1,e2];show aR _ rfl
 ·have e:b=(s.heap.push {cls:=.type "range",data:=.fields #[.int lo t,.int hi u,.int 1 v]}).objs.size:=by simpa using hb
  subst e;show I1.vi (au _) (I1.bK.fresh (au _))
inductive aee(R:It->Hp->Prop)(vs:Aao)(H1:Hp):Prop
 |mk (j:Int) (_:vs=[.int j]) (_:-(2^62)<=j) (_:j<2^62) (_:R (Itr 0 j.toNat) H1)
def afH(ta:TA):TI:=λZ H R=>ta Z H λvs H1=>aee R vs H1
def jL(hg:Gl X "range")(hm:X.mg "range"=none)(ha:PA X [a] ta)(hs:i6 [a] X.env=[(false,sn a X.env)]:=by rfl):PI X tg (.Call (.Name "range" p) [a] [] pos) (afH ta):=by
 ext bi s Z H R I h;show IF (rV I hg hm boot_range (eK (tH (ha pos bi s Z H _ I h) λus s1 vs H1 I1 r1 q1=>?_) hs 9));let(j,e,q1,q2,q):=q1;subst e;cases r1 with
 |cons r rr=>
  cases rr;let(t,rfl):=r;show call_range_1 (Xx I1 ∅ ∅ q1 q2 (by simpa using q))
def af8(wi:TI)(g:TG)(tb:TS):TS:=λD Z H=>wi Z H λJ H1=>∃W:Nat->Nat->St->Hp->Prop,(∃m,W 0 m Z H1)/\∀i m Z H,W i m Z H->
 (J.stop i H/\D.nx Z H)\/(J.go i H/\∃N:St->Hp->Prop,(∀σ' H',N σ' H'->∃m',m'<m/\W (i+1) m' σ' H')/\∀x H',J.Cn i H x H'->g x Z H' λσ2 H2=>tb {D with nx:=N,ct:=N,bk:=D.nx} σ2 H2)
def zX(fp:Aaj)(h:i5):Aac:=fp.filterMap λb=>(h.get? b).map λo=>(b,o)
def pb(hb:b∈fp)(e:h.get? b=some o):(b,o)∈zX fp h:=lF.mpr {b,hb,by rw[e];rfl}
def UT(hp:p∈zX fp h):p.1∈fp/\h.get? p.1=some p.2:=by
 let(b,hb,e):=lF.mp hp;cases q:h.get? b with
 |none=>rw[q]at e;cases e
 |some o=>
  rw[q]at e;have e':=bY e;subst e';show⟨hb,q⟩
def Inv.pinned(I:Inv X bi Z H s)(hf:∀b∈fp,oU X bi H b)(ho:∀b∈fp,∃o,s.heap.get? b=some o/\∀v,o.data≠ .cell v):Inv X (bi++zX fp s.heap) Z H s:=
 I.qT λp hp=>(aS.mp hp).elim (λz=>I.pin p (bj _ z)) λz=>by let(hb,e):=UT z;let(f0,f1,f2,__):=hf p.1 hb;let(o,e',d):=ho p.1 hb;rw[e]at e';cases e';show⟨e,f0,f1,f2,d⟩
def Inv.wx(I:Inv X (bi++pl) Z H s):Inv X bi Z H s:=I.qT λp hp=>I.pin p (bj _ (bu _ hp))
def dM(hp:PassesOwn 59 X.A X.env X.xe)(hc:X.calm=true)(hi:PI X tg v4 wi)(hg:PG X tg g)(hb:qr X body tb)
  (hs:∀x,rc v4 X.env x=pure x:=by intro _;rfl):PS X (.For tg v4 body [] pos) (af8 wi g tb):=by
 ext bi s Z H D I h;show wpAny_For (hU (hi bi s Z H _ I h) λv s1 h1=>hU h1 λitv s2 h2=>?_) hs;obtain⟨it,fp,tn,J,H2,e,I2,T,G5,f2,W,⟨m0,w0⟩,turn⟩:=h2;subst e;have Xd:∀{H':Hp},(∀b∈fp,H' b=none)->∀b∈fp,oU X bi H' b:=λhn b hb=>{hn b hb,(f2 b hb).2};show codeAny_forLoop_any (λn s'=>∃i σ' H',Inv X bi σ' H' s'/\tn i s'.heap/\(∀b∈fp,H' b=none)/\W i n σ' H') ?_ m0 {0,Z,H2,I2,G5,λb hb=>(f2 b hb).1,w0};ext n s3 ⟨i,σ3,H3,I3,st3,fr3,w3⟩;rcases turn i n σ3 H3 w3 with⟨stop,qn⟩|⟨go,N,hN,step⟩
 ·show jP hp (hU (T.done X 9 9 9 hc i bi s3 σ3 H3 X.xe I3 (Xd fr3) st3 stop) λr s4 hz3=>?_);let(hr,I4):=hz3;subst hr;show rC ⟨σ3,H3,I4,qn⟩
 ·show jP hp (hU (T.item X 9 9 9 hc i bi s3 σ3 H3 X.xe I3 (Xd fr3) st3 go) λr s4 VB=>?_);let(u,hr,h4):=VB;subst hr;show jP hp (hU h4 λ_ s5 hz5=>?_);let(x,H5,I5,r5,y5,st5,fr5):=hz5;show jP hp (hU (hg _ s5 σ3 H5 x u _ (I5.pinned (Xd fr5) (T.obj _ _ st5)) r5 (step x H5 y5)) λ_ s6 hz6=>?_);obtain⟨σ6,H6,I6,q6⟩:=hz6;show jP hp (hU (hb _ s6 σ6 H6 _ I6 q6) λf s7 q7=>?_);have again:∀{σ7:St}{H7:Hp},Inv X (bi++zX fp s5.heap) σ7 H7 s7->N σ7 H7->∃m,m<n/\∃i σ' H',Inv X bi σ' H' s7/\tn i s7.heap/\(∀b∈fp,H' b=none)/\W i m σ' H':=λ{σ7 H7} I7 n7=>by let(m',hm,w7):=hN σ7 H7 n7;show{m',hm,i+1,σ7,H7,I7.wx,T.keep _ _ _ st5 λb hb o e=>(I7.pin (b,o) (bj _ (bj _ (pb hb e)))).1,λb hb=>?_,w7};let(o,e,d):=T.obj _ _ st5 b hb;show(I7.pin (b,o) (bj _ (bj _ (pb hb e)))).2.1
  cases f with
  |next=>obtain⟨σ7,H7,I7,n7⟩:=q7;show again I7 n7
  |cont=>obtain⟨σ7,H7,I7,n7⟩:=q7;show again I7 n7
  |brk=>obtain⟨σ7,H7,I7,q7⟩:=q7;show{σ7,H7,I7.wx,q7}
  |ret v=>obtain⟨x7,σ7,H7,I7,r7,q7⟩:=q7;show{x7,σ7,H7,I7.wx,r7,q7}
abbrev AF(J:It)(g:TG)(tb:TS)(D:Ends)(Z:St)(H:Hp):Prop:=∃W:Nat->Nat->St->Hp->Prop,(∃m,W 0 m Z H)/\∀i m Z H,W i m Z H->
 (J.stop i H/\D.nx Z H)\/(J.go i H/\∃N:St->Hp->Prop,(∀σ' H',N σ' H'->∃m',m'<m/\W (i+1) m' σ' H')/\∀x H',J.Cn i H x H'->g x Z H' λσ2 H2=>tb {D with nx:=N,ct:=N,bk:=D.nx} σ2 H2)
def HS{J:It}{n:Nat}{g:TG}{tb:TS}{D:Ends}{Z:St}{H:Hp}(Pv:Nat->St->Hp->Prop)(h0:Pv 0 Z H)(hg:∀i Z H,i<n->Pv i Z H->J.go i H/\∀x H',J.Cn i H x H'->g x Z H' λσ2 H2=>tb {D with nx:=Pv (i+1),ct:=Pv (i+1),bk:=D.nx} σ2 H2)(hd:∀Z H,Pv n Z H->J.stop n H/\D.nx Z H):AF J g tb D Z H:=by
 show{λi m Z H=>m=n -i/\i<=n/\Pv i Z H,{n,58,aJ _,h0},?_};ext i m Z H ⟨rfl,hi,p⟩;by_cases bN:i<n
 ·let(a,b):=hg i Z H bN p;show .inr {a,Pv (i+1),λσ' H' p'=>{n -(i+1),8,9,bN,p'},b}
 ·have e:i=n:=by lia
  subst e;show .inl (hd Z H p)
def iC{K:Frag}{g:TG}{tb:TS}{D:Ends}(Pv:Nat->St->Hp->Prop)(h0:Pv 0 Z H)(hl:∀i Z H,i<=96->Pv i Z H->bg K H a xs)
  (hs:∀i x Z H,xs[i]?=some x->Pv i Z H->g x Z H λσ2 H2=>tb {D with nx:=Pv (i+1),ct:=Pv (i+1),bk:=D.nx} σ2 H2) (hd:∀Z H,Pv 96 Z H->D.nx Z H):AF (Rf K a) g tb D Z H:=by
 show HS Pv h0 (λi Z H hi p=>?_) λZ H p=>{{xs,hl _ Z H (au _) p,au _},hd Z H p};have q:=hl i Z H (bE hi) p;show{{xs,_,q,av hi},?_};ext x H' ⟨rfl,y⟩;show hs i x Z _ (y xs q) p
def tY{K:Frag}{g:TG}{tb:TS}{D:Ends}(Pv:Nat->St->Hp->Prop)(h0:Pv 0 Z H)(hl:∀i Z H,i<=96->Pv i Z H->ba K H a xs)
  (hs:∀i x Z H,xs[i]?=some x->Pv i Z H->g x Z H λσ2 H2=>tb {D with nx:=Pv (i+1),ct:=Pv (i+1),bk:=D.nx} σ2 H2) (hd:∀Z H,Pv 96 Z H->D.nx Z H):AF (WN K a) g tb D Z H:=by
 show HS Pv h0 (λi Z H hi p=>?_) λZ H p=>{{xs,hl _ Z H (au _) p,au _},hd Z H p};have q:=hl i Z H (bE hi) p;show{{xs,_,q,av hi},?_};ext x H' ⟨rfl,y⟩;show hs i x Z _ (y xs q) p
def KW{lo:Int}{g:TG}{tb:TS}{D:Ends}(Pv:Nat->St->Hp->Prop)(h0:Pv 0 Z H)
  (hs:∀i Z H,i<n->Pv i Z H->g (.int (lo+i)) Z H λσ2 H2=>tb {D with nx:=Pv (i+1),ct:=Pv (i+1),bk:=D.nx} σ2 H2) (hd:∀Z H,Pv n Z H->D.nx Z H):AF (Itr lo n) g tb D Z H:=by
 show HS Pv h0 (λi Z H hi p=>{hi,?_}) λZ H p=>{au _,hd Z H p};ext x H' ⟨rfl,rfl⟩;show hs i Z _ hi p
abbrev R2:=V->V->Hp->VK->Prop
end
def iT(X:Cx)(f:f'->f'->Sem f')(r:R2):Prop:=
 ∀(bi:Aac)(s:cr)(Z:St)(H:Hp)(x y:V)(v u:f')(Q:VK),Inv X bi Z H s->RelV x v->RelV y u->r x y H Q->
  fv 59 X.A (f v u) (EP X bi Z Q) X.xe s
def UnR(X:Cx)(f:f'->Sem f')(r:V->Hp->VK->Prop):Prop:=
 ∀(bi:Aac)(s:cr)(Z:St)(H:Hp)(x:V)(v:f')(Q:VK),Inv X bi Z H s->RelV x v->r x H Q->
  fv 59 X.A (f v) (EP X bi Z Q) X.xe s
def gJ(X:Cx)(f:f')(r:Aao->Hp->VK->Prop):Prop:=
 ∀(bi:Aac)(s:cr)(Z:St)(H:Hp)(xs:Aao)(us:Aag)(Q:VK),Inv X bi Z H s->Vals xs us->r xs H Q->
  fv 59 X.A (EQ f us) (EP X bi Z Q) X.xe s
def ahR(X:Cx)(r:V->Hp->(Bool->Hp->Prop)->Prop):Prop:=
 ∀(bi:Aac)(s:cr)(Z:St)(H:Hp)(x:V)(v:f')(Q:Bool->Hp->Prop),Inv X bi Z H s->RelV x v->r x H Q->
  fv 59 X.A (truthy v) (TP X bi Z Q) X.xe s
def ZF(r:R2)(ta tb:TE):TE:=λZ H Q=>ta Z H λx H1=>tb Z H1 λy H2=>r x y H2 Q
def tUn(r:V->Hp->VK->Prop)(ta:TE):TE:=λZ H Q=>ta Z H λx H1=>r x H1 Q
inductive rI(C:Int->Int->Prop)(g:Int->Int->V)(x:V)(y:V)(H:Hp)(Q:VK):Prop
 |mk i j (_:x=.int i) (_:y=.int j) (_:C i j) (_:Q (g i j) H)
inductive Kg(g:Int->Int->V)(x:V)(y:V)(H:Hp)(Q:VK):Prop
 |mk i j (_:x=.int i) (_:y=.int j) (_:Q (g i j) H)
inductive rU(g:Int->V)(x:V)(H:Hp)(Q:VK):Prop
 |mk i (_:x=.int i) (_:Q (g i) H)
section
variable{X:Cx}{a b:u8}{ta tb:TE}{pos:Fa}
def Zh(ha:PE X a ta)(hb:PE X b tb){R:V->V->Hp->Prop}(I:Inv X bi Z H s)
  (h:ta Z H λx H1=>tb Z H1 λy H2=>R x y H2) {f:f'->f'->Sem f'}
  (hf:∀v u s2 x y H2,Inv X bi Z H2 s2->RelV x v->RelV y u->R x y H2->fv 59 X.A (f v u) Q X.xe s2):
  fv 59 X.A (sn a X.env) (λv aaa=>fv 59 X.A (sn b X.env) (λu aad=>fv 59 X.A (f v u) Q X.xe aad) X.xe aaa) X.xe s:=by
 show da (ha bi s Z H _ I h) λv s1 x H1 I1 r1 q1=>?_;show da (hb bi s1 Z H1 _ I1 q1) λu s2 y H2 I2 r2 q2=>hf v u s2 x y H2 I2 r1 r2 q2
def cL(ho:iT X (x0 op) r)(ha:PE X a ta)(hb:PE X b tb):PE X (.BinOp a op b pos) (ZF r ta tb):=by ext bi s Z H Q I h;show wpAny_BinOp (Zh ha hb I h λv u s2 x y H2 I2 rx ry q=>ho bi s2 Z H2 x y v u Q I2 rx ry q)
def Z3{op:UnaryOp}{r:V->Hp->VK->Prop}(ho:UnR X (unaryOp op) r)(ha:PE X a ta):PE X (.UnaryOp op a pos) (tUn r ta):=by ext bi s Z H Q I h;show UnaryOp_ (da (ha bi s Z H _ I h) λv s1 x H1 I1 r1 q1=>ho bi s1 Z H1 x v Q I1 r1 q1)
def Z7{g:Int->Int->Int}
  (V':∀(i j:Int)(t u:P3)(s:cr)(Q:Aae)(E:Aae),C i j->Q (.int (g i j) s.toks) {s with toks:=s.toks+1}->fv 59 X.A (f (.int i t) (.int j u)) Q E s):
  iT X f (rI C λi j=>.int (g i j)):=by
 ext bi s Z H x y v u Q I rx ry h;let(i,j,rfl,rfl,hc,q):=h;let(t,rfl):=rx;let(t',rfl):=ry;show V' i j t t' s _ _ hc {.int (g i j),H,I.tok _,⟨_,rfl⟩,q}
def adG{g:Int->Int->Int}
  (V':∀(i j:Int)(t u:P3)(s:cr)(Q:Aae)(E:Aae),Q (.int (g i j) s.toks) {s with toks:=s.toks+1}->fv 59 X.A (f (.int i t) (.int j u)) Q E s):
  iT X f (Kg λi j=>.int (g i j)):=by
 ext bi s Z H x y v u Q I rx ry h;let(i,j,rfl,rfl,q):=h;let(t,rfl):=rx;let(t',rfl):=ry;show V' i j t t' s _ _ {.int (g i j),H,I.tok _,⟨_,rfl⟩,q}
def RQ{g:Int->Int->Bool}
  (V':∀(i j:Int)(t u:P3)(s:cr)(Q:Aae)(E:Aae),Q (.bool (g i j)) s->fv 59 X.A (f (.int i t) (.int j u)) Q E s):
  iT X f (Kg λi j=>.bl (g i j)):=by
 ext bi s Z H x y v u Q I rx ry h;let(i,j,rfl,rfl,q):=h;let(t,rfl):=rx;let(t',rfl):=ry;show V' i j t t' s _ _ {.bl (g i j),H,I,9,q}
def ahV(i j:Int):Prop:=0<=j/\j<=1000000/\i.natAbs<2^64
def Zn(i j:Int):Prop:=(-(2^64)<i/\i<2^64)\/(-(2^64)<j/\j<2^64)
def Zn.ok(h:Zn i j):IntMulOk i j:=by
 rcases h with⟨h1,h2⟩|⟨h1,h2⟩
 ·show .of_left (intBits_le_64 h1 h2)
 ·show .of_right (intBits_le_64 h1 h2)
def iI:iT X (x0 .Add) (Kg λi j=>.int (i+j)):=adG λ_ _ _ _ _ _ _ q=>add_int q
def adA:iT X (x0 .Sub) (Kg λi j=>.int (i -j)):=adG λ_ _ _ _ _ _ _ q=>sub_int q
def wX:iT X (x0 .Mult) (rI Zn λi j=>.int (i*j)):=Z7 λ_ _ _ _ _ _ _ hc q=>mul_int q hc.ok
def rP:iT X (x0 .Mod) (rI (λ_ j=>0<j) λi j=>.int (i % j)):=Z7 λi j _ _ _ _ _ hc q=>by show mod_int' ∅ (by rw[Int.fmod_eq_emod_of_nonneg i ∅];show q)
def adB:iT X (x0 .Pow) (rI ahV λi j=>.int (i^j.toNat)):=Z7 λ_ _ _ _ _ _ _ hc q=>pow_int_small hc.1 hc.2.1 hc.2.2 q
def unI{f:f'->Sem f'}{g:Int->Int}
  (V':∀(i:Int)(t:P3)(s:cr)(Q:Aae)(E:Aae),Q (.int (g i) s.toks) {s with toks:=s.toks+1}->fv 59 X.A (f (.int i t)) Q E s):
  UnR X f (rU λi=>.int (g i)):=by
 ext bi s Z H x v Q I rx h;let(i,rfl,q):=h;let(t,rfl):=rx;show V' i t s _ _ {.int (g i),H,I.tok _,⟨_,rfl⟩,q}
def Tv:UnR X (unaryOp .USub) (rU λi=>.int (-i)):=unI λ_ _ _ _ _ q=>neg_int q
def ac8:V->V->Bool
 | .b7,.b7=>true| .b7,.int _=>true| .int _,.b7=>true| .b7,.bl _=>true| .bl _,.b7=>true| .b7,.str _=>true| .str _,.b7=>true
 | .int _,.int _=>true| .bl _,.bl _=>true| .str _,.str _=>true| .vJ _,.vJ _=>true
 | .int _,.str _=>true| .str _,.int _=>true| .bl _,.str _=>true| .str _,.bl _=>true
 |_,_=>false
def rEq:R2:=λx y H Q=>ac8 x y=true/\Q (.bl (decide (x=y))) H
def rNe:R2:=λx y H Q=>ac8 x y=true/\Q (.bl (!decide (x=y))) H
def Q3:decide (V.int i=V.int j)=(i==j):=by rw[fu];simp
def Ws:decide (V.bl i=V.bl j)=(i==j):=by rw[fu];simp
def Q2:decide (V.str i=V.str j)=(i==j):=by rw[fu];simp
def Q4:decide (V.vJ i=V.vJ j)=(i.toList==j.toList):=by rw[fu];cases i;cases j;simp
variable{c:u8}{tc:TE}
def d5(I:Inv X bi Z H s)(q:Q (.bl k) H)(e:k=k'):EP X bi Z Q (.bool k') s:=by subst e;show{.bl k,H,I,9,q}
def vY:iT X (on .Eq) rEq:=by
 ext bi s Z H x y v u Q I rx ry h;let(hs,q):=h;cases x with
 |b7=>
  cases rx;cases y with
  |b7=>cases ry;show PySem.EqNone.eq_none_none (d5 I q 58)
  |bl j=>cases ry;show PySem.EqNone.eq_none_bool (d5 I q 58)
  |int j=>let(t',rfl):=ry;show PySem.EqNone.eq_none_int (d5 I q 58)
  |str j=>let(t',rfl):=ry;show PySem.EqNone.eq_none_str (d5 I q 58)
  |_=>show absurd (show false=true from hs) bL
 |bl i=>
  cases rx;cases y with
  |b7=>cases ry;show PySem.EqNone.eq_bool_none (d5 I q 58)
  |bl j=>cases ry;show eq_bool (d5 I q Ws)
  |str j=>let(t',rfl):=ry;show PySem.EqMixed.eq_bool_str (d5 I q 58)
  |_=>show absurd (show false=true from hs) bL
 |int i=>
  let(t,rfl):=rx;cases y with
  |b7=>cases ry;show PySem.EqNone.eq_int_none (d5 I q 58)
  |int j=>let(t',rfl):=ry;show eq_int (d5 I q Q3)
  |str j=>let(t',rfl):=ry;show PySem.EqMixed.eq_int_str (d5 I q 58)
  |_=>show absurd (show false=true from hs) bL
 |str i=>
  let(t,rfl):=rx;cases y with
  |b7=>cases ry;show PySem.EqNone.eq_str_none (d5 I q 58)
  |bl j=>cases ry;show PySem.EqMixed.eq_str_bool (d5 I q 58)
  |int j=>let(t',rfl):=ry;show PySem.EqMixed.eq_str_int (d5 I q 58)
  |str j=>let(t',rfl):=ry;show eq_str (d5 I q Q2)
  |_=>show absurd (show false=true from hs) bL
 |vJ i=>
  let(t,rfl):=rx;cases y with
  |vJ j=>let(t',rfl):=ry;show PySem.W.eq_bytes (d5 I q Q4)
  |_=>show absurd (show false=true from hs) bL
 |_=>cases y<;>show absurd (show false=true from hs) bL
def uw:iT X (on .NotEq) rNe:=by
 ext bi s Z H x y v u Q I rx ry h;let(hs,q):=h;cases x with
 |b7=>
  cases rx;cases y with
  |b7=>cases ry;show PySem.EqNone.ne_none_none (d5 I q 58)
  |bl j=>cases ry;show PySem.EqNone.ne_none_bool (d5 I q 58)
  |int j=>let(t',rfl):=ry;show PySem.EqNone.ne_none_int (d5 I q 58)
  |str j=>let(t',rfl):=ry;show PySem.EqNone.ne_none_str (d5 I q 58)
  |_=>show absurd (show false=true from hs) bL
 |bl i=>
  cases rx;cases y with
  |b7=>cases ry;show PySem.EqNone.ne_bool_none (d5 I q 58)
  |bl j=>cases ry;show ne_bool (d5 I q (cW not Ws))
  |str j=>let(t',rfl):=ry;show PySem.EqMixed.ne_bool_str (d5 I q 58)
  |_=>show absurd (show false=true from hs) bL
 |int i=>
  let(t,rfl):=rx;cases y with
  |b7=>cases ry;show PySem.EqNone.ne_int_none (d5 I q 58)
  |int j=>let(t',rfl):=ry;show ne_int (d5 I q (cW not Q3))
  |str j=>let(t',rfl):=ry;show PySem.EqMixed.ne_int_str (d5 I q 58)
  |_=>show absurd (show false=true from hs) bL
 |str i=>
  let(t,rfl):=rx;cases y with
  |b7=>cases ry;show PySem.EqNone.ne_str_none (d5 I q 58)
  |bl j=>cases ry;show PySem.EqMixed.ne_str_bool (d5 I q 58)
  |int j=>let(t',rfl):=ry;show PySem.EqMixed.ne_str_int (d5 I q 58)
  |str j=>let(t',rfl):=ry;show ne_str (d5 I q (cW not Q2))
  |_=>show absurd (show false=true from hs) bL
 |vJ i=>
  let(t,rfl):=rx;cases y with
  |vJ j=>let(t',rfl):=ry;show PySem.W.ne_bytes (d5 I q (cW not Q4))
  |_=>show absurd (show false=true from hs) bL
 |_=>cases y<;>show absurd (show false=true from hs) bL
def yq:iT X (on .Lt) (Kg λi j=>.bl (decide (i<j))):=RQ λ_ _ _ _ _ _ _ q=>lt_int q
def Z5:iT X (on .LtE) (Kg λi j=>.bl (decide (i<=j))):=RQ λ_ _ _ _ _ _ _ q=>le_int q
def RP:iT X (on .Gt) (Kg λi j=>.bl (decide (j<i))):=RQ λ_ _ _ _ _ _ _ q=>gt_int q
def afv:iT X (on .GtE) (Kg λi j=>.bl (decide (j<=i))):=RQ λ_ _ _ _ _ _ _ q=>ge_int q
def UK:iT X (on .In) (λx y H Q=>∃i j,x=.str i/\y=.str j/\Q (.bl (!(Builtin.Str.occurrences j i 0 j.length 1).isEmpty)) H):=by ext bi s Z H x y v u Q I rx ry h;let(i,j,rfl,rfl,q):=h;let(t,rfl):=rx;let(t',rfl):=ry;show in_str (d5 I q 9)
def CW:iT X (on .Is) (λx y H Q=>y=.b7/\Q (.bl (decide (x=.b7))) H):=by
 ext bi s Z H x y v u Q I rx ry h;let(rfl,q):=h;cases ry;show is_none_gen (d5 I q ?_);cases x<;>first
  |(cases rx;rfl)
  |(let(t,rfl):=rx;rfl)
def wg:iT X (on .IsNot) (λx y H Q=>y=.b7/\Q (.bl (!decide (x=.b7))) H):=by
 ext bi s Z H x y v u Q I rx ry h;let(rfl,q):=h;cases ry;show isnot_none_gen (d5 I q ?_);cases x<;>first
  |(cases rx;rfl)
  |(let(t,rfl):=rx;rfl)
def cx(b:u8)(h:op≠ .In:=by decide)(h2:op≠ .NotIn:=by decide):FS op b=false:=by
 have e1:(op==CmpOp.In)=false:=by cases op<;>first|rfl|show absurd rfl h
 have e2:(op==CmpOp.NotIn)=false:=by cases op<;>first|rfl|show absurd rfl h2
 cases b<;>simp[FS,e1,e2]
def jT(ho:iT X (on op) r)(ha:PE X a ta)(hb:PE X b tb)(hm:FS op b=false):PE X (.Compare a [op] [b] pos) (ZF r ta tb):=by ext bi s Z H Q I h;show wpAny_Compare1 (Zh ha hb I h λv u s2 x y H2 I2 rx ry q=>ho bi s2 Z H2 x y v u Q I2 rx ry q) hm
inductive acQ(Q:Bool->Hp->Prop)(x:V)(H':Hp):Prop
 |mk k (_:x=.bl k) (_:Q k H')
def ZE(t:TE):TT:=λZ H Q=>t Z H λx H'=>acQ Q x H'
def bZ(ho:iT X (on op) r)(ha:PE X a ta)(hb:PE X b tb)(hm:FS op b=false):PT X (.Compare a [op] [b] pos) (ZE (ZF r ta tb)):=by ext bi s Z H Q I h;show zP (da (ha bi s Z H _ I h) λv s1 x H1 I1 r1 q1=>da (hb bi s1 Z H1 _ I1 q1) λu s2 y H2 I2 r2 q2=>hU (ho bi s2 Z H2 x y v u _ I2 r1 r2 q2) λc s3 hz7=>?_) hm;let(z,H3,I3,r3,k,e,q3):=hz7;subst e;cases r3;show eO ⟨H3,I3,q3⟩
def TK(r r':R2)(ta tb tc:TE):TE:=λZ H Q=>ta Z H λx H1=>tb Z H1 λy H2=>r x y H2 λz H3=>∃k,z=.bl k/\
 (if k=true then tc Z H3 λw' H4=>r' y w' H4 Q else Q (.bl false) H3)
def MP(ho:iT X (on op) r)(Ak:iT X (on Qk) r')(ha:PE X a ta)(hb:PE X b tb)(hc:PE X c tc)
  (hm:lastMarks [op,Qk] [b,c]=false:=by with_unfolding_all rfl):PE X (.Compare a [op,Qk] [b,c] pos) (TK r r' ta tb tc):=by
 ext bi s Z H Q I h;show Compare_chain (da (ha bi s Z H _ I h) λv s1 x H1 I1 r1 q1=>chain_link (da (hb bi s1 Z H1 _ I1 q1) λu s2 y H2 I2 r2 q2=>hU (ho bi s2 Z H2 x y v u _ I2 r1 r2 q2) λd s3 hz8=>?_)) hm;let(z,H3,I3,r3,k,e,q3):=hz8;subst e;cases r3;show eO ?_;cases k with
 |false=>show ite_ff {.bl false,H3,I3,9,q3}
 |true=>show ite_tt (chain_last (hU (hc bi s3 Z H3 _ I3 q3) λw' s4 ⟨z',H4,I4,r4,q4⟩=>Ak bi s4 Z H4 y z' u w' Q I4 r2 r4 q4))
def XH{op Qk:CmpOp}{r r':R2}(ho:iT X (on op) r)(Ak:iT X (on Qk) r')(ha:PE X a ta)(hb:PE X b tb)(hc:PE X c tc)
  (hm:lastMarks [op,Qk] [b,c]=false:=by with_unfolding_all rfl):PT X (.Compare a [op,Qk] [b,c] pos) (ZE (TK r r' ta tb tc)):=by
 ext bi s Z H Q I h;show isTrue_chain (da (ha bi s Z H _ I h) λv s1 x H1 I1 r1 q1=>test_link (da (hb bi s1 Z H1 _ I1 q1) λu s2 y H2 I2 r2 q2=>hU (ho bi s2 Z H2 x y v u _ I2 r1 r2 q2) λd s3 hz9=>?_)) hm;let(z,H3,I3,r3,k,e,q3):=hz9;subst e;cases r3;show eO ?_;cases k with
 |false=>
  let(k',e',q'):=q3;cases e';show ite_ff ⟨H3,I3,q'⟩
 |true=>
  show ite_tt (test_last (hU (hc bi s3 Z H3 _ I3 q3) λw' s4 ahb=>?_));let(z',H4,I4,r4,q4):=ahb;show hU (Ak bi s4 Z H4 y z' u w' _ I4 r2 r4 q4) λd' s5 aha=>?_;let(z2,H5,I5,r5,k2,e2,q5):=aha;subst e2;cases r5;show eO ⟨H5,I5,q5⟩
def aeZ(K:Frag)(x:V)(H:Hp)(k:Bool):Prop:=
 match x with
 | .b7=>k=false
 | .bl b=>k=b
 | .int i=>k=(i !=0)
 | .str y=>y.length<=ca/\k=((y.length:Int) !=0)
 | .vJ y=>y.size<=ca/\k=((y.size:Int) !=0)
 | .ref p=>(∃xs,bg K H p xs/\k=!xs.isEmpty)\/(∃xs,ba K H p xs/\k=!xs.isEmpty)\/∃kvs,H p=some (.dK kvs)/\k=!kvs.isEmpty
 |_=>False
def Sg(r:KV kvs vs):(!vs.isEmpty)=!kvs.isEmpty:=by cases r<;>rfl
def HA(r:Vals xs aY):(!aY.toArray.isEmpty)=!xs.isEmpty:=by cases r<;>simp
def Ae:(ca:Nat)<2^63:=by rw[bW];decide
def acH:ahR X (λx H Q=>∃k,aeZ X.K x H k/\Q k H):=by
 ext bi s Z H x v Q I rx h;let(k,e,q):=h;have hl:=Ae;have hs:ca=16777216:=bW;cases x with
 |b7=>
  cases rx;have e':k=false:=e;subst e';show truthy_none ⟨H,I,q⟩
 |bl b=>
  cases rx;have e':k=b:=e;subst e';show eO ⟨H,I,q⟩
 |int i=>
  let(t,rfl):=rx;have e':k=(i !=0):=e;subst e';show PySem.P.truthy_int ⟨H,I,q⟩
 |str y=>
  let(t,rfl):=rx;obtain⟨hy,e'⟩:y.length<=ca/\k=((y.length:Int) !=0):=e;subst e';show PySem.P.truthy_str ∅ {H,I.tok _,q}
 |vJ y=>
  let(t,rfl):=rx;obtain⟨hy,e'⟩:y.size<=ca/\k=((y.size:Int) !=0):=e;subst e';show PySem.W.truthy_bytes ∅ {H,I.tok _,q}
 |ref p=>
  cases rx;have e':(∃xs,bg X.K H p xs/\k=!xs.isEmpty)\/(∃xs,ba X.K H p xs/\k=!xs.isEmpty)\/∃kvs,H p=some (.dK kvs)/\k=!kvs.isEmpty:=e;rcases e' with⟨xs,hx,e'⟩|⟨xs,hx,e'⟩|⟨kvs,hx,e'⟩
  ·subst e';let(aY,r,pl,hz):=I.list hx;have hlen:=r.length;show wpAny_truthy_list pl.isList (by simp only[aQ];lia) {H,I.tok _,by rw[HA r];show q}
  ·subst e';let(aY,r,pl,hz):=I.tuple hx;have hlen:=r.length;show truthy_tuple pl (by simp only[aQ];lia) {H,I.tok _,by rw[HA r];show q}
  ·subst e';obtain⟨hz,hS,vs,r,m⟩:kvs.length<=ca/\(p==re)=false/\∃vs,KV kvs vs/\s.heap.DictOf (bS 57 X.w) p vs:=I.bK p _ hx;have hlen:kvs.length=vs.length:=a9 r;show wpAny_truthy_dict hS m ∅ {H,I.tok _,by rw[Sg r];show q}
 |_=>show(show False from e).elim
def XG(ha:PE X a ta)(he:∀whole,isTrue a X.env whole=(do let v<-whole;U' a.pos;FM [v] (truthy v))):
  PT X a (λZ H Q=>ta Z H λx H'=>∃k,aeZ X.K x H' k/\Q k H'):=by
 ext bi s Z H Q I h;show isTrue_plain (da (ha bi s Z H _ I h) λv s1 x H1 I1 r1 q1=>acH bi s1 Z H1 x v Q I1 r1 q1) (he _)
def o7:iT X (x0 .Add) (λx y H Q=>∃i j,x=.str i/\y=.str j/\i.length+j.length<=ca/\Q (.str (i++j)) H):=by ext bi s Z H x y v u Q I rx ry h;let(i,j,rfl,rfl,hz,q):=h;let(t,rfl):=rx;let(t',rfl):=ry;show add_str (λt' tk=>{.str (i++j),H,I.tok _,⟨_,rfl⟩,q}) hz
def jn(r:Vals [x] us):∃u,us=[u]/\RelV x u:=by
 cases r with
 |cons r1 r2=>cases r2;show⟨_,rfl,r1⟩
def vals2(r:Vals [x,y] us):∃u w',us=[u,w']/\RelV x u/\RelV y w':=by
 cases r with
 |cons r1 r2=>
  cases r2 with
  |cons r3 r4=>cases r4;show⟨_,_,rfl,r1,r3⟩
def ae3(K:Frag)(x:V)(H:Hp)(n:Nat):Prop:=
 match x with
 | .str y=>y.length<=ca/\n=y.length
 | .vJ y=>y.size<=ca/\n=y.size
 | .ref p=>(∃xs,bg K H p xs/\n=96)\/∃xs,ba K H p xs/\n=96
 |_=>False
def cJ:gJ X (.builtin "len") (λxs H Q=>∃x n,xs=[x]/\ae3 X.K x H n/\Q (.int n) H):=by
 ext bi s Z H xs us Q I r h;let(x,n,rfl,e,q):=h;let(u,rfl,rx):=jn r;have hs:ca=16777216:=bW;cases x with
 |str y=>
  let(t,rfl):=rx;obtain⟨hy,e'⟩:y.length<=ca/\n=y.length:=e;subst e';show len_str ∅ {.int _,H,I.tok _,⟨_,rfl⟩,q}
 |vJ y=>
  let(t,rfl):=rx;obtain⟨hy,e'⟩:y.size<=ca/\n=y.size:=e;subst e';show PySem.W.len_bytes ∅ {.int _,H,I.tok _,⟨_,rfl⟩,q}
 |ref p=>
  cases rx;have e':(∃xs,bg X.K H p xs/\n=96)\/∃xs,ba X.K H p xs/\n=96:=e;rcases e' with⟨xs,hx,e'⟩|⟨xs,hx,e'⟩
  ·subst e';let(aY,r',pl,hz):=I.list hx;have hlen:=r'.length;show Calls.call_len_list pl.isList (by simp only[aQ];lia) {.int 96,H,I.tok _,{_,by simp only[aQ];rw[hlen]},q}
  ·subst e';let(aY,r',pl,hz):=I.tuple hx;have hlen:=r'.length;show len_tuple pl (by simp only[aQ];lia) {.int 96,H,I.tok _,{_,by simp only[aQ];rw[hlen]},q}
 |_=>show(show False from e).elim
structure GX(h:i5)(x dx C:bn)(mA:Aad):Prop where
 obj:h.get? x=some (instObj C dx)
 ns:h.Ns1 dx mA
 ne:dx≠x
def Vf{h:i5}(n:h.Ns1 dx mA):∃od,h.get? dx=some od/\∀name,lookIn name od=some (mA name):=by
 let(o,es,ep,ho,hd,hk,__,hm):=n;show{o,ho,λname=>?_};have e:=hm name;unfold nsFind findBy at e;rw[<-Array.find?_toList]at e;unfold lookIn;rw[hd];dsimp only;split
 ·rename_i y q;rw[q]at e;show cW some e
 ·rename_i q;rw[q]at e;have a:es.toList.any (·.refKey)=false:=by rw[Fb];ext y hy;let(z,t,zp):=hk y (BL.mp hy);simp[DictEntry.refKey,zp]
  rw[aI (by rw[a];show bL)];show cW some e
def GX.look(I:GX h x dx C mA):∃od,PySem.W.InstAt h x (instObj C dx) C (some od)/\∀name,lookIn name od=some (mA name):=
 let⟨od,ho,hl⟩:=Vf I.ns
 {od,{I.obj,9,9,ho},hl}
variable{prog:dL}{w:i3}{A:mo}{E:Aae}{s:cr}{K:Frag}{x dx C f:bn}{mA:Aad}{name:io}{v:f'}
def get_map(X:K.In s.heap)(I:GX s.heap x dx C mA)(hg:plainGet K C name=true)(hh:hasDictIn K C=true)
  (ha:findIn K (.ref C) name=some none) (hv:mA name=some v) (hv':PySem.W.handedIn v=true) (h:Q v {s with toks:=s.toks+1}):
  fv 24 A (getAttr (.ref x) name expr) Q E s:=by
 let(od,J,hl):=I.look;show PySem.W.get_value X J (sY hg).1 (PySem.W.findObj_own hh ha 9 (by rw[hl,hv])) hv' h
def YL(X:K.In s.heap)(I:GX s.heap x dx C mA)(hg:plainGet K C name=true)
  (hf:findIn K (.ref C) name=some (some (.ref f))) (ht:isFn K (.ref f)=true) (hv:mA name=none) (h:Q (.ref f,[.ref x]) s):
  fv 24 A (UF (.ref x) name pl) Q E s:=by
 let(od,J,hl):=I.look;show PySem.W.method_fn X J (sY hg).1 (sY hg).2 hf (sj.mp ht) (by change(lookIn name od).map (·.isSome)=some false;rw[hl,hv];rfl) h
def aa7(X:K.In s.heap)(I:GX s.heap x dx C mA)
  (hs:findIn K (.ref C) "__setattr__"=some (some (.builtin "object.__setattr__"))) (hp:PySem.W.plainOver K C=true) (ht:PySem.W.takerIn K C name=some none) (hh:hasDictIn K C=true)
  (hw:PySem.Within mA ns) (hsz:ns.length<=ca)
  (h:∀h',GX h' x dx C (λy=>if y=name then some v else mA y)->Heap.SameBut dx s.heap h'->Q () {s with heap:=h',toks:=s.toks+2}):
  fv 24 A (setAttr (.ref x) name v) Q E s:=by
 let(od,J,hl):=I.look;show PySem.W.set_plain X J hs (PySem.W.osa_open X J hp ht λb=>?_);let(cd,hc,yE):=PySem.W.any_some hh;show ae (ao (ae (ae (wpAny_loadPart I.obj (ae (PySem.W.Looks.here (PySem.W.looks_clsIn X hc) ?_))))));rw[yE];show ao (ae (ao (ae ?_)));show wpAny_nsSet1 I.ns λh' KG kJ=>?_;let(oD,esD,epD,hoD,hdD,hcD):=KG.count (PySem.Within.cons name v hw);show ae (wpAny_lookBehind hoD (by rw[hdD];show pastItsLine_dict (bc hcD (by rw[bx];lia))) (ao (h _ {(kJ.2 _ (cQ I.ne)).trans I.obj,KG,I.ne} kJ)))
def Yd(X:K.In s.heap)(hm:PySem.W.makesIn K C=true)
  (hi:findIn K (.ref C) "__init__"=some (some (.ref f))) (hf:PySem.W.typeIn K (.ref f)=some (.type "function"))
  (h:wE 24 (A.under (.builtin "type.__call__" {.ref C::vs,kw})) (.call (.ref f) {.ref (17+1)::vs,kw}) (PySem.W.InitBack (17+1) R)
   {s with heap:=(s.heap.push emptyDict).push (instObj C 17)}):
  wE 24 A (.call (.ref C) ⟨vs,kw⟩) R s:=by
 let(hh,g,d,t,os):=s;show PySem.W.make_core (PySem.W.makes_of X hm) (PySem.W.looks_findIn X hi) (λself=>PySem.W.bind_fn X self hf) (.inl 9) h
end
def jv(f:io)(v:V):List (io×V)->List (io×V)
 |[]=>[(f,v)]
 |(g,x)::r=>if g=f then(g,v)::r else(g,x)::jv f v r
theorem Fy(f g:io)(v:V):∀fs:List (io×V),(jv f v fs).lookup g=if g=f then some v else fs.lookup g
 |[]=>by
  change List.lookup g [(f,v)]=_;by_cases h:g=f
  ·have hb:=sj.mpr h;simp only[List.lookup,hb,aL h]
  ·have hb:=c6.mpr h;simp only[List.lookup,hb,aI h]
 |(k,x)::r=>by
  rw[show jv f v ((k,x)::r)=(if k=f then(k,v)::r else(k,x)::jv f v r)from rfl];by_cases hk:k=f
  ·rw[aL hk];by_cases h:g=k
   ·have hb:=sj.mpr h;simp only[List.lookup,hb,aL (h.trans hk)]
   ·have hb:=c6.mpr h;simp only[List.lookup,hb,aI (λe:g=f=>h (e.trans hk.symm))]
  ·rw[aI hk];by_cases h:g=k
   ·have hb:=sj.mpr h;simp only[List.lookup,hb,aI (λe:g=f=>hk (h.symm.trans e))]
   ·have hb:=c6.mpr h;simp only[List.lookup,hb];show(Fy f g v r)
theorem C7(f:io)(v:V):∀fs:List (io×V),f∈(jv f v fs).map (·.1)/\∀g,g∈fs.map (·.1)->g∈(jv f v fs).map (·.1)
 |[]=>{by simp[jv],λg h=>by simp at h}
 |(k,x)::r=>by
  let(i1,i2):=C7 f v r;rw[show jv f v ((k,x)::r)=(if k=f then(k,v)::r else(k,x)::jv f v r)from rfl];by_cases hk:k=f
  ·rw[aL hk];subst hk;show{58,λg h=>by simpa using h}
  ·rw[aI hk];show{?_,λg h=>?_}
   ·rw[bo];show ay _ i1
   ·rw[bo]at h⊢;rcases aN.mp h with e|e
    ·show aN.mpr (.inl e)
    ·show ay _ (i2 g e)
theorem Fz(f:io)(v:V):∀fs:List (io×V),(jv f v fs).length<=fs.length+1
 |[]=>by simp[jv]
 |(k,x)::r=>by
  have ih:=Fz f v r;rw[show jv f v ((k,x)::r)=(if k=f then(k,v)::r else(k,x)::jv f v r)from rfl];by_cases hk:k=f
  ·rw[aL hk,bx,bx];lia
  ·rw[aI hk,bx,bx];lia
def mY.some_of(r:mY (some v) o):∃u,o=some u/\RelV v u:=by
 cases o with
 |none=>show(show False from r).elim
 |some u=>show⟨u,rfl,r⟩
def mY.none_of(r:mY none o):o=none:=by
 cases o with
 |none=>rfl
 |some u=>show(show False from r).elim
def V3(r:RelV v u):PySem.W.handedIn u=true:=by
 cases v with
 |b7=>cases(show u=Value.none from r);rfl
 |bl b=>cases(show u=Value.bool b from r);rfl
 |int i=>let(t,e):=(show∃t,u=Value.int i t from r);cases e;rfl
 |str x=>let(t,e):=(show∃t,u=Value.str x t from r);cases e;rfl
 |vJ b=>let(t,e):=(show∃t,u=Value.bytes b t from r);cases e;rfl
 |Oo b=>let(t,e):=(show∃t,u=Value.float b t from r);cases e;rfl
 |ref a=>cases(show u=Value.ref a from r);rfl
 |ty n=>cases(show u=Value.type n from r);rfl
section
variable{P:dL}{w:i3}{H:Hp}{h:i5}{a C dx:bn}{fs:List (io×V)}
def EH(bK:kh P w H h)(e:H a=some (.ins C dx fs)):∃mA,GX h a dx C mA/\(∀f,mY (fs.lookup f) (mA f))/\PySem.Within mA (fs.map (·.1))/\fs.length<=1000/\H dx=some (.own a):=by let(d,z,ne,ob,mA,n,r,q):=(show dG P w H h a (.ins C dx fs)from bK a _ e);show{mA,⟨ob,n,ne⟩,r,q,z,d}
end
structure Em(K:Frag)(C:bn):Prop where
 pg:plainGet K C Str.empty=true
 hd:hasDictIn K C=true
 po:PySem.W.plainOver K C=true
 sa:findIn K (.ref C) "__setattr__"=some (some (.builtin "object.__setattr__"))
def Em.get{K:Frag}(c:Em K C)(f:io):plainGet K C f=true:=c.pg
def u0(K:Frag)(C:bn)(f:io):Prop:=findIn K (.ref C) f=some none
def u0.afa{K:Frag}(n:u0 K C f):PySem.W.takerIn K C f=some none:=by unfold PySem.W.takerIn;rw[show findIn K (.ref C) f=some none from n];rfl
structure Con(K:Frag)(C:bn)(f:io)(v:V)(u:f'):Prop where
 at_:findIn K (.ref C) f=some (some u)
 rel:RelV v u
 get:PySem.W.specialIn K u "__get__"=some none
 cp:PySem.W.copiedNames.contains f=false
structure Meth(K:Frag)(C:bn)(m:io)(f:bn):Prop where
 at_:findIn K (.ref C) m=some (some (.ref f))
 fn:isFn K (.ref f)=true
 kp:keepIn K (.ref f)=true
section
variable{X:Cx}{bi:Aac}{Z:St}{H:Hp}{s:cr}{a C dx:bn}{fs:List (io×V)}{f:io}{v:V}{A:mo}{E:Aae}
def SA(I:Inv X bi Z H s)(e:H a=some (.ins C dx fs))(c:Em X.K C)(n:u0 X.K C f)(l:fs.lookup f=some v)
  (h:∀u s',Inv X bi Z H s'->RelV v u->Q u s'):fv 59 A (getAttr 68 f b) Q E s:=by
 let(mA,O,r,__,__,__):=EH I.bK e;let(u,hu,ru):=mY.some_of (l▸r f);show get_map I.nq O (c.get f) c.hd n hu (V3 ru) (h u _ (I.tok _) ru)
def Sz(I:Inv X bi Z H s)(e:H a=some (.ins C dx fs))(c:Em X.K C)(k:Meth X.K C m g)(l:fs.lookup m=none)
  (h:Q (.ref g,[.ref a]) s):fv 59 A (UF 68 m pl) Q E s:=by
 let(mA,O,r,__,__,__):=EH I.bK e;show YL I.nq O (c.get m) k.at_ k.fn (mY.none_of (by rw[<-l];show r m)) h
def RD(I:Inv X bi Z H s)(e:H a=some (.ins C dx fs))(c:Em X.K C)(n:u0 X.K C f)(hl:fs.length<1000)(ry:RelV y u)
  (h:∀s',Inv X bi Z (upd H a (.ins C dx (jv f y fs))) s'->Q () s'):fv 59 A (setAttr 68 f u) Q E s:=by
 let(mA,O,r,wi,__,ho):=EH I.bK e;show aa7 I.nq O c.sa c.po n.afa c.hd wi (by rw[ah,bW];lia) λh' O' sb=>h _ ?_;show I.write (e▸True.intro) (.inr ho) (λb q hb z=>(sb.2 b hb).trans z) (let⟨o,_,_,e',_⟩:=O'.ns;⟨o,e'⟩) ?_;show{aM O.ne▸ho,?_,O.ne,O'.obj,_,O'.ns,λg=>?_,λg hg=>?_}
 ·have:=Fz f y fs;lia
 ·change mY ((jv f y fs).lookup g) (if g=f then some u else mA g);rw[Fy];by_cases q:g=f
  ·rw[aL q,aL q];show ry
  ·rw[aI q,aI q];show r g
 ·by_cases q:g=f
  ·rw[q];show(C7 f y fs).1
  ·show(C7 f y fs).2 g (wi g λz=>hg ?_);change(if g=f then some u else mA g)=none;rw[aI q];show z
def Inv.made(I:Inv X bi Z H s):Inv X bi Z (upd (upd H 17 (.own (17+1))) (17+1) (.ins C 17 []))
  {s with heap:=(s.heap.push emptyDict).push (instObj C 17)}:=by
 have e1:(s.heap.push emptyDict).get? 17=some emptyDict:=aR s.heap rfl;have e2:((s.heap.push emptyDict).push (instObj C 17)).get? (17+1)=some (instObj C 17):=by have:=aR (s.heap.push emptyDict) (o:=instObj C 17) rfl;rwa [du]at this
 have I1:=I.laid (o:=.own (17+1)) (t':=s.toks) (λb u q=>aj _ q) (au _) ⟨_,e1⟩;show I1.laid (λb u q=>aj _ q) (sE (du _ _)) ?_;have ne:17≠17+1:=aW (dJ _);show{by rw[aM ne,ar],aJ _,ne,e2,λ_=>none,(Heap.Ns1.of_empty ({emptyDict,#[],_,e1,9,(λe he=>absurd he 58),λ_=>9})).at λo q=>aj _ q,λ_=>True.intro,λy hy=>absurd rfl hy}
def acs(hb:wf e f env (sn e env)=sn e env)
  (h:fv 24 A (sn e env) (λo aaa=>fv 24 A (getAttr o f true) Q E aaa) E s):fv 24 A (sn (.Attribute e f pos) env) Q E s:=
 Attribute_any_ h (by rw[arm_eval_Attribute,hb])
end
inductive aff(K:Frag)(f:io)(Q:VK)(x:V)(H1:Hp):Prop
 |mk a C dx fs v (_:x=.ref a) (_:H1 a=some (.ins C dx fs)) (_:Em K C) (_:u0 K C f) (_:fs.lookup f=some v) (_:Q v H1)
def af9(K:Frag)(ta:TE)(f:io):TE:=λZ H Q=>ta Z H λx H1=>aff K f Q x H1
inductive afp(K:Frag)(f:io)(D:Ends)(Z:St)(y:V)(x:V)(H2:Hp):Prop
 |mk a C dx fs (_:x=.ref a) (_:H2 a=some (.ins C dx fs)) (_:Em K C) (_:u0 K C f) (_:fs.length<1000) (_:D.nx Z (upd H2 a (.ins C dx (jv f y fs))))
def agf(K:Frag)(ta tv:TE)(f:io):TS:=λD Z H=>tv Z H λy H1=>ta Z H1 λx H2=>afp K f D Z y x H2
section
variable{X:Cx}{o e value:u8}{f:io}{pos pos':Fa}{ta tv:TE}
def zY(he:PE X e ta)(hb:wf e f X.env (sn e X.env)=sn e X.env):PE X (.Attribute e f pos) (af9 X.K ta f):=by ext bi s Z H Q I h;show acs hb (da (he bi s Z H _ I h) λu s1 x H1 I1 rx ag9=>?_);let(a,C,dx,fs,v,ex,ea,c,n,l,q):=ag9;subst ex;obtain rfl:u=Value.ref a:=rx;show SA I1 ea c n l λu' s2 I2 ru=>⟨v,H1,I2,ru,q⟩
def ME(ha:PE X o ta)(hv:PE X value tv)(hs:AC value (some (.Attribute o f pos')) pos.line X.env=pure false):PS X (.Assign [.Attribute o f pos'] value pos) (agf X.K ta tv f):=by ext bi s Z H D I h;show plainObj_wpAny_Assign_Attribute (da (hv bi s Z H _ I h) λu s1 y H1 I1 ry q=>da (ha bi s1 Z H1 _ I1 q) λov s2 x H2 I2 rx ag8=>?_) hs;let(a,C,dx,fs,ex,ea,c,n,l,q2):=ag8;subst ex;obtain rfl:ov=Value.ref a:=rx;show RD I2 ea c n l ry λs3 I3=>⟨Z,_,I3,q2⟩
end
section
variable{X:Cx}{bi:Aac}{Z:St}{H:Hp}{s:cr}{A:mo}{E Q:Aae}{c:f'}{b:Bool}
inductive qd(K:Frag)(H:Hp):V->f'->Prop where
 |b7:qd K H .b7 (.type "NoneType")
 |bl (x:Bool):qd K H (.bl x) (.type "bool")
 |int (i:Int):qd K H (.int i) (.type "int")
 |str (x:io):qd K H (.str x) (.type "str")
 |Oo (x:UInt64):qd K H (.Oo x) (.type "float")
 |lst {a:bn} {xs:Aao} (e:H a=some (.lst xs)):qd K H (.ref a) (.type "list")
 |fX {a:bn} {o:G'} {xs:Aao} (e:H a=some (.fX o (.lst xs))):qd K H (.ref a) (.type "list")
 |tup {a:bn} {xs:Aao} (e:H a=some (.tup xs)):qd K H (.ref a) (.type "tuple")
 |dK {a:bn} {kvs:List (Key×V)} (e:H a=some (.dK kvs)):qd K H (.ref a) (.type "dict")
 |dT {a:bn} {kvs:List (List Key×V)} (e:H a=some (.dT kvs)):qd K H (.ref a) (.type "dict")
 |ins {a C dx:bn} {fs:List (io×V)} (e:H a=some (.ins C dx fs)) (cl:Em K C) (ha:findIn K (.ref C) "__class__"=some (some (.builtin "object.__class__")))
   (hn:PySem.W.specialIn K (.builtin "object.__class__") "__get__"=some (some (.builtin "getset_descriptor.__get__"))) (htk:PySem.W.takesIn K (.builtin "object.__class__")=some true)
   (hm:PySem.W.mroIn K C (.type "object")=some true):qd K H 68 (.ref C)
def Vv(I:Inv X bi Z H s)(rx:RelV x u)(ty:qd X.K H x t)(e:kitOne X.K t c=some b)(h:∀tk,Q (.bool b) {s with toks:=tk}):
  fv 59 A (EQ (.builtin "isinstance") [u,c]) Q E s:=by
 cases ty with
 |b7=>cases(show u=Value.none from rx);show fq PySem.W.kitx_none I.nq True.intro e (λz=>nomatch z) h
 |bl y=>cases(show u=Value.bool y from rx);show fq PySem.W.kitx_bool I.nq True.intro e (λz=>nomatch z) h
 |int i=>let(t,q):=(show∃t,u=Value.int i t from rx);cases q;show fq PySem.W.kitx_int I.nq True.intro e (λz=>nomatch z) h
 |str y=>let(t,q):=(show∃t,u=Value.str y t from rx);cases q;show fq PySem.W.kitx_str I.nq True.intro e (λz=>nomatch z) h
 |Oo y=>let(t,q):=(show∃t,u=Value.float y t from rx);cases q;show fq PySem.W.kitx_float I.nq True.intro e (λz=>nomatch z) h
 |@lst a xs ea=>
  cases(show u=Value.ref a from rx);let(__,__,n,__,h1):=(show dG 57 X.w H s.heap a (.lst xs)from I.bK a _ ea);show fq E4 I.nq ⟨_,h1,rfl⟩ e (λz=>nomatch z) h
 |@fX a ob xs ea=>
  cases(show u=Value.ref a from rx);let(__,__,__,n,__,h1):=(show dG 57 X.w H s.heap a (.fX ob (.lst xs))from I.bK a _ ea);show fq E4 I.nq ⟨_,h1,rfl⟩ e (λz=>nomatch z) h
 |@tup a xs ea=>
  cases(show u=Value.ref a from rx);let(__,__,__,p,__):=(show dG 57 X.w H s.heap a (.tup xs)from I.bK a _ ea);let(o,h1,h2,__):=p;show fq D9 I.nq ⟨o,h1,h2⟩ e (λz=>nomatch z) h
 |@dK a kvs ea=>
  cases(show u=Value.ref a from rx);let(__,__,vs,__,p):=(show dG 57 X.w H s.heap a (.dK kvs)from I.bK a _ ea);let(o,es,ep,h1,h2,__):=p;show fq E5 I.nq {o,h1,h2.1} e (λz=>nomatch z) h
 |@dT a kvs ea=>
  cases(show u=Value.ref a from rx);let(__,__,xs,__,o,es,ep,h1,h2,__):=(show dG 57 X.w H s.heap a (.dT kvs)from I.bK a _ ea);show fq E5 I.nq {o,h1,h2.1} e (λz=>nomatch z) h
 |@ins a C dx fs ea cl ha hn htk hm=>
  cases(show u=Value.ref a from rx);let(mA,O,__):=EH I.bK ea;let(od,J,__):=O.look;show fq (PySem.W.kitx_own (cl.get _) cl.hd ha hn htk hm) I.nq J e (λz=>nomatch z) h
end
structure iR(k:Nat)(A:mo):Prop where
 hd:A.handled=none
 dp:A.depth+3*k+5<recursionLimit
 un:A.units+16*k+200<v6
 gd:A.guards=some []
def iR.mono(r:iR k A)(h:j<=k):iR j A:={r.hd,by have:=r.dp;lia,by have:=r.un;lia,r.gd}
def iR.deeper(r:iR (k+1) A)(env:UV):iR k (A.deeper env):=
 {r.hd,by have:=r.dp;change A.depth+1+3*k+5<_;lia,by have:=r.un;change A.units+3+16*k+200<_;lia,r.gd}
def R7{A:mo}:(A.under (.builtin "type.__call__" {.ref C::us,kw})).depth=A.depth+1:=by
 first|rfl|simp[Around.under,Code.weight,Code.isCreation,Code.isGuard,Code.isCaller,Code.frames,Code.isFrame,guardIds]
def R6{A:mo}:(A.under (.builtin "type.__call__" {.ref C::us,kw})).units=A.units+1:=by
 first|rfl|simp[Around.under,Code.cUnits,Code.frames,Code.isFrame]
def iR.make(r:iR (k+1) A)(C:bn)(us:Aag)(kw:List (io×f')):iR k (A.under (.builtin "type.__call__" {.ref C::us,kw})):=
 {r.hd,by have:=r.dp;rw[R7];lia,by have:=r.un;rw[R6];lia,by first|show r.gd|(simp[Around.under,Code.guards,Code.isGuard,guardIds,pushGuards];show r.gd)}
def iR.depth(r:iR k A):A.depth<recursionLimit:=by have:=r.dp;lia
def iR.units(r:iR k A):A.units+64<v6:=by have:=r.un;lia
def iR.rE(r:iR k A):A.units<v6:=by have:=r.un;lia
def Rv:TA:=λ_ H Q=>Q [] H
def AO(ta:TE)(tr:TA):TA:=λZ H Q=>ta Z H λx H1=>tr Z H1 λxs H2=>Q (x::xs) H2
section
variable{X:Cx}{e:u8}{es:List u8}{te:TE}{t:TA}{pos:Fa}
def gS:PA X [] Rv:=λ_ _ _ _ H Q I h=>kj {[],H,I,.nil,h}
def jf(ha:PE X e te)(hr:PA X es t)(hs:i6 (e::es) X.env=(false,sn e X.env)::i6 es X.env:=by rfl):PA X (e::es) (AO te t):=by ext pos bi s Z H Q I h;rw[hs];show fZ (da (ha bi s Z H _ I h) λu s1 x H1 I1 r1 q1=>tH (hr pos bi s1 Z H1 _ I1 q1) λus s2 xs H2 I2 r2 q2=>{x::xs,H2,I2,.cons r1 r2,q2})
def bR{X:Cx}{e:u8}{te:TE}(ha:PE X e te)(hs:i6 [e] X.env=(false,sn e X.env)::i6 [] X.env:=by rfl):PA X [e] (AO te Rv):=jf ha gS hs
def cP{X:Cx}{e f:u8}{te tf:TE}(ha:PE X e te)(hb:PE X f tf)(hs:i6 [e,f] X.env=(false,sn e X.env)::i6 [f] X.env:=by rfl)(ht:i6 [f] X.env=(false,sn f X.env)::i6 [] X.env:=by rfl):PA X [e,f] (AO te (AO tf Rv)):=jf ha (bR hb ht) hs
def lQ{X:Cx}{e f g:u8}{te tf tg:TE}(ha:PE X e te)(hb:PE X f tf)(hc:PE X g tg)(hs:i6 [e,f,g] X.env=(false,sn e X.env)::i6 [f,g] X.env:=by rfl)(ht:i6 [f,g] X.env=(false,sn f X.env)::i6 [g] X.env:=by rfl)(hu:i6 [g] X.env=(false,sn g X.env)::i6 [] X.env:=by rfl):PA X [e,f,g] (AO te (AO tf (AO tg Rv))):=jf ha (cP hb hc ht hu) hs
def af3(t:TA):TE:=λZ H Q=>t Z H λxs H1=>96<=ca/\∀p,H1 p=none->Q (.ref p) (upd H1 p (.tup xs))
def af6(t:TA):TE:=λZ H Q=>t Z H λxs H1=>96<=ca/\∀p,H1 p=none->Q (.ref p) (upd H1 p (.lst xs))
def iq{x1}(h:PA X es t):PE X (.Tuple es x1 pos) (af3 t):=by ext bi s Z H Q I hq;show wpAny_Tuple_spliced (tH (h pos bi s Z H _ I hq) λus s1 xs H1 I1 r ⟨z,q⟩=>{r.length▸z,?_});show{.ref 75,upd H1 75 (.tup xs),I1.laid (λb u e=>aj _ e) (au _) ?_,9,q _ (I1.bK.fresh (au _))};show{z,us,r,{_,aR _ rfl,9,_,9},_,aR _ rfl,9}
def dS(h:PA X es t):PE X (.List es pos) (af6 t):=by ext bi s Z H Q I hq;show wpAny_List_spliced (tH (h pos bi s Z H _ I hq) λus s1 xs H1 I1 r ⟨z,q⟩=>{r.length▸z,?_});show{.ref 75,upd H1 75 (.lst xs),I1.laid (λb u e=>aj _ e) (au _) ?_,9,q _ (I1.bK.fresh (au _))};show{z,us,0,r,aR _ rfl}
abbrev Sp:=Aao->Hp->VK->XK->Prop
abbrev OZ:=List UV->Hp->cr->XK->Aae
structure JS(P:dL)(w:i3)(K:Frag)(mg:Aad)(base:i5)(A:mo)(outer:List UV)(s:cr)(H:Hp):Prop where
 frames:A.frames=some outer
 mod:Mod K mg base
 bs:∀b o,base.get? b=some o->s.heap.get? b=some o/\H b=none
 B9:base.objs.size<=17
 tX:s.heap.FunFrames base outer
 KU:∀b∈DA outer,H b=none
 bK:kh P w H s.heap
 bare:Ix s.gens
def CE(outer:List UV)(P:dL)(w:i3)(H:Hp)(s:cr)(Q:VK)(u:f')(s':cr):Prop:=
 ∃v H',s'.os=s.os/\Ix s'.gens/\Un (DA outer) [] H H' s.heap s'.heap/\kh P w H' s'.heap/\RelV v u/\Q v H'
end
def CR(CX:OZ)(outer:List UV)(P:dL)(w:i3)(H:Hp)(s:cr)(Q:VK)(E:XK)(r:TD)(s':cr):Prop:=
 match r with
 | .ok (.ret u)=>CE outer P w H s Q u s'
 | .ok _=>False
 | .error e=>CX outer H s E e s'
structure cH(P:dL)(w:i3)(K:Frag)(mg:Aad)(base:i5)(CX:OZ)(k:Nat)(f:bn)(fd:i8)(ps:Aah)(sp:Sp):Prop where
 len:∀vs H Q E,sp vs H Q E->vs.length=ps.length
 run:∀(A:mo)(outer:List UV)(s:cr)(H:Hp)(args:Args)(us:Aag)(vs:Aao)(Q:VK)(E:XK),iR k A->JS P w K mg base A outer s H->M' s fd args (ps.zip us)->Vals vs us->sp vs H Q E->
  wE (f8 P w) A (.call (.ref f) args) (CR CX outer P w H s Q E) s
def JS.make{K:Frag}(e:JS P w K mg base A outer s H)(C:bn)(us:Aag)(kw:List (io×f')):
  JS P w K mg base (A.under (.builtin "type.__call__" {.ref C::us,kw})) outer s H:={by first|show e.frames|(simpa[Around.under,Code.envs,Code.isFrame,pushEnvs]using e.frames),e.mod,e.bs,e.B9,e.tX,e.KU,e.bK,e.bare}
section
variable{X:Cx}{bi:Aac}{Z:St}{H:Hp}{s s':cr}
def Inv.env0(I:Inv X bi Z H s):JS 57 X.w X.K X.mg X.base X.A X.stack s H:=
 {I.ok.frames,I.ok.mod,I.bs,bc I.ok.B9 I.sz,I.stack,I.IM,I.bK,I.bare}
def Inv.after(I:Inv X bi Z H s)(h:CE X.stack 57 X.w H s Q u s'):EP X bi Z Q u s':=by let(v,H',os,bare,un,bK,r,q):=h;let(hh,g,d,t,Z4):=s';obtain rfl:Z4=s.os:=os;show{v,H',I.call un bK bare (λb z=>absurd z 58),r,q}
end
def ZI(sp:Sp)(rm:Aao)(E:XK)(t:TA):TE:=λZ H Q=>t Z H λvs H1=>sp (vs++rm) H1 Q E
inductive acU(C:bn)(m:io)(sp:Sp)(rm:Aao)(E:XK)(t:TA)(Z:St)(Q:VK)(x:V)(H1:Hp):Prop
 |mk a dx fs (_:x=.ref a) (_:H1 a=some (.ins C dx fs)) (_:fs.lookup m=none) (_:t Z H1 λvs H2=>sp (x::(vs++rm)) H2 Q E)
def ZG(C:bn)(m:io)(sp:Sp)(rm:Aao)(E:XK)(ta:TE)(t:TA):TE:=λZ H Q=>ta Z H λx H1=>acU C m sp rm E t Z Q x H1
def ZH(C:bn)(sp:Sp)(rm:Aao)(E:XK)(t:TA):TE:=λZ H Q=>t Z H λvs H1=>∀x dx,H1 x=none->H1 dx=none->dx≠x->
 sp (.ref x::(vs++rm)) (upd (upd H1 dx (.own x)) x (.ins C dx [])) (λv H2=>v=.b7/\Q (.ref x) H2) E
def Binds(K:Frag)(fd:i8)(ps:Aah)(ds:Aag):Prop:=
 ∀(s:cr)(us:Aag),K.In s.heap->(us++ds).length=ps.length->M' s fd {us,[]} (ps.zip (us++ds))
def Binds.all{K:Frag}(h:∀us:Aag,us.length=ps.length->KM fd {us,[]}=pure (ps.zip us)):Binds K fd ps []:=λs us _ hl=>by rw[cZ]at hl⊢;show .of_eq (h us hl)
def Passes(CX:OZ)(X:Cx)(E:XK):Prop:=∀(bi:Aac)(Z:St)(H:Hp)(s:cr)(e:f')(s':cr),Inv X bi Z H s->CX X.stack H s E e s'->X.xe e s'
section
variable{X:Cx}{CX:OZ}{k:Nat}{f C:bn}{fd:i8}{ps:Aah}{sp:Sp}{rm:Aao}{ds:Aag}{E:XK}{x m:io}{p pos AT:Fa}{e o:u8}{es:List u8}{ta:TE}{t:TA}
def Uj(F:cH 57 X.w X.K X.mg X.base CX k f fd ps sp)(hr:iR k X.A)(hb:Binds X.K fd ps ds)(hd:Vals rm ds)(hx:Passes CX X E)
  (I:Inv X bi Z H s) (r:Vals vs us) (h:sp (vs++rm) H Q E):fv 59 X.A (EQ (.ref f) us) (EP X bi Z Q) X.xe s:=by
 have r2:=r.append hd;show GZ (mz (F.run X.A X.stack s H {us,[]} (us++ds) (vs++rm) Q E hr I.env0 (hb s us I.nq (by rw[<-r2.length];show F.len _ _ _ _ h)) r2 h) λr s' hq=>?_);cases r with
 |error e=>show hx bi Z H s e s' I hq
 |ok fl=>
  cases fl with
  |ret u=>show I.after hq
  |next=>show False.elim hq
  |brk=>show False.elim hq
  |cont=>show False.elim hq
def abr(F:cH 57 X.w X.K X.mg X.base CX k f fd ps sp)(hr:iR k X.A)(hg:Gl X x)(hm:X.mg x=some (.ref f))(hk:keepIn X.K (.ref f)=true)(hb:Binds X.K fd ps ds)(hd:Vals rm ds)(hx:Passes CX X E)
  (ha:PA X (e::es) t) (Dk:87=false:=by decide) (he:i6 (e::es) X.env=(false,sn e X.env)::i6 es X.env:=by rfl) (jV:(xL pos (i6 es X.env)).any (·.1)=false:=by rfl):
  PE X (.Call (.Name x p) (e::es) [] pos) (ZI sp rm E t):=by
 ext bi s Z H Q I h;show oh (Jn I hg hm ?_ Dk);show uZ I.ok.mod.Qu hk (tH (ha pos bi s Z H _ I h) λus s1 vs H1 I1 r q=>{I1.nq,Uj F hr hb hd hx I1 r q}) he jV
def abo(he:PE X o ta)(c:Em X.K C)(hm:Meth X.K C m f)(F:cH 57 X.w X.K X.mg X.base CX k f fd ps sp)(hr:iR k X.A)(hb:Binds X.K fd ps ds)(hd:Vals rm ds)(hx:Passes CX X E)(ha:PA X (e::es) t)
  (yA:i6 (e::es) X.env=(false,sn e X.env)::i6 es X.env:=by rfl) (jV:(xL pos (i6 es X.env)).any (·.1)=false:=by rfl)
  (ht:sn (.Call (.Attribute o m AT) (e::es) [] pos) X.env=(do
   let ov<-sn o X.env
   U' AT.atName
   let(f,first)<-FM [ov] (UF ov m pl)
   callWith pos f first (xL pos (i6 (e::es) X.env)) (SZ pos (J' [] X.env))):=by rfl):
  PE X (.Call (.Attribute o m AT) (e::es) [] pos) (ZG C m sp rm E ta t):=by
 ext bi s Z H Q I h;show PySem.W.methodCall_KW (da (he bi s Z H _ I h) λu s1 x H1 I1 rx ag7=>?_) ht;let(a,dx,fs,ex,ea,l,q):=ag7;subst ex;obtain rfl:u=Value.ref a:=rx;show Sz I1 ea c hm l ?_;show uZ I.ok.mod.Qu hm.kp (tH (ha pos bi s1 Z H1 _ I1 q) λus s2 vs H2 I2 r q2=>{I2.nq,?_}) yA jV;show Uj (vs:=.ref a::vs) F hr hb hd hx I2 (.cons 9 r) q2
structure Mk(K:Frag)(C f:bn):Prop where
 makes:PySem.W.makesIn K C=true
 init:findIn K (.ref C) "__init__"=some (some (.ref f))
 fn:isFn K (.ref f)=true
 kp:keepIn K (.ref C)=true
def Xv(M:Mk X.K C f)(F:cH 57 X.w X.K X.mg X.base CX k f fd ps sp)(hr:iR (k+1) X.A)(hb:Binds X.K fd ps ds)(hd:Vals rm ds)
  (hx:Passes CX X E) (I:Inv X bi Z H s) (r:Vals vs us)
  (h:∀x dx,H x=none->H dx=none->dx≠x->sp (.ref x::(vs++rm)) (upd (upd H dx (.own x)) x (.ins C dx [])) (λv H2=>v=.b7/\Q (.ref x) H2) E):
  fv 59 X.A (EQ (.ref C) us) (EP X bi Z Q) X.xe s:=by
 have hq:=h (17+1) 17 (I.bK.fresh (d8 _)) (I.bK.fresh (au _)) (aW (dJ _));have I2:=Inv.made (C:=C) I;have r2:Vals (V.ref (17+1)::(vs++rm)) (Value.ref (17+1)::(us++ds)):=.cons rfl (r.append hd);have hl:(Value.ref (17+1)::us++ds).length=ps.length:=by have e:=r2.length;rw[F.len _ _ _ _ hq]at e;show e.symm
 show GZ (Yd I.nq M.makes M.init (sj.mp M.fn) (mz (F.run _ X.stack _ _ {Value.ref (17+1)::us,[]} (Value.ref (17+1)::(us++ds)) _ _ E (hr.make C us [])
  (I2.env0.make C us []) (hb _ (Value.ref (17+1)::us) I2.nq hl) r2 hq) λr s' B2=>?_))
 cases r with
 |error e=>show hx bi Z _ _ e s' I2 B2
 |ok fl=>
  cases fl with
  |ret u=>
   let(v,H',I3,rv,ev,q3):=I2.after B2;subst ev;show{rv,{V.ref (17+1),H',I3,9,q3}}
  |next=>show False.elim B2
  |brk=>show False.elim B2
  |cont=>show False.elim B2
def abp(M:Mk X.K C f)(F:cH 57 X.w X.K X.mg X.base CX k f fd ps sp)(hr:iR (k+1) X.A)(hg:Gl X x)(hm:X.mg x=some (.ref C))(hb:Binds X.K fd ps ds)(hd:Vals rm ds)(hx:Passes CX X E)
  (ha:PA X (e::es) t) (Dk:87=false:=by decide) (he:i6 (e::es) X.env=(false,sn e X.env)::i6 es X.env:=by rfl) (jV:(xL pos (i6 es X.env)).any (·.1)=false:=by rfl):
  PE X (.Call (.Name x p) (e::es) [] pos) (ZH C sp rm E t):=by
 ext bi s Z H Q I h;show oh (Jn I hg hm ?_ Dk);show uZ I.ok.mod.Qu M.kp (tH (ha pos bi s Z H _ I h) λus s1 vs H1 I1 r q=>{I1.nq,Xv M F hr hb hd hx I1 r q}) he jV
variable{ks:Aah}
structure ahY(K:Frag)(fd:i8)(ps ks:Aah)(g:Aag->Aag->Aag)(gV:Aao->Aao->Aao):Prop where
 to:∀(s:cr)(us ws:Aag),K.In s.heap->(g us ws).length=ps.length->M' s fd {us,ks.zip ws} (ps.zip (g us ws))
 rel:∀{vs:Aao}{us:Aag}{zs:Aao}{ws:Aag},Vals vs us->Vals zs ws->Vals (gV vs zs) (g us ws)
end
structure bX(N P:Aah)(sc:ww):Prop where
 kind:sc.kind=.function
 co:sc.isCoroutine=false
 gen:sc.isGenerator=false
 nd:N.Nodup
 pre:N.take P.length=P
 par:∀x∈P,sc.names.lookup x=some .local\/sc.names.lookup x=some .cell
 adO:∀y∈sc.names,y.2≠ .free
def gg{N P:Aah}{sc:ww}(h:sc.kind=.function/\sc.isCoroutine=false/\sc.isGenerator=false/\N.Nodup/\N.take P.length=P/\(∀x∈P,sc.names.lookup x=some .local\/sc.names.lookup x=some .cell)/\∀y∈sc.names,y.2≠ .free):bX N P sc:={h.1,h.2.1,h.2.2.1,h.2.2.2.1,h.2.2.2.2.1,h.2.2.2.2.2.1,h.2.2.2.2.2.2}
def gB{X:Cx}{x:io}{pos:Fa}{ps:Aah}{sc:ww}(i:Nat)(S:bX X.N ps sc)(hi:X.N[i]?=some x:=by rfl)(hx:X.env.scope.names.lookup x=some .local:=by rfl):PG X (.Name x pos) (yF i):=o6 S.nd hi (Or.inl hx) (Or.inr hx)
def dW{X:Cx}{x:io}{pos pos':Fa}{e:u8}{te:TE}{ps:Aah}{sc:ww}(i:Nat)(S:bX X.N ps sc)(he:PE X e te)(hi:X.N[i]?=some x:=by rfl)(hx:X.env.scope.names.lookup x=some .local:=by rfl)(hs:AC e (some (.Name x pos')) pos.line X.env=pure false:=by rfl):PS X (.Assign [.Name x pos'] e pos) (W9 te (yF i)):=ka S.nd hi (Or.inl hx) he hs (Or.inr hx)
theorem Lc{kindOf:io->Option wn}:∀{binds:List (io×f')}{m:Aad},(∀v,(x,v)∉binds)->bindL kindOf binds m x=m x
 |[],_,_=>rfl
 |(n,v)::r,m,h=>by
  unfold bindL;rw[Lc λw hw=>h w (ay _ hw)];split
  ·have:x≠n:=by ext rfl;show h v aw
   simp[this]
  ·rfl
theorem Le{kindOf:io->Option wn}:∀{binds:List (io×f')}{m:Aad},(∀v,(x,v)∉binds)->bindC kindOf binds m x=m x
 |[],_,_=>rfl
 |(n,v)::r,m,h=>by
  unfold bindC;rw[Le λw hw=>h w (ay _ hw)];split
  ·rfl
  ·have:x≠n:=by ext rfl;show h v aw
   simp[this]
theorem Ld{kindOf:io->Option wn}:∀{P:Aah}{vs:Aag}{i:Nat}{m:Aad},P.Nodup->P[i]?=some x->vs[i]?=some v->kindOf x=some .local->
  bindL kindOf (P.zip vs) m x=some v
 |[],_,_,_,_,h,_,_=>by simp at h
 |_::_,[],_,_,_,_,h,_=>by simp at h
 |p::P,w::vs,0,m,nd,h1,h2,hk=>by simp at h1 h2;subst h1;subst h2;change bindL kindOf ((p,w)::P.zip vs) m p=_;unfold bindL;rw[Lc λv hv=>(cY.mp nd).1 (yM hv).1,aL hk];simp
 |p::P,w::vs,i+1,m,nd,h1,h2,hk=>by unfold bindL;show Ld (cY.mp nd).2 (by simpa using h1) (by simpa using h2) hk
theorem Lf{kindOf:io->Option wn}:∀{P:Aah}{vs:Aag}{i:Nat}{m:Aad},P.Nodup->P[i]?=some x->vs[i]?=some v->kindOf x≠some .local->
  bindC kindOf (P.zip vs) m x=some v
 |[],_,_,_,_,h,_,_=>by simp at h
 |_::_,[],_,_,_,_,h,_=>by simp at h
 |p::P,w::vs,0,m,nd,h1,h2,hk=>by simp at h1 h2;subst h1;subst h2;change bindC kindOf ((p,w)::P.zip vs) m p=_;unfold bindC;rw[Le λv hv=>(cY.mp nd).1 (yM hv).1,aI hk];simp
 |p::P,w::vs,i+1,m,nd,h1,h2,hk=>by unfold bindC;show Lf (cY.mp nd).2 (by simpa using h1) (by simpa using h2) hk
def start(N:Aah)(vs:Aao):St:=vs.map some++List.replicate (N.length -vs.length) none
noncomputable def OI(CX:OZ)(P:dL)(w:i3)(K:Frag)(mg:Aad)(base:i5)(N:Aah)(xz:io)(scope:ww)(f:bn)(cd:f')(A:mo)(outer:List UV)(s:cr)(H:Hp)(E:XK):Cx where
 prog:=P
 w:=w
 K:=K
 mg:=mg
 base:=base
 A:=A.deeper (KE xz scope 17 f cd)
 N:=N
 aab:=s
 aae:=H
 env:=KE xz scope 17 f cd
 outer:=outer
 stack:=KE xz scope 17 f cd::outer
 ex:=[]
 calm:=true
 fn:=λ_=>true
 pn:=[]
 xe:=λe s'=>fv (f8 P w) (A.deeper (KE xz scope 17 f cd)) (leaving (KE xz scope 17 f cd) e) (λ_ s''=>CX outer H s E e s'') (λe' s''=>CX outer H s E e' s'') s'
def OO{sc:ww}(h:sc.names.lookup x=some .cell):∃c,(cellsFrom n sc.names []).lookup x=some c:=by show xE.mp (zC sc.names n [] (.inl h))
def Vx{K:Frag}
  (S:bX N ps scope) (hd:A.handled=none) (e0:JS P w K mg base A outer s H) (hl:vs.length=ps.length) (r:Vals vs us)
  (x:InCallC s 17 (bindL (KE xz scope 17 f cd).kindOf (ps.zip us) λ_=>none) (cellsFrom (17+1) scope.names []) (bindC (KE xz scope 17 f cd).kindOf (ps.zip us) λ_=>none) s1):
  Inv (OI CX P w K mg base N xz scope f cd A outer s H E) [] (start N vs) H s1:=by
 have jV:ps.length<=N.length:=by have:=cW List.length S.pre;rw[aV]at this;lia
 let(h1,tk,rfl,hk):=x.done;have U0:∀b:bn,b∉(OI CX P w K mg base N xz scope f cd A outer s H E).ex:=λb z=>absurd (show b∈([]:Aaj)from z) 58;show{{e0.mod,S.kind,9,9,au _,λy z c h1 h2=>?_,λy hy=>?_,λy c _ h=>?_,λ_=>hd,Around.frames_deeper e0.frames,.inr ⟨rfl,rfl⟩,λb z=>absurd z (U0 b),e0.bs,e0.B9,λb _ _=>U0 b,λb z=>absurd z (U0 b),e0.tX,e0.KU},
  rfl,e0.bare,Un.kept hk,{_,x.toInCall.ns,λi y v h1 h2 h3=>?_},λy c h=>{_,x.cell y c h},e0.bK.fresh (au _),λy c h=>?_,λp hp=>absurd (show p∈([]:Aac)from hp) 58,e0.bK.kept hk,?_}
 ·show name_of_addr x.apart (kR h1) (kR h2)
 ·have hy:=hy;rcases hy with hy|hy
  ·show OO hy
  ·show absurd rfl (S.adO _ (kR hy))
 ·show bE (x.above y c (kR h))
 ·have hi:i<vs.length:=by
   unfold start at h2;by_cases hi:i<vs.length
   ·show hi
   ·rw[eW (by simpa using hi)]at h2;rw[yd]at h2;split at h2<;>cases h2
  have ha:vs[i]?=some v:=by
   unfold start at h2;rw[gH (by simpa using hi),aZ]at h2;cases e:vs[i]? with
   |none=>rw[e]at h2;cases h2
   |some a=>rw[e]at h2;cases h2;rfl
  let(u,hu,rv):=r.get ha;have hp:ps[i]?=some y:=by rw[<-S.pre,xN ∅];show h1
  have ndP:ps.Nodup:=by rw[<-S.pre];show S.nd.sublist (E7 _ _)
  show{u,rv,?_};rcases S.par y (aE hp)with k|k
  ·show .inl {k,Ld ndP hp hu k}
  ·let(c,e):=OO k;show .inr {.inl k,c,e,?_};have q:=x.cell y c e;rw[Lf ndP hp hu (by change scope.names.lookup y≠_;rw[k];decide)]at q;show q
 ·show e0.bK.fresh (bE (x.above y c (kR h)))
 ·unfold start;change _=N.length;rw[aC,ah,fV];lia
def afR{K:Frag}{dV kV doc pm cX ct oc:f'}
     (lk:K.lookup f=some {oc,od,.func (fnOf name xz params body scope dV kV doc pm an cX ct),BX}) (Dw:codeIn K cX xz=true) (S:bX N ps scope)
  (len:∀vs H Q E,sp vs H Q E->vs.length=ps.length)
  (Sr:∀(A:mo)(outer:List UV)(s:cr)(H:Hp)(vs:Aao)(Q:VK)(E:XK),iR k (A.deeper (KE xz scope 17 f cX))->sp vs H Q E->
   ∃t,qr (OI CX P w K mg base N xz scope f cX A outer s H E) body t/\t {nx:=λ_ H'=>Q .b7 H',rt:=Q} (start N vs) H):
  cH P w K mg base CX (k+1) f (fnOf name xz params body scope dV kV doc pm an cX ct) ps sp:=by
 show{len,λA outer s H args us vs Q E hr e0 hb r KC=>?_};have hl:=len _ _ _ _ KC;have KX:=e0.mod.Qu.keeps λb o e=>(e0.bs b o e).1;have afK:∀y∈ps.zip us,scope.names.lookup y.1=some .local\/(scope.names.lookup y.1=some .cell/\((cellsFrom (17+1) scope.names []).lookup y.1).isSome=true):=λ⟨n,v⟩ hy=>by
  rcases S.par n (yM hy).1 with q|q
  ·show .inl q
  ·show .inr {q,zC _ _ _ (.inl q)}
 show codeAny_call_function hr.depth (KX _ _ lk) rfl S.co S.gen rfl (PySem.W.codeRec_of KX Dw) (hb _ _ _ _ ?_);show wpAny_newFunctionEnv_cells S.kind afK λenv he s1 x=>?_;subst he;show{(e0.mod.nolimit.keeps λb o e=>(e0.bs b o e).1).keeps x.toInCall.keep,codeAny_func ?_};let(t,ht,hq):=Sr A outer s H vs Q E (hr.deeper _) KC;show dE (ht [] s1 (start N vs) H _ (Vx S hr.hd e0 hl r x) hq) (λfl s' hs=>?_) λe s' hs=>hs;have fin:∀{σ':St}{H':Hp}{v:V}{u:f'},Inv (OI CX P w K mg base N xz scope f cX A outer s H E) [] σ' H' s'->RelV v u->Q v H'->CE outer P w H s Q u s':=
  λ{σ' H' v u} J rv q=>{v,H',J.os,J.bare,J.base,J.bK,rv,q}
 cases fl with
 |ret u=>
  obtain⟨v,σ',H',J,rv,q⟩:=hs;show fin J rv q
 |next=>
  obtain⟨σ',H',J,q⟩:=hs;show fin (v:=V.b7) J rfl q
 |brk=>
  let(__,__,__,q):=hs;show False.elim q
 |cont=>
  let(__,__,__,q):=hs;show False.elim q
section
variable{X:Cx}{x:io}{p pos:Fa}{e:u8}{es:List u8}{t:TA}{id T:String}{r:Aao->Hp->VK->Prop}
def tCB(r:Aao->Hp->VK->Prop)(t:TA):TE:=λZ H Q=>t Z H λvs H1=>r vs H1 Q
def bD(hc:gJ X (.builtin id) r)(hg:Gl X x)(hm:X.mg x=none)(hv:wT x=some (.builtin id))(ha:PA X (e::es) t)(hn:x≠"__name__":=by decide)(Dk:87=false:=by decide)
  (he:i6 (e::es) X.env=(false,sn e X.env)::i6 es X.env:=by rfl) (jV:(xL pos (i6 es X.env)).any (·.1)=false:=by rfl):PE X (.Call (.Name x p) (e::es) [] pos) (tCB r t):=by
 ext bi s Z H Q I h;show oh (rV I hg hm hv (PyProof.Rows.callWith_builtin1 (tH (ha pos bi s Z H _ I h) λus s1 vs H1 I1 r1 q1=>hc bi s1 Z H1 vs us Q I1 r1 q1) he jV) hn Dk)
def dc(hc:gJ X (.type T) r)(hg:Gl X x)(hm:X.mg x=none)(hv:wT x=some (.type T))(ha:PA X (e::es) t)(hn:x≠"__name__":=by decide)(Dk:87=false:=by decide)
  (he:i6 (e::es) X.env=(false,sn e X.env)::i6 es X.env:=by rfl) (jV:(xL pos (i6 es X.env)).any (·.1)=false:=by rfl):PE X (.Call (.Name x p) (e::es) [] pos) (tCB r t):=by
 ext bi s Z H Q I h;show oh (rV I hg hm hv (eK (tH (ha pos bi s Z H _ I h) λus s1 vs H1 I1 r1 q1=>hc bi s1 Z H1 vs us Q I1 r1 q1) he jV) hn Dk)
end
end L2
namespace HT
open PySem PyProof.Rows
section
open PySem.SeqAt
open PySem.AutoSeq1 (wpAny_loadPart')
open PySem.MeetsSeq PySem.MeetsSeq2 PySem.MeetsSeq3
end
section
variable{prog:dL}{w:i3}{A:mo}{E:Aae}{s:cr}
def acq(ht:Op s.heap t vs.toArray)(hb:Op s.heap b ws.toArray)(hv:vs≠[])
  (h1:ws=[]->Q (.ref t) s) (h2:ws≠[]->Q (.ref 17) {s with heap:=s.heap.push {cls:=.type "tuple",data:=.seq (vs++ws).toArray}})
  (hsz:vs.length+ws.length<=ca):fv 24 A (x0 .Add (.ref t) (.ref b)) Q E s:=by
 obtain⟨⟨cls,dd,data,sl⟩,ho,hc,n,hd⟩:=id ht;obtain⟨⟨ahK,dd2,data2,ZQ⟩,vE,uS,n2,hd2⟩:=id hb;simp only at hc hd uS hd2;subst hc hd uS hd2;have e:vs.toArray++ws.toArray=(vs++ws).toArray:=by simp
 by_cases hw:ws=[]
 ·show DJ ⟨_,ho,rfl⟩ ⟨_,vE,rfl⟩ wZ BO qq pT (oJ _ _)
   (tuple_addW1 t b vs.toArray ws.toArray n n2 dd dd2 sl ZQ (by simpa using hv) (by simp[hw])) {ho,vE,h1 hw}
 ·show DJ ⟨_,ho,rfl⟩ ⟨_,vE,rfl⟩ wZ BO qq pT (oJ _ _)
   (tuple_addW2 t b vs.toArray ws.toArray n n2 dd dd2 sl ZQ (by simpa using hv) (by simpa using hw) (by rw[aQ,aQ];show hsz)) {ho,vE,?_}
  rw[e];show h2 hw
def eJ(n d:Nat):Option Int->Nat
 |none=>d
 |some v=>if v<0 then(v+(n:Int)).toNat else min v.toNat n
def Gh(n d:Nat):eJ n d none=d:=9
def IY(n d k:Nat):eJ n d (some (k:Int))=min k n:=by change(if(k:Int)<0 then((k:Int)+(n:Int)).toNat else min (k:Int).toNat n)=min k n;rw[aI ∅,eT]
def Q6(v:Int)(n d:Nat):(if v<0 then max (v+(n:Int)) 0 else min v (n:Int))=((eJ n d (some v):Nat):Int):=by
 change(if v<0 then max (v+(n:Int)) 0 else min v (n:Int))=(((if v<0 then(v+(n:Int)).toNat else min v.toNat n):Nat):Int);by_cases hv:v<0
 ·simp only[aL hv];lia
 ·simp only[aI hv];lia
def Tc(lo hi:Option Int)(n:Nat):Builtin.Slice.sliceAdjust lo hi 1 (n:Int)=(((eJ n 0 lo:Nat):Int),((eJ n n hi:Nat):Int)):=by
 have h1:¬((1:Int)<0):=by lia
 unfold Builtin.Slice.sliceAdjust;show GW ?_ ?_
 ·cases lo with
  |none=>rfl
  |some v=>show Q6 v n 0
 ·cases hi with
  |none=>rfl
  |some v=>show Q6 v n n
def RK(i j:Nat):Builtin.Slice.slicePlaces (i:Int) (j:Int) 1=j -i:=by
 unfold Builtin.Slice.slicePlaces;have h1:(1:Int)>0:=by lia
 split<;>lia
def Ha{v:f'}{o:Option Int}{Q:Option Int->cr->Prop}(p:KB v o)(h:Q o s):fv 24 A (Builtin.Slice.slicePartIndex v) Q E s:=by
 cases p with
 |none=>show slicePart_none h
 |int i t=>show slicePart_int h
def wF{sl:bn}{vl vu:f'}{lo hi:Option Int}{n:Nat}{Q:Int×Int×Nat->cr->Prop}(hs:s.heap.IsSliceOf sl vl vu .none)(pl:KB vl lo)(pu:KB vu hi)
  (h:Q (((eJ n 0 lo:Nat):Int),1,eJ n n hi -eJ n 0 lo) s):fv 24 A (Builtin.Slice.sliceApplied (.ref sl) (pure (n:Int))) Q E s:=by
 let(os,NS,hcs,VW):=id hs;show ae (ae (dw NS VW 9 (ae (dw NS VW 9 (ae (dw NS VW 9 (ao ?_)))))));show ae (slicePart_none ?_);show ae (Ha pl (ae (Ha pu (ae (ao ?_)))));change fv _ _ (match Builtin.Slice.sliceAdjust lo hi 1 (n:Int)with|(lo,hi)=>pure (lo,(1:Int),Builtin.Slice.slicePlaces lo hi 1)) _ _ s;rw[Tc lo hi n];change fv _ _ (pure (((eJ n 0 lo:Nat):Int),(1:Int),Builtin.Slice.slicePlaces ((eJ n 0 lo:Nat):Int) ((eJ n n hi:Nat):Int) 1)) _ _ s;rw[RK];show ao h
def XJ(xs:Aal)(i k:Nat):((List.range k).filterMap λ(m:Nat)=>xs[((i:Int)+(m:Int)*1).toNat]?).toArray=((xs.toList.drop i).take k).toArray:=by
 have e:(λ(m:Nat)=>xs[((i:Int)+(m:Int)*1).toNat]?)=λm=>xs[i+m]?:=by
  funext m;have:((i:Int)+(m:Int)*1).toNat=i+m:=by lia
  rw[this]
 rw[e];have:=pick_run xs i k;rw[u4]at this;have e2:((λx=>xs[x]?)∘λx=>i+x)=λm=>xs[i+m]?:=9;rw[e2]at this;rw[this]
def EZ{t sl:bn}{items:Aal}{vl vu:f'}{lo hi:Option Int}{Q:Aae}(ht:Op s.heap t items)(hs:s.heap.IsSliceOf sl vl vu .none)(pl:KB vl lo)(pu:KB vu hi)
  (hw:¬(eJ items.size 0 lo=0/\eJ items.size items.size hi=items.size))
  (h:Q (.ref 17) {s with heap:=s.heap.push {cls:=.type "tuple",data:=.seq ((items.toList.drop (eJ items.size 0 lo)).take 347).toArray}})
  (hsz:items.size<=ca):fv 24 A (getItem (.ref t) (.ref sl)) Q E s:=by
 have LI:sizeOk (.seq ((items.toList.drop (eJ items.size 0 lo)).take 347).toArray):=by change((items.toList.drop (eJ items.size 0 lo)).take 347).toArray.size<=ca;rw[aQ,aV,c9,bB];lia
 let(os,NS,hcs,VW):=id hs;unfold getItem
 try with_reducible show b5 ?_
 first|show ae (ao ?_)|skip
 show ae (EU ht.typeIs 7 ?_);show ae (jp ht.typeIs eU
  (b9 eU ht.typeIs Cf ?_ (DV _ _)))
 change fv _ _ (Builtin.Tuple.tupleItemsOf (.ref t)>>=_) _ _ s;show ae (tupleItemsOf_ ht ?_);show ae (ij (⟨os,NS,hcs⟩) ?_);show ae (wF hs pl pu ?_);have Al:¬(81=true):=by ext q;rw[bQ,bQ]at q;have q1:=dX q.1.1;have q2:=dX q.2;show hw {8,8}
 change fv _ _ (if 81=true then _ else _) _ _ s;rw[aI Al,XJ]
 first
  |show ae (cT (ao ⟨_,rfl,ao h⟩) LI)
  |show ae (cT (ae (ao (ao ⟨_,rfl,ao h⟩))) LI)
  |show ae (ae (cT (ao (ao ⟨_,rfl,ao h⟩)) LI))
  |show ae (ae (cT (ao ⟨_,rfl,ao h⟩) LI))
end
end HT
namespace L2
open PySem PySem.Spec PyProof.Rows
abbrev TO:=St->Hp->(Option Int->Hp->Prop)->Prop
def PO(X:Cx)(e:Option u8)(t:TO):Prop:=
 ∀(bi:Aac)(s:cr)(Z:St)(H:Hp)(Q:Option Int->Hp->Prop),Inv X bi Z H s->t Z H Q->
  fv 59 X.A (evalPart e X.env) (λu s'=>∃o H',Inv X bi Z H' s'/\KB u o/\Q o H') X.xe s
def PN:TO:=λ_ H Q=>Q none H
inductive acS(Q:Option Int->Hp->Prop)(x:V)(H1:Hp):Prop
 |mk i (_:x=.int i) (_:Q (some i) H1)
def afc(t:TE):TO:=λZ H Q=>t Z H λx H1=>acS Q x H1
section
variable{X:Cx}{e:u8}{te:TE}{lo hi:Option u8}{tl th:TO}{pos p2:Fa}
def jw:PO X none PN:=by ext bi s Z H Q I h;show ao {none,H,I,.none,h}
def iH(h:PE X e te):PO X (some e) (afc te):=by ext bi s Z H Q I hw;show da (h bi s Z H _ I hw) λu s1 x H1 I1 r1 q1=>?_;let(i,rfl,q):=q1;let(t,rfl):=r1;show{some i,H1,I1,.int i t,q}
def Q9(X:Cx)(r:V->Option Int->Option Int->Hp->VK->Prop):Prop:=
 ∀(bi:Aac)(s:cr)(Z:St)(H:Hp)(x:V)(v vl vu:f')(lo hi:Option Int)(sl:bn)(Q:VK),Inv X bi Z H s->RelV x v->s.heap.IsSliceOf sl vl vu .none->KB vl lo->KB vu hi->r x lo hi H Q->
  ∃T id,Fk (.type T) "__getitem__"=pure (some (.builtin id))/\s.TypeIs v T/\fv 59 X.A (getItem v (.ref sl)) (EP X bi Z Q) X.xe s
def tSl(r:V->Option Int->Option Int->Hp->VK->Prop)(te:TE)(tl th:TO):TE:=λZ H Q=>te Z H λx H1=>tl Z H1 λl H2=>th Z H2 λu H3=>r x l u H3 Q
def ia(hr:Q9 X r)(he:PE X e te)(hl:PO X lo tl)(hu:PO X hi th):PE X (.Subscript e (.Slice lo hi none p2) pos) (tSl r te tl th):=by ext bi s Z H Q I h;show IA (da (he bi s Z H _ I h) λv s1 x H1 I1 r1 q1=>?_);show wpAny_Slice (hU (hl bi s1 Z H1 _ I1 q1) λvl s2 ag6=>?_);let(l,H2,I2,pl,q2):=ag6;show hU (hu bi s2 Z H2 _ I2 q2) λvu s3 ag5=>?_;let(u,H3,I3,pu,q3):=ag5;show ao ?_;have I4:Inv X bi Z H3 {s3 with heap:=s3.heap.push {cls:=.type "slice",data:=.fields #[vl,vu,.none]}}:=I3.kept λb ob q=>aj _ q;let(T,id,hT,ht,hg):=hr bi {s3 with heap:=s3.heap.push {cls:=.type "slice",data:=.fields #[vl,vu,.none]}} Z H3 x v vl vu l u s3.heap.objs.size Q I4 r1 (Heap.IsSliceOf.new ..) pl pu q3;show tail_any ht hT hg 86
def qH(xs:Aao)(lo hi:Option Int):Aao:=(xs.drop (HT.eJ 96 0 lo)).take (HT.eJ 96 96 hi -HT.eJ 96 0 lo)
def FV(xs:Aao)(lo hi:Option Int):(qH xs lo hi).length<=96:=by unfold qH;rw[aV,c9];lia
def agg(K:Frag):V->Option Int->Option Int->Hp->VK->Prop:=λx lo hi H Q=>∃a xs,x=.ref a/\ba K H a xs/\
 ¬(HT.eJ 96 0 lo=0/\HT.eJ 96 96 hi=96)/\∀p,H p=none->Q (.ref p) (upd H p (.tup (qH xs lo hi)))
def ac5:Q9 X (agg X.K):=by ext bi s Z H x v vl vu lo hi sl Q I rx hs pl pu h;let(a,xs,rfl,hx,hw,q):=h;cases rx;let(aY,r,ht,hz):=I.tuple hx;have hlen:aY.toArray.size=96:=aQ▸r.length.symm;show{"tuple",_,eU.lookup,ht.typeIs,?_};show HT.EZ ht hs pl pu (hlen▸hw) ?_ (hlen▸hz);rw[hlen];show{.ref 17,_,I.laid (λb ob q=>aj _ q) (au _) ?_,9,q _ (I.bK.fresh (au _))};show{bc (FV xs lo hi) hz,_,(r.drop (HT.eJ 96 0 lo)).take (HT.eJ 96 96 hi -HT.eJ 96 0 lo),IsTup.new _ _,_,aR _ rfl,9}
def Vals.Ac(r:Vals xs us):us=[]↔xs=[]:=by
 cases r with
 |nil=>simp
 |cons _ _=>simp
def Ky(n:Nat)(i:Int):Option Nat:=if 0<=i then(if i<n then some i.toNat else none)else if -(n:Int)<=i then some (i+n).toNat else none
def uX(xs:List α)(i:Int):Option α:=(Ky 96 i).bind λj=>xs[j]?
def Js(h:Ky n i=some j):Uf i n=some j/\j<n/\-(n:Int)<=i/\i<n:=by
 unfold Ky at h;by_cases h0:0<=i
 ·rw[aL h0]at h;by_cases h1:i<n
  ·rw[aL h1]at h;have e:=bY h;show{by rw[Fq h0 h1,e],8,8,h1}
  ·rw[aI h1]at h;cases h
 ·rw[aI h0]at h;by_cases h1:-(n:Int)<=i
  ·rw[aL h1]at h;have e:=bY h;show{by rw[Cy ∅ h1,e],8,h1,8}
  ·rw[aI h1]at h;cases h
def JL(h:uX xs i=some v):∃j,Uf i 96=some j/\xs[j]?=some v/\j<96/\-(96:Int)<=i/\i<96:=by
 unfold uX at h;cases e:Ky 96 i with
 |none=>rw[e]at h;cases h
 |some j=>
  rw[e]at h;let(h1,h2,h3,h4):=Js e;show⟨j,h1,h,h2,h3,h4⟩
def iK{xs:List α}{j:Nat}{v:α}(h:xs[j]?=some v):uX xs (j:Int)=some v:=by
 have hj:=(aq.mp h).1;have e:Ky 96 (j:Int)=some j:=by unfold Ky;rw[aL ∅,aL ∅];simp
 unfold uX;rw[e];show h
def acz(b:u8):Prop:=∀o i,NE b false o i=operate [o,i] (getItem o i)
end
def Rc(X:Cx)(r:R2):Prop:=
 ∀(value slice:u8)(bi:Aac)(s:cr)(Z:St)(H:Hp)(x y:V)(v u:f')(Q:VK),Inv X bi Z H s->RelV x v->RelV y u->r x y H Q->
  NE slice false v u=operate [v,u] (getItem v u)->fv 59 X.A (subscriptTail value slice v u) (EP X bi Z Q) X.xe s
def MtR(X:Cx)(id:String)(r:V->Aao->Hp->VK->Prop):Prop:=
 ∀(bi:Aac)(s:cr)(Z:St)(H:Hp)(x:V)(xs:Aao)(v:f')(us:Aag)(Q:VK),Inv X bi Z H s->RelV x v->Vals xs us->r x xs H Q->
  fv 59 X.A (EQ (.builtin id) (v::us)) (EP X bi Z Q) X.xe s
section
variable{X:Cx}{a b:u8}{ta tb:TE}{pos:Fa}
def bF(hr:Rc X r)(ha:PE X a ta)(hb:PE X b tb)(hs:acz b):PE X (.Subscript a b pos) (ZF r ta tb):=by ext bi s Z H Q I h;show IA (Zh ha hb I h λv u s2 x y H2 I2 rx ry q=>hr a b bi s2 Z H2 x y v u Q I2 rx ry q (hs _ _))
inductive adk(K:Frag)(x:V)(y:V)(H:Hp)(Q:VK):Prop
 |mk p xs i v (_:x=.ref p) (_:y=.int i) (_:bg K H p xs) (_:uX xs i=some v) (_:Q v H)
inductive adj(K:Frag)(x:V)(y:V)(H:Hp)(Q:VK):Prop
 |mk p xs i v (_:x=.ref p) (_:y=.int i) (_:ba K H p xs) (_:uX xs i=some v) (_:Q v H)
inductive agi(x:V)(y:V)(H:Hp)(Q:VK):Prop
 |mk z i c (_:x=.str z) (_:y=.int i) (_:z.length<=ca) (_:uX z.cps.toList i=some c) (_:Q (.str ⟨#[c]⟩) H)
def eA:Rc X (adk X.K):=by
 ext value slice bi s Z H x y v u Q I rx ry h hs;let(p,xs,i,z,rfl,rfl,hq,he,q):=h;cases rx;let(t,rfl):=ry;let(aY,r,pl,hz):=I.list hq;let(j,h1,h2,h3,h4,h5):=JL he;let(w,ew,qR):=r.get h2;have hl:=r.length;have hn:=Ae;have fin:EP X bi Z Q w s:=⟨z,H,I,qR,q⟩;by_cases h0:0<=i
 ·have hj:i.toNat=j:=by rw[Fq h0 h5]at h1;show bY h1
  show item_listR pl.isList h0 ∅ (by rw[hj];simpa using ew) fin hs
 ·have hj:(i+(aY.toArray.size:Int)).toNat=j:=by rw[Cy ∅ h4]at h1;rw[aQ,<-hl];show bY h1
  show yW pl.isList.typeIs slot_list_getitem.lookup
   (wpAny_getItem_list_neg pl.isList ∅ (by rw[aQ]<;>lia) ∅ (by rw[hj];simpa using ew) ⟨rfl,fin⟩) hs
def bU:Rc X (adj X.K):=by
 ext value slice bi s Z H x y v u Q I rx ry h hs;let(p,xs,i,z,rfl,rfl,hq,he,q):=h;cases rx;let(t,rfl):=ry;let(aY,r,pl,hz):=I.tuple hq;let(j,h1,h2,h3,h4,h5):=JL he;let(w,ew,qR):=r.get h2;have hn:=Ae;show yW pl.typeIs slot_tuple_getitem.lookup
  (getItem_tuple pl ∅ ∅ (by rw[aQ,<-r.length];show h1) (by simpa using ew) {9,(⟨z,H,I,qR,q⟩)}) hs
def NC:Rc X agi:=by
 ext value slice bi s Z H x y v u Q I rx ry h hs;let(z,i,c,rfl,rfl,hz,he,q):=h;let(t,rfl):=rx;let(t',rfl):=ry;let(j,h1,h2,h3,h4,h5):=JL he;have hl:z.cps.toList.length=z.length:=by simp[Str.length]
 rw[hl]at h1 h4 h5;have hn:=Ae;show tail_any (oW s z t) slot_str_getitem.lookup (getItem_str (by
  rw[(cz ∅),(cz ∅),Cc]) (by rw[h1];simpa using h2) {.str ⟨#[c]⟩,H,I.tok _,⟨_,rfl⟩,q}) hs
def R4(aY:Aag)(n j:Nat)(u:f'):Obj.mapSeq (·.setIfInBounds j u) {cls:=.type "list",data:=.seq aY.toArray n}={cls:=.type "list",data:=.seq (aY.set j u).toArray n}:=by simp[Obj.mapSeq]
def Inv.lst(I:Inv X bi Z H s)(h:H p=some (.lst xs)):
  ∃(aY:Aag)(n:Nat),Vals xs aY/\s.heap.get? p=some {cls:=.type "list",data:=.seq aY.toArray n}/\96<=ca:=by
 let(z,aY,n,r,e):=I.bK p _ h;show⟨aY,n,r,e,z⟩
def Inv.adW{aY its':Aag}(I:Inv X bi Z H s)(h:H p=some (.lst xs))
  (ho:s.heap.get? p=some {cls:=.type "list",data:=.seq aY.toArray n}) (hf:f {cls:=.type "list",data:=.seq aY.toArray n}={cls:=.type "list",data:=.seq its'.toArray n'}) (r:Vals ys its') (hz:ys.length<=ca) (t:Nat):
  Inv X bi Z (upd H p (.lst ys)) {s with heap:=s.heap.update p f,toks:=t}:=by
 have e:(s.heap.update p f).get? p=some {cls:=.type "list",data:=.seq its'.toArray n'}:=by rw[dU f ho (by rw[hf]<;>rfl),hf]
 show I.write (by rw[h];trivial) (.inl 9) (λb u hb q=>(cv _ _ (cQ hb)).trans q) ⟨_,e⟩ ?_;show⟨hz,its',n',r,e⟩
inductive afr(o:V)(i:V)(v:V)(H:Hp)(Q:Hp->Prop):Prop
 |mk p xs k j (_:o=.ref p) (_:i=.int k) (_:H p=some (.lst xs)) (_:Ky xs.length k=some j) (_:Q (upd H p (.lst (xs.set j v))))
def set_list:ae0 X afr:=by
 ext bi s Z H o i v ov iv u Q I ro ri rv h;let(p,xs,k,j,rfl,rfl,hp,hj,q):=h;cases ro;let(t,rfl):=ri;let(aY,n,r,ho,hz):=I.lst hp;let(h1,h2,h3,h4):=Js hj;have hl:=r.length;have hn:=Ae;have I':Inv X bi Z (upd H p (.lst (xs.set j v))) {s with heap:=s.heap.update p (Obj.mapSeq (·.setIfInBounds j u))}:=
  I.adW hp ho (R4 aY n j u) (r.set rv j) (by rw[List.length_set];show hz) s.toks
 by_cases h0:0<=k
 ·have hk:k.toNat=j:=by rw[Fq h0 h4]at h1;show bY h1
  show PySem.W.ki_setAt ho h0 ∅ (by rw[aQ,<-hl];show h4) (by rw[hk];show⟨_,I',q⟩)
 ·have hk:(k+(aY.toArray.size:Int)).toNat=j:=by rw[Cy ∅ h3]at h1;rw[aQ,<-hl];show bY h1
  show PySem.W.ki_setBack ho ∅ (by rw[aQ,<-hl];show h3) ∅ (by rw[hk];show⟨_,I',q⟩)
def Mj(lo hi:Option Int)(n:Nat):(Db lo hi none n).1=((HT.eJ n 0 lo:Nat):Int)/\(Db lo hi none n).2.1=((HT.eJ n n hi:Nat):Int)/\(Db lo hi none n).2.2=1:=by
 show{?_,?_,9}
 ·cases lo with
  |none=>simp[Db,HT.eJ]
  |some i=>
   simp only[Db,HT.eJ,Option.getD_none,show(1:Int)>0 by decide,k7];by_cases h:i<0
   ·simp only[h,k7]<;>lia
   ·simp only[h,fR]<;>lia
 ·cases hi with
  |none=>simp[Db,HT.eJ]
  |some i=>
   simp only[Db,HT.eJ,Option.getD_none,show(1:Int)>0 by decide,k7];by_cases h:i<0
   ·simp only[h,k7]<;>lia
   ·simp only[h,fR]<;>lia
def Lo(aY:Aag)(lo hi:Option Int):slicePick aY.toArray lo hi none=((aY.drop (HT.eJ aY.length 0 lo)).take (HT.eJ aY.length aY.length hi -HT.eJ aY.length 0 lo)).toArray:=by let(h1,h2,h3):=Mj lo hi aY.toArray.size;unfold slicePick;rw[h1,h2,h3];simp only[sliceRange_one,pick_run,aQ]<;>rfl
inductive Xy(K:Frag)(x:V)(lo:Option Int)(hi:Option Int)(H:Hp)(Q:VK):Prop
 |mk a xs (_:x=.ref a) (_:bg K H a xs) (_:∀p,H p=none->Q (.ref p) (upd H p (.lst (qH xs lo hi))))
def oY:Q9 X (Xy X.K):=by ext bi s Z H x v vl vu lo hi sl Q I rx hs pl pu h;let(a,xs,rfl,hx,q):=h;cases rx;let(aY,r,ht,hz):=I.list hx;have hlen:=r.length;show{"list",_,slot_list_getitem.lookup,ht.isList.typeIs,?_};show wpAny_getItem_list_slice ht.isList hs pl pu .none 58 ?_ (by rw[aQ]<;>lia);rw[Lo,<-hlen];show{.ref 17,_,I.laid (λb ob q=>aj _ q) (au _) ?_,9,q _ (I.bK.fresh (au _))};show{bc (FV xs lo hi) hz,_,0,(r.drop (HT.eJ 96 0 lo)).take (HT.eJ 96 96 hi -HT.eJ 96 0 lo),aR _ rfl}
def uC:V->Bool
 | .b7=>true
 | .bl _=>true
 | .int _=>true
 | .str _=>true
 |_=>false
def K0:V->V->Bool
 | .b7,.b7=>true
 | .bl a,.bl b=>a==b
 | .bl a,.int b=>(if a then 1 else 0)==b
 | .int a,.bl b=>a==(if b then 1 else 0)
 | .int a,.int b=>a==b
 | .str a,.str b=>a==b
 |_,_=>false
def aeI(ry:RelV y u)(rx:RelV x v)(fy:uC y=true)(fx:uC x=true):SeqAt.EqAt A s u v (K0 y x):=by
 cases y with
 |b7=>
  cases ry;cases x with
  |b7=>cases rx;show SeqAt.EqAt.same _
  |bl b=>cases rx;show SeqAt.EqAt.none_bool b
  |int b=>let(t,rfl):=rx;show SeqAt.EqAt.none_int b t
  |str b=>let(t,rfl):=rx;show SeqAt.EqAt.none_str b t
  |_=>show absurd (show false=true from fx) bL
 |bl a=>
  cases ry;cases x with
  |b7=>cases rx;show SeqAt.EqAt.bool_none a
  |bl b=>cases rx;show SeqAt.EqAt.bool_bool a b
  |int b=>let(t,rfl):=rx;show SeqAt.EqAt.bool_int a b t
  |str b=>let(t,rfl):=rx;show SeqAt.EqAt.bool_str a b t
  |_=>show absurd (show false=true from fx) bL
 |int a=>
  let(t',rfl):=ry;cases x with
  |b7=>cases rx;show SeqAt.EqAt.int_none a t'
  |bl b=>cases rx;show SeqAt.EqAt.int_bool a t' b
  |int b=>let(t,rfl):=rx;show SeqAt.EqAt.int_int a t' b t
  |str b=>let(t,rfl):=rx;show D8 a t' b t
  |_=>show absurd (show false=true from fx) bL
 |str a=>
  let(t',rfl):=ry;cases x with
  |b7=>cases rx;show SeqAt.EqAt.str_none a t'
  |bl b=>cases rx;show SeqAt.EqAt.str_bool a t' b
  |int b=>let(t,rfl):=rx;show D7 a t' b t
  |str b=>let(t,rfl):=rx;show D6 a t' b t
  |_=>show absurd (show false=true from fx) bL
 |_=>show absurd (show false=true from fy) bL
def xo(x:V)(u:f'):Bool:=match u with
 | .none=>K0 .b7 x
 | .bool b=>K0 (.bl b) x
 | .int i _=>K0 (.int i) x
 | .str z _=>K0 (.str z) x
 |_=>false
def Wj(r:RelV y u)(f:uC y=true):xo x u=K0 y x:=by
 cases y with
 |b7=>cases r;rfl
 |bl b=>cases r;rfl
 |int i=>let(t,rfl):=r;rfl
 |str z=>let(t,rfl):=r;rfl
 |_=>show absurd (show false=true from f) bL
theorem Ax:∀{xs:Aao}{us:Aag},Vals xs us->xs.all uC=true->us.any (xo x)=xs.any λy=>K0 y x
 |_,_,.nil,_=>rfl
 |y::xs,u::us,.cons r t,f=>by rw[vq,bQ]at f;rw[nG,nG,Wj r f.1,Ax t f.2]
theorem w5(rx:RelV x v)(fx:uC x=true):∀{xs:Aao}{us:Aag},Vals xs us->xs.all uC=true->∀u∈us,SeqAt.EqAt A s u v (xo x u)
 |_,_,.nil,_=>λu hu=>by cases hu
 |y::xs,u::us,.cons r t,f=>λu' hu=>by
  rw[vq,bQ]at f;rcases aN.mp hu with rfl|hu
  ·rw[Wj r f.1];show aeI r rx f.1 fx
  ·show w5 rx fx t f.2 u' hu
def FD(x:V)(xs:Aao):Bool:=xs.any λy=>K0 y x
inductive ZY(K:Frag)(neg:Bool)(x:V)(y:V)(H:Hp)(Q:VK):Prop
 |mk p xs (_:y=.ref p) (_:(bg K H p xs\/ba K H p xs)) (_:uC x=true) (_:xs.all uC=true) (_:Q (.bl (if neg then !FD x xs else FD x xs)) H)
def CY:iT X (on .In) (ZY X.K false):=by
 ext bi s Z H x y v u Q I rx ry h;let(p,xs,rfl,hq,fx,fs,q):=h;cases ry;rcases hq with hq|hq
 ·let(aY,r,pl,hz):=I.list hq;show SeqAt.in_listAt (xo x) pl.isList (λw hw=>w5 rx fx r fs w (by simpa using hw)) {.bl _,H,I,9,?_};rw[show aY.toArray.any (xo x)=aY.any (xo x) by simp,Ax r fs];show q
 ·let(aY,r,pl,hz):=I.tuple hq;show SeqAt.in_tupleAt (xo x) pl (λw hw=>w5 rx fx r fs w (by simpa using hw)) {.bl _,H,I,9,?_};rw[show aY.toArray.any (xo x)=aY.any (xo x) by simp,Ax r fs];show q
def mh:iT X (on .NotIn) (ZY X.K true):=by
 ext bi s Z H x y v u Q I rx ry h;let(p,xs,rfl,hq,fx,fs,q):=h;cases ry;rcases hq with hq|hq
 ·let(aY,r,pl,hz):=I.list hq;show SeqAt.notIn_listAt (xo x) pl.isList (λw hw=>w5 rx fx r fs w (by simpa using hw)) {.bl _,H,I,9,?_};rw[show aY.toArray.any (xo x)=aY.any (xo x) by simp,Ax r fs];show q
 ·let(aY,r,pl,hz):=I.tuple hq;show SeqAt.notIn_tupleAt (xo x) pl (λw hw=>w5 rx fx r fs w (by simpa using hw)) {.bl _,H,I,9,?_};rw[show aY.toArray.any (xo x)=aY.any (xo x) by simp,Ax r fs];show q
def MW:iT X (on .NotIn) (λx y H Q=>∃i j,x=.str i/\y=.str j/\Q (.bl (!(!(Builtin.Str.occurrences j i 0 j.length 1).isEmpty))) H):=by ext bi s Z H x y v u Q I rx ry h;let(i,j,rfl,rfl,q):=h;let(t,rfl):=rx;let(t',rfl):=ry;show notIn_str {.bl _,H,I,9,q}
def mB:gJ X (.type "list") (λxs H Q=>∃p ys,xs=[.ref p]/\(bg X.K H p ys\/ba X.K H p ys)/\∀l,H l=none->Q (.ref l) (upd H l (.lst ys))):=by
 ext bi s Z H xs us Q I r h;let(p,ys,rfl,hq,q):=h;let(u,rfl,rx):=jn r;cases rx;have fin:∀(aY:Aag),Vals ys aY->ys.length<=ca->∀(h':i5)(c':Nat),(∀b o',s.heap.get? b=some o'->h'.get? b=some o')->
   h'.get? 17=some {cls:=.type "list",dict:=none,data:=.seq aY.toArray c',slots:=#[]}->EP X bi Z Q (.ref 17) {s with heap:=h'}:=λaY r' hz h' c' kp e=>
  {.ref 17,_,I.laid kp (au _) (show dG 57 X.w _ h' _ (.lst ys)from⟨hz,aY,c',r',e⟩),9,q _ (I.bK.fresh (au _))}
 rcases hq with hq|hq
 ·let(aY,r',pl,hz):=I.list hq;have hlen:=r'.length;let(o,ho,hc,n,hd):=pl.isList;show call_list_seq p (.inl 9) ho hc hd (λh' c' kp e=>fin aY r' hz h' c' kp e) (by simp only[aQ]<;>lia)
 ·let(aY,r',pl,hz):=I.tuple hq;have hlen:=r'.length;let(o,ho,hc,n,hd):=pl;show call_list_seq p (.inr 9) ho hc hd (λh' c' kp e=>fin aY r' hz h' c' kp e) (by simp only[aQ]<;>lia)
def hJ:gJ X (.type "tuple") (λxs H Q=>∃p ys,xs=[.ref p]/\((bg X.K H p ys/\∀l,H l=none->Q (.ref l) (upd H l (.tup ys)))\/(ba X.K H p ys/\Q (.ref p) H))):=by
 ext bi s Z H xs us Q I r h;let(p,ys,rfl,h):=h;let(u,rfl,rx):=jn r;cases rx;rcases h with⟨hq,q⟩|⟨hq,q⟩
 ·let(aY,r',pl,hz):=I.list hq;have hlen:=r'.length;show call_tuple_list pl.isList (λh' kp=>?_) (by simp only[aQ]<;>lia);have I1:=I.kept (t':=s.toks) kp;have I2:Inv X bi Z (upd H h'.objs.size (.tup ys)) {s with heap:=h'.push {cls:=.type "tuple",data:=.seq aY.toArray}}:=
   I1.laid (λb o e=>aj _ e) (au _) (show dG 57 X.w _ _ _ (.tup ys)from{hz,aY,r',IsTup.new _ _,_,aR _ rfl,9})
  show{.ref h'.objs.size,_,I2,9,q _ (I1.bK.fresh (au _))}
 ·let(aY,r',pl,hz):=I.tuple hq;show call_tuple_same pl {.ref p,H,I,9,q}
noncomputable def tyV(K:Frag)(T:String)(x:V)(H:Hp):Prop:=match x with
 | .str _=>T="str"
 | .int _=>T="int"
 | .ref p=>(T="list"/\∃xs,bg K H p xs)\/(T="tuple"/\((∃xs,H p=some (.tup xs))\/∃o,K.lookup p=some o/\o.cls=.type "tuple"/\o.dict=none))\/
   (T="dict"/\((∃kvs,H p=some (.dK kvs))\/∃kvs,H p=some (.dT kvs)))\/(T="set"/\∃S n,H p=some (.set S n))
 |_=>False
def Tw(I:Inv X bi Z H s)(r:RelV x v)(ty:tyV X.K T x H):
  s.TypeIs v T/\∀a,v=.ref a->∃ob,s.heap.get? a=some ob/\ob.dict=none:=by
 cases x with
 |str z=>
  let(t,rfl):=r;cases(show T="str"from ty);show{oW s z t,λ_ e=>nomatch e}
 |int i=>
  let(t,rfl):=r;cases(show T="int"from ty);show{typeIs_int s i t,λ_ e=>nomatch e}
 |ref p=>
  cases r;rcases ty with⟨rfl,xs,hq⟩|⟨rfl,⟨xs,hq⟩|⟨o,hk,hc,hd⟩⟩|⟨rfl,hk⟩|⟨rfl,S,n,hk⟩
  ·let(aY,__,pl,__):=I.list hq;show{pl.isList.typeIs,λa e=>?_};cases e;let(o,n,e,c,hd,__):=pl;show⟨o,e,hd⟩
  ·obtain⟨_,_,_,⟨o1,e1,c1,_⟩,o,e,hd⟩:=I.bK p _ hq;show{⟨o1,e1,c1⟩,λa e2=>?_};cases e2;show⟨o,e,hd⟩
  ·show{{o,I.nq p o hk,hc},λa e=>?_};cases e;show{o,I.nq _ o hk,hd}
  ·have z:∃o,s.heap.get? p=some o/\o.ExactDict:=by
    rcases hk with⟨kvs,hk⟩|⟨kvs,hk⟩
    ·let(__,__,__,__,o,__,__,e,ex,__):=I.bK p _ hk;show⟨o,e,ex⟩
    ·let(__,__,__,__,o,__,__,e,ex,__):=I.bK p _ hk;show⟨o,e,ex⟩
   let(o,e,ex):=z;show{{o,e,ex.1},λa e2=>?_};cases e2;show{o,e,ex.2.1}
  ·let(o,__,__,__,e,ex,__):=I.bK p _ hk;show{{o,e,ex.1},λa e2=>?_};cases e2;show{o,e,ex.2.1}
 |_=>show False.elim ty
def agc(K:Frag)(T:String)(r:V->Aao->Hp->VK->Prop)(to:TE):TE:=λZ H Q=>to Z H λx H1=>tyV K T x H1/\r x [] H1 Q
def tBM(K:Frag)(T:String)(r:V->Aao->Hp->VK->Prop)(to:TE)(t:TA):TE:=λZ H Q=>to Z H λx H1=>tyV K T x H1/\t Z H1 λxs H2=>r x xs H2 Q
variable{o e:u8}{es:List u8}{to:TE}{t:TA}{name:io}{AT fH:Fa}{T id:String}{r:V->Aao->Hp->VK->Prop}
def MQ(pa:PlainAttrs T)(slot:Slot T name id)(hty:typeOf (.builtin id)=pure (.type "method_descriptor"))(hm:MtR X id r)(ho:PE X o to)
  (Bm:wf o name X.env (sn o X.env)=sn o X.env:=by rfl) (Bl:(AT.endLine==fH.line)=true:=by rfl):PE X (.Call (.Attribute o name AT) [] [] fH) (agc X.K T r to):=by
 ext bi s Z H Q I h;show pO Bm Bl (da (ho bi s Z H _ I h) λv s1 x H1 I1 r1 ag4=>?_);let(ty,q1):=ag4;let(h1,h2):=Tw I1 r1 ty;show{T,id,pa,slot,hty,h1,h2,fD rfl (sX (hm bi s1 Z H1 x [] v [] Q I1 r1 .nil q1))}
def jq(pa:PlainAttrs T)(slot:Slot T name id)(hty:typeOf (.builtin id)=pure (.type "method_descriptor"))(hm:MtR X id r)(ho:PE X o to)(ha:PA X (e::es) t)
  (Bm:wf o name X.env (sn o X.env)=sn o X.env:=by rfl)
  (ahw:((xL fH (i6 (e::es) X.env)).all (λx=>!x.1)&&(SZ fH (J' [] X.env)).all (λx=>x.1.isSome)
   &&decide ((e::es).length+([]:List P').length+(if([]:List P').isEmpty then 0 else 1)<30))=true:=by rfl)
  (Bl:(AT.endLine==fH.line)=true:=by rfl) (hs:i6 (e::es) X.env=(false,sn e X.env)::i6 es X.env:=by rfl) (aep:(xL fH (i6 es X.env)).any (·.1)=false:=by rfl):
  PE X (.Call (.Attribute o name AT) (e::es) [] fH) (tBM X.K T r to t):=by
 ext bi s Z H Q I h;show wpAny_Call_method_late Bm ahw Bl rfl (da (ho bi s Z H _ I h) λv s1 x H1 I1 r1 ag3=>?_);let(ty,q1):=ag3;let(h1,h2):=Tw I1 r1 ty;show{T,id,pa,slot,hty,h1,h2,?_};have hA:=ha fH bi s1 Z H1 _ I1 q1;rw[hs]at hA⊢;show fD (by change(false||(xL fH (i6 es X.env)).any (·.1))=false;rw[aep]<;>rfl) (ky (hU hA λus s2 ⟨vs,H2,I2,r2,q2⟩=>hm bi s2 Z H2 x vs v us Q I2 r1 r2 q2))
end
def Ll(X:Cx)(id:String)(r:V->Aao->Hp->VK->Prop):Prop:=
 ∀(bi:Aac)(s:cr)(Z:St)(H:Hp)(x:V)(xs:Aao)(v:f')(us:Aag)(Q:VK),Inv X bi Z H s->RelV x v->Vals xs us->r x xs H Q->
  fv 59 X.A (EQ (.builtin id) (v::us)) (EP X bi Z Q) X.xe s
theorem Vals.one:∀{x:V}{us:Aag},Vals [x] us->∃u,us=[u]/\RelV x u
 |_,_,.cons r .nil=>⟨_,rfl,r⟩
theorem Vals.two:∀{x y:V}{us:Aag},Vals [x,y] us->∃u v,us=[u,v]/\RelV x u/\RelV y v
 |_,_,_,.cons r (.cons q .nil)=>⟨_,_,rfl,r,q⟩
theorem Vals.zero:∀{us:Aag},Vals [] us->us=[]
 |_,.nil=>rfl
theorem Vals.eraseIdx:∀{xs:Aao}{us:Aag}(i:Nat),Vals xs us->Vals (xs.eraseIdx i) (us.eraseIdx i)
 |_,_,_,.nil=>.nil
 |_,_,0,.cons _ t=>t
 |_,_,i+1,.cons r t=>.cons r (Vals.eraseIdx i t)
theorem Kt{α:Type}:∀(l:List α)(i:Nat),(l.eraseIdx i).length<=l.length
 |[],_=>au _
 |_::_,0=>d8 _
 |_::r,i+1=>gY (Kt r i)
section
variable{X:Cx}{bi:Aac}{Z:St}{H:Hp}{s:cr}{l:bn}{xs ys:Aao}
def Inv.Jj{aY its':Aag}(I:Inv X bi Z H s)(hH:H l=some (.lst xs))
  (e:s.heap.get? l=some {cls:=.type "list",data:=.seq aY.toArray n}) (hf:f aY.toArray=its'.toArray) (hv:Vals ys its') (hz:ys.length<=ca):
  Inv X bi Z (upd H l (.lst ys)) {s with heap:=s.heap.update l (Obj.mapSeq f),toks:=t'}:=by
 have q:=xB e f;rw[hf]at q;show I.write (hH▸trivial) (.inl 9) (λb' u hb hu=>(cv s.heap (Obj.mapSeq f) (cQ hb)).trans hu) ⟨_,q⟩ ?_;show⟨hz,its',_,hv,q⟩
def Inv.agu(I:Inv X bi Z H s)(hv:Vals ys aY)(hz:ys.length<=ca):
  Inv X bi Z (upd H 17 (.lst ys)) {s with heap:=s.heap.push {cls:=.type "list",data:=.seq aY.toArray},toks:=t'}:=
 I.laid (λ_ _ q=>aj _ q) (au _) {hz,aY,0,hv,aR _ rfl}
def Inv.fresh(I:Inv X bi Z H s):H 17=none:=I.bK.fresh (au _)
def Inv.zm(I:Inv X bi Z H s)(hH:H l=some (.lst xs)):96<=ca/\∃(aY:Aag)(n:Nat),Vals xs aY/\96=aY.length/\s.heap.get? l=some {cls:=.type "list",data:=.seq aY.toArray n}:=by let(z,aY,n,r,e):=I.bK l _ hH;show{z,aY,n,r,r.length,e}
def M8(h:n<=ca):Builtin.List.listTooLong n=false:=by show cz ∅
end
section
variable{X:Cx}
inductive abk(x:V)(vs:Aao)(H:Hp)(Q:VK):Prop
 |mk l xs y (_:x=.ref l) (_:vs=[y]) (_:H l=some (.lst xs)) (_:xs.length<ca) (_:Q .b7 (upd H l (.lst (xs++[y]))))
def qW:Ll X "list.append" abk:=by ext bi s Z H x vs v us Q I rx rv h;let(l,xs,y,rfl,rfl,hH,hz,q):=h;cases rx;let(u,rfl,ru):=rv.one;let(z,aY,n,r,hl,e):=I.zm hH;show lD u5 ⟨_,e,rfl⟩ tD (sN _ _) (vL l aY.toArray n u (by rw[aQ];lia)) {e,?_};show{.b7,_,I.Jj hH e 58 (r.append (.cons ru .nil)) ?_,9,q};rw[aC,dC];lia
inductive abi(x:V)(vs:Aao)(H:Hp)(Q:VK):Prop
 |mk l b xs zs (_:x=.ref l) (_:vs=[.ref b]) (_:H l=some (.lst xs)) (_:H b=some (.lst zs)) (_:xs.length+zs.length<=ca) (_:Q .b7 (upd H l (.lst (xs++zs))))
def yw:Ll X "list.extend" abi:=by
 ext bi s Z H x vs v us Q I rx rv h;let(l,b,xs,zs,rfl,rfl,hH,hB,hz,q):=h;cases rx;let(u,rfl,ru):=rv.one;cases ru;let(z,aY,n,r,hl,e):=I.zm hH;let(z2,tU,n2,r2,fw,e2):=I.zm hB;have hsz:aY.toArray.size+tU.toArray.size<=ca:=by rw[aQ,aQ];lia
 have Sk:¬(!aY.toArray.isEmpty&&Builtin.List.listTooLong (aY.toArray.size+tU.toArray.size))=true:=by rw[M8 hsz,mJ];show bL
 show lD Ei ⟨_,e,rfl⟩ Cm (BK _ _)
  (AutoSeq1.list_extend_list_list_0 l aY.toArray n b tU.toArray n2 Sk (by rw[aQ];lia) ∅) {e,e2,?_}
 show{.b7,_,I.Jj hH e 58 (r.append r2) ?_,9,q};rw[aC];lia
inductive adh(x:V)(vs:Aao)(H:Hp)(Q:VK):Prop
 |mk l xs i k y (_:x=.ref l) (_:vs=[.int i]) (_:H l=some (.lst xs)) (_:-(2^63)<=i) (_:i<2^63) (_:Uf i xs.length=some k) (_:xs[k]?=some y) (_:Q y (upd H l (.lst (xs.eraseIdx k))))
def Nd:Ll X "list.pop" adh:=by
 ext bi s Z H x vs v us Q I rx rv h;let(l,xs,i,k,y,rfl,rfl,hH,h1,h2,hk,hy,q):=h;cases rx;let(u,rfl,ru):=rv.one;let(t,rfl):=ru;let(z,aY,n,r,hl,e):=I.zm hH;let(w,hw,qR):=r.get hy;show lD F.slot_list_pop ⟨_,e,rfl⟩ F.entry_list_pop (F.args_list_pop_2 _ _)
  (MeetsSeq.list_pop_at l aY.toArray n i t k w (fitsIndex_both h1 h2) (by rw[aQ,<-hl];show hk) (by rw[<-df];show hw) (by rw[aQ];lia)) {e,?_}
 show{y,_,I.Jj hH e ?_ (r.eraseIdx k) ?_,qR,q}
 ·change aY.toArray.eraseIdxIfInBounds k=(aY.eraseIdx k).toArray;rw[List.eraseIdxIfInBounds_toArray]
 ·have:=Kt xs k;lia
inductive adn(x:V)(vs:Aao)(H:Hp)(Q:VK):Prop
 |mk l xs (_:x=.ref l) (_:vs=[]) (_:H l=some (.lst xs)) (_:Q .b7 (upd H l (.lst [])))
def Nf:Ll X "list.clear" adn:=by ext bi s Z H x vs v us Q I rx rv h;let(l,xs,rfl,rfl,hH,q):=h;cases rx;have NJ:=rv.zero;subst NJ;let(z,aY,n,r,hl,e):=I.zm hH;show lD F.slot_list_clear ⟨_,e,rfl⟩ F.entry_list_clear (F.args_list_clear_1 _) (AutoSeq1.list_clear_list_0 l aY.toArray n (by rw[aQ];lia)) {e,?_};show{.b7,_,I.Jj (its':=[]) (ys:=[]) hH e rfl .nil (aJ _),9,q}
inductive ado(x:V)(y:V)(H:Hp)(Q:VK):Prop
 |mk l b xs zs (_:x=.ref l) (_:y=.ref b) (_:H l=some (.lst xs)) (_:H b=some (.lst zs)) (_:xs.length+zs.length<=ca) (_:∀p,H p=none->Q (.ref p) (upd H p (.lst (xs++zs))))
def rQ:iT X (x0 .Add) ado:=by
 ext bi s Z H x y v u Q I rx ry h;let(l,b,xs,zs,rfl,rfl,hH,hB,hz,q):=h;cases rx;cases ry;let(z,aY,n,r,hl,e):=I.zm hH;let(z2,tU,n2,r2,fw,e2):=I.zm hB;show PySem.P.add_list e e2 ?_ (by rw[aQ,aQ];lia);have ea:aY.toArray++tU.toArray=(aY++tU).toArray:=by simp
 rw[ea];show{.ref _,_,I.agu (r.append r2) (by rw[aC];lia),9,q _ I.fresh}
end
section
variable{κ:Type}[DecidableEq κ]
def iQ(kvs:List (κ×V))(k:κ):Aap:=(kvs.find? λkv=>decide (kv.1=k)).map (·.2)
def putK(kvs:List (κ×V))(k:κ)(v:V):List (κ×V):=
 if(kvs.any λkv=>decide (kv.1=k))=true then kvs.map (λkv=>if kv.1=k then(kv.1,v)else kv)else kvs++[(k,v)]
def tF{p:κ×V}{k:κ}(e:p.1=k):iQ (p::r) k=some p.2:=by simp[iQ,jc,e]
def qC{p:κ×V}{k:κ}(e:¬p.1=k):iQ (p::r) k=iQ r k:=by simp[iQ,jc,e]
theorem AK(k:κ):∀kvs:List (κ×V),(kvs.any λkv=>decide (kv.1=k))=(iQ kvs k).isSome
 |[]=>rfl
 |p::r=>by
  rw[nG];by_cases e:p.1=k
  ·simp only[tF e,bb e,Bool.true_or,Eb]
  ·rw[qC e,cz e,Bool.false_or];show AK k r
def uz(kvs:List (κ×V))(k:κ)(v:V):(putK kvs k v).length<=kvs.length+1:=by
 unfold putK;split
 ·rw[ah];lia
 ·rw[aC,bx,jZ];lia
def Gj{k:κ}(v:V)(h:iQ kvs k=none):putK kvs k v=kvs++[(k,v)]:=by unfold putK;rw[AK,h];show aI 7
def mY.oy(r:mY o u):o.isSome=u.isSome:=by
 cases o with
 |none=>cases u with
  |none=>rfl
  |some _=>show(show False from r).elim
 |some _=>cases u with
  |none=>show(show False from r).elim
  |some _=>rfl
def mY.getD(r:mY o u)(rd:RelV d d'):RelV (o.getD d) (u.getD d'):=by
 cases o with
 |none=>cases u with
  |none=>show rd
  |some _=>show(show False from r).elim
 |some _=>cases u with
  |none=>show(show False from r).elim
  |some _=>show r
def KV.val(r:KV kvs vs)(k:κ):mY (iQ kvs k) (Os vs k):=by
 induction r with
 |nil=>show True.intro
 |@cons p q ps qs h t ih=>
  let(h1,h2):=h;by_cases e:p.1=k
  ·have e':=h1.symm.trans e;have b:Os (q::qs) k=some q.2:=by simp[Os,jc,e']
   rw[tF e,b];show h2
  ·have e':¬q.1=k:=λz=>e (h1.trans z);have b:Os (q::qs) k=Os qs k:=by simp[Os,jc,e']
   rw[qC e,b];show ih
def KV.any(r:KV kvs vs)(k:κ):(kvs.any λkv=>decide (kv.1=k))=vs.any λkv=>decide (kv.1=k):=by
 unfold KV at r
 induction r with
 |nil=>rfl
 |cons h t ih=>rw[nG,nG,ih,h.1]
def KV.Xw(r:KV kvs vs)(k:κ)(ry:RelV y u):
  KV (kvs.map λkv=>if kv.1=k then(kv.1,y)else kv) (vs.map λkv=>if kv.1=k then(kv.1,u)else kv):=by
 induction r with
 |nil=>show .nil
 |@cons p q ps qs h t ih=>
  rw[bo,bo];show .cons ?_ ih;let(h1,h2):=h;by_cases e:p.1=k
  ·rw[aL e,aL (h1.symm.trans e)];show⟨h1,ry⟩
  ·rw[aI e,aI (λz=>e (h1.trans z))];show⟨h1,h2⟩
def KV.put(r:KV kvs vs)(k:κ)(ry:RelV y u):KV (putK kvs k y) (stored vs k u):=by
 unfold putK stored;rw[r.any k];by_cases e:(vs.any λkv=>decide (kv.1=k))=true
 ·rw[aL e,aL e];show r.Xw k ry
 ·rw[aI e,aI e];show zF r ⟨rfl,ry⟩
def KV.keys{kvs:List (κ×V)}(r:KV kvs vs):kvs.map (·.1)=vs.map (·.1):=by
 induction r with
 |nil=>rfl
 |cons h t ih=>rw[bo,bo,ih,h.1]
def KV.length{kvs:List (κ×V)}(r:KV kvs vs):kvs.length=vs.length:=a9 r
end
def qA(r:RelV (kV k) u):(bS P w).is k u=true:=by
 cases k with
 |inl i=>let(t,e):=(show∃t,u=Value.int i t from r);subst e;show Ph P w i t
 |inr x=>let(t,e):=(show∃t,u=Value.str x t from r);subst e;show Fw P w x t
theorem Kz:∀{ks:List Key}{us:Aag},Vals (ks.map kV) us->ItemsAre (bS P w) ks us
 |[],_,r=>by rw[fU]at r;cases r;show .nil
 |k::ks,_,r=>by
  cases r with
  |cons h t=>show .cons (qA h) (Kz t)
abbrev KT(H:Hp):List (List Key×V)->List (List Key×bn×f')->Prop:=Paired λp q=>p.1=q.1/\H q.2.1=some (.tup (p.1.map kV))/\RelV p.2 q.2.2
def KT.val(r:KT H kvs xs)(k:List Key):mY (iQ kvs k) ((IN xs k).map (·.2)):=by
 induction r with
 |nil=>show True.intro
 |@cons p q ps qs h t ih=>
  let(h1,__,h2):=h;by_cases e:p.1=k
  ·have e':=h1.symm.trans e;have b:IN (q::qs) k=some q.2:=by simp[IN,jc,e']
   rw[tF e,b];show h2
  ·have e':¬q.1=k:=λz=>e (h1.trans z);have b:IN (q::qs) k=IN qs k:=by simp[IN,jc,e']
   rw[qC e,b];show ih
def KT.Xw(r:KT H kvs xs)(k:List Key)(ry:RelV y u):
  KT H (kvs.map λkv=>if kv.1=k then(kv.1,y)else kv) (xs.map (putAt k u)):=by
 induction r with
 |nil=>show .nil
 |@cons p q ps qs h t ih=>
  rw[bo,bo];show .cons ?_ ih;let(h1,h2,h3):=h;unfold putAt;by_cases e:p.1=k
  ·rw[aL e,aL (h1.symm.trans e)];show⟨h1,h2,ry⟩
  ·rw[aI e,aI (λz=>e (h1.trans z))];show⟨h1,h2,h3⟩
def KT.put(r:KT H kvs xs)(k:List Key)(hb:H b=some (.tup (k.map kV)))(ry:RelV y u):
  KT H (putK kvs k y) (Pi xs k b u):=by
 have e:(kvs.any λkv=>decide (kv.1=k))=(IN xs k).isSome:=by rw[AK,(r.val k).oy,ic]
 unfold putK Pi;rw[e];by_cases q:(IN xs k).isSome=true
 ·rw[aL q,aL q];show r.Xw k ry
 ·rw[aI q,aI q];show zF r ⟨rfl,hb,ry⟩
def KT.keeps(r:KT H kvs xs)(ht:∀b ys,H b=some (.tup ys)->H' b=some (.tup ys)):KT H' kvs xs:=
 Paired.R5 r λ_ _ z=>{z.1,ht _ _ z.2.1,z.2.2}
section
variable{P:dL}{w:i3}{H:Hp}{h:i5}{a:bn}
def ZX(ok:kh P w H h)(e:Rd H a u):dG P w H h a u:=e.ok ok
def uD(ok:kh P w H h)(e:Rd H a (.dK kvs)):kvs.length<=ca/\(a==re)=false/\∃vs,KV kvs vs/\h.DictOf (bS P w) a vs:=
 show dG P w H h a (.dK kvs)from ZX ok e
def uE(ok:kh P w H h)(e:H a=some (.dK kvs)):kvs.length<=ca/\(a==re)=false/\∃vs,KV kvs vs/\h.DictOf (bS P w) a vs:=uD ok (.inl e)
def xf(ok:kh P w H h)(e:H a=some (.tup (ks.map kV))):(F' (bS P w)).is h ks a:=by obtain⟨_,aY,r,⟨o,h1,h2,n,h3⟩,_⟩:=(show dG P w H h a (.tup (ks.map kV))from ok a _ e);show{o,aY.toArray,n,h1,h2,h3,by simpa using Kz r}
def yG(ok:kh P w H h)(e:Rd H a (.dT kvs)):kvs.length<=ca/\(a==re)=false/\
  ∃xs,KT H kvs xs/\h.DictOfH (F' (bS P w)) a xs:=by
 let(z,y,xs,r,o,es,ep,h1,h2,h3,h4,h5):=(show dG P w H h a (.dT kvs)from ZX ok e);show{z,y,xs,r,o,es,ep,h1,h2,h3,h4,λx hx=>?_,h5};have all:∀{l:List (List Key×V)}{m:List (List Key×bn×f')},KT H l m->∀x∈m,(F' (bS P w)).is h x.1 x.2.1:=by
  ext l m q
  induction q with
  |nil=>ext x hx;show nomatch hx
  |@cons p q ps qs hq t ih=>
   ext x hx;rcases aN.mp hx with e|hx
   ·subst e;show xf ok (hq.1▸hq.2.1)
   ·show ih x hx
 show all r x hx
def afV(ok:kh P w H h)(e:H a=some (.dT kvs)):kvs.length<=ca/\(a==re)=false/\
  ∃xs,KT H kvs xs/\h.DictOfH (F' (bS P w)) a xs:=yG ok (.inl e)
end
def kW(H:Hp)(a:bn)(y:V)(r:Aap):Prop:=
 (∃kvs k,Rd H a (.dK kvs)/\y=kV k/\r=iQ kvs k)\/∃kvs k b,Rd H a (.dT kvs)/\y=.ref b/\H b=some (.tup (k.map kV))/\r=iQ kvs k
def Ek(H:Hp)(a:bn)(y v:V)(H':Hp):Prop:=
 (∃kvs k,H a=some (.dK kvs)/\y=kV k/\kvs.length<ca/\H'=upd H a (.dK (putK kvs k v)))\/
 ∃kvs k b,H a=some (.dT kvs)/\y=.ref b/\H b=some (.tup (k.map kV))/\kvs.length<ca/\H'=upd H a (.dT (putK kvs k v))
theorem kW.k{H:Hp}{a:bn}{kvs:List (Key×V)}{k:Key}(e:H a=some (.dK kvs)):kW H a (kV k) (iQ kvs k):=.inl {kvs,k,.inl e,9,9}
theorem Ek.k{H:Hp}{a:bn}{kvs:List (Key×V)}{k:Key}{v:V}(e:H a=some (.dK kvs))(hl:kvs.length<ca):Ek H a (kV k) v (upd H a (.dK (putK kvs k v))):=.inl ⟨kvs,k,e,rfl,hl,rfl⟩
section
variable{X:Cx}{bi:Aac}{Z:St}{H:Hp}{s:cr}{a:bn}{y v:V}{u r:f'}{o:Aap}{A:mo}{E:Aae}
def Inv.big(I:Inv X bi Z H s):re<17:=by show dP 7 ((I.mod.glob.keeps I.bk).lt)
def Ww(hu:A.units+1<v6)(I:Inv X bi Z H s)(g:kW H a y (some v))(ry:RelV y u)(h:∀w' s',Inv X bi Z H s'->RelV v w'->Q w' s'):
  fv 59 A (getItem 68 u) Q E s:=by
 rcases g with⟨kvs,k,e,ey,l⟩|⟨kvs,k,b,e,ey,eb,l⟩
 ·subst ey;let(z,hd,vs,rel,dd):=uD I.bK e;let(w',hw,qR):=mY.some_of (l▸rel.val k);show wpAny_getItem_of (qA ry) dd.mapOf hw (h w' _ (I.tok _) qR)
 ·subst ey;cases(show u=Value.ref b from ry);let(z,hd,xs,rel,dd):=yG I.bK e;let(w',hw,qR):=mY.some_of (l▸rel.val k);let(p,hp,iZ):=bA.mp hw;show wpAny_getItem_heap (jJ hu) (xf I.bK eb) dd hp ?_;rw[iZ];show h w' _ (I.tok _) qR
def ahI(hu:A.units+1<v6)(I:Inv X bi Z H s)(g:kW H a y o)(ry:RelV y u)(h:∀s',Inv X bi Z H s'->Q (.bool o.isSome) s'):
  fv 59 A (on .In u 68) Q E s:=by
 rcases g with⟨kvs,k,e,ey,l⟩|⟨kvs,k,b,e,ey,eb,l⟩
 ·subst ey;let(z,hd,vs,rel,dd):=uD I.bK e;show wpAny_in_of (qA ry) hd dd.mapOf ?_;rw[<-(rel.val k).oy,<-l];show h _ (I.tok _)
 ·subst ey;cases(show u=Value.ref b from ry);let(z,hd,xs,rel,dd):=yG I.bK e;show wpAny_in_heap (jJ hu) (xf I.bK eb) hd dd ?_;have q:=(rel.val k).oy;rw[ic]at q;rw[<-q,<-l];show h _ (I.tok _)
def ack{Q:Aae}(hu:A.units+1<v6)(I:Inv X bi Z H s)(g:kW H a y o)(ry:RelV y u)(h:∀s',Inv X bi Z H s'->Q (.bool (!o.isSome)) s'):
  fv 59 A (on .NotIn u 68) Q E s:=by
 rcases g with⟨kvs,k,e,ey,l⟩|⟨kvs,k,b,e,ey,eb,l⟩
 ·subst ey;let(z,hd,vs,rel,dd):=uD I.bK e;show wpAny_notIn_of (qA ry) hd dd.mapOf ?_;rw[<-(rel.val k).oy,<-l];show h _ (I.tok _)
 ·subst ey;cases(show u=Value.ref b from ry);let(z,hd,xs,rel,dd):=yG I.bK e;show wpAny_notIn_heap (jJ hu) (xf I.bK eb) hd dd ?_;have q:=(rel.val k).oy;rw[ic]at q;rw[<-q,<-l];show h _ (I.tok _)
def t7(I:Inv X bi Z H s)(mu:WK (H a))(hs:Heap.SameBut a s.heap h')(he:∃q,h'.get? a=some q)(new:dG 57 X.w (upd H a ob) h' a ob):
  Inv X bi Z (upd H a ob) {s with heap:=h',toks:=t'}:=
 I.write mu (.inl 9) (λb q hb z=>(hs.2 b hb).trans z) he new
def xp(z:kvs.length<=ca)(hd:(a==re)=false)(rel:KV kvs vs)(dd:h'.DictOf (bS P w) a vs):
  dG P w H' h' a (.dK kvs):=⟨z,hd,vs,rel,dd⟩
def Wt(hu:A.units+1<v6)(I:Inv X bi Z H s)(g:Ek H a y v H')(ry:RelV y u)(rv:RelV v r)(h:∀s',Inv X bi Z H' s'->Q () s'):
  fv 59 A (Z' 68 u r) Q E s:=by
 rcases g with⟨kvs,k,e,ey,l,eH⟩|⟨kvs,k,b,e,ey,eb,l,eH⟩
 ·subst ey eH;let(z,hd,vs,rel,dd):=uE I.bK e;show wpAny_setItem_pairs (hsz:=(by rw[<-rel.length];show z)) (qA ry) dd λh' sg hs=>h _ ?_;show t7 I (e▸True.intro) hs (let⟨q,_,_,hq,_⟩:=sg;⟨q,hq⟩) (xp (by have:=uz kvs k v;lia) hd (rel.put k rv) sg)
 ·subst ey eH;cases(show u=Value.ref b from ry);let(z,hd,xs,rel,dd):=afV I.bK e;show Cp (hsz:=(by rw[<-a9 rel];show z)) (jJ hu) (xf I.bK eb) dd λh' sg hs=>h _ ?_;let(q,es,ep,hq,h2,h3,h4,__,h5):=sg;show t7 I (e▸True.intro) hs ⟨q,hq⟩ {(by have:=uz kvs k v;lia),hd,_,(rel.put k eb rv).keeps λc ys ec=>?_,q,es,ep,hq,h2,h3,h4,h5};rw[aM (RZ ec e (λz=>nomatch z))];show ec
variable{kvs:List (Key×V)}
def aco{Q:Aae}(I:Inv X bi Z H s)(e:H a=some (.dK kvs))(h:∀s',Inv X bi Z (upd H a 69) s'->Q .none s'):fv 59 A (EQ (.builtin "dict.clear") [.ref a]) Q E s:=by
 let(z,hd,vs,rel,dd):=uE I.bK e;show jN xY dd.typeIs PySem.F.entry_dict_clear (PySem.F.args_dict_clear_1 _) (meets_dict_clear (bS 57 X.w) a) {vs,dd,by rw[<-rel.length];show z,λh' sg hs=>h _ ?_};have he:∃q,h'.get? a=some q:=let⟨q,_,_,hq,_⟩:=sg;⟨q,hq⟩
 show t7 (t':=s.toks) I (by rw[e];show True.intro) hs he (xp (aJ _) hd .nil sg)
def afX{Q:Aae}(I:Inv X bi Z H s)(e:Rd H a (.dK kvs))(h:∀t s',Inv X bi Z H s'->Q (.int kvs.length t) s'):fv 59 A (EQ (.builtin "len") [.ref a]) Q E s:=by let(z,hd,vs,rel,dd):=uD I.bK e;show call_len_dict hd dd (by rw[<-rel.length];rw[bW]at z;lia) ?_;rw[<-rel.length];show h _ _ (I.tok _)
def ae1(i:u8):Prop:=∀ov iv,NE i false ov iv=operate [ov,iv] (getItem ov iv)
end
def aa4{T id:String}
  (hl:Fk (.type T) "__getitem__"=pure (some (.builtin id))) (hs:ae1 slice)
  (h:fv 24 A (sn value env) (λo aaa=>fv 24 A (sn slice env) (λi aad=>aad.TypeIs o T/\fv 24 A (getItem o i) Q E aad) E aaa) E s):
  fv 24 A (sn (.Subscript value slice pos) env) Q E s:=by
 show IA (dE h (λo aaa agz=>dE agz (λi aad aag=>?_) λ_ _ x=>x) λ_ _ x=>x);let(hT,aag):=aag;show ae ?_;show ae (iV hT hl ?_);have fin:fv 24 A (NE slice false o i) (λr aaf=>fv 24 A (letTemporaryGo value o r>>=λ_=>pure r) Q E aaf) E aad:=by rw[hs o i];show wpAny_operating (dE aag (λr aaf agy=>ae (wpAny_letTemporaryGo (ao agy))) λ_ _ x=>x)
 first
  |show ao (ae fin)
  |show ae (ao (ae fin))
  |show ae fin
def Po(I:Inv X bi Z H s)(g:kW H a y o):s.TypeIs 68 "dict":=by
 rcases g with⟨kvs,k,e,_,_⟩|⟨kvs,k,b,e,_,_,_⟩
 ·let(__,__,vs,__,dd):=uD I.bK e;show dd.typeIs
 ·let(__,__,xs,__,dd):=yG I.bK e;show dd.typeIs
inductive acZ(Q:VK)(x:V)(y:V)(H2:Hp):Prop
 |mk a v (_:x=.ref a) (_:kW H2 a y (some v)) (_:Q v H2)
def afk(td ty:TE):TE:=λZ H Q=>td Z H λx H1=>ty Z H1 λy H2=>acZ Q x y H2
inductive afj(Q:VK)(y:V)(x:V)(H2:Hp):Prop
 |mk a o (_:x=.ref a) (_:kW H2 a y o) (_:Q (.bl o.isSome) H2)
def agb(ty td:TE):TE:=λZ H Q=>ty Z H λy H1=>td Z H1 λx H2=>afj Q y x H2
inductive W7(Q:VK)(y:V)(x:V)(H2:Hp):Prop
 |mk a o (_:x=.ref a) (_:kW H2 a y o) (_:Q (.bl (!o.isSome)) H2)
def aaY(ty td:TE):TE:=λZ H Q=>ty Z H λy H1=>td Z H1 λx H2=>W7 Q y x H2
inductive ada(D:Ends)(Z:St)(v:V)(x:V)(y:V)(H3:Hp):Prop
 |mk a H4 (_:x=.ref a) (_:Ek H3 a y v H4) (_:D.nx Z H4)
def afq(td ty tv:TE):TS:=λD Z H=>tv Z H λv H1=>td Z H1 λx H2=>ty Z H2 λy H3=>ada D Z v x y H3
section
variable{X:Cx}{o i value:u8}{pos pos':Fa}{td ty tv:TE}
def Jd(hu:X.A.units+1<v6)(ho:PE X o td)(hi:PE X i ty)(hs:ae1 i):PE X (.Subscript o i pos) (afk td ty):=by ext bi s Z H Q I h;show aa4 PySem.F.slot_dict_getitem.lookup hs (da (ho bi s Z H _ I h) λu s1 x H1 I1 rx q1=>da (hi bi s1 Z H1 _ I1 q1) λiv s2 y H2 I2 ry ag1=>?_);let(a,v,ex,g,q2):=ag1;subst ex;obtain rfl:u=Value.ref a:=rx;show{Po I2 g,Ww hu I2 g ry λw' s3 I3 qR=>⟨v,H2,I3,qR,q2⟩}
def adx(hu:X.A.units+1<v6)(hi:PE X i ty)(ho:PE X o td):PC X .In i o (agb ty td):=by ext bi s Z H Q I h;show da (hi bi s Z H _ I h) λiv s1 y H1 I1 ry q1=>da (ho bi s1 Z H1 _ I1 q1) λu s2 x H2 I2 rx ag0=>?_;let(a,ov,ex,g,q2):=ag0;subst ex;obtain rfl:u=Value.ref a:=rx;show ahI hu I2 g ry λs3 I3=>{.bl ov.isSome,H2,I3,9,q2}
def UG(hu:X.A.units+1<v6)(hi:PE X i ty)(ho:PE X o td):PC X .NotIn i o (aaY ty td):=by ext bi s Z H Q I h;show da (hi bi s Z H _ I h) λiv s1 y H1 I1 ry q1=>da (ho bi s1 Z H1 _ I1 q1) λu s2 x H2 I2 rx agZ=>?_;let(a,ov,ex,g,q2):=agZ;subst ex;obtain rfl:u=Value.ref a:=rx;show ack hu I2 g ry λs3 I3=>{.bl (!ov.isSome),H2,I3,9,q2}
def EA(hu:X.A.units+1<v6)(ho:PE X o td)(hi:PE X i ty)(hv:PE X value tv)(hs:AC value (some (.Subscript o i pos')) pos.line X.env=pure false):
  PS X (.Assign [.Subscript o i pos'] value pos) (afq td ty tv):=by
 ext bi s Z H D I h;show yT (da (hv bi s Z H _ I h) λr s1 v H1 I1 rv q1=>da (ho bi s1 Z H1 _ I1 q1) λu s2 x H2 I2 rx q2=>da (hi bi s2 Z H2 _ I2 q2) λiv s3 y H3 I3 ry agY=>?_) hs;let(a,H4,ex,g,q3):=agY;subst ex;obtain rfl:u=Value.ref a:=rx;show Wt hu I3 g ry rv λs4 I4=>⟨Z,H4,I4,q3⟩
def OA(h:i5)(hb:re<h.objs.size):dG P w H (h.push {cls:=.type "dict",data:=.dict #[]}) h.objs.size 69:=
 {aJ _,c6.mpr (cQ (aW hb)),[],.nil,yN h}
def acW:TE:=λ_ H Q=>∀p,H p=none->Q (.ref p) (upd H p 69)
def iY:PE X (.Dict [] [] pos) acW:=λbi s Z H Q I h=>
 wpAny_Dict_empty {.ref 17,_,I.laid (λ_ _ q=>aj _ q) (au _) (OA s.heap I.big),9,h _ (I.bK.fresh (au _))}
end
def L3:List (TE×TE)->St->Hp->(Aam->Hp->Prop)->Prop
 |[],_,H,Q=>Q [] H
 |(tk,tv)::r,Z,H,Q=>tk Z H λx H1=>tv Z H1 λy H2=>L3 r Z H2 λps H3=>Q ((x,y)::ps) H3
abbrev VV:Aam->List (f'×f')->Prop:=Paired λp q=>RelV p.1 q.1/\RelV p.2 q.2
def Lk(X:Cx)(pos:Fa)(keys:List (Option u8))(values:List u8)(LV:List (TE×TE)):Prop:=
 ∀(bi:Aac)(s:cr)(Z:St)(H:Hp)(Q:Aam->Hp->Prop),Inv X bi Z H s->L3 LV Z H Q->
  fv 59 X.A (evalPairs (pairTrees keys values X.env pos)) (λvs s'=>∃ps H',Inv X bi Z H' s'/\VV ps vs/\Q ps H') X.xe s
def abm:Lk X pos [] [] []:=λbi s Z H Q I h=>pairTrees_nil_walk {[],H,I,.nil,h}
def XI(hk:PE X k tk)(hv:PE X v tv)(hr:Lk X pos ks vs LV):
  Lk X pos (some k::ks) (v::vs) ((tk,tv)::LV):=λbi s Z H Q I h=>
 pairTrees_cons_walk (da (hk bi s Z H _ I h) λu s1 x H1 I1 rx q1=>da (hv bi s1 Z H1 _ I1 q1) λw2 s2 y H2 I2 ry q2=>
  hU (hr bi s2 Z H2 _ I2 q2) λws s3 ⟨ps,H3,I3,rel,q3⟩=>{(x,y)::ps,H3,I3,.cons ⟨rx,ry⟩ rel,q3})
def kH(kvs more:List (Key×V)):List (Key×V):=more.foldl (λacc kv=>putK acc kv.1 kv.2) kvs
def KV.merge:∀{more:List (Key×V)}{rs:List (Key×f')}{kvs:List (Key×V)}{vs:List (Key×f')},KV more rs->KV kvs vs->KV (kH kvs more) (GT vs rs):=by
 ext more rs kvs vs r
 induction r generalizing kvs vs with
 |nil=>ext q;show q
 |@cons p q ps qs h t ih=>
  ext r0;have e:KV (putK kvs p.1 p.2) (stored vs q.1 q.2):=by have:=r0.put p.1 h.2;rw[<-h.1];show this
  show ih e
theorem BZ:∀(more kvs:List (Key×V)),(kH kvs more).length<=kvs.length+more.length
 |[],kvs=>by change kvs.length<=kvs.length+0;lia
 |p::r,kvs=>by have h1:=BZ r (putK kvs p.1 p.2);have h2:=uz kvs p.1 p.2;change(kH (putK kvs p.1 p.2) r).length<=_;rw[bx];lia
theorem Ik:∀{kvs:List (Key×V)}{ws:List (f'×f')},VV (kvs.map λkv=>(kV kv.1,kv.2)) ws->∃rs,Carries (bS P w) ws rs/\KV kvs rs
 |[],_,r=>by rw[fU]at r;cases r;show{[],True.intro,.nil}
 |p::kvs,_,r=>by
  cases r with
  |@cons a b as bs h t=>
   let(rs,c,q):=Ik t;let(b1,b2):=b;show{(p.1,b2)::rs,{qA h.1,9,c},.cons {9,h.2} q}
def afh(LV:List (TE×TE)):TE:=λZ H Q=>∀p,H p=none->L3 LV Z (upd H p 69) λps H2=>H2 p=some 69/\∃kvs:List (Key×V),ps=kvs.map (λkv=>(kV kv.1,kv.2))/\kvs.length<=15/\Q (.ref p) (upd H2 p (.dK (kH [] kvs)))
def abq(h:Lk X pos keys values LV)(oB:keys.all (·.isSome)=true)(hl:keys.length=values.length)(h0:keys≠[])
  (h15:keys.length<=15):PE X (.Dict keys values pos) (afh LV):=by
 ext bi s Z H Q I q;have I1:=I.laid (t':=s.toks) (λ_ _ q=>aj _ q) (au _) (OA s.heap I.big);show wpAny_Dict_walk (knd:=bS 57 X.w) oB hl h0 h15 (hU (h bi _ Z _ _ I1 (q _ (I.bK.fresh (au 17)))) λws s2 agX=>?_);let(ps,H2,I2,rel,e,kvs,ep,lk,q2):=agX;subst ep;let(rs,c,rk):=Ik rel;let(z,hd,vs0,r0,dd):=uE I2.bK e;cases r0;show{rs,c,dd,λh' sg hs=>{.ref 17,_,?_,9,q2}};have hz:(kH [] kvs).length<=ca:=by have h1:=BZ kvs [];rw[jZ]at h1;rw[bW];lia
 show t7 I2 (e▸True.intro) hs (let⟨q,_,_,hq,_⟩:=sg;⟨q,hq⟩) (xp hz hd (rk.merge .nil) sg)
structure M1(X:Cx)(o:u8)(m:io)(AT:Fa)(e:u8)(fH:Fa):Prop where
 base:wf o m X.env (sn o X.env)=sn o X.env
 kL:((xL fH (i6 [e] X.env)).all (λx=>!x.1)&&(SZ fH (J' [] X.env)).all (λx=>x.1.isSome)
  &&decide (([e]:List u8).length+([]:List P').length+(if([]:List P').isEmpty then 0 else 1)<30))=true
 line:(AT.endLine==fH.line)=true
 trees:xL fH (i6 [e] X.env)=[(false,sn e X.env)]
structure M2(X:Cx)(o:u8)(m:io)(AT:Fa)(e f:u8)(fH:Fa):Prop where
 base:wf o m X.env (sn o X.env)=sn o X.env
 kL:((xL fH (i6 [e,f] X.env)).all (λx=>!x.1)&&(SZ fH (J' [] X.env)).all (λx=>x.1.isSome)
  &&decide (([e,f]:List u8).length+([]:List P').length+(if([]:List P').isEmpty then 0 else 1)<30))=true
 line:(AT.endLine==fH.line)=true
 trees:xL fH (i6 [e,f] X.env)=[(false,sn e X.env),(false,sn f X.env)]
def IsD(H:Hp)(a:bn):Prop:=(∃kvs,Rd H a (.dK kvs))\/∃kvs,Rd H a (.dT kvs)
def Vw(I:Inv X bi Z H s)(d:IsD H a):
  s.TypeIs 68 "dict"/\(∀b,Value.ref a=.ref b->∃ob,s.heap.get? b=some ob/\ob.dict=none)/\(a==re)=false:=by
 rcases d with⟨kvs,e⟩|⟨kvs,e⟩
 ·let(__,hd,vs,__,dd):=uD I.bK e;show{dd.typeIs,λb q=>?_,hd};cases q;let(ob,__,__,h1,h2,__):=dd;show{ob,h1,h2.2.1}
 ·let(__,hd,xs,__,dd):=yG I.bK e;show{dd.typeIs,λb q=>?_,hd};cases q;let(ob,__,__,h1,h2,__):=dd;show{ob,h1,h2.2.1}
section
variable{X:Cx}{bi:Aac}{Z:St}{H:Hp}{s:cr}{a:bn}{y d:V}{u r:f'}{o:Aap}{A:mo}{E:Aae}
def aeR{Q:Aae}(hu:A.units+1<v6)(I:Inv X bi Z H s)(g:kW H a y o)(ry:RelV y u)(h:∀w' s',Inv X bi Z H s'->RelV (o.getD .b7) w'->Q w' s'):
  fv 59 A (EQ (.builtin "dict.get") [.ref a,u]) Q E s:=by
 rcases g with⟨kvs,k,e,ey,l⟩|⟨kvs,k,b,e,ey,eb,l⟩
 ·subst ey;let(z,hd,vs,rel,dd):=uD I.bK e;show jN fT dd.typeIs jF (xZ _ _) (meets_dict_get (bS 57 X.w) a (qA ry) hd) {_,dd.mapOf,h _ _ (I.tok _) ?_};rw[l];show(rel.val k).getD rfl
 ·subst ey;cases(show u=Value.ref b from ry);let(z,hd,xs,rel,dd):=yG I.bK e;show jN fT dd.typeIs jF (xZ _ _) (meetsH_dict_get (F' (bS 57 X.w)) a b hd) {jJ hu,k,xs,xf I.bK eb,dd,h _ _ (I.tok _) ?_};rw[l];show(rel.val k).getD rfl
def aeQ(hu:A.units+1<v6)(I:Inv X bi Z H s)(g:kW H a y o)(ry:RelV y u)(rd:RelV d r)(h:∀w' s',Inv X bi Z H s'->RelV (o.getD d) w'->Q w' s'):
  fv 59 A (EQ (.builtin "dict.get") [.ref a,u,r]) Q E s:=by
 rcases g with⟨kvs,k,e,ey,l⟩|⟨kvs,k,b,e,ey,eb,l⟩
 ·subst ey;let(z,hd,vs,rel,dd):=uD I.bK e;show jN fT dd.typeIs jF (pV _ _ _) (meets_dict_get_default (bS 57 X.w) a (qA ry) hd r) {_,dd.mapOf,h _ _ (I.tok _) ?_};rw[l];show(rel.val k).getD rd
 ·subst ey;cases(show u=Value.ref b from ry);let(z,hd,xs,rel,dd):=yG I.bK e;show jN fT dd.typeIs jF (pV _ _ _) (xS (F' (bS 57 X.w)) a b hd r) {jJ hu,k,xs,xf I.bK eb,dd,h _ _ (I.tok _) ?_};rw[l];show(rel.val k).getD rd
end
inductive aa3(ty:TE)(Z:St)(Q:VK)(x:V)(H1:Hp):Prop
 |mk a (_:x=.ref a) (_:IsD H1 a) (_:ty Z H1 λy H2=>∃o,kW H2 a y o/\Q (o.getD .b7) H2)
def acY(td ty:TE):TE:=λZ H Q=>td Z H λx H1=>aa3 ty Z Q x H1
inductive aa0(ty:TE)(tx:TE)(Z:St)(Q:VK)(x:V)(H1:Hp):Prop
 |mk a (_:x=.ref a) (_:IsD H1 a) (_:ty Z H1 λy H2=>tx Z H2 λz H3=>∃o,kW H3 a y o/\Q (o.getD z) H3)
def acX(td ty tx:TE):TE:=λZ H Q=>td Z H λx H1=>aa0 ty tx Z Q x H1
section
variable{X:Cx}{o e f:u8}{AT fH:Fa}{td ty tx:TE}
def XT(hu:X.A.units+1<v6)(ho:PE X o td)(he:PE X e ty)(m:M1 X o "get" AT e fH):PE X (.Call (.Attribute o "get" AT) [e] [] fH) (acY td ty):=by ext bi s Z H Q I h;show pZ m.base m.kL m.line dY fT rn (da (ho bi s Z H _ I h) λu s1 x H1 I1 rx agW=>?_);let(a,ex,d,q1):=agW;subst ex;obtain rfl:u=Value.ref a:=rx;let(t1,t2,__):=Vw I1 d;show{t1,t2,?_};rw[m.trees];show fD rfl (ky (fZ (da (he bi s1 Z H1 _ I1 q1) λiv s2 y H2 I2 ry ⟨ov,g,q2⟩=>kj ?_)));show aeR hu I2 g ry λw' s3 I3 qR=>⟨_,H2,I3,qR,q2⟩
def tQ(hu:X.A.units+1<v6)(ho:PE X o td)(he:PE X e ty)(hf:PE X f tx)(m:M2 X o "get" AT e f fH):PE X (.Call (.Attribute o "get" AT) [e,f] [] fH) (acX td ty tx):=by ext bi s Z H Q I h;show pZ m.base m.kL m.line dY fT rn (da (ho bi s Z H _ I h) λu s1 x H1 I1 rx agV=>?_);let(a,ex,d,q1):=agV;subst ex;obtain rfl:u=Value.ref a:=rx;let(t1,t2,__):=Vw I1 d;show{t1,t2,?_};rw[m.trees];show fD rfl (ky (fZ (da (he bi s1 Z H1 _ I1 q1) λiv s2 y H2 I2 ry q2=>fZ (da (hf bi s2 Z H2 _ I2 q2) λfv s3 z H3 I3 rz ⟨ov,g,q3⟩=>kj ?_))));show aeQ hu I3 g ry rz λw' s4 I4 qR=>⟨_,H3,I4,qR,q3⟩
variable{bi:Aac}{Z:St}{H:Hp}{s:cr}{a:bn}{kvs:List (Key×V)}{A:mo}{E:Aae}
def Y5(I:Inv X bi Z H s)(e:Rd H a (.dK kvs))(h:∀p s',H p=none->Inv X bi Z (upd H p (.dK kvs)) s'->Q (.ref p) s'):fv 59 A (EQ (.type "dict") [.ref a]) Q E s:=by let(z,hd,vs,rel,dd):=uD I.bK e;show kt_call_dict hd dd (rel.length▸z) λh' sg hs=>?_;show h _ _ (I.bK.fresh (au _)) (I.laid (λb q hq=>(hs.2 b (aW (aX hq))).trans (aj _ hq)) (au _) (xp z (c6.mpr (cQ (aW I.big))) rel sg))
end
end L2
namespace Att
open PySem PySem.W PySem.Calls PyProof.Rows
def HB:∀(ns:List Int)(vs:Aag),WellAll P h vs (ns.map WData.int)->Re vs ns:=by
 ext ns
 induction ns with
 |nil=>
  ext vs w;cases w;show .nil
 |cons n ns ih=>
  ext vs w;cases w with
  |cons a b=>
   cases a;show .cons _ _ (ih _ b)
def Ue{l:OpenLaw}(hn:l.most=some n)
  (Si:l.row.toRowW.claim.pre args=true) (FE:WellAll P h vals args):
  ∃a vs ns,vals=[Value.ref a]/\args=[WData.list (ns.map WData.int)]/\h.get? a=some {cls:=.type "list",data:=.seq vs.toArray}/\Re vs ns/\ns.length<=n:=by
 have hc:l.pre.holds [] {args:=args}=true:=(pre_splitW Si).2;let(d,r,rfl,h1,h2):=hasAllW_cons ((pre_splitW Si).1);obtain rfl:=hasAllW_nil h2;let(xs,rfl,h3):=hasW_list h1;let(ns,rfl):=items_int h3;have hlen:ns.length<=n:=by
  have h4:(WTm.not (.lt (.lit (.int (n:Int))) (.len (.arg 0)))).holds [] {args:=[.list (ns.map .int)]}=true:=by have h4:=(holds_andW hc).1;rw[hn]at h4;show h4
  have h5:=condW_of h4 (w_not (w_lt w_lit (w_len_list (w_arg 9))));show kN λq=>?_
  first
   |(rw[bb q']at h5;show absurd h5 (by decide))
   |(simp at h5;lia)
 cases FE with
 |cons w1 w2=>
  cases w2;cases w1 with
  |list ho oB=>show{_,_,ns,9,9,ho,HB ns _ oB,hlen}
def Uv(l:OpenLaw)(args:List WData):l.row.toRowW.claim.post args (.bool true) args=true:=
 postW_of
  (show WShape.has [] (.bool true) .bool=true by first|rfl|decide|simp[WShape.has,WShape.arms,WShape.armsAll])
  (show(WTm.eq .res (.lit (.bool true))).value [] {args:=args,res:=some (.bool true),after:=args}=some (.bool (true==true))from w_eq_bool (w_res 9) w_lit) rfl
def Px{l:OpenLaw}
  (hn:l.most=some n) (VX:d.params.defaults=[])
  (EQ:∀(w:i3)(aab aaa:cr)(mg mb:Aad)(fa:bn)(o:G')(pm cd doc:f')(a:bn)(vs:Aag)(ns:List Int),
   Ground q loose [] XP w aab mg mb aaa.heap->YP w aaa.heap->
   aaa.heap.get? fa=some o->o.data=.func (docDef d.name d.params d.body d.scope pm cd doc)->aaa.heap.CodeRec cd d.name->mg d.name=some (.ref fa)->
   aaa.heap.get? a=some {cls:=.type "list",data:=.seq vs.toArray}->Re vs ns->ns.length<=n->aaa.gens=#[]->
   wE (f8 l.prog w) PP (.call (.ref fa) {[.ref a],[]}) (λr s'=>r=.ok (.ret (.bool true))/\OldK aaa.heap s'.heap/\s'.os=aaa.os/\Ix s'.gens) aaa):
  WalkO q loose XP YP l.row.toRowW d [] (λf vs=>PySem.call f vs):=by
 ext w aab aaa mg mb G Y fa o pm cd doc dV kV ho hd Dw hD VN hg args vals as Si aie hrd FE hlo;obtain rfl:dV=.none:=Dflts.none hD VX;obtain rfl:kV=.none:=Dflts.noKw hD;let(a,vs,ns,rfl,rfl,Yz,hints,hlen):=Ue hn Si FE;show enter_call (mz (EQ w aab aaa mg mb fa o pm cd doc a vs ns G Y ho (fd_plain hd) Dw VN Yz hints hlen hg) λr s' hq=>?_);let(rfl,h2,h3,h4):=hq;show{.inl {.bool true,.bool true,[],9,λ_=>9,.bool true,Uv l _,λ_=>{List.Pairwise.nil,λ_ hm=>(nomatch hm)}},h2,h3,h4}
section
def ledger(h:i5)(L d:bn):Aac:=(List.range h.objs.size).filterMap λa=>if a=L\/a=d then none else(h.get? a).map λo=>(a,o)
end
end Att
namespace L2
open PySem PySem.Spec PyProof.Rows
theorem JX:∀{vs:Aag}{ns:List Int},Re vs ns->Vals (ns.map V.int) vs
 |_,_,.nil=>.nil
 |_,_,.cons n t h=>.cons ⟨t,rfl⟩ (JX h)
def Tg(H:Hp):Prop:=∀b,H b=none\/∃o xs,H b=some (.fX o (.lst xs))
def Yl{K:Frag}
  (KX:K.In aaa.heap) (B4:aaa.heap.Ns i7 mg) (hb:aaa.heap.Ns SL mb) (hbb:∀x:io,x≠"__name__"->mb x=wT x) (ahr:aaa.heap.NoLimit) (hg:aaa.gens=#[])
  (ha:aaa.heap.get? a=some {cls:=.type "list",data:=.seq vs.toArray}) (hi:Re vs ns) (hl:ns.length<=ca) (hr:iR k PP)
  (F:∀base:i5,K.In base->base.Ns i7 mg->cH P w K mg base CX k fa fd [x] sp) (afM:∀(s:cr)(u:f'),M' s fd {[u],[]} [(x,u)])
  (KC:∀H:Hp,Tg H->bg K H a (ns.map V.int)->sp [.ref a] H (λv _=>v=.bl true) λ_ _ _=>False)
  (hCX:∀H e s',CX [] H aaa (λ_ _ _=>False) e s'->False):
  wE (f8 P w) PP (.call (.ref fa) {[.ref a],[]}) (λr s'=>r=.ok (.ret (.bool true))/\OldK aaa.heap s'.heap/\s'.os=aaa.os/\Ix s'.gens) aaa:=by
 have rv:=JX hi;have core:∀H:Hp,Tg H->bg K H a (ns.map V.int)->kh P w H aaa.heap->(∀b,H b≠none->b=a)->(H a≠none->K.lookup a=none)->
   wE (f8 P w) PP (.call (.ref fa) {[.ref a],[]}) (λr s'=>r=.ok (.ret (.bool true))/\OldK aaa.heap s'.heap/\s'.os=aaa.os/\Ix s'.gens) aaa:=by
  ext H hO hS bK hA hK;have Q8:∀{b:bn}{o:G'},aaa.heap.get? b=some o->H b=none->(Gv aaa.heap H).get? b=some o:=λe n=>YC e n;have U0:∀{b:bn}{o:G'}{es:Array Ch}{ep:Nat},aaa.heap.get? b=some o->o.data=.dict es ep->H b=none:=λ{b o es ep} e d=>by
   cases q:H b with
   |none=>rfl
   |some u=>
    have e':=hA b (by rw[q];simp);subst e';rw[ha]at e;cases e;have d':=d;cases d'
  have nsK:∀{b:bn}{m:Aad},aaa.heap.Ns b m->(Gv aaa.heap H).Ns b m:=λ{b m} ⟨o,es,ep,e,d,r⟩=>{o,es,ep,Q8 e (U0 e d),d,r};have hKb:=λb o e=>Q8 (KX b o e) (by
   cases q:H b with
   |none=>rfl
   |some u=>
    have e':=hA b (by rw[q];simp);subst e';rw[hK (by rw[q];simp)]at e;cases e)
  have hM:Mod K mg (Gv aaa.heap H):={hKb,nsK B4,{mb,nsK hb,hbb},let⟨mc,h1,h2⟩:=ahr;{mc,nsK h1,h2}};show mz ((F _ hKb (nsK B4)).run PP [] aaa H {[.ref a],[]} [.ref a] [.ref a] _ _ hr ({9,hM,λb o e=>abD e,sE (VT _ _),trivial,λb hb=>absurd (show b∈([]:Aaj)from hb) 58,bK,.of_eq hg}) (afM aaa 68) (.cons 9 .nil) (KC H hO hS)) λr s' h=>?_;cases r with
  |error e=>show(hCX H e s' h).elim
  |ok fl=>
   cases fl with
   |next=>show False.elim h
   |brk=>show False.elim h
   |cont=>show False.elim h
   |ret u=>
    let(v,H',os,bare,un,ahm,r',q):=h;have q':=q;subst q';obtain rfl:u=Value.bool true:=r';show{9,OldK.of_keep λb o e=>?_,os,bare};cases q:H b with
    |none=>show un.keep b o e q (by ext z;show absurd (show b∈([]:Aaj)from z) 58) 58
    |some u=>
     rcases hO b with z|⟨ob,xs,z⟩
     ·rw[q]at z;cases z
     ·have z2:=un.vh b ob _ z;let(e1,__):=bK b _ z;let(e2,__):=ahm b _ z2;rw[e]at e1;cases e1;show e2
 cases hk:K.lookup a with
 |some o=>
  have e:=KX a o hk;rw[ha]at e;cases e;show core (λ_=>none) (λ_=>.inl 9) (.inr {_,vs.toArray,_,hk,9,9,9,by rw[aQ,hi.length];show hl,by simpa using rv}) (λb u z=>by have z':=z;cases z') (λb z=>absurd 9 z) λz=>absurd rfl z
 |none=>
  show core (λb=>if b=a then some (.fX {cls:=.type "list",data:=.seq vs.toArray} (.lst (ns.map V.int)))else none) (λb=>?_) (.inl (.inr ⟨{cls:=.type "list",data:=.seq vs.toArray},aL rfl⟩)) (λb u z=>?_) (λb z=>?_) λ_=>hk
  ·by_cases hb:b=a
   ·show .inr {_,_,aL hb}
   ·show .inl (aI hb)
  ·by_cases hb:b=a
   ·have z':=(aL hb).symm.trans z;cases z';subst hb;show{ha,by rw[ah];show hl,vs,_,rv,ha}
   ·have z':=(aI hb).symm.trans z;cases z'
  ·by_cases hb:b=a
   ·show hb
   ·show absurd (aI hb) z
abbrev KOf{K:Frag}{h:i5}(_:K.In h):Frag:=K
def aaP{l:PySem.W.OpenLaw}{K:Params->Frag}{CX:i3->OZ}{sp:i3->Sp}
  (hn:l.most=some n) (KG:n<=ca) (VX:d.params.defaults=[]) (hr:iR k PP)
  (hY:∀(w:i3)(h:i5),YP w h->(K w.params).In h)
  (F:∀(w:i3)(mg:Aad)(fa:bn)(h:i5),(K w.params).In h->h.Ns i7 mg->mg d.name=some (.ref fa)->
   ∃fd:i8,(∀(s:cr)(u:f'),M' s fd {[u],[]} [(x,u)])/\
    ∀base:i5,(K w.params).In base->base.Ns i7 mg->cH l.prog w (K w.params) mg base (CX w) k fa fd [x] (sp w))
  (KC:∀(w:i3)(H:Hp)(a:bn)(ns:List Int),ns.length<=n->Tg H->bg (K w.params) H a (ns.map V.int)->sp w [.ref a] H (λv _=>v=.bl true) λ_ _ _=>False)
  (hCX:∀(w:i3)(H:Hp)(s:cr)(e:f')(s':cr),CX w [] H s (λ_ _ _=>False) e s'->False):
  PySem.W.WalkO q loose XP YP l.row.toRowW d [] (λf vs=>PySem.call f vs):=by
 show Att.Px hn VX λw aab aaa mg mb fa o pm cd doc a vs ns G Y ho hd Dw VN Yz hints hlen hg=>?_;have KX:=hY w _ Y;let(fd,hb,hF):=F w mg fa _ KX G.T.g VN;show Yl KX G.T.g G.T.b G.T.builtins G.T.nolimit hg Yz hints (bc hlen KG) hr hF hb (λH hO hS=>KC w H a ns hlen hO hS) λH e s'=>hCX w H aaa e s'
def inClass(s:ss)(j:Nat):ss:=match s with
 | .ClassDef _ _ _ body _ _ _ _ _ _ _=>body.getD j (.Pass {0,0,0,0})
 |_=>.Pass {0,0,0,0}
def my(s:ss):Arguments:=match s with
 | .FunctionDef _ a _ _ _ _ _ _ _ _=>a
 |_=>{posonlyargs:=[],args:=[],vararg:=none,kwonlyargs:=[],kw_defaults:=[],kwarg:=none,defaults:=[]}
def k8(s:ss):List ss:=match s with
 | .FunctionDef _ _ b _ _ _ _ _ _ _=>b
 |_=>[]
def bH(s:ss):ww:=match s with
 | .FunctionDef _ _ _ _ _ _ sc _ _ _=>sc
 |_=>{kind:=.function,names:=[],isGenerator:=false,isCoroutine:=false}
abbrev dZ:OZ:=λ_ _ _ _ _ _=>False
abbrev E0:XK:=λ_ _ _=>False
def RM:Passes dZ X E0:=λ_ _ _ _ _ _ _ h=>h.elim
structure dH(K:Frag)(x xz:io)(st:ss)(f:bn)(fd:i8):Prop where
 ex:∃(oc:f')(od:Aak)(kV doc pm:f')(an:Aak)(cX ct:f')(BX:Aaf),
  fd=fnOf x xz (my st) (k8 st) (bH st) .none kV doc pm an cX ct/\K.lookup f=some {oc,od,.func fd,BX}/\codeIn K cX xz=true
 kp:keepIn K (.ref f)=true
section
variable{P:dL}{w:i3}{K:Frag}{mg:Aad}{base:i5}
def dH.ok{st:ss}(F:dH K x xz st f fd)(S:bX N ps (bH st))
  (Sr:∀(cX:f')(A:mo)(outer:List UV)(s:cr)(H:Hp)(vs:Aao)(Q:VK)(E:XK),iR k (A.deeper (KE xz (bH st) 17 f cX))->sp vs H Q E->
   ∃t,qr (OI dZ P w K mg base N xz (bH st) f cX A outer s H E).nox (k8 st) t/\t {nx:=λ_ H'=>Q .b7 H',rt:=Q} (start N vs) H) (len:∀vs H Q E,sp vs H Q E->vs.length=ps.length:=by intro _ _ _ _ h;cases h;subst_vars;rfl):cH P w K mg base dZ (k+1) f fd ps sp:=by
 let(oc,od,kV,doc,pm,an,cX,ct,BX,rfl,lk,Dw):=F.ex;show afR lk Dw S len λA outer s H vs Q E hr KC=>?_;let(t,h,q):=Sr cX A outer s H vs Q E hr KC;show{t,h.nox,q}
def dH.binds{st:ss}(F:dH K x xz st f fd)
  (h:∀(kV doc pm:f')(an:Aak)(cX ct:f')(us:Aag),us.length=ps.length->KM (fnOf x xz (my st) (k8 st) (bH st) .none kV doc pm an cX ct) {us,[]}=pure (ps.zip us)):Binds K fd ps []:=by
 let(oc,od,kV,doc,pm,an,cX,ct,BX,rfl,lk,Dw):=F.ex;show .all (h kV doc pm an cX ct)
def Wa{st:ss}{kV doc pm cX ct:f'}(l:K.lookup f=some {oc,od,.func (fnOf x xz (my st) (k8 st) (bH st) .none kV doc pm an cX ct),BX})
  (c:codeIn K cX xz=true) (k:keepIn K (.ref f)=true):dH K x xz st f (fnOf x xz (my st) (k8 st) (bH st) .none kV doc pm an cX ct):={⟨oc,od,kV,doc,pm,an,cX,ct,BX,rfl,l,c⟩,k}
def nQ(hr:iR k A):A.units+1<v6:=fY (Cg (by decide:1<=64) _) hr.units
def bq(h:n<=1000):n<ca:=fY h 7
variable{X:Cx}
def pv(i:Nat)(hN:X.N[i]?=some x:=by rfl)(hv:Vis X.env.scope x:=by first|exact Or.inl rfl|exact Or.inr (Or.inl rfl)|exact Or.inr (Or.inr rfl))(hd:87=false:=by decide)
  (Dw:(x==("__classdict__":io))=false:=by decide):PE X (.Name x pos) (acM i):=adu hN hv hd Dw
def fB{A B:Prop}(h:B):if false=true then A else B:=by show h
def ml{A B:Prop}(h:A):if true=true then A else B:=by show h
def dI{c A B:Prop}[Decidable c](h1:c->A)(h2:¬c->B):if c then A else B:=by
 by_cases h:c
 ·rw[aL h];show h1 h
 ·rw[aI h];show h2 h
def aG(H H':Hp):Prop:=∀b o,H b=some o->H' b=some o
def aG.refl(H:Hp):aG H H:=λ_ _ h=>h
def aG.trans(a:aG H H1)(b:aG H1 H2):aG H H2:=λc o h=>b c o (a c o h)
def aG.free(e:aG H H')(h:H' l=Option.none):H l=Option.none:=by
 cases q:H l with
 |none=>rfl
 |some o=>
  rw[e l o q]at h;cases h
def WB:gJ X (.builtin "len") (λxs H Q=>∃a kvs,xs=[V.ref a]/\H a=some (.dK kvs)/\Q (.int kvs.length) H):=by ext bi s Z H xs us Q I r h;let(a,kvs,rfl,ha,q):=h;let(u,rfl,ru):=jn r;cases ru;show afX I (.inl ha) λt s' I'=>{.int kvs.length,H,I',⟨t,rfl⟩,q}
end
section
variable{κ:Type}[DecidableEq κ]
end
def Its(z:io):It:={λi _=>i<z.cps.size,λi H x H'=>H'=H/\∃c,z.cps[i]?=some c/\x=.str ⟨#[c]⟩,λi _=>i=z.cps.size}
def JW(hh:A.handled=none)(I:bn)(x:io)(t:P3):
  Walks prog w A I [I] [I] x.cps.size (SignAt x) (λi h=>h.IsStrIter I (strIterType x) x t i):=by
 unfold strIterType;cases x.cps.all (·<128)with
 |true=>show Walks.strAscii hh I x t
 |false=>show Walks.strWide hh I x t
def Lm(x:io):["enumerate","zip","dict_itemiterator","dict_reverseitemiterator","odict_iterator","itertools.zip_longest","itertools.pairwise"].contains (strIterType x)=false:=by
 unfold strIterType;cases x.cps.all (·<128)with
 |true=>decide
 |false=>decide
def W4{K:Frag}(it:bn)(z:io)(t:P3):Turn P w K tg (Its z) [it] it (λi h=>h.IsStrIter it (strIterType z) z t i) where
 mem:=by simp
 obj:=λi h st b hb=>by
  have e:b=it:=by simpa using hb
  subst e;let(o,e,c,d):=st;show{o,e,λv z=>by rw[d]at z;cases z}
 keep:=λi h h' st k=>by let(o,e,r):=st;show{o,k it 58 o e,r}
 item:=by ext X hP hw hK hc i bi s Z H E I hf st hg;subst hP hw hK;let(f0,f1,f2,f3,f4,f5):=hf it 58;show(JW (prog:=57) (w:=X.w) (I.ok.hd hc) it z t).item i s _ _ hg st λv h' tk hv lO kk=>?_;let(c,u,KO,rfl):=hv;let(o,e,c1,d1):=id lO;show{_,9,EJ e c1 d1 (Lm z) {.str ⟨#[c]⟩,H,(I.turned (λb o hb e=>kk b o (by simpa using hb) e) f0 f1 f3 f4 f5),⟨u,rfl⟩,⟨rfl,c,KO,rfl⟩,lO,λb hb=>(hf b hb).1}}
 done:=by ext X hP hw hK hc i bi s Z H E I hf st hg;subst hP hw hK;let(f0,f1,f2,f3,f4,f5):=hf it 58;have e:=hg;subst e;show(JW (prog:=57) (w:=X.w) (I.ok.hd hc) it z t).done s _ _ st λh' tk kk=>{9,I.turned (λb o hb e=>kk b o (by simpa using hb) e) f0 f1 f3 f4 f5}
 self:=λA i s Q E st h=>by
  unfold strIterType at st;cases hx:z.cps.all (·<128)with
  |true=>rw[hx]at st;show wpAny_pyIter_striter_ascii st h
  |false=>rw[hx]at st;show wpAny_pyIter_striter_wide st h
section
variable{X:Cx}{tg:u8}
inductive afF(R:It->Hp->Prop)(x:V)(H1:Hp):Prop
 |mk z (_:x=.str z) (_:R (Its z) H1)
def agx(tl:TE):TI:=λZ H R=>tl Z H λx H1=>afF R x H1
def UA(hl:PE X l tl):PI X tg l (agx tl):=by
 ext bi s Z H R I h;show da (hl bi s Z H _ I h) λv s1 x H1 I1 r1 q1=>?_;let(z,e,q):=q1;subst e;let(t,rfl):=r1;show wpAny_pyIter_strU ?_;have I2:Inv X bi Z H1 {s1 with heap:=s1.heap.push {cls:=.type (strIterType z),data:=.fields #[.str z t,.int 0 0]}}:=I1.kept λb o e=>aj _ e;show{75,[75],_,Its z,H1,9,I2,W4 75 z t,{_,aR _ rfl,9,9},λb hb=>?_,q};have e:b=75:=by simpa using hb
 subst e;show I1.vi (au _) (I1.bK.fresh (au _))
def frees(scope:ww):Aah:=(scope.names.filter λp=>p.2==.free).map (·.1)
def mX(scope:ww)(env:UV):List (io×bn):=(frees scope).reverse.map λn=>(n,(env.cells.lookup n).getD 0)
theorem JD(env:UV):∀(names:List (io×wn))(cs:List (io×bn)),(∀n∈(names.filter λp=>p.2==.free).map (·.1),∃c,env.cells.lookup n=some c)->
  (forIn names cs λ(x:io×wn)(r:List (io×bn))=>(if x.2==.free then do let c<-cellOf env x.1;pure (ForInStep.yield ((x.1,c)::r))else pure (ForInStep.yield r):Sem (ForInStep (List (io×bn)))))=
   pure ((((names.filter λp=>p.2==.free).map (·.1)).reverse.map λn=>(n,(env.cells.lookup n).getD 0))++cs)
 |[],cs,_=>rfl
 |(n,k)::r,cs,h=>by
  rw[List.forIn_cons];cases hk:(k==NameKind.free)with
  |false=>
   have ih:=JD env r cs (λm hm=>h m (by simpa[cK,hk]using hm));simp only[hk,cD,fR,cK,pure_bind];show ih
  |true=>
   let(c,hc):=h n (by simp[cK,hk]);have h':=λm hm=>h m (by
    simp only[cK,hk,k7,bo];show ay _ hm)
   have ec:cellOf env n=pure c:=by unfold cellOf;rw[hc]
   simp only[hk,k7,cK,bo,List.reverse_cons,aF,fU,dN,qL,jY,ec,pure_bind,hc,Option.getD_some];show(JD env r ((n,c)::cs) h')
def yI(h:∀n∈frees scope,∃c,env.cells.lookup n=some c):closureFor scope env=pure (mX scope env):=by have e:=JD env scope.names [] h;rw[cZ]at e;have q:closureFor scope env=((forIn scope.names ([]:List (io×bn)) λ(x:io×wn)(r:List (io×bn))=>(if x.2==.free then do let c<-cellOf env x.1;pure (ForInStep.yield ((x.1,c)::r))else pure (ForInStep.yield r):Sem (ForInStep (List (io×bn)))))>>=λr=>pure r):=9;rw[q,bind_pure];show e
theorem C4{β:Type}(g:io->β)(y:io):∀l:Aah,(l.map λn=>(n,g n)).lookup y=if y∈l then some (g y)else none
 |[]=>by simp
 |n::r=>by
  rw[bo,jz];cases e:(y==n)with
  |true=>
   have e':=dX e;subst e';simp
  |false=>
   have e':y≠n:=λq=>by rw[q]at e;simp at e
   rw[(C4 g y r)];simp[e']
def jE(h:∀n∈frees scope,∃c,env.cells.lookup n=some c):(mX scope env).lookup y=some c↔y∈frees scope/\env.cells.lookup y=some c:=by
 unfold mX;rw[C4 (λn=>(env.cells.lookup n).getD 0)];by_cases hy:y∈frees scope
 ·let(d,hd):=h y hy;rw[aL (List.mem_reverse.mpr hy),hd];simp[hy]
 ·rw[aI λq=>hy (List.mem_reverse.mp q)];simp[hy]
theorem C5(f:io->wn->wn)(y:io):∀names:List (io×wn),(names.map λp=>(p.1,f p.1 p.2)).lookup y=(names.lookup y).map (f y)
 |[]=>rfl
 |(n,k)::r=>by
  rw[bo,jz,jz];cases e:(y==n)with
  |true=>
   have e':=dX e;subst e';rfl
  |false=>show(C5 f y r)
def mf(scope:ww)(env:UV)(y:io):(GM scope env).names.lookup y=(scope.names.lookup y).map λk=>if(k==.free&&env.scope.kind==.function&&env.kindOf y==some .cell)=true then NameKind.cell else k:=by
 have e:(GM scope env).names=scope.names.map λp=>(p.1,(λ(n:io)(k:wn)=>if(k==.free&&env.scope.kind==.function&&env.kindOf n==some .cell)=true then NameKind.cell else k) p.1 p.2):=by show b4 λp _=>?_;let(n,k):=p;change(if(k==.free&&env.scope.kind==.function&&env.kindOf n==some .cell)=true then(n,NameKind.cell)else(n,k))=_;split<;>simp_all
 rw[e];show C5 (λ(n:io)(k:wn)=>if(k==.free&&env.scope.kind==.function&&env.kindOf n==some .cell)=true then NameKind.cell else k) y scope.names
end
structure sO(X:Cx)(scope:ww)(x:io)(fs:Aah)(fr:List Nat):Prop where
 kind:scope.kind=.function
 loc:scope.names.lookup x=some .local
 names:∀y∈scope.names,y.2=.local->scope.names.lookup y.1=some .local
 UY:∀y∈scope.names,y.2≠ .cell
 free:∀n∈frees scope,X.env.kindOf n=some .cell/\scope.names.lookup n=some .free
 nd:(x::fs).Nodup
 len:fr.length=fs.length
 slots:∀(j:Nat)(y:io)(k:Nat),fs[j]?=some y->fr[j]?=some k->X.N[k]?=some y/\y∈frees scope
abbrev eB(X:Cx)(N':Aah)(scope:ww)(C:bn)(s:cr)(H:Hp)(ex:Aaj):Cx:=
 {X with N:=N',aab:=s,aae:=H,env:=SC scope (mX scope X.env) C X.env,outer:=X.stack,stack:=X.stack,ex:=ex,fn:=λ_=>false,pn:=[],xe:=λ_ _=>False}
def CT(X:Cx)(ifs:List u8)(tt:TT):Prop:=
 ∀(bi:Aac)(s:cr)(Z:St)(H:Hp)(Q:Bool->Hp->Prop),Inv X bi Z H s->tt Z H Q->
  fv 59 X.A (forIn ifs true λc r=>if r=true then do let ok<-isTrue c X.env (sn c X.env);pure (ForInStep.yield ok)else pure (ForInStep.yield r)) (TP X bi Z Q) X.xe s
def AN:TT:=λ_ H Q=>Q true H
def Ih:CT X [] AN:=λ_ _ _ H _ I h=>wpAny_tests_nil ⟨H,I,h⟩
def OL(h:PT X c tc):CT X [c] tc:=λbi s Z H Q I hq=>wpAny_tests_one (h bi s Z H Q I hq)
def slotsOf(fr:List Nat)(Z:St):St:=fr.map λk=>(Z[k]?).getD none
def uo(wi:TI)(fr:List Nat)(tt:TT)(te:TE):TE:=λZ H Q=>wi Z H λJ H1=>∃W:Nat->Nat->Aao->Hp->Prop,(∃m,W 0 m [] H1)/\∀i m ys H2,W i m ys H2->
 (J.stop i H2/\ys.length<=ca/\∀l,H2 l=none->Q (.ref l) (upd H2 l (.lst ys)))\/
 (J.go i H2/\ys.length<ca/\∀v H3,J.Cn i H2 v H3->tt (some v::slotsOf fr Z) H3 λb H4=>
  if b=true then te (some v::slotsOf fr Z) H4 (λy H5=>∃m',m'<m/\W (i+1) m' (ys++[y]) H5)else∃m',m'<m/\W (i+1) m' ys H4)
section
variable{X:Cx}
def uB{h h':i5}(k:∀b o,h.get? b=some o->h'.get? b=some o)(z:h.IsCell c v):h'.IsCell c v:=by let(o,e,d):=z;show{o,k _ _ e,d}
def Inv.adopt(I:Inv X bi Z H s)(hn:H D=none)(e:s.heap.get? D=some {cls:=.type "list",data:=.seq vs.toArray k})(r:Vals ys vs)(hz:ys.length<=ca)
  (h1:X.aab.heap.objs.size<=D) (hL:D≠X.env.locals) (h2:∀x c,X.env.cells.lookup x=some c->c≠D) (h3:∀p∈X.pn++bi,p.1≠D):Inv X bi Z (upd H D (.lst ys)) s:=by
 have nD:∀b u,H b=some u->b≠D:=λb u q z=>by rw[z,hn]at q;cases q
 have bK:kh 57 X.w (upd H D (.lst ys)) s.heap:=λb u q=>by
  by_cases hb:b=D
  ·subst hb;rw[ar]at q;cases q;show⟨hz,vs,k,r,e⟩
  ·rw[aM hb]at q;show(I.bK b u q).rF (λ_ _ _ z=>z) (λc z=>by rw[aM (nD c _ z)];show z) λc xs z=>by rw[aM (nD c _ z)];show z
 have J:=I.step (t':=s.toks) (d':=s.drawn) (ch:=[D])
  (λb hb=>by
   have e':b=D:=by simpa using hb
   subst e';show{.inr h1,hL,h2,h3})
  (λb o _ _ _ q _=>q) (λb o _ _ _ q _=>{o.slots,q}) (λb o hc _ n=>by rw[aM λz=>hc (by simp[z])];show n) (λb o _ q=>⟨o,q⟩)
  (λb xs q=>by rw[aM (nD b _ q)];show q) (λb o u q=>by rw[aM (nD b _ q)];show q) (λb ps q=>{#[],by rw[aM (nD b _ q),q];simp}) (λm hm=>hm) bK I.bare
 show J
def acp(S:sO X scope x fs fr)(I2:Inv X bi Z H s2)(I3:Inv X bi Z H s)
  (hD:D=61) (hs:17=D+1) (bN:∀b∈fp,b<D) (f2:∀b∈fp,oU X bi H b):(eB X (x::fs) scope 17 s H (D::fp)).Ok:=by
 have mv:=λn hn=>I3.ok.has n (.inl (S.free n hn).1);have sub:∀{y:io}{c:bn},(mX scope X.env).lookup y=some c->X.env.cells.lookup y=some c:=λh=>((jE mv).mp h).2;show{I3.ok.mod,S.kind,I3.ok.glob,I3.ok.blt,au _,λa b c h1 h2=>I3.ok.inj a b c (sub h1) (sub h2),λy hy=>?_,(λ_ _ h=>by cases h),I3.ok.hd,I3.ok.frames,.inl rfl,λb hb=>?_,I3.bs,bc I3.ok.B9 I3.sz,λb o e hb=>?_,λb hb hf=>?_,I3.stack,I3.IM}
 ·have q:(GM scope X.env).names.lookup y=some .cell\/(GM scope X.env).names.lookup y=some .free:=hy;have nf:scope.names.lookup y=some .free:=by
   rw[mf]at q;cases e:scope.names.lookup y with
   |none=>rw[e]at q;simp at q
   |some k=>
    rw[e]at q;cases k with
    |free=>rfl
    |cell=>
     have hm:(y,NameKind.cell)∈scope.names:=by have:=kU.mp e;let(l1,l2,z,__):=this;rw[z];simp
     show absurd rfl (S.UY _ hm)
    |_=>simp at q
  have hm:y∈frees scope:=by let(l1,l2,z,__):=kU.mp nf;unfold frees;rw[z];simp
  let(c,hc):=mv y hm;show{c,(jE mv).mpr ⟨hm,hc⟩}
 ·rcases aN.mp hb with rfl|hb
  ·show{λz=>?_,λy c h z=>?_}
   ·show absurd (hs.symm.trans z.symm:b+1=b) (xG b)
   ·let(v,q):=I2.cell y c (sub h);have:=q.lt;rw[z,hD]at this;show absurd this (c7 _)
  ·show{λz=>?_,λy c h=>(f2 b hb).2.2.2.2.1 y c (sub h)};have q:=eP (bN b hb);rw[z]at q;show absurd q (by change ¬17<D+1;rw[hs];show c7 _)
 ·have js:=aX e;have h1:=I2.ok.B9;rcases aN.mp hb with rfl|hb
  ·rw[hD]at js;show absurd (br js (bc h1 I2.sz)) (c7 _)
  ·rcases(f2 b hb).2.2.2.1 with z|z
   ·show I2.ok.Gq b o e z
   ·show absurd (br js (bc h1 z)) (c7 _)
 ·have hf':=hf;rcases aN.mp (I2.G4 b hf')with z|z
  ·rcases aN.mp hb with rfl|hb
   ·have:=I2.lt;rw[<-z,hD]at this;show absurd this (c7 _)
   ·show(f2 b hb).2.1 z
  ·rcases aN.mp hb with rfl|hb
   ·show I2.Yc (sE hD.symm) z
   ·show(f2 b hb).2.2.1 z
def Zb(S:sO X scope x fs fr)(I3:Inv X bi Z H s)
  (ok:(eB X (x::fs) scope 17 s H ex).Ok) (hn:h4.Ns 17 m) (old:∀b o,s.heap.get? b=some o->h4.get? b=some o):
  Inv (eB X (x::fs) scope 17 s H ex) [] (none::slotsOf fr Z) H {s with heap:=h4,toks:=t}:=by
 have mv:=λn hn=>I3.ok.has n (.inl (S.free n hn).1);have sub:∀{y:io}{c:bn},(mX scope X.env).lookup y=some c->X.env.cells.lookup y=some c:=λh=>((jE mv).mp h).2;show{ok,9,I3.bare,Un.kept old,{m,hn,λi y v e1 e2 e3=>?_},λy c h=>?_,I3.bK.fresh (au _),λy c h=>I3.nV y c (sub h),λp hp=>absurd hp 58,I3.bK.kept old,?_}
 ·cases i with
  |zero=>
   have uW:(none:Aap)=some v:=by simpa using e2
   cases uW
  |succ j=>
   have uW:(slotsOf fr Z)[j]?=some (some v):=by simpa using e2
   unfold slotsOf at uW;rw[aZ]at uW;cases hk:fr[j]? with
   |none=>rw[hk]at uW;cases uW
   |some k=>
    rw[hk]at uW;have e4:(Z[k]?).getD none=some v:=by simpa using uW
    have e5:Z[k]?=some (some v):=by
     cases q:Z[k]? with
     |none=>rw[q]at e4;cases e4
     |some z=>rw[q]at e4;show cW some e4
    let(n1,n2):=S.slots j y k (by simpa using e1) hk;let(m0,__,hl):=I3.loc;let(u,ru,l):=hl k y v n1 e5 (.inr (.inl (S.free y n2).1));have kc:=(S.free y n2).1;rcases l with⟨l,_⟩|⟨_,c,hc,cl⟩
    ·rw[kc]at l;cases l
    ·show{u,ru,.inr {.inl ?_,c,(jE mv).mpr ⟨n2,hc⟩,uB old cl}};change(GM scope X.env).names.lookup y=some .cell;rw[mf,(S.free y n2).2,I3.ok.kind,kc];rfl
 ·let(v,z):=I3.cell y c (sub h);show{v,uB old z}
 ·change(none::slotsOf fr Z).length=(x::fs).length;simp[slotsOf,S.len]
abbrev lobj(vs:Aag)(k:Nat):G':={cls:=.type "list",data:=.seq vs.toArray k}
theorem PM:∀(xs:Aao)(us:Aag),96=us.length->(∀(j:Nat)(x:V)(u:f'),xs[j]?=some x->us[j]?=some u->RelV x u)->Vals xs us
 |[],[],_,_=>.nil
 |[],_::_,h,_=>by cases h
 |_::_,[],h,_=>by cases h
 |x::xs,u::us,h,f=>.cons (f 0 x u 9 9) (PM xs us (by simpa using h) λj a b e1 e2=>f (j+1) a b (by simpa using e1) (by simpa using e2))
def tN(h:Bj k v=true):RelV (kV k) v:=by
 rcases iU h with⟨i,t,rfl,rfl⟩|⟨x,t,rfl,rfl⟩
 ·show⟨t,rfl⟩
 ·show⟨t,rfl⟩
def range_all(bs:List Bool):((List.range bs.length).all λi=>(bs[i]?).getD true)=bs.all id:=by
 rw[fu,bt,bt];constructor
 ·ext h b hb;let(i,hi):=dy.mp hb;have:=h i (cw.mpr (aq.mp hi).1);rw[hi]at this;show this
 ·ext h i hi;have bN:=cw.mp hi;rw[av bN];show h _ (jA bN)
def JF(hc:X.calm=true):gJ X (.type "list") (λxs H Q=>∃a kvs,xs=[.ref a]/\H a=some (.dK kvs)/\∀l,H l=none->Q (.ref l) (upd H l (.lst (kvs.map λkv=>kV kv.1)))):=by
 ext bi s Z H xs us Q I r h;let(a,kvs,rfl,ha,q):=h;let(u,rfl,ru):=jn r;cases ru;let(hz,lo,vs,rel,o,es,ep,m):=uE I.bK ha;have hl:=rel.length;show PySem.W.kdl_call (PySem.W.kdl_dict lo) (I.ok.hd hc) (⟨o,es,m⟩) (hl▸hz) λh' tk vk c' kp e it=>?_;have rv:Vals (kvs.map λkv=>kV kv.1) vk.toList:=by
  show PM _ _ (by simp[it.1,hl]) λj x v e1 e2=>?_;let(k,y,e3,e4):=it.2 j v (by rw[<-df];show e2);have e5:(kvs.map (·.1))[j]?=some k:=by rw[rel.keys,aZ,e3];rfl
  rw[aZ]at e1 e5;cases e6:kvs[j]? with
  |none=>rw[e6]at e1;cases e1
  |some p=>
   rw[e6]at e1 e5;obtain rfl:kV p.1=x:=bY e1;obtain rfl:p.1=k:=bY e5;show tN e4
 show{.ref 17,_,I.laid kp (au _) (show dG 57 X.w _ h' _ (.lst _)from{by rw[ah];show hz,vk.toList,c',rv,by simpa using e}),9,q _ I.fresh}
def Aw(hc:X.calm=true):gJ X (.builtin "all") (λxs H Q=>∃(a:bn)(bs:List Bool),xs=[.ref a]/\bg X.K H a (bs.map V.bl)/\Q (.bl (bs.all id)) H):=by
 ext bi s Z H xs us Q I r h;let(a,bs,rfl,ha,q):=h;let(u,rfl,ru):=jn r;cases ru;let(aY,rv,p,hz):=I.list ha;have hl:aY.length=bs.length:=by have:=rv.length;simpa using this.symm
 have iB:a≠17:=by let(o,n,e,__):=id p;show aW (aX e)
 show call_all_walk (lV p.isList ?_);show{17,_,_,aY.toArray.size,_,_,λi=>(bs[i]?).getD true,9,Iy (show X.A.in1.handled=none from I.ok.hd hc) 17 a iB aY.toArray,{{_,aR _ rfl,9,9},p.isList.at λo e=>aj _ e},?_,λh' tk kp=>?_}
 ·ext i v s' Q' E' hP hQ;have V5:aY[i]?=some v:=by simpa using hP
  have hi:i<bs.length:=by rw[<-hl];show(aq.mp V5).1
  let(u,hu,ru):=rv.get (by rw[aZ,av hi];rfl);rw[V5]at hu;cases hu;cases ru;show eO ?_;have e2:(bs[i]?).getD true=bs[i]:=by rw[av hi];rfl
  rw[<-e2];show hQ
 ·show{.bl (bs.all id),H,I.kept λb o e=>kp b o (by simpa using aW (aX e)) (aj _ e),?_,q};change Value.bool _=Value.bool _;rw[aQ,hl,range_all]
def gq:gJ X (.builtin "isinstance") (λxs H Q=>∃x n t b,xs=[x,.ty n]/\qd X.K H x t/\kitOne X.K t (.type n)=some b/\Q (.bl b) H):=by ext bi s Z H xs us Q I r h;let(x,n,t,b,rfl,ty,e,q):=h;let(u,w',rfl,ru,qR):=vals2 r;cases qR;show Vv I ru ty e λtk=>{.bl b,H,I.tok tk,9,q}
inductive abe(x:V)(vs:Aao)(H:Hp)(Q:VK):Prop
 |mk a b (_:x=.str a) (_:vs=[.str b]) (_:Q (.bl (Txt.startswith a b)) H)
def Ly:MtR X "str.startswith" abe:=by ext bi s Z H x vs v us Q I rx rv h;let(a,b,rfl,rfl,q):=h;let(t,rfl):=rx;let(u,rfl,ru):=rv.one;let(t',rfl):=ru;show call_gives F.slot_str_startswith (oW s a t) F.entry_str_startswith (F.args_str_startswith_2 _ _) (gives_str_startswith a b t t') {.bl _,H,I,9,q}
inductive agh(x:V)(lo:Option Int)(hi:Option Int)(H:Hp)(Q:VK):Prop
 |mk z (_:x=.str z) (_:z.length<=ca) (_:Q (.str (Txt.slice z lo hi)) H)
def Ml:Q9 X agh:=by
 ext bi s Z H x v vl vu lo hi sl Q I rx hs pl pu h;let(z,rfl,hz,q):=h;let(t,rfl):=rx;cases pl with
 |none=>
  cases pu with
  |none=>show{"str",_,F.slot_str_getitem.lookup,oW _ _ _,kT (l:=none) (u:=none) (st:=none) hs rfl (rO {bc (sC z _ _) hz,λt' k=>{.str _,H,I.tok k,⟨_,rfl⟩,q}})}
  |int j tj=>show{"str",_,F.slot_str_getitem.lookup,oW _ _ _,kT (l:=none) (u:=some (j,tj)) (st:=none) hs rfl (rO {bc (sC z _ _) hz,λt' k=>{.str _,H,I.tok k,⟨_,rfl⟩,q}})}
 |int i ti=>
  cases pu with
  |none=>show{"str",_,F.slot_str_getitem.lookup,oW _ _ _,kT (l:=some (i,ti)) (u:=none) (st:=none) hs rfl (rO {bc (sC z _ _) hz,λt' k=>{.str _,H,I.tok k,⟨_,rfl⟩,q}})}
  |int j tj=>show{"str",_,F.slot_str_getitem.lookup,oW _ _ _,kT (l:=some (i,ti)) (u:=some (j,tj)) (st:=none) hs rfl (rO {bc (sC z _ _) hz,λt' k=>{.str _,H,I.tok k,⟨_,rfl⟩,q}})}
def af1(_i j:Int):Prop:=0<j/\j.natAbs.log2<9000
def XY:iT X (x0 .FloorDiv) (rI af1 λi j=>.int (i/j)):=Z7 λi j _ _ _ _ _ hc q=>by have h1:=hc.1;show floordiv_int ∅ (by rw[Int.fdiv_eq_ediv_of_nonneg i ∅];show q) (.inl (PyProof.noPylong_of_log2 hc.2))
mutual
def Dt(K:Frag)(H:Hp):PyData->V->Prop
 | .none,x=>x=.b7
 | .bool b,x=>x=.bl b
 | .int i,x=>x=.int i
 | .str z,x=>x=.str z
 | .list ds,x=>∃a xs,x=.ref a/\bg K H a xs/\pN K H ds xs
 | .tuple ds,x=>∃a xs,x=.ref a/\ba K H a xs/\pN K H ds xs
 | .dict _,_=>False
def pN(K:Frag)(H:Hp):List PyData->Aao->Prop
 |[],xs=>xs=[]
 |d::ds,xs=>∃x r,xs=x::r/\Dt K H d x/\pN K H ds r
end
mutual
theorem tO(I:Inv X bi Z H s):∀(d:PyData)(x:V)(v:f'),Dt X.K H d x->RelV x v->∃as,W' s.heap v d as
 | .none,x,v,h,r=>by rw[Dt]at h;subst h;cases r;show{_,.none}
 | .bool b,x,v,h,r=>by rw[Dt]at h;subst h;cases r;show{_,.bool b}
 | .int i,x,v,h,r=>by rw[Dt]at h;subst h;let(t,rfl):=r;show{_,.int i t}
 | .str z,x,v,h,r=>by rw[Dt]at h;subst h;let(t,rfl):=r;show{_,.str z t}
 | .list ds,x,v,h,r=>by rw[Dt]at h;let(a,xs,rfl,hq,ha):=h;cases r;obtain⟨aY,rv,⟨o,n,e,c,_,d⟩,_⟩:=I.list hq;let(as,ra):=zi I ds xs aY ha rv;show{_,.list e c d (by simpa using ra)}
 | .tuple ds,x,v,h,r=>by rw[Dt]at h;let(a,xs,rfl,hq,ha):=h;cases r;obtain⟨aY,rv,⟨o,e,c,n,d⟩,_⟩:=I.tuple hq;let(as,ra):=zi I ds xs aY ha rv;show{_,.tuple e c d (by simpa using ra)}
 | .dict _,x,v,h,r=>by rw[Dt]at h;show h.elim
theorem zi(I:Inv X bi Z H s):∀(ds:List PyData)(xs:Aao)(vs:Aag),pN X.K H ds xs->Vals xs vs->∃as,K' s.heap vs ds as
 |[],xs,vs,h,r=>by rw[pN]at h;subst h;cases r;show{_,.nil}
 |d::ds,xs,vs,h,r=>by
  rw[pN]at h;let(x,r',rfl,h1,h2):=h;cases r with
  |cons r1 r2=>
   let(as,q1):=tO I d x _ h1 r1;let(bs,q2):=zi I ds r' _ h2 r2;show{_,.cons q1 q2}
end
inductive agk(K:Frag)(neg:Bool)(x:V)(y:V)(H:Hp)(Q:VK):Prop
 |mk d e (_:Dt K H d x) (_:Dt K H e y) (_:SeqAt.shaped d=true) (_:SeqAt.shaped e=true) (_:Q (.bl (if neg then !PyData.eqv d e else PyData.eqv d e)) H)
def CV(hu:X.A.units+64<v6):iT X (on .NotEq) (agk X.K true):=by ext bi s Z H x y v u Q I rx ry h;let(d,e,h1,h2,h3,h4,q):=h;let(as,r1):=tO I d x v h1 rx;let(bs,r2):=tO I e y u h2 ry;show ne_dataH r1 r2 h3 h4 hu {.bl _,H,I,9,q}
theorem ko{K:Frag}:∀zs:Aah,pN K H (zs.map PyData.str) (zs.map V.str)
 |[]=>by rw[fU,pN];rfl
 |z::r=>by show{_,_,9,by rw[Dt],ko r}
theorem nJ:∀xs ys:Aah,PyData.eqvAll (xs.map PyData.str) (ys.map PyData.str)=decide (xs=ys)
 |[],[]=>by simp[PyData.eqvAll]
 |[],_::_=>by simp[PyData.eqvAll]
 |_::_,[]=>by simp[PyData.eqvAll]
 |a::r,b::t=>by simp only[bo,PyData.eqvAll,PyData.eqv,nJ r t];by_cases h:a=b<;>by_cases h':r=t<;>simp[h,h']
theorem xc:∀zs:Aah,(∀z∈zs,PyData.strOk z=true)->PyData.canLayAll0 (zs.map PyData.str)=true
 |[],_=>rfl
 |z::r,h=>by simp[PyData.canLayAll0,PyData.canLay0,(h z aw),(xc r λy hy=>h y (ay _ hy))]
theorem pD:∀zs:Aah,PyData.depthAll (zs.map PyData.str)=0
 |[]=>rfl
 |_::r=>by simp[PyData.depthAll,PyData.depth,pD r]
def Fn(zs:Aah)(h:∀z∈zs,PyData.strOk z=true):SeqAt.shaped (.list (zs.map PyData.str))=true:=by simp[SeqAt.shaped,PyData.canLay0,PyData.depth,xc zs h,pD]
def S3(osc:ww)(N:Aah)(scope:ww)(x:io)(fs:Aah)(fr:List Nat):Bool:=
 scope.kind==.function&&scope.names.lookup x==some .local&&scope.names.all (λy=>!(y.2==.local)||scope.names.lookup y.1==some .local)&&scope.names.all (λy=>!(y.2==.cell))&&
  (frees scope).all (λn=>osc.names.lookup n==some .cell&&scope.names.lookup n==some .free)&&decide ((x::fs).Nodup)&&fr.length==fs.length&&
  (List.range fs.length).all (λj=>match fs[j]?,fr[j]? with|some y,some k=>N[k]?==some y&&decide (y∈frees scope)|_,_=>false)
end
def cR(h:S3 X.env.scope X.N scope x fs fr=true:=by kernel_rfl):sO X scope x fs fr:=by
 unfold S3 at h;simp only[bQ]at h;obtain⟨⟨⟨⟨⟨⟨⟨h1,h2⟩,h3⟩,h4⟩,h5⟩,h6⟩,h7⟩,h8⟩:=h;show{dX h1,dX h2,λy hy e=>?_,λy hy e=>?_,λn hn=>?_,aU h6,dX h7,λj y k e1 e2=>?_}
 ·have:=bt.mp h3 y hy;rw[e]at this;simpa using this
 ·have:=bt.mp h4 y hy;rw[e]at this;simp at this
 ·have:=bt.mp h5 n hn;rw[bQ]at this;show{dX this.1,dX this.2}
 ·have:=bt.mp h8 j (cw.mpr (aq.mp e1).1);rw[e1,e2]at this;simp only[bQ]at this;show{dX this.1,aU this.2}
def b6(P:dL)(w:i3)(K:Frag)(mg:Aad)(base:i5)(k:Nat)(x:io)(ps:Aah)(sp:Sp):Prop:=
 ∃f fd,cH P w K mg base dZ k f fd ps sp/\mg x=some (.ref f)/\keepIn K (.ref f)=true/\Binds K fd ps []
def cl(D:b6 57 X.w X.K X.mg X.base k x ps sp)(hr:iR j X.A)(ha:PA X (e::es) t)(hk:k<=j:=by decide)(hg:Gl X x:=by rfl)
  (Dk:87=false:=by decide) (he:i6 (e::es) X.env=(false,sn e X.env)::i6 es X.env:=by rfl) (jV:(xL pos (i6 es X.env)).any (·.1)=false:=by rfl):
  PE X (.Call (.Name x p) (e::es) [] pos) (ZI sp [] E0 t):=by
 let(f,fd,F,m,kp,b):=D;show abr F (hr.mono hk) hg m kp b .nil RM ha Dk he jV
def Hy(l:bn)(items:Aal)(n:Nat)(b:bn)(dd:Aak)(sl:Aaf)(C9:Aal)(n2:Nat)(hs0:¬(!items.isEmpty&&Builtin.List.listTooLong (items.size+C9.size))=true)(FG:items.size<=ca)(kJ:items.size+C9.size<=ca+1):
  Meets (Builtin.«list.extend» {[.ref l,.ref b],[]}) (λ_ R s=>s.heap.get? l=some {cls:=.type "list",dict:=none,data:=.seq items n,slots:=#[]}/\s.heap.get? b=some {cls:=.type "tuple",dict:=dd,data:=.seq C9 n2,slots:=sl}/\R (.ok (.ret Value.none)) {s with heap:=s.heap.update l (Obj.mapSeq λx=>x++C9),toks:=s.toks}):=
 .of_wp λprog w A R s h=>by
  let(hp,g,d,tk,os):=s;let(hl,hb,h):=h
  wp_walk using(yf hl 9 (_hz':=(by rw[Array.size_append];show kJ))),wpAny_loadPart' hl,wpAny_loadPart' hb
  show⟨_,rfl,h⟩
section
variable{X:Cx}
inductive Xz(K:Frag)(x:V)(vs:Aao)(H:Hp)(Q:VK):Prop
 |mk l b xs zs (_:x=.ref l) (_:vs=[.ref b]) (_:H l=some (.lst xs)) (_:ba K H b zs) (_:xs.length+zs.length<=ca) (_:Q .b7 (upd H l (.lst (xs++zs))))
def vZ:Ll X "list.extend" (Xz X.K):=by
 ext bi s Z H x vs v us Q I rx rv h;let(l,b,xs,zs,rfl,rfl,hH,hB,hz,q):=h;cases rx;let(u,rfl,ru):=rv.one;cases ru;let(z,aY,n,r,hl,e):=I.zm hH;obtain⟨tU,r2,⟨⟨cls,dd,data,sl⟩,e2,uS,n2,hd2⟩,z2⟩:=I.tuple hB;simp only at uS hd2;subst uS hd2;have fw:=r2.length;have hsz:aY.toArray.size+tU.toArray.size<=ca:=by rw[aQ,aQ];lia
 have Sk:¬(!aY.toArray.isEmpty&&Builtin.List.listTooLong (aY.toArray.size+tU.toArray.size))=true:=by rw[M8 hsz,mJ];show bL
 show lD Ei ⟨_,e,rfl⟩ Cm (BK _ _)
  (Hy l aY.toArray n b dd sl tU.toArray n2 Sk (by rw[aQ];lia) ∅) {e,e2,?_}
 show{.b7,_,I.Jj hH e 58 (r.append r2) ?_,9,q};rw[aC];lia
end
def cut(n:Nat)(C:St->Hp->Prop)(ht:∃t2,qr X (body.drop n) t2/\∀Z H,C Z H->t2 D Z H)
  (hh:∀t2,qr X (body.drop n) t2->∃t,qr X body t/\((∀Z H,C Z H->t2 D Z H)->t D σ0 H0)):∃t,qr X body t/\t D σ0 H0:=by
 let(t2,p,q):=ht;let(t,p',q'):=hh t2 p;show{t,p',q' q}
def XR(hg:Gl X x)(hm:∃t,X.mg x=some (.int i t))(hd:87=false:=by decide):PE X (.Name x pos) (tC (.int i)):=by let(t,hm):=hm;show Qi hg hm ⟨t,rfl⟩ hd
def XQ(hg:Gl X x)(hm:∃t,X.mg x=some (.str z t))(hd:87=false:=by decide):PE X (.Name x pos) (tC (.str z)):=by let(t,hm):=hm;show Qi hg hm ⟨t,rfl⟩ hd
section
variable{X:Cx}{K:Frag}
def xg(h:X.K=K:=by rfl):Rc X (adk K):=h▸eA
def wj(h:X.K=K:=by rfl):Rc X (adj K):=h▸bU
def yK(h:X.K=K:=by rfl):gJ X (.builtin "len") (λxs H Q=>∃x n,xs=[x]/\ae3 K x H n/\Q (.int n) H):=h▸cJ
def Hr(h:X.K=K:=by rfl):iT X (on .In) (ZY K false):=h▸CY
def ve(h:X.K=K:=by rfl):iT X (on .NotIn) (ZY K true):=h▸mh
def zW{A B:Hp->Prop}(h:A H):AN Z H (λb H4=>if b=true then A H4 else B H4):=by change(if true=true then A H else B H);show h
end
end L2
namespace HT
open PySem PySem.Spec PyProof.Rows
section
variable{prog:dL}{w:i3}{A:mo}{E:Aae}{s:cr}
def Ce{t sl:bn}{items:Aal}{vl vu:f'}{lo hi:Option Int}{Q:Aae}(ht:Op s.heap t items)(hs:s.heap.IsSliceOf sl vl vu .none)(pl:KB vl lo)(pu:KB vu hi)
  (hw:eJ items.size 0 lo=0/\eJ items.size items.size hi=items.size) (h:Q (.ref t) s):fv 24 A (getItem (.ref t) (.ref sl)) Q E s:=by
 let(os,NS,hcs,VW):=id hs;unfold getItem
 try with_reducible show b5 ?_
 first|show ae (ao ?_)|skip
 show ae (EU ht.typeIs 7 ?_);show ae (jp ht.typeIs eU
  (b9 eU ht.typeIs Cf ?_ (DV _ _)))
 change fv _ _ (Builtin.Tuple.tupleItemsOf (.ref t)>>=_) _ _ s;show ae (tupleItemsOf_ ht ?_);show ae (ij (⟨os,NS,hcs⟩) ?_);show ae (wF hs pl pu ?_);have ahc:81=true:=by rw[hw.1,hw.2];simp
 change fv _ _ (if 81=true then _ else _) _ _ s;rw[aL ahc];show ae (ae (ij ht.typeIs ?_));show ao ?_
 wp_walk
 show{_,9,ao h}
def Zf(ht:Op s.heap t vs.toArray)(hb:Op s.heap b ws.toArray)(h0:vs=[]->Q (.ref b) s)
  (h1:vs≠[]->ws=[]->Q (.ref t) s) (h2:vs≠[]->ws≠[]->Q (.ref 17) {s with heap:=s.heap.push {cls:=.type "tuple",data:=.seq (vs++ws).toArray}})
  (hsz:vs.length+ws.length<=ca):fv 24 A (x0 .Add (.ref t) (.ref b)) Q E s:=by
 by_cases hv:vs=[]
 ·obtain⟨⟨cls,dd,data,sl⟩,ho,hc,n,hd⟩:=id ht;obtain⟨⟨ahK,dd2,data2,ZQ⟩,vE,uS,n2,hd2⟩:=id hb;simp only at hc hd uS hd2;subst hc hd uS hd2;show DJ ⟨_,ho,rfl⟩ ⟨_,vE,rfl⟩ wZ BO qq pT (oJ _ _)
   (tuple_addW0 t b vs.toArray ws.toArray n n2 dd dd2 sl ZQ (by simp[hv])) {ho,vE,h0 hv}
 ·show acq ht hb hv (h1 hv) (h2 hv) hsz
end
end HT
namespace L2
open PySem PySem.Spec PyProof.Rows
section
variable{X:Cx}
inductive adg(K:Frag)(x:V)(lo:Option Int)(hi:Option Int)(H:Hp)(Q:VK):Prop
 |mk a xs (_:x=.ref a) (_:ba K H a xs) (_:((HT.eJ xs.length 0 lo=0/\HT.eJ xs.length xs.length hi=xs.length)->Q (.ref a) H)) (_:(¬(HT.eJ xs.length 0 lo=0/\HT.eJ xs.length xs.length hi=xs.length)->∀p,H p=none->Q (.ref p) (upd H p (.tup (qH xs lo hi)))))
def Eu:Q9 X (adg X.K):=by
 ext bi s Z H x v vl vu lo hi sl Q I rx hs pl pu h;let(a,xs,rfl,hx,q1,q2):=h;by_cases hw:HT.eJ 96 0 lo=0/\HT.eJ 96 96 hi=96
 ·cases rx;let(aY,r,ht,hz):=I.tuple hx;have hlen:aY.toArray.size=96:=aQ▸r.length.symm;show{"tuple",_,eU.lookup,ht.typeIs,HT.Ce ht hs pl pu (by rw[hlen];show hw) {68,H,I,9,q1 hw}}
 ·show ac5 bi s Z H 68 v vl vu lo hi sl Q I rx hs pl pu {a,xs,9,hx,hw,q2 hw}
inductive ZZ(K:Frag)(x:V)(y:V)(H:Hp)(Q:VK):Prop
 |mk a b xs ys (_:x=.ref a) (_:y=.ref b) (_:ba K H a xs) (_:ba K H b ys) (_:xs.length+ys.length<=ca) (_:(xs=[]->Q (.ref b) H)) (_:(xs≠[]->ys=[]->Q (.ref a) H)) (_:(xs≠[]->ys≠[]->∀p,H p=none->Q (.ref p) (upd H p (.tup (xs++ys)))))
def Qj:iT X (x0 .Add) (ZZ X.K):=by ext bi s Z H x y v u Q I rx ry h;let(a,b,xs,ys,rfl,rfl,ha,hb,hz,q0,q1,q2):=h;cases rx;cases ry;let(aY,r1,p1,__):=I.tuple ha;let(tU,r2,p2,__):=I.tuple hb;show HT.Zf p1 p2 (λz=>{.ref b,H,I,9,q0 (r1.Ac.mp z)}) (λn z=>{68,H,I,9,q1 (λz=>n (r1.Ac.mpr z)) (r2.Ac.mp z)}) (λn z=>?_) (by rw[<-r1.length,<-r2.length];show hz);show{.ref 17,_,I.laid (λb ob q=>aj _ q) (au _) ?_,9,q2 (λz=>n (r1.Ac.mpr z)) (λw=>z (r2.Ac.mpr w)) _ (I.bK.fresh (au _))};show{aC▸hz,_,r1.append r2,IsTup.new _ _,_,aR _ rfl,9}
inductive adi(K:Frag)(neg:Bool)(x:V)(y:V)(H:Hp)(Q:VK):Prop
 |mk a b xs (_:x=.ref a) (_:y=.ref b) (_:bg K H a xs) (_:bg K H b []) (_:Q (.bl (if neg then !xs.isEmpty else xs.isEmpty)) H)
def wY(hu:X.A.units<v6):iT X (on .Eq) (adi X.K false):=by
 ext bi s Z H x y v u Q I rx ry h;let(a,b,xs,rfl,rfl,ha,hb,q):=h;cases rx;cases ry;let(aY,r1,p1,__):=I.list ha;let(tU,r2,p2,__):=I.list hb;cases r2;cases xs with
 |nil=>
  cases r1;show SeqAt.eq_listAt (e:=λ_=>true) p1.isList p2.isList rfl hu (λj h1 _=>absurd h1 (eC _)) {.bl true,H,I,9,q}
 |cons c l=>
  cases r1 with
  |cons r0 r1=>show SeqAt.eq_list_lengthsAt p1.isList p2.isList 58 hu {.bl false,H,I,9,q}
def adD(hu:X.A.units<v6):iT X (on .NotEq) (adi X.K true):=by
 ext bi s Z H x y v u Q I rx ry h;let(a,b,xs,rfl,rfl,ha,hb,q):=h;cases rx;cases ry;let(aY,r1,p1,__):=I.list ha;let(tU,r2,p2,__):=I.list hb;cases r2;cases xs with
 |nil=>
  cases r1;show D5 (e:=λ_=>true) p1.isList p2.isList rfl hu (λj h1 _=>absurd h1 (eC _)) 57 X.w X.xe _ {.bl false,H,I,9,q}
 |cons c l=>
  cases r1 with
  |cons r0 r1=>show SeqAt.RcNeAt.lists_lengths p1.isList p2.isList 58 hu X.prog X.w X.xe _ {.bl true,H,I,9,q}
variable{K:Frag}{a:bn}{xs:Aao}{fr:List Nat}{tt:TT}{te:TE}{Z:St}{H1:Hp}{R:bn->Aao->Hp->Prop}
abbrev xO(J:It)(fr:List Nat)(tt:TT)(te:TE)(Z:St)(H1:Hp)(R:bn->Aao->Hp->Prop):Prop:=
 ∃W:Nat->Nat->Aao->Hp->Prop,(∃m,W 0 m [] H1)/\∀i m ys H2,W i m ys H2->
 (J.stop i H2/\ys.length<=ca/\∀l,H2 l=none->R l ys H2)\/
 (J.go i H2/\ys.length<ca/\∀v H3,J.Cn i H2 v H3->tt (some v::slotsOf fr Z) H3 λb H4=>
  if b=true then te (some v::slotsOf fr Z) H4 (λy H5=>∃m',m'<m/\W (i+1) m' (ys++[y]) H5)else∃m',m'<m/\W (i+1) m' ys H4)
def mW(Pv:Nat->Aao->Hp->Prop)(hx:96<ca)(h0:Pv 0 [] H1)(hl:∀i ys H,i<=96->Pv i ys H->ba K H a xs/\ys.length<=i)
  (hs:∀(i:Nat)(x:V)(ys:Aao)(H:Hp)(N:Aao->Hp->Prop),xs[i]?=some x->Pv i ys H->(∀iE H',Pv (i+1) iE H'->N iE H')->
   tt (some x::slotsOf fr Z) H λb H4=>if b=true then te (some x::slotsOf fr Z) H4 (λy H5=>N (ys++[y]) H5)else N ys H4)
  (hd:∀ys H,Pv 96 ys H->∀l,H l=none->R l ys H):xO (WN K a) fr tt te Z H1 R:=by
 show{λi m ys H=>m=96 -i/\i<=96/\Pv i ys H,{96,58,aJ _,h0},?_};ext i m ys H ⟨rfl,hi,p⟩;let(q,hy):=hl i ys H hi p;by_cases bN:i<96
 ·show .inr {{xs,_,q,av bN},8,?_};ext v H3 ⟨rfl,hv⟩;show hs i v ys H3 (λiE H'=>∃m',m'<96 -i/\m'=96 -(i+1)/\i+1<=96/\Pv (i+1) iE H') (hv xs q) p λiE H' p'=>{_,8,9,bN,p'}
 ·have e:i=96:=by lia
  subst e;show .inl {{xs,q,au _},8,hd ys H p}
def ji(Pv:Nat->Aao->Hp->Prop)(hx:96<ca)(h0:Pv 0 [] H1)(hl:∀i ys H,i<=96->Pv i ys H->bg K H a xs/\ys.length<=i)
  (hs:∀(i:Nat)(x:V)(ys:Aao)(H:Hp)(N:Aao->Hp->Prop),xs[i]?=some x->Pv i ys H->(∀iE H',Pv (i+1) iE H'->N iE H')->
   tt (some x::slotsOf fr Z) H λb H4=>if b=true then te (some x::slotsOf fr Z) H4 (λy H5=>N (ys++[y]) H5)else N ys H4)
  (hd:∀ys H,Pv 96 ys H->∀l,H l=none->R l ys H):xO (Rf K a) fr tt te Z H1 R:=by
 show{λi m ys H=>m=96 -i/\i<=96/\Pv i ys H,{96,58,aJ _,h0},?_};ext i m ys H ⟨rfl,hi,p⟩;let(q,hy):=hl i ys H hi p;by_cases bN:i<96
 ·show .inr {{xs,_,q,av bN},8,?_};ext v H3 ⟨rfl,hv⟩;show hs i v ys H3 (λiE H'=>∃m',m'<96 -i/\m'=96 -(i+1)/\i+1<=96/\Pv (i+1) iE H') (hv xs q) p λiE H' p'=>{_,8,9,bN,p'}
 ·have e:i=96:=by lia
  subst e;show .inl {{xs,q,au _},8,hd ys H p}
def Y9{z:io}(Pv:Nat->Aao->Hp->Prop)(hx:z.cps.size<ca)(h0:Pv 0 [] H1)(hl:∀i ys H,i<=z.cps.size->Pv i ys H->ys.length<=i)
  (hs:∀(i:Nat)(c:Nat)(ys:Aao)(H:Hp)(N:Aao->Hp->Prop),z.cps[i]?=some c->Pv i ys H->(∀iE H',Pv (i+1) iE H'->N iE H')->
   tt (some (.str ⟨#[c]⟩)::slotsOf fr Z) H λb H4=>if b=true then te (some (.str ⟨#[c]⟩)::slotsOf fr Z) H4 (λy H5=>N (ys++[y]) H5)else N ys H4)
  (hd:∀ys H,Pv z.cps.size ys H->∀l,H l=none->R l ys H):xO (Its z) fr tt te Z H1 R:=by
 show{λi m ys H=>m=z.cps.size -i/\i<=z.cps.size/\Pv i ys H,{z.cps.size,58,aJ _,h0},?_};ext i m ys H ⟨rfl,hi,p⟩;have hy:=hl i ys H hi p;by_cases bN:i<z.cps.size
 ·show .inr {bN,8,?_};ext v H3 ⟨rfl,c,hc,rfl⟩;show hs i c ys H3 (λiE H'=>∃m',m'<z.cps.size -i/\m'=z.cps.size -(i+1)/\i+1<=z.cps.size/\Pv (i+1) iE H') hc p λiE H' p'=>{_,8,9,bN,p'}
 ·have e:i=z.cps.size:=by lia
  subst e;show .inl {9,8,hd ys H p}
end
section
variable{P:dL}{w:i3}{A:mo}{E:Aae}{z:cr}
def Bc(g:z.heap.IsTupleIter j p k)(gp:z.heap.IsTuple p aY)(gy:aY[k]?=some y)
  (q:∀h',h'.IsTupleIter j p (k+1)->Heap.SameBut j z.heap h'->Q y {z with heap:=h'}):fv (f8 P w) A (Builtin.SmallTypes.nextOf (.ref j)) Q E z:=by
 let(ob,g0,g1,g2):=id g;let(op,p0,__,np,p2):=gp;show ae (jp g.typeIs j9 (b9 j9 g.typeIs u6 ?_ (ui _)));change fv _ _ (field (.ref j) 0>>=_) _ _ z;show ae (dw g0 g2 9 ?_);show ae (dw g0 g2 9 ?_);show ae (dk p0 p2 ?_);simp only[eT,gy];show ae (hV g0 g2 58 (ao {y,9,ao (q _ ({_,dU _ g0 (AD (oN g2 _)),(E6 ..).trans g1,by rw[oN g2];simp[sK]}) (cj ..))}))
def Ad(hd:A.handled=none)(g:z.heap.IsTupleIter j p k)(gp:z.heap.IsTuple p aY)(gy:aY[k]?=none)
  (q:∀h' e,Heap.ExtBut j z.heap h'->(∃o,h'.get? e=some o/\o.cls=.type "StopIteration")->E (.ref e) {z with heap:=h'}):fv (f8 P w) A (Builtin.SmallTypes.nextOf (.ref j)) Q E z:=by
 let(ob,g0,g1,g2):=id g;let(op,p0,__,np,p2):=gp;show ae (jp g.typeIs j9 (b9 j9 g.typeIs u6 ?_ (ui _)));change fv _ _ (field (.ref j) 0>>=_) _ _ z;show ae (dw g0 g2 9 ?_);show ae (dw g0 g2 9 ?_);show ae (dk p0 p2 ?_);simp only[eT,gy];show ae (iW (ae (hV g0 g2 58 ?_)));show ae ?_;show ae (cT ?_ (by size_fits));show ae (Fe (by first|rfl|(simp only[firstArgMember];rfl)) ?_);show cT ?_ (by size_fits);show ae (wpAny_handled ?_)
 first|rw[show A.in1.handled=none from hd]|rw[hd]
 show ae (ao (wpAny_throw (q _ _ (((cj ..).extBut.push _).push _) {_,aR _ rfl,9})))
def K1(hd:A.handled=none)(j p:bn)(iB:p≠j)(aY:Aal):
  Draws P w A j [j,p] aY.size (λk v=>aY[k]?=some v) (λk h=>h.IsTupleIter j p k/\h.IsTuple p aY) where
 live:=λ_ _ st=>let⟨o,ho,_⟩:=st.1;⟨o,ho⟩
 frame:=λ_ _ _ st hk=>by obtain⟨⟨o,ho,r⟩,o',Ak,r'⟩:=st;show{{o,hk j 58 o ho,r},o',hk p 58 o' Ak,r'}
 item:=λk s Q E hi st hQ=>Bc st.1 st.2 (y:=aY[k]) (by simp[hi]) λh' lO hs'=>hQ _ h' s.toks (by simp[hi]) {lO,st.2.extBut hs'.extBut iB} hs'
 done:=λs Q E st hE=>Ad hd st.1 st.2 58 hE
def Wk(p:bn)(aY:Aal)(n:Nat)(dd:Aak)(sl:Aaf):
  Meets (Builtin.«enumerate.__new__» {[.type "enumerate",.ref p],[]}) (λ_ R s=>s.heap.get? p=some {cls:=.type "tuple",dict:=dd,data:=.seq aY n,slots:=sl}/\
   R (.ok (.ret (.ref (s.heap.push {cls:=.type "tuple_iterator",data:=.fields #[.ref p,.int 0 0]}).objs.size)))
    {s with heap:=(s.heap.push {cls:=.type "tuple_iterator",data:=.fields #[.ref p,.int 0 0]}).push {cls:=.type "enumerate",data:=.fields #[.none,.bool false,.ref 17,sK 0,.none,.none]}}):=
 .of_wp λprog w A R s h=>by
  let(hp,g,d,tk,os):=s;let(hl,h):=h;have Yv:=sub_enumerate;have hT:Heap.IsTuple (Shared.heap ⟨hp,g,d,tk,os⟩) p aY:=⟨_,hl,rfl,n,rfl⟩
  wp_walk using AutoSeq1.wpAny_loadPart' hl
  show wpAny_stack_any λst=>ao ?_;split
  ·rename_i c _ _ _ _ _;cases(c==Value.type "enumerate")
   ·wp_walk using AutoSeq1.wpAny_loadPart' hl,iF hT
    show⟨_,rfl,h⟩
   ·wp_walk using AutoSeq1.wpAny_loadPart' hl,iF hT
    show⟨_,rfl,h⟩
  ·wp_walk using AutoSeq1.wpAny_loadPart' hl,iF hT
   show⟨_,rfl,h⟩
def S8{p:bn}{aY:Aal}{Q:Aae}(hT:z.heap.IsTuple p aY)
  (q:∀h',ZB h' (z.heap.objs.size+1) z.heap.objs.size 0 .none->h'.IsTupleIter z.heap.objs.size p 0->(∀b o,z.heap.get? b=some o->h'.get? b=some o)->Q (.ref (z.heap.objs.size+1)) {z with heap:=h'}):
  fv (f8 P w) A (EQ (.type "enumerate") [.ref p]) Q E z:=by
 obtain⟨⟨c,dct,dt,sl⟩,hl,hc,n,hd⟩:=hT
 replace hc:c=.type "tuple":=hc
 replace hd:dt=.seq aY n:=hd
 subst hc hd;show callType_new F.called_enumerate 7 (F.typeCall_enumerate_1 _) (F.newCall_enumerate_1 _) (λobj=>F.args_object_init_2 obj _) F.entry_enumerate_new (Wk p aY n dct sl) {hl,?_};have hz:(z.heap.push {cls:=.type "tuple_iterator",data:=.fields #[.ref p,.int 0 0]}).objs.size=z.heap.objs.size+1:=du ..;change _/\_;rw[hz];have he:ZB ((z.heap.push {cls:=.type "tuple_iterator",data:=.fields #[.ref p,.int 0 0]}).push {cls:=.type "enumerate",data:=.fields #[.none,.bool false,.ref z.heap.objs.size,sK 0,.none,.none]}) (z.heap.objs.size+1) z.heap.objs.size 0 .none:=by have:=aR (z.heap.push {cls:=.type "tuple_iterator",data:=.fields #[.ref p,.int 0 0]}) (o:={cls:=.type "enumerate",data:=.fields #[.none,.bool false,.ref z.heap.objs.size,sK 0,.none,.none]}) rfl;rw[hz]at this;show this
 show{⟨_,he,rfl⟩,q _ he {_,aj _ (aR _ 9),9,9} λb o x=>aj _ (aj _ x)}
variable{X:Cx}{bi:Aac}{Z:St}{H:Hp}{s:cr}{h':i5}
def Inv.aaV(I:Inv X bi Z H s)(k:∀b o,b≠e->b≠j->s.heap.get? b=some o->h'.get? b=some o)(fe:oU X bi H e)(fj:oU X bi H j)
  (hp:17<=p) (ht:Op h' p us.toArray/\∃o,h'.get? p=some o/\o.dict=none) (r:Vals xs us) (hz:96<=ca):Inv X bi Z (upd H p (.tup xs)) {s with heap:=h',toks:=t'}:=by
 have hn:=I.bK.fresh hp;have fp:=I.vi hp hn;have nH:∀b u,H b=some u->b≠e/\b≠j/\b≠p:=λb u g=>{(λz=>by rw[z,fe.1]at g;cases g),(λz=>by rw[z,fj.1]at g;cases g),λz=>by rw[z,hn]at g;cases g};show I.step (ch:=[e,j,p]) (λb hb=>?_) (λb o _ _ hc g _=>k b o (λz=>hc (by simp[z])) (λz=>hc (by simp[z])) g) (λb o _ _ hc g _=>{o.slots,k b o (λz=>hc (by simp[z])) (λz=>hc (by simp[z])) g})
  (λb o hc g n=>by rw[aM λz=>hc (by simp[z])];show n) (λb o hc g=>{o,k b o (λz=>hc (by simp[z])) (λz=>hc (by simp[z])) g})
  (λb ys g=>by rw[aM (nH b _ g).2.2];show g) (λb o u g=>by rw[aM (nH b _ g).2.2];show g) (λb ps g=>{#[],by rw[aM (nH b _ g).2.2,g];simp}) (λm hm=>?_) (λb u g=>?_) I.bare
 ·have js:b=e\/b=j\/b=p:=by simpa using hb
  rcases js with rfl|rfl|rfl
  ·show{fe.2.2.2.1,fe.2.1,fe.2.2.2.2.1,fe.2.2.2.2.2}
  ·show{fj.2.2.2.1,fj.2.1,fj.2.2.2.2.1,fj.2.2.2.2.2}
  ·show{fp.2.2.2.1,fp.2.1,fp.2.2.2.2.1,fp.2.2.2.2.2}
 ·let(o,es,ep,ho,r'):=hm;show{o,es,ep,k _ o (cQ fe.2.1) (cQ fj.2.1) ho,r'}
 ·by_cases hb:b=p
  ·subst hb;rw[ar]at g;cases g;show⟨hz,us,r,ht⟩
  ·rw[aM hb]at g;show(I.bK b u g).rF (λc v hc q=>?_) (λc q=>?_) λc ys q=>?_
   ·rcases hc with z|z
    ·rw[z];rw[z]at q;show k b v (nH b _ g).1 (nH b _ g).2.1 q
    ·show k c v (nH c _ z).1 (nH c _ z).2.1 q
   ·rw[aM (nH c _ q).2.2];show q
   ·rw[aM (nH c _ q).2.2];show q
def Wl{D:bn->Prop}{E:Aae}{e j:bn}{fp:Aaj}{n i:Nat}{Pv:Nat->f'->Prop}{St':Nat->i5->Prop}{old:f'}{elts:List u8}{kk:Nat}{ps:Fa}{y:V}
  (W:Draws 57 X.w X.A.in1 j fp n Pv St') (he:ZB s.heap e j i old) (st:St' i s.heap) (hi:i<n) (iB:e≠j) (hef:e∉fp) (I:Inv X bi Z H s) (fe:oU X bi H e) (fj:oU X bi H j) (hP:∀u,Pv i u->RelV y u):
  fv 59 X.A (IR (.ref e)) (λr s1=>∃u,r=some u/\
   fv 59 X.A (Do (.Tuple elts kk ps) (.ref e) u) (λ_ s2=>∃p,u=.ref p/\H p=none/\Inv X bi Z (upd H p (.tup [.int i,y])) s2/\(∃ago,ZB s2.heap e j ((i:Int)+1) ago)/\St' (i+1) s2.heap/\e≠p/\j≠p) E s1) E s:=by
 show wpAny_pyNext_enum_itemD W he st hi iB hef λx h1 tk hx ho ZJ hT hsz hk=>?_;show{_,9,wpAny_letOwnedTupleGo_enum ho λh2 KJ kJ=>?_};have Dj:=aX he;have lT:j<17:=by let(o,z):=W.live _ _ st;show aX z
 have Sh:=kJ;show{17,9,I.bK.fresh (au _),I.aaV (λb o n1 n2 g=>Sh.extBut b o n1 (hk b o n1 n2 g)) fe fj (au _) ({{_,Sh.extBut _ _ (cq Dj) hT,9,_,9},_,Sh.extBut _ _ (cq Dj) hT,9}) (.cons ⟨tk,rfl⟩ (.cons (hP x hx) .nil)) 83,⟨_,KJ⟩,W.frame _ _ _ ZJ λb hb o g=>Sh.extBut b o (λz=>hef (z▸hb)) g,aW Dj,aW lT}
end
def JP(K:Frag)(a:bn):It:=
 {λi H=>∃xs x,ba K H a xs/\xs[i]?=some x,λi H x H'=>∃p y,x=.ref p/\H p=none/\H'=upd H p (.tup [.int i,y])/\∀xs,ba K H a xs->xs[i]?=some y,λi H=>∃xs,ba K H a xs/\96=i}
def ON{h:i5}(e:h.get? a=some o)(e':h.get? b=some o')(n:o.cls≠o'.cls):a≠b:=λz=>by rw[z,e']at e;cases e;show n rfl
def Rt{P:dL}{w:i3}{K:Frag}{elts:List u8}{kk:Nat}{ps:Fa}(a e j:bn):Turn P w K (.Tuple elts kk ps) (JP K a) [e,j] e (λi h=>(∃old,ZB h e j i old)/\h.IsTupleIter j a i/\e≠j) where
 mem:=by simp
 obj:=λi h st b hb=>by
  obtain⟨⟨old,he⟩,⟨o,g,c,d⟩,_⟩:=st;have js:b=e\/b=j:=by simpa using hb
  rcases js with rfl|rfl
  ·show{_,he,λv z=>by cases z}
  ·show{o,g,λv z=>by rw[d]at z;cases z}
 keep:=λi h h' st k=>by obtain⟨⟨old,he⟩,⟨o,g,r⟩,n⟩:=st;show{{old,k e 58 _ he},{o,k j 58 o g,r},n}
 item:=by
  ext X hP hw hK hc i bi s Z H E I hf st hg;subst hP hw hK;let(xs,x,hq,hx):=hg;let(aY,rv,pl,hz):=I.tuple hq;have pt:s.heap.IsTuple a aY.toArray:=pl;obtain⟨⟨old,he⟩,hj,iB⟩:=st;have hl:=rv.length;have hil:i<96:=(aq.mp hx).1;let(o0,g0,c0,__):=id pt;let(o1,g1,c1,__):=id hj;have nae:a≠e:=ON g0 he (by rw[c0];change Value.type "tuple"≠Value.type "enumerate";decide);have naj:a≠j:=ON g0 g1 (by rw[c0,c1];decide);have W:=K1 (P:=57) (w:=X.w) (A:=X.A.in1) (show X.A.in1.handled=none from I.ok.hd hc) j a naj aY.toArray;show hU (Wl (D:=λ_=>True) (y:=x) W he ⟨hj,pt⟩ (by rw[aQ];lia) iB (by simp[iB,nae.symm]) I (hf e 58) (hf j 58) λu hu=>?_) λr s1 ⟨u,er,h1⟩=>{u,er,hU h1 λ_ s2 ⟨p,eu,hp,I2,KJ,G5,n1,n2⟩=>?_}
  ·let(u',qX,ru):=rv.get hx;have FF:aY[i]?=some u:=by simpa using hu
   rw[FF]at qX;cases qX;show ru
  ·subst eu;show{.ref p,_,I2,9,{p,x,9,hp,9,λys hy=>by rw[I.uJ hy hq];show hx},{KJ,G5.1,iB},λb hb=>?_};have js:b=e\/b=j:=by simpa using hb
   rcases js with rfl|rfl
   ·rw[aM n1];show(hf b 58).1
   ·rw[aM n2];show(hf b 58).1
 done:=by
  ext X hP hw hK hc i bi s Z H E I hf st hg;subst hP hw hK;let(xs,hq,hx):=hg;let(aY,rv,pl,hz):=I.tuple hq;have pt:s.heap.IsTuple a aY.toArray:=pl;obtain⟨⟨old,he⟩,hj,iB⟩:=st;have hl:=rv.length;let(o0,g0,c0,__):=id pt;let(o1,g1,c1,__):=id hj;have naj:a≠j:=ON g0 g1 (by rw[c0,c1];decide);have ei:i=aY.toArray.size:=by rw[aQ];lia
  subst ei;let(f0,f1,f2,f3,f4,f5):=hf j 58;have W:=K1 (P:=57) (w:=X.w) (A:=X.A.in1) (show X.A.in1.handled=none from I.ok.hd hc) j a naj aY.toArray;show wpAny_pyNext_enum_endD W he ⟨hj,pt⟩ λh' eb=>{9,I.turned (t':=s.toks) (λb o hb g=>eb b o hb g) f0 f1 f3 f4 f5}
 self:=λ_ _ _ _ _ st h=>by obtain⟨⟨old,he⟩,_⟩:=st;show EV he h
section
variable{X:Cx}{elts:List u8}{kk:Nat}{ps:Fa}
inductive ab0(K:Frag)(R:It->Hp->Prop)(vs:Aao)(H1:Hp):Prop
 |mk a (_:vs=[.ref a]) (_:(∃xs,ba K H1 a xs)) (_:R (JP K a) H1)
def aei(K:Frag)(ta:TA):TI:=λZ H R=>ta Z H λvs H1=>ab0 K R vs H1
def ab7(I:Inv X bi Z H s):∀b∈[17+1,17],oU X bi H b:=λb hb=>by
 rcases(by simpa using hb)with rfl|rfl
 ·show I.vi (d8 _) (I.bK.fresh (d8 _))
 ·show I.vi (au _) (I.bK.fresh (au _))
def ML{a:u8}{ta:TA}{p pos:Fa}(hg:Gl X "enumerate")(hm:X.mg "enumerate"=none)(ha:PA X [a] ta)(hs:i6 [a] X.env=[(false,sn a X.env)]:=by rfl):PI X (.Tuple elts kk ps) (.Call (.Name "enumerate" p) [a] [] pos) (aei X.K ta):=by ext bi s Z H R I h;show IF (rV I hg hm boot_enumerate (eK (tH (ha pos bi s Z H _ I h) λus s1 vs H1 I1 r1 q1=>?_) hs 9));obtain⟨l,e,⟨xs,hq⟩,q⟩:=q1;subst e;let(u,rfl,ru):=jn r1;cases ru;let(aY,rv,pl,hz):=I1.tuple hq;show S8 (show s1.heap.IsTuple l aY.toArray from pl) λh' he hj hk=>?_;have I2:Inv X bi Z H1 {s1 with heap:=h'}:=I1.kept (t':=s1.toks) hk;show EV he ?_;show{_,_,_,_,H1,9,I2,Rt l _ 75,{⟨_,he⟩,hj,xG _},ab7 I1,q}
def Wd{K:Frag}{a:bn}{xs:Aao}{g:TG}{tb:TS}{D:Ends}{Z:St}{H:Hp}(Pv:Nat->St->Hp->Prop)(h0:Pv 0 Z H)(hl:∀i Z H,i<=96->Pv i Z H->ba K H a xs)
  (hs:∀i x p Z H,xs[i]?=some x->Pv i Z H->H p=none->g (.ref p) Z (upd H p (.tup [.int i,x])) λσ2 H2=>tb {D with nx:=Pv (i+1),ct:=Pv (i+1),bk:=D.nx} σ2 H2) (hd:∀Z H,Pv 96 Z H->D.nx Z H):
  ∃W:Nat->Nat->St->Hp->Prop,(∃m,W 0 m Z H)/\∀i m Z H,W i m Z H->
   ((JP K a).stop i H/\D.nx Z H)\/((JP K a).go i H/\∃N:St->Hp->Prop,(∀σ' H',N σ' H'->∃m',m'<m/\W (i+1) m' σ' H')/\∀x H',(JP K a).Cn i H x H'->g x Z H' λσ2 H2=>tb {D with nx:=N,ct:=N,bk:=D.nx} σ2 H2):=by
 show{λi m Z H=>m=96 -i/\i<=96/\Pv i Z H,{96,58,aJ _,h0},?_};ext i m Z H ⟨rfl,hi,p⟩;have q:=hl i Z H hi p;by_cases bN:i<96
 ·show .inr {{xs,xs[i],q,by simp[bN]},Pv (i+1),λσ' H' p'=>{96 -(i+1),8,9,bN,p'},λx H' y=>?_};let(r,z,rfl,hr,rfl,y):=y;show hs i z r Z H (y xs q) p hr
 ·have e:i=96:=by lia
  subst e;show .inl {⟨xs,q,rfl⟩,hd Z H p}
def YW(zs:Aah):PyData.eqvAll (zs.map PyData.str) (zs.map PyData.str)=true:=by rw[nJ];show bb rfl
def LC(j:Nat)(t:TE):TS:=λD Z H=>t Z H λv H1=>D.nx (Z.set j (some v)) H1
variable{K:Frag}
def Xj(h:X.K=K:=by rfl):Q9 X (Xy K):=h▸oY
variable{prog:dL}{w:i3}{A:mo}{E:Aae}
def HZ:Fk (.type "list") "__getattr__"=pure none:=by rw[jR,gN];kernel_rfl
def Oz:Fk (.type "list") "keys"=pure none:=by rw[jR,gN];kernel_rfl
def ace{sl}{os:wv}(hx:h.get? a=some {cls:=.type "list",dict:=none,data:=.seq aY n,slots:=sl})(hA:A.handled=none)
  (k:∀h' tk e,Heap.NewAttrErr h h' e 68 "keys"->E (.ref e) ⟨h',g,d,tk,os⟩):
  fv 24 A (Builtin.«object.__getattribute__» {[.ref a,.str "keys" u],[]}) Q E ⟨h,g,d,t,os⟩:=by
 have f4:=Oz
 repeat (any_goals (first|(assumption)|(wp_step)))
 show AI hA k (attrMsg_fits 21 (by size_fits))
def ach{sl}{os:wv}(hx:h.get? a=some {cls:=.type "list",dict:=none,data:=.seq aY n,slots:=sl})(hA:A.handled=none)
  (k:∀h' tk e,Heap.NewAttrErr h h' e 68 "keys"->R (.error (.ref e)) ⟨h',g,d,tk,os⟩):
  wE 24 A (.call (.builtin "list.__getattribute__") {[.ref a,.str "keys" u],[]}) R ⟨h,g,d,t,os⟩:=
 si F.slot_list_getattribute.plain F.entry_list_ga (F.slot_list_getattribute.check _ _ _ _ _ _ _ _ (show(⟨h,g,d,t,os⟩:cr).TypeIs 68 "list"from⟨_,hx,rfl⟩) (F.args_list_getattribute_2 _ _) (ace hx hA k))
def afW{sl}{os:wv}(hx:h.get? a=some {cls:=.type "list",dict:=none,data:=.seq aY n,slots:=sl})(hA:A.handled=none)
  (k:∀h' tk e,Heap.NewAttrErr h h' e 68 "keys"->E (.ref e) ⟨h',g,d,tk,os⟩):
  fv 24 A (getAttrBy 68 (.str "keys" u) false) Q E ⟨h,g,d,t,os⟩:=by
 have g2:=F.slot_list_getattribute.lookup;have g3:=F.slot_list_getattribute.bind 68;have f5:=HZ;have f1:=oo
 repeat (any_goals (first|(assumption)|(wp_step)))
 show ach hx hA λh' tk e ne=>?_;let(t',u',he):=ne.there
 repeat (any_goals (first|(assumption)|(wp_step)))
 show k _ _ _ ne
def aci{sl}{os:wv}(hx:h.get? a=some {cls:=.type "list",dict:=none,data:=.seq aY n,slots:=sl})(hA:A.handled=none)
  (k:∀h' tk e,Heap.NewAttrErr h h' e 68 "keys"->Q none ⟨h',g,d,tk,os⟩):
  fv 24 A (getAttr? 68 "keys") Q E ⟨h,g,d,t,os⟩:=by
 have f1:=oo
 repeat (any_goals (first|assumption|(with_reducible show afW hx hA λh' tk e ne=>?_)|wp_step))
 let(t',u',he):=ne.there
 repeat (any_goals (first|(assumption)|(wp_step)))
 show k _ _ _ ne
theorem Paired.at':∀{l₁:List α}{aac:List β}{i:Nat}{x:α},Paired F l₁ aac->l₁[i]?=some x->∃y,aac[i]?=some y/\F x y
 |_,_,_,_,.nil,e=>by simp at e
 |_,_,0,_,.cons r _,e=>by simp at e;subst e;show⟨_,rfl,r⟩
 |_,_,i+1,x,.cons _ t,e=>by let(y,h1,h2):=Paired.at' t (by simpa using e);show{y,by simpa using h1,h2}
def t6:Sc table "dict.update.loop"=some Builtin.«dict.update.loop»:=entryFor_of_tree (by kernel_rfl)
def OW(prog:dL)(w:i3)(h0:i5)(x:f')(kv:Key×f'):Prop:=∃t o n ku,x=.ref t/\h0.get? t=some o/\o.cls=.type "tuple"/\o.data=.seq #[ku,kv.2] n/\(bS prog w).is kv.1 ku=true
def acf(hA:A.handled=none)(nA:h0.get? d=none)(hi0:h0.get? it=none)(hdi:d≠it)
  (hl:h0.IsList l items.toArray) (hp:Paired (OW prog w h0) items pairs) (hsz:pairs.length<=ca) (g:Array L') (dr:X') (os:wv)
  (k:∀h' tk,(∀b o,h0.get? b=some o->h'.get? b=some o)->h'.DictOf (bS prog w) d (GT [] pairs)->R (.ok (.ret .none)) ⟨h',g,dr,tk,os⟩):
  ∀(m i:Nat)(h:i5)(tk:Nat),items.length -i=m->i<=items.length->(∀b o,h0.get? b=some o->h.get? b=some o)->h.IsListIter it l i->h.DictOf (bS prog w) d (GT [] (pairs.take i))->
   wE 24 A (.builtin "dict.update.loop" {[.ref d,.ref it,sK i,.none],[]}) R ⟨h,g,dr,tk,os⟩:=by
 ext m
 induction m with
 |zero=>
  ext i h tk em hi kp hit hd;have ei:i=items.length:=by lia
  show fk t6 ?_;let(ol,HK,hlc,nl,hld):=hl;show ae (zO (show(A.under _).handled=none from hA) hit {ol,kp _ _ HK,hlc,nl,hld} (by rw[ei];simp) λh' hs=>?_);show ae (ao (ao ?_));rw[ei,(a9 hp),aT]at hd;show k h' _ (λb o hb=>hs b o (λe=>by rw[e,hi0]at hb;cases hb) (kp b o hb)) (hd.extBut hs hdi)
 |succ m ih=>
  ext i h tk em hi kp hit hd;have bN:i<items.length:=by lia
  obtain⟨x,hx⟩:∃x,items[i]?=some x:={_,av bN};let(kv,qo,t,o,n,ku,rfl,hto,htc,htd,VR):=Paired.at' hp hx;show fk t6 ?_;let(ol,HK,hlc,nl,hld):=hl;show ae (yQ hit {ol,kp _ _ HK,hlc,nl,hld} (by simpa using hx) λh1 aht FG=>?_);have kp1:=λb o hb=>(FG.2 b (λe=>by rw[e,hi0]at hb;cases hb)).trans (kp b o hb);show ae (b5 (ae (zN ?_)));show ae (ij {o,kp1 _ _ hto,htc} ?_);show ae (dk (kp1 _ _ hto) htd (ao ?_));have lm:(GT [] (pairs.take i)).length<=ca:=by have e1:=qG [] (pairs.take i);rw[aV]at e1;simp only[jZ]at e1;lia
  show b5 (sR VR (hd.sameBut FG hdi) λh2 hd2 kJ=>?_);show ao {jO _ 21,?_};have Sn:h2.IsListIter it l (i+1):=by let(oi,KD,r):=aht;show{oi,(kJ.2 it (cQ hdi)).trans KD,r}
  show ih (i+1) h2 _ ∅ bN (λb o hb=>(kJ.2 b (λe=>by rw[e,nA]at hb;cases hb)).trans (kp1 b o hb)) Sn (by rw[w4 [] pairs i kv qo];show hd2)
def acg(hA:A.handled=none)(pl:PlainL s.heap p items.toArray)(hp:Paired (OW prog w s.heap) items pairs)(hsz:pairs.length<=ca)
  (k:∀h' tk,(∀b o,s.heap.get? b=some o->h'.get? b=some o)->h'.DictOf (bS prog w) 17 (GT [] pairs)->Q (.ref 17) {s with heap:=h',toks:=tk}):
  fv 24 A (EQ (.type "dict") [.ref p]) Q E s:=by
 show callType_codes (Q₁:=λv1 z1=>v1=.ref 17/\z1={s with heap:=s.heap.push {cls:=.type "dict",data:=.dict #[]}}) F.kt_called_dict (BJ _) Fc (kt_code_dict_new _ ⟨rfl,rfl⟩) ?_;ext v1 z1 ⟨rfl,rfl⟩;let(nv,g,dr,tk,os):=s;obtain⟨⟨oc,od,oda,BX⟩,n,ho,hc,hdn,hdd⟩:=pl;subst hc hdn hdd;have Bk:(nv.push {cls:=.type "dict",data:=.dict #[]}).DictOf (bS prog w) nv.objs.size []:=yN nv;have Aj:=aj {cls:=.type "dict",data:=.dict #[]} ho;show{Bk.typeIs,Ej _ _,?_};show ae ?_;show ae (jQ Bk.typeIs (ao ?_));change fv 24 _ (Builtin.Dict.updateFrom "dict.__init__" nv.objs.size (.ref p) [] .none) _ _ _;show ae (ij ⟨_,Aj,rfl⟩ ?_);show ae (aci Aj hA λh2 tk2 e ne=>?_);show ae (iW ?_);show ae (lV {_,(ne.keeps _ _ Aj),9,n,9} ?_);have kp:∀b o,nv.get? b=some o->(h2.push {cls:=.type "list_iterator",data:=.fields #[.ref p,.int 0 0]}).get? b=some o:=λb o hb=>aj _ (ne.keeps _ _ (aj _ hb));have hd2:h2.DictOf (bS prog w) nv.objs.size []:=by let(o',es,ep,h',r):=Bk;show{o',es,ep,ne.keeps _ _ h',r}
 have ld:nv.objs.size<h2.objs.size:=by let(o',es,ep,h',r):=hd2;show aX h'
 show ao {jO _ 21,?_};show acf (show A.in1.handled=none from hA) (m7 (au _)) (m7 (bE ld)) (aW ld) ⟨_,ho,rfl,n,rfl⟩ hp hsz g dr os (λh' LZ Kx yE=>{9,k h' LZ Kx yE}) items.length 0 _ _ rfl (aJ _) kp ?_ (hd2.push _);show{_,aR _ rfl,9,9}
end
section
variable{X:Cx}
inductive adm(K:Frag)(xs:Aao)(H:Hp)(Q:VK):Prop
 |mk p ys kvs (_:xs=[.ref p]) (_:bg K H p ys) (_:Paired (λ(y:V)(kv:Key×V)=>∃t,y=.ref t/\H t=some (.tup [kV kv.1,kv.2])) ys kvs) (_:∀d,H d=none->Q (.ref d) (upd H d (.dK (kH [] kvs))))
theorem MR(ok:kh P w H h):∀{ys:Aao}{us:Aag}{kvs:List (Key×V)},Vals ys us->Paired (λ(y:V)(kv:Key×V)=>∃t,y=.ref t/\H t=some (.tup [kV kv.1,kv.2])) ys kvs->∃ps,Paired (OW P w h) us ps/\KV kvs ps
 |_,_,_,.nil,.nil=>{[],.nil,.nil}
 |_,_,_,.cons (b:=u) r t,.cons (b:=kv) ⟨a,ea,ha⟩ q=>by
  let(ps,h1,h2):=MR ok t q;subst ea;cases(show u=Value.ref a from r);obtain⟨_,aY,ri,⟨o,e1,e2,n,e3⟩,_⟩:=(show dG P w H h a (.tup [kV kv.1,kv.2])from ok a _ ha)
  match aY,ri with
  |[ku,vu],.cons rk (.cons rv .nil)=>show{(kv.1,vu)::ps,.cons {a,o,n,ku,9,e1,e2,e3,qA rk} h1,.cons ⟨rfl,rv⟩ h2}
def Im(hA:X.A.handled=none):gJ X (.type "dict") (adm X.K):=by
 ext bi s Z H xs us Q I r h;let(p,ys,kvs,rfl,hq,hk,q):=h;let(u,rfl,rx):=jn r;cases rx;let(aY,r',pl,hz):=I.list hq;let(ps,h1,h2):=MR I.bK r' hk;have l1:=a9 h1;have l2:=r'.length;show acg hA pl h1 ∅ λh' tk kp hd=>?_;have rel:=KV.merge h2 .nil;have lz:(kH [] kvs).length<=ca:=by have e1:=qG [] ps;rw[rel.length];simp only[jZ]at e1;lia
 show{.ref 17,_,I.laid kp (au _) (xp lz (c6.mpr (cQ (aW I.big))) rel hd),9,q _ (I.bK.fresh (au _))}
variable{prog:dL}{w:i3}{A:mo}{s:cr}{R:TD->cr->Prop}
theorem S4(Iv:Nat->cr->Prop)
  (turn:∀n z,Iv n z->fv 24 A (IR it) (λr z1=>match r with
   |none=>R (.ok .next) z1
   |some v=>fv 24 A (Do tg it v) (λ_ y2=>fv 24 A (Tl tg env v) (λ_ z2=>
     fv 24 A (forIn ifs true λc r=>if r=true then do let ok<-isTrue c env (sn c env);pure (ForInStep.yield ok)else pure (ForInStep.yield r)) (λok z3=>
      if ok=true then fv 24 A (sn elt env) (λx z4=>
       fv 24 A (EQ (.builtin "list.append") [acc,x]) (λ_ z5=>∃m,m<n/\Iv m z5) (Ps 24 A env λe z'=>R (.error e) z') z4) (Ps 24 A env λe z'=>R (.error e) z') z3
      else∃m,m<n/\Iv m z3) (Ps 24 A env λe z'=>R (.error e) z') z2) (Ps 24 A env λe z'=>R (.error e) z') y2) (Ps 24 A env λe z'=>R (.error e) z') z1) (Ps 24 A env λe z'=>R (.error e) z') z)
  (n:Nat) (h:Iv n s):wE 24 A (.compLoop (.ListComp elt [{tg,v4,ifs,0}] scope pos) 0 it acc env) R s:=by
 show codeAny_loop rfl Iv (λn z hI=>?_) n h;show wpAny_noted ?_;show ae (BM (ae (dE (turn n z hI) (λr z1 q1=>?_) λ_ _ q=>q)));cases r with
 |none=>show ao q1
 |some v=>
  show ae (dE q1 (λ_ z2 q3=>ae (dE q3 (λ_ z3 q4=>ae (dE q4 (λok z4 q5=>?_) λ_ _ q=>q)) λ_ _ q=>q)) λ_ _ q=>q);cases ok with
  |false=>show ao ⟨rfl,q5⟩
  |true=>show ae (ae (dE q5 (λx z5 q6=>ae (dE q6 (λ_ z6 q7=>ao (ao ⟨rfl,q7⟩)) λ_ _ q=>q)) λ_ _ q=>q))
end
structure uj(X:Cx)(scope:ww)(x:io)(more fs:Aah)(fr:List Nat):Prop where
 one:sO X scope x fs fr
 qV:(x::more++fs).Nodup
def uK(wi:TI)(k:Nat)(fr:List Nat)(g:TG)(tt:TT)(te:TE):TE:=λZ H Q=>wi Z H λJ H1=>∃W:Nat->Nat->Aao->Hp->Prop,(∃m,W 0 m [] H1)/\∀i m ys H2,W i m ys H2->
 (J.stop i H2/\ys.length<=ca/\∀l,H2 l=none->Q (.ref l) (upd H2 l (.lst ys)))\/
 (J.go i H2/\ys.length<ca/\∀v H3,J.Cn i H2 v H3->∀own:St,own.length=k->g v (own++slotsOf fr Z) H3 λσ4 H4=>∃MV,σ4=MV++slotsOf fr Z/\MV.length=k/\tt σ4 H4 λb H5=>
  if b=true then te σ4 H5 (λy H6=>∃m',m'<m/\W (i+1) m' (ys++[y]) H6)else∃m',m'<m/\W (i+1) m' ys H5)
section
variable{X:Cx}
def M4(N2:Aah)(h:(eB X N1 scope C s H ex).Ok):(eB X N2 scope C s H ex).Ok:=
 {h.mod,h.kind,h.glob,h.blt,h.above,h.inj,h.has,h.Q7,h.hd,h.frames,h.TU,h.Ov,h.bs,h.B9,h.Gq,h.Bn,h.tX,h.KU}
def Wy(S:uj X scope x more fs fr)(I3:Inv X bi Z H s)
  (ok:(eB X (x::fs) scope 17 s H ex).Ok) (hn:h4.Ns 17 m) (old:∀b o,s.heap.get? b=some o->h4.get? b=some o):
  Inv (eB X (x::more++fs) scope 17 s H ex) [] (List.replicate (more.length+1) none++slotsOf fr Z) H {s with heap:=h4,toks:=t}:=by
 have J:=Zb (t:=t) S.one I3 ok hn old;show{M4 _ J.ok,J.os,J.bare,J.base,?_,J.cell,J.free,J.nV,J.pin,J.bK,?_}
 ·let(m1,VM,hl):=J.loc;show{m1,VM,λi y v e1 e2 e3=>?_};by_cases hi:i<more.length+1
  ·have e2:=e2;rw[gH (fV▸hi),yd,aL hi]at e2;cases e2
  ·obtain⟨j,rfl⟩:∃j,i=more.length+1+j:={i -(more.length+1),8};rw[eW (by rw[fV];lia),fV,yb]at e2;rw[eW (by rw[bx];lia),bx,yb]at e1;show hl (j+1) y v (by simpa using e1) (by simpa using e2) e3
 ·change(List.replicate (more.length+1) none++slotsOf fr Z).length=((x::more)++fs).length;simp[slotsOf,S.one.len];lia
def K6{elt v4 tg:u8}{x:io}{more:Aah}{g:TG}{ifs:List u8}{scope:ww}{pos:Fa}{wi:TI}{fs:Aah}{fr:List Nat}{tt:TT}{te:TE}{use:Option (f'->Sem Unit)}{R:Aae}{bi:Aac}{s:cr}{Z:St}{H:Hp}{Q:VK}{Jb:Fa}(hc:X.calm=true)(ST:uj X scope x more fs fr)(hi:PI X tg v4 wi)(hg:∀C s H ex,PG 88 tg g)
  (ht:∀C s H ex,CT 88 ifs tt) (he:∀C s H ex,PE 88 elt te) (hs:∀z,rc v4 X.env z=pure z)
  (I:Inv X bi Z H s) (h:uK wi (more.length+1) fr g tt te Z H Q)
  (ahv:∀(D C:bn)(s':cr)(H':Hp)(ys:Aao)(vs:Aag)(k:Nat)(m:Aad),Inv X bi Z H' s'->D<C->X.aab.heap.objs.size<=D->X.env.locals<D->(∀y c,X.env.cells.lookup y=some c->c<D)->(∀p∈X.pn++bi,p.1<D)->
   s'.heap.get? D=some (lobj vs k)->H' D=none->H' C=none->s'.heap.Ns C m->Vals ys vs->ys.length<=ca->(∀l,H' l=none->Q (.ref l) (upd H' l (.lst ys)))->W1 59 X.A X.xe use R (.ref D) C (.ok .next) s'):
  fv 59 X.A (comprehension (.ListComp elt [{tg,v4,ifs,0}] scope pos) scope X.env Jb (newList []) false (sn v4 X.env) use) R X.xe s:=by
 have S:=ST.one;show wt (use:=use) rfl hs (yI λn hn=>I.ok.has n (.inl (S.free n hn).1)) S.kind S.names ?_;show hU (hi bi s Z H _ I h) λv s1 h1=>hU h1 λitv s2 h2=>?_;obtain⟨it,fp,tn,J,H2,e,I2,T,G5,f2,W,⟨m0,w0⟩,turn⟩:=h2;subst e;have bN:∀b∈fp,b<61:=λb hb=>by let(o,e,__):=T.obj 0 _ G5 b hb;show aX e
 show cT (wpAny_newFunctionEnv S.UY (by ext y hy;simp at hy) (λh4 Jt Yw=>?_) S.kind);dsimp only at Jt Yw⊢;generalize Od:s2.heap.push {cls:=.type "list",dict:=none,data:=.seq ([]:Aag).toArray}=g3 at Jt Yw⊢;have hC:g3.objs.size=61+1:=by rw[<-Od,du]
 have A9:∀b o,s2.heap.get? b=some o->g3.get? b=some o:=λb o e=>Od▸aj _ e;have I3:Inv X bi Z H2 {s2 with heap:=g3}:=I2.kept (t':=s2.toks) A9;have Zk:g3.get? 61=some (lobj [] 0):=Od▸aR _ rfl;have CZ:∀b o,g3.get? b=some o->h4.get? b=some o:=λb o e=>Yw.extBut b o (aW (aX e)) (aj _ e);have ok1:=acp (s:={s2 with heap:=g3}) (D:=61) (fp:=fp) S I2 I3 rfl hC bN f2;have ok:=M4 (x::more++fs) ok1;have I4:=Wy (t:=s2.toks+([]:List (io×f')).length) ST I3 ok1 Jt CZ;have FT:=ok.Ov 61 aw;have Wq:=ok.Bn 61 aw;have Gx:∀{H':Hp}{vs:Aag}{k:Nat},(∀b∈fp,H' b=none)->∀b∈fp,oU (eB X (x::more++fs) scope g3.objs.size {s2 with heap:=g3} H2 (61::fp)) [(61,lobj vs k)] H' b:=λ{H' vs k} hn b hb=>by
  have q:=ok.Ov b (ay _ hb);show{hn b hb,q.1,ok.Bn b (ay _ hb),.inl (ay _ hb),q.2,λp hp=>?_};have e:p=(61,lobj vs k):=by simpa using hp
  rw[e];show cq (bN b hb)
 have start:Inv (eB X (x::more++fs) scope g3.objs.size {s2 with heap:=g3} H2 (61::fp)) [(61,lobj [] 0)] (List.replicate (more.length+1) none++slotsOf fr Z) H2 {s2 with heap:=h4,toks:=s2.toks+([]:List (io×f')).length}:=
  I4.qT λp hp=>by
   have e:p=(61,lobj [] 0):=by simpa using hp
   subst e;show{CZ _ _ Zk,I2.bK.fresh (au _),FT.1,Wq,λv z=>by cases z}
 have TR:tn 0 h4:=T.keep 0 _ _ G5 λb _ o e=>CZ b o (A9 b o e);have fin:∀{i:Nat}{σ0:St}{H':Hp}{ys:Aao}{vs:Aag}{k:Nat}{s':cr},Inv (eB X (x::more++fs) scope g3.objs.size {s2 with heap:=g3} H2 (61::fp)) [(61,lobj vs k)] (σ0++slotsOf fr Z) H' s'->Vals ys vs->ys.length<=ca->
   (∀l,H' l=none->Q (.ref l) (upd H' l (.lst ys)))->W1 59 X.A X.xe use R (.ref 61) g3.objs.size (.ok .next) s':=by
  ext i σ0 H' ys vs k s' J1 rv hz q;let(m,hn,__):=id J1.loc;have below:∀y c,X.env.cells.lookup y=some c->c<61:=λy c z=>by let(v,q):=I2.cell y c z;show q.lt
  have ni:∀p∈X.pn++bi,p.1<61:=λp hp=>aX (I2.pin p hp).1;have I5:Inv X bi Z H' s':=I3.aaz (ch:=61::fp) J1.os J1.base J1.bK J1.bare λb hb=>by
   rcases aN.mp hb with e|hb
   ·rw[e];show{.inr I2.sz,cq I2.lt,λy c z=>aW (below y c z),λp hp=>aW (ni p hp)}
   ·show{(f2 b hb).2.2.2.1,(f2 b hb).2.1,(f2 b hb).2.2.2.2.1,(f2 b hb).2.2.2.2.2}
  have qP:61<g3.objs.size:=by(first|lia|omega)
  let(eD,nD,__):=J1.pin (61,lobj vs k) 58;show ahv _ _ s' H' ys vs k m I5 qP I2.sz I2.lt below ni eD nD J1.free hn rv hz q
 have loop:∀s4:cr,s4={s2 with heap:=h4,toks:=s2.toks+([]:List (io×f')).length}->
   wE 59 X.A (.compLoop (.ListComp elt [{tg,v4,ifs,0}] scope pos) 0 (.ref it) (.ref 61) (SC scope (mX scope X.env) g3.objs.size X.env))
    (W1 59 X.A X.xe use R (.ref 61) g3.objs.size) s4:=by
  ext s4 rfl;show S4 (λn s'=>∃i σ0 H' ys vs k,σ0.length=more.length+1/\Inv (eB X (x::more++fs) scope g3.objs.size {s2 with heap:=g3} H2 (61::fp)) [(61,lobj vs k)] (σ0++slotsOf fr Z) H' s'/\tn i s'.heap/\(∀b∈fp,H' b=none)/\Vals ys vs/\W i n ys H') ?_ m0
   {0,List.replicate (more.length+1) none,H2,[],[],0,fV,start,TR,λb hb=>(f2 b hb).1,.nil,w0}
  ext n s' ⟨i,σ0,H',ys,vs,k,h0,J1,st,Wb,rv,w1⟩;rcases turn i n ys H' w1 with⟨stop,hz,q⟩|⟨go,hz,step⟩
  ·show hU (T.done (eB X (x::more++fs) scope g3.objs.size {s2 with heap:=g3} H2 (61::fp)) 9 9 9 hc i _ s' _ H' _ J1 (Gx Wb) st stop) λr s5 agU=>?_;let(hr,J2):=agU;subst hr;show fin (i:=i) J2 rv hz q
  ·show hU (T.item (eB X (x::more++fs) scope g3.objs.size {s2 with heap:=g3} H2 (61::fp)) 9 9 9 hc i _ s' _ H' _ J1 (Gx Wb) st go) λr s5 agT=>?_;let(u,hr,h5):=agT;subst hr;show hU h5 λ_ s6 agS=>?_;let(v,H6,J6,r6,y6,L5,fr6):=agS;have J6':=J6.pinned (fp:=fp) (Gx fr6) (T.obj _ _ L5);show dE (hg _ _ _ _ _ s6 _ H6 v u _ J6' r6 (step v H6 y6 σ0 h0)) (λ_ s7 agR=>?_) (λ_ _ z=>z.elim);obtain⟨σ7,H7,J7,own,e7,l7,q7⟩:=agR;subst e7;have UD:∀{σ8:St}{H8:Hp}{s8:cr},Inv (eB X (x::more++fs) scope g3.objs.size {s2 with heap:=g3} H2 (61::fp)) ([(61,lobj vs k)]++zX fp s6.heap) σ8 H8 s8->
     tn (i+1) s8.heap/\∀b∈fp,H8 b=none:=λ{σ8 H8 s8} J8=>by
    show{T.keep _ _ _ L5 λb hb o e=>(J8.pin (b,o) (bj _ (bj _ (pb hb e)))).1,λb hb=>?_};let(o,e,d):=T.obj _ _ L5 b hb;show(J8.pin (b,o) (bj _ (bj _ (pb hb e)))).2.1
   show dE (ht _ _ _ _ _ s7 _ H7 _ J7 q7) (λok8 s8 agQ=>?_) (λ_ _ z=>z.elim);let(H8,J8,q8):=agQ;cases ok8 with
   |false=>
    rw[aI bL]at q8;rw[aI bL];let(m',hm,w8):=q8;let(t8,n8):=UD J8;show{m',hm,i+1,own,H8,ys,vs,k,l7,J8.wx,t8,n8,rv,w8}
   |true=>
    rw[aL rfl]at q8;rw[aL rfl];show dE (he _ _ _ _ _ s8 _ H8 _ J8 q8) (λy s9 agP=>?_) (λ_ _ z=>z.elim);let(yv,H9,J9,r9,m',hm,w9):=agP;let(t9,n9):=UD J9;let(eD,nD,__):=J9.pin (61,lobj vs k) 58;have hl:=rv.length;show lD u5 ⟨_,eD,rfl⟩ tD (sN _ _) (vL 61 vs.toArray k y (by rw[aQ];(first|lia|omega))) {eD,?_};have eN:=xB (h:=s9.heap) (l:=61) (items:=vs.toArray) (n:=k) eD (·.push y);have eV:vs.toArray.push y=(vs++[y]).toArray:=by simp
    rw[eV]at eN;obtain⟨k',eN⟩:∃k',(s9.heap.update 61 (Obj.mapSeq (·.push y))).get? 61=some (lobj (vs++[y]) k'):=⟨_,eN⟩;have K9:Inv (eB X (x::more++fs) scope g3.objs.size {s2 with heap:=g3} H2 (61::fp)) [] (own++slotsOf fr Z) H9 s9:=J9.qT λp hp=>absurd hp 58;have K10:Inv (eB X (x::more++fs) scope g3.objs.size {s2 with heap:=g3} H2 (61::fp)) [] (own++slotsOf fr Z) H9 {s9 with heap:=s9.heap.update 61 (Obj.mapSeq (·.push y))}:=
     K9.turned (t':=s9.toks) (it:=61) (λb o hb e=>(cv s9.heap (Obj.mapSeq (·.push y)) (cQ hb)).trans e) nD FT.1 (.inl aw) FT.2 (λp hp=>absurd hp 58)
    show{m',hm,i+1,own,H9,ys++[yv],vs++[y],k',l7,K10.qT λp hp=>?_,T.keep _ _ _ t9 λb hb o e=>(cv s9.heap (Obj.mapSeq (·.push y)) (cq (bN b hb))).trans e,n9,rv.append (.cons r9 .nil),w9};have e:p=(61,lobj (vs++[y]) k'):=aA.mp hp;rw[e];show{eN,nD,FT.1,Wq,λv z=>by cases z}
 show zu (loop _ 9) (T.self X.A 0 _ _ _ TR (loop _ 9))
def Kk(hc:X.calm=true)(ST:uj X scope x more fs fr)(hi:PI X tg v4 wi)(hg:∀C s H ex,PG 88 tg g)
  (ht:∀C s H ex,CT 88 ifs tt) (he:∀C s H ex,PE 88 elt te) (hs:∀z,rc v4 X.env z=pure z:=by intro _;rfl):
  PE X (.ListComp elt [{tg,v4,ifs,0}] scope pos) (uK wi (more.length+1) fr g tt te):=by
 ext bi s Z H Q I h;rw[eval_ListComp];show K6 hc ST hi hg ht he hs I h ?_;ext D C s' H' ys vs k m I5 qP lo lt below ni eD nD nC hn rv hz q;show{m,hn,λh' sb=>?_};have I6:Inv X bi Z H' {s' with heap:=h'}:=I5.turned (t':=s'.toks) (it:=C) (λb o hb e=>sb.extBut b o hb e) nC (cq (dP lt qP)) (.inr (bE (fY lo qP))) (λy c z=>aW (dP (below y c z) qP)) (λp hp=>aW (dP (ni p hp) qP));have eD':h'.get? D=some (lobj vs k):=sb.extBut _ _ (aW qP) eD;show{.ref D,_,I6.adopt nD eD' rv hz lo (cq lt) (λy c z=>aW (below y c z)) (λp hp=>aW (ni p hp)),9,q _ nD}
def CQ{elt v4 tg:u8}{x y:io}{py yX:Fa}{j:Nat}{more:Aah}{g:TG}{ifs:List u8}{scope:ww}{pos:Fa}{wi:TI}{fs:Aah}{fr:List Nat}{tt:TT}{te:TE}(hN:X.N.Nodup)(hj:X.N[j]?=some y)(hy:X.env.scope.names.lookup y=some .local)(hc:X.calm=true)(ST:uj X scope x more fs fr)(hi:PI X tg v4 wi)(hg:∀C s H ex,PG 88 tg g)
  (ht:∀C s H ex,CT 88 ifs tt) (he:∀C s H ex,PE 88 elt te) (hs:∀z,rc v4 X.env z=pure z:=by intro _;rfl)
  (NM:AC (.ListComp elt [{tg,v4,ifs,0}] scope pos) (some (.Name y py)) yX.line X.env=pure true:=by rfl):PS X (.Assign [.Name y py] (.ListComp elt [{tg,v4,ifs,0}] scope pos) yX) (LC j (uK wi (more.length+1) fr g tt te)):=by
 ext bi s Z H D I h;obtain⟨Q,eQ⟩:∃Q:VK,Q=λv H1=>D.nx (Z.set j (some v)) H1:=⟨_,rfl⟩;have h:uK wi (more.length+1) fr g tt te Z H Q:=by rw[eQ];show h
 have S:=ST.one;rw[exec_Assign_Name_used _ _ _ _ NM];show ae (BM (ae ?_));change fv _ _ (comprehension (.ListComp elt [{tg,v4,ifs,0}] scope pos) scope X.env _ (newList []) false (sn v4 X.env) (some (Tl (.Name y py) X.env))>>=λ_=>pure ()) _ _ s;show ae (dE (K6 (Q:=Q) (R:=λ_ s'=>SP X bi D .next s') hc ST hi hg ht he hs I h ?_) (λ_ s' hq=>ao (ao hq)) λ_ _ e=>e);ext D1 C s' H' ys vs k m I5 qP lo lt below ni eD nD nC hn rv hz q;have I7:=I5.adopt nD eD rv hz lo (cq lt) (λy c z=>aW (below y c z)) (λp hp=>aW (ni p hp));show EW (J3 (v:=.ref D1) I7 hN hj (.inl hy) 9 (λs3 I8 cb=>?_) (.inr hy));let(a,sb,ha):=cb;show{m,hn.sameBut sb ?_,λh' CC=>?_}
 ·rcases ha with e|e
  ·rw[e];show cq (dP lt qP)
  ·show cq (dP (below _ _ e) qP)
 ·have nC2:upd H' D1 (.lst ys) C=none:=by rw[aM (cq qP)];show nC
  have I9:Inv X bi (Z.set j (some (.ref D1))) (upd H' D1 (.lst ys)) {s3 with heap:=h'}:=I8.turned (t':=s3.toks) (it:=C) (λb o hb e=>CC.extBut b o hb e) nC2 (cq (dP lt qP)) (.inr (bE (fY lo qP)))
   (λy c z=>aW (dP (below y c z) qP)) (λp hp=>aW (dP (ni p hp) qP))
  have q':=q _ nD;rw[eQ]at q';show⟨_,_,I9,q'⟩
def J0(wi:TI)(fr:List Nat)(tt:TT)(te:TE):uo wi fr tt te=uK wi 1 fr (yF 0) tt te:=by
 funext Z H Q;unfold uo uK;congr 1;funext J H1;show propext (exists_congr λW=>and_congr_right λ_=>?_);show forall_congr' λi=>forall_congr' λm=>forall_congr' λys=>forall_congr' λH2=>forall_congr' λ_=>?_;show or_congr ES (and_congr_right λ_=>and_congr_right λ_=>forall_congr' λv=>forall_congr' λH3=>forall_congr' λ_=>?_);constructor
 ·ext h own ho
  match own,ho with
  |[o],_=>show{[some v],9,9,h}
 ·ext h;let(o4,e,l,q):=h [none] rfl;show q
def MO(hc:X.calm=true)(S:sO X scope x fs fr)(hi:PI X (.Name x px) v4 wi)
  (ht:∀C s H ex,CT (eB X (x::fs) scope C s H ex) ifs tt) (he:∀C s H ex,PE (eB X (x::fs) scope C s H ex) elt te) (hs:∀z,rc v4 X.env z=pure z:=by intro _;rfl):
  PE X (.ListComp elt [{.Name x px,v4,ifs,0}] scope pos) (uo wi fr tt te):=by
 rw[J0];show Kk (more:=[]) hc {S,S.nd} hi (λC s H ex=>o6 (i:=0) S.nd 9 (Or.inl (kn S.loc)) (.inr (kn S.loc))) ht he hs
def je(hc:X.calm=true)(S:sO X scope x fs fr)(hi:PI X (.Name x px) v4 wi)
  (he:∀C s H ex,PE (eB X (x::fs) scope C s H ex) elt te) (hs:∀z,rc v4 X.env z=pure z:=by intro _;rfl):
  PE X (.ListComp elt [{.Name x px,v4,[],0}] scope pos) (uo wi fr AN te):=MO hc S hi (λ_ _ _ _=>Ih) he hs
def mL(hc:X.calm=true)(S:sO X scope x fs fr)(hi:PI X (.Name x px) v4 wi)
  (ht:∀C s H ex,PT (eB X (x::fs) scope C s H ex) c tc) (he:∀C s H ex,PE (eB X (x::fs) scope C s H ex) elt te) (hs:∀z,rc v4 X.env z=pure z:=by intro _;rfl):
  PE X (.ListComp elt [{.Name x px,v4,[c],0}] scope pos) (uo wi fr tc te):=MO hc S hi (λC s H ex=>OL (ht C s H ex)) he hs
def Pb(hN:X.N.Nodup)(hj:X.N[j]?=some y)(hy:X.env.scope.names.lookup y=some .local)
  (hc:X.calm=true) (S:sO X scope x fs fr) (hi:PI X (.Name x px) v4 wi)
  (ht:∀C s H ex,CT (eB X (x::fs) scope C s H ex) ifs tt) (he:∀C s H ex,PE (eB X (x::fs) scope C s H ex) elt te) (hs:∀z,rc v4 X.env z=pure z:=by intro _;rfl)
  (NM:AC (.ListComp elt [{.Name x px,v4,ifs,0}] scope pos) (some (.Name y py)) yX.line X.env=pure true:=by rfl):
  PS X (.Assign [.Name y py] (.ListComp elt [{.Name x px,v4,ifs,0}] scope pos) yX) (LC j (uo wi fr tt te)):=by
 rw[J0];show CQ (more:=[]) hN hj hy hc {S,S.nd} hi (λC s H ex=>o6 (i:=0) S.nd 9 (Or.inl (kn S.loc)) (.inr (kn S.loc))) ht he hs NM
def rN{elt v4:u8}{x y:io}{px py yX:Fa}{scope:ww}{pos:Fa}{wi:TI}{fs:Aah}{fr:List Nat}{te:TE}{j:Nat}(hN:X.N.Nodup)(hj:X.N[j]?=some y)(hy:X.env.scope.names.lookup y=some .local)
  (hc:X.calm=true) (S:sO X scope x fs fr) (hi:PI X (.Name x px) v4 wi)
  (he:∀C s H ex,PE (eB X (x::fs) scope C s H ex) elt te) (hs:∀z,rc v4 X.env z=pure z:=by intro _;rfl)
  (NM:AC (.ListComp elt [{.Name x px,v4,[],0}] scope pos) (some (.Name y py)) yX.line X.env=pure true:=by rfl):
  PS X (.Assign [.Name y py] (.ListComp elt [{.Name x px,v4,[],0}] scope pos) yX) (LC j (uo wi fr AN te)):=Pb hN hj hy hc S hi (λ_ _ _ _=>Ih) he hs NM
def wW(hc:X.calm=true)(S:uj X scope x more fs fr)(hi:PI X tg v4 wi)(hg:∀C s H ex,PG 88 tg g)
  (he:∀C s H ex,PE 88 elt te) (hs:∀z,rc v4 X.env z=pure z:=by intro _;rfl):
  PE X (.ListComp elt [{tg,v4,[],0}] scope pos) (uK wi (more.length+1) fr g AN te):=Kk hc S hi hg (λ_ _ _ _=>Ih) he hs
def pF(h:S3 X.env.scope X.N scope x fs fr=true:=by kernel_rfl)(h2:decide (x::more++fs).Nodup=true:=by kernel_rfl):uj X scope x more fs fr:={cR h,aU h2}
def we{K:Frag}(hc:X.calm=true)(h:ID X es t)(hK:X.K=K:=by rfl)
  (hn:(C' es X.env).length=n:=by rfl) (yA:(C' es X.env).findIdx? (·.1)=none:=by rfl):PG X (.Tuple es k pos) (YN K n t):=hK▸kG hc h hn yA
def j4(hN:decide X.N.Nodup=true:=by kernel_rfl)(hi:X.N[i]?=some x:=by rfl)(hl:X.env.scope.names.lookup x=some .local:=by first|rfl|exact kn rfl):PG X (.Name x pos) (yF i):=
 o6 (aU hN) hi (.inl hl) (.inr hl)
variable{K:Frag}{a:bn}{xs:Aao}{fr:List Nat}{tt:TT}{te:TE}{Z:St}{H1:Hp}{R:bn->Aao->Hp->Prop}
abbrev LL(K:Frag):TG:=YN K 2 (SD (yF 0) (SD (yF 1) aeA))
abbrev El(J:It)(k:Nat)(fr:List Nat)(g:TG)(tt:TT)(te:TE)(Z:St)(H1:Hp)(R:bn->Aao->Hp->Prop):Prop:=
 ∃W:Nat->Nat->Aao->Hp->Prop,(∃m,W 0 m [] H1)/\∀i m ys H2,W i m ys H2->
 (J.stop i H2/\ys.length<=ca/\∀l,H2 l=none->R l ys H2)\/
 (J.go i H2/\ys.length<ca/\∀v H3,J.Cn i H2 v H3->∀own:St,own.length=k->g v (own++slotsOf fr Z) H3 λσ4 H4=>∃MV,σ4=MV++slotsOf fr Z/\MV.length=k/\tt σ4 H4 λb H5=>
  if b=true then te σ4 H5 (λy H6=>∃m',m'<m/\W (i+1) m' (ys++[y]) H6)else∃m',m'<m/\W (i+1) m' ys H5)
def Je{v a b:V}{own rest:St}(ho:own.length=2)(ev:v=.ref p)(hp:ba K H p [a,b])(h:Q (some a::some b::rest) H):LL K v (own++rest) H Q:=by
 match own,ho with
 |[o1,o2],_=>show⟨p,_,ev,hp,rfl,_,_,rfl,_,_,rfl,rfl,h⟩
def DK(Pv:Nat->Aao->Hp->Prop)(hx:96<ca)(h0:Pv 0 [] H1)(hl:∀i ys H,i<=96->Pv i ys H->ba K H a xs/\ys.length<=i)
  (hs:∀(i:Nat)(x:V)(ys:Aao)(H:Hp)(N:Aao->Hp->Prop),xs[i]?=some x->Pv i ys H->(∀iE H',Pv (i+1) iE H'->N iE H')->
   ∃p b c,x=.ref p/\ba K H p [b,c]/\tt (some b::some c::slotsOf fr Z) H λt H4=>if t=true then te (some b::some c::slotsOf fr Z) H4 (λy H5=>N (ys++[y]) H5)else N ys H4)
  (hd:∀ys H,Pv 96 ys H->∀l,H l=none->R l ys H):El (WN K a) 2 fr (LL K) tt te Z H1 R:=by
 show{λi m ys H=>m=96 -i/\i<=96/\Pv i ys H,{96,58,aJ _,h0},?_};ext i m ys H ⟨rfl,hi,p⟩;let(q,hy):=hl i ys H hi p;by_cases bN:i<96
 ·show .inr {{xs,_,q,av bN},8,?_};ext v H3 ⟨rfl,hv⟩ own ho;let(pp,b,c,ev,hp,h):=hs i v ys H3 (λiE H'=>∃m',m'<96 -i/\m'=96 -(i+1)/\i+1<=96/\Pv (i+1) iE H') (hv xs q) p λiE H' p'=>{_,8,9,bN,p'};show Je ho ev hp {[some b,some c],9,9,h}
 ·have e:i=96:=by lia
  subst e;show .inl {{xs,q,au _},8,hd ys H p}
def Ij(Pv:Nat->Aao->Hp->Prop)(hx:96<ca)(h0:Pv 0 [] H1)(hl:∀i ys H,i<=96->Pv i ys H->bg K H a xs/\ys.length<=i)
  (hs:∀(i:Nat)(x:V)(ys:Aao)(H:Hp)(N:Aao->Hp->Prop),xs[i]?=some x->Pv i ys H->(∀iE H',Pv (i+1) iE H'->N iE H')->
   ∃p b c,x=.ref p/\ba K H p [b,c]/\tt (some b::some c::slotsOf fr Z) H λt H4=>if t=true then te (some b::some c::slotsOf fr Z) H4 (λy H5=>N (ys++[y]) H5)else N ys H4)
  (hd:∀ys H,Pv 96 ys H->∀l,H l=none->R l ys H):El (Rf K a) 2 fr (LL K) tt te Z H1 R:=by
 show{λi m ys H=>m=96 -i/\i<=96/\Pv i ys H,{96,58,aJ _,h0},?_};ext i m ys H ⟨rfl,hi,p⟩;let(q,hy):=hl i ys H hi p;by_cases bN:i<96
 ·show .inr {{xs,_,q,av bN},8,?_};ext v H3 ⟨rfl,hv⟩ own ho;let(pp,b,c,ev,hp,h):=hs i v ys H3 (λiE H'=>∃m',m'<96 -i/\m'=96 -(i+1)/\i+1<=96/\Pv (i+1) iE H') (hv xs q) p λiE H' p'=>{_,8,9,bN,p'};show Je ho ev hp {[some b,some c],9,9,h}
 ·have e:i=96:=by lia
  subst e;show .inl {{xs,q,au _},8,hd ys H p}
end
def rT(a b:io):Bool:=!decide (b.cps.toList<a.cps.toList)
def EE(a b:io):rT a b=true↔a.cps.toList<=b.cps.toList:=by unfold rT;rw[Fd,decide_eq_false_iff_not];show ES
def Ku(a b c:io)(h1:rT a b=true)(h2:rT b c=true):rT a c=true:=by rw[EE]at*;show List.le_trans h1 h2
def Yk{a b:io}(h1:rT a b=true)(h2:rT b a=true):a=b:=by rw[EE]at*;show ext_toList (List.le_antisymm h1 h2)
def Vi(a b:io):(rT a b||rT b a)=true:=by
 rcases List.le_total a.cps.toList b.cps.toList with h|h
 ·rw[(EE a b).mpr h,Bool.true_or]
 ·rw[(EE b a).mpr h,Eo]
def eY(zs:Aah):Aah:=zs.mergeSort rT
def ix(zs:Aah):(eY zs).Perm zs:=Cj zs rT
def G8(zs:Aah):(eY zs).Pairwise (λa b=>rT a b=true):=yc Ku Vi zs
theorem Ft:∀(r:Aah)(p:io),risingS p r=true->(p::r).Pairwise (λa b=>rT a b=true)
 |[],p,_=>by simp
 |x::r,p,h=>by
  have h':(!ltCps x.cps.toList p.cps.toList&&risingS x r)=true:=h;rw[bQ]at h';have ih:=Ft r x h'.2;have h1:rT p x=true:=by have:=h'.1;rw[ltCps_eq]at this;show this
  show lE.mpr {λy hy=>?_,ih};rcases aN.mp hy with rfl|hy
  ·show h1
  ·show Ku p x y h1 (iO ih hy)
theorem O7:∀(l:Aah),sortedS l=true->l.Pairwise (λa b=>rT a b=true)
 |[],_=>.nil
 |x::r,h=>Ft r x h
theorem Jc:∀{l m:Aah},l.Perm m->l.Pairwise (λa b=>rT a b=true)->m.Pairwise (λa b=>rT a b=true)->l=m
 |[],m,h,_,_=>(List.nil_perm.mp h).symm
 |a::l,[],h,_,_=>absurd h.length_eq 58
 |a::l,b::m,h,h1,h2=>by
  have e:a=b:=by
   rcases aN.mp (h.mem_iff.mp (aw))with e|e
   ·show e
   ·rcases aN.mp (h.mem_iff.mpr (aw))with q|q
    ·show q.symm
    ·show Yk (iO h1 q) (iO h2 e)
  subst e;rw[Jc (List.perm_cons a|>.mp h) (lE.mp h1).2 (lE.mp h2).2]
def Mh{l zs:Aah}(h:l.Perm zs)(hs:sortedS l=true):l=eY zs:=Jc (h.trans (ix zs).symm) (O7 l hs) (G8 zs)
theorem F4:∀{zs:Aah}{us:Aag},Vals (zs.map V.str) us->Wp us zs
 |[],_,.nil=>.nil
 |z::r,_,.cons ⟨t,e⟩ h=>by subst e;show .cons _ _ (F4 h)
theorem F3:∀{zs:Aah}{us:Aag},Wp us zs->Vals (zs.map V.str) us
 |_,_,.nil=>.nil
 |_,_,.cons y t h=>.cons ⟨t,rfl⟩ (F3 h)
section
variable{X:Cx}
inductive adf(K:Frag)(xs:Aao)(H:Hp)(Q:VK):Prop
 |mk p zs (_:xs=[.ref p]) (_:bg K H p (zs.map V.str)) (_:zs.length<64) (_:∀l,H l=none->Q (.ref l) (upd H l (.lst ((eY zs).map V.str))))
def Pw:gJ X (.builtin "sorted") (adf X.K):=by
 ext bi s Z H xs us Q I r h;let(p,zs,rfl,hq,hz,q):=h;let(u,rfl,rx):=jn r;cases rx;let(aY,r',pl,ke):=I.list hq;have hl:=r'.length;rw[ah]at hl;show sorted_strs pl.isList (F4 r') ∅ λout ss' a1 a2 a3=>?_;have e:=Mh a2 a3;subst e;let(n,he):=sortedAll_at s.heap aY out;have ln:((eY zs).map V.str).length<=ca:=by rw[ah,(ix zs).length_eq];show bE (bq ∅)
 show{.ref (17+1),_,I.laid (λb o hb=>sortedAll_old hb) (d8 _) (show dG 57 X.w _ _ _ (.lst ((eY zs).map V.str))from{ln,out.toList,n,F3 a1,he}),9,q _ (I.bK.fresh (d8 _))}
inductive abg(x:V)(vs:Aao)(H:Hp)(Q:VK):Prop
 |mk l xs i y (_:x=.ref l) (_:vs=[.int i,y]) (_:H l=some (.lst xs)) (_:0<=i) (_:i<=(xs.length:Int)) (_:xs.length<1000) (_:Q .b7 (upd H l (.lst (xs.take i.toNat++y::xs.drop i.toNat))))
def abX(aY:Aag)(u:f')(i:Int)(h0:0<=i)(h1:i.toNat<=aY.length):(λxs:Aal=>have k:=if i<0 then(i+((xs.size:Nat):Int)).toNat else min i.toNat xs.size;(xs.extract 0 k).push u++xs.extract k) aY.toArray=(aY.take i.toNat++u::aY.drop i.toNat).toArray:=by
 have e:(if i<0 then(i+((aY.toArray.size:Nat):Int)).toNat else min i.toNat aY.toArray.size)=i.toNat:=by rw[aI ∅,aQ];lia
 change((aY.toArray.extract 0 (if i<0 then(i+((aY.toArray.size:Nat):Int)).toNat else min i.toNat aY.toArray.size)).push u++aY.toArray.extract (if i<0 then(i+((aY.toArray.size:Nat):Int)).toNat else min i.toNat aY.toArray.size))=_;rw[e];apply Array.ext';simp;show dj (c9▸au _)
def U5:Ll X "list.insert" abg:=by
 ext bi s Z H x vs v us Q I rx rv h;let(l,xs,i,y,rfl,rfl,hH,h0,h1,hz,q):=h;cases rx
 match us,rv with
 |[_,u],.cons ⟨t,rfl⟩ (.cons ru .nil)=>
  let(z,aY,n,r,hl,e):=I.zm hH;show lD F.slot_list_insert ⟨_,e,rfl⟩ F.entry_list_insert (F.args_list_insert_3 _ _ _) (AutoListH.list_insert_list_int_val_1 l aY.toArray n i t u ?_ (by rw[aQ];lia)) {e,?_}
  ·have:=fitsIndex_both (k:=i) ∅ ∅;simpa using this
  ·show{.b7,_,I.Jj hH e (abX aY u i h0 ∅) ((r.take _).append (.cons ru (r.drop _))) ?_,9,q};have:=bq (n:=96+1) ∅;rw[aC,bx,aV,c9];lia
inductive adl(K:Frag)(neg:Bool)(x:V)(y:V)(H:Hp)(Q:VK):Prop
 |mk d ds (_:Dt K H d x) (_:(Dt K H (.tuple ds) y\/Dt K H (.list ds) y)) (_:PyData.canLayAll0 ds=true) (_:d.canLay0=true) (_:d.depth<=60) (_:Q (.bl (if neg then !(ds.any λe=>PyData.eqv e d)else ds.any λe=>PyData.eqv e d)) H)
def adF(hu:X.A.units+64<v6):iT X (on .In) (adl X.K false):=by
 ext bi s Z H x y v u Q I rx ry h;let(d,ds,h1,h2,h3,h4,h5,q):=h;let(as,r1):=tO I d x v h1 rx;rcases h2 with h2|h2
 ·let(bs,r2):=tO I _ y u h2 ry;show SeqAt.in_tuple_reads r2 r1 h3 h4 ∅ {.bl _,H,I,9,q}
 ·let(bs,r2):=tO I _ y u h2 ry;show SeqAt.in_list_reads r2 r1 h3 h4 ∅ {.bl _,H,I,9,q}
def abu{K:Frag}(hu:X.A.units+64<v6)(h:X.K=K:=by rfl):iT X (on .In) (adl K false):=h▸adF hu
def R9(hl:(AT.endLine==fH.line)=true:=by rfl)(hb:wf (.Name d pd) "get" X.env (sn (.Name d pd) X.env)=sn (.Name d pd) X.env:=by rfl):M2 X (.Name d pd) "get" AT (.Name x px) (.Name y py) fH:=⟨hb,rfl,hl,rfl⟩
end
end L2
namespace L2
open PySem PySem.Spec PyProof.Rows PySem.W Builtin Builtin.ObjectAttr
noncomputable def We:Aag->Bool
 | .ref _::r=>We r
 |l=>l==[.type "ValueError",.type "Exception",.type "BaseException",.type "object"]
structure aii(K:Frag)(C:bn):Prop where
 ga:findIn K (.ref C) "__getattribute__"=some (some (.builtin "BaseException.__getattribute__"))
 gt:findIn K (.ref C) "__getattr__"=some none
 sa:findIn K (.ref C) "__setattr__"=some (some (.builtin "object.__setattr__"))
 be:mroIn K C (.type "BaseException")=some true
 ob:mroIn K C (.type "object")=some true
 hd:hasDictIn K C=true
 tl:(clsIn K C).any (λcd=>We cd.mro)=true
 cl:findIn K (.ref C) "__class__"=some (some (.builtin "object.__class__"))
 cg:specialIn K (.builtin "object.__class__") "__get__"=some (some (.builtin "getset_descriptor.__get__"))
 ct:takesIn K (.builtin "object.__class__")=some true
end L2
namespace L2
open PySem PySem.Spec PyProof.Rows PySem.W
abbrev ahG(C:bn)(dd:Aak)(t:bn)(tb:f'):G':={cls:=.ref C,dict:=dd,data:=.fields #[.ref t,tb,.none,.none,.bool false,.none]}
def ahT(e C:bn)(dd:Aak):i5->Prop:=λh=>∃t tb,h.get? e=some (ahG C dd t tb)
def gone(H:Hp)(e C:bn)(dd:Aak):Hp:=upd H e (.ext (ahT e C dd))
abbrev Cx.held(X:Cx)(q:Aac)(E:Aae):Cx:={X with pn:=q,xe:=E}
section
variable{X:Cx}{K:Frag}
def JE(h:X.K=K:=by rfl):gJ X (.type "tuple") (λxs H Q=>∃p ys,xs=[.ref p]/\((bg K H p ys/\∀l,H l=none->Q (.ref l) (upd H l (.tup ys)))\/(ba K H p ys/\Q (.ref p) H))):=h▸hJ
end
end L2
namespace L2
open PySem PySem.Spec PyProof.Rows
section
variable{P:dL}{w:i3}{A:mo}{E:Aae}{v:cr}
structure Zt(h:i5)(z ti to i1 i2 l1 l2:bn)(f:f')(k:Nat):Prop where
 self:On h z ti to f
 ins:wS h ti (.ref i1) (.ref i2)
 outs:∃a b,wS h to a b
 w1:h.IsTupleIter i1 l1 k
 w2:h.IsTupleIter i2 l2 k
structure WH(z ti to i1 i2 l1 l2:bn):Prop where
 ntt:ti≠to
 nii:i1≠i2
 nl1:l1≠to
 nl2:l2≠to
def jk{h:i5}(e:h.get? a=some o)(e':h.get? b=some o')(c:o.cls=.type m)(c':o'.cls=.type n)(d:m≠n):a≠b:=λg=>by rw[g,e']at e;cases e;rw[c]at c';cases c';show d rfl
def Zt.ne(g:Zt h z ti to i1 i2 l1 l2 f k):(ti≠z/\to≠z/\i1≠z/\i2≠z)/\(ti≠i1/\ti≠i2/\to≠i1/\to≠i2):=by
 obtain⟨gs,gi,⟨a,b,go⟩,⟨o1,q1,c1,_⟩,⟨o2,q2,c2,_⟩⟩:=g;show{{jk gi gs rfl rfl 7,jk go gs rfl rfl 7,jk q1 gs c1 rfl 7,jk q2 gs c2 rfl 7},
  jk gi q1 rfl c1 7,jk gi q2 rfl c2 7,jk go q1 rfl c1 7,jk go q2 rfl c2 7}
def tup_ne(g:Zt h z ti to i1 i2 l1 l2 f k)(t:h.IsTuple l xs):l≠z/\l≠i1/\l≠i2:=by obtain⟨gs,_,_,⟨o1,q1,c1,_⟩,⟨o2,q2,c2,_⟩⟩:=g;let(o,q,c,__):=t;show{jk q gs c rfl 7,jk q q1 c c1 7,jk q q2 c c2 7}
def ph(g:h.IsTupleIter j p k)(s:Heap.SameBut b h h')(n:j≠b):h'.IsTupleIter j p k:=by let(o,q,r):=g;show{o,s.extBut _ _ n q,r}
def zR(g:h.IsTuple l xs)(s:Heap.SameBut b h h')(n:l≠b):h'.IsTuple l xs:=by let(o,q,r):=g;show{o,s.extBut _ _ n q,r}
def MT(g:wS v.heap t a b)
  (q:∀h',h'.get? t=some {cls:=.type "tuple",data:=.seq ((#[a,b]:Aal).setIfInBounds k x)}->Heap.SameBut t v.heap h'->Q () {v with heap:=h'}):
  fv (f8 P w) A (updateSeq t (·.setIfInBounds k x)) Q E v:=wpAny_updateSeq_pair g q
def aaH{Q:Aae}(d:WH z ti to i1 i2 l1 l2)(g:Zt v.heap z ti to i1 i2 l1 l2 .none k)
  (t1:v.heap.IsTuple l1 xs) (t2:v.heap.IsTuple l2 ys) (ex:xs[k]?=some x) (ey:ys[k]?=some y)
  (q:∀h',Zt h' z ti to i1 i2 l1 l2 (sK v.heap.objs.size) (k+1)->wS h' v.heap.objs.size x y->(∀c o,c≠z->c≠to->c≠i1->c≠i2->v.heap.get? c=some o->h'.get? c=some o)->Q (.ref v.heap.objs.size) {v with heap:=h'}):
  fv (f8 P w) A (Builtin.«zip.__next__» {[.ref z],[]}) (λfin s'=>∃u,fin=.done (.ret u)/\Q u s') E v:=by
 obtain⟨⟨a1,a2,a3,a4⟩,a5,a6,a7,a8⟩:=g.ne;let(b1,b2,b3):=tup_ne g t1;let(c1,c2,c3):=tup_ne g t2;obtain⟨gs,gi,⟨a,b,go⟩,g1,g2⟩:=g;change fv _ _ (field (.ref z) 2>>=_) _ _ _;show ae (dw gs 9 9 ?_);show ae (dw gs 9 9 ?_);show ae (dk gi 9 ?_);show ae ?_;show ae (dw gs 9 9 (ao ?_));show ae (iW ?_);show ae (dw gs 9 9 ?_);show ae (jH gs 58 λp1 k1 r1=>?_)
 replace k1:On p1 z ti to .ellipsis:=k1
 show ae ?_;show ae (ae (BN ?_));show ae (Bc (ph g1 r1 a3) (zR t1 r1 b1) ex λp2 k2 r2=>ao ?_);have o2:=r2.extBut _ _ a7 (r1.extBut _ _ a2 go);show ae (dk o2 9 ?_);show ae (MT o2 λp3 o3 r3=>?_)
 replace o3:wS p3 to x b:=o3
 show ae (Fg (ao ?_));show ae (ae (BN ?_));show ae (Bc (ph (ph (ph g2 r1 a4) r2 d.nii.symm) r3 a8.symm) (zR (zR (zR t2 r1 c1) r2 c2) r3 d.nl2) ey λp4 k4 r4=>ao ?_);have o4:=r4.extBut _ _ a8 o3;show ae (dk o4 9 ?_);show ae (MT o4 λp5 o5 r5=>?_)
 replace o5:wS p5 to x y:=o5
 show ae (Fg (ao (ao ?_)));show ae (dk o5 9 ?_);show ae (tE ?_);have sz:p5.objs.size=v.heap.objs.size:=by rw[r5.1,r4.1,r3.1,r2.1,r1.1]
 have z5:=r5.extBut _ _ a2.symm (r4.extBut _ _ a4.symm (r3.extBut _ _ a2.symm (r2.extBut _ _ a3.symm k1)));have st:∀c o,c≠z->c≠to->c≠i1->c≠i2->v.heap.get? c=some o->p5.get? c=some o:=λc o m1 m2 m3 m4 e=>
  r5.extBut _ _ m2 (r4.extBut _ _ m4 (r3.extBut _ _ m2 (r2.extBut _ _ m3 (r1.extBut _ _ m1 e))))
 have lz:=aX z5;show ae ?_;have z6:On (p5.push {cls:=.type "tuple",data:=.seq #[x,y]}) z ti to .ellipsis:=aj _ z5;show ae (jH z6 58 λp7 z7 r7=>?_)
 replace z7:On p7 z ti to (sK p5.objs.size):=z7
 show jH z7 58 λp8 z8 r8=>?_
 replace z8:On p8 z ti to (sK p5.objs.size):=z8
 have up:∀c o,c≠z->p5.get? c=some o->p8.get? c=some o:=λc o m e=>r8.extBut _ _ m (r7.extBut _ _ m (aj _ e));have n8:=r8.extBut _ _ (cq lz) (r7.extBut _ _ (cq lz) (aR _ 9));rw[sz]at z8 n8;show ao {_,9,?_};rw[sz];let(oa,ja,ra):=(ph (ph (ph k2 r3 a7.symm) r4 d.nii) r5 a7.symm);let(ob,jb,rb):=(ph k4 r5 a8.symm);show q p8 {z8,up _ _ a1 (st _ _ a1 d.ntt a5 a6 gi),{x,y,up _ _ a2 o5},{oa,up _ _ a3 ja,ra},{ob,up _ _ a4 jb,rb}} n8 λc o m1 m2 m3 m4 e=>up c o m1 (st c o m1 m2 m3 m4 e)
def acA{z ti to i1 i2 l1 l2:bn}{k:Nat}{xs ys:Aal}{Q:Fin->cr->Prop}(hh:A.handled=none)(d:WH z ti to i1 i2 l1 l2)(g:Zt v.heap z ti to i1 i2 l1 l2 .none k)
  (t1:v.heap.IsTuple l1 xs) (ex:xs[k]?=none)
  (q:∀h' e,(∀c o,c≠z->c≠to->c≠i1->c≠i2->v.heap.get? c=some o->h'.get? c=some o)->(∃o,h'.get? e=some o/\o.cls=.type "StopIteration")->E (.ref e) {v with heap:=h'}):
  fv (f8 P w) A (Builtin.«zip.__next__» {[.ref z],[]}) Q E v:=by
 obtain⟨⟨a1,a2,a3,a4⟩,a5,a6,a7,a8⟩:=g.ne;let(b1,b2,b3):=tup_ne g t1;obtain⟨gs,gi,⟨a,b,go⟩,g1,g2⟩:=g;change fv _ _ (field (.ref z) 2>>=_) _ _ _;show ae (dw gs 9 9 ?_);show ae (dw gs 9 9 ?_);show ae (dk gi 9 ?_);show ae ?_;show ae (dw gs 9 9 (ao ?_));show ae (iW ?_);show ae (dw gs 9 9 ?_);show ae (jH gs 58 λp1 k1 r1=>?_)
 replace k1:On p1 z ti to .ellipsis:=k1
 show ae ?_;show ae (ae (BN ?_));show ae (Ad hh (ph g1 r1 a3) (zR t1 r1 b1) ex λp2 e r2 he=>?_);let(oe,ge,ce):=he;have z2:=r2 _ _ a3.symm k1;show jH z2 58 λp3 _ r3=>q p3 e (λc o m1 _ m3 _ e=>r3.extBut _ _ m1 (r2 _ _ m3 (r1.extBut _ _ m1 e))) {oe,r3.extBut _ _ (jk ge z2 ce 9 7) ge,ce}
variable{X:Cx}{bi:Aac}{Z:St}{H:Hp}{s:cr}
def Inv.freeze(I:Inv X bi Z H s)(hd:H d=some (.dK kvs))(ho:s.heap.get? d=some o):Inv X bi Z (upd H d (.fX o (.dK kvs))) s:=by
 have nd:∀b u,H b=some u->(∀l,u≠ .dK l)->b≠d:=λb u q n z=>by rw[z,hd]at q;show n kvs (bY q).symm
 show I.un {λb u e _ _ _=>e,λb u e _ _ _=>{u.slots,e},λb u e n _=>by rw[aM ((λb q z=>by rw[z,hd]at q;cases q) b n)];show n,λb u e _=>⟨u,e⟩,λb xs q=>by rw[aM (nd b _ q λl z=>by cases z)];show q,λb u v q=>by rw[aM (nd b _ q λl z=>by cases z)];show q,λb ps q=>{#[],by rw[aM (nd b _ q λl z=>by cases z),q];simp}} λb u g=>?_;by_cases hb:b=d
 ·subst hb;rw[ar]at g;cases g;show{ho,I.bK b _ hd}
 ·rw[aM hb]at g;show(I.bK b u g).rF (λc v hc q=>q) (λc q=>by rw[aM (nd c _ q λl z=>by cases z)];show q) λc ys q=>by rw[aM (nd c _ q λl z=>by cases z)];show q
def ags{X:Cx}{d x:io}{pd px AT fH:Fa}(hl:(AT.endLine==fH.line)=true:=by rfl)(hb:wf (.Name d pd) "get" X.env (sn (.Name d pd) X.env)=sn (.Name d pd) X.env:=by rfl):M1 X (.Name d pd) "get" AT (.Name x px) fH:=⟨hb,rfl,hl,rfl⟩
end
section
variable{X:Cx}
theorem ints_of:∀{ns:List Int}{us:Aag},Vals (ns.map V.int) us->Re us ns
 |[],_,.nil=>.nil
 |n::ns,_,.cons ⟨t,r⟩ q=>by subst r;show .cons _ _ (ints_of q)
def DM:gJ X (.type "str") (λxs H Q=>∃i:Int,xs=[.int i]/\i.natAbs.log2<1920/\Q (.str (Str.ofString (toString i))) H):=by ext bi s Z H xs us Q I r h;let(i,rfl,hl,q):=h;let(u,rfl,t,rfl):=jn r;show P.str_of_int hl {.str (Str.ofString (toString i)),H,I.tok _,⟨_,rfl⟩,q}
variable{bi:Aac}{Z:St}{H:Hp}{s:cr}{h':i5}
def Inv.aaT{ch:Aaj}(I:Inv X bi Z H s)(k:∀b o,b∉ch->s.heap.get? b=some o->h'.get? b=some o)(fc:∀b∈ch,oU X bi H b)
  (hp:17<=p) (ht:Op h' p us.toArray/\∃o,h'.get? p=some o/\o.dict=none) (r:Vals xs us) (hz:96<=ca):Inv X bi Z (upd H p (.tup xs)) {s with heap:=h',toks:=t'}:=by
 have hn:=I.bK.fresh hp;have fp:=I.vi hp hn;have nH:∀b u,H b=some u->b∉ch/\b≠p:=λb u g=>{(λz=>by rw[(fc b z).1]at g;cases g),λz=>by rw[z,hn]at g;cases g};show I.step (λb hb=>?_) (λb o _ _ hc g _=>k b o (λz=>hc (ay _ z)) g) (λb o _ _ hc g _=>{o.slots,k b o (λz=>hc (ay _ z)) g})
  (λb o hc g n=>by rw[aM λz=>hc (by rw[z];show aw)];show n) (λb o hc g=>{o,k b o (λz=>hc (ay _ z)) g})
  (λb ys g=>by rw[aM (nH b _ g).2];show g) (λb o u g=>by rw[aM (nH b _ g).2];show g) (λb ps g=>{#[],by rw[aM (nH b _ g).2,g];simp}) (λm hm=>?_) (λb u g=>?_) I.bare
 ·rcases aN.mp hb with rfl|z
  ·show{fp.2.2.2.1,fp.2.1,fp.2.2.2.2.1,fp.2.2.2.2.2}
  ·have f:=fc b z;show{f.2.2.2.1,f.2.1,f.2.2.2.2.1,f.2.2.2.2.2}
 ·let(o,es,ep,ho,r'):=hm;show{o,es,ep,k _ o (λz=>(fc _ z).2.1 9) ho,r'}
 ·by_cases hb:b=p
  ·subst hb;rw[ar]at g;cases g;show⟨hz,us,r,ht⟩
  ·rw[aM hb]at g;show(I.bK b u g).rF (λc v hc q=>?_) (λc q=>?_) λc ys q=>?_
   ·rcases hc with z|z
    ·rw[z];rw[z]at q;show k b v (nH b _ g).1 q
    ·show k c v (nH c _ z).1 q
   ·rw[aM (nH c _ q).2];show q
   ·rw[aM (nH c _ q).2];show q
def Inv.aaU{ch:Aaj}(I:Inv X bi Z H s)(k:∀b o,b∉ch->s.heap.get? b=some o->h'.get? b=some o)(fc:∀b∈ch,oU X bi H b):Inv X bi Z H {s with heap:=h',toks:=t'}:=by
 have nH:∀b u,H b=some u->b∉ch:=λb u g z=>by rw[(fc b z).1]at g;cases g
 show I.step (λb z=>?_) (λb o _ _ hc g _=>k b o hc g) (λb o _ _ hc g _=>{o.slots,k b o hc g}) (λ_ _ _ _ n=>n) (λb o hc g=>{o,k b o hc g})
  (λ_ _ g=>g) (λ_ _ _ g=>g) (λb ps g=>{#[],by rw[g];simp}) (λm hm=>?_) (λb u g=>?_) I.bare
 ·have f:=fc b z;show{f.2.2.2.1,f.2.1,f.2.2.2.2.1,f.2.2.2.2.2}
 ·let(o,es,ep,ho,r'):=hm;show{o,es,ep,k _ o (λz=>(fc _ z).2.1 9) ho,r'}
 ·show(I.bK b u g).rF (λc v hc q=>k c v ?_ q) (λ_ q=>q) λ_ _ q=>q;rcases hc with z|z
  ·rw[z];show nH b _ g
  ·show nH c _ z
end
section
variable{P:dL}{w:i3}{A:mo}{E:Aae}{v:cr}
def aaG(d:WH z ti to i1 i2 l1 l2)(g:Zt v.heap z ti to i1 i2 l1 l2 .none k)
  (t1:v.heap.IsTuple l1 xs) (t2:v.heap.IsTuple l2 ys) (ex:xs[k]?=some x) (ey:ys[k]?=some y)
  (q:∀h',Zt h' z ti to i1 i2 l1 l2 (sK v.heap.objs.size) (k+1)->wS h' v.heap.objs.size x y->(∀c o,c≠z->c≠to->c≠i1->c≠i2->v.heap.get? c=some o->h'.get? c=some o)->Q (some (.ref v.heap.objs.size)) {v with heap:=h'}):
  fv (f8 P w) A (IR (.ref z)) Q E v:=by
 have ty:v.TypeIs (.ref z) "zip":={_,g.self,9};show ae (iu (jp ty jd (b9 jd ty qM (aaH d g t1 t2 ex ey λh' b1 b2 b3=>ao (q h' b1 b2 b3)) (qh _))))
def aaF(hh:A.handled=none)(d:WH z ti to i1 i2 l1 l2)(g:Zt v.heap z ti to i1 i2 l1 l2 .none k)
  (t1:v.heap.IsTuple l1 xs) (ex:xs[k]?=none)
  (q:∀h',(∀c o,c≠z->c≠to->c≠i1->c≠i2->v.heap.get? c=some o->h'.get? c=some o)->Q none {v with heap:=h'}):
  fv (f8 P w) A (IR (.ref z)) Q E v:=by
 have ty:v.TypeIs (.ref z) "zip":={_,g.self,9};show ae (iu (jp ty jd (b9 jd ty qM (acA (ys:=#[]) hh d g t1 ex λh' e hk he=>?_) (qh _))));let(o,ho,hc):=he;show ae (ju ⟨o,ho,hc⟩ pB (ao (q _ hk)))
abbrev Zr(h:i5)(l1:bn):i5:=h.push {cls:=.type "tuple_iterator",data:=.fields #[.ref l1,.int 0 0]}
abbrev Zq(h:i5)(l1 l2:bn):i5:=(Zr h l1).push {cls:=.type "tuple_iterator",data:=.fields #[.ref l2,.int 0 0]}
abbrev Zp(h:i5)(l1 l2:bn):i5:=(Zq h l1 l2).push {cls:=.type "tuple",data:=.seq #[.ref h.objs.size,.ref (Zr h l1).objs.size]}
abbrev Zo(h:i5)(l1 l2:bn):i5:=(Zp h l1 l2).push {cls:=.type "tuple",data:=.seq #[.none,.none]}
abbrev Pz(h:i5)(l1 l2:bn):i5:=(Zo h l1 l2).push {cls:=.type "zip",data:=.fields #[.none,.bool false,.bool false,.ref (Zq h l1 l2).objs.size,.ref (Zp h l1 l2).objs.size]}
def acC(l1 l2:bn)(xs ys:Aal):
  Meets (Builtin.«zip.__new__» {[.type "zip",.ref l1,.ref l2],[]}) (λ_ R s=>s.heap.IsTuple l1 xs/\s.heap.IsTuple l2 ys/\R (.ok (.ret (.ref (Zo s.heap l1 l2).objs.size))) {s with heap:=Pz s.heap l1 l2}):=
 .of_wp λprog w A R s h=>by
  let(hp,g,d,tk,os):=s;let(oA,fw,h):=h;have Yv:=sub_zip;have hL2:Heap.IsTuple (Shared.heap ⟨hp.push {cls:=.type "tuple_iterator",data:=.fields #[.ref l1,.int 0 0]},g,d,tk,os⟩) l2 ys:=by let(o,e,r):=fw;show{o,aj _ e,r}
  wp_walk using iF oA,iF hL2
  show⟨_,rfl,h⟩
def aaL(h1:v.heap.IsTuple l1 xs)(h2:v.heap.IsTuple l2 ys)
  (q:∀h' n,n=v.heap.objs.size->Zt h' (n+4) (n+2) (n+3) n (n+1) l1 l2 .none 0->(∀c o,v.heap.get? c=some o->h'.get? c=some o)->Q (.ref (n+4)) {v with heap:=h'}):
  fv (f8 P w) A (EQ (.type "zip") [.ref l1,.ref l2]) Q E v:=by
 show callType_new F.called_zip 7 (F.typeCall_zip_2 _ _) (F.newCall_zip_2 _ _) (λobj=>F.args_object_init_3 obj _ _) F.entry_zip_new (acC l1 l2 xs ys) {h1,h2,?_};have e1:(Zr v.heap l1).objs.size=v.heap.objs.size+1:=du ..;have e2:(Zq v.heap l1 l2).objs.size=v.heap.objs.size+2:=by rw[du,e1]
 have e3:(Zp v.heap l1 l2).objs.size=v.heap.objs.size+3:=by rw[du,e2]
 have e4:(Zo v.heap l1 l2).objs.size=v.heap.objs.size+4:=by rw[du,e3]
 have g5:(Pz v.heap l1 l2).get? (Zo v.heap l1 l2).objs.size=some _:=aR _ rfl;have g4:(Pz v.heap l1 l2).get? (Zp v.heap l1 l2).objs.size=some _:=aj _ (aR _ 9);have g3:(Pz v.heap l1 l2).get? (Zq v.heap l1 l2).objs.size=some _:=aj _ (aj _ (aR _ 9));have g2:(Pz v.heap l1 l2).get? (Zr v.heap l1).objs.size=some _:=aj _ (aj _ (aj _ (aR _ 9)));have g1:(Pz v.heap l1 l2).get? v.heap.objs.size=some _:=aj _ (aj _ (aj _ (aj _ (aR _ 9))));rw[e2,e3,e4]at g5;rw[e1,e2]at g3;rw[e3]at g4;rw[e1]at g2;rw[e4];show{⟨_,g5,rfl⟩,q _ _ rfl {g5,g3,⟨_,_,g4⟩,⟨_,g1,rfl,rfl⟩,⟨_,g2,rfl,rfl⟩} λc o x=>aj _ (aj _ (aj _ (aj _ (aj _ x))))}
def WL(K:Frag)(a b:bn):It:=
 {λi H=>∃xs ys x y,ba K H a xs/\ba K H b ys/\xs[i]?=some x/\ys[i]?=some y,
  λi H u H'=>∃p x y,u=.ref p/\H p=none/\H'=upd H p (.tup [x,y])/\(∀xs,ba K H a xs->xs[i]?=some x)/\∀ys,ba K H b ys->ys[i]?=some y,
  λi H=>∃xs,ba K H a xs/\96=i}
def qO(z ti to i1 i2:bn):Aaj:=[z,ti,to,i1,i2]
end
def W3{K:Frag}(a b z ti to i1 i2:bn)(dd:WH z ti to i1 i2 a b):Turn P w K (.Tuple elts kk ps) (WL K a b) (qO z ti to i1 i2) z (λi h=>Zt h z ti to i1 i2 a b .none i) where
 mem:=aw
 obj:=λi h st c hc=>by
  obtain⟨gs,gi,⟨u,v,go⟩,⟨o1,q1,c1,d1⟩,⟨o2,q2,c2,d2⟩⟩:=st;rcases(by simpa[qO]using hc)with rfl|rfl|rfl|rfl|rfl
  ·show{_,gs,λv z=>by cases z}
  ·show{_,gi,λv z=>by cases z}
  ·show{_,go,λv z=>by cases z}
  ·show{_,q1,λv z=>by rw[d1]at z;cases z}
  ·show{_,q2,λv z=>by rw[d2]at z;cases z}
 keep:=λi h h' st k=>by obtain⟨gs,gi,⟨u,v,go⟩,⟨o1,q1,r1⟩,⟨o2,q2,r2⟩⟩:=st;show{k z (by simp[qO]) _ gs,k ti (by simp[qO]) _ gi,{u,v,k to (by simp[qO]) _ go},{o1,k i1 (by simp[qO]) _ q1,r1},{o2,k i2 (by simp[qO]) _ q2,r2}}
 item:=by
  ext X hP hw hK hc i bi s Z H E I hf st hg;subst hP hw hK;let(xs,ys,x,y,ha,hb,hx,hy):=hg;let(ND,Mu,Hm,cb):=I.tuple ha;let(yz,ZU,MI,cy):=I.tuple hb;let(u1,QA,Ul):=Mu.get hx;let(u2,FF,Uk):=ZU.get hy;show aaG dd st (show s.heap.IsTuple a ND.toArray from Hm) (show s.heap.IsTuple b yz.toArray from MI) (by simpa using QA) (by simpa using FF) λh1 g1 pr kp=>{_,9,?_};show wpAny_letOwnedTupleGo_zip g1.self λh2 z2 sb=>?_;have CC:=sb;have lz:=aX st.self;have al:∀c∈qO z ti to i1 i2,c<17:=λc hc=>by
   obtain⟨gs,gi,⟨u,v,go⟩,⟨o1,q1,r1⟩,⟨o2,q2,r2⟩⟩:=id st;rcases(by simpa[qO]using hc)with rfl|rfl|rfl|rfl|rfl
   ·show aX gs
   ·show aX gi
   ·show aX go
   ·show aX q1
   ·show aX q2
  have Vn:∀c o,c∉qO z ti to i1 i2->s.heap.get? c=some o->h2.get? c=some o:=λc o hc e=>
   CC.extBut c o (λt=>hc (by simp[qO,t])) (kp c o (λt=>hc (by simp[qO,t])) (λt=>hc (by simp[qO,t])) (λt=>hc (by simp[qO,t])) (λt=>hc (by simp[qO,t])) e)
  have I2:=I.aaT (t':=s.toks) Vn hf (au _) ({{_,CC.extBut _ _ (cq lz) pr,9,_,9},_,CC.extBut _ _ (cq lz) pr,9}) (.cons Ul (.cons Uk .nil)) 83;obtain⟨⟨n1,n2,n3,n4⟩,n5,n6,n7,n8⟩:=g1.ne;obtain⟨gs,gi,⟨u,v,go⟩,⟨o1,q1,r1⟩,⟨o2,q2,r2⟩⟩:=g1;show{.ref 17,_,I2,9,{_,x,y,9,I.bK.fresh (au _),9,λzs hz=>by rw[I.uJ hz ha];show hx,λzs hz=>by rw[I.uJ hz hb];show hy},{z2,CC.extBut _ _ n1 gi,{u,v,CC.extBut _ _ n2 go},{o1,CC.extBut _ _ n3 q1,r1},{o2,CC.extBut _ _ n4 q2,r2}},λc hc=>?_};rw[aM (aW (al c hc))];show(hf c hc).1
 done:=by ext X hP hw hK hc i bi s Z H E I hf st hg;subst hP hw hK;let(xs,ha,hx):=hg;let(ND,Mu,Hm,cb):=I.tuple ha;have hl:=Mu.length;show aaF (I.ok.hd hc) dd st (show s.heap.IsTuple a ND.toArray from Hm) (by simp;lia) λh1 kp=>{9,I.aaU (λc o hc e=>kp c o (λt=>hc (by simp[qO,t])) (λt=>hc (by simp[qO,t])) (λt=>hc (by simp[qO,t])) (λt=>hc (by simp[qO,t])) e) hf}
 self:=λ_ _ _ _ _ st h=>wq st.self h
inductive aeb(K:Frag)(R:It->Hp->Prop)(vs:Aao)(H1:Hp):Prop
 |mk a b (_:vs=[.ref a,.ref b]) (_:(∃xs,ba K H1 a xs)) (_:(∃ys,ba K H1 b ys)) (_:R (WL K a b) H1)
def afD(K:Frag)(ta:TA):TI:=λZ H R=>ta Z H λvs H1=>aeb K R vs H1
def Qg(hg:Gl X "zip")(hm:X.mg "zip"=none)(ha:PA X [a,b] ta)(hs:i6 [a,b] X.env=[(false,sn a X.env),(false,sn b X.env)]:=by rfl)(kJ:i6 [b] X.env=[(false,sn b X.env)]:=by rfl):
  PI X (.Tuple elts kk ps) (.Call (.Name "zip" p) [a,b] [] pos) (afD X.K ta):=by
 ext bi s Z H R I h;show IF (rV I hg hm boot_zip (eK (tH (ha pos bi s Z H _ I h) λus s1 vs H1 I1 r1 q1=>?_) (by rw[hs,kJ]) (by rw[kJ];rfl)));obtain⟨l1,l2,e,⟨xs,ha⟩,⟨ys,hb⟩,q⟩:=q1;subst e;let(u1,u2,rfl,Ul,Uk):=vals2 r1;cases Ul;cases Uk;let(ND,Mu,Hm,cb):=I1.tuple ha;let(yz,ZU,MI,cy):=I1.tuple hb;have t1:=Hm;have t2:=MI;have b1:l1<75:=by let(o,e,__):=t1;show aX e
 have b2:l2<75:=by let(o,e,__):=t2;show aX e
 show aaL t1 t2 λh' n en g kp=>?_;subst en;show wq g.self ?_;show{_,_,_,_,H1,9,(I1.kept (t':=s1.toks) kp),W3 l1 l2 _ _ _ _ _ {?_,λt=>absurd t (aW (dJ _)),aW (br b1 (eG _ _)),aW (br b2 (eG _ _))},g,λc hc=>?_,q}
 ·exactλt=>absurd t (aW (dJ _))
 ·have KO:c=75+4\/c=75+2\/c=75+3\/c=75\/c=75+1:=by simpa[qO]using hc
  have lc:75<=c:=by rcases KO with e|e|e|e|e<;>rw[e]<;>first|show au _|show eG _ _
  show I1.vi lc (I1.bK.fresh lc)
def Om{K:Frag}{a b:bn}{xs ys:Aao}{g:TG}{tb:TS}{D:Ends}{Z:St}{H:Hp}(Pv:Nat->St->Hp->Prop)(le:96=ys.length)(h0:Pv 0 Z H)(hl:∀i Z H,i<=96->Pv i Z H->ba K H a xs/\ba K H b ys)
  (hs:∀i x y p Z H,xs[i]?=some x->ys[i]?=some y->Pv i Z H->H p=none->g (.ref p) Z (upd H p (.tup [x,y])) λσ2 H2=>tb {D with nx:=Pv (i+1),ct:=Pv (i+1),bk:=D.nx} σ2 H2) (hd:∀Z H,Pv 96 Z H->D.nx Z H):
  ∃W:Nat->Nat->St->Hp->Prop,(∃m,W 0 m Z H)/\∀i m Z H,W i m Z H->
   ((WL K a b).stop i H/\D.nx Z H)\/((WL K a b).go i H/\∃N:St->Hp->Prop,(∀σ' H',N σ' H'->∃m',m'<m/\W (i+1) m' σ' H')/\∀x H',(WL K a b).Cn i H x H'->g x Z H' λσ2 H2=>tb {D with nx:=N,ct:=N,bk:=D.nx} σ2 H2):=by
 show{λi m Z H=>m=96 -i/\i<=96/\Pv i Z H,{96,58,aJ _,h0},?_};ext i m Z H ⟨rfl,hi,p⟩;let(q1,q2):=hl i Z H hi p;by_cases bN:i<96
 ·show .inr {{xs,ys,xs[i],ys[i]'∅,q1,q2,by simp[bN],av _},Pv (i+1),λσ' H' p'=>{96 -(i+1),8,9,bN,p'},λx H' y=>?_};let(r,u,v,rfl,hr,rfl,y1,y2):=y;show hs i u v r Z H (y1 xs q1) (y2 ys q2) p hr
 ·have e:i=96:=by lia
  subst e;show .inl {⟨xs,q1,rfl⟩,hd Z H p}
end L2
namespace Tb
open PySem PySem.SetTable
def S:Nat->Nat
 |0=>0
 |n+1=>5*S n+1
def F:Nat->Nat->Nat
 |0,i=>i
 |n+1,i=>5*F n i+1
theorem OY:∀n i,F n i=i+S n*(4*i+1)
 |0,i=>by simp[F,S]
 |n+1,i=>by change 5*F n i+1=i+(5*S n+1)*(4*i+1);rw[OY n i,uF,lA,lN];lia
def aaE(m:Nat):∀n i,F (m+n) i=F m (F n i):=by
 ext n i
 induction m with
 |zero=>simp[F]
 |succ m ih=>
  rw[show m+1+n=(m+n)+1 by lia];change 5*F (m+n) i+1=5*F m (F n i)+1;rw[ih]
def af0(n:Nat):S (n+n)=2*S n*(2*S n+1):=by have h:=aaE n n 0;rw[OY,OY n (F n 0),OY n 0]at h;simp only[Nat.mul_zero,Nat.zero_add,Nat.mul_one]at h;rw[h];generalize S n=x;rw[lN,lN,show x*(4*x)=2*x*(2*x) by rw[vM,show(4:Nat)=2*2 from rfl,lA,lA,vM x 2 x]];lia
theorem aaD:∀k,∃c,S (2^k)=2^k*(2*c+1)
 |0=>{0,9}
 |k+1=>by
  let(c,hc):=aaD k;show{2*c*S (2^k)+c+S (2^k),?_};rw[show 2^(k+1)=2^k+2^k by rw[oO];lia,af0];generalize hs:S (2^k)=s at hc;have e:2*s*(2*s+1)=2*(2^k*(2*c+1))*(2*s+1):=by rw[<-hc]
  rw[e,<-Nat.two_mul,<-lA,lA (2*2^k)];congr 1;rw[uF,lN,lN,lN];have:2*c*(2*s)=2*(2*c*s):=by rw[vM]
  lia
theorem cover:∀(k i j:Nat),∃n,n<2^k/\F n i % 2^k=j % 2^k
 |0,i,j=>{0,7,by simp[Nat.mod_one]}
 |k+1,i,j=>by
  let(n,hn,e):=cover k i j;rw[oO];by_cases c:F n i/2^k % 2=j/2^k % 2
  ·show{n,8,by rw[zG,zG,e,c]}
  ·let(z,hz):=aaD k;show{2^k+n,8,?_};have e2:F (2^k+n) i=F n i+2^k*(2*(z*(4*F n i+1)+2*F n i)+1):=by rw[aaE,OY (2^k),hz,lA];congr 2;rw[uF,Nat.one_mul,lA];lia
   rw[e2,zG,zG,Nat.add_mul_mod_self_left,Nat.add_mul_div_left _ _ (Nat.two_pow_pos k),e];congr 2;lia
def FW(mask:Nat)(p:Probe):Probe:=
 if p.more>0 then{p with j:=p.j+1,more:=p.more -1}else
 {p with j:=(leap mask p.i p.perturb).1,more:=runEnd mask (leap mask p.i p.perturb).1 -(leap mask p.i p.perturb).1,i:=(leap mask p.i p.perturb).1,perturb:=(leap mask p.i p.perturb).2}
abbrev PR(mask i q:Nat):Probe:={j:=i,more:=runEnd mask i -i,i:=i,perturb:=q,dummy:=none}
def pr(mask:Nat)(h:Int):Nat->Probe
 |0=>PR mask (bits h %(mask+1)) (bits h)
 |d+1=>FW mask (pr mask h d)
def Xe(t:SetTable)(h:Int):t.probeStart h=pr t.mask h 0:=9
def ps(mask:Nat)(h:Int)(d:Nat):Nat:=(pr mask h d).j
def lp(mask:Nat)(h:Int):Nat->Nat×Nat
 |0=>(bits h %(mask+1),bits h)
 |n+1=>leap mask (lp mask h n).1 (lp mask h n).2
def run(mask i:Nat):Nat:=runEnd mask i -i
def Tn(mask:Nat)(h:Int):Nat->Nat
 |0=>0
 |n+1=>Tn mask h n+run mask (lp mask h n).1+1
def ade(mask i:Nat):run mask i<=09:=by unfold run runEnd;split<;>lia
theorem aaC(mask:Nat)(h:Int):∀n,Tn mask h n<=10*n
 |0=>au _
 |n+1=>by have:=aaC mask h n;have:=ade mask (lp mask h n).1;change Tn mask h n+run mask (lp mask h n).1+1<=_;lia
def abl(mask:Nat)(h:Int):∀n,pr mask h (Tn mask h n)=PR mask (lp mask h n).1 (lp mask h n).2/\∀e,e<=run mask (lp mask h n).1->pr mask h (Tn mask h n+e)={j:=(lp mask h n).1+e,more:=run mask (lp mask h n).1 -e,i:=(lp mask h n).1,perturb:=(lp mask h n).2,dummy:=none}:=by
 have Ui:∀n,pr mask h (Tn mask h n)=PR mask (lp mask h n).1 (lp mask h n).2->∀e,e<=run mask (lp mask h n).1->pr mask h (Tn mask h n+e)={j:=(lp mask h n).1+e,more:=run mask (lp mask h n).1 -e,i:=(lp mask h n).1,perturb:=(lp mask h n).2,dummy:=none}:=by
  ext n h0 e
  induction e with
  |zero=>ext _;rw[xJ,h0];rfl
  |succ e ih=>
   ext he;change FW mask (pr mask h (Tn mask h n+e))=_;rw[ih ∅];unfold FW;rw[aL (show run mask (lp mask h n).1 -e>0 by lia)];congr 1
 ext n
 induction n with
 |zero=>show{9,Ui 0 rfl}
 |succ n ih=>
  have h1:pr mask h (Tn mask h (n+1))=PR mask (lp mask h (n+1)).1 (lp mask h (n+1)).2:=by change FW mask (pr mask h (Tn mask h n+run mask (lp mask h n).1))=_;rw[ih.2 _ (au _)];unfold FW;rw[aI 58];rfl
  show{h1,Ui _ h1}
def Hl{mask:Nat}(he:e<=run mask (lp mask h n).1):ps mask h (Tn mask h n+e)=(lp mask h n).1+e:=by unfold ps;rw[(abl mask h n).2 e he]
theorem afz(mask:Nat)(h:Int):∀n,(lp mask h n).1<mask+1
 |0=>mZ _ (xF _)
 |n+1=>mZ _ (xF _)
theorem adX(mask:Nat)(h:Int):∀n,(lp mask h n).2=bits h/32^n
 |0=>by simp[lp]
 |n+1=>by change(lp mask h n).2/32=_;rw[adX mask h n,Nat.div_div_eq_div_mul,oO]
def acr(h:Int):bits h<2^64:=by unfold bits;lia
theorem Qr{mask k:Nat}(hk:mask+1=2^k)(h:Int):∀n,(lp mask h (13+n)).1=F n (lp mask h 13).1 % 2^k
 |0=>by have:=afz mask h 13;change(lp mask h 13).1=(lp mask h 13).1 % 2^k;rw[Nat.mod_eq_of_lt ∅]
 |n+1=>by
  change((lp mask h (13+n)).1*5+1+(lp mask h (13+n)).2/32) %(mask+1)=(5*F n (lp mask h 13).1+1) % 2^k;have q0:(lp mask h (13+n)).2/32=0:=by rw[adX];have h2:32^13<=32^(13+n):=BE 7 ∅;rw[Nat.div_eq_of_lt (show bits h<32^(13+n)from br (dP (acr h) 7) h2)]
  rw[q0,Qr hk h n,hk,xJ,Nat.add_mod,Nat.mul_mod,Nat.mod_mod,<-Nat.mul_mod,<-Nat.add_mod,Nat.mul_comm]
def hits{mask k:Nat}(hk:mask+1=2^k)(h:Int)(hj:j<=mask):∃n,n<=13+mask/\(lp mask h n).1=j/\ps mask h (Tn mask h n)=j:=by let(n,hn,e):=cover k (lp mask h 13).1 j;have e2:=Qr hk h n;rw[e,Nat.mod_eq_of_lt ∅]at e2;show{13+n,8,e2,?_};have:=Hl (mask:=mask) (h:=h) (n:=13+n) (aJ _);rw[xJ,xJ]at this;rw[this,e2]
def RJ{mask:Nat}:ps mask h d<=mask:=by
 have key:∀d,(pr mask h d).j+(pr mask h d).more<=mask:=by
  have base:∀i q,i<mask+1->(PR mask i q).j+(PR mask i q).more<=mask:=λi q hi=>by change i+(runEnd mask i -i)<=mask;unfold runEnd;split<;>lia
  ext d
  induction d with
  |zero=>show base _ _ (mZ _ (xF _))
  |succ d ih=>
   change(FW mask (pr mask h d)).j+(FW mask (pr mask h d)).more<=mask;unfold FW;split
   ·change(pr mask h d).j+1+((pr mask h d).more -1)<=mask;lia
   ·show base _ 0 (mZ _ (xF _))
 have:=key d;unfold ps;lia
def least{p:Nat->Prop}:∀{n},p n->∃m,m<=n/\p m/\∀e,e<m->¬p e:=by
 ext n
 induction n using Nat.strongRecOn with
 |ind n ih=>
  ext hn;by_cases c:∃e,e<n/\p e
  ·let(e,he,pe):=c;let(m,h1,h2,h3):=ih e he pe;show{m,8,h2,h3}
  ·show{n,au _,hn,λe he pe=>c ⟨e,he,pe⟩}
def oH(xs:Array Nat):Prop:=∀i k,i<k->k<xs.size->xs.getD i 0<xs.getD k 0
def YM{xs:Array Nat}(h:i<xs.size):xs.getD i a=xs.getD i b:=by simp[Array.getD,h]
def getD_some{xs:Array Nat}:xs[i]?=some j↔i<xs.size/\xs.getD i 0=j:=by
 constructor
 ·ext e;let(h,e):=iz.mp e;show{h,by simp[Array.getD,h,e]}
 ·ext⟨h,e⟩;simpa[Array.getD,h]using e
theorem GI(hr:oH xs)(j:Nat):∀(f lo hi:Nat),lo<=hi->hi<=xs.size->hi -lo<=f->(∀i,i<lo->xs.getD i 0<j)->(∀i,hi<=i->i<xs.size->j<=xs.getD i 0)->
  below.go xs j f lo hi<=xs.size/\(∀i,i<below.go xs j f lo hi->xs.getD i 0<j)/\∀i,below.go xs j f lo hi<=i->i<xs.size->j<=xs.getD i 0
 |0,lo,hi,h1,h2,h3,h4,h5=>by change lo<=xs.size/\(∀i,i<lo->xs.getD i 0<j)/\∀i,lo<=i->i<xs.size->j<=xs.getD i 0;show{8,h4,λi a b=>h5 i ∅ b}
 |f+1,lo,hi,h1,h2,h3,h4,h5=>by
  unfold below.go;by_cases c:lo<hi
  ·simp only[aL c];have hm:(lo+hi)/2<xs.size:=by lia
   rw[YM (b:=0) hm];by_cases d:xs.getD ((lo+hi)/2) 0<j
   ·simp only[aL d];show GI hr j f _ _ ∅ h2 ∅ (λi hi'=>?_) h5;by_cases e:i=(lo+hi)/2
    ·rw[e];show d
    ·show dP (hr i _ ∅ hm) d
   ·simp only[aI d];show GI hr j f _ _ ∅ ∅ ∅ h4 λi a b=>?_;by_cases e:i=(lo+hi)/2
    ·rw[e];lia
    ·have:=hr ((lo+hi)/2) i ∅ b;lia
  ·simp only[aI c];show{8,h4,λi a b=>h5 i ∅ b}
def v8(hr:oH xs)(j:Nat):below xs j<=xs.size/\(∀i,i<below xs j->xs.getD i 0<j)/\∀i,below xs j<=i->i<xs.size->j<=xs.getD i 0:=
 GI hr j xs.size 0 xs.size (aJ _) (au _) ∅ (λi h=>absurd h (eC _)) λi a b=>by lia
def below_at(hr:oH xs)(e:xs[i]?=some j):below xs j=i:=by
 let(h1,h2,h3):=v8 hr j;let(hi,e):=getD_some.mp e;rcases lX (below xs j) i with c|c|c
 ·have:=h3 _ (au _) ∅;have:=hr _ _ c hi;lia
 ·show c
 ·have:=h2 i c;lia
def Kc{t:SetTable}(hr:oH t.place)(e:t.place[i]?=some j):t.slot j=.live i:=by unfold SetTable.slot;rw[below_at hr e];simp[e]
def T8{t:SetTable}(hd:t.dummies=#[])(e:∀i:Nat,t.place[i]?≠some j):t.slot j=.empty:=by unfold SetTable.slot;rw[aI (λh=>e _ (dX h)),hd];rw[aI (by simp[has])]
def SE{mask:Nat}(hr:oH xs)(hs:xs.size<=mask):∃j:Nat,j<=mask/\∀i:Nat,xs[i]?≠some j:=by
 by_cases c:∃j:Nat,j<=mask/\∀i:Nat,xs[i]?≠some j
 ·show c
 ·exfalso;have all:∀j:Nat,j<=mask->∃i:Nat,xs[i]?=some j:=λj hj=>wa λn=>c {j,hj,λi e=>n ⟨i,e⟩};have key:∀m:Nat,m<=mask->xs[m]?=some m:=by
   ext m
   induction m using Nat.strongRecOn with
   |ind m ih=>
    ext hm;let(i,e):=all m hm;rcases lX i m with q|q|q
    ·have:=ih i q ∅;rw[this]at e;cases e;lia
    ·rw[<-q];rw[q]at e⊢;show e
    ·let(hi,ei):=getD_some.mp e;have h1:=hr m i q hi;have h2:m<=xs.getD m 0:=by
      cases m with
      |zero=>show aJ _
      |succ m=>
       let(__,e3):=getD_some.mp (ih m ∅ ∅);have:=hr m (m+1) ∅ ∅;lia
     lia
  let(h,__):=getD_some.mp (key mask (au _));lia
structure Tab(t:SetTable)(hs:List Int):Prop where
 pow:∃k,t.mask+1=2^k
 big:07<=t.mask
 Wo:t.dummies=#[]
 rise:oH t.place
 sz:t.place.size=hs.length
 kL:hs.length<=t.mask
 le:∀i j:Nat,t.place[i]?=some j->j<=t.mask
 reach:∀(i:Nat)(h:Int),hs[i]?=some h->∃d,t.place[i]?=some (ps t.mask h d)/\∀e,e<d->∃i':Nat,t.place[i']?=some (ps t.mask h e)
def Tab.fits(T:Tab t hs):t.fits hs.length=true:=by unfold SetTable.fits SetTable.fill;have h1:=T.sz;have h2:=T.kL;rw[T.Wo,h1];simp[h2]
def Tab.way(T:Tab t hs):t.gaveWay=false:=by
 let(k,hk):=T.pow;have:=T.big;unfold SetTable.gaveWay;cases k with
 |zero=>rw[Nat.pow_zero]at hk;lia
 |succ k=>rw[oO]at hk;simp;lia
def Tab.fresh(finger moves:Nat)(led:Bool):Tab (.fresh finger moves led) [] where
 pow:={3,9}
 big:=au 07
 Wo:=9
 rise:=λi k _ h=>absurd h (eC _)
 sz:=9
 kL:=aJ _
 le:=λi j e=>by simp[SetTable.fresh]at e
 reach:=λi h e=>by simp at e
structure Tj(t:SetTable)(h:Int)(D:Nat):Prop where
 lt:D<10*turns t.mask
 no:∀i:Nat,t.place[i]?≠some 76
 ahead:∀e,e<D->∃i:Nat,t.place[i]?=some (ps t.mask h e)
def Tab.free(T:Tab t hs)(h:Int):∃D,Tj t h D:=by let(k,hk):=T.pow;let(j,hj,hn):=SE T.rise (show t.place.size<=t.mask by rw[T.sz];show T.kL);let(n,VM,__,e):=hits hk h hj;let(D,h1,h2,h3):=least (p:=λd=>∀i:Nat,t.place[i]?≠some (ps t.mask h d)) (n:=Tn t.mask h n) (by rw[e];show hn);have:=aaC t.mask h n;show{D,by unfold turns;lia,h2,λe he=>wa λq=>h3 e he λi z=>q ⟨i,z⟩}
theorem MH(mask:Nat)(h:Int):∀d,(pr mask h d).dummy=none
 |0=>rfl
 |d+1=>by change(FW mask (pr mask h d)).dummy=none;unfold FW;split<;>show MH mask h d
def Tab.live(T:Tab t hs){i j:Nat}(e:t.place[i]?=some j):∃h,hs[i]?=some h:=by let(hi,__):=getD_some.mp e;rw[T.sz]at hi;show{_,av hi}
theorem MG(T:Tab t hs)(fr:Tj t h D)(ha:∀(i:Nat)(g:Int),hs[i]?=some g->hashAt i=g):∀(f d:Nat),d<=D->D -d<f->
  (probe.go t hashAt h f (pr t.mask h d)=some (.empty 76 none)/\∀e,d<=e->e<D->∀i:Nat,t.place[i]?=some (ps t.mask h e)->hs[i]?≠some h)\/
  ∃e i,d<=e/\e<D/\t.place[i]?=some (ps t.mask h e)/\hs[i]?=some h/\probe.go t hashAt h f (pr t.mask h d)=some (.candidate (ps t.mask h e) i (pr t.mask h (e+1)))/\∀e',d<=e'->e'<e->∀i':Nat,t.place[i']?=some (ps t.mask h e')->hs[i']?≠some h
 |0,d,_,hf=>absurd hf (eC _)
 |f+1,d,hd,hf=>by
  unfold probe.go;by_cases c:d=D
  ·subst c;have e:t.slot (pr t.mask h d).j=.empty:=T8 T.Wo fr.no;rw[e];show .inl {?_,λe a b=>by lia};change some (Met.empty (ps t.mask h d) (pr t.mask h d).dummy)=_;rw[MH]
  ·let(i,hi):=fr.ahead d ∅;have e:t.slot (pr t.mask h d).j=.live i:=Kc T.rise hi;rw[e];let(g,hg):=T.live hi;have hu:∀i':Nat,t.place[i']?=some (ps t.mask h d)->i'=i:=λi' q=>by rw[<-below_at T.rise q,<-below_at T.rise hi]
   by_cases c2:hashAt i=h
   ·show .inr {d,i,au _,8,hi,?_,?_,λe' a b=>by lia}
    ·rw[ha i g hg]at c2;rw[hg,c2]
    ·change(if(hashAt i==h)=true then some (Met.candidate (ps t.mask h d) i (t.advance (pr t.mask h d)))else probe.go t hashAt h f (t.advance (pr t.mask h d)))=_;rw[aL (c2▸BEq.rfl)];rfl
   ·have no:∀i':Nat,t.place[i']?=some (ps t.mask h d)->hs[i']?≠some h:=λi' q z=>by rw[hu i' q]at z;show c2 (ha i h z)
    have eq:(if(hashAt i==h)=true then some (Met.candidate (ps t.mask h d) i (t.advance (pr t.mask h d)))else probe.go t hashAt h f (t.advance (pr t.mask h d)))=probe.go t hashAt h f (pr t.mask h (d+1)):=by rw[aI (by simpa using c2)];rfl
    rcases(MG T fr ha f (d+1) ∅ ∅)with⟨h1,h2⟩|⟨e,i2,h1,h2,h3,h4,h5,h6⟩
    ·show .inl {eq.trans h1,λe a b i' q=>?_};by_cases z:e=d
     ·rw[z]at q;show no i' q
     ·show h2 e ∅ b i' q
    ·show .inr {e,i2,8,h2,h3,h4,eq.trans h5,λe' a b i' q=>?_};by_cases z:e'=d
     ·rw[z]at q;show no i' q
     ·show h6 e' ∅ b i' q
def jM(l:List α)(p:Nat)(x:α):List α:=l.take p++x::l.drop p
def NG(l:List α)(x:α)(hp:p<=l.length)(i:Nat):(jM l p x)[i]?=if i<p then l[i]? else if i=p then some x else l[i -1]?:=by
 unfold jM;by_cases c:i<p
 ·rw[aL c,gH (by rw[aV];lia),xN c]
 ·rw[aI c,eW (by rw[aV];lia),aV,nX hp];by_cases c2:i=p
  ·rw[aL c2,c2,xH];rfl
  ·rw[aI c2,show i -p=(i -p -1)+1 by lia,List.getElem?_cons_succ,Ee];congr 1;lia
def zo(l:List α)(x:α)(hp:p<=l.length):(jM l p x).length=l.length+1:=by unfold jM;rw[aC,bx,aV,c9];lia
def Vy(l:List α)(p:Nat)(x:α):(jM l p x).Perm (x::l):=by show List.perm_middle.trans ?_;rw[jX]
def NF(f:α->β)(l:List α)(p:Nat)(x:α):(jM l p x).map f=jM (l.map f) p (f x):=by unfold jM;simp
def rX(xs:Array α)(p:Nat)(x:α):(insertAt xs p x).toList=jM xs.toList p x:=by unfold insertAt jM;simp[dj]
def oH.of_get(h:∀i k a b:Nat,i<k->xs[i]?=some a->xs[k]?=some b->a<b):oH xs:=λi k NZ hk=>
 h i k _ _ NZ (getD_some.mpr {8,9}) (getD_some.mpr ⟨hk,rfl⟩)
def oH.get(h:oH xs){i k a b:Nat}(NZ:i<k)(ha:xs[i]?=some a)(hb:xs[k]?=some b):a<b:=by let(h1,e1):=getD_some.mp ha;let(h2,e2):=getD_some.mp hb;have:=h i k NZ h2;lia
def CO{t:SetTable}(hr:oH t.place)(j i:Nat):(t.put j).1.place[i]?=if i<below t.place j then t.place[i]? else if i=below t.place j then some j else t.place[i -1]?:=by change(insertAt t.place (below t.place j) j)[i]?=_;rw[<-df,rX,NG _ _ (by rw[bB];show(v8 hr j).1)];simp only[df]
def Ja{t:SetTable}(hr:oH t.place){i v:Nat}(e:t.place[i]?=some v):∃i':Nat,(t.put j).1.place[i']?=some v:=by
 by_cases c:i<below t.place j
 ·show{i,by rw[CO hr,aL c,e]}
 ·show{i+1,by rw[CO hr,aI ∅,aI ∅,Nat.add_sub_cancel,e]}
def Tab.put(T:Tab t hs)(fr:Tj t h D)(room:hs.length+1<=t.mask):Tab (t.put 76).1 (jM hs (t.put 76).2 h):=by
 have hb:=v8 T.rise 76;have hp:(t.put 76).2=below t.place 76:=9;have jB:below t.place 76<=hs.length:=by rw[<-T.sz];show hb.1
 rw[hp];have pl:=λi=>CO T.rise 76 i;have hl:=NG hs h jB;have at_:(t.put 76).1.place[below t.place 76]?=some 76:=by rw[pl,aI (c7 _),aL rfl]
 have lo:∀i a:Nat,i<below t.place 76->t.place[i]?=some a->a<ps t.mask h D:=λi a c e=>by let(__,e):=getD_some.mp e;have:=hb.2.1 i c;lia
 have hi:∀i a:Nat,below t.place 76<=i->t.place[i]?=some a->ps t.mask h D<a:=λi a c e=>by let(l,e'):=getD_some.mp e;have:=hb.2.2 i c l;have ne:a≠ps t.mask h D:=λz=>fr.no i (by rw[e,z]);lia
 show{T.pow,T.big,?_,?_,?_,?_,λi j e=>?_,λi g e=>?_}
 ·change(if has t.dummies 76=true then _ else t.dummies)=_;rw[T.Wo];simp[has]
 ·show oH.of_get λi k a b NZ ha js=>?_;rw[pl]at ha js;by_cases c1:i<below t.place 76
  ·rw[aL c1]at ha;by_cases c2:k<below t.place 76
   ·rw[aL c2]at js;show T.rise.get NZ ha js
   ·rw[aI c2]at js;by_cases c3:k=below t.place 76
    ·rw[aL c3]at js;cases js;show lo i a c1 ha
    ·rw[aI c3]at js;show dP (lo i a c1 ha) (hi _ b ∅ js)
  ·rw[aI c1]at ha;rw[aI ∅,aI ∅]at js;by_cases c3:i=below t.place 76
   ·rw[aL c3]at ha;cases ha;show hi _ b ∅ js
   ·rw[aI c3]at ha;show T.rise.get ∅ ha js
 ·rw[zo _ _ jB,<-T.sz,<-bB];change(insertAt t.place (below t.place 76) 76).toList.length=_;rw[rX,zo _ _ (by rw[bB];show hb.1),bB]
 ·rw[zo _ _ jB];show room
 ·rw[pl]at e;by_cases c1:i<below t.place 76
  ·rw[aL c1]at e;show T.le i j e
  ·rw[aI c1]at e;by_cases c3:i=below t.place 76
   ·rw[aL c3]at e;cases e;show RJ
   ·rw[aI c3]at e;show T.le _ j e
 ·have mk:(t.put 76).1.mask=t.mask:=9;rw[mk];rw[hl]at e;by_cases c1:i<below t.place 76
  ·rw[aL c1]at e;let(d,h1,h2):=T.reach i g e;show{d,by rw[pl,aL c1];show h1,λx hx=>let⟨_,q⟩:=h2 x hx;Ja T.rise q}
  ·rw[aI c1]at e;by_cases c3:i=below t.place 76
   ·rw[aL c3]at e;cases e;show{D,by rw[c3];show at_,λx hx=>let⟨_,q⟩:=fr.ahead x hx;Ja T.rise q}
   ·rw[aI c3]at e;let(d,h1,h2):=T.reach _ g e;show{d,by rw[pl,aI c1,aI c3];show h1,λx hx=>let⟨_,q⟩:=h2 x hx;Ja T.rise q}
def Tab.of_eq(T:Tab t hs)(h1:t'.mask=t.mask)(h2:t'.place=t.place)(h3:t'.dummies=t.dummies):Tab t' hs:=by let(a1,a2,a3,a4,a5,a6,a7,a8):=T;rw[<-h1]at a1 a2 a6 a7 a8;rw[<-h2]at a4 a5 a7 a8;rw[<-h3]at a3;show⟨a1,a2,a3,a4,a5,a6,a7,a8⟩
structure Own(mask:Nat)(ow:Array (Option Nat))(hs:List Int):Prop where
 sz:ow.size=mask+1
 lt:∀j i:Nat,ow[j]?=some (some i)->i<hs.length
 inj:∀j j' i:Nat,ow[j]?=some (some i)->ow[j']?=some (some i)->j=j'
 at_:∀(i:Nat)(h:Int),hs[i]?=some h->∃d,ow[ps mask h d]?=some (some i)/\∀e,e<d->∃i':Nat,ow[ps mask h e]?=some (some i')
def Own.empty{mask:Nat}(O:Own mask ow hs)(kL:hs.length<=mask):∃j:Nat,j<=mask/\ow[j]?=some none:=by
 by_cases c:∃j:Nat,j<=mask/\ow[j]?=some none
 ·show c
 ·exfalso;have all:∀j:Nat,j<=mask->ow[j]?=some (some ((ow.getD j none).getD 0)):=λj hj=>by
   have hl:j<ow.size:=by rw[O.sz];lia
   have e:ow[j]?=some (ow.getD j none):=by rw[cE hl];simp[Array.getD,hl]
   cases q:ow.getD j none with
   |none=>show(c {j,hj,by rw[e,q]}).elim
   |some i=>rw[e,q];rfl
  have nd:((List.range (mask+1)).map λj=>(ow.getD j none).getD 0).Nodup:=by
   show kg.mpr (List.Pairwise.imp_of_mem (λ{a b} ha hb ne e=>ne (O.inj a b _ (all a ?_) (e▸all b ?_))) List.nodup_range)
   ·have:=cw.mp ha;lia
   ·have:=cw.mp hb;lia
  have sub:((List.range (mask+1)).map λj=>(ow.getD j none).getD 0)⊆List.range hs.length:=λx hx=>by let(j,hj,rfl):=az.mp hx;have:=cw.mp hj;show cw.mpr (O.lt j _ (all j ∅))
  have:=List.Nodup.length_le_of_subset nd sub;rw[ah,eS,eS]at this;lia
def acy(mask:Nat)(h:Int)(hmn:m<=n):Tn mask h m<=Tn mask h n:=by
 induction n with
 |zero=>rw[Nat.le_zero.mp hmn];show au _
 |succ n ih=>
  by_cases c:m=n+1
  ·rw[c];show au _
  ·have:=ih ∅;change _<=Tn mask h n+run mask (lp mask h n).1+1;lia
def abb(mask i:Nat):runEnd mask i+1 -i=run mask i+1:=by unfold run runEnd;split<;>lia
theorem QV{mask:Nat}(hD:ow[ps mask h D]?=some none)(hb:∀e,e<D->∃i':Nat,ow[ps mask h e]?=some (some i'))(hn0:D<=Tn mask h n0):∀(f n:Nat),Tn mask h n<=D->n0 -n<f->layClean.free mask ow f (lp mask h n).1 (lp mask h n).2=some (ps mask h D)
 |0,n,_,hf=>absurd hf (eC _)
 |f+1,n,hn,hf=>by
  have own:∀e,e<=run mask (lp mask h n).1->Tn mask h n+e<D->(ow.getD ((lp mask h n).1+e) (some 0)).isNone=false:=λe he bN=>by let(i',q):=hb _ bN;rw[Hl he]at q;let(l,q):=iz.mp q;simp[Array.getD,l,q]
  unfold layClean.free;rw[abb];by_cases c:D<=Tn mask h n+run mask (lp mask h n).1
  ·have e1:(List.range (run mask (lp mask h n).1+1)).find? (λk=>(ow.getD ((lp mask h n).1+k) (some 0)).isNone)=some (D -Tn mask h n):=by
    show List.find?_range_eq_some.mpr {?_,cw.mpr ∅,λj hj=>?_}
    ·have q:=hD;rw[show D=Tn mask h n+(D -Tn mask h n) by lia,Hl ∅]at q;let(l,q):=iz.mp q;simp[Array.getD,l,q]
    ·rw[own j ∅ ∅];rfl
   simp only[e1];rw[<-Hl ∅,show Tn mask h n+(D -Tn mask h n)=D by lia]
  ·have e1:(List.range (run mask (lp mask h n).1+1)).find? (λk=>(ow.getD ((lp mask h n).1+k) (some 0)).isNone)=none:=by show List.find?_range_eq_none.mpr λj hj=>?_;rw[own j ∅ ∅];rfl
   simp only[e1];have lt:n<n0:=by
    rcases Nat.lt_or_ge n n0 with q|q
    ·show q
    ·have:=acy mask h q;lia
   show QV hD hb hn0 f (n+1) (by change Tn mask h n+run mask (lp mask h n).1+1<=D;lia) ∅
abbrev Ag(mask:Nat)(acc:Option (Array (Option Nat)×Nat))(h:Int):Option (Array (Option Nat)×Nat):=do
  let(owner,k)<-acc
  let j<-layClean.free mask owner (turns mask) (bits h %(mask+1)) (bits h)
  pure (owner.setIfInBounds j (some k),k+1)
def Pl(mask:Nat)(hashes:Array Int):layClean mask hashes=(hashes.toList.foldl (Ag mask) (some (Array.replicate (mask+1) none,0))).map (·.1):=by rw[Array.foldl_toList];rfl
def Own.step{mask k:Nat}(hk:mask+1=2^k)(O:Own mask ow hs)(kL:hs.length<mask)(h:Int):∃UJ,Ag mask (some (ow,hs.length)) h=some (UJ,hs.length+1)/\Own mask UJ (hs++[h]):=by
 let(j,hj,ej):=O.empty (bE kL);let(n0,hn0,__,e0):=hits hk h hj;let(D,h1,h2,h3):=least (p:=λd=>ow[ps mask h d]?=some none) (e0▸ej);have hb:∀e,e<D->∃i':Nat,ow[ps mask h e]?=some (some i'):=λe he=>by
  have l:ps mask h e<ow.size:=by rw[O.sz];have:=RJ (mask:=mask) (h:=h) (d:=e);lia
  cases q:ow[ps mask h e]with
  |none=>show(h3 e he (by rw[cE l,q])).elim
  |some i=>show{i,by rw[cE l,q]}
 have ef':layClean.free mask ow (turns mask) (bits h %(mask+1)) (bits h)=some (ps mask h D):=(QV h2 hb h1 (turns mask) 0 (aJ _) (by unfold turns;lia));show{ow.setIfInBounds (ps mask h D) (some hs.length),by simp[Ag,ef'],?_};have get:∀x:Nat,(ow.setIfInBounds (ps mask h D) (some hs.length))[x]?=if x=ps mask h D then some (some hs.length)else ow[x]?:=λx=>by
  rw[Array.getElem?_setIfInBounds];by_cases c:x=ps mask h D
  ·rw[aL c,aL c.symm,aL (by rw[O.sz];have:=RJ (mask:=mask) (h:=h) (d:=D);lia)]
  ·rw[aI c,aI (cQ c)]
 have keep:∀x i:Nat,ow[x]?=some (some i)->(ow.setIfInBounds (ps mask h D) (some hs.length))[x]?=some (some i):=λx i e=>by rw[get,aI λz=>by rw[z,h2]at e;cases e];show e
 show{by simp[O.sz],λx i e=>?_,λx y i ex ey=>?_,λi g e=>?_}
 ·rw[get]at e;rw[aC,dC];by_cases c:x=ps mask h D
  ·rw[aL c]at e;cases e;lia
  ·rw[aI c]at e;have:=O.lt x i e;lia
 ·rw[get]at ex ey;by_cases c:x=ps mask h D
  ·rw[aL c]at ex;cases ex;by_cases c2:y=ps mask h D
   ·rw[c,c2]
   ·rw[aI c2]at ey;show absurd (O.lt y _ ey) (c7 _)
  ·rw[aI c]at ex;by_cases c2:y=ps mask h D
   ·rw[aL c2]at ey;cases ey;show absurd (O.lt x _ ex) (c7 _)
   ·rw[aI c2]at ey;show O.inj x y i ex ey
 ·by_cases c:i<hs.length
  ·rw[gH c]at e;let(d,q1,q2):=O.at_ i g e;show{d,keep _ _ q1,λx hx=>let⟨i',q⟩:=q2 x hx;{i',keep _ _ q}}
  ·rw[eW ∅]at e;have ei:i=hs.length:=by
    rcases lX i hs.length with q|q|q
    ·lia
    ·show q
    ·rw[mG (by rw[dC];lia)]at e;cases e
   subst ei;rw[xH]at e;cases e;show{D,by rw[get,aL rfl],λx hx=>let⟨i',q⟩:=hb x hx;{i',keep _ _ q}}
theorem MU{mask k:Nat}(hk:mask+1=2^k):∀(rest:List Int)(ow:Array (Option Nat))(hs:List Int),Own mask ow hs->(hs++rest).length<=mask->∃UJ,rest.foldl (Ag mask) (some (ow,hs.length))=some (UJ,(hs++rest).length)/\Own mask UJ (hs++rest)
 |[],ow,hs,O,_=>{ow,58,by simpa using O}
 |h::rest,ow,hs,O,kL=>by rw[aC,bx]at kL;let(ow1,e1,O1):=O.step hk ∅ h;let(ow2,e2,O2):=MU hk rest ow1 (hs++[h]) O1 (by rw[aC,aC,dC];lia);rw[dN]at e2 O2;show{ow2,?_,O2};rw[ig,e1];rw[aC,dC]at e2;show e2
def abS{mask k:Nat}(hk:mask+1=2^k)(big:07<=mask)(finger moves:Nat)(led plain:Bool)(hs:List Int)(kL:hs.length<=mask):
  ∃t order,laid mask finger moves led plain hs.toArray=some (t,order)/\t.mask=mask/\t.finger=finger/\t.led=led/\t.moves=moves/\t.plain=plain/\order.toList.Perm (List.range hs.length)/\Tab t (order.toList.map λi=>hs.getD i 0):=by
 have O0:Own mask (Array.replicate (mask+1) none) []:={58,λj i e=>by simp[xQ]at e,λj j' i e=>by simp[xQ]at e,λi h e=>by simp at e};let(ow,e,O):=MU hk hs _ _ O0 (by simpa using kL);rw[jY]at e O;have el:layClean mask hs.toArray=some ow:=by rw[Pl];have e':(hs.toArray.toList.foldl (Ag mask) (some (Array.replicate (mask+1) none,0)))=some (ow,hs.length):=e;rw[e'];rfl
 obtain⟨live,VQ⟩:∃live,live=(List.range (mask+1)).filterMap λj=>(ow.getD j none).map (j,·):=⟨_,rfl⟩;have mem:∀p:Nat×Nat,p∈live↔ow[p.1]?=some (some p.2):=λp=>by
  rw[VQ,lF];constructor
  ·ext⟨j,hj,q⟩;have lj:j<ow.size:=O.sz▸cw.mp hj;let(i,q1,q2):=bA.mp q;subst q2;rw[cE lj];have q3:ow[j]=some i:=by simpa[Array.getD,lj]using q1
   rw[q3]
  ·ext q;let(l,q'):=iz.mp q;show{p.1,cw.mpr (O.sz▸l),?_};have q3:ow.getD p.1 none=some p.2:=by simp[Array.getD,l,q']
   rw[q3];rfl
 have sub:∀(j:Nat)(b:Nat×Nat),(ow.getD j none).map (j,·)=some b->b.1=j/\ow[j]?=some (some b.2):=λj b q=>by
  let(i,q1,q2):=bA.mp q;subst q2;show{9,?_};by_cases l:j<ow.size
  ·rw[cE l];have q3:ow[j]=some i:=by simpa[Array.getD,l]using q1
   rw[q3]
  ·simp[Array.getD,l]at q1
 have p1:live.Pairwise (λa b=>a.1<b.1):=by rw[VQ];show ye _ (λa a' bN b hb b' js=>?_) zJ;rw[(sub a b hb).1,(sub a' b' js).1];show bN
 have p2:live.Pairwise (λa b=>a.2≠b.2):=by rw[VQ];show ye _ (λa a' bN b hb b' js ne=>?_) zJ;have q2:=(sub a' b' js).2;rw[<-ne]at q2;have:=O.inj a a' _ ((sub a b hb).2) q2;lia
 have perm:(live.map (·.2)).Perm (List.range hs.length):=by
  show(nF (kg.mpr p2) List.nodup_range).mpr λi=>?_;rw[cw,az];constructor
  ·ext⟨p,hp,rfl⟩;show O.lt _ _ ((mem p).mp hp)
  ·ext hi;let(d,q,__):=O.at_ i _ (av hi);show{(_,i),(mem (_,i)).mpr q,9}
 have ll:live.length=hs.length:=by have:=perm.length_eq;rwa [ah,eS]at this
 have pl:∀m:Nat,((live.map (·.1)).toArray)[m]?=live[m]?.map (·.1):=λm=>by simp
 show⟨{mask,place:=(live.map (·.1)).toArray,dummies:=#[],finger,led,moves,plain},(live.map (·.2)).toArray,?_,rfl,rfl,rfl,rfl,rfl,by simpa using perm,?_⟩
 ·unfold laid;rw[el,VQ];rfl
 ·show{⟨k,hk⟩,big,9,?_,?_,?_,λi j q=>?_,λm h q=>?_}
  ·show oH.of_get λi k a b NZ ha hb=>?_;rw[pl]at ha hb;let(x,hx,rfl):=bA.mp ha;let(y,hy,rfl):=bA.mp hb;let(lx,ex):=aq.mp hx;let(ly,ey):=aq.mp hy;subst ex ey;show kq.mp p1 i k lx ly NZ
  ·simp
  ·simp[ll,kL]
  ·rw[pl]at q;let(x,hx,rfl):=bA.mp q;have:=(mem x).mp (aE hx);let(l,__):=iz.mp this;rw[O.sz]at l;change x.1<=mask;lia
  ·have q':(live.map λp=>hs.getD p.2 0)[m]?=some h:=by
    have e3:(live.map (·.2)).toArray.toList.map (λi=>hs.getD i 0)=live.map λp=>hs.getD p.2 0:=by simp
    rw[<-e3];show q
   rw[aZ]at q';let(x,hx,rfl):=bA.mp q';have hw:=(mem x).mp (aE hx);have hl:=O.lt _ _ hw;have eh:hs[x.2]?=some (hs.getD x.2 0):=by rw[av hl];simp[hl]
   let(d,d1,d2):=O.at_ x.2 _ eh;show{d,?_,λe he=>?_}
   ·change((live.map (·.1)).toArray)[m]?=some (ps mask (hs.getD x.2 0) d);rw[pl,hx,(O.inj _ _ _ d1 hw)];rfl
   ·let(i',q3):=d2 e he;let(m',hm'):=dy.mp ((mem (_,i')).mpr q3);show{m',?_};rw[pl,hm'];rfl
theorem Cw(n:Nat):∀(f j:Nat),n<2^(j+f)->∃k,j<=k/\sizeAbove.go n f (2^j)=2^k/\n<2^k/\(k=j\/2^k<=2*n)
 |0,j,h=>{j,au _,9,h,.inl rfl}
 |f+1,j,h=>by
  unfold sizeAbove.go;by_cases c:2^j<=n
  ·rw[aL c,<-oO];let(k,h1,h2,h3,h4):=Cw n f (j+1) (by rw[show j+1+f=j+(f+1) by lia];show h);show{k,8,h2,h3,.inr ?_};rcases h4 with h4|h4
   ·rw[h4,oO];lia
   ·show h4
  ·rw[aI c];show{j,au _,9,8,.inl rfl}
def Cv(h:n<2^64):∃k,sizeAbove n=2^k/\08<=2^k/\n<2^k/\2^k<=2*n+08:=by
 let(k,h1,h2,h3,h4):=Cw n 64 3 (br h 7);have:2^3<=2^k:=BE 7 h1;show{k,h2,this,h3,?_};rcases h4 with h4|h4
 ·rw[h4];lia
 ·lia
def Uq(t:SetTable)(hs:List Int)(h:n<2^64)(kL:hs.length<n):∃t' order,t.relaid hs.toArray n=some (t',order)/\n<=t'.mask/\t'.mask<=2*n+07/\t'.finger=t.finger/\t'.led=t.led/\t'.plain=t.plain/\order.toList.Perm (List.range hs.length)/\Tab t' (order.toList.map λi=>hs.getD i 0):=by let(k,e,h1,h2,h3):=Cv h;let(t',order,q1,q2,q3,q4,__,q5,q6,q7):=abS (mask:=sizeAbove n -1) (k:=k) (by rw[e];lia) (by rw[e];lia) t.finger (t.movedTo (sizeAbove n -1)) t.led t.plain hs (by rw[e];lia);show{t',order,q1,by rw[q2,e];lia,by rw[q2,e];lia,q3,q4,q5,q6,q7}
theorem CL{α:Type}:∀l:List α,(List.range l.length).filterMap (λi=>l[i]?)=l
 |[]=>rfl
 |x::l=>by rw[bx,zI,fI];change x::_=_;rw[u4];congr 1;show CL l
def RO{α:Type}{es:Array α}{order:Array Nat}(hp:order.toList.Perm (List.range 67)):(order.filterMap (es[·]?)).toList.Perm es.toList/\∀(g:α->Int),(order.filterMap (es[·]?)).toList.map g=order.toList.map λi=>(es.toList.map g).getD i 0:=by
 have e1:(order.filterMap (es[·]?)).toList=order.toList.filterMap (es.toList[·]?):=by simp
 rw[e1];constructor
 ·have:=hp.filterMap (es.toList[·]?);rw[<-bB]at this;rwa [CL]at this
 ·ext g;have lt:∀i∈order.toList,i<es.toList.length:=λi hi=>by rw[bB];show cw.mp (hp.mem_iff.mp hi)
  generalize order.toList=l at lt
  induction l with
  |nil=>rfl
  |cons i l ih=>
   have li:=lt i (aw ..);rw[fI,av li];change g _::_=_;rw[bo,ih λj hj=>lt j (ay _ hj)];congr 1;rw[cA,aZ,av li];rfl
structure SK(prog:dL)(w:i3)(κ:Type)[DecidableEq κ] where
 hash:κ->Int
 draws:κ->Nat
 room:mo->Prop
 is:i5->κ->bn->Prop
 keep:∀{h h':i5}{k:κ}{b:bn},is h k b->(∀c o,(∃aY n,o.data=.seq aY n)->h.get? c=some o->h'.get? c=some o)->is h' k b
 cls:∀{A:mo}{E:Aae}{s:cr}{k:κ}{b:bn}{Q:Bool->cr->Prop},is s.heap k b->Q false s->fv 24 A (ofAClassStatement 08 (.ref b)) Q E s
 quiet:∀{A:mo}{E:Aae}{s:cr}{k:κ}{b:bn}{Q:Bool->cr->Prop},is s.heap k b->Q true s->fv 24 A (eqIsQuiet 08 (.ref b)) Q E s
 eq:∀{A:mo}{E:Aae}{s:cr}{x y:κ}{a b:bn}{Q:Bool->cr->Prop},room A->is s.heap x a->is s.heap y b->Q (decide (x=y)) s->fv 24 A (eqBool 68 (.ref b)) Q E s
 hashes:∀{A:mo}{E:Aae}{s:cr}{k:κ}{b:bn}{Q:Int->cr->Prop},room A->is s.heap k b->Q (hash k) {s with toks:=s.toks+draws k}->fv 24 A (pyHash (.ref b)) Q E s
 FK:∀{A:mo}{E:Aae}{s:cr}{k:κ}{b:bn}{Q:Bool->cr->Prop},is s.heap k b->(∀c,Q c s)->fv 24 A (WP 08 (.ref b)) Q E s
section
variable{prog:dL}{w:i3}{κ:Type}[DecidableEq κ]{knd:SK prog w κ}{A:mo}{E:Aae}{s:cr}
abbrev ent(knd:SK prog w κ)(x:κ×bn):Int×f':=(knd.hash x.1,Value.ref x.2)
structure xA(knd:SK prog w κ)(h:i5)(a:bn)(o:G')(ep:Nat)(t:SetTable)(xs:List (κ×bn)):Prop where
 ob:h.get? a=some o
 ex:o.ExactSet
 data:o.data=.set (xs.map (ent knd)).toArray ep t
 tab:Tab t (xs.map λx=>knd.hash x.1)
 kL:96*5<t.mask*3
 cap:t.mask<=08*96+15
 nd:(xs.map (·.1)).Nodup
 is:∀x∈xs,knd.is h x.1 x.2
def xA.fits{h:i5}{a:bn}{o:G'}{ep:Nat}{t:SetTable}{xs:List (κ×bn)}(S:xA knd h a o ep t xs):t.fits ((xs.map (ent knd)).toArray).size=true:=by have:=S.tab.fits;rw[ah]at this;simpa using this
def xA.state{a:bn}{o:G'}{ep:Nat}{t:SetTable}{xs:List (κ×bn)}{Q:(Array (Int×f')×Nat×SetTable)->cr->Prop}(S:xA knd s.heap a o ep t xs)(h:Q ((xs.map (ent knd)).toArray,ep,t) s):fv 24 A (setState a) Q E s:=
 pY S.ob S.data S.fits h
def Qx{h h':i5}{a:bn}{o:G'}{es:Array (Int×f')}{ep:Nat}{t:SetTable}{x:κ}{b:bn}(ob:h.get? a=some o)(hd:o.data=.set es ep t)(sb:Heap.SameBut a h h')(h1:knd.is h x b):knd.is h' x b:=
 knd.keep h1 λc p ⟨aY,n,e⟩ q=>(sb.2 c λz=>by rw[z,ob]at q;cases q;rw[hd]at e;cases e).trans q
def aaM{x:κ}{b:bn}{Q:Bool->cr->Prop}(hx:knd.is s.heap x b)(l:Aag)(hl:∀v∈l,∃ks c,v=Value.ref c/\knd.is s.heap ks c)(h:Q false s):fv 24 A (searchCouldBeSeen (.ref b) l) Q E s:=by
 unfold searchCouldBeSeen;show ae ?_;show mN _ (λrest r s'=>r.1=none/\s'=s/\∀v∈rest,∃ks c,v=Value.ref c/\knd.is s.heap ks c) _ ?_ ?_ _ _ ⟨rfl,rfl,hl⟩
 ·ext v rest r s' ⟨hr,rfl,oB⟩;let(ks,c,rfl,hk):=oB v aw;have ZW:∀v∈rest,∃ks c,v=Value.ref c/\knd.is s'.heap ks c:=λu qX=>oB u (ay _ qX);dsimp only;by_cases e:(b==c||(wP (.ref b)&&wP (.ref c)))=true
  ·rw[aL e];show ao ⟨rfl,rfl,ZW⟩
  ·rw[aI e];show ae (knd.quiet hx ?_);simp only[qB,cD,fR];show ae (knd.quiet hk ?_);simp only[qB,cD,fR];show ae (knd.cls hx ?_);simp only[cD,fR];show ae (knd.cls hk ?_);simp only[cD,fR];show ao ⟨rfl,rfl,ZW⟩
 ·ext⟨r1,r2⟩ s' ⟨hr,rfl,_⟩;simp only at hr;subst hr;show ao h
def Tr{a b:bn}{o:G'}{ep:Nat}{t:SetTable}{xs:List (κ×bn)}{k:κ}{Q:SetFound->cr->Prop}(hu:knd.room A)(S:xA knd s.heap a o ep t xs)(hk:knd.is s.heap k b){D:Nat}(fr:Tj t (knd.hash k) D)
  (h1:(∃x∈xs,x.1=k)->Q (.there none) s) (h2:(∀x∈xs,x.1≠k)->Q (.free (ps t.mask (knd.hash k) D) false) s):
  ∀(m fuel d:Nat)(st:Option Probe),D -d=m->d<=D->m<fuel->st.getD (t.probeStart (knd.hash k))=pr t.mask (knd.hash k) d->(∀e,e<d->∀(i:Nat)(x:κ×bn),t.place[i]?=some (ps t.mask (knd.hash k) e)->xs[i]?=some x->x.1≠k)->
   fv 24 A (setSearchFrom a (.ref b) (knd.hash k) true fuel st) Q E s:=by
 ext m
 induction m using Nat.strongRecOn with
 |ind m ih=>
  ext fuel d st hm hd hf yA Al;cases fuel with
  |zero=>show absurd hf (eC _)
  |succ fuel=>
   unfold setSearchFrom;show ae (S.state ?_);dsimp only;rw[S.tab.way];simp only[cD,fR];rw[yA];have hsL:∀(i:Nat)(x:κ×bn),xs[i]?=some x->(xs.map λx=>knd.hash x.1)[i]?=some (knd.hash x.1):=λi x e=>by rw[aZ,e];rfl
   have hsR:∀(i:Nat)(g:Int),(xs.map λx=>knd.hash x.1)[i]?=some g->∃x,xs[i]?=some x/\knd.hash x.1=g:=λi g e=>by rw[aZ]at e;show bA.mp e
   rcases MG S.tab fr (hashAt:=λi=>((((xs.map (ent knd)).toArray)[i]?).map (·.1)).getD 0) (λi g e=>by let(x,hx,rfl):=hsR i g e;simp[hx]) (10*turns t.mask) d hd (by have:=fr.lt;lia)with⟨e1,e2⟩|⟨e,i,a1,a2,a3,a4,a5,a6⟩
   ·have e1':t.probe (λi=>((((xs.map (ent knd)).toArray)[i]?).map (·.1)).getD 0) (knd.hash k) (pr t.mask (knd.hash k) d)=some (.empty (ps t.mask (knd.hash k) D) none):=e1;change fv 24 A (match t.probe (λi=>((((xs.map (ent knd)).toArray)[i]?).map (·.1)).getD 0) (knd.hash k) (pr t.mask (knd.hash k) d)with|some met=>_|_=>_) Q E s;rw[e1'];show ao (h2 λx hx ex=>?_);let(i,hi):=dy.mp hx;let(d',q1,q2):=S.tab.reach i _ (hsL i x hi);rw[ex]at q1 q2;have lt:d'<D:=by
     rcases lX d' D with q|q|q
     ·show q
     ·rw[q]at q1;show(fr.no i q1).elim
     ·let(i',z):=q2 D q;show(fr.no i' z).elim
    by_cases c:d'<d
    ·show Al d' c i x q1 hi ex
    ·show e2 d' ∅ lt i q1 (by rw[hsL i x hi,ex])
   ·let(y,hy,ey):=hsR i _ a4;have a5':t.probe (λi=>((((xs.map (ent knd)).toArray)[i]?).map (·.1)).getD 0) (knd.hash k) (pr t.mask (knd.hash k) d)=some (.candidate (ps t.mask (knd.hash k) e) i (pr t.mask (knd.hash k) (e+1))):=a5;change fv 24 A (match t.probe (λi=>((((xs.map (ent knd)).toArray)[i]?).map (·.1)).getD 0) (knd.hash k) (pr t.mask (knd.hash k) d)with|some met=>_|_=>_) Q E s;rw[a5'];dsimp only;have ym:=aE hy;have yk:=S.is y ym;have eL:((xs.map (ent knd)).toArray)[i]?=some (ent knd y):=by simp[hy]
    have cont:fv 24 A (do
      let some (_,y):=((xs.map (ent knd)).toArray)[i]?|unsupported "internal:set-entry"
      let equal<-FM [y] (eqBool y (.ref b))
      let(uV,_,t')<-setState a
      if true&&equal then return .there none
      let some same:=t'.sameMemory t.moves t.mask|unsupported "set.changed-during-lookup:is-the-new-block-at-the-old-address"
      let afm<-match(if same then t'.slot (ps t.mask (knd.hash k) e)else .empty)with
       | .live i'=>match uV[i']? with
        |some (_,y')=>do pure (if<-isSame y' y then some i' else none)
        |none=>pure none
       |_=>pure none
      match afm with
      |none=>V' "set.search.anew";setSearchFrom a (.ref b) (knd.hash k) true fuel none
      |some i'=>if equal then return .there (some i')else setSearchFrom a (.ref b) (knd.hash k) true fuel (some (pr t.mask (knd.hash k) (e+1)))) Q E s:=by
     rw[eL];dsimp only;show ae (b5 (knd.eq hu yk hk ?_));show ae (S.state ?_);by_cases c:y.1=k
     ·rw[bb c];simp only[Bool.and_self,k7];show ao (h1 ⟨y,ym,c⟩)
     ·rw[cz c];simp only[mJ,cD,fR];have sm:t.sameMemory t.moves t.mask=some true:=by simp[SetTable.sameMemory]
      rw[sm];simp only[k7];rw[Kc S.tab.rise a3];dsimp only;rw[eL];dsimp only;have iss:isSame (Value.ref y.2) (Value.ref y.2)=pure true:=aL (qI _);rw[iss];show ae (ao ?_);simp only[k7];show ae (ao ?_);dsimp only;show ih (D -(e+1)) ∅ fuel (e+1) _ rfl ∅ ∅ rfl λe' KL i' x q1 q2 qk=>?_;by_cases c2:e'<d
      ·show Al e' c2 i' x q1 q2 qk
      ·by_cases c3:e'=e
       ·rw[c3]at q1;have:i'=i:=by rw[<-below_at S.tab.rise q1,<-below_at S.tab.rise a3]
        rw[this,hy]at q2;cases q2;show c qk
       ·show a6 e' ∅ ∅ i' q1 (by rw[hsL i' x q2,qk])
    by_cases led:t.led=true
    ·rw[led];simp only[qB,cD,fR];show cont
    ·have lf:t.led=false:=by cases q:t.led with|false=>rfl|true=>show(led q).elim
     rw[lf];simp only[Bool.not_false,k7];show ae (aaM hk _ (λv hv=>?_) ?_)
     ·let(p,hp,rfl):=az.mp hv;have QJ:p∈xs.map (ent knd):=by have:=(Array.mem_filter.mp (BL.mp hp)).1;simpa using this
      let(x,hx,rfl):=az.mp QJ;show{x.1,x.2,9,S.is x hx}
     ·simp only[cD,fR];show cont
end
section
variable{prog:dL}{w:i3}{κ:Type}[DecidableEq κ]{knd:SK prog w κ}{A:mo}{E:Aae}{s:cr}
def WS{a:bn}{o:G'}{ep:Nat}{t:SetTable}{xs:List (κ×bn)}{n:Nat}{Q:Unit->cr->Prop}(ob:s.heap.get? a=some o)(ex:o.ExactSet)(hd:o.data=.set (xs.map (ent knd)).toArray ep t)(tab:Tab t (xs.map λx=>knd.hash x.1))(nd:(xs.map (·.1)).Nodup)(is:∀x∈xs,knd.is s.heap x.1 x.2)
  (hn:96*2<=n) (hn4:n<=96*4) (h0:0<n) (hx:96<=100000) (KG:n<=100000) (h:∀h' ys o' vI t',Heap.SameBut a s.heap h'->xA knd h' a o' vI t' ys->t'.led=t.led->ys.Perm xs->Q () {s with heap:=h'}):fv 24 A (setRelay a n) Q E s:=by
 have fits:t.fits ((xs.map (ent knd)).toArray).size=true:=by have:=tab.fits;rw[ah]at this;simpa using this
 unfold setRelay;show ae (pY ob hd fits ?_);dsimp only;let(k,e1,e2,e3,e4):=Cv (n:=n) ∅;rw[aI (by rw[e1,bW];lia)];have hm:((xs.map (ent knd)).toArray).map (·.1)=(xs.map λx=>knd.hash x.1).toArray:=by simp[vO]
 let(t',order,q1,q2,qc,q3,q4,q5,q6,q7):=Uq t (xs.map λx=>knd.hash x.1) (n:=n) ∅ (by rw[ah];lia);rw[hm,q1];rw[ah]at q6;have oz:order.toList.Perm (List.range ((xs.map (ent knd)).toArray).size):=by simpa using q6
 let(o1,o2):=RO oz;have lS:(order.filterMap (((xs.map (ent knd)).toArray)[·]?))=((order.toList.filterMap (xs[·]?)).map (ent knd)).toArray:=by apply xP.mp;simp[List.map_filterMap]
 have py:(order.toList.filterMap (xs[·]?)).Perm xs:=by have:=q6.filterMap (xs[·]?);rwa [CL]at this
 have ly:=py.length_eq;have hh:(order.toList.filterMap (xs[·]?)).map (λx=>knd.hash x.1)=order.toList.map λi=>(xs.map λx=>knd.hash x.1).getD i 0:=by have:=o2 (·.1);rw[lS]at this;simpa[vO]using this
 rw[<-hh]at q7;generalize order.toList.filterMap (xs[·]?)=ys at*;show ae ?_;change fv 24 A (if((order.filterMap (((xs.map (ent knd)).toArray)[·]?)).size !=((xs.map (ent knd)).toArray).size)=true then unsupported _ else pure (order.filterMap (((xs.map (ent knd)).toArray)[·]?),t')) _ E s;rw[lS,aI (by simp[ly])];show ao ?_;dsimp only;show pX ob hd ?_ (by rw[aQ,ah,ly,bW];lia);have S2:xA knd (s.heap.update a (Obj.putSet (ys.map (ent knd)).toArray t')) a {o with data:=.set (ys.map (ent knd)).toArray (ep+1) t'} (ep+1) t' ys:=by
  have sb:=cj s.heap a (Obj.putSet (ys.map (ent knd)).toArray t');show{?_,ex,9,q7,8,8,(py.map _).nodup_iff.mpr nd,λx hx=>?_}
  ·have:=dU (Obj.putSet (ys.map (ent knd)).toArray t') ob (by rw[uP _ t' hd];rfl);rw[uP _ t' hd]at this;show this
  ·show Qx ob hd sb (is x (py.mem_iff.mp hx))
 show h _ ys _ _ _ (cj s.heap a _) S2 q4 py
def acE{a b:bn}{o:G'}{ep:Nat}{t:SetTable}{xs:List (κ×bn)}{k:κ}{Q:Bool->cr->Prop}(hu:knd.room A)(S:xA knd s.heap a o ep t xs)(hk:knd.is s.heap k b)(hx:96<=1000)
  (h1:(∃x∈xs,x.1=k)->Q false s) (h2:(∀x∈xs,x.1≠k)->∀h' ys o' vI t',Heap.SameBut a s.heap h'->xA knd h' a o' vI t' ys->t'.led=t.led->ys.Perm ((k,b)::xs)->Q true {s with heap:=h'}):
  fv 24 A (setAddHashed a (.ref b) (knd.hash k)) Q E s:=by
 unfold setAddHashed setAddHashedIn;show b5 (ae (S.state ?_));dsimp only;have nb:byScan (.ref b) (xs.map (ent knd)).toArray=false:=by simp[byScan,Value.scannable]
 rw[nb];simp only[cD,fR];let(D,fr):=S.tab.free (knd.hash k);unfold setSearch;have bound:=fr.lt;have hm:=S.cap;unfold turns at bound;show ae (Tr hu S hk fr (λq=>ao (h1 q)) (λq=>?_) D 100000 0 none 9 (aJ _) ∅ (Xe t _) λe he=>absurd he (eC _));dsimp only;show ae (S.state ?_);dsimp only;have big:=S.tab.big;have kL:=S.kL;have room:(xs.map λx=>knd.hash x.1).length+1<=t.mask:=by rw[ah];lia
 have tb:=S.tab.put fr room;generalize ep1:t.put (ps t.mask (knd.hash k) D)=tp at tb;let(t1,p):=tp;have mk1:t1.mask=t.mask:=by have:(t.put (ps t.mask (knd.hash k) D)).1.mask=t.mask:=9;rw[ep1]at this;show this
 have ld1:t1.led=t.led:=by have:(t.put (ps t.mask (knd.hash k) D)).1.led=t.led:=9;rw[ep1]at this;show this
 dsimp only at tb⊢;have esz:((xs.map (ent knd)).toArray).size=96:=by simp
 have ins:insertAt (xs.map (ent knd)).toArray p (knd.hash k,Value.ref b)=((jM xs p (k,b)).map (ent knd)).toArray:=by apply xP.mp;rw[rX,NF]
 have hsI:(jM xs p (k,b)).map (λx=>knd.hash x.1)=jM (xs.map λx=>knd.hash x.1) p (knd.hash k):=NF _ _ _ _;have pI:=Vy xs p (k,b);have nI:((jM xs p (k,b)).map (·.1)).Nodup:=by show(pI.map _).nodup_iff.mpr ?_;rw[bo];show cY.mpr {λz=>?_,S.nd};let(x,hx,e):=az.mp z;show q x hx e
 have isI:∀x∈jM xs p (k,b),knd.is s.heap x.1 x.2:=λx hx=>by
  rcases aN.mp (pI.mem_iff.mp hx)with rfl|hx
  ·show hk
  ·show S.is x hx
 have lI:(jM xs p (k,b)).length=96+1:=by rw[pI.length_eq];rfl
 have fin:∀t2:SetTable,t2.mask=t1.mask->t2.place=t1.place->t2.dummies=t1.dummies->t2.led=t1.led->fv 24 A (do
   storeSet a (insertAt (xs.map (ent knd)).toArray p (knd.hash k,Value.ref b)) t2
   if(!false&&t2.tooFull)=true then
    setRelay a (SetTable.grown (((xs.map (ent knd)).toArray).size+1))
    pure true
   else pure true) Q E s:=λt2 e1 e2 e3 e4=>by
  have ZD:Tab t2 ((jM xs p (k,b)).map λx=>knd.hash x.1):=by rw[hsI];show tb.of_eq e1 e2 e3
  rw[ins];show ae (pX S.ob S.data ?_ (by rw[aQ,ah,lI,bW];lia));have sb:=cj s.heap a (Obj.putSet ((jM xs p (k,b)).map (ent knd)).toArray t2);have ob2:(s.heap.update a (Obj.putSet ((jM xs p (k,b)).map (ent knd)).toArray t2)).get? a=some {o with data:=.set ((jM xs p (k,b)).map (ent knd)).toArray (ep+1) t2}:=by have:=dU (Obj.putSet ((jM xs p (k,b)).map (ent knd)).toArray t2) S.ob (by rw[uP _ t2 S.data];rfl);rw[uP _ t2 S.data]at this;show this
  have fl:t2.tooFull=decide ((96+1)*5≥t.mask*3):=by unfold SetTable.tooFull SetTable.fill;rw[ZD.Wo,ZD.sz,ah,lI,e1,mk1];rfl
  have yz:∀x∈jM xs p (k,b),knd.is (s.heap.update a (Obj.putSet ((jM xs p (k,b)).map (ent knd)).toArray t2)) x.1 x.2:=λx hx=>Qx S.ob S.data sb (isI x hx);by_cases c:t2.tooFull=true
  ·rw[c];simp only[Bool.not_false,Bool.and_self,k7];have g:SetTable.grown (((xs.map (ent knd)).toArray).size+1)=(96+1)*4:=by unfold SetTable.grown;rw[esz,aI ∅]
   rw[g];show ae (WS (s:={s with heap:=s.heap.update a (Obj.putSet ((jM xs p (k,b)).map (ent knd)).toArray t2)}) ob2 S.ex 9 ZD nI yz ∅ ∅ ∅ ∅ ∅ λh' ys o' vI t' CC S' l' py=>?_);show ao (h2 q h' ys o' vI t' (sb.trans CC) S' (l'.trans (e4.trans ld1)) (py.trans pI))
  ·rw[ie.mpr c];simp only[mJ,cD,fR];rw[fl]at c;have c':¬(96+1)*5≥t.mask*3:=λz=>c (bb z);show ao (h2 q _ (jM xs p (k,b)) _ _ _ sb {ob2,S.ex,9,ZD,by rw[lI,e1,mk1];lia,by rw[lI,e1,mk1];lia,nI,yz} (e4.trans ld1) pI)
 by_cases c:t1.plain=true
 ·rw[aL c];show ae (knd.FK hk λbv=>?_);cases bv with
  |true=>show fin t1 rfl rfl rfl rfl
  |false=>show fin {t1 with plain:=false} rfl rfl rfl rfl
 ·rw[aI c];show ae (ao ?_);show fin t1 rfl rfl rfl rfl
end
end Tb
namespace Tb
open PySem
def HW{α:Type}{l:List α}(h:i<l.length):(l[i]::l.eraseIdx i).Perm l:=by rw[kS];show List.perm_middle.symm.trans ?_;rw[List.getElem_cons_drop,jX]
theorem Qf(next:Nat->Nat):∀(f k:Nat)(left:List α)(out:Array α),f=left.length->(pickOrder.go next f k left out).toList.Perm (out.toList++left)
 |0,k,left,out,h=>by rw[dF.mp h.symm,cZ];show .refl _
 |f+1,k,left,out,h=>by
  have hl:next k % left.length<left.length:=mZ _ ∅
  unfold pickOrder.go;rw[av hl];show(Qf next f (k+1) (left.eraseIdx (next k % left.length)) (out.push left[next k % left.length]) (by rw[j8 hl];lia)).trans ?_;rw[vP,dN];show(HW hl).append_left _
def Uz(next:Nat->Nat)(xs:Array α):(pickOrder next xs).toList.Perm xs.toList:=by
 have:=Qf next xs.size 0 xs.toList #[] 58
 rw[jY]at this;show this
section
variable{M:Model}{A:mo}{E:Aae}
theorem PJ:∀(n:Nat)(xs:List α)(s:cr){Q:List α->cr->Prop},n=96->(∀ys d,ys.Perm xs->Q ys {s with drawn:=d})->fv M A (drawOrder n xs) Q E s
 |0,xs,s,Q,hn,h=>by have e:xs=[]:=dF.mp hn.symm;subst e;unfold drawOrder;show ao (h [] s.drawn (.refl _))
 |n+1,[],s,Q,hn,h=>by simp at hn
 |n+1,x::xs,s,Q,hn,h=>by
  unfold drawOrder;show ae (λΓ p hΓ=>?_);show{58,?_};have hl:M.w.draws .order (s.drawn.get .order) %(x::xs).length<(x::xs).length:=mZ _ 58;generalize M.w.draws .order (s.drawn.get .order) %(x::xs).length=i at hl;have key:fv M A (match(x::xs)[i]? with
   |some y=>do return y::(<-drawOrder n ((x::xs).eraseIdx i))
   |none=>unsupported "internal:drawOrder") Q E {s with drawn:=s.drawn.bump .order}:=by
   rw[av hl];dsimp only;show ae (PJ n _ _ (by rw[j8 hl];lia) λys d hp=>ao ?_);show h _ d ((hp.cons _).trans (HW hl))
  show key
end
end Tb
namespace L2
def wU{α β:Type}{f:α->β}:∀{l k:List β},l.Perm k->∀{m:List α},k=m.map f->∃m':List α,m'.Perm m/\l=m'.map f:=by
 ext l k h
 induction h with
 |nil=>ext m e;show{m,.refl _,e}
 |@cons x l1 l2 _ ih=>
  ext m e;cases m with
  |nil=>cases e
  |cons a m=>
   injection e with e1 e2;let(m',p,q):=ih e2;show{a::m',p.cons a,by rw[e1,q];rfl}
 |swap x y l=>
  ext m e
  match m,e with
  |a::b::m,e=>
   injection e with e1 e2;injection e2 with e2 e3;show{b::a::m,.swap _ _ _,by rw[e1,e2,e3];rfl}
 |trans _ _ ih1 VA=>
  ext m e;let(m1,p1,q1):=VA e;let(m2,p2,q2):=ih1 q1;show{m2,p2.trans p1,q2}
end L2
namespace Tb
open PySem PySem.SetTable PyProof.Rows
section
variable{prog:dL}{w:i3}
section
variable{A:mo}{R:TD->cr->Prop}{I:bn}{fp wr:Aaj}{G:Array L'->Array L'->Prop}{n:Nat}{P:Nat->f'->Prop}{St:Nat->cr->Prop}
def afA(W:Y' prog w A.in1 I fp wr G n P St)(S:bn)(nS:S∉fp)(C:Nat->i5->Prop)(keep:∀i h h',C i h->(∀b o,b∉wr->h.get? b=some o->h'.get? b=some o)->C i h')
  (step:∀(i:Nat) v(s:cr)(Q:Bool->cr->Prop)(E:Aae),i<n->P i v->C i s.heap->(∀c h' tk,s.toks<=tk->Heap.SameBut S s.heap h'->C (i+1) h'->Q c {s with heap:=h',toks:=tk})->fv 24 A.in1 (setAdd S v) Q E s) (m:Nat):
  ∀(i:Nat)(s:cr),n -i=m->i<=n->St i s->C i s.heap->(∀s',Moved (S::wr) G s s'->C n s'.heap->R (.ok (.ret .none)) s')->wE 24 A (.builtin "set.update.loop" {[.ref S,.ref I],[]}) R s:=by
 have sub:∀b∈wr,b∈S::wr:=λb q=>ay _ q
 induction m with
 |zero=>
  ext i s hm hi st hC hR;have e:i=n:=by lia
  subst e;show fk oM ?_;show ae (W.done s _ _ st λs' hm=>ao (hR s' (hm.mono sub) (keep _ _ _ hC hm.heap)))
 |succ m ih=>
  ext i s hm hi st hC hR;have bN:i<n:=by lia
  show fk oM ?_;show ae (W.item i s _ _ bN st λv s' hP lO hm=>?_);show ae (b5 (step i v s' _ _ bN hP (keep _ _ _ hC hm.heap) λc h' tk le sb hC'=>?_));show ao {nh PyProof.Rows.F.plain_set_update_loop _,ih (i+1) _ ∅ bN (W.frame _ s' h' _ lO le λb q o e=>?_) hC' λs2 m2 c2=>hR s2 (Moved.trans W.gtrans ((hm.mono sub).then_heap le λb o q e=>?_) m2) c2}
  ·rw[sb.2 b λh:b=S=>nS (h▸q)];show e
  ·rw[sb.2 b λh:b=S=>q (h▸aw)];show e
end
section
variable{A:mo}{E:Aae}{s:cr}
abbrev nL(w:i3):Bool:=!w.params.followText "set-order"
abbrev uq(led:Bool):G':={cls:=.type "set",dict:=none,data:=.set #[] 0 (.fresh 0 0 led)}
def code_set_new(a:f')(h:Q₁ (.ref 17) {s with heap:=s.heap.push (uq (nL w))}):
  wE 24 A (.call (.builtin "set.__new__") {[.type "set",a],[]}) (wants Q₁ E) s:=by
 show codeAny_of_tree ?_;change fv _ A.in1 (do checkBuiltinCall "set.__new__" {[.type "set",a],[]};again (.builtin "set.__new__" {[.type "set",a],[]})) _ _ s;show ae (Fe (PySem.F.newCall_set_1 a) (ao {nh AA _,fk PySem.F.entry_set_new ?_}));rw[Around.under_plainId AA _];unfold Builtin.«set.__new__» Builtin.Frozenset.newClass;have Yv:=sub_set_self;let(hp,g,d,tk,os):=s;dsimp only
 wp_walk
 show wu (ao ?_);dsimp only;simp only[newObj];show ae (wpAny_alloc (ao ?_));show ao h
def K8{l:bn}{items:Aal}{Q:Aae}(C:Nat->i5->Prop)(hA:A.handled=none)(hl:s.heap.IsList l items\/s.heap.IsTuple l items)
  (keep:∀i h h',C i h->(∀b o,b≠17+1->h.get? b=some o->h'.get? b=some o)->C i h')
  (step:∀(i:Nat) v(s':cr)(Q:Bool->cr->Prop)(E:Aae),items[i]?=some v->C i s'.heap->(∀c h' tk,s'.toks<=tk->Heap.SameBut 17 s'.heap h'->C (i+1) h'->Q c {s' with heap:=h',toks:=tk})->fv 24 A.in1.in1.in1 (setAdd 17 v) Q E s')
  (c0:∀o,C 0 ((s.heap.push (uq (nL w))).push o)) (k:∀(h':i5)(tk:Nat),C items.size h'->(∀b o,s.heap.get? b=some o->h'.get? b=some o)->Q (.ref 17) {s with heap:=h',toks:=tk}):
  fv 24 A (EQ (.type "set") [.ref l]) Q E s:=by
 let(c,tl,aid):=Ea.mro;have ft:=Ea;have ah0:=ft.made;have Yv:=ft.sub;show GZ (codeAny_of_tree ?_);change fv _ _ (callAny (.type "set") _) _ _ _;show ao {jO _ 21,fk PySem.F.entry_type_call ?_};rw[Around.under_plain (weight_type_call_type "set" [.ref l] []) rfl];have h1:=ft.notType;have h2:=ft.canCreate;have hct:=PySem.F.typeCall_set_1 (.ref l)
 repeat (any_goals (first|assumption|wp_step))
 show mz (code_set_new (.ref l) (E:=E) (Q₁:=λx z=>x=.ref 17/\z={s with heap:=s.heap.push (uq (nL w))}) ⟨rfl,rfl⟩) λr z hr=>?_;cases r with
 |error e=>show hr
 |ok fl=>
  cases fl with
  |ret x=>
   let(rfl,rfl):=hr;have hS:(s.heap.push (uq (nL w))).get? 17=some (uq (nL w)):=aR _ rfl;have hT:Shared.TypeIs {s with heap:=s.heap.push (uq (nL w))} (.ref 17) "set":=⟨_,hS,rfl⟩;have hli:=ft.init.lookup;have QO:=ft.init.bind (.ref 17)
   repeat (any_goals (first|assumption|wp_step))
   show mz (si (R:=wants (λr z=>r=.none/\∃h' tk,z={s with heap:=h',toks:=tk}/\C items.size h'/\(∀b o,s.heap.get? b=some o->h'.get? b=some o)) E) ft.init.plain PySem.F.entry_set_init (check_set_init_1 hT ?_)) λr2 z2 pR=>?_
   ·obtain⟨T,⟨oc,od,oda,BX⟩,HK,mv,ah9,aia,iB,oI,St,hit,hW,yA⟩:∃(T:String)(o:G'),s.heap.get? l=some o/\o.cls=.type T/\isSubtype (.type T) (.type "set")=pure false/\isSubtype (.type T) (.type "frozenset")=pure false/\(Value.type T==Value.type "dict")=false/\∃(oI:G')(St:bn->Nat->i5->Prop),(∀(A':mo)(E Q:Aae)(s':cr),(∀b o,s.heap.get? b=some o->s'.heap.get? b=some o)->Q (.ref s'.heap.objs.size) {s' with heap:=s'.heap.push oI}->fv 24 A' (No (.ref l)) Q E s')/\(∀(A':mo)(I:bn),A'.handled=none->l≠I->Walks prog w A' I [I,l] [I] items.size (λi v=>items[i]?=some v) (St I))/\∀h:i5,(∀b o,s.heap.get? b=some o->h.get? b=some o)->St h.objs.size 0 (h.push oI):=by
     rcases hl with⟨o,h1,h2,n,h3⟩|⟨o,h1,h2,n,h3⟩
     ·show{"list",o,h1,h2,PySem.F.sub_list_set,PySem.F.sub_list_frozenset,7,_,λI i h=>h.IsListIter I l i/\h.IsList l items,λA' E Q s' k q=>lV {o,k _ _ h1,h2,n,h3} q,λA' I hh ne=>Iy hh I l ne items,λh k=>{{_,aR _ rfl,9,9},o,aj _ (k _ _ h1),h2,n,h3}}
     ·show{"tuple",o,h1,h2,PySem.F.sub_tuple_set,PySem.F.sub_tuple_frozenset,7,_,λI i h=>h.IsTupleIter I l i/\h.IsTuple l items,λA' E Q s' k q=>iF {o,k _ _ h1,h2,n,h3} q,λA' I hh ne=>Walks.tuple hh I l ne items,λh k=>{{_,aR _ rfl,9,9},o,aj _ (k _ _ h1),h2,n,h3}}
    simp only at mv;subst mv;have aic:=aj (uq (nL w)) HK;have hh3:A.in1.in1.in1.handled=none:=by simp[hA]
    unfold Builtin.«set.__init__» noKeywords Builtin.Frozenset.updateFrom;generalize hPI:No=PI
    wp_walk
    subst hPI;show hit _ _ _ _ (λb o e=>aj _ e) (ae (wpAny_runValue ?_));have hlS:l<17:=aX HK;have nI:l≠(s.heap.push (uq (nL w))).objs.size:=by rw[du];show aW (eP hlS)
    have nS:17∉[(s.heap.push (uq (nL w))).objs.size,l]:=by
     rw[du];ext hm;rcases aN.mp hm with hm|hm
     ·show absurd hm (aW (dJ _))
     ·show absurd (aA.mp hm) (cq hlS)
    show afA ((hW _ _ hh3 nI).toS) 17 nS C (λi h h' hC q=>keep i h h' hC λb o nb e=>q b o (λz=>nb ((aA.mp z).trans (du _ _))) e) (λi v s' Q E _ hv=>step i v s' Q E hv) items.size 0 _ rfl (aJ _) (yA _ λb o e=>aj _ e) (c0 _) λs' hm hC=>?_;let(h',g',d',LZ,Z4):=s';have eg:g'=s.gens:=hm.gens;have ed:d'=s.drawn:=hm.drawn;have eo:Z4=s.os:=hm.os;subst eg ed eo;show ao (ao {9,h',LZ,9,hC,λb o e=>hm.heap b o ?_ (aj _ (aj _ e))});have lt:=aX e;ext(_|⟨_,q⟩)
    ·show c7 _ lt
    ·rw[aA.mp q,du]at lt;show absurd lt (pK.mpr (d8 _))
   ·cases r2 with
    |error e=>show pR
    |ok fl2=>
     cases fl2 with
     |ret r=>
      let(rfl,h',tk,rfl,hC,NW):=pR
      repeat (any_goals (first|assumption|wp_step))
      show k _ _ hC NW
     |_=>show pR.elim
  |_=>show hr.elim
end
end
section
variable{prog:dL}{w:i3}{κ:Type}[DecidableEq κ]{knd:SK prog w κ}
structure ae4(knd:SK prog w κ)(ks:List κ)(bs:Aaj)(i:Nat)(xs:List (κ×bn)):Prop where
 len:96<=i
 mem:∀k,k∈xs.map (·.1)↔k∈ks.take i
 LM:∀x∈xs,∃j:Nat,ks[j]?=some x.1/\bs[j]?=some x.2
section
variable{A:mo}{E:Aae}{s:cr}
def WA{l:bn}{bs:Aaj}{ks:List κ}{items:Aal}{Q:Aae}(hA:A.handled=none)(hu:knd.room A.in1.in1.in1)(hl:s.heap.IsList l items\/s.heap.IsTuple l items)(hi:items.toList=bs.map Value.ref)(lb:ks.length=bs.length)(hk:∀(i:Nat) k b,ks[i]?=some k->bs[i]?=some b->knd.is s.heap k b)(hb:bs.length<=1000)
  (k:∀(h':i5)(tk:Nat) o ep t xs,xA knd h' 17 o ep t xs->t.led=nL w->ae4 knd ks bs bs.length xs->(∀b o,s.heap.get? b=some o->h'.get? b=some o)->Q (.ref 17) {s with heap:=h',toks:=tk}):
  fv 24 A (EQ (.type "set") [.ref l]) Q E s:=by
 have hsz:items.size=bs.length:=by rw[<-bB,hi,ah]
 show K8 (λi h=>(∀b o,s.heap.get? b=some o->h.get? b=some o)/\∃o ep t xs,xA knd h 17 o ep t xs/\t.led=nL w/\ae4 knd ks bs i xs) hA hl (λi h h' ⟨kp,o,ep,t,xs,hS,qZ,hH⟩ q=>?_) (λi v s' Q E hv ⟨kp,o,ep,t,xs,hS,qZ,hH⟩ k=>?_) (λo=>{λb o e=>aj _ (aj _ e),uq (nL w),0,.fresh 0 0 (nL w),[],{aj _ (aR _ 9),⟨rfl,rfl,rfl⟩,9,Tab.fresh 0 0 _,by change 0*5<07*3;decide,by change 07<=15;decide,dq,λx hx=>nomatch hx},9,{au _,λk=>by simp,λx hx=>nomatch hx}}) λh' tk ⟨kp,o,ep,t,xs,hS,qZ,hH⟩ Kx=>k h' tk o ep t xs hS qZ (hsz▸hH) Kx
 ·have Kx:∀b o,s.heap.get? b=some o->h'.get? b=some o:=λb o e=>q b o (aW (eP (aX e))) (kp b o e);show{Kx,o,ep,t,xs,{q _ _ (aW (dJ _)) hS.ob,hS.ex,hS.data,hS.tab,hS.kL,hS.cap,hS.nd,λx hx=>?_},qZ,hH};let(j,j1,j2):=hH.LM x hx;show knd.keep (hk j _ _ j1 j2) λc o _ e=>Kx c o e
 ·have e:items.toList[i]?=some v:=by rw[df];show hv
  rw[hi,aZ]at e;let(b,js,rfl):=bA.mp e;have ib:=(aq.mp js).1;obtain⟨k',NW⟩:∃k,ks[i]?=some k:={_,av ∅};have kb:knd.is s'.heap k' b:=knd.keep (hk i k' b NW js) λc o _ e=>kp c o e;have et:ks.take (i+1)=ks.take i++[k']:=by rw[bh,NW];rfl
  have oA:=hH.len;unfold setAdd;show b5 (ae (knd.hashes hu kb ?_));show acE (s:={s' with toks:=s'.toks+knd.draws k'}) hu hS kb ∅ (λq=>?_) λq h' ys o' vI t' sb S2 Yi py=>?_
  ·show k _ s'.heap _ (eG _ _) (vN _ _) {kp,o,ep,t,xs,hS,qZ,8,λz=>?_,hH.LM};rw[et,aS,<-hH.mem,aA];show{.inl,λc=>c.elim id λe=>by let(x,hx,ex):=q;rw[e,<-ex];show az.mpr ⟨x,hx,rfl⟩}
  ·show k _ h' _ (eG _ _) sb {λb o e=>?_,o',vI,t',ys,S2,Yi.trans qZ,by rw[py.length_eq,bx];lia,λz=>?_,λx hx=>?_}
   ·rw[sb.2 b (aW (aX e))];show kp b o e
   ·rw[et,aS,<-hH.mem,aA,(py.map (·.1)).mem_iff,bo,aN];show Or.comm
   ·rcases aN.mp (py.mem_iff.mp hx)with rfl|hx
    ·show⟨i,NW,js⟩
    ·show hH.LM x hx
end
end
section
variable{prog:dL}{w:i3}{K:Type}[DecidableEq K]{knd:KeyKind prog w K}{A:mo}{E:Aae}{s:cr}
def WT(hx:TW knd s.heap ks b)(h:Q false s):fv 24 A (ofAClassStatement 08 (.ref b)) Q E s:=by
 have hT:=hx.typeIs;let(o,items,n,ho,__,hd,hi):=hx;unfold ofAClassStatement;show ae (ij hT ?_);dsimp only;show ae (ao ?_);show ae (dk ho hd ?_);show ae ?_;rw[<-oV];show mN _ (λrest r s'=>r.1=none/\s'=s/\∀v∈rest,wP v=true) _ ?_ ?_ _ _ {9,9,hi.byValue}
 ·ext v rest r s' ⟨hr,rfl,oB⟩;have hv:=oB v aw;have e:ofAClassStatement 07 v=pure false:=by
   cases v with
   |ref a=>simp[wP]at hv
   |_=>first|rfl|(unfold ofAClassStatement;rfl)
  rw[e];show ae (ao ?_);show ao {9,9,λu qX=>oB u (ay _ qX)}
 ·ext⟨r1,r2⟩ s' ⟨hr,rfl,_⟩;simp only at hr;subst hr;show ao h
def Pn(n:Nat)(h:wP v=true):∃b,WP n v=pure b:=by
 cases v with
 |ref a=>simp[wP]at h
 |_=>cases n<;>show⟨_,rfl⟩
def acD(hx:TW knd s.heap ks b)(h:∀c,Q c s):fv 24 A (WP 08 (.ref b)) Q E s:=by
 have hT:=hx.typeIs;let(o,items,n,ho,__,hd,hi):=hx;show ae (iV hT l9.lookup ?_);show ae (dk ho hd ?_);show ae ?_;rw[<-oV];show mN _ (λrest r s'=>r.1=none/\s'=s/\∀v∈rest,wP v=true) _ ?_ ?_ _ _ {9,9,hi.byValue}
 ·ext v rest r s' ⟨hr,rfl,oB⟩;let(c,e):=Pn 07 (oB v aw);rw[e];show ae (ao ?_);cases c with
  |false=>
   show ao (ao (h false))
  |true=>
   show ao {9,9,λu qX=>oB u (ay _ qX)}
 ·ext⟨r1,r2⟩ s' ⟨hr,rfl,_⟩;simp only at hr;subst hr;show ao (h true)
def G2(knd:KeyKind prog w K):SK prog w (List K) where
 hash:=tupleKeyHash knd
 draws:=λk=>k.length+1
 room:=λA=>A.units<v6
 is:=TW knd
 keep:=λ⟨o,aY,n,ho,hc,hd,hi⟩ k=>{o,aY,n,k _ _ ⟨aY,n,hd⟩ ho,hc,hd,hi}
 cls:=WT
 quiet:=wpAny_eqIsQuiet_tuple
 eq:=wpAny_eqBool_tuple
 hashes:=wpAny_pyHash_tuple
 FK:=acD
end
section
variable{prog:dL}{w:i3}
abbrev GB(prog:dL)(w:i3)(x:io×P3):Int×f':=((strKind prog w).hash x.1,.str x.1 x.2)
structure D4(prog:dL)(w:i3)(h:i5)(a:bn)(o:G')(es:Array (Int×f'))(ep:Nat)(t:SetTable)(xs:List (io×P3)):Prop where
 ob:h.get? a=some o
 ex:o.ExactSet
 data:o.data=.set es ep t
 en:es.toList=xs.map (GB prog w)
 kL:96<=1000
 fits:t.fits 67=true
 pl:t.plain=false\/xs=[]
 led:t.led=nL w
def aeJ{es:List (Int×f')}{xs:List (io×P3)}(h:es=xs.map (GB prog w)):ElemsOf (strKind prog w) es:=λe he=>by rw[h]at he;let(x,__,rfl):=az.mp he;show{{x.1,oX _ _ _ _,9},9}
def abR(t:SetTable)(es:Array (Int×f'))(h:Int)(x:f'):(layNew t es h x).2.1.led=t.led:=by
 unfold layNew SetTable.orStandIn;split
 ·dsimp only;split<;>rfl
 ·rfl
def Uo(t:SetTable)(es:Array (Int×f'))(n:Nat)(h:t.plain=false):(relayAll t es n).2.1.led=t.led/\(relayAll t es n).2.1.plain=false:=by
 unfold relayAll;split
 ·next t' order q=>
  dsimp only;split
  ·unfold SetTable.relaid SetTable.laid at q;simp only[bind,Option.bind]at q;split at q
   ·cases q
   ·cases q;show⟨rfl,h⟩
  ·show⟨rfl,rfl⟩
 ·show⟨rfl,rfl⟩
end
end Tb
namespace Tb
open PySem PySem.SetTable
def Jw:Sc table "set.__iter__"=some Builtin.«frozenset.__iter__»:=
 As (id':="frozenset.__iter__") (by kernel_rfl) rfl 21 (by kernel_rfl)
def fP:Slot "set_iterator" "__next__" "set_iterator.__next__":=
 .of (owner:="set_iterator") (n:="__next__") (by rw[jR,gN];kernel_rfl) 21 21 21
  (by first|show .inl (by decide+kernel)|show .inr (by decide+kernel)) (by rw[Ah];kernel_rfl)
def nW:Sc table "set_iterator.__next__"=some Builtin.«set_iterator.__next__»:=entryFor_of_tree (by kernel_rfl)
def pG(a:f'):argsOk "set_iterator.__next__" {[a],[]}:=by unfold argsOk;kernel_rfl
def zU:Slot "set_iterator" "__iter__" "set_iterator.__iter__":=
 .of (owner:="set_iterator") (n:="__iter__") (by rw[jR,gN];kernel_rfl) 21 21 21
  (by first|show .inl (by decide+kernel)|show .inr (by decide+kernel)) (by rw[Ah];kernel_rfl)
def HY:Sc table "set_iterator.__iter__"=some Builtin.«dict_keyiterator.__iter__»:=
 As (id':="dict_keyiterator.__iter__") (by kernel_rfl) rfl 21 (by kernel_rfl)
def JM(a:f'):argsOk "set_iterator.__iter__" {[a],[]}:=by unfold argsOk;kernel_rfl
def aa8:Fk (.type "set") "__len__"=pure (some (.builtin "set.__len__")):=by rw[jR,gN];kernel_rfl
section
variable{prog:dL}{w:i3}{A:mo}{E:Aae}{s:cr}
structure Sat(w:i3)(h:i5)(S:bn)(es:Array (Int×f'))(ep:Nat)(t:SetTable):Prop where
 ob:∃o,h.get? S=some o/\o.ExactSet/\o.data=.set es ep t
 fits:t.fits 67=true
 lr:w.params.followText "set-order"=false->(!t.plain&&decide (67>1))=false->t.led=true/\oH t.place
def Sat.keep{S:bn}(x:Sat w h S es ep t)(k:∀o,h.get? S=some o->h'.get? S=some o):Sat w h' S es ep t:=by obtain⟨⟨o,ho,r⟩,a,b⟩:=x;show{{o,k o ho,r},a,b}
def Sat.state{S:bn}(x:Sat w s.heap S es ep t)(h:Q (es,ep,t) s):fv 24 A (setState S) Q E s:=by obtain⟨⟨o,ho,_,hd⟩,hf,_⟩:=x;show pY ho hd hf h
def Co(h:Q (w.params.followText "set-order") s):fv 24 A setsByText Q E s:=by show ae (wu (ao h))
def vX(w:i3)(S:bn)(es:Array (Int×f'))(ep:Nat):List (Int×f'):=if w.params.followText "set-order"=true then(pickOrder (w.params.setOrder S ep) es).toList else es.toList
def yY(w:i3)(t:SetTable):Nat->Nat
 |0=>0
 |i+1=>if w.params.followText "set-order"=true then 0 else t.place.getD i 0+1
def A6(w:i3)(S:bn)(es:Array (Int×f'))(ep:Nat):(vX w S es ep).Perm es.toList:=by
 unfold vX;split
 ·show Uz _ _
 ·show .refl _
def Mn(t:SetTable):Nat->Nat
 |0=>0
 |i+1=>t.place.getD i 0+1
def Zj(hr:oH t.place):∀i,i<=t.place.size->below t.place (Mn t i)=i:=by
 ext i hi;let(h1,h2,h3):=v8 hr (Mn t i);generalize eb:below t.place (Mn t i)=b at h1 h2 h3⊢;rcases lX b i with c|c|c
 ·cases i with
  |zero=>lia
  |succ i=>
   have:=h3 b (au _) ∅;rw[show Mn t (i+1)=t.place.getD i 0+1 from rfl]at this;by_cases e:b=i
   ·rw[e]at this;lia
   ·have:=hr b i ∅ ∅;lia
 ·show c
 ·have:=h2 i c;cases i with
  |zero=>rw[show Mn t 0=0 from rfl]at this;lia
  |succ i=>
   rw[show Mn t (i+1)=t.place.getD i 0+1 from rfl]at this;have:=hr i (i+1) ∅ ∅;lia
def PF{S:bn}(x:Sat w s.heap S es ep t)(hi:i<=67)(hd:w.params.followText "set-order"=true\/(!t.plain&&decide (67>1))=false)
  (h:Q ((vX w S es ep)[i]?.map λe=>(e.2,yY w t (i+1))) s):fv 24 A (setNext S (yY w t i) i ep) Q E s:=by
 show ae (x.state ?_);show ae (Co ?_);by_cases c:w.params.followText "set-order"=true
 ·rw[aL c];rw[aI 58];show ae ?_;show ae (x.state ?_);show ae (Co ?_);rw[aL c];show ae (wu (ao (ao ?_)));have e1:vX w S es ep=(pickOrder (w.params.setOrder S ep) es).toList:=aL c;have e2:yY w t (i+1)=yY w t i:=by
   cases i with
   |zero=>show aL c
   |succ i=>show(aL c).trans (aL c).symm
  rw[e1,e2,df]at h;show h
 ·rw[aI c];have yE:=hd.resolve_left c;have cf:=ie.mpr c;have fz:=x.fits;have sz:t.place.size=67:=by have:=(h9.mp fz).1;show dX this
  change fv 24 A (if(!t.plain&&decide (67>1))=true then _ else _) Q E s;rw[yE];show ae ?_;change fv 24 A (if(!t.led&&!es.isEmpty)=true then _ else _) _ E s;rw[(x.lr cf yE).1];show ao (ao ?_);have e0:yY w t i=Mn t i:=by
   cases i with
   |zero=>rfl
   |succ i=>show aI c
  rw[e0,Zj (x.lr cf yE).2 i ∅];have e1:vX w S es ep=es.toList:=aI c;rw[e1,df]at h;by_cases lt:i<67
  ·have g1:=cE lt;have g3:yY w t (i+1)=t.place.getD i 0+1:=aI c;rw[g1]at h⊢;rw[(getD_some.mpr {8,9})];rw[jW,g3]at h;show h
  ·have g1:es[i]?=none:=zL ∅;rw[g1]at h⊢;show h
def Ke(hT:s.TypeIs (.ref I) "set_iterator")(h:Q (.ref I) s):fv 24 A (No (.ref I)) Q E s:=by show vx hT zU (b9 zU hT HY ?_ (JM _));show ao {_,9,"set_iterator",_,hT,fP.lookup,h}
abbrev yy(first:f')(i:Nat)(S:bn)(n ep:Nat):G':={cls:=.type "set_iterator",data:=.fields #[first,.int i 0,.ref S,.int n 0,.int ep 0]}
def IH(hh:A.handled=none)(k:∀(h':i5)(e:bn),(∀b o,h.get? b=some o->h'.get? b=some o)->(∃o,h'.get? e=some o/\o.cls=.type "StopIteration")->E (.ref e) {s with heap:=h'}):
  fv 24 A (newExc (.type "StopIteration") []>>=λe=>(raiseNew e:Sem α)) Q E {s with heap:=h}:=by
 show ae ?_;show ae (cT ?_ (by size_fits));show ae (Fe (by first|rfl|(simp only[firstArgMember];rfl)) ?_);show cT ?_ (by size_fits);show ae (wpAny_handled ?_);rw[hh];show ae (ao (wpAny_throw (k _ _ (λb o e=>aj _ (aj _ e)) {_,aR _ rfl,9})))
def vQ{h:i5}(ho:h.get? a=some {cls:=cls,data:=.fields vs}):(h.update a (Obj.mapFields (·.setIfInBounds i x))).get? a=some {cls:=cls,data:=.fields (vs.setIfInBounds i x)}:=dU _ ho rfl
def ae7(hh:A.handled=none){S I:bn}(ne:S≠I)(hd:w.params.followText "set-order"=true\/(!t.plain&&decide (67>1))=false):
  Y' prog w A I [I,S] [I] (λa b=>b=a) 67 (λi v=>((vX w S es ep).map (·.2))[i]?=some v) (λi s=>Sat w s.heap S es ep t/\s.heap.get? I=some (yy (.int (yY w t i) 0) i S 67 ep)) where
 sub:=λb hb=>aA.mp hb▸aw
 grefl:=λ_=>9
 gtrans:=λ_ _ _ h1 h2=>h2.trans h1
 frame:=λi s h' tk st _ hk=>{st.1.keep λo e=>hk S 58 o e,hk I 58 _ st.2}
 item:=by
  ext i s Q E hi ⟨x,hI⟩ k;have hT:s.TypeIs (.ref I) "set_iterator":=⟨_,hI,rfl⟩;show ae (iu (jp hT fP (b9 fP hT nW ?_ (pG _))));show ae (ae (ao (ao ?_)));show ae (md hI 9 ?_);show ae ?_;show ae (x.state (ao ?_));rw[aI 58];simp only[eT];show ae (PF x (bE hi) hd ?_);have lo:i<(vX w S es ep).length:=by rw[(A6 w S es ep).length_eq,bB];show hi
  rw[av lo,jW];show ae (hV hI 9 58 ?_);have hI1:=vQ (i:=0) (x:=sK (yY w t (i+1))) hI;show ae (hV hI1 9 58 ?_);show ao {_,9,ao ?_};have zZ:∀b o,b≠I->s.heap.get? b=some o->((s.heap.update I (Obj.mapFields (·.setIfInBounds 0 (sK (yY w t (i+1)))))).update I (Obj.mapFields (·.setIfInBounds 1 (sK ((i:Int)+1))))).get? b=some o:=λb o nb e=>(cv _ _ (cQ nb)).trans ((cv _ _ (cQ nb)).trans e);show k _ _ (by rw[aZ,av lo];rfl) {x.keep λo e=>zZ S o ne e,?_} {λb o hb e=>zZ b o (λz=>hb (aA.mpr z)) e,9,9,9,au _};show(vQ (i:=1) (x:=sK ((i:Int)+1)) hI1)
 done:=by ext s Q E ⟨x,hI⟩ k;have hT:s.TypeIs (.ref I) "set_iterator":=⟨_,hI,rfl⟩;show ae (iu (jp hT fP (b9 fP hT nW ?_ (pG _))));show ae (ae (ao (ao ?_)));show ae (md hI 9 ?_);show ae ?_;show ae (x.state (ao ?_));rw[aI 58];simp only[eT];show ae (PF x (au _) hd ?_);have lo:=mG (by rw[(A6 w S es ep).length_eq,bB];show au _);rw[lo,Option.map_none];show ae (hV hI 9 58 ?_);have zZ:∀b o,b≠I->s.heap.get? b=some o->(s.heap.update I (Obj.mapFields (·.setIfInBounds 2 Value.none))).get? b=some o:=λb o nb e=>(cv _ _ (cQ nb)).trans e;show IH (show A.in1.handled=none from hh) λh' e kp agO=>?_;let(o,ho,hc):=agO;show ae (ju ⟨o,ho,hc⟩ pB (ao (k _ {λb o hb q=>kp b o (zZ b o (λz=>hb (aA.mpr z)) q),9,9,9,au _})))
 self:=by ext i s Q E ⟨x,hI⟩ h;show Ke ⟨_,hI,rfl⟩ h
def ae6(hh:A.handled=none){S I T:bn}(ne:S≠I)(nT:T≠I){ps:List Nat}(hp:ps.Perm (List.range 67)):
  Y' prog w A I [I,S,T] [I] (λa b=>b=a) 67 (λi v=>((ps.filterMap (es[·]?)).map (·.2))[i]?=some v) (λi s=>Sat w s.heap S es ep t/\s.heap.get? I=some (yy (.ref T) i S 67 ep)/\s.heap.get? T=some {cls:=.type "tuple",data:=.seq (ps.map λ(i:Nat)=>sK i).toArray}) where
 sub:=λb hb=>aA.mp hb▸aw
 grefl:=λ_=>9
 gtrans:=λ_ _ _ h1 h2=>h2.trans h1
 frame:=λi s h' tk st _ hk=>{st.1.keep λo e=>hk S 58 o e,hk I 58 _ st.2.1,hk T 58 _ st.2.2}
 item:=by
  ext i s Q E hi ⟨x,hI,hTt⟩ k;have hT:s.TypeIs (.ref I) "set_iterator":=⟨_,hI,rfl⟩;show ae (iu (jp hT fP (b9 fP hT nW ?_ (pG _))));show ae (ae (ao (ao ?_)));show ae (md hI 9 ?_);show ae ?_;show ae (x.state (ao ?_));rw[aI 58];simp only[eT];show ae (dk hTt 9 ?_);have lp:ps.length=67:=by rw[hp.length_eq,eS]
  have li:i<ps.length:=by lia
  have lpi:=cw.mp (hp.mem_iff.mp (jA li));have e1:((ps.map λ(i:Nat)=>sK i).toArray)[i]?=some (.int (ps[i]:Nat) 0):=by simp[li,sK]
  dsimp only;rw[e1];show ae ?_;show ae (x.state ?_);dsimp only;rw[aI 58];simp only[eT];rw[cE lpi];show ao ?_;show ae (hV hI 9 58 ?_);show ao {_,9,ao ?_};have zZ:∀b o,b≠I->s.heap.get? b=some o->(s.heap.update I (Obj.mapFields (·.setIfInBounds 1 (sK ((i:Int)+1))))).get? b=some o:=λb o nb e=>(cv _ _ (cQ nb)).trans e;show k _ _ ?_ {x.keep λo e=>zZ S o ne e,(vQ (i:=1) (x:=sK ((i:Int)+1)) hI),zZ T _ nT hTt} {λb o hb e=>zZ b o (λz=>hb (aA.mpr z)) e,9,9,9,au _};have all:∀(l:List Nat),(∀p∈l,p<67)->∀j:Nat,(l.filterMap (es[·]?))[j]?=(l[j]?).bind (es[·]?):=by
   ext l
   induction l with
   |nil=>ext _ j;simp
   |cons p l ih=>
    ext hl j;have lp:=hl p aw;rw[fI,cE lp];cases j with
    |zero=>simp[lp]
    |succ j=>
     show ih (λq hq=>hl q (ay _ hq)) j
  rw[aZ,all ps (λp hq=>cw.mp (hp.mem_iff.mp hq)) i,av li];simp[lpi]
 done:=by
  ext s Q E ⟨x,hI,hTt⟩ k;have hT:s.TypeIs (.ref I) "set_iterator":=⟨_,hI,rfl⟩;show ae (iu (jp hT fP (b9 fP hT nW ?_ (pG _))));show ae (ae (ao (ao ?_)));show ae (md hI 9 ?_);show ae ?_;show ae (x.state (ao ?_));rw[aI 58];simp only[eT];show ae (dk hTt 9 ?_);have lp:ps.length=67:=by rw[hp.length_eq,eS]
  have e1:((ps.map λ(i:Nat)=>sK i).toArray)[67]?=none:=by simp[lp]
  dsimp only;rw[e1];show ae (hV hI 9 58 ?_);show ae (hV (vQ (i:=0) (x:=sK 0) hI) 9 58 ?_);have zZ:∀b o,b≠I->s.heap.get? b=some o->((s.heap.update I (Obj.mapFields (·.setIfInBounds 0 (sK 0)))).update I (Obj.mapFields (·.setIfInBounds 2 Value.none))).get? b=some o:=λb o nb e=>(cv _ _ (cQ nb)).trans ((cv _ _ (cQ nb)).trans e);show IH (show A.in1.handled=none from hh) λh' e kp agN=>?_;let(o,ho,hc):=agN;show ae (ju ⟨o,ho,hc⟩ pB (ao (k _ {λb o hb q=>kp b o (zZ b o (λz=>hb (aA.mpr z)) q),9,9,9,au _})))
 self:=by ext i s Q E ⟨x,hI,_⟩ h;show Ke ⟨_,hI,rfl⟩ h
def NY(hT:s.TypeIs (.ref r) "set")(h:Q false s):fv 24 A (Builtin.List.listLengthHint (.ref r)) Q E s:=by
 show ae (iV hT aa8 ?_);generalize hid:("set.__len__":String)=id0
 wp_delta
 subst hid;show ae (ju (b:=true) hT (by rw[Ah];kernel_rfl) ?_);show rB (λxi=>absurd xi 7) (λ_=>?_);show rB (λ_=>?_) (λxi=>absurd 21 xi);show ae (ij hT (ao h))
def aaN{S:bn}(x:Sat w s.heap S es ep t)(hn:67<=100000)
  (h1:(w.params.followText "set-order"=true\/(!t.plain&&decide (67>1))=false)->Q (.ref 17) {s with heap:=s.heap.push (yy (.int 0 0) 0 S 67 ep)})
  (h2:∀(ps:List Nat) d,ps.Perm (List.range 67)->Q (.ref (17+1)) {s with heap:=(s.heap.push {cls:=.type "tuple",data:=.seq (ps.map λ(i:Nat)=>sK i).toArray}).push (yy (.ref 17) 0 S 67 ep),drawn:=d}):
  fv 24 A (No (.ref S)) Q E s:=by
 let(o,ho,hex,hd):=x.ob;have hT:s.TypeIs (.ref S) "set":={o,ho,hex.1};show vx hT F.slot_set_iter (b9 F.slot_set_iter hT Jw ?_ (F.args_set_iter_1 _));unfold Builtin.«frozenset.__iter__» Builtin.Frozenset.slot0 slotArgs;show ae (ae (ao (ao ?_)));show ae ?_;show ae (ae (x.state (ao (ao ?_))));show ae ?_;show ae (x.state ?_);show ae (Co ?_);show ao ?_;change fv 24 _ (if(!w.params.followText "set-order"&&(!t.plain&&decide (67>1)))=true then _ else _) _ _ s;by_cases c:(!w.params.followText "set-order"&&(!t.plain&&decide (67>1)))=true
 ·rw[aL c];show ae (PJ 67 (List.range 67) s 58 λps d hp=>?_);show ae (cT ?_ (by change(ps.map _).toArray.size<=_;rw[aQ,ah,hp.length_eq,eS,bW];lia));have x2:Sat w (s.heap.push {cls:=.type "tuple",data:=.seq (ps.map λ(i:Nat)=>sK i).toArray}) S es ep t:=x.keep λo e=>aj _ e;show ae ?_;show ae (Sat.state x2 (ao ?_));show ae (cT (ao {_,9,"set_iterator",_,{_,aR _ rfl,9},fP.lookup,?_}));have:=h2 ps d hp;rw[du];show this
 ·rw[aI c];show ae (ao ?_);show ae ?_;show ae (x.state (ao ?_));show ae (cT (ao {_,9,"set_iterator",_,{_,aR _ rfl,9},fP.lookup,h1 ?_}));cases q:w.params.followText "set-order"with
  |true=>show .inl rfl
  |false=>
   rw[q]at c;show .inr (ie.mpr c)
def Qh(l:Aag)(acc:Aal)(ha:WF (λi v=>l[i]?=some v) acc l.length):acc.toList=l:=by
 show List.ext_getElem? λi=>?_;by_cases c:i<l.length
 ·have ci:i<acc.size:=ha.1▸c;have:=ha.2 i acc[i] (cE ci);rw[this,df,cE ci]
 ·rw[mG (by rw[bB,ha.1];lia),mG ∅]
theorem Um{α:Type}:∀l:List α,(List.range l.length).filterMap (λi=>l[i]?)=l
 |[]=>rfl
 |x::l=>by rw[bx,zI,fI];change x::_=_;rw[u4];congr 1;show Um l
def SH{S L:bn}(hh:A.handled=none)(x:Sat w s.heap S es ep t)(hn:67<=100000)(Qp:L≠S)(hL:s.heap.get? L=some {cls:=.type "list",data:=.seq #[] c₀})
  (hR:∀h' tk d acc c,(∀b o,b≠L->s.heap.get? b=some o->h'.get? b=some o)->h'.get? L=some {cls:=.type "list",dict:=none,data:=.seq acc c,slots:=#[]}->acc.toList.Perm (es.toList.map (·.2))->R (.ok (.ret res)) {s with heap:=h',toks:=tk,drawn:=d}):
  fv 24 A.in1 (Builtin.List.listExtendWith (.ref L) (.ref S) res)
   (λfin s'=>match fin with| .done f=>R (.ok f) s'| .again c'=>c'.quiet=true/\wE 24 A c' R s') (λe s'=>R (.error e) s') s:=by
 let(o,ho,hex,hd):=x.ob;have hS:=aX ho;have hLl:=aX hL;have key:∀(I:bn)(fp:Aaj)(P:Nat->f'->Prop)(St:Nat->cr->Prop),Y' prog w A.in1 I fp [I] (λa b=>b=a) 67 P St->17<=I->L∉fp->(∀acc:Aal,WF P acc 67->acc.toList.Perm (es.toList.map (·.2)))->
   ∀(h:i5)(d:X')(c₁ tk:Nat),(∀b o,b≠L->s.heap.get? b=some o->h.get? b=some o)->h.get? L=some {cls:=.type "list",data:=.seq #[] c₁}->St 0 {s with heap:=h,toks:=tk,drawn:=d}->
   wE 24 A (.builtin "list.extend.loop" {[.ref L,.ref I,res],[]}) R {s with heap:=h,toks:=tk,drawn:=d}:=by
  ext I fp P St W hI nf hP h d c₁ tk hk afO st;show codeAny_extend_loopS W (by rw[bW];lia) _ nf _ 67 0 _ _ _ rfl (aJ _) st afO (ItemsOf.nil P) λs' vk c' hm V4 Sw=>?_;let(h',g',d',LZ,Z4):=s';have eg:=hm.gens;have ed:d'=d:=hm.drawn;have eo:=hm.os;subst eg ed eo;show hR h' LZ d' vk c' (λb o hb e=>hm.heap b o ?_ (hk b o hb e)) V4 (hP vk Sw);have lt:=aX e;ext q;rcases aN.mp q with q|q
  ·show hb q
  ·rw[aA.mp q]at lt;show absurd (br lt hI) (c7 _)
 have tail:∀(I:bn)(fp:Aaj)(P:Nat->f'->Prop)(St:Nat->cr->Prop),Y' prog w A.in1 I fp [I] (λa b=>b=a) 67 P St->17<=I->L∉fp->(∀acc:Aal,WF P acc 67->acc.toList.Perm (es.toList.map (·.2)))->
   ∀(h:i5)(d:X'),(∀b o,s.heap.get? b=some o->h.get? b=some o)->St 0 {s with heap:=h,drawn:=d}->
   fv 24 A.in1 (Builtin.List.listTouch (.ref L)>>=λ_=>again (.builtin "list.extend.loop" {[.ref L,.ref I,res],[]})) (λfin s'=>match fin with| .done f=>R (.ok f) s'| .again c'=>c'.quiet=true/\wE 24 A c' R s') (λe s'=>R (.error e) s') {s with heap:=h,drawn:=d}:=by
  ext I fp P St W hI nf hP h d hk st;show ae ?_;have aaw:=hk _ _ hL;show ae (yf aaw 9 ?_);have aav:=dU (Obj.mapSeq (·.push Value.none)) aaw rfl;show yf aav rfl ?_;have afN:=dU (Obj.mapSeq (·.pop)) aav rfl;have zZ:∀b o,b≠L->h.get? b=some o->((h.update L (Obj.mapSeq (·.push Value.none))).update L (Obj.mapSeq (·.pop))).get? b=some o:=
   λb o hb e=>(cv _ _ (cQ hb)).trans ((cv _ _ (cQ hb)).trans e)
  show ao {nh tw _,key I fp P St W hI nf hP _ d _ s.toks (λb o hb e=>zZ b o hb (hk b o e)) afN (W.frame 0 {s with heap:=h,drawn:=d} _ s.toks st (au _) λb hb o e=>zZ b o (λz=>nf (z▸hb)) e)}
 have e1:Builtin.List.listSameRef (.ref L) (.ref S)=false:=by simp[Builtin.List.listSameRef,Qp]
 have e2:(Value.type "set"==Value.type "list")=false:=by decide
 have e3:(Value.type "set"==Value.type "tuple")=false:=by decide
 show ae (ij ({o,ho,hex.1}) ?_);simp only[e1,e2,e3,Cc,cD,fR];show ae (aaN x hn (λhc=>?_) λps d hp=>?_)
 ·have W:=ae7 (prog:=prog) (A:=A.in1) (ep:=ep) (by simpa using hh) (aW hS) hc;have nf:L∉[17,S]:=λhb=>by
   rcases aN.mp hb with q|q
   ·show absurd q (aW hLl)
   ·show Qp (aA.mp q)
  have hP:∀acc:Aal,WF (λi v=>((vX w S es ep).map (·.2))[i]?=some v) acc 67->acc.toList.Perm (es.toList.map (·.2)):=λacc ha=>by
   have lo:((vX w S es ep).map (·.2)).length=67:=by rw[ah,(A6 w S es ep).length_eq,bB]
   rw[<-lo]at ha;rw[Qh _ acc ha];show(A6 w S es ep).map _
  have kp:∀b o,s.heap.get? b=some o->(s.heap.push (yy (.int 0 0) 0 S 67 ep)).get? b=some o:=λb o e=>aj _ e;have st:Sat w (s.heap.push (yy (.int 0 0) 0 S 67 ep)) S es ep t/\(s.heap.push (yy (.int 0 0) 0 S 67 ep)).get? 17=some (yy (.int (yY w t 0) 0) 0 S 67 ep):={x.keep λo e=>kp _ _ e,aR _ rfl};show ae (b5 (NY {o,kp _ _ ho,hex.1} ?_));show rB (λ_=>ae (iW (tail _ _ _ _ W (au _) nf hP _ s.drawn kp st))) (λ_=>ao {nh tw _,key _ _ _ _ W (au _) nf hP _ s.drawn c₀ s.toks (λb o _ e=>kp b o e) (kp _ _ hL) st})
 ·have nT:17≠17+1:=aW (dJ _);have W:=ae6 (prog:=prog) (w:=w) (A:=A.in1) (ep:=ep) (t:=t) (by simpa using hh) (aW (eP hS)) nT hp;have nf:L∉[17+1,S,17]:=λhb=>by
   rcases aN.mp hb with q|q
   ·show absurd q (aW (eP hLl))
   ·rcases aN.mp q with q|q
    ·show Qp q
    ·show absurd (aA.mp q) (aW hLl)
  have hP:∀acc:Aal,WF (λi v=>((ps.filterMap (es[·]?)).map (·.2))[i]?=some v) acc 67->acc.toList.Perm (es.toList.map (·.2)):=λacc ha=>by
   have hl:(ps.filterMap (es[·]?)).Perm es.toList:=by
    have:=hp.filterMap (es.toList[·]?);rw[<-bB]at this;have e4:(ps.filterMap (es[·]?))=ps.filterMap (es.toList[·]?):=by simp
    rw[e4];rwa [Um]at this
   have lo:((ps.filterMap (es[·]?)).map (·.2)).length=67:=by rw[ah,hl.length_eq,bB]
   rw[<-lo]at ha;rw[Qh _ acc ha];show hl.map _
  generalize N0:(s.heap.push {cls:=.type "tuple",data:=.seq (ps.map λ(i:Nat)=>sK i).toArray}).push (yy (.ref 17) 0 S 67 ep)=iZ;have kp:∀b o,s.heap.get? b=some o->iZ.get? b=some o:=λb o e=>by rw[<-N0];show aj _ (aj _ e)
  have gI:iZ.get? (17+1)=some (yy (.ref 17) 0 S 67 ep):=by have:=aR (s.heap.push {cls:=.type "tuple",data:=.seq (ps.map λ(i:Nat)=>sK i).toArray}) (o:=yy (.ref 17) 0 S 67 ep) rfl;rw[du]at this;rw[<-N0];show this
  have st:Sat w iZ S es ep t/\iZ.get? (17+1)=some (yy (.ref 17) 0 S 67 ep)/\iZ.get? 17=some {cls:=.type "tuple",data:=.seq (ps.map λ(i:Nat)=>sK i).toArray}:={x.keep λo e=>kp _ _ e,gI,(by rw[<-N0];show aj _ (aR _ 9))};show ae (b5 (NY {o,kp _ _ ho,hex.1} ?_));show rB (λ_=>ae (iW (tail _ _ _ _ W (d8 _) nf hP iZ d kp st))) (λ_=>ao {nh tw _,key _ _ _ _ W (d8 _) nf hP iZ d c₀ s.toks (λb o _ e=>kp b o e) (kp _ _ hL) st})
def Pu{S:bn}(hh:A.handled=none)(x:Sat w s.heap S es ep t)(hn:67<=100000)
  (h:∀h' tk d vs,vs.Perm (es.toList.map (·.2))->(∀b o,s.heap.get? b=some o->h'.get? b=some o)->R vs {s with heap:=h',toks:=tk,drawn:=d}):fv 24 A (collect (.ref S)) R E s:=by
 let(o,ho,hex,hd):=x.ob;show ae (wpAny_runValue (fk F.entry_proto_collect ?_));show ae (cT ?_);show ao {nh F.plain_list_iadd _,fk F.entry_list_iadd ?_};have k1:∀b o,s.heap.get? b=some o->(s.heap.push {cls:=.type "list",data:=.seq ([]:Aag).toArray}).get? b=some o:=λb o e=>aj _ e;have hL:(s.heap.push {cls:=.type "list",data:=.seq ([]:Aag).toArray}).get? 17=some {cls:=.type "list",data:=.seq #[]}:=aR _ rfl;have key:=SH (prog:=prog) (s:={s with heap:=s.heap.push {cls:=.type "list",data:=.seq ([]:Aag).toArray}})
  (R:=λ(q:TD)(s':cr)=>∃(h':i5)(tk:Nat)(d:X')(vk:Aal)(c':Nat),q=.ok (.ret (.ref 17))/\s'={s with heap:=h',toks:=tk,drawn:=d}/\
   (∀b o,s.heap.get? b=some o->h'.get? b=some o)/\h'.get? 17=some {cls:=.type "list",dict:=none,data:=.seq vk c',slots:=#[]}/\vk.toList.Perm (es.toList.map (·.2)))
  hh (x.keep λo e=>k1 _ _ e) hn (cq (aX ho)) hL λh' tk d acc c kp g pm=>{h',tk,d,acc,c,9,9,λb o e=>kp b o (aW (aX e)) (k1 _ _ e),g,pm}
 show dE key (λfin s' x=>?_) λe s' x=>?_
 ·cases fin with
  |done f=>
   let(h',tk,d,vk,c',e,rfl,hk,V4,pm):=x;cases e;show ae (GY V4 (ao (h h' tk d vk.toList pm hk)))
  |again c₁=>
   show{x.1,mz x.2 λq aad y=>?_};let(h',tk,d,vk,c',rfl,rfl,hk,V4,pm):=y;show ae (GY V4 (ao (h h' tk d vk.toList pm hk)))
 ·let(__,__,__,__,__,e',__):=x;cases e'
end
end Tb
namespace uY
open PySem PySem.W PyProof.Rows
def ev{α:Type}(lt:Nat->Nat->Bool):KasT α->α
 | .ret a=>a
 | .ask i j k=>ev lt (k (lt i j))
theorem wo{α β:Type}{lt:Nat->Nat->Bool}{f:α->KasT β}:∀t:KasT α,ev lt (t.bind f)=ev lt (f (ev lt t))
 | .ret _=>rfl
 | .ask i j k=>wo (k (lt i j))
section
variable{rk:Nat->Nat}
abbrev iA(rk:Nat->Nat)(i j:Nat):Bool:=decide (rk i<rk j)
abbrev gK(rk:Nat->Nat)(p:Array Nat)(k:Nat):Nat:=rk (p.getD k 0)
def xk{p q:Array Nat}{i j:Nat}(h:p[i]?=q[j]?):gK rk p i=gK rk q j:=by unfold gK;rw[u7,u7,h]
def V9{p:Array Nat}{src d:Nat}(hs:src<p.size)(hd:d<=src)(k:Nat):gK rk (bubble p src d) k=if k=src -d then gK rk p src else if src -d<k/\k<=src then gK rk p (k -1)else gK rk p k:=by
 have e:=getElem?_bubble hs d hd k;by_cases h1:k=src -d
 ·rw[aL h1]at e⊢;show xk e
 ·rw[aI h1]at e⊢;by_cases h2:src -d<k/\k<=src
  ·rw[aL h2]at e⊢;show xk e
  ·rw[aI h2]at e⊢;show xk e
def Oi{p:Array Nat}{i j:Nat}(hj:j<=p.size)(k:Nat):gK rk (FB p i j) k=if i<=k/\k<j then gK rk p (i+j -1 -k)else gK rk p k:=by
 have e:=getElem?_mirror_all (i:=i) hj k;by_cases h1:i<=k/\k<j
 ·rw[aL h1]at e⊢;show xk e
 ·rw[aI h1]at e⊢;show xk e
def Gi(p:Array Nat)(i j:Nat):(FB p i j).size=p.size:=mirror_size _ _ _ _
def mT(p:Array Nat)(i j:Nat):(FB p i j).Perm p:=mirror_perm _ _ _ _
def Up(rk:Nat->Nat)(p:Array Nat)(n:Nat):Prop:=∀i j,i<=j->j<n->gK rk p i<=gK rk p j
def Dn(rk:Nat->Nat)(p:Array Nat)(n:Nat):Prop:=∀i j,i<=j->j<n->gK rk p j<=gK rk p i
def Up.more{p:Array Nat}{n:Nat}(h:Up rk p n)(h1:1<=n)(hn:gK rk p (n -1)<=gK rk p n):Up rk p (n+1):=λi j Dh hj=>by
 by_cases e:j=n
 ·subst e;by_cases e2:i=j
  ·rw[e2];show au _
  ·show bc (h i (j -1) ∅ ∅) hn
 ·show h i j Dh ∅
def Dn.more{p:Array Nat}{n:Nat}(h:Dn rk p n)(h1:1<=n)(hn:gK rk p n<=gK rk p (n -1)):Dn rk p (n+1):=λi j Dh hj=>by
 by_cases e:j=n
 ·subst e;by_cases e2:i=j
  ·rw[e2];show au _
  ·show bc hn (h i (j -1) ∅ ∅)
 ·show h i j Dh ∅
theorem Ow{p:Array Nat}:∀(f n:Nat),1<=n->Up rk p n->n<=ev (iA rk) (zn p f n)/\ev (iA rk) (zn p f n)<=n+f/\Up rk p (ev (iA rk) (zn p f n))/\(ev (iA rk) (zn p f n)=n+f\/gK rk p (ev (iA rk) (zn p f n))<gK rk p (ev (iA rk) (zn p f n) -1))
 |0,n,_,hu=>{au _,au _,hu,.inl rfl}
 |f+1,n,h1,hu=>by
  change n<=ev (iA rk) 98/\ev (iA rk) 98<=n+(f+1)/\Up rk p (ev (iA rk) 98)/\(ev (iA rk) 98=n+(f+1)\/gK rk p (ev (iA rk) 98)<gK rk p (ev (iA rk) 98 -1));by_cases c:iA rk (p.getD n 0) (p.getD (n -1) 0)=true
  ·rw[aL c];show{au _,eG _ _,hu,.inr (aU c)}
  ·rw[aI c];let(a1,a2,a3,a4):=Ow f (n+1) ∅ (hu.more h1 (kN λh=>c (bb h)));show{8,8,a3,a4.imp (λe=>by lia) id}
structure ae5(rk:Nat->Nat)(p:Array Nat)(n q:Nat):Prop where
 dn:Dn rk p n
 q1:q+1<=n
 eq:∀k,n -(q+1)<=k->k<n->gK rk p k=gK rk p (n -1)
def CK{p:Array Nat}{i j:Nat}(hj:j<=p.size)(he:∀k,i<=k->k<j->gK rk p k=gK rk p (j -1))(k:Nat):gK rk (FB p i j) k=gK rk p k:=by
 rw[Oi hj];split
 ·rw[he _ ∅ ∅,he k ∅ ∅]
 ·rfl
def Dn.of{p p':Array Nat}{n:Nat}(h:Dn rk p n)(e:∀k,gK rk p' k=gK rk p k):Dn rk p' n:=λi j Dh hj=>by rw[e,e];show h i j Dh hj
theorem EK:∀(f:Nat)(p:Array Nat)(n q:Nat),n+f<=p.size->ae5 rk p n q->∃p' m q',ev (iA rk) (Gc f p n q)=(p',m,q')/\p'.Perm p/\n<=m/\m<=n+f/\ae5 rk p' m q'
 |0,p,n,q,_,hf=>{p,n,q,9,.refl _,au _,au _,hf}
 |f+1,p,n,q,hs,hf=>by
  have q1:=hf.q1;change∃p' m q',ev (iA rk) (if iA rk (p.getD n 0) (p.getD (n -1) 0)=true then(if q>0 then Gc f (FB p (n -(q+1)) n) (n+1) 0 else Gc f p (n+1) 0)else .ask (p.getD (n -1) 0) (p.getD n 0) λd=>if d=true then .ret (p,n,q)else Gc f p (n+1) (q+1))=(p',m,q')/\_;by_cases c:iA rk (p.getD n 0) (p.getD (n -1) 0)=true
  ·rw[aL c];have c':gK rk p n<gK rk p (n -1):=aU c;by_cases hq:q>0
   ·rw[aL hq];have al:=CK ∅ hf.eq;let(p',m,q',e,hp,h1,h2,h3):=EK f (FB p (n -(q+1)) n) (n+1) 0 (by rw[Gi];lia) {(hf.dn.of al).more ∅ (by rw[al,al];lia),8,λk Dg yD=>by rw[show k=n by lia];rfl};show{p',m,q',e,hp.trans (mT _ _ _),8,8,h3}
   ·rw[aI hq];let(p',m,q',e,hp,h1,h2,h3):=EK f p (n+1) 0 ∅ {hf.dn.more ∅ ∅,8,λk Dg yD=>by rw[show k=n by lia];rfl};show{p',m,q',e,hp,8,8,h3}
  ·rw[aI c];have c':gK rk p (n -1)<=gK rk p n:=kN λh=>c (bb h);change∃p' m q',ev (iA rk) (if iA rk (p.getD (n -1) 0) (p.getD n 0)=true then .ret (p,n,q)else Gc f p (n+1) (q+1))=(p',m,q')/\_;by_cases d:iA rk (p.getD (n -1) 0) (p.getD n 0)=true
   ·rw[aL d];show{p,n,q,9,.refl _,au _,eG _ _,hf}
   ·rw[aI d];have d':gK rk p n<=gK rk p (n -1):=kN λh=>d (bb h);let(p',m,q',e,hp,h1,h2,h3):=EK f p (n+1) (q+1) ∅ {hf.dn.more ∅ d',by lia,λk Dg yD=>by
     change gK rk p k=gK rk p n;by_cases ek:k=n
     ·rw[ek]
     ·rw[hf.eq k ∅ ∅];lia}
    show{p',m,q',e,hp,8,8,h3}
def QZ{p:Array Nat}{n N:Nat}(h1:1<=n)(hn:n<=N)(hN:N<=p.size)(hd:Dn rk p n):∃m p',ev (iA rk) (kas_tail3 n N p)=(m,p')/\p'.Perm p/\1<=m/\m<=N/\Up rk p' m:=by
 unfold kas_tail3;rw[wo];have hu:Up rk (FB p 0 n) n:=λi j Dh hj=>by rw[Oi ∅,Oi ∅,aL ∅,aL ∅];show hd _ _ ∅ ∅
 let(a1,a2,a3,__):=Ow (N -n) n h1 hu;show{_,_,9,mT _ _ _,8,8,a3}
def FQ{p:Array Nat}{n N:Nat}(h1:1<=n)(hn:n<N)(hN:N<=p.size)(hd:Dn rk p (n+1)):∃m p',ev (iA rk) (kas_descPart n N p)=(m,p')/\p'.Perm p/\1<=m/\m<=N/\Up rk p' m:=by
 unfold kas_descPart;rw[wo];let(p',m,q',e,hp,a1,a2,hf):=EK (N -(n+1)) p (n+1) 0 ∅ {hd,8,λk Dg yD=>by rw[show k=n by lia];rfl};rw[e];have sz:=hp.size_eq;by_cases hq:q'>0
 ·rw[aL hq];have al:=CK ∅ hf.eq;let(m1,p1,e1,jB,b1,b2,b3):=QZ (N:=N) ∅ ∅ (by rw[Gi];lia) (hf.dn.of al);show{m1,p1,e1,(jB.trans (mT _ _ _)).trans hp,b1,b2,b3}
 ·rw[aI hq];let(m1,p1,e1,jB,b1,b2,b3):=QZ (N:=N) ∅ ∅ ∅ hf.dn;show{m1,p1,e1,jB.trans hp,b1,b2,b3}
def YV{p:Array Nat}{N:Nat}(h1:1<=N)(hN:N<=p.size):∃m p',ev (iA rk) (kas_count N p)=(m,p')/\p'.Perm p/\1<=m/\m<=N/\Up rk p' m:=by
 unfold kas_count;rw[wo];let(a1,a2,a3,a4):=Ow (rk:=rk) (p:=p) (N -1) 1 (au _) (λi j Dh hj=>by rw[show i=j by lia];show au _);generalize ev (iA rk) (zn p (N -1) 1)=n at a1 a2 a3 a4;by_cases hnn:n=N
 ·rw[aL (by simpa using hnn)];show{n,p,9,.refl _,8,8,a3}
 ·rw[aI (by simpa using hnn)];have bN:gK rk p n<gK rk p (n -1):=a4.resolve_left ∅;by_cases hgt:n>1
  ·rw[aL hgt];change∃m p',ev (iA rk) (if iA rk (p.getD 0 0) (p.getD (n -1) 0)=true then .ret (n,p)else kas_descPart n N (FB p 0 n))=(m,p')/\_;by_cases c:iA rk (p.getD 0 0) (p.getD (n -1) 0)=true
   ·rw[aL c];show{n,p,9,.refl _,8,8,a3}
   ·rw[aI c];have c':gK rk p (n -1)<=gK rk p 0:=kN λh=>c (bb h);have oB:∀k,0<=k->k<n->gK rk p k=gK rk p (n -1):=λk _ hk=>by have b1:=a3 0 k ∅ hk;have b2:=a3 k (n -1) ∅ ∅;lia
    have al:=CK (rk:=rk) (p:=p) (i:=0) (j:=n) ∅ oB;let(m1,p1,e1,jB,b1,b2,b3):=FQ (rk:=rk) (p:=FB p 0 n) (n:=n) (N:=N) ∅ ∅ (by rw[Gi];lia) (λi j Dh hj=>by
     rw[al,al];by_cases hjn:j=n
     ·by_cases nU:i=n
      ·rw[nU,hjn];show au _
      ·rw[hjn,oB i ∅ ∅];lia
     ·rw[oB i ∅ ∅,oB j ∅ ∅];show au _)
    show{m1,p1,e1,jB.trans (mT _ _ _),b1,b2,b3}
  ·rw[aI hgt];have e1:n=1:=by lia
   subst e1;have bN:gK rk p 1<gK rk p 0:=bN;show FQ ∅ ∅ hN λi j Dh hj=>by
    by_cases e:i=j
    ·rw[e];show au _
    ·rw[show i=0 by lia,show j=1 by lia];lia
theorem GA{p:Array Nat}{k:Nat}(hu:Up rk p k):∀(f l r:Nat),l<=r->r<=k->r -l<=f->(∀i,i<l->gK rk p i<=gK rk p k)->(∀i,r<=i->i<k->gK rk p k<=gK rk p i)->∃x,ev (iA rk) (kas_place p k f l r)=x/\x<=k/\(∀i,i<x->gK rk p i<=gK rk p k)/\∀i,x<=i->i<k->gK rk p k<=gK rk p i
 |0,l,r,h1,h2,h3,h4,h5=>{l,9,8,h4,λi a b=>h5 i ∅ b}
 |f+1,l,r,h1,h2,h3,h4,h5=>by
  change∃x,ev (iA rk) (if l≥r then KasT.ret l else .ask (p.getD k 0) (p.getD ((l+r)/2) 0) λc=>if c=true then kas_place p k f l ((l+r)/2)else kas_place p k f ((l+r)/2+1) r)=x/\_;by_cases c:l≥r
  ·rw[aL c];show{l,9,8,h4,λi a b=>h5 i ∅ b}
  ·rw[aI c];change∃x,ev (iA rk) (if iA rk (p.getD k 0) (p.getD ((l+r)/2) 0)=true then kas_place p k f l ((l+r)/2)else kas_place p k f ((l+r)/2+1) r)=x/\_;by_cases d:iA rk (p.getD k 0) (p.getD ((l+r)/2) 0)=true
   ·rw[aL d];show GA hu f l ((l+r)/2) ∅ ∅ ∅ h4 λi a b=>bc (bE (aU d)) (hu _ i a b)
   ·rw[aI d];show GA hu f ((l+r)/2+1) r ∅ h2 ∅ (λi hi=>bc (hu i ((l+r)/2) ∅ ∅) (kN λh=>d (bb h))) h5
theorem Wg:∀(f:Nat)(p:Array Nat)(k:Nat),k+f<=p.size->Up rk p k->∃p',ev (iA rk) (kas_bin f p k)=p'/\p'.Perm p/\Up rk p' (k+f)
 |0,p,k,_,hu=>{p,9,.refl _,hu}
 |f+1,p,k,hs,hu=>by
  change∃p',ev (iA rk) ((kas_place p k k 0 k).bind λl=>kas_bin f (bubble p k (k -l)) (k+1))=p'/\_;rw[wo];let(x,e,hx,h1,h2):=GA hu k 0 k (aJ _) (au _) ∅ (λi hi=>absurd hi (eC _)) λi a b=>by lia
  rw[e];have hb:=λj=>V9 (rk:=rk) (p:=p) (src:=k) (d:=k -x) ∅ ∅ j;rw[show k -(k -x)=x by lia]at hb;have qX:Up rk (bubble p k (k -x)) (k+1):=λi j Dh hj=>by
   rw[hb,hb];by_cases c1:i=x
   ·rw[aL c1];by_cases c2:j=x
    ·rw[aL c2];show au _
    ·rw[aI c2,aL ∅];show h2 (j -1) ∅ ∅
   ·rw[aI c1];by_cases c3:x<i/\i<=k
    ·rw[aL c3,aI ∅,aL ∅];show hu _ _ ∅ ∅
    ·rw[aI c3];by_cases c2:j=x
     ·rw[aL c2];show h1 i ∅
     ·rw[aI c2];by_cases c4:x<j/\j<=k
      ·rw[aL c4];show hu _ _ ∅ ∅
      ·rw[aI c4];show hu _ _ Dh ∅
  let(p',e',hp,FF):=Wg f (bubble p k (k -x)) (k+1) (by rw[bubble_size];lia) qX;show{p',e',hp.trans (bubble_perm _ _ _),by rw[show k+(f+1)=k+1+f by lia];show FF}
def ab5{n:Nat}(h1:1<=n):∃p,ev (iA rk) (kas_sort n)=p/\p.toList.Perm (List.range n)/\Up rk p n:=by
 unfold kas_sort;rw[wo];have sz:(List.toArray (List.range n)).size=n:=by simp
 let(m,p,e,hp,b1,b2,hu):=YV (p:=List.toArray (List.range n)) h1 ∅;rw[e];have sp:p.size=n:=by rw[hp.size_eq,sz]
 have hl:p.toList.Perm (List.range n):=by have:=vv.mp hp;simpa using this
 by_cases c:m<n
 ·rw[aL c,show max m 1=m by lia];let(p',e',QJ,qX):=Wg (n -m) p m ∅ hu;show{p',e',(vv.mp QJ).trans hl,by rw[show n=m+(n -m) by lia];show qX}
 ·rw[aI c];show{p,9,hl,by rw[show n=m by lia];show hu}
def qi{α:Type}(n:Nat)(P:α->Prop):KasT α->Prop
 | .ret a=>P a
 | .ask i j k=>i<n/\j<n/\∀b,qi n P (k b)
theorem qi.bind{α β:Type}{n:Nat}{P:α->Prop}{R:β->Prop}{f:α->KasT β}:∀{t:KasT α},qi n P t->(∀a,P a->qi n R (f a))->qi n R (t.bind f)
 | .ret a,h,k=>k a h
 | .ask i j g,h,k=>{h.1,h.2.1,λb=>qi.bind (h.2.2 b) k}
theorem Wf{α:Type}{n:Nat}{P:α->Prop}{lt:Nat->Nat->Bool}{cmp:Nat->Nat->(Bool->cr->Prop)->cr->Prop}{J:cr->Prop}{Q:α->cr->Prop}(hc:∀i j C s,i<n->j<n->J s->(∀s',J s'->C (lt i j) s')->cmp i j C s):∀(t:KasT α)(s:cr),qi n P t->J s->(∀s',J s'->Q (ev lt t) s')->t.kasWp cmp Q s
 | .ret _,s,_,hj,h=>h s hj
 | .ask i j k,s,a,hj,h=>hc i j _ s a.1 a.2.1 hj λs' KI=>Wf hc (k (lt i j)) s' (a.2.2 _) KI h
def Bd(n:Nat)(p:Array Nat):Prop:=∀x∈p,x<n
def Bd.getD{n:Nat}{p:Array Nat}(h:Bd n p)(h0:0<n)(k:Nat):p.getD k 0<n:=by
 by_cases c:k<p.size
 ·have e:p.getD k 0=p[k]:=by simp[Array.getD,c]
  rw[e];show h _ (Array.getElem_mem c)
 ·have e:p.getD k 0=0:=by simp[Array.getD,c]
  rw[e];show h0
def Bd.perm{n:Nat}{p q:Array Nat}(h:Bd n p)(hp:q.Perm p):Bd n q:=λx hx=>h x (hp.mem_iff.mp hx)
end
section
variable{n:Nat}(h0:0<n)
include h0
theorem GS{p:Array Nat}(hb:Bd n p):∀f m,qi n (λ_=>True) (zn p f m)
 |0,m=>trivial
 |f+1,m=>{hb.getD h0 _,hb.getD h0 _,λb=>by
  cases b with
  |true=>show trivial
  |false=>show GS hb f (m+1)}
theorem yL:∀(f:Nat)(p:Array Nat)(m q:Nat),Bd n p->qi n (λr:Array Nat×Nat×Nat=>Bd n r.1) (Gc f p m q)
 |0,p,m,q,hb=>hb
 |f+1,p,m,q,hb=>{hb.getD h0 _,hb.getD h0 _,λb=>by
  cases b with
  |true=>
   change qi n _ (if q>0 then Gc f (FB p (m -(q+1)) m) (m+1) 0 else Gc f p (m+1) 0);split
   ·show yL f _ _ _ (hb.perm (mT _ _ _))
   ·show yL f _ _ _ hb
  |false=>
   show{hb.getD h0 _,hb.getD h0 _,λd=>?_};cases d with
   |true=>show hb
   |false=>show yL f p (m+1) (q+1) hb}
def Lg{p:Array Nat}(hb:Bd n p)(m N:Nat):qi n (λr:Nat×Array Nat=>Bd n r.2) (kas_tail3 m N p):=
 (GS h0 (hb.perm (mT _ _ _)) _ _).bind λ_ _=>hb.perm (mT _ _ _)
def Ca{p:Array Nat}(hb:Bd n p)(m N:Nat):qi n (λr:Nat×Array Nat=>Bd n r.2) (kas_descPart m N p):=
 (yL h0 _ _ _ _ hb).bind λr hr=>by
  split
  ·show Lg h0 (hr.perm (mT _ _ _)) _ _
  ·show Lg h0 hr _ _
def Ta{p:Array Nat}(hb:Bd n p)(N:Nat):qi n (λr:Nat×Array Nat=>Bd n r.2) (kas_count N p):=
 (GS h0 hb _ _).bind λm _=>by
  split
  ·show hb
  ·split
   ·show{hb.getD h0 _,hb.getD h0 _,λb=>?_};cases b with
    |true=>show hb
    |false=>show Ca h0 (hb.perm (mT _ _ _)) _ _
   ·show Ca h0 hb _ _
theorem BA{p:Array Nat}(hb:Bd n p)(k:Nat):∀f l r,qi n (λ_=>True) (kas_place p k f l r)
 |0,l,r=>trivial
 |f+1,l,r=>by
  unfold kas_place;split
  ·show trivial
  ·show{hb.getD h0 _,hb.getD h0 _,λb=>?_};cases b with
   |true=>show BA hb k f _ _
   |false=>show BA hb k f _ _
theorem OT:∀(f:Nat)(p:Array Nat)(k:Nat),Bd n p->qi n (Bd n) (kas_bin f p k)
 |0,p,k,hb=>hb
 |f+1,p,k,hb=>(BA h0 hb k _ _ _).bind λl _=>OT f _ _ (hb.perm (bubble_perm _ _ _))
def WE:qi n (Bd n) (kas_sort n):=
 (Ta h0 (p:=List.toArray (List.range n)) (λx hx=>by simpa using hx) n).bind λr hr=>by
  split
  ·show OT h0 _ _ _ hr
  ·show hr
end
end uY
namespace uY
open PySem PySem.W PyProof.Rows PySem.Calls
section
variable{prog:dL}{w:i3}{A:mo}{E:Aae}{s:cr}{vs:Aag}
def Tk(s s':cr):Prop:=∃t,s'={s with toks:=t}
def Tk.refl(s:cr):Tk s s:={s.toks,9}
abbrev gE(h:i5)(a:bn)(vs:Aag):i5:=((h.update a (Obj.mapSeq λ_=>(#[]:Aal))).push (v0 "tuple" vs.toArray 0)).push (v0 "list" #[] 0)
def Rz{a:bn}{n:Nat}{P:PySem.Fin->cr->Prop}{κ:SortKind}{rk:Nat->Nat}(ho:s.heap.get? a=some (v0 "list" vs.toArray n))(h2:2<=vs.length)(Aq:vs.length<64)
  (hk:∀s',Tk {s with heap:=gE s.heap a vs} s'->fv 24 A (keyKind' vs.toArray) (λk s2=>k=κ/\Tk {s with heap:=gE s.heap a vs} s2) (λ_ _=>False) s')
  (hc:∀i j C s',i<vs.length->j<vs.length->Tk {s with heap:=gE s.heap a vs} s'->(∀s2,Tk {s with heap:=gE s.heap a vs} s2->C (iA rk i j) s2)->kas_ask prog w A κ vs i j C s')
  (k:∀(p:Array Nat)(h':i5)(tk c:Nat),p.toList.Perm (List.range vs.length)->Up rk p vs.length->h'.get? a=some (v0 "list" (List.toArray (p.toList.map λi=>vs.getD i Value.none)) c)->(∀b o,b≠a->s.heap.get? b=some o->h'.get? b=some o)->P (.done (.ret .none)) {s with heap:=h',toks:=tk}):
  fv 24 A (Builtin.«list.sort» {[.ref a],[]}) P E s:=by
 obtain⟨e1,Aj⟩:∃e1,(s.heap.update a (Obj.mapSeq λ_=>(#[]:Aal))).get? a=some (v0 "list" #[] e1):={_,At ho λ_=>#[]};have Oc:(gE s.heap a vs).get? a=some (v0 "list" #[] e1):=aj _ (aj _ Aj);have A9:∀b o,b≠a->s.heap.get? b=some o->(gE s.heap a vs).get? b=some o:=λb o nb q=>aj _ (aj _ ((cj s.heap a _).extBut b o nb q));rw[list_sort_plain];show ae (listItems_at ho 9 ?_);show ae (vf ho 9 ?_ (by rw[aQ,bW];lia) (aJ _));show ae (yZ Aj 9 ?_);show ae (tE ?_ (by change vs.length<=_;rw[bW];lia));show ae (u9 ?_ (aJ _));show b5 ?_;have big:¬vs.toArray.size<2:=by rw[aQ];lia
 rw[aI big,aI big];show ae (dE (hk _ (Tk.refl _)) (λkd s0 hq=>?_) λ_ _ x=>x.elim);let(rfl,t0):=hq;let(p,ep,hp,hu):=ab5 (n:=vs.length) ∅;have ahh:(kas_sort vs.length).kasWp (kas_ask prog w A kd vs) (λq s'=>q=p/\Tk {s with heap:=gE s.heap a vs} s') s0:=Wf hc _ s0 (WE ∅) t0 λs' t'=>⟨ep,t'⟩;show ae (dE (kat_run (Q:=λlO s'=>arrOf lO=p.map (kas_item (vs.toArray.zip vs.toArray))/\failedOf lO=none/\Tk {s with heap:=gE s.heap a vs} s') 9 h2 Aq (λp' lO s' a1 a2 a3 a4=>by let(rfl,t'):=a4;show⟨a2,a3,t'⟩) ahh) ?_ λ_ _ e=>e)
 ext⟨⟨⟩,lO⟩ s' ⟨har,hf,tk,rfl⟩;dsimp only;rw[kat_snds rfl har];have lp:(p.toList.map λi=>vs.getD i Value.none).length=vs.length:=by rw[ah,hp.length_eq,eS]
 obtain⟨out,eo⟩:∃out,out=p.toList.map λi=>vs.getD i Value.none:=⟨_,rfl⟩;obtain⟨c2,uS⟩:∃c2,((gE s.heap a vs).update a (Obj.mapSeq λ_=>out.toArray)).get? a=some (v0 "list" out.toArray c2):={_,At Oc λ_=>out.toArray};show ae (yZ Oc 9 ?_);show ae (vf Oc 9 ?_ (aJ _) (by rw[aQ,lp,bW];lia));rw[hf];simp only[E2,cD,fR];show ao (k p _ tk c2 hp hu ?_ λb o nb q=>(cj (gE s.heap a vs) a _).extBut b o nb (A9 b o nb q));rw[<-eo];show uS
def aa5{rk:f'->Nat}(ho:s.heap.get? a=some (v0 "list" vs.toArray n))(h2:2<=vs.length)(Aq:vs.length<64)
  (hk:∀s',Tk {s with heap:=gE s.heap a vs} s'->fv 24 A (keyKind' vs.toArray) (λk s2=>k=κ/\Tk {s with heap:=gE s.heap a vs} s2) (λ_ _=>False) s')
  (hc:∀x∈vs,∀y∈vs,∀s',Tk {s with heap:=gE s.heap a vs} s'->fv 24 A (keyLt' κ x y) (λb s2=>b=decide (rk x<rk y)/\Tk {s with heap:=gE s.heap a vs} s2) (λ_ _=>False) s')
  (k:∀(us:Aag)(h':i5)(tk c:Nat),us.Perm vs->us.Pairwise (λx y=>rk x<=rk y)->h'.get? a=some (v0 "list" us.toArray c)->(∀b o,b≠a->s.heap.get? b=some o->h'.get? b=some o)->P (.done (.ret .none)) {s with heap:=h',toks:=tk}):
  fv 24 A (Builtin.«list.sort» {[.ref a],[]}) P E s:=by
 have mem:∀i,i<vs.length->vs.getD i Value.none∈vs:=λi hi=>by rw[cA,av hi];show jA hi
 show Rz (rk:=λi=>rk (vs.getD i Value.none)) ho h2 Aq hk (λi j C s' hi hj tk q=>?_) λp h' tk c hp hu g kp=>k _ h' tk c ?_ ?_ g kp
 ·show dE (hc _ (mem i hi) _ (mem j hj) s' tk) (λb s2 agM=>?_) λ_ _ x=>x;let(e,t):=agM;rw[e];show q s2 t
 ·have:=hp.map λi=>vs.getD i Value.none;rwa [show(List.range vs.length).map (λi=>vs.getD i Value.none)=vs from List.ext_getElem 58 λi h1 h2=>by simp[h2]]at this
 ·have lp:p.size=vs.length:=by rw[<-bB,hp.length_eq,eS]
  show kg.mpr (kq.mpr λx y hx hy hxy=>?_);have hx':x<p.size:=by simpa using hx
  have VD:y<p.size:=by simpa using hy
  have:=hu x y (bE hxy) ∅;unfold gK at this;have ex:p.getD x 0=p.toList[x]:=by simp[Array.getD,hx']
  have ey:p.getD y 0=p.toList[y]:=by simp[Array.getD,VD]
  rw[ex,ey]at this;show this
def Xf(ho:s.heap.get? a=some (v0 "list" vs.toArray n))(h2:vs.length<2)
  (k:∀(h':i5)(c:Nat),h'.get? a=some (v0 "list" vs.toArray c)->(∀b o,b≠a->s.heap.get? b=some o->h'.get? b=some o)->P (.done (.ret .none)) {s with heap:=h'}):
  fv 24 A (Builtin.«list.sort» {[.ref a],[]}) P E s:=by
 obtain⟨e1,Aj⟩:∃e1,(s.heap.update a (Obj.mapSeq λ_=>(#[]:Aal))).get? a=some (v0 "list" #[] e1):={_,At ho λ_=>#[]};have Oc:(gE s.heap a vs).get? a=some (v0 "list" #[] e1):=aj _ (aj _ Aj);have A9:∀b o,b≠a->s.heap.get? b=some o->(gE s.heap a vs).get? b=some o:=λb o nb q=>aj _ (aj _ ((cj s.heap a _).extBut b o nb q));rw[list_sort_plain];show ae (listItems_at ho 9 ?_);show ae (vf ho 9 ?_ (by rw[aQ,bW];lia) (aJ _));show ae (yZ Aj 9 ?_);show ae (tE ?_ (by change vs.length<=_;rw[bW];lia));show ae (u9 ?_ (aJ _));show b5 ?_;have kL:vs.toArray.size<2:=by rw[aQ];lia
 rw[aL kL,aL kL];show ae (ao ?_);show ae (ao ?_);dsimp only;have es:(arrOf (SortSt.mk' general' (vs.toArray.zip vs.toArray) #[] 07 none)).map (·.2)=vs.toArray:=by apply xP.mp;simp[List.map_snd_zip]
 rw[es];obtain⟨c2,uS⟩:∃c2,((gE s.heap a vs).update a (Obj.mapSeq λ_=>vs.toArray)).get? a=some (v0 "list" vs.toArray c2):={_,At Oc λ_=>vs.toArray};show ae (yZ Oc 9 ?_);show ae (vf Oc 9 ?_ (aJ _) (by rw[aQ,bW];lia));simp only[E2,cD,fR];show ao (k _ c2 uS λb o nb q=>(cj (gE s.heap a vs) a _).extBut b o nb (A9 b o nb q))
abbrev Nk(a b:io):Bool:=decide (a.cps.toList<b.cps.toList)
def fE:Aah->Aah->Bool
 |_,[]=>false
 |[],_::_=>true
 |a::r,b::q=>if a=b then fE r q else Nk a b
def Sa(a:io):Nk a a=false:=cz (List.lt_irrefl _)
def Vb(h1:Nk a b=true)(h2:Nk b c=true):Nk a c=true:=bb (List.lt_trans (aU h1) (aU h2))
def Vc(h:Nk a b=false)(h2:Nk b a=false):a=b:=by show ext_toList (List.le_antisymm (List.not_lt.mp (ou h2)) (List.not_lt.mp (ou h)))
theorem xb:∀a,fE a a=false
 |[]=>rfl
 |a::r=>by unfold fE;rw[aL rfl];show xb r
theorem ux:∀{a b c:Aah},fE a b=true->fE b c=true->fE a c=true
 |_,[],[],_,h=>by unfold fE at h;cases h
 |_,_::_,[],_,h=>by unfold fE at h;cases h
 |_,[],_::_,h,_=>by unfold fE at h;cases h
 |[],_::_,_::_,_,_=>rfl
 |a::r,b::q,c::p,h1,h2=>by
  unfold fE at h1 h2⊢;by_cases e1:a=b
  ·subst e1;rw[aL rfl]at h1;by_cases e2:a=c
   ·rw[aL e2]at h2⊢;show ux h1 h2
   ·rw[aI e2]at h2⊢;show h2
  ·rw[aI e1]at h1;by_cases e2:b=c
   ·subst e2;rw[aI e1];show h1
   ·rw[aI e2]at h2;have h3:=Vb h1 h2;rw[aI (λe=>by rw[e,Sa]at h3;cases h3)];show h3
theorem uy:∀{a b:Aah},fE a b=false->fE b a=false->a=b
 |[],[],_,_=>rfl
 |[],_::_,h,_=>by unfold fE at h;cases h
 |_::_,[],_,h=>by unfold fE at h;cases h
 |a::r,b::q,h1,h2=>by
  unfold fE at h1 h2;by_cases e:a=b
  ·subst e;rw[aL rfl]at h1 h2;rw[uy h1 h2]
  ·rw[aI e]at h1;rw[aI (cQ e)]at h2;show(e (Vc h1 h2)).elim
abbrev kQ(a b:Aah):Bool:=!fE b a
def Pj(a b c:Aah)(h1:kQ a b=true)(h2:kQ b c=true):kQ a c=true:=by
 have Oe:fE c b=false:=by simpa using h2
 cases q:fE c a with
 |false=>simp[kQ,q]
 |true=>
  cases p:fE a b with
  |true=>rw[ux q p]at Oe;cases Oe
  |false=>rw[uy p (by simpa using h1),Oe]at q;cases q
def Pk(a b:Aah):(kQ a b||kQ b a)=true:=by
 cases q:fE b a with
 |false=>simp[kQ,q]
 |true=>
  cases p:fE a b with
  |false=>simp[kQ,p]
  |true=>have:=ux q p;rw[xb]at this;cases this
def Se(h1:kQ a b=true)(h2:kQ b a=true):a=b:=uy (by simpa using h2) (by simpa using h1)
def mP(l:Aab):Aab:=l.mergeSort kQ
def mO(l:Aab):(mP l).Perm l:=Cj l kQ
def vR(l:Aab):(mP l).Pairwise (λa b=>kQ a b=true):=yc Pj Pk l
theorem MM:∀{l m:Aab},l.Perm m->l.Pairwise (λa b=>kQ a b=true)->m.Pairwise (λa b=>kQ a b=true)->l=m
 |[],m,h,_,_=>(List.nil_perm.mp h).symm
 |a::l,[],h,_,_=>absurd h.length_eq 58
 |a::l,b::m,h,h1,h2=>by
  have e:a=b:=by
   rcases aN.mp (h.mem_iff.mp (aw))with e|e
   ·show e
   ·rcases aN.mp (h.mem_iff.mpr (aw))with q|q
    ·show q.symm
    ·show Se (iO h1 q) (iO h2 e)
  subst e;rw[MM (List.perm_cons a|>.mp h) (lE.mp h1).2 (lE.mp h2).2]
def wC(h:l.Perm zs)(hs:l.Pairwise (λa b=>kQ a b=true)):l=mP zs:=MM (h.trans (mO zs).symm) hs (vR zs)
def Fl(h:l.Perm m):mP l=mP m:=wC ((mO l).trans h) (vR l)
def Qa(rows:Aab)(a:Aah):Nat:=rows.countP λr=>fE r a
def ZV(ha:a∈rows)(hb:b∈rows):decide (Qa rows a<Qa rows b)=fE a b:=by
 have strict:∀{a b:Aah},a∈rows->fE a b=true->Qa rows a<Qa rows b:=λ{a b} hm h=>by unfold Qa;let(l1,l2,e):=List.append_of_mem hm;have c1:∀l:Aab,(l.countP λr=>fE r a)<=l.countP λr=>fE r b:=λl=>List.countP_mono_left λr _ hr=>ux hr h;rw[e,Eg,Eg,List.countP_cons,List.countP_cons,xb,h];have:=c1 l1;have:=c1 l2;simp;lia
 cases q:fE a b with
 |true=>show bb (strict ha q)
 |false=>
  show cz (pK.mpr ?_);cases p:fE b a with
  |true=>show bE (strict hb p)
  |false=>rw[uy q p];show au _
end
inductive pH:Aah->Aag->Prop where
 |nil:pH [] []
 |cons {z:io} {t:P3} {zs:Aah} {vs:Aag}:pH zs vs->pH (z::zs) (.str z t::vs)
def TupIs(h:i5)(v:f')(zs:Aah):Prop:=∃a o aY n,v=.ref a/\h.get? a=some o/\o.cls=.type "tuple"/\o.data=.seq aY n/\pH zs aY.toList
def TupIs.mono(x:TupIs h v zs)(kp:∀b o,h.get? b=some o->h'.get? b=some o):TupIs h' v zs:=by let(a,o,aY,n,e,ho,r):=x;show{a,o,aY,n,e,kp _ _ ho,r}
theorem pH.one:∀{xs ys:Aah}{vs:Aag},pH xs vs->pH ys vs->xs=ys
 |_,_,_,.nil,.nil=>rfl
 |_,_,_,.cons a,.cons b=>by rw[a.one b]
def TupIs.one(a:TupIs h v xs)(b:TupIs h v ys):xs=ys:=by let(a,o,aY,n,rfl,h1,__,h2,h3):=a;let(b,p,itq,m,e,q1,__,q2,q3):=b;cases e;rw[h1]at q1;cases q1;rw[h2]at q2;cases q2;show h3.one q3
open Classical in
def rowOf(h:i5)(v:f'):Aah:=if x:∃r,TupIs h v r then Classical.choose x else[]
def tM(x:TupIs h v r):rowOf h v=r:=by unfold rowOf;rw[dif_pos ⟨r,x⟩];show(Classical.choose_spec (⟨r,x⟩:∃r,TupIs h v r)).one x
section
variable{prog:dL}{w:i3}{A:mo}{E:Aae}{s:cr}
def eq_str(h:Q (decide (a=b)) s):fv 24 A (eqBool (.str a t) (.str b u)) Q E s:=
 (PySem.strKind prog w).eqBool (oX _ _ _ _) (oX _ _ _ _) h
def abO{xs:Aah}{vs:Aag}(h1:pH xs vs):∀{ys:Aah}{us:Aag}(i:Nat)(s:cr),pH ys us->(fin=decide (96<ys.length))->C (fE xs ys) s->KatLex prog w A true fin C (vs.zip us) i s:=by
 induction h1 with
 |nil=>
  ext ys us i s h2 hf h;show kat_nil ?_;rw[hf];cases h2<;>show h
 |@cons a xs vs t r1 ih=>
  ext ys us i s h2 hf h;cases h2 with
  |nil=>
   show kat_nil ?_;rw[hf];show h
  |@cons b ys us u r2=>
   show kat_cons (eq_str ?_);unfold fE at h;by_cases e:a=b
   ·rw[bb e];rw[aL e]at h;show kat_yes (ih (i+1) s r2 ?_ h);rw[hf];simp
   ·rw[cz e];rw[aI e]at h;show kat_no ?_;cases i with
    |zero=>show oneLt_str h
    |succ i=>
     have e2:(true&&(i+1==0))=false:=by simp
     show kat_one _ _ (PyProof.Rows.lt_str h)
def adV(hx:TupIs s.heap x xs)(hy:TupIs s.heap y ys)(h:C (fE xs ys) s):fv 24 A (keyLt' (tuples' true) x y) C E s:=by
 let(a,o,aY,n,rfl,ho,hc,hd,hr):=hx;let(b,p,itq,m,rfl,hp,hpc,hpd,hq):=hy;show kat_lt ho hd hp hpd (abO hr 0 s hq ?_ h);have len:∀{zs:Aah}{vs:Aag},pH zs vs->zs.length=vs.length:=by
  ext zs vs r
  induction r with
  |nil=>rfl
  |cons _ ih=>simp[ih]
 rw[len hr,len hq,bB,bB]
def Yp{vs:Aag}{rows:Aab}(hl:vs.length=rows.length)(h2:2<=vs.length)(ht:∀(i:Nat) v r,vs[i]?=some v->rows[i]?=some r->TupIs s.heap v r)(iB:∀r∈rows,r≠[])(h:Q (tuples' true) s):fv 24 A (keyKind' vs.toArray) Q E s:=by
 have key:∀(vs:Aag)(rows:Aab),vs.length=rows.length->(∀(i:Nat) v r,vs[i]?=some v->rows[i]?=some r->TupIs s.heap v r)->(∀r∈rows,r≠[])->∃fs,KatTups s.heap vs fs/\fs.length=vs.length/\∀f∈fs,∃z t,f=Value.str z t:=by
  ext vs
  induction vs with
  |nil=>ext rows hl _ _;show{[],KatTups.nil,9,λf hf=>nomatch hf}
  |cons v vs ih=>
   ext rows hl ht iB;cases rows with
   |nil=>simp at hl
   |cons r rows=>
    let(fs,h1,h2,h3):=ih rows (by simpa using hl) (λi v' r' e1 e2=>ht (i+1) v' r' (by simpa using e1) (by simpa using e2)) λr' hr=>iB r' (ay _ hr);let(a,o,aY,n,rfl,ho,hc,hd,hr):=ht 0 v r rfl rfl;cases r with
    |nil=>show(iB [] aw 9).elim
    |cons z zs=>
     generalize eL:aY.toList=L at hr;cases hr with
     |@cons _ t _ Ct VL=>
      show{.str z t::fs,KatTups.cons ho hc hd (by rw[<-df,eL];rfl) h1,by simp[h2],λf hf=>?_};rcases aN.mp hf with rfl|hf
      ·show⟨z,t,rfl⟩
      ·show h3 f hf
 let(fs,h1,h3,h4):=key vs rows hl ht iB;show kat_kind (T:=.type "str") h1 ∅ (λv hv=>?_) 7 ?_
 ·let(z,t,rfl):=h4 v hv;show Looks.of_pure rfl
 ·have e:((Value.type "str") !=Value.type "tuple")=true:=by decide
  show h
def T6(ho:s.heap.get? a=some (v0 "list" vs.toArray n))(hl:vs.length=rows.length)(ht:∀(i:Nat) v r,vs[i]?=some v->rows[i]?=some r->TupIs s.heap v r)(iB:2<=rows.length->∀r∈rows,r≠[])(Aq:vs.length<64)
  (k:∀(h':i5)(tk c:Nat)(us:Aag),h'.get? a=some (v0 "list" us.toArray c)->(∀b o,b≠a->s.heap.get? b=some o->h'.get? b=some o)->us.Perm vs->(∀(i:Nat) v r,us[i]?=some v->(mP rows)[i]?=some r->TupIs s.heap v r)->P (.done (.ret .none)) {s with heap:=h',toks:=tk}):
  fv 24 A (Builtin.«list.sort» {[.ref a],[]}) P E s:=by
 by_cases c2:vs.length<2
 ·show Xf ho c2 λh' c g kp=>?_;have e:mP rows=rows:=by
   have:rows.length<2:=by lia
   match rows,this with
   |[],_=>show(wC (.refl _) .nil).symm
   |[r],_=>show(wC (.refl _) 58).symm
   |_::_::_,q=>simp at q;lia
  rw[e]at k;show k h' s.toks c vs g kp (.refl _) ht
 ·have na:∀v r,TupIs s.heap v r->v≠ .ref a:=λv r x z=>by let(b,o,aY,m,rfl,hb,hc,__):=x;cases z;rw[ho]at hb;cases hb;injection hc with z;show absurd z 7
  have KA:∀s',Tk {s with heap:=gE s.heap a vs} s'->∀(i:Nat) v r,vs[i]?=some v->rows[i]?=some r->TupIs s'.heap v r:=λs' ⟨t,e⟩ i v r e1 e2=>by subst e;have x:=ht i v r e1 e2;have ne:=na v r x;let(b,o,aY,m,rfl,hb,r):=x;show{b,o,aY,m,9,aj _ (aj _ ((cj s.heap a _).extBut b o (λz=>ne (by rw[z])) hb)),r}
  have mr:∀v∈vs,∃r,r∈rows/\TupIs s.heap v r/\∀s',Tk {s with heap:=gE s.heap a vs} s'->TupIs s'.heap v r:=λv hv=>by let(i,hi,rfl):=List.mem_iff_getElem.mp hv;have e1:=av hi;have e2:=av (l:=rows) (i:=i) ∅;show{_,jA _,ht i _ _ e1 e2,λs' tk=>KA s' tk i _ _ e1 e2}
  show aa5 (κ:=tuples' true) (rk:=λv=>Qa rows (rowOf s.heap v)) ho ∅ Aq (λs' tk=>Yp hl ∅ (KA s' tk) (iB ∅) ⟨rfl,tk⟩) (λx hx y hy s' tk=>?_) λus h' tk c po so g kp=>?_
  ·let(r,m1,t1,k1):=mr x hx;let(q,m2,t2,k2):=mr y hy;show adV (k1 s' tk) (k2 s' tk) {?_,tk};rw[tM t1,tM t2,ZV m1 m2]
  ·have er:us.map (rowOf s.heap)=mP rows:=by
    have ev:vs.map (rowOf s.heap)=rows:=by show List.ext_getElem (by simpa using hl) λi h1 h2=>?_;rw[List.getElem_map];show tM (ht i _ _ (av _) (av h2))
    show wC (ev▸po.map _) (kg.mpr (so.imp_of_mem λ{x y} hx hy q=>?_));let(r,m1,t1,k1):=mr x (po.mem_iff.mp hx);let(p,m2,t2,k2):=mr y (po.mem_iff.mp hy);rw[tM t1,tM t2]at q⊢;have z:=ZV m2 m1;rw[cz (pK.mpr q)]at z;change(!fE _ _)=true;rw[<-z];rfl
   show k h' tk c us g kp po λi v r e1 e2=>?_;rw[<-er,aZ,e1]at e2;cases e2;let(r,m1,t1,k1):=mr v (po.mem_iff.mp (aE e1));rw[tM t1];show t1
end
end uY
namespace L2
open PySem PySem.Spec PyProof.Rows uY
abbrev d7(K:Frag)(H:Hp):Aao->Aab->Prop:=Paired λ(y:V)(zs:Aah)=>∃a,y=.ref a/\ba K H a (zs.map V.str)
theorem Mx:∀{zs:Aah}{us:Aag},Vals (zs.map V.str) us->pH zs us
 |[],_,.nil=>.nil
 |z::r,_,.cons ⟨t,e⟩ h=>by subst e;show .cons (Mx h)
theorem Vq:∀{zs:Aah}{us:Aag},Vals (zs.map V.str) us->ItemsAre (bS P w) (zs.map Sum.inr) us
 |[],_,.nil=>.nil
 |z::r,_,.cons ⟨t,e⟩ h=>by subst e;show .cons (Fw _ _ _ _) (Vq h)
section
variable{X:Cx}{bi:Aac}{Z:St}{H:Hp}{s:cr}
def Inv.row(I:Inv X bi Z H s)(h:ba X.K H a (zs.map V.str)):TupIs s.heap 68 zs/\TW (bS 57 X.w) s.heap (zs.map Sum.inr) a:=by obtain⟨aY,r,⟨o,e,c,n,d⟩,_⟩:=I.tuple h;show{{a,o,aY.toArray,n,9,e,c,d,by simpa using Mx r},{o,aY.toArray,n,e,c,d,by simpa using Vq r}}
theorem Inv.rows(I:Inv X bi Z H s):∀{ys:Aao}{rows:Aab}{us:Aag},d7 X.K H ys rows->Vals ys us->∃bs:Aaj,us=bs.map Value.ref/\ys=bs.map V.ref/\bs.length=rows.length/\∀(i:Nat) z b,rows[i]?=some z->bs[i]?=some b->ba X.K H b (z.map V.str)
 |_,_,_,.nil,.nil=>{[],9,9,9,λi z b e=>by simp at e}
 |_,_,_,.cons ⟨a,e,h⟩ r,.cons (b:=u) ru q=>by
  let(bs,h1,h2,h3,h4):=I.rows r q;subst e;cases(show u=Value.ref a from ru);show{a::bs,by rw[h1];rfl,by rw[h2];rfl,by simp[h3],λi z b e1 e2=>?_};cases i with
  |zero=>cases e1;cases e2;show h
  |succ i=>show h4 i z b (by simpa using e1) (by simpa using e2)
end
theorem P8{K:Frag}:∀{bs:Aaj}{rows:Aab},bs.length=rows.length->(∀(i:Nat) z b,rows[i]?=some z->bs[i]?=some b->ba K H b (z.map V.str))->d7 K H (bs.map V.ref) rows
 |[],[],_,_=>.nil
 |[],_::_,h,_=>by simp at h
 |_::_,[],h,_=>by simp at h
 |b::bs,z::rows,h,k=>.cons {b,9,k 0 z b rfl rfl} (P8 (by simpa using h) λi z' b' e1 e2=>k (i+1) z' b' (by simpa using e1) (by simpa using e2))
theorem PL:∀bs:Aaj,Vals (bs.map V.ref) (bs.map Value.ref)
 |[]=>.nil
 |b::bs=>.cons rfl (PL bs)
def ae8:f'->bn
 | .ref a=>a
 |_=>0
def abd(h:us.Perm (bs.map Value.ref)):∃cs:Aaj,us=cs.map Value.ref/\cs.Perm bs:=by
 have all:∀{us:Aag},(∀u∈us,∃b,u=Value.ref b)->∃cs:Aaj,us=cs.map Value.ref:=by
  ext us
  induction us with
  |nil=>ext _;show{[],9}
  |cons u us ih=>
   ext hu;let(b,rfl):=hu u aw;let(cs,rfl):=ih λv hv=>hu v (ay _ hv);show{b::cs,rfl}
 let(cs,rfl):=all λu hu=>by let(b,__,e):=az.mp (h.mem_iff.mp hu);show{b,e.symm}
 show{cs,9,?_};have e:∀l:Aaj,(l.map Value.ref).map ae8=l:=λl=>by
  induction l with
  |nil=>rfl
  |cons a l ih=>show cW (a::·) ih
 rw[<-e cs,<-e bs];show h.map _
def GC:Aab->Aab
 |[]=>[]
 |r::l=>if r∈l then GC l else r::GC l
theorem w6(x:Aah):∀l,x∈GC l↔x∈l
 |[]=>ES
 |r::l=>by
  unfold GC;by_cases c:r∈l
  ·rw[aL c,w6 x l,aN];show{.inr,λh=>h.elim (λe=>e▸c) id}
  ·rw[aI c,aN,aN,w6 x l]
theorem rR:∀l,(GC l).Nodup
 |[]=>dq
 |r::l=>by
  unfold GC;by_cases c:r∈l
  ·rw[aL c];show rR l
  ·rw[aI c];show cY.mpr {λh=>c ((w6 r l).mp h),rR l}
def iN(l:Aab):Aab:=mP (GC l)
def F0(nd:l.Nodup)(h:∀r,r∈l↔r∈rows):mP l=iN rows:=
 Fl ((nF nd (rR rows)).mpr λr=>by rw[h,w6])
def uR(x:Aah)(l:Aab):x∈iN l↔x∈l:=by unfold iN;rw[(mO _).mem_iff,w6]
section
variable{prog:dL}{w:i3}{A:mo}{E:Aae}{s:cr}
def O6{Q:Aae}(hl:vs.length=rows.length)(ht:∀(i:Nat) v r,vs[i]?=some v->rows[i]?=some r->TupIs s.heap v r)(iB:2<=rows.length->∀r∈rows,r≠[])(Aq:vs.length<64)
  (k:∀(h':i5)(tk c:Nat)(us:Aag),h'.get? 17=some (v0 "list" us.toArray c)->(∀b o,s.heap.get? b=some o->h'.get? b=some o)->us.Perm vs->(∀(i:Nat) v r,us[i]?=some v->(mP rows)[i]?=some r->TupIs s.heap v r)->Q (.ref 17) {s with heap:=h',toks:=tk}):
  fv 24 A (newList vs>>=λl=>FM [l] (EQ (.builtin "list.sort") [l] [])>>=λ_=>ret l) (λfin s'=>∃v,fin=Fin.done (.ret v)/\Q v s') E s:=by
 show ae (u9 ?_ (by rw[bW];lia));have HL:(s.heap.push (v0 "list" vs.toArray 0)).get? 17=some (v0 "list" vs.toArray 0):=aR _ rfl;show ae (b5 (b9 slot_list_sort ⟨_,HL,rfl⟩ entry_list_sort (T6 (s:={s with heap:=s.heap.push (v0 "list" vs.toArray 0)}) HL hl (λi v r e1 e2=>(ht i v r e1 e2).mono λb o e=>aj _ e) iB Aq λh' tk c us g kp pm q=>{_,9,?_}) (args_list_sort _)));show ao {_,9,k h' tk c us g (λb o e=>kp b o (aW (aX e)) (aj _ e)) pm λi v r e1 e2=>?_};have x:=q i v r e1 e2;have hv:v∈vs:=pm.mem_iff.mp (aE e1);let(j,hj):=dy.mp hv;have lT:j<rows.length:=by have:=(aq.mp hj).1;lia
 have y:=ht j v _ hj (av lT);let(b,o,aY,m,rfl,hb,r1):=y;let(b',o',its',m',e',js,r1'):=x;cases e';have:o'=o:=by have:=aj (v0 "list" vs.toArray 0) hb;show bY (js.symm.trans this)
 subst this;show⟨b,o',its',m',rfl,hb,r1'⟩
variable{X:Cx}
def SortedTo(K:Frag)(H:Hp)(ys:Aao)(rows:Aab)(Q:VK):Prop:=∀l zs,H l=none->d7 K H zs (mP rows)->(∀z∈zs,z∈ys)->Q (.ref l) (upd H l (.lst zs))
def G7{bi:Aac}{Z:St}{H:Hp}{s s1:cr}{bs:Aaj}{rows:Aab}{Q:VK}(I:Inv X bi Z H s1)(lb:bs.length=rows.length)(hb:∀(i:Nat) z b,rows[i]?=some z->bs[i]?=some b->ba X.K H b (z.map V.str))(iB:2<=rows.length->∀r∈rows,r≠[])(Aq:rows.length<64)(q:SortedTo X.K H (bs.map V.ref) rows Q){A:mo}{E:Aae}:
  fv 59 A (newList (bs.map Value.ref)>>=λl=>FM [l] (EQ (.builtin "list.sort") [l] [])>>=λ_=>ret l) (λfin s'=>∃v,fin=Fin.done (.ret v)/\EP X bi Z Q v s') E s1:=by
 show O6 (rows:=rows) (by rw[ah];show lb) (λi v r e1 e2=>?_) iB (by rw[ah];lia) λh' tk c us g kp pm PV=>?_
 ·rw[aZ]at e1;let(b,e3,rfl):=bA.mp e1;show(I.row (hb i r b e2 e3)).1
 ·let(cs,rfl,pc):=abd pm;have lc:cs.length=rows.length:=by rw[pc.length_eq,lb]
  have lz:(cs.map V.ref).length<=ca:=by rw[ah,bW];lia
  show{.ref 75,_,I.laid (t':=tk) kp (au _) (show dG 57 X.w _ _ _ (.lst (cs.map V.ref))from{lz,cs.map Value.ref,c,PL cs,g}),9,q _ (cs.map V.ref) (I.bK.fresh (au _)) (P8 (by rw[lc,(mO rows).length_eq]) λi z b e1 e2=>?_) λz hz=>(pc.map _).mem_iff.mp hz};have t:=PV i (.ref b) z (by rw[aZ,e2];rfl) e1;let(j,hj):=dy.mp (pc.mem_iff.mp (aE e2));have lT:j<rows.length:=by have:=(aq.mp hj).1;lia
  have hr:=hb j _ b (av lT) hj;have t2:=(I.row hr).1;have e:rows[j]=z:=by
   let(b1,o1,i1,n1,e1,g1,c1,d1,r1):=t;let(b2,o2,i2,n2,e2,g2,c2,d2,r2):=t2;cases e1;cases e2;rw[g1]at g2;cases g2;rw[d1]at d2;cases d2;have inj:∀{x y:Aah}{vs:Aag},pH x vs->pH y vs->x=y:=by
    ext x y vs hx
    induction hx generalizing y with
    |nil=>ext hy;cases hy;rfl
    |cons _ ih=>ext hy;cases hy with|cons hy=>rw[ih hy]
   show inj r2 r1
  rw[<-e];show hr
def qy:Key->io
 | .inr z=>z
 | .inl _=>""
def yi(z:Aah):(z.map (Sum.inr:io->Key)).map qy=z:=by
 induction z with
 |nil=>rfl
 |cons a z ih=>show cW (a::·) ih
end
def vo(P:dL)(w:i3)(a:bn)(us:List (Aah×bn)):i5->Prop:=λh=>∃o ep t,h.get? a=some o/\o.ExactSet/\o.data=.set (us.map λx=>Tb.ent (Tb.G2 (bS P w)) (x.1.map Sum.inr,x.2)).toArray ep t/\t.fits us.length=true/\t.led=Tb.nL w/\Tb.oH t.place
def aa9(x:vo P w a us h):dG P w H h a (.ext (vo P w a us)):=
 {x,let⟨o,_,_,q,_⟩:=x;⟨o,q⟩,λ_ _ ⟨o,ep,t,q,r⟩ k=>{o,ep,t,k _ q,r}}
section
variable{X:Cx}{bi:Aac}{Z:St}{H:Hp}{s:cr}{h':i5}
def Inv.afC(I:Inv X bi Z H s)(k:∀b u,s.heap.get? b=some u->h'.get? b=some u):Inv X bi Z H {s with heap:=h',drawn:=d',toks:=t'}:=
 I.step (ch:=[]) (λ_ z=>nomatch z) (λb o _ _ _ e _=>k b o e) (λb o _ _ _ e _=>{o.slots,k b o e}) (λ_ _ _ _ n=>n) (λb o _ e=>{o,k b o e}) (λ_ _ e=>e) (λ_ _ _ e=>e) (λb ps e=>{#[],by rw[e];simp}) (λm hm=>by let(o,es,ep,ho,r):=hm;show{o,es,ep,k _ _ ho,r}) (I.bK.kept k) I.bare
end
section
variable{X:Cx}
def K7(hA:X.A.handled=none)(hu:X.A.units+64<v6):gJ X (.type "set") (λxs H Q=>∃p ys rows,xs=[.ref p]/\bg X.K H p ys/\d7 X.K H ys rows/\rows.length<=1000/\∀a us,H a=none->(us.map (·.1)).Nodup->(∀r,r∈us.map (·.1)↔r∈rows)->us.length<=rows.length->(∀x∈us,ba X.K H x.2 (x.1.map V.str)/\V.ref x.2∈ys)->Q 68 (upd H a (.ext (vo 57 X.w a us)))):=by
 ext bi s Z H xs us Q I r h;let(p,ys,rows,rfl,hq,hr,hz,q):=h;let(u,rfl,rx):=jn r;cases rx;let(aY,r',pl,__):=I.list hq;let(bs,rfl,rfl,lb,hb):=I.rows hr r';show Tb.WA (knd:=Tb.G2 (bS 57 X.w)) (ks:=rows.map λz=>z.map Sum.inr) (bs:=bs) hA (by change X.A.units+1+1+1<v6;lia) (.inl pl.isList) 58 (by rw[ah,lb]) (λi k b e1 e2=>?_) ∅ λh' tk o ep t xs S hl hH kp=>?_
 ·rw[aZ]at e1;let(z,e3,rfl):=bA.mp e1;show(I.row (hb i z b e3 e2)).2
 ·have inj:∀x∈xs,∃(j:Nat)(z:Aah),rows[j]?=some z/\x.1=z.map Sum.inr/\bs[j]?=some x.2:=λx hx=>by let(j,j1,j2):=hH.LM x hx;rw[aZ]at j1;let(z,e3,e4):=bA.mp j1;show{j,z,e3,e4.symm,j2}
  have back:(xs.map λx=>(x.1.map qy,x.2)).map (λx=>((x.1.map Sum.inr:List Key),x.2))=xs:=by
   rw[b8];have:∀x∈xs,((λx:Aah×bn=>((x.1.map Sum.inr:List Key),x.2))∘λx:List Key×bn=>(x.1.map qy,x.2)) x=x:=λx hx=>by let(j,z,__,e,__):=inj x hx;change((x.1.map qy).map Sum.inr,x.2)=x;rw[e,yi];show GW e.symm rfl
   rw[b4 this,List.map_id']
  have fst:∀r,r∈(xs.map λx=>(x.1.map qy,x.2)).map (·.1)↔r∈rows:=λr=>by
   rw[b8,az];constructor
   ·ext⟨x,hx,rfl⟩;let(j,z,e1,e,__):=inj x hx;change x.1.map qy∈rows;rw[e,yi];show aE e1
   ·ext hr;have:r.map Sum.inr∈xs.map (·.1):=(hH.mem _).mpr (by
     rw[dj (by rw[ah,lb];show au _)];show az.mpr ⟨r,hr,rfl⟩)
    let(x,hx,e):=az.mp this;show{x,hx,by change x.1.map qy=r;rw[e,yi]}
  have nd:((xs.map λx=>(x.1.map qy,x.2)).map (·.1)).Nodup:=by
   have h1:=S.nd;rw[<-back,b8]at h1;have h2:((xs.map λx=>(x.1.map qy,x.2)).map ((·.1)∘λx:Aah×bn=>((x.1.map Sum.inr:List Key),x.2)))=((xs.map λx=>(x.1.map qy,x.2)).map (·.1)).map λz=>z.map Sum.inr:=by simp only[b8];rfl
   rw[h2]at h1;show(kg.mp h1).imp λne e=>ne (by rw[e])
  have hd:o.data=.set ((xs.map λx=>(x.1.map qy,x.2)).map λx=>Tb.ent (Tb.G2 (bS 57 X.w)) (x.1.map Sum.inr,x.2)).toArray ep t:=by rw[S.data];congr 2;have:=cW (List.map (Tb.ent (Tb.G2 (bS 57 X.w)))) back;rw[b8]at this;show this.symm
  show{.ref 17,_,I.laid (t':=tk) kp (au _) (aa9 {o,ep,t,S.ob,S.ex,hd,?_,hl,S.tab.rise}),9,q _ _ (I.bK.fresh (au _)) nd fst ?_ λx hx=>?_}
  ·have:=S.fits;simpa using this
  ·rw[ah];have:=hH.len;lia
  ·let(y,hy,rfl):=az.mp hx;let(j,z,e1,e,e2):=inj y hy;show{?_,az.mpr {y.2,aE e2,9}};change ba X.K H y.2 ((y.1.map qy).map V.str);rw[e,yi];show hb j z y.2 e1 e2
def Au(hA:X.A.handled=none):gJ X (.builtin "sorted") (λxs H Q=>∃a us ys,xs=[.ref a]/\H a=some (.ext (vo 57 X.w a us))/\(∀x∈us,ba X.K H x.2 (x.1.map V.str)/\V.ref x.2∈ys)/\(2<=us.length->∀x∈us,x.1≠[])/\us.length<64/\SortedTo X.K H ys (us.map (·.1)) Q):=by
 ext bi s Z H xs us Q I r h;let(a,Zz,ys,rfl,ha,hx,iB,Aq,q):=h;let(u,rfl,rx):=jn r;cases rx;obtain⟨⟨o,ep,t,ho,hex,hd,hf,hl,afJ⟩,_⟩:=(show dG 57 X.w H s.heap a (.ext (vo 57 X.w a Zz))from I.bK a _ ha);show kz FA CU DF (DW _) ?_;unfold Builtin.«sorted»;show ae (m:=checkCount "sorted" 1 1 _) (ao ?_);show ae (Tb.Pu (A:=X.A.in1) (by simpa using hA) {⟨o,ho,hex,hd⟩,by simpa using hf,λcf _=>{by rw[hl,Tb.nL,cf];rfl,afJ}} (by simp;lia) λh' tk d vs pm kp=>?_);have e0:(Zz.map λx=>Tb.ent (Tb.G2 (bS 57 X.w)) (x.1.map Sum.inr,x.2)).toArray.toList.map (·.2)=Zz.map λx=>Value.ref x.2:=by simp[vO]
 rw[e0]at pm;let(Ct,pv,rfl):=wU pm rfl;have lb:(Ct.map (·.2)).length=(Ct.map (·.1)).length:=by rw[ah,ah]
 have lu:=pv.length_eq;have e1:(Ct.map λx=>Value.ref x.2)=(Ct.map (·.2)).map Value.ref:=by rw[b8];rfl
 rw[e1];have sc:mP (Ct.map (·.1))=mP (Zz.map (·.1)):=Fl (pv.map _);show G7 (s:=s) (I.afC (t':=tk) (d':=d) kp) lb (λi z b e2 e3=>?_) (λh2 r hr=>?_) (by rw[ah];lia) λl zs fw hz hm=>?_
 ·rw[aZ]at e2 e3;let(x,ex,rfl):=bA.mp e2;rw[ex]at e3;cases e3;show(hx x (pv.mem_iff.mp (aE ex))).1
 ·let(x,hxm,rfl):=az.mp hr;show iB (by rw[ah]at h2;lia) x (pv.mem_iff.mp hxm)
 ·rw[sc]at hz;show q l zs fw hz λz hzm=>?_;let(b,hb,rfl):=az.mp (hm z hzm);let(x,hxm,rfl):=az.mp hb;show(hx x (pv.mem_iff.mp hxm)).2
def DO(hA:X.A.handled=none):gJ X (.builtin "sorted") (λxs H Q=>∃(a:bn)(kvs:List (Key×V))(zs:Aah),xs=[.ref a]/\H a=some (.dK kvs)/\kvs.map (·.1)=zs.map Sum.inr/\zs.length<64/\∀l,H l=none->Q (.ref l) (upd H l (.lst ((eY zs).map V.str)))):=by
 ext bi s Z H xs us Q I r h;let(a,kvs,zs,rfl,ha,hk,Aq,q):=h;let(u,rfl,ru):=jn r;cases ru;let(hz,lo,vs,rel,o,es,ep,m):=uE I.bK ha;have at':s.heap.DictAt (bS 57 X.w) a vs ep:=⟨o,es,m⟩;have hl:kvs.length=vs.length:=rel.length;have yD:kvs.map (·.1)=vs.map (·.1):=rel.keys;show kz FA CU DF (DW _) ?_;unfold Builtin.«sorted»;show ae (m:=checkCount "sorted" 1 1 _) (ao ?_);show ae (PySem.W.kdu_collect (A:=X.A.in1) (PySem.W.kdl_dict lo) (by simpa using hA) at' (by rw[<-hl];show hz) λh' tk acc kp it=>?_);have hS:Wp acc.toList zs:=by
  have len:acc.toList.length=zs.length:=by have e1:=cW List.length hk;simp only[ah]at e1;rw[bB,it.1];lia
  have at_:∀(j:Nat)(v:f'),acc.toList[j]?=some v->∃t,v=.str (zs.getD j "") t:=λj v e=>by
   let(k,y,e3,e4):=it.2 j v (by rw[<-df];show e);have e5:(zs.map (Sum.inr:io->Key))[j]?=some k:=by rw[<-hk,yD,aZ,e3];rfl
   rw[aZ]at e5;let(z,e6,rfl):=bA.mp e5;have e8:RelV (kV (Sum.inr z)) v:=tN (k:=Sum.inr z) e4;let(t,e7):=(show∃t,v=Value.str z t from e8);show{t,by rw[e7,cA,e6];rfl}
  have go:∀(us:Aag)(zs:Aah),us.length=zs.length->(∀(j:Nat)(v:f'),us[j]?=some v->∃t,v=.str (zs.getD j "") t)->Wp us zs:=by
   ext us
   induction us with
   |nil=>ext zs hl _;rw[dF.mp hl.symm];show .nil
   |cons u us ih=>
    ext zs hl hk;cases zs with
    |nil=>simp at hl
    |cons z zs=>
     let(t,rfl):=hk 0 u rfl;show .cons z t (ih zs (by simpa using hl) λj v e=>by let(t,e'):=hk (j+1) v (by simpa using e);show{t,by simpa using e'})
  show go _ _ len at_
 have ahs:acc.toList.length<64:=by have:=hS.strs;rw[<-this,ah]at Aq;show Aq
 show ae (u9 ?_ (by rw[bW];lia));have HL:(h'.push (v0 "list" acc.toList.toArray 0)).get? h'.objs.size=some (v0 "list" acc.toList.toArray 0):=aR _ rfl;have I1:Inv X bi Z H {s with heap:=h',toks:=tk}:=I.kept kp;show ae (b5 (b9 slot_list_sort ⟨_,HL,rfl⟩ entry_list_sort (list_sort_treeK strKind_oneLt (s:={s with heap:=h'.push (v0 "list" acc.toList.toArray 0),toks:=tk}) HL hS.keysOf (λah2 ah1 rest e=>keyKind_strs (by rw[<-e];show hS)) ahs λlO hp hs=>{_,9,?_}) (args_list_sort _)));let(ss',h1,h2,h3):=sorted_out_str hS hp hs;have e:=Mh h2 h3;subst e;generalize (arrOf lO).map (·.2)=out at h1;have lt:h'.objs.size<(h'.push (v0 "list" acc.toList.toArray 0)).objs.size:=aX HL;have ln:((eY zs).map V.str).length<=ca:=by rw[ah,(ix zs).length_eq];show bE (bq ∅)
 obtain⟨n,he⟩:∃n,(sortedHeap (h'.push (v0 "list" acc.toList.toArray 0)) h'.objs.size acc.toList out).get? h'.objs.size=some (v0 "list" out n):=by obtain⟨e1,Aj⟩:∃e1,((h'.push (v0 "list" acc.toList.toArray 0)).update h'.objs.size (Obj.mapSeq λ_=>(#[]:Aal))).get? h'.objs.size=some (v0 "list" #[] e1):={_,At HL λ_=>#[]};have ho3:=aj (v0 "list" #[] 0) (aj (v0 "tuple" acc.toList.toArray 0) Aj);show{_,At ho3 λ_=>out}
 have old:∀b o,h'.get? b=some o->(sortedHeap (h'.push (v0 "list" acc.toList.toArray 0)) h'.objs.size acc.toList out).get? b=some o:=λb o e=>by have nb:b≠h'.objs.size:=aW (aX e);have g1:=aj (v0 "list" acc.toList.toArray 0) e;have g2:=(cj (h'.push (v0 "list" acc.toList.toArray 0)) h'.objs.size (Obj.mapSeq λ_=>(#[]:Aal))).extBut b o nb g1;have g3:=aj (v0 "list" #[] 0) (aj (v0 "tuple" acc.toList.toArray 0) g2);show(cj _ h'.objs.size (Obj.mapSeq λ_=>out)).extBut b o nb g3
 show ao {_,9,.ref h'.objs.size,_,I1.laid (t':=tk) old (au _) (show dG 57 X.w _ _ _ (.lst ((eY zs).map V.str))from{ln,out.toList,n,F3 h1,?_}),9,q _ (I1.bK.fresh (au _))};show he
end
def aam(hl:(AT.endLine==fH.line)=true:=by rfl)(hb:wf (.Name d pd) "get" X.env (sn (.Name d pd) X.env)=sn (.Name d pd) X.env:=by rfl):M2 X (.Name d pd) "get" AT (.Name x px) (.List [] pl) fH:=⟨hb,rfl,hl,rfl⟩
section
variable{prog:dL}{w:i3}{A:mo}{E:Aae}{s:cr}{d it:bn}{o:G'}{es:Array Ch}{ep i:Nat}
def P7(lo:(d==re)=false)(ho:s.heap.get? d=some o)(hx:o.ExactDict)(hd:o.data=.dict es ep)
  (q:Q (.ref 17) {s with heap:=s.heap.push {cls:=.type "dict_keyiterator",data:=.fields #[.ref d,.int 0 0,.int 67 0,.int ep 0]}}):fv 24 A (No (.ref d)) Q E s:=by
 have ty:s.TypeIs (.ref d) "dict":={o,ho,hx.1};show vx ty zD (b9 zD ty PySem.F.entry_dict_iter ?_ (PySem.F.args_dict_iter_1 _));show ae (ae (jQ ty (ao ?_)));change fv _ _ (Builtin.Dict.showsAll d>>=_) _ _ s;unfold Builtin.Dict.showsAll;rw[lo];show ae (ao (ae (lW ho hd (ae (yg ho hd (ae (cT (ao {_,9,"dict_keyiterator",_,{_,aR _ rfl,9},fN.lookup,q}))))))))
def adb(hit:s.heap.IsKeyIter it d i 67 ep)(ho:s.heap.get? d=some o)(hd:o.data=.dict es ep)(hi:i<67)
  (q:∀h',h'.IsKeyIter it d (i+1) 67 ep->Heap.SameBut it s.heap h'->Q (some es[i].key) {s with heap:=h'}):fv 24 A (IR (.ref it)) Q E s:=by
 let(oi,KD,ci,di):=id hit;show ae (iu (jp hit.typeIs fN (b9 fN hit.typeIs pJ ?_ (oK _))));show ae (ao (ae (ae (ae (jm hit.typeIs (ao ?_))))));show ae (md KD di ?_);have own:Builtin.Dict_items.ownsTuple "dict_keyiterator"=false:=by decide
 change fv _ _ (if(Value.ref d==Value.none)=true then _ else _) _ _ s;show ae (ao (ae (lW ho hd ?_)));rw[aI 58];show ae (ao (ae (yg ho hd ?_)));rw[aI 58];show ao ?_;simp only[show ¬((i:Int)<0)from by lia,fR,eT,cE hi];show ae (ae (jm hit.typeIs (ao (ae (zQ hit.typeIs ?_)))));change fv _ _ (setField (.ref it) 1 (sK ((i:Int)+1))>>=_) _ _ s;show ae (hV KD di 58 ?_);have Sn:(s.heap.update it (Obj.mapFields (·.setIfInBounds 1 (sK ((i:Int)+1))))).IsKeyIter it d (i+1) 67 ep:=
  {_,dU _ KD (AD (oN di _)),(E6 ..).trans ci,by rw[oN di];simp[sK]}
 show ae (b5 (ae (zQ Sn.typeIs ?_)));show ao (ao {_,9,ao (q _ Sn (cj ..))})
def Uh(hh:A.handled=none)(hit:s.heap.IsKeyIter it d i 67 ep)(ho:s.heap.get? d=some o)(hd:o.data=.dict es ep)(hi:67<=i)
  (q:∀h',(∀b x,b≠it->s.heap.get? b=some x->h'.get? b=some x)->Q none {s with heap:=h'}):fv 24 A (IR (.ref it)) Q E s:=by
 let(oi,KD,ci,di):=id hit;show ae (iu (jp hit.typeIs fN (b9 fN hit.typeIs pJ ?_ (oK _))));show ae (ao (ae (ae (ae (jm hit.typeIs (ao ?_))))));show ae (md KD di ?_);have own:Builtin.Dict_items.ownsTuple "dict_keyiterator"=false:=by decide
 change fv _ _ (if(Value.ref d==Value.none)=true then _ else _) _ _ s;show ae (ao (ae (lW ho hd ?_)));rw[aI 58];show ae (ao (ae (yg ho hd ?_)));rw[aI 58];show ao ?_;simp only[show ¬((i:Int)<0)from by lia,fR,eT,zL hi];show ae (ae (jm hit.typeIs (ao ?_)));change fv _ _ (setField (.ref it) 0 .none>>=_) _ _ s;show ae (hV KD di 58 ?_);show Tb.IH (show A.in1.handled=none from hh) λh' e kp agL=>?_;let(oe,he,ce):=agL;show ae (ju ⟨oe,he,ce⟩ pB (ao (q _ λb x nb g=>kp b x ((cv _ _ (cQ nb)).trans g))))
end
def DX(P:dL)(w:i3)(d:bn)(kvs:List (Key×V))(ok ov:V):i5->Prop:=λh=>(d==re)=false/\∃o es ep vs e,h.get? d=some o/\o.ExactDict/\o.data=.dict (es.push e) ep/\KV kvs vs/\KeysOf (bS P w) es/\Pairs (bS P w) es.toList vs/\(vs.map (·.1)).Nodup/\RelV ok e.key/\RelV ov e.val/\kvs.length<=1000
section
variable{X:Cx}{bi:Aac}{Z:St}{H:Hp}{s:cr}
def Inv.QU(I:Inv X bi Z H s)(hd:H d=some (.ext φ))(ho:s.heap.get? d=some o):Inv X bi Z (upd H d (.fX o (.ext φ))) s:=by
 have nd:∀b u,H b=some u->(∀l,u≠ .ext l)->b≠d:=λb u q n z=>by rw[z,hd]at q;show n φ (bY q).symm
 show I.un {λb u e _ _ _=>e,λb u e _ _ _=>{u.slots,e},λb u e n _=>by rw[aM ((λb q z=>by rw[z,hd]at q;cases q) b n)];show n,λb u e _=>⟨u,e⟩,λb xs q=>by rw[aM (nd b _ q λl z=>by cases z)];show q,λb u v q=>by rw[aM (nd b _ q λl z=>by cases z)];show q,λb ps q=>{#[],by rw[aM (nd b _ q λl z=>by cases z),q];simp}} λb u g=>?_;by_cases hb:b=d
 ·subst hb;rw[ar]at g;cases g;show{ho,I.bK b _ hd}
 ·rw[aM hb]at g;show(I.bK b u g).rF (λc v hc q=>q) (λc q=>by rw[aM (nd c _ q λl z=>by cases z)];show q) λc ys q=>by rw[aM (nd c _ q λl z=>by cases z)];show q
def Inv.Ru(I:Inv X bi Z H s)(hd:H d=some (.fX o u))(hn:∀u v,X.aae d≠some (.fX u v)):Inv X bi Z (upd H d u) s:=by
 have nd:∀b u,H b=some u->(∀v l,u≠ .fX v l)->b≠d:=λb u q n z=>by rw[z,hd]at q;show n _ _ (bY q).symm
 have iB:∀b,H b=none->b≠d:=λb q z=>by rw[z,hd]at q;cases q
 show{I.ok,I.os,I.bare,{I.base.keep,I.base.slot,λb u e n hx=>?_,I.base.there,λb xs q=>?_,λb u v q=>?_,λb ps q=>?_},I.loc,I.cell,?_,λx c e=>?_,λp hp=>?_,λb v g=>?_,I.len}
 ·have z:=I.base.free b u e n hx;rw[aM (iB b z)];show z
 ·have z:=I.base.iX b xs q;rw[aM (nd b _ z λv l t=>by cases t)];show z
 ·have z:=I.base.vh b u v q;rw[aM (show b≠d fromλt=>hn u v (t▸q))];show z
 ·let(m,z):=I.base.AM b ps q;show{m,by rw[aM (nd b _ z λv l t=>by cases t)];show z}
 ·rw[aM (iB _ I.free)];show I.free
 ·rw[aM (iB _ (I.nV x c e))];show I.nV x c e
 ·let(a1,a2,a3,a4,a5):=I.pin p hp;show{a1,by rw[aM (iB _ a2)];show a2,a3,a4,a5}
 ·by_cases hb:b=d
  ·subst hb;rw[ar]at g;cases g;show((I.bK b _ hd).2).rF (λc v hc q=>q) (λc q=>by rw[aM (nd c _ q λv l z=>by cases z)];show q) λc ys q=>by rw[aM (nd c _ q λv l z=>by cases z)];show q
  ·rw[aM hb]at g;show(I.bK b v g).rF (λc v hc q=>q) (λc q=>by rw[aM (nd c _ q λv l z=>by cases z)];show q) λc ys q=>by rw[aM (nd c _ q λv l z=>by cases z)];show q
end
inductive acO(t:TE)(Z:St)(H:Hp)(Q:VK):Prop
 |mk (d:bn) (_:(∀u v,H d≠some (.fX u v))) (_:t Z H λv H'=>∃o u,H' d=some (.fX o u)/\Q v (upd H' d u))
def XN(h:PE X e t):PE X e (acO t):=by ext bi s Z H Q I ht;let(d,hd,ht):=ht;show da (h bi s Z H _ I ht) λv s1 x H1 I1 r1 ⟨o,u,e,q⟩=>{x,_,I1.Ru e (λu v e=>hd u v (I.base.vh d u v e)),r1,q}
def WO(d:bn)(o:G')(u:HO)(kvs:Aam):It:=
 {λi H=>H d=some (.fX o u)/\i<kvs.length,λi H x H'=>H'=H/\∃kv,kvs[i]?=some kv/\x=kv.1,λi H=>H d=some (.fX o u)/\kvs.length<=i}
def Zm(o:G')(es:Array Ch)(ep:Nat)(kvs:Aam):Prop:=o.ExactDict/\o.data=.dict es ep/\Paired (λ(p:V×V)(e:Ch)=>RelV p.1 e.key/\RelV p.2 e.val) kvs es.toList
def TB{K:Frag}(m:Zm o es ep kvs):Turn P w K tg (WO d o u kvs) [it] it (λi h=>h.IsKeyIter it d i 67 ep) where
 mem:=by simp
 obj:=λi h st b hb=>by
  have e:b=it:=by simpa using hb
  subst e;let(v,e,c,q):=st;show{v,e,λv z=>by rw[q]at z;cases z}
 keep:=λi h h' st k=>by let(v,e,r):=st;show{v,k it 58 v e,r}
 item:=by
  ext X hP hw hK hc i bi s Z H E I hf st hg;let(hd,hi):=hg;have hl:kvs.length=67:=by rw[a9 m.2.2,bB]
  let(f0,f1,f2,f3,f4,f5):=hf it 58;obtain⟨kv,qo⟩:∃kv,kvs[i]?=some kv:={_,av hi};have hie:i<67:=by lia
  let(e,he,r):=Paired.at' m.2.2 qo;have ee:es[i]=e:=by rw[df,cE hie]at he;show bY he
  show adb st ((I.bK d _ hd).1) m.2.1 hie λh' lO sb=>?_;let(v,ev,c,q):=id lO;show{_,9,EJ ev c q 7 {kv.1,H,(I.turned (t':=s.toks) (λb o hb e=>(sb.2 b hb).trans e) f0 f1 f3 f4 f5),ee▸r.1,⟨rfl,kv,qo,rfl⟩,lO,λb hb=>(hf b hb).1}}
 done:=by
  ext X hP hw hK hc i bi s Z H E I hf st hg;let(hd,hi):=hg;have hl:kvs.length=67:=by rw[a9 m.2.2,bB]
  let(f0,f1,f2,f3,f4,f5):=hf it 58;show Uh (I.ok.hd hc) st ((I.bK d _ hd).1) m.2.1 ∅ λh' eb=>{9,I.turned (λb o hb e=>eb b o hb e) f0 f1 f3 f4 f5}
 self:=λ_ _ _ _ _ st h=>wpAny_pyIter_keyiter st h
def To(P:dL)(w:i3)(d:bn)(u:HO)(kvs:Aam):Prop:=(∃l,u=.dK l/\kvs=l.map λp=>(kV p.1,p.2))\/∃l ok ov,u=.ext (DX P w d l ok ov)/\kvs=(l.map λp=>(kV p.1,p.2))++[(ok,ov)]
def Ho(rel:KV kvs vs)(hp:Pairs (bS P w) es vs):Paired (λ(p:V×V)(e:Ch)=>RelV p.1 e.key/\RelV p.2 e.val) (kvs.map λp=>(kV p.1,p.2)) es:=by
 induction hp generalizing kvs with
 |nil=>cases rel;show .nil
 |@cons e kv es vs hk hv _ ih=>
  cases rel with
  |@cons p _ ps _ hr t=>show .cons {tN (hr.1▸hk),hv▸hr.2} (ih t)
def EL(x:dG P w H h d u)(hv:To P w d u kvs):(d==re)=false/\∃o es ep,h.get? d=some o/\Zm o es ep kvs:=by
 rcases hv with⟨l,rfl,rfl⟩|⟨l,ok,ov,rfl,rfl⟩
 ·let(__,lo,vs,rel,o,es,ep,ga,hx,hd,__,hp,__):=x;show{lo,o,es,ep,ga,hx,hd,Ho rel hp}
 ·obtain⟨⟨lo,o,es,ep,vs,e,ga,hx,hd,rel,_,hp,_,r1,r2,_⟩,_⟩:=x;show{lo,o,_,ep,ga,hx,hd,?_};rw[vP];show zF (Ho rel hp) ⟨r1,r2⟩
def Inv.ab4(I:Inv X bi Z H s)(hd:H d=some u)(hv:To 57 X.w d u kvs)(ho:s.heap.get? d=some o):Inv X bi Z (upd H d (.fX o u)) s:=by
 rcases hv with⟨l,rfl,rfl⟩|⟨l,ok,ov,rfl,rfl⟩
 ·show I.freeze hd ho
 ·show I.QU hd ho
inductive abY(P:dL)(w:i3)(R:It->Hp->Prop)(x:V)(H1:Hp):Prop
 |mk d u kvs (_:x=.ref d) (_:H1 d=some u) (_:To P w d u kvs) (_:∀o,R (WO d o u kvs) (upd H1 d (.fX o u)))
def aeg(P:dL)(w:i3)(tl:TE):TI:=λZ H R=>tl Z H λx H1=>abY P w R x H1
def MK(hl:PE X l tl):PI X tg l (aeg 57 X.w tl):=by
 ext bi s Z H R I h;show da (hl bi s Z H _ I h) λv s1 x H1 I1 r1 q1=>?_;let(d,u,kvs,e,hd,hv,q):=q1;subst e;cases r1;let(lo,o,es,ep,ga,m):=EL (I1.bK d _ hd) hv;show P7 lo ga m.1 m.2.1 ?_;have I2:=I1.ab4 hd hv ga;show{75,[75],_,_,_,9,I2.kept λb o e=>aj _ e,TB m,{_,aR _ rfl,9,9},λb hb=>?_,q o};have e:b=75:=by simpa using hb
 subst e;show I2.vi (au _) (I2.bK.fresh (au _))
inductive acP(t:TS)(D:Ends)(Z:St)(H:Hp):Prop
 |mk (d:bn) (_:(∀u v,H d≠some (.fX u v))) (_:t {D with nx:=λσ' H'=>∃o u,H' d=some (.fX o u)/\D.nx σ' (upd H' d u),rt:=λv H'=>∃o u,H' d=some (.fX o u)/\D.rt v (upd H' d u)} Z H)
def MD{st:ss}(h:PS X st t):PS X st (acP t):=by
 ext bi s Z H D I ht;let(d,hd,ht):=ht;have h0:=λu v e=>hd u v (I.base.vh d u v e);show hU (h bi s Z H _ I ht) λf s1 q=>?_;cases f with
 |next=>
  obtain⟨σ',H',J,o,u,e,n⟩:=q;show{σ',_,J.Ru e h0,n}
 |brk=>show q
 |cont=>show q
 |ret u=>
  obtain⟨v,σ',H',J,r,o,u',e,n⟩:=q;show{v,σ',_,J.Ru e h0,r,n}
section
variable{d:bn}{o:G'}{u:HO}{kvs:Aam}
def KZ{g:TG}{tb:TS}{D:Ends}(Pv:Nat->St->Hp->Prop)(h0:Pv 0 Z H)(hl:∀i Z H,i<=kvs.length->Pv i Z H->H d=some (.fX o u))
  (hs:∀i kv Z H,kvs[i]?=some kv->Pv i Z H->g kv.1 Z H λσ2 H2=>tb {D with nx:=Pv (i+1),ct:=Pv (i+1),bk:=D.nx} σ2 H2) (hd:∀Z H,Pv kvs.length Z H->D.nx Z H):AF (WO d o u kvs) g tb D Z H:=by
 show HS Pv h0 (λi Z H hi p=>{{hl i Z H (bE hi) p,hi},?_}) λZ H p=>{{hl _ Z H (au _) p,au _},hd Z H p};ext x H' ⟨rfl,kv,hk,rfl⟩;show hs i kv Z _ hk p
def S5(Pv:Nat->Aao->Hp->Prop)(hx:kvs.length<ca)(h0:Pv 0 [] H1)(hl:∀i ys H,i<=kvs.length->Pv i ys H->H d=some (.fX o u)/\ys.length<=i)
  (hs:∀(i:Nat)(kv:V×V)(ys:Aao)(H:Hp)(N:Aao->Hp->Prop),kvs[i]?=some kv->Pv i ys H->(∀iE H',Pv (i+1) iE H'->N iE H')->
   tt (some kv.1::slotsOf fr Z) H λb H4=>if b=true then te (some kv.1::slotsOf fr Z) H4 (λy H5=>N (ys++[y]) H5)else N ys H4)
  (hd:∀ys H,Pv kvs.length ys H->∀l,H l=none->R l ys H):xO (WO d o u kvs) fr tt te Z H1 R:=by
 show{λi m ys H=>m=kvs.length -i/\i<=kvs.length/\Pv i ys H,{kvs.length,58,aJ _,h0},?_};ext i m ys H ⟨rfl,hi,p⟩;let(q,hy):=hl i ys H hi p;by_cases bN:i<kvs.length
 ·show .inr {⟨q,bN⟩,8,?_};ext v H3 ⟨rfl,kv,qo,rfl⟩;show hs i kv ys H3 (λiE H'=>∃m',m'<kvs.length -i/\m'=kvs.length -(i+1)/\i+1<=kvs.length/\Pv (i+1) iE H') qo p λiE H' p'=>{_,8,9,bN,p'}
 ·have e:i=kvs.length:=by lia
  subst e;show .inl {{q,au _},8,hd ys H p}
def j3(r:Aah):PyData:=.tuple (r.map PyData.str)
def f9(rows:Aab):PyData:=.list (rows.map j3)
def WJ(rows:Aab):Prop:=∀r∈rows,∀z∈r,PyData.strOk z=true
variable{K:Frag}{H:Hp}
def aeM(h:∃a,y=.ref a/\ba K H a (r.map V.str)):Dt K H (j3 r) y:=by let(a,rfl,h):=h;unfold j3;show{a,_,9,h,ko r}
def SO:∀{ys:Aao}{rows:Aab},d7 K H ys rows->pN K H (rows.map j3) ys:=by
 ext ys rows h
 induction h with
 |nil=>rw[fU,pN]
 |cons hr _ ih=>
  show{_,_,9,aeM hr,ih}
def Q0(h:bg K H p ys)(hr:d7 K H ys rows):Dt K H (f9 rows) (.ref p):=by unfold f9;show{p,ys,9,h,SO hr}
def ab6(r t:Aah):PyData.eqv (j3 r) (j3 t)=decide (r=t):=by unfold j3;rw[PyData.eqv,nJ]
theorem FR:∀a b:Aab,PyData.eqvAll (a.map j3) (b.map j3)=decide (a=b)
 |[],[]=>by simp[PyData.eqvAll]
 |[],_::_=>by simp[PyData.eqvAll]
 |_::_,[]=>by simp[PyData.eqvAll]
 |a::r,b::t=>by simp only[bo,PyData.eqvAll,ab6,FR r t];by_cases h:a=b<;>by_cases h':r=t<;>simp[h,h']
def YX(a b:Aab):PyData.eqv (f9 a) (f9 b)=decide (a=b):=by unfold f9;rw[PyData.eqv,FR]
theorem Np:∀rows:Aab,WJ rows->PyData.canLayAll0 (rows.map j3)=true
 |[],_=>rfl
 |z::r,h=>by have h1:(j3 z).canLay0=true:=xc z (h z aw);simp[PyData.canLayAll0,h1,(Np r λy hy=>h y (ay _ hy))]
theorem v7:∀rows:Aab,PyData.depthAll (rows.map j3)<=1
 |[]=>by simp[PyData.depthAll]
 |z::r=>by
  have h1:(j3 z).depth=1:=by simp[j3,PyData.depth,pD]
  have:=v7 r;simp[PyData.depthAll,h1];lia
def Fo(h:WJ rows):SeqAt.shaped (f9 rows)=true:=by have:=v7 rows;simp[SeqAt.shaped,f9,PyData.canLay0,PyData.depth,Np rows h];lia
inductive NK:Type
 |b7
 |key (k:Key)
 |tup (ks:List NK)
noncomputable instance:DecidableEq NK:=λa b=>Classical.propDecidable (a=b)
end
section
variable(P:dL)(w:i3)
mutual
inductive lZ(h:i5):NK->f'->Prop
 |b7:lZ h .b7 .none
 |key {k:Key} {v:f'}:(bS P w).is k v=true->lZ h (.key k) v
 |tup {ks:List NK} {a:bn} {o:G'} {items:Aal} {n:Nat}:h.get? a=some o->o.cls=.type "tuple"->o.data=.seq items n->mD h ks items.toList->lZ h (.tup ks) (.ref a)
inductive mD(h:i5):List NK->Aag->Prop
 |nil:mD h [] []
 |cons {k:NK} {v:f'} {ks:List NK} {vs:Aag}:lZ h k v->mD h ks vs->mD h (k::ks) (v::vs)
end
mutual
def NK.hash:NK->Int
 | .b7=>0xFCA86420
 | .key k=>(bS P w).hash k
 | .tup ks=>reduceHash (Builtin.Tuple.tupleHashOf (NK.hashes ks))
def NK.hashes:List NK->List Int
 |[]=>[]
 |k::ks=>NK.hash k::NK.hashes ks
end
mutual
def NK.draws:NK->Nat
 | .b7=>1
 | .key _=>1
 | .tup ks=>NK.oF ks+1
def NK.oF:List NK->Nat
 |[]=>0
 |k::ks=>NK.draws k+NK.oF ks
end
mutual
def NK.deep:NK->Nat
 | .b7=>0
 | .key _=>0
 | .tup ks=>NK.pE ks+1
def NK.pE:List NK->Nat
 |[]=>0
 |k::ks=>max (NK.deep k) (NK.pE ks)
end
end
section
variable{P:dL}{w:i3}{A:mo}{E:Aae}{s:cr}
def Su(q:Q 0xFCA86420 {s with toks:=s.toks+1}):fv (f8 P w) A (pyHash .none) Q E s:=by have ty:s.TypeIs .none "NoneType":=9;show ae (wpAny_cRoomFor_byValue 9 (ae (iV ty j6.lookup ?_)));show ae (iV ty j6.lookup ?_);show ae (wpAny_callSpecialIfBoundUnlessNone?_slot ty j6 (b9 j6 ty PySem.F.entry_NoneType_hash (show fv _ _ (do ret (<-mkInt 0xFCA86420)) _ _ s from wpAny_ret_mkInt ?_) (PySem.F.args_NoneType_hash_1 _)));show ao q
def NK.YF(ks:List NK):NK.hash P w (.tup ks)=reduceHash (Builtin.Tuple.tupleHashOf (NK.hashes P w ks)):=by rw[NK.hash]
def V1(hu:A.units<v6)(ho:s.heap.get? a=some o)(hc:o.cls=.type "tuple")(hd:o.data=.seq items n)(hi:mD P w s.heap ks items.toList)
  (ih:∀(A':mo)(k:NK)(v:f')(t:Nat)(E':Aae)(R:Int->cr->Prop),A'.units<=A.units+4->k∈ks->lZ P w s.heap k v->R (NK.hash P w k) {s with toks:=t+NK.draws k}->fv (f8 P w) A' (pyHash v) R E' {s with toks:=t})
  (h:Q (NK.hash P w (.tup ks)) {s with toks:=s.toks+NK.draws (.tup ks)}):fv (f8 P w) A (pyHash 68) Q E s:=by
 have hT:s.TypeIs 68 "tuple":=⟨o,ho,hc⟩;show ae (wpAny_cRoomFor_or (.inr hu) ?_);show ae (iV hT l9.lookup ?_);show ae (iV hT l9.lookup ?_);show ae (wpAny_callSpecialIfBoundUnlessNone?_slot hT l9 (b9 l9 hT F.entry_tuple_hash ?_ (F.args_tuple_hash_1 _)));change fv _ _ (Builtin.Tuple.tupleItemsOf 68>>=_) _ _ s;show ae (wpAny_tupleItemsOf ho hd ?_);show ae ?_;rw[<-oV];show mN _
  (λrest(b:Array Int) s'=>∃done left,ks=done++left/\mD P w s.heap left rest/\b.toList=NK.hashes P w done/\s'={s with toks:=s.toks+NK.oF done})
  _ ?_ ?_ _ _ {[],ks,9,hi,by simp[NK.hashes],by simp[NK.oF]}
 ·ext x rest b s' ⟨done,left,e,hl,hb,rfl⟩;cases hl with
  |@cons k _ C6 _ h1 qZ=>
   have e2:NK.hashes P w (done++[k])=NK.hashes P w done++[NK.hash P w k]:=by
    clear e hb
    induction done with
    |nil=>simp[NK.hashes]
    |cons a r VA=>simp only[qL,NK.hashes,VA]
   have e3:NK.oF (done++[k])=NK.oF done+NK.draws k:=by
    clear e hb e2
    induction done with
    |nil=>simp[NK.oF]
    |cons a r VA=>simp only[qL,NK.oF,VA];lia
   show ae (ih _ k x _ _ _ ?_ (by rw[e];simp) h1 (ao {done++[k],C6,by rw[e];simp,qZ,by simp[hb,e2],by rw[e3,vp]}))
   ·change A.units+1<=A.units+4;lia
 ·ext b s' ⟨done,left,rfl,hl,hb,rfl⟩;cases hl;rw[cZ]at h;change fv _ _ (retInt (Builtin.Tuple.tupleHashOf b.toList)) _ _ _;rw[hb];show wpAny_ret_mkInt ?_;change fv _ _ (if(decide (-(2:Int)^63<=Builtin.Tuple.tupleHashOf (NK.hashes P w done))&&decide (Builtin.Tuple.tupleHashOf (NK.hashes P w done)<2^63))=true then _ else _) Q E _;rw[NK.YF,NK.draws]at h;unfold reduceHash at h;by_cases hr:(decide (-(2:Int)^63<=Builtin.Tuple.tupleHashOf (NK.hashes P w done))&&decide (Builtin.Tuple.tupleHashOf (NK.hashes P w done)<2^63))=true
  ·rw[aL hr];rw[aL hr]at h;show ao (by simpa[vp]using h)
  ·rw[aI hr];rw[aI hr]at h;show ae (iW (ao (by simpa[vp]using h)))
mutual
theorem V2:∀(k:NK)(A:mo)(E:Aae)(s:cr)(v:f')(Q:Int->cr->Prop),A.units+4*NK.deep k<v6->lZ P w s.heap k v->Q (NK.hash P w k) {s with toks:=s.toks+NK.draws k}->fv (f8 P w) A (pyHash v) Q E s
 | .b7,A,E,s,v,Q,hu,r,q=>by cases r;rw[NK.hash,NK.draws]at q;show Su q
 | .key k,A,E,s,v,Q,hu,r,q=>by
  cases r with
  |key h=>
   rw[NK.hash,NK.draws]at q;show(bS P w).pyHash h q
 | .tup ks,A,E,s,v,Q,hu,r,q=>by
  cases r with
  |tup ho hc hd hi=>
   rw[NK.deep]at hu;show V1 ∅ ho hc hd hi (λA' k v t E' R hA hk r q=>Oa ks k hk A' E' {s with toks:=t} v R ∅ r q) q
theorem Oa:∀(ks:List NK)(k:NK),k∈ks->∀(A:mo)(E:Aae)(s:cr)(v:f')(Q:Int->cr->Prop),A.units+4*NK.pE ks<v6->lZ P w s.heap k v->Q (NK.hash P w k) {s with toks:=s.toks+NK.draws k}->fv (f8 P w) A (pyHash v) Q E s
 |[],k,h,A,E,s,v,Q,hu,r,q=>by cases h
 |k0::ks,k,h,A,E,s,v,Q,hu,r,q=>by
  rw[NK.pE]at hu;rcases aN.mp h with e|h
  ·rw[e]at r q;show V2 k0 A E s v Q ∅ r q
  ·show Oa ks k h A E s v Q ∅ r q
end
end
section
variable{P:dL}{w:i3}
mutual
theorem Qd:∀(k:NK)(n:Nat)(A:mo)(E:Aae)(s:cr)(v:f')(Q:Bool->cr->Prop),lZ P w s.heap k v->NK.deep k<=n->Q true s->fv (f8 P w) A (eqIsQuiet n v) Q E s
 | .b7,n,A,E,s,v,Q,r,_,q=>by cases r;rw[E1 n rfl];show ao q
 | .key k,n,A,E,s,v,Q,r,_,q=>by
  cases r with
  |key h=>
   rw[E1 n ((bS P w).byValue _ _ h)];show ao q
 | .tup ks,0,A,E,s,v,Q,r,hn,q=>by rw[NK.deep]at hn;show absurd hn ∅
 | .tup ks,n+1,A,E,s,v,Q,r,hn,q=>by
  cases r with
  |@tup _ a o items m ho hc hd hi=>
   rw[NK.deep]at hn;have hT:s.TypeIs 68 "tuple":=⟨o,ho,hc⟩;unfold eqIsQuiet;show ae (iV hT F.slot_tuple_eq.lookup ?_);change fv _ _ (isInstance 68 (.type "tuple")>>=_) _ _ s;show ae (ju hT isSubtype_tuple_tuple ?_);simp only[qB,cD,fR];show ae (dk ho hd ?_);show ae ?_;change fv _ _ (forIn items _ _) _ _ s;rw[<-oV];show mN _ (λrest r s'=>r.1=none/\s'=s/\∃left,mD P w s.heap left rest/\∀k∈left,k∈ks) _ ?_ ?_ _ _ {9,9,ks,hi,λ_ h=>h}
   ·ext v rest r s' ⟨hr,rfl,left,hl,hm⟩;cases hl with
    |@cons k _ C6 _ h1 qZ=>
     show ae (Kh ks k (hm k aw) n _ _ _ v _ h1 ∅ ?_);simp only[qB,cD,fR];show ao {9,9,C6,qZ,λk' NW=>hm k' (ay _ NW)}
   ·ext⟨r1,r2⟩ s' ⟨hr,rfl,_⟩;simp only at hr;subst hr;show ao q
theorem Kh:∀(ks:List NK)(k:NK),k∈ks->∀(n:Nat)(A:mo)(E:Aae)(s:cr)(v:f')(Q:Bool->cr->Prop),lZ P w s.heap k v->NK.pE ks<=n->Q true s->fv (f8 P w) A (eqIsQuiet n v) Q E s
 |[],k,h,n,A,E,s,v,Q,r,hn,q=>by cases h
 |k0::ks,k,h,n,A,E,s,v,Q,r,hn,q=>by
  rw[NK.pE]at hn;rcases aN.mp h with e|h
  ·rw[e]at r;show Qd k0 n A E s v Q r ∅ q
  ·show Kh ks k h n A E s v Q r ∅ q
end
mutual
def NK.toD:NK->PyData
 | .b7=>.none
 | .key (.inl i)=>.int i
 | .key (.inr z)=>.str z
 | .tup ks=>.tuple (NK.nK ks)
def NK.nK:List NK->List PyData
 |[]=>[]
 |k::ks=>NK.toD k::NK.nK ks
end
mutual
theorem I0:∀(k:NK){h:i5}{v:f'},lZ P w h k v->∃as,W' h v (NK.toD k) as
 | .b7,h,v,r=>by cases r;rw[NK.toD];show{_,.none}
 | .key (.inl i),h,v,r=>by
  cases r with
  |key q=>
   let(t,rfl):=(show RelV (.int i) v from tN (k:=Sum.inl i) q);rw[NK.toD];show{_,.int i t}
 | .key (.inr z),h,v,r=>by
  cases r with
  |key q=>
   let(t,rfl):=(show RelV (.str z) v from tN (k:=Sum.inr z) q);rw[NK.toD];show{_,.str z t}
 | .tup ks,h,v,r=>by
  cases r with
  |tup ho hc hd hi=>
   let(as,q):=MA ks hi;rw[NK.toD];show{_,.tuple ho hc hd q}
theorem MA:∀(ks:List NK){h:i5}{vs:Aag},mD P w h ks vs->∃as,K' h vs (NK.nK ks) as
 |[],h,vs,r=>by cases r;rw[NK.nK];show{_,.nil}
 |k::ks,h,vs,r=>by
  cases r with
  |cons r1 r2=>
   let(as,q1):=I0 k r1;let(bs,q2):=MA ks r2;rw[NK.nK];show{_,.cons q1 q2}
end
mutual
theorem aax:∀(x y:NK),PyData.eqv (NK.toD x) (NK.toD y)=true↔x=y
 | .b7,.b7=>by simp[NK.toD,PyData.eqv]
 | .b7,.key (.inl _)=>by simp[NK.toD,PyData.eqv]
 | .b7,.key (.inr _)=>by simp[NK.toD,PyData.eqv]
 | .b7,.tup _=>by simp[NK.toD,PyData.eqv]
 | .key (.inl _),.b7=>by simp[NK.toD,PyData.eqv]
 | .key (.inl i),.key (.inl j)=>by simp[NK.toD,PyData.eqv]
 | .key (.inl _),.key (.inr _)=>by simp[NK.toD,PyData.eqv]
 | .key (.inl _),.tup _=>by simp[NK.toD,PyData.eqv]
 | .key (.inr _),.b7=>by simp[NK.toD,PyData.eqv]
 | .key (.inr _),.key (.inl _)=>by simp[NK.toD,PyData.eqv]
 | .key (.inr a),.key (.inr b)=>by simp[NK.toD,PyData.eqv]
 | .key (.inr _),.tup _=>by simp[NK.toD,PyData.eqv]
 | .tup _,.b7=>by simp[NK.toD,PyData.eqv]
 | .tup _,.key (.inl _)=>by simp[NK.toD,PyData.eqv]
 | .tup _,.key (.inr _)=>by simp[NK.toD,PyData.eqv]
 | .tup xs,.tup ys=>by rw[NK.toD,NK.toD,PyData.eqv,Wi xs ys];show{cW NK.tup,λh=>by injection h}
theorem Wi:∀(xs ys:List NK),PyData.eqvAll (NK.nK xs) (NK.nK ys)=true↔xs=ys
 |[],[]=>by simp[NK.nK,PyData.eqvAll]
 |[],_::_=>by simp[NK.nK,PyData.eqvAll]
 |_::_,[]=>by simp[NK.nK,PyData.eqvAll]
 |x::xs,y::ys=>by rw[NK.nK,NK.nK,PyData.eqvAll,bQ,aax x y,Wi xs ys];simp
end
def FC(h:(bS P w).is k 68=true):False:=by have:=(bS P w).byValue _ _ h;cases this
def C8(h:(bS P w).is k .none=true):False:=by
 have:=tN (k:=k) h;cases k with
 |inl i=>let(t,e):=(show∃t,Value.none=Value.int i t from this);cases e
 |inr z=>let(t,e):=(show∃t,Value.none=Value.str z t from this);cases e
mutual
theorem aar:∀(x y:NK){h:i5}{v:f'},lZ P w h x v->lZ P w h y v->x=y
 | .b7,y,h,v,r1,r2=>by
  cases r1;cases r2 with
  |b7=>rfl
  |key q=>show(C8 q).elim
 | .key k,y,h,v,r1,r2=>by
  cases r1 with
  |key q=>
   cases r2 with
   |b7=>show(C8 q).elim
   |key q2=>rw[(bS P w).inj _ _ _ q q2]
   |tup=>show(FC q).elim
 | .tup ks,y,h,v,r1,r2=>by
  cases r1 with
  |tup ho hc hd hi=>
   cases r2 with
   |key q=>show(FC q).elim
   |@tup ks2 _ o2 C9 n2 vE uS hd2 mq=>
    rw[ho]at vE;cases vE;rw[hd]at hd2;injection hd2 with e1 _;subst e1;rw[Vz ks ks2 hi mq]
theorem Vz:∀(xs ys:List NK){h:i5}{vs:Aag},mD P w h xs vs->mD P w h ys vs->xs=ys
 |[],ys,h,vs,r1,r2=>by cases r1;cases r2;rfl
 |x::xs,ys,h,vs,r1,r2=>by
  cases r1 with
  |cons a b=>
   cases r2 with
   |@cons y _ ys _ c d=>rw[aar x y a c,Vz xs ys b d]
end
mutual
theorem Vu(h h':i5)(k:∀b o,(∃aY n,o.data=.seq aY n)->h.get? b=some o->h'.get? b=some o):∀(x:NK){v:f'},lZ P w h x v->lZ P w h' x v
 | .b7,v,r=>by cases r;show .b7
 | .key _,v,r=>by
  cases r with
  |key q=>show .key q
 | .tup ks,v,r=>by
  cases r with
  |tup ho hc hd hi=>show .tup (k _ _ ⟨_,_,hd⟩ ho) hc hd (Qw h h' k ks hi)
theorem Qw(h h':i5)(k:∀b o,(∃aY n,o.data=.seq aY n)->h.get? b=some o->h'.get? b=some o):∀(xs:List NK){vs:Aag},mD P w h xs vs->mD P w h' xs vs
 |[],vs,r=>by cases r;show .nil
 |x::xs,vs,r=>by
  cases r with
  |cons a b=>show .cons (Vu h h' k x a) (Qw h h' k xs b)
end
def ae2(P:dL)(w:i3)(h:i5)(k:NK)(a:bn):Prop:=lZ P w h k 68/\(NK.toD k).canLay0=true/\(NK.toD k).depth<=07/\NK.deep k<=07
noncomputable def qF(P:dL)(w:i3):HeapKind P w NK where
 is:=ae2 P w
 hash:=NK.hash P w
 draws:=NK.draws
 room:=λA=>A.units+100<v6
 inj:=λhx hy=>aar _ _ hx.1 hy.1
 keeps:=λx ho hd hs=>⟨Vu _ _ (λb o' n e=>by show(hs.2 b ?_).trans e;ext rfl;rw[ho]at e;cases e;let(__,__,z):=n;rw[hd]at z;cases z) _ x.1,x.2⟩
 pyHash:=λhu hk h=>V2 _ _ _ _ _ _ (by have:=hk.2.2.2;lia) hk.1 h
 eqBool:=λ{A E s x y a b Q} hu hx hy h=>by
  let(as,r1):=I0 x hx.1;let(bs,r2):=I0 y hy.1;have e:PyData.eqv (NK.toD x) (NK.toD y)=decide (x=y):=by rw[fu,aax,iJ]
  have:=SeqAt.eqAt_reads _ _ A s _ _ as bs r1 r2 hx.2.1 hy.2.1 (by have:=hx.2.2.1;have:=Nat.min_le_left (NK.toD x).depth (NK.toD y).depth;lia);rw[e]at this;show this P w E Q h
 quiet:=λhk h=>Qd _ 08 _ _ _ _ _ hk.1 (by have:=hk.2.2.2;lia) h
end
def DN(P:dL)(w:i3)(d:bn)(kvs:List 74):i5->Prop:=λh=>(d==re)=false/\∃xs:List (NK×bn×f'),Paired 97 kvs xs/\kvs.length<=10000000/\
 ∃o es ep,h.get? d=some o/\o.ExactDict/\o.data=.dict es ep/\es.toList=xs.map (Rs (qF P w))/\(xs.map (·.1)).Nodup
def aay(x:DN P w d kvs h):dG P w H h d (.ext (DN P w d kvs)):=
 {x,let⟨_,_,_,_,o,_,_,q,_⟩:=x;⟨o,q⟩,λ_ _ ⟨l,xs,p,n,o,es,ep,q,r⟩ k=>{l,xs,p,n,o,es,ep,k _ q,r}}
mutual
def NV(K:Frag)(H:Hp):NK->V->Prop
 | .b7,v=>v=.b7
 | .key k,v=>v=kV k
 | .tup ks,v=>∃a xs,v=.ref a/\ba K H a xs/\sG K H ks xs
def sG(K:Frag)(H:Hp):List NK->Aao->Prop
 |[],xs=>xs=[]
 |k::ks,xs=>∃x r,xs=x::r/\NV K H k x/\sG K H ks r
end
section
variable{X:Cx}{bi:Aac}{Z:St}{H:Hp}{s:cr}
mutual
theorem M7(I:Inv X bi Z H s):∀(k:NK)(v:V)(u:f'),NV X.K H k v->RelV v u->lZ 57 X.w s.heap k u
 | .b7,v,u,h,r=>by rw[NV]at h;subst h;cases(show u=Value.none from r);show .b7
 | .key k,v,u,h,r=>by rw[NV]at h;subst h;show .key (qA r)
 | .tup ks,v,u,h,r=>by rw[NV]at h;let(a,xs,rfl,hq,ha):=h;cases r;obtain⟨aY,rv,⟨o,e,c,n,d⟩,_⟩:=I.tuple hq;show .tup e c d (by simpa using Kq I ks xs aY ha rv)
theorem Kq(I:Inv X bi Z H s):∀(ks:List NK)(xs:Aao)(us:Aag),sG X.K H ks xs->Vals xs us->mD 57 X.w s.heap ks us
 |[],xs,us,h,r=>by rw[sG]at h;subst h;cases r;show .nil
 |k::ks,xs,us,h,r=>by
  rw[sG]at h;let(x,t,rfl,h1,h2):=h;cases r with
  |cons r1 r2=>show .cons (M7 I k x _ h1 r1) (Kq I ks t _ h2 r2)
end
def Ti(k:NK):Prop:=(NK.toD k).canLay0=true/\(NK.toD k).depth<=07/\NK.deep k<=07
end
def iS(K:Frag)(H:Hp)(k:NK)(a:bn):Prop:=NV K H k 68/\Ti k
def iL(P:dL)(w:i3)(K:Frag)(H:Hp)(a:bn)(kvs:List 74):Prop:=(H a=some (.ext (DN P w a kvs))\/(kvs=[]/\H a=some 69))/\∀p∈kvs,iS K H p.1 p.2.1
def valN(kvs:List 74)(k:NK):Aap:=(kvs.find? λp=>decide (p.1=k)).map (·.2.2)
def putN(kvs:List 74)(k:NK)(a:bn)(v:V):List 74:=if(valN kvs k).isSome then kvs.map (λp=>if p.1=k then(p.1,p.2.1,v)else p)else kvs++[(k,a,v)]
def Ew(rel:Paired 97 kvs xs)(k:NK):mY (valN kvs k) ((IN xs k).map (·.2)):=by
 unfold valN IN
 induction rel with
 |nil=>show trivial
 |@cons p q ps qs h _ ih=>
  by_cases c:p.1=k
  ·rw[gx (p:=λp:NK×bn×V=>decide (p.1=k)) (bb c),gx (p:=λx:NK×bn×f'=>decide (x.1=k)) (bb (h.1.symm.trans c))];show h.2.2
  ·rw[gA (p:=λp:NK×bn×V=>decide (p.1=k)) (λd=>c (aU d)),gA (p:=λx:NK×bn×f'=>decide (x.1=k)) (λd=>c (h.1.trans (aU d)))];show ih
section
variable{X:Cx}{bi:Aac}{Z:St}{H:Hp}{s:cr}{A:mo}{E:Aae}{a b:bn}{kvs:List (NK×bn×V)}{k:NK}{v:V}
def Inv.NB(I:Inv X bi Z H s)(h:iS X.K H k b):(qF 57 X.w).is s.heap k b:={M7 I k (.ref b) (.ref b) h.1 rfl,h.2}
def Inv.Bo(I:Inv X bi Z H s)(h:iL 57 X.w X.K H a kvs):(a==re)=false/\∃xs,Paired 97 kvs xs/\kvs.length<=10000000/\s.heap.DictOfH (qF 57 X.w) a xs:=by
 let(h1,h2):=h;have keys:∀{l:List 74}{xs:List (NK×bn×f')},Paired 97 l xs->(∀p∈l,iS X.K H p.1 p.2.1)->∀x∈xs,(qF 57 X.w).is s.heap x.1 x.2.1:=λr=>by
  induction r with
  |nil=>ext _ x hx;cases hx
  |@cons p q ps qs h _ ih=>
   ext hk x hx;rcases aN.mp hx with rfl|hx
   ·rw[<-h.1,<-h.2.1];show I.NB (hk p aw)
   ·show ih (λp hp=>hk p (ay _ hp)) x hx
 rcases h1 with h1|⟨rfl,h1⟩
 ·obtain⟨⟨lo,xs,rel,hl,o,es,ep,g,hx,hd,he,nd⟩,_⟩:=(show dG 57 X.w H s.heap a (.ext (DN 57 X.w a kvs))from I.bK a _ h1);show{lo,xs,rel,hl,o,es,ep,g,hx,hd,he,keys rel h2,nd}
 ·let(__,lo,vs,rel,o,es,ep,g,hx,hd,__,hp,__):=uE I.bK h1;cases rel;have e0:es.toList=[]:=by have:=hp.length;show dF.mp this
  show{lo,[],.nil,aJ _,o,es,ep,g,hx,hd,by rw[e0];rfl,λx h=>(by cases h),dq}
def afY{Q:Aae}(hu:A.units+101<v6)(I:Inv X bi Z H s)(h:iL 57 X.w X.K H a kvs)(hk:iS X.K H k b)(q:∀s',Inv X bi Z H s'->Q (.bool (valN kvs k).isSome) s'):fv 59 A (on .In (.ref b) 68) Q E s:=by let(lo,xs,rel,hl,dd):=I.Bo h;show wpAny_in_heap (show A.units+1+100<v6 by lia) (I.NB hk) lo dd ?_;have e:=(Ew rel k).oy;rw[ic]at e;rw[<-e];show q _ (I.tok _)
def Mz(rel:Paired 97 kvs xs)(rv:RelV v r):Paired 97 (putN kvs k b v) (Pi xs k b r):=by
 have e:=(Ew rel k).oy;rw[ic]at e;unfold putN Pi;rw[e];split
 next hs=>
  clear e hs
  induction rel with
  |nil=>show .nil
  |@cons p q ps qs h _ ih=>
   show .cons ?_ ih;change(if p.1=k then(p.1,p.2.1,v)else p).1=(if q.1=k then(q.1,q.2.1,r)else q).1/\(if p.1=k then(p.1,p.2.1,v)else p).2.1=(if q.1=k then(q.1,q.2.1,r)else q).2.1/\RelV (if p.1=k then(p.1,p.2.1,v)else p).2.2 (if q.1=k then(q.1,q.2.1,r)else q).2.2;by_cases c:p.1=k
   ·rw[aL c,aL (h.1.symm.trans c)];show{h.1,h.2.1,rv}
   ·rw[aI c,aI (λd=>c (h.1.trans d))];show h
 next=>show zF rel ⟨rfl,rfl,rv⟩
def wR:(putN kvs k b v).length<=kvs.length+1:=by
 unfold putN;split
 ·rw[ah];lia
 ·rw[aC];show au _
def aeO(hu:A.units+101<v6)(I:Inv X bi Z H s)(h:iL 57 X.w X.K H a kvs)(hk:iS X.K H k b)(oA:kvs.length<10000000)(rv:RelV v r)
  (q:∀s',Inv X bi Z (upd H a (.ext (DN 57 X.w a (putN kvs k b v)))) s'->Q () s'):fv 59 A (Z' 68 (.ref b) r) Q E s:=by
 let(lo,xs,rel,hl,dd):=I.Bo h;have lx:96<=ca:=by rw[<-rel.length,bW];lia
 show Cp (show A.units+1+100<v6 by lia) (I.NB hk) dd λh' sg hs=>q _ ?_;let(o,es,ep,g,h2,h3,h4,__,h5):=sg;have lp:=wR (kvs:=kvs) (k:=k) (b:=b) (v:=v);show t7 I ?_ hs ⟨o,g⟩ (aay {lo,_,Mz rel rv,8,o,es,ep,g,h2,h3,h4,h5});rcases h.1 with e|⟨_,e⟩<;>rw[e]<;>show True.intro
end
inductive agj(P:dL)(w:i3)(K:Frag)(neg:Bool)(x:V)(y:V)(H:Hp)(Q:VK):Prop
 |mk a b kvs k (_:x=.ref b) (_:y=.ref a) (_:iL P w K H a kvs) (_:iS K H k b) (_:Q (.bl (if neg then !(valN kvs k).isSome else(valN kvs k).isSome)) H)
inductive aba(P:dL)(w:i3)(K:Frag)(D:Ends)(Z:St)(v:V)(x:V)(y:V)(H3:Hp):Prop
 |mk a b kvs k (_:x=.ref a) (_:y=.ref b) (_:iL P w K H3 a kvs) (_:iS K H3 k b) (_:kvs.length<10000000) (_:D.nx Z (upd H3 a (.ext (DN P w a (putN kvs k b v)))))
def ac9(P:dL)(w:i3)(K:Frag)(td ty tv:TE):TS:=λD Z H=>tv Z H λv H1=>td Z H1 λx H2=>ty Z H2 λy H3=>aba P w K D Z v x y H3
section
variable{X:Cx}{o i value:u8}{pos pos':Fa}{td ty tv:TE}
def adE(hu:X.A.units+101<v6):iT X (on .In) (agj 57 X.w X.K false):=by ext bi s Z H x y v u Q I rx ry h;let(a,b,kvs,k,rfl,rfl,g,hk,q):=h;cases rx;cases ry;show afY hu I g hk λs' I'=>{.bl _,H,I',9,q}
def Gk(hu:X.A.units+101<v6)(ho:PE X o td)(hi:PE X i ty)(hv:PE X value tv)(hs:AC value (some (.Subscript o i pos')) pos.line X.env=pure false):
  PS X (.Assign [.Subscript o i pos'] value pos) (ac9 57 X.w X.K td ty tv):=by
 ext bi s Z H D I h;show yT (da (hv bi s Z H _ I h) λr s1 v H1 I1 rv q1=>da (ho bi s1 Z H1 _ I1 q1) λu s2 x H2 I2 rx q2=>da (hi bi s2 Z H2 _ I2 q2) λiv s3 y H3 I3 ry agK=>?_) hs;let(a,b,kvs,k,ex,ey,g,hk,hl,q):=agK;subst ex ey;obtain rfl:u=Value.ref a:=rx;obtain rfl:iv=Value.ref b:=ry;show aeO hu I3 g hk hl rv λs4 I4=>⟨Z,_,I4,q⟩
end
def range_any(bs:List Bool):((List.range bs.length).any λi=>(bs[i]?).getD false)=bs.any id:=by
 rw[fu,iD,iD];constructor
 ·ext⟨i,hi,h⟩;have hl:=cw.mp hi;rw[av hl]at h;show{_,jA hl,h}
 ·ext⟨b,hb,h⟩;let(i,hi):=dy.mp hb;show{i,cw.mpr (aq.mp hi).1,hi▸h}
section
variable{X:Cx}
def Av(hc:X.calm=true):gJ X (.builtin "any") (λxs H Q=>∃(a:bn)(bs:List Bool),xs=[.ref a]/\bg X.K H a (bs.map V.bl)/\Q (.bl (bs.any id)) H):=by
 ext bi s Z H xs us Q I r h;let(a,bs,rfl,ha,q):=h;let(u,rfl,ru):=jn r;cases ru;let(aY,rv,p,hz):=I.list ha;have hl:aY.length=bs.length:=by have:=rv.length;simpa using this.symm
 have iB:a≠17:=by let(o,n,e,__):=id p;show aW (aX e)
 show call_any_walk (lV p.isList ?_);show{17,_,_,aY.toArray.size,_,_,λi=>(bs[i]?).getD false,9,Iy (show X.A.in1.handled=none from I.ok.hd hc) 17 a iB aY.toArray,{{_,aR _ rfl,9,9},p.isList.at λo e=>aj _ e},?_,λh' tk kp=>?_}
 ·ext i v s' Q' E' hP hQ;have V5:aY[i]?=some v:=by simpa using hP
  have hi:i<bs.length:=by rw[<-hl];show(aq.mp V5).1
  let(u,hu,ru):=rv.get (by rw[aZ,av hi];rfl);rw[V5]at hu;cases hu;cases ru;show eO ?_;have e2:(bs[i]?).getD false=bs[i]:=by rw[av hi];rfl
  rw[<-e2];show hQ
 ·show{.bl (bs.any id),H,I.kept λb o e=>kp b o (by simpa using aW (aX e)) (aj _ e),?_,q};change Value.bool _=Value.bool _;rw[aQ,hl,range_any]
def La(hc:X.calm=true):gJ X (.builtin "min") (λxs H Q=>∃(a:bn)(ns:List Int),xs=[.ref a]/\bg X.K H a (ns.map V.int)/\0<ns.length/\∀m,m∈ns->(∀n∈ns,m<=n)->Q (.int m) H):=by
 ext bi s Z H xs us Q I r h;let(a,ns,rfl,ha,hn,q):=h;let(u,rfl,ru):=jn r;cases ru;let(aY,rv,p,hz):=I.list ha;have hi:=ints_of rv;let(xs,e):=hi.allInts.items;have B4:ns=xs.toList.map (·.1):=by rw[<-hi.numsOf,<-nums_intItems,<-e]
 have hsz:0<xs.size:=by have h3:=hn;rw[B4,ah,bB]at h3;show h3
 have hl:=p.isList;rw[e]at hl;show min_intList (show X.A.handled=none from I.ok.hd hc) hl hsz λv h' tk hv hk=>?_;let(t,rfl):=intItems_at hv;let(h1,h2):=argBest_lt (numAt xs) (xs.size -1);show{.int _,H,I.kept hk,⟨t,rfl⟩,q _ ?_ λb hb=>?_}
 ·rw[B4,numAt_eq];show getD_mem (by rw[ah,bB];lia)
 ·rw[B4]at hb;let(j,hj,rfl):=mem_getD hb;rw[ah,bB]at hj;rw[<-numAt_eq];show h2 j ∅
def Io:gJ X (.type "dict") (λxs H Q=>∃a kvs,xs=[.ref a]/\Rd H a (.dK kvs)/\∀p,H p=none->Q (.ref p) (upd H p (.dK kvs))):=by ext bi s Z H xs us Q I r h;let(a,kvs,rfl,ha,q):=h;let(u,rfl,ru):=jn r;cases ru;show Y5 I ha λp s' hp I'=>{.ref p,_,I',9,q p hp}
inductive abf(x:V)(vs:Aao)(H:Hp)(Q:VK):Prop
 |mk (a:bn) (k:Key) (z:V) (kvs:List (Key×V)) (_:x=.ref a) (_:vs=[kV k,z]) (_:H a=some (.dK kvs)) (_:kvs.length<ca) (_:(∀v,iQ kvs k=some v->Q v H)) (_:(iQ kvs k=none->Q z (upd H a (.dK (putK kvs k z)))))
def Kr:Ll X "dict.setdefault" abf:=by
 ext bi s Z H x vs v us Q I rx rv h;let(a,k,z,kvs,rfl,rfl,hH,hl,q1,q2):=h;cases rx;let(u1,u2,rfl,r1,r2):=rv.two;let(zz,hd,ws,rel,dd):=uE I.bK hH;show jN hX dd.typeIs sQ (sD _ _ _) (kt_meets_setdefault (bS 57 X.w) a (qA r1) hd u2) {ws,dd,(by rw[<-rel.length];show zz),λv hv=>?_,λhn h' sg hs=>?_}
 ·have:=rel.val k;rw[hv]at this;cases e:iQ kvs k with
  |none=>rw[e]at this;show this.elim
  |some y=>
   rw[e]at this;show{y,H,I.tok _,this,q1 y e}
 ·have:=rel.val k;rw[hn]at this;cases e:iQ kvs k with
  |some y=>rw[e]at this;show this.elim
  |none=>
   show{z,_,t7 I (hH▸True.intro) hs (let⟨o,_,_,ho,_⟩:=sg;⟨o,ho⟩) (xp (by have:=uz kvs k z;lia) hd (rel.put k r2) sg),r2,q2 e}
variable{K:Frag}
def MJ{tg l:u8}{tl:TE}(hl:PE X l tl)(h:X.K=K:=by rfl):PI X tg l (aas K tl):=h▸dO hl
def Ip(hc:X.calm=true)(h:X.K=K:=by rfl):gJ X (.builtin "any") (λxs H Q=>∃(a:bn)(bs:List Bool),xs=[.ref a]/\bg K H a (bs.map V.bl)/\Q (.bl (bs.any id)) H):=h▸Av hc
end
end L2
namespace L2
open PySem PySem.Spec PyProof.Rows
theorem DL(n:Nat):∀(b:List (io×wn))(acc:List (io×bn)),(∀y∈b,y.2≠ .cell)->cellsFrom n b acc=acc
 |[],_,_=>rfl
 |(y,k)::r,acc,h=>by
  have hk:(k==NameKind.cell)=false:=by simpa using h (y,k) aw
  unfold cellsFrom;rw[hk];show DL n r acc λz hz=>h z (ay _ hz)
theorem CP(hp:i5):∀(b:List (io×wn)),(∀y∈b,y.2≠ .cell)->pushCells hp b=hp
 |[],_=>rfl
 |(y,k)::r,h=>by
  have hk:(k==NameKind.cell)=false:=by simpa using h (y,k) aw
  unfold pushCells;rw[hk];show CP hp r λz hz=>h z (ay _ hz)
theorem B8(n:Nat)(x:io)(b:List (io×wn))(acc:List (io×bn))(hb:∀y∈b,y.2≠ .cell):∀(a:List (io×wn)),(∀y∈a,y.2≠ .cell)->cellsFrom n (a++(x,.cell)::b) acc=(x,n)::acc
 |[],_=>by change(if(NameKind.cell==NameKind.cell)=true then cellsFrom (n+1) b ((x,n)::acc)else cellsFrom n b acc)=_;show DL _ b _ hb
 |(y,k)::r,h=>by
  have hk:(k==NameKind.cell)=false:=by simpa using h (y,k) aw
  change(if(k==NameKind.cell)=true then cellsFrom (n+1) (r++(x,.cell)::b) ((y,n)::acc)else cellsFrom n (r++(x,.cell)::b) acc)=_;rw[hk];show B8 n x b acc hb r λz hz=>h z (ay _ hz)
theorem BV(hp:i5)(x:io)(b:List (io×wn))(hb:∀y∈b,y.2≠ .cell):∀(a:List (io×wn)),(∀y∈a,y.2≠ .cell)->pushCells hp (a++(x,.cell)::b)=hp.push {cls:=.type "cell",data:=.cell none}
 |[],_=>by change(if(NameKind.cell==NameKind.cell)=true then pushCells (hp.push {cls:=.type "cell",data:=.cell none}) b else pushCells hp b)=_;show CP _ b hb
 |(y,k)::r,h=>by
  have hk:(k==NameKind.cell)=false:=by simpa using h (y,k) aw
  change(if(k==NameKind.cell)=true then pushCells (hp.push {cls:=.type "cell",data:=.cell none}) (r++(x,.cell)::b)else pushCells hp (r++(x,.cell)::b))=_;rw[hk];show BV hp x b hb r λz hz=>h z (ay _ hz)
section
variable{M:Model}{A:mo}{E:Aae}{s:cr}
def vb{scope:ww}{globals:bn}{cl:List (io×bn)}{xz:io}{outer:UV}{x:io}{Q:UV->cr->Prop}
  (hx:∃a b,scope.names=a++(x,.cell)::b/\(∀y∈a,y.2≠ .cell)/\∀y∈b,y.2≠ .cell)
  (hQ:∀h',h'.Ns 17 (λ_=>none)->h'.IsCell (17+1) none->(∀b o,s.heap.get? b=some o->h'.get? b=some o)->
   Q (newEnv scope 17 globals ((x,17+1)::cl) xz none .none (some outer) SL) {s with heap:=h',toks:=s.toks}):
  fv M A (newFunctionEnv scope globals cl [] xz none .none (some outer)) Q E s:=by
 let(a,b,e,ha,hb):=hx;simp only[newFunctionEnv,Eb,k7];show ae (wpAny_alloc ?_);show ae (wpAny_layCells _ (λname kind cells=>by cases hkc:kind==NameKind.cell<;>simp[hkc]) _ _ _ _ ?_);rw[e,B8 _ x b _ hb a ha,BV _ x b hb a ha,List.forIn_nil];show ae (ao (ao ?_));rw[show({s with heap:=s.heap.push {cls:=.type "dict",data:=.dict #[]}}:cr).heap.objs.size=17+1 from du ..];show hQ _ ((Heap.Ns.new s.heap (.type "dict")).keeps λb o e=>aj _ e) {_,by rw[<-du s.heap {cls:=.type "dict",data:=.dict #[]}];show aR _ rfl,9} λb o e=>aj _ (aj _ e)
structure rA(X:Cx)(scope:ww)(x:io)(fs:Aah)(fr:List Nat):Prop where
 kind:scope.kind=.function
 loc:scope.names.lookup x=some .cell
 names:∀y∈scope.names,y.2=.local->scope.names.lookup y.1=some .local
 one:∃a b,scope.names=a++(x,.cell)::b/\(∀y∈a,y.2≠ .cell)/\∀y∈b,y.2≠ .cell
 free:∀n∈frees scope,X.env.kindOf n=some .cell/\scope.names.lookup n=some .free
 nd:(x::fs).Nodup
 len:fr.length=fs.length
 slots:∀(j:Nat)(y:io)(k:Nat),fs[j]?=some y->fr[j]?=some k->X.N[k]?=some y/\y∈frees scope
def rA.only{X:Cx}{scope:ww}{x:io}{fs:Aah}{fr:List Nat}(S:rA X scope x fs fr)(y:io)(h:(y,NameKind.cell)∈scope.names):y=x:=by
 let(a,b,e,ha,hb):=S.one;rw[e]at h;rcases aS.mp h with h|h
 ·show absurd rfl (ha _ h)
 ·rcases aN.mp h with h|h
  ·show cW Prod.fst h
  ·show absurd rfl (hb _ h)
def My{env:UV}{scope:ww}{x:io}(h:scope.names.lookup x=some .cell):(GM scope env).names.lookup x=some .cell:=by rw[mf,h];rfl
end
abbrev kf(X:Cx)(N':Aah)(scope:ww)(x:io)(C:bn)(s:cr)(H:Hp)(ex:Aaj):Cx:=
 {X with N:=N',aab:=s,aae:=H,env:=SC scope ((x,C+1)::mX scope X.env) C X.env,outer:=X.stack,stack:=X.stack,ex:=ex,fn:=λy=>y==x,pn:=[],xe:=λ_ _=>False}
section
variable{X:Cx}
def Za{bi:Aac}{Z:St}{H:Hp}{s:cr}{scope:ww}{x:io}{fs:Aah}{fr:List Nat}{D:bn}{fp:Aaj}{s2:cr}(S:rA X scope x fs fr)(I2:Inv X bi Z H s2)(I3:Inv X bi Z H s)
  (hD:D=61) (hs:17=D+1) (bN:∀b∈fp,b<D) (f2:∀b∈fp,oU X bi H b):(kf X (x::fs) scope x 17 s H (D::fp)).Ok:=by
 have mv:=λn hn=>I3.ok.has n (.inl (S.free n hn).1);have sub:∀{y:io}{c:bn},(mX scope X.env).lookup y=some c->X.env.cells.lookup y=some c:=λh=>((jE mv).mp h).2;have low:∀{y:io}{c:bn},(mX scope X.env).lookup y=some c->c<17:=λh=>by let(v,q):=I3.cell _ _ (sub h);show q.lt
 have two:∀{y:io}{c:bn},((x,17+1)::mX scope X.env).lookup y=some c->(y=x/\c=17+1)\/(mX scope X.env).lookup y=some c:=λ{y c} h=>by
  rw[jz]at h;cases e:(y==x)with
  |true=>rw[e]at h;show .inl {dX e,(bY h).symm}
  |false=>rw[e]at h;show .inr h
 show{I3.ok.mod,S.kind,I3.ok.glob,I3.ok.blt,au _,λa b c h1 h2=>?_,λy hy=>?_,(λy c h hl=>?_),I3.ok.hd,I3.ok.frames,.inl rfl,λb hb=>?_,I3.bs,bc I3.ok.B9 I3.sz,λb o e hb=>?_,λb hb hf=>?_,I3.stack,I3.IM}
 ·rcases two h1 with⟨e1,e2⟩|h1'
  ·rcases two h2 with⟨e3,_⟩|Oe
   ·rw[e1,e3]
   ·show absurd (low Oe) (by rw[e2];show pK.mpr (d8 _))
  ·rcases two h2 with⟨_,e2⟩|Oe
   ·show absurd (low h1') (by rw[e2];show pK.mpr (d8 _))
   ·show I3.ok.inj a b c (sub h1') (sub Oe)
 ·by_cases VC:y=x
  ·subst VC;show{_,List.lookup_cons_self}
  have q:(GM scope X.env).names.lookup y=some .cell\/(GM scope X.env).names.lookup y=some .free:=hy;have nf:scope.names.lookup y=some .free:=by
   rw[mf]at q;cases e:scope.names.lookup y with
   |none=>rw[e]at q;simp at q
   |some k=>
    rw[e]at q;cases k with
    |free=>rfl
    |cell=>
     have hm:(y,NameKind.cell)∈scope.names:=by have:=kU.mp e;let(l1,l2,z,__):=this;rw[z];simp
     show absurd (S.only y hm) VC
    |_=>simp at q
  have hm:y∈frees scope:=by let(l1,l2,z,__):=kU.mp nf;unfold frees;rw[z];simp
  let(c,hc):=mv y hm;show{c,?_};change((x,17+1)::mX scope X.env).lookup y=some c;rw[jz,c6.mpr VC];show(jE mv).mpr ⟨hm,hc⟩
 ·have e:=dX h;subst e;rcases two hl with⟨_,e2⟩|h1'
  ·rw[e2];show d8 _
  ·show absurd (S.loc.symm.trans (S.free y ((jE mv).mp h1').1).2) 58
 ·rcases aN.mp hb with rfl|hb
  ·show{λz=>?_,λy c h z=>?_}
   ·show absurd (hs.symm.trans z.symm:b+1=b) (xG b)
   ·rcases two h with⟨_,e2⟩|h
    ·rw[e2,hs]at z;show absurd (z:b+1+1=b) (cq (br (dJ _) (d8 _)))
    ·let(v,q):=I2.cell y c (sub h);have:=q.lt;rw[z,hD]at this;show absurd this (c7 _)
  ·show{λz=>?_,λy c h=>?_}
   ·have q:=eP (bN b hb);rw[z]at q;show absurd q (by change ¬17<D+1;rw[hs];show c7 _)
   ·rcases two h with⟨_,e2⟩|h
    ·ext z;have q:=bN b hb;rw[e2,hs]at z;rw[<-z]at q;show absurd (show D+1+1<D from q) (pK.mpr (bc (d8 _) (d8 _)))
    ·show(f2 b hb).2.2.2.2.1 y c (sub h)
 ·have js:=aX e;have h1:=I2.ok.B9;rcases aN.mp hb with rfl|hb
  ·rw[hD]at js;show absurd (br js (bc h1 I2.sz)) (c7 _)
  ·rcases(f2 b hb).2.2.2.1 with z|z
   ·show I2.ok.Gq b o e z
   ·show absurd (br js (bc h1 z)) (c7 _)
 ·have hf':=hf;rcases aN.mp (I2.G4 b hf')with z|z
  ·rcases aN.mp hb with rfl|hb
   ·have:=I2.lt;rw[<-z,hD]at this;show absurd this (c7 _)
   ·show(f2 b hb).2.1 z
  ·rcases aN.mp hb with rfl|hb
   ·show I2.Yc (sE hD.symm) z
   ·show(f2 b hb).2.2.1 z
def Wz{bi:Aac}{Z:St}{H:Hp}{s:cr}{scope:ww}{x:io}{fs:Aah}{fr:List Nat}{ex:Aaj}{h4:i5}{m:Aad}{t:Nat}(S:rA X scope x fs fr)(I3:Inv X bi Z H s)
  (ok:(kf X (x::fs) scope x 17 s H ex).Ok) (hn:h4.Ns 17 m) (hc4:h4.IsCell (17+1) none) (old:∀b o,s.heap.get? b=some o->h4.get? b=some o):
  Inv (kf X (x::fs) scope x 17 s H ex) [] (none::slotsOf fr Z) H {s with heap:=h4,toks:=t}:=by
 have mv:=λn hn=>I3.ok.has n (.inl (S.free n hn).1);have sub:∀{y:io}{c:bn},(mX scope X.env).lookup y=some c->X.env.cells.lookup y=some c:=λh=>((jE mv).mp h).2;have two:∀{y:io}{c:bn},((x,17+1)::mX scope X.env).lookup y=some c->(y=x/\c=17+1)\/(mX scope X.env).lookup y=some c:=λ{y c} h=>by
  rw[jz]at h;cases e:(y==x)with
  |true=>rw[e]at h;show .inl {dX e,(bY h).symm}
  |false=>rw[e]at h;show .inr h
 show{ok,9,I3.bare,Un.kept old,{m,hn,λi y v e1 e2 e3=>?_},λy c h=>?_,I3.bK.fresh (au _),λy c h=>?_,λp hp=>absurd hp 58,I3.bK.kept old,?_}
 ·cases i with
  |zero=>
   have uW:(none:Aap)=some v:=by simpa using e2
   cases uW
  |succ j=>
   have uW:(slotsOf fr Z)[j]?=some (some v):=by simpa using e2
   unfold slotsOf at uW;rw[aZ]at uW;cases hk:fr[j]? with
   |none=>rw[hk]at uW;cases uW
   |some k=>
    rw[hk]at uW;have e4:(Z[k]?).getD none=some v:=by simpa using uW
    have e5:Z[k]?=some (some v):=by
     cases q:Z[k]? with
     |none=>rw[q]at e4;cases e4
     |some z=>rw[q]at e4;show cW some e4
    let(n1,n2):=S.slots j y k (by simpa using e1) hk;let(m0,__,hl):=I3.loc;let(u,ru,l):=hl k y v n1 e5 (.inr (.inl (S.free y n2).1));have kc:=(S.free y n2).1;rcases l with⟨l,_⟩|⟨_,c,hc,cl⟩
    ·rw[kc]at l;cases l
    ·show{u,ru,.inr {.inl ?_,c,?_,uB old cl}};rotate_left
     ·have VC:y≠x:=λz=>absurd (S.loc.symm.trans (z▸(S.free y n2).2)) 58;change((x,17+1)::mX scope X.env).lookup y=some c;rw[jz,c6.mpr VC];show(jE mv).mpr ⟨n2,hc⟩
     change(GM scope X.env).names.lookup y=some .cell;rw[mf,(S.free y n2).2,I3.ok.kind,kc];rfl
 ·rcases two h with⟨_,e2⟩|h
  ·rw[e2];show⟨none,hc4⟩
  ·let(v,z):=I3.cell y c (sub h);show{v,uB old z}
 ·rcases two h with⟨_,e2⟩|h
  ·rw[e2];show I3.bK.fresh (d8 _)
  ·show I3.nV y c (sub h)
 ·change(none::slotsOf fr Z).length=(x::fs).length;simp[slotsOf,S.len]
def Kl{elt v4:u8}{x:io}{px:Fa}{ifs:List u8}{scope:ww}{pos:Fa}{wi:TI}{fs:Aah}{fr:List Nat}{tt:TT}{te:TE}(hc:X.calm=true)(S:rA X scope x fs fr)(hi:PI X (.Name x px) v4 wi)
  (ht:∀C s H ex,CT (kf X (x::fs) scope x C s H ex) ifs tt) (he:∀C s H ex,PE (kf X (x::fs) scope x C s H ex) elt te) (hs:∀z,rc v4 X.env z=pure z:=by intro _;rfl):
  PE X (.ListComp elt [{.Name x px,v4,ifs,0}] scope pos) (uo wi fr tt te):=by
 ext bi s Z H Q I h;show wt (use:=none) rfl hs (yI λn hn=>I.ok.has n (.inl (S.free n hn).1)) S.kind S.names ?_;show hU (hi bi s Z H _ I h) λv s1 h1=>hU h1 λitv s2 h2=>?_;obtain⟨it,fp,tn,J,H2,e,I2,T,G5,f2,W,⟨m0,w0⟩,turn⟩:=h2;subst e;have bN:∀b∈fp,b<61:=λb hb=>by let(o,e,__):=T.obj 0 _ G5 b hb;show aX e
 show cT (vb S.one (λh4 Jt hc4 CZ=>?_));generalize Od:s2.heap.push {cls:=.type "list",dict:=none,data:=.seq ([]:Aag).toArray}=g3 at Jt hc4 CZ⊢;have hC:g3.objs.size=61+1:=by rw[<-Od,du]
 have A9:∀b o,s2.heap.get? b=some o->g3.get? b=some o:=λb o e=>Od▸aj _ e;have I3:=I2.kept (t':=s2.toks) A9;have Zk:=Od▸aR _ rfl;have ok:=Za (fp:=fp) S I2 I3 rfl hC bN f2;have I4:=Wz (t:=s2.toks) S I3 ok Jt hc4 CZ;have FT:=ok.Ov 61 aw;have Wq:=ok.Bn 61 aw;have Gx:∀{H':Hp}{vs:Aag}{k:Nat},(∀b∈fp,H' b=none)->∀b∈fp,oU (kf X (x::fs) scope x g3.objs.size {s2 with heap:=g3} H2 (61::fp)) [(61,lobj vs k)] H' b:=λ{H' vs k} hn b hb=>by
  have q:=ok.Ov b (ay _ hb);show{hn b hb,q.1,ok.Bn b (ay _ hb),.inl (ay _ hb),q.2,λp hp=>?_};have e:p=(61,lobj vs k):=by simpa using hp
  rw[e];show cq (bN b hb)
 have start:Inv (kf X (x::fs) scope x g3.objs.size {s2 with heap:=g3} H2 (61::fp)) [(61,lobj [] 0)] (none::slotsOf fr Z) H2 {s2 with heap:=h4,toks:=s2.toks}:=
  I4.qT λp hp=>by
   have e:p=(61,lobj [] 0):=by simpa using hp
   subst e;show{CZ _ _ Zk,I2.bK.fresh (au _),FT.1,Wq,λv z=>by cases z}
 have TR:tn 0 h4:=T.keep 0 _ _ G5 λb _ o e=>CZ b o (A9 b o e);have fin:∀{i:Nat}{σ0:Aap}{H':Hp}{ys:Aao}{vs:Aag}{k:Nat}{s':cr},Inv (kf X (x::fs) scope x g3.objs.size {s2 with heap:=g3} H2 (61::fp)) [(61,lobj vs k)] (σ0::slotsOf fr Z) H' s'->Vals ys vs->ys.length<=ca->
   (∀l,H' l=none->Q (.ref l) (upd H' l (.lst ys)))->∃m,s'.heap.Ns g3.objs.size m/\∀h',Heap.SameBut g3.objs.size s'.heap h'->EP X bi Z Q (.ref 61) {s' with heap:=h'}:=by
  ext i σ0 H' ys vs k s' J1 rv hz q;let(m,hn,__):=id J1.loc;show{m,hn,λh' sb=>?_};have below:∀y c,X.env.cells.lookup y=some c->c<61:=λy c z=>by let(v,q):=I2.cell y c z;show q.lt
  have ni:=λp hp=>aX (I2.pin p hp).1;have I5:=I3.aaz J1.os J1.base J1.bK J1.bare λb hb=>by
   rcases aN.mp hb with e|hb
   ·rw[e];show{.inr I2.sz,cq I2.lt,λy c z=>aW (below y c z),λp hp=>aW (ni p hp)}
   ·show{(f2 b hb).2.2.2.1,(f2 b hb).2.1,(f2 b hb).2.2.2.2.1,(f2 b hb).2.2.2.2.2}
  have qP:61<g3.objs.size:=by lia
  have I6:=I5.turned (t':=s'.toks) (λb o hb e=>sb.extBut b o hb e) J1.free (cq (dP I2.lt qP)) (.inr (bE (fY I2.sz qP)))
   (λy c z=>aW (dP (below y c z) qP)) (λp hp=>aW (dP (ni p hp) qP))
  let(eD,nD,__):=J1.pin (61,lobj vs k) 58;show{.ref 61,_,I6.adopt nD (sb.extBut _ _ FT.1 eD) rv hz I2.sz (cq I2.lt) (λy c z=>aW (below y c z)) (λp hp=>aW (ni p hp)),9,q _ nD}
 have loop:∀s4:cr,s4={s2 with heap:=h4,toks:=s2.toks}->
   wE 59 X.A (.compLoop (.ListComp elt [{.Name x px,v4,ifs,0}] scope pos) 0 (.ref it) (.ref 61) (SC scope ((x,g3.objs.size+1)::mX scope X.env) g3.objs.size X.env))
    (W1 59 X.A X.xe none (EP X bi Z Q) (.ref 61) g3.objs.size) s4:=by
  ext s4 rfl;show codeAny_compLoop_tests (λn s'=>∃i σ0 H' ys vs k,Inv (kf X (x::fs) scope x g3.objs.size {s2 with heap:=g3} H2 (61::fp)) [(61,lobj vs k)] (σ0::slotsOf fr Z) H' s'/\tn i s'.heap/\(∀b∈fp,H' b=none)/\Vals ys vs/\W i n ys H') ?_ m0
   {0,none,H2,[],[],0,start,TR,λb hb=>(f2 b hb).1,.nil,w0}
  ext n s' ⟨i,σ0,H',ys,vs,k,J1,st,Wb,rv,w1⟩;rcases turn i n ys H' w1 with⟨stop,hz,q⟩|⟨go,hz,step⟩
  ·show hU (T.done (kf X (x::fs) scope x g3.objs.size {s2 with heap:=g3} H2 (61::fp)) 9 9 9 hc i _ s' _ H' _ J1 (Gx Wb) st stop) λr s5 agJ=>?_;let(hr,J2):=agJ;subst hr;show fin (i:=i) J2 rv hz q
  ·show hU (T.item (kf X (x::fs) scope x g3.objs.size {s2 with heap:=g3} H2 (61::fp)) 9 9 9 hc i _ s' _ H' _ J1 (Gx Wb) st go) λr s5 agI=>?_;let(u,hr,h5):=agI;subst hr;change fv _ _ (Do (.Name x px) (.ref it) u>>=λ_=>Tl (.Name x px) (SC scope ((x,g3.objs.size+1)::mX scope X.env) g3.objs.size X.env) u) _ _ s5;show ae (hU h5 λ_ s6 agH=>?_);let(v,H6,J6,r6,y6,L5,fr6):=agH;show dE (o6 (i:=0) S.nd 9 (.inr (My (env:=X.env) S.loc)) (.inl (qI x)) _ s6 _ H6 v u (λσ' H'=>σ'=some v::slotsOf fr Z/\H'=H6) (J6.pinned (fp:=fp) (Gx fr6) (T.obj _ _ L5)) r6 ⟨rfl,rfl⟩) (λ_ s7 agF=>?_) (λ_ _ z=>z.elim);obtain⟨σ7,H7,J7,e7,e7'⟩:=agF;subst e7 e7';have UD:∀{σ8:St}{H8:Hp}{s8:cr},Inv (kf X (x::fs) scope x g3.objs.size {s2 with heap:=g3} H2 (61::fp)) ([(61,lobj vs k)]++zX fp s6.heap) σ8 H8 s8->
     tn (i+1) s8.heap/\∀b∈fp,H8 b=none:=λ{σ8 H8 s8} J8=>by
    show{T.keep _ _ _ L5 λb hb o e=>(J8.pin (b,o) (bj _ (bj _ (pb hb e)))).1,λb hb=>?_};let(o,e,d):=T.obj _ _ L5 b hb;show(J8.pin (b,o) (bj _ (bj _ (pb hb e)))).2.1
   show dE (ht _ _ _ _ _ s7 _ H7 _ J7 (step v H7 y6)) (λok8 s8 agE=>?_) (λ_ _ z=>z.elim);let(H8,J8,q8):=agE;cases ok8 with
   |false=>
    let(m',hm,w8):=q8;let(t8,n8):=UD J8;show{m',hm,i+1,some v,H8,ys,vs,k,J8.wx,t8,n8,rv,w8}
   |true=>
    show dE (he _ _ _ _ _ s8 _ H8 _ J8 q8) (λy s9 agD=>?_) (λ_ _ z=>z.elim);let(yv,H9,J9,r9,m',hm,w9):=agD;let(t9,n9):=UD J9;let(eD,nD,__):=J9.pin (61,lobj vs k) 58;have hl:=rv.length;show lD u5 ⟨_,eD,rfl⟩ tD (sN _ _) (vL 61 vs.toArray k y (by rw[aQ];lia)) {eD,?_};have eN:=xB (h:=s9.heap) (n:=k) eD (·.push y);have eV:vs.toArray.push y=(vs++[y]).toArray:=by simp
    rw[eV]at eN;obtain⟨k',eN⟩:∃k',(s9.heap.update 61 (Obj.mapSeq (·.push y))).get? 61=some (lobj (vs++[y]) k'):=⟨_,eN⟩;have K10:Inv (kf X (x::fs) scope x g3.objs.size {s2 with heap:=g3} H2 (61::fp)) [] (some v::slotsOf fr Z) H9 {s9 with heap:=s9.heap.update 61 (Obj.mapSeq (·.push y))}:=
     (J9.qT λp hp=>absurd hp 58).turned (t':=s9.toks) (λb o hb e=>(cv s9.heap (Obj.mapSeq (·.push y)) (cQ hb)).trans e) nD FT.1 (.inl aw) FT.2 (λp hp=>absurd hp 58)
    show{m',hm,i+1,some v,H9,ys++[yv],vs++[y],k',K10.qT λp hp=>?_,T.keep _ _ _ t9 λb hb o e=>(cv s9.heap (Obj.mapSeq (·.push y)) (cq (bN b hb))).trans e,n9,rv.append (.cons r9 .nil),w9};rw[(aA.mp hp)];show{eN,nD,FT.1,Wq,λv z=>by cases z}
 show zu (loop _ 9) (T.self X.A 0 _ _ _ TR (loop _ 9))
def XU{elt v4:u8}{x:io}{px:Fa}{scope:ww}{pos:Fa}{wi:TI}{fs:Aah}{fr:List Nat}{te:TE}(hc:X.calm=true)(S:rA X scope x fs fr)(hi:PI X (.Name x px) v4 wi)
  (he:∀C s H ex,PE (kf X (x::fs) scope x C s H ex) elt te) (hs:∀z,rc v4 X.env z=pure z:=by intro _;rfl):
  PE X (.ListComp elt [{.Name x px,v4,[],0}] scope pos) (uo wi fr AN te):=Kl hc S hi (λ_ _ _ _=>Ih) he hs
def RL{elt v4 c:u8}{x:io}{px:Fa}{scope:ww}{pos:Fa}{wi:TI}{fs:Aah}{fr:List Nat}{tc:TT}{te:TE}(hc:X.calm=true)(S:rA X scope x fs fr)(hi:PI X (.Name x px) v4 wi)
  (ht:∀C s H ex,PT (kf X (x::fs) scope x C s H ex) c tc) (he:∀C s H ex,PE (kf X (x::fs) scope x C s H ex) elt te) (hs:∀z,rc v4 X.env z=pure z:=by intro _;rfl):
  PE X (.ListComp elt [{.Name x px,v4,[c],0}] scope pos) (uo wi fr tc te):=Kl hc S hi (λC s H ex=>OL (ht C s H ex)) he hs
def Wx(osc:ww)(N:Aah)(scope:ww)(x:io)(fs:Aah)(fr:List Nat):Bool:=
 scope.kind==.function&&scope.names.lookup x==some .cell&&scope.names.all (λy=>y.2 !=.local||scope.names.lookup y.1==some .local)&&(scope.names.filter λy=>y.2==.cell)==[(x,.cell)]&&
  (frees scope).all (λn=>osc.names.lookup n==some .cell&&scope.names.lookup n==some .free)&&decide ((x::fs).Nodup)&&fr.length==fs.length&&
  (List.range fs.length).all (λj=>match fs[j]?,fr[j]? with|some y,some k=>N[k]?==some y&&decide (y∈frees scope)|_,_=>false)
theorem MY{x:io}:∀{l:List (io×wn)},(l.filter λy=>y.2==.cell)=[(x,.cell)]->∃a b,l=a++(x,.cell)::b/\(∀y∈a,y.2≠ .cell)/\∀y∈b,y.2≠ .cell
 |[],h=>by cases h
 |(y,k)::r,h=>by
  rw[cK]at h;cases hk:(k==NameKind.cell)with
  |true=>
   simp only[hk,k7]at h;let(h1,h2):=List.cons.inj h;show{[],r,by rw[<-h1];rfl,58,λz hz e=>?_};have:z∈r.filter λy=>y.2==.cell:=cM.mpr {hz,by rw[e];rfl};rw[h2]at this;cases this
  |false=>
   simp only[hk,cD,fR]at h;let(a,b,e,ha,hb):=MY h;show{(y,k)::a,b,by rw[e];rfl,λz hz=>?_,hb};rcases aN.mp hz with rfl|hz
   ·exactλe=>by rw[show k=.cell from e]at hk;cases hk
   ·show ha z hz
def Ii{scope:ww}{x:io}{fs:Aah}{fr:List Nat}(h:Wx X.env.scope X.N scope x fs fr=true:=by kernel_rfl):rA X scope x fs fr:=by
 unfold Wx at h;simp only[bQ]at h;obtain⟨⟨⟨⟨⟨⟨⟨h1,h2⟩,h3⟩,h4⟩,h5⟩,h6⟩,h7⟩,h8⟩:=h;show{dX h1,dX h2,λy hy e=>?_,MY (dX h4),λn hn=>?_,aU h6,dX h7,λj y k e1 e2=>?_}
 ·have:=bt.mp h3 y hy;rw[e]at this;simpa using this
 ·have:=bt.mp h5 n hn;rw[bQ]at this;show{dX this.1,dX this.2}
 ·have:=bt.mp h8 j (cw.mpr (aq.mp e1).1);rw[e1,e2]at this;simp only[bQ]at this;show{dX this.1,aU this.2}
end
end L2
namespace L2
open PySem PySem.Spec PyProof.Rows uY
section
variable{prog:dL}{w:i3}{κ:Type}[DecidableEq κ]{kd:HeapKind prog w κ}{A:mo}{E:Aae}{s:cr}
def Hb(hu:kd.room A)(zp:kd.is s.heap k a)(hm:s.heap.DictOfH kd d xs)
  (h1:∀p,IN xs k=some p->Q p.2 {s with toks:=s.toks+kd.draws k})
  (h2:IN xs k=none->∀h',h'.DictOfH kd d (Pi xs k a v)->Heap.SameBut d s.heap h'->Q v {s with heap:=h',toks:=s.toks+kd.draws k}) (hsz:96<=ca):
  fv 24 A (dictSetDefault d 68 v) Q E s:=by
 let(o,es,ep,ho,hc,hd,he,his,hn):=hm;unfold dictSetDefault
 try with_reducible show b5 ?_
 have lz:=size_of_entries he;show ae (kd.pyHash hu zp (ae (wpAny_dictFind_heap hu zp ho hd he his hn (λAl=>?_) (λj p hj=>?_))))
 ·have nk:=not_mem_keys_of_get Al;have e0:=atKey_none_of_get Al;have e1:=storedH_new e0;show ae (iW (ae (wpAny_updateDictKeys ho hd (ao (h2 e0 _ {_,_,ep+1,dU _ ho (Obj.isFreed_of_dict (BD hd _)),hc.mapDictKeys _,BD hd _,?_,?_,?_} (cj ..))))))
  ·rw[e1,aF,<-he];simp[Rs]
  ·rw[e1];ext x hx;rcases aS.mp hx with q|q
   ·show kd.keeps (his x q) ho hd (cj ..)
   ·rw[aA.mp q];show kd.keeps zp ho hd (cj ..)
  ·rw[e1,aF];show eR.mpr {hn,58,λx hx y hy e=>?_};have VD:y=k:=by simpa using hy
   show nk (by rw[<-VD,<-e];show hx)
 ·show ae (lW ho hd ?_);rw[PySem.entry_at he j,hj];show ae (iW (ao (h1 p (atKey_of_get hn hj))))
def EY(kd:HeapKind prog w κ)(d a:bn)(hd:(d==re)=false)(z:f'):
  MeetsIn prog w (Builtin.«dict.setdefault» {[.ref d,.ref a,z],[]}) (λA R s=>kd.room A.in1/\∃k xs,kd.is s.heap k a/\s.heap.DictOfH kd d xs/\96<=ca/\
   (∀p,IN xs k=some p->R (.ok (.ret p.2)) {s with toks:=s.toks+kd.draws k})/\
   (IN xs k=none->∀h',h'.DictOfH kd d (Pi xs k a z)->Heap.SameBut d s.heap h'->R (.ok (.ret z)) {s with heap:=h',toks:=s.toks+kd.draws k})):=
 .of_wp λA R s ⟨hu,k,xs,zp,hm,hz,h1,h2⟩=>by show ae ?_;show ae (jQ hm.typeIs ?_);show ao ?_;change fv _ _ (if(d==re)=true then _ else(dictSetDefault d 68 z>>=_)) _ _ s;rw[aI (hd▸bL)];show ae (Hb hu zp hm (λp hp=>ao {_,9,h1 p hp}) (λhn h' m' b'=>ao {z,9,h2 hn h' m' b'}) hz)
def abP(hd:(d==re)=false)(ho:s.heap.get? d=some o)(hx:o.ExactDict)(ahx:o.data=.dict es ep)(aif:(67:Int)<2^63)
  (h:∀t t',Q (.int 67 t) {s with toks:=t'}):fv 24 A (EQ (.builtin "len") [.ref d]) Q E s:=by
 have ty:s.TypeIs (.ref d) "dict":={o,ho,hx.1};show kz kind_len plain_len entry_len (args_len1 _) ?_;show ae (ao ?_);show ae (jp ty F.slot_dict_len
  (b9 F.slot_dict_len ty F.entry_dict_len ?_ (F.args_dict_len_1 _)))
 change fv _ _ (dictSize d>>=_) _ _ s;show ae (ae (lW ho ahx (ao ?_)));show ae (wpAny_pendingCount_other hd ?_);show ae (wpAny_mkInt (ao {_,9,?_}));show ae (b5 (ao ?_));show ae (Fg ?_);rw[aI ∅];rw[aI ∅];show ae (wpAny_mkInt (ao {_,9,h _ _}))
end
section
variable{X:Cx}{bi:Aac}{Z:St}{H:Hp}{s:cr}{A:mo}{E:Aae}{a b:bn}{kvs:List (NK×bn×V)}{k:NK}{z:V}
def Wu(hu:A.units+101<v6)(I:Inv X bi Z H s)(h:iL 57 X.w X.K H a kvs)(hk:iS X.K H k b)(oA:kvs.length<10000000)(rv:RelV z r)
  (q1:∀v w' s',valN kvs k=some v->Inv X bi Z H s'->RelV v w'->Q w' s')
  (q2:valN kvs k=none->∀s',Inv X bi Z (upd H a (.ext (DN 57 X.w a (putN kvs k b z)))) s'->Q r s'):fv 59 A (EQ (.builtin "dict.setdefault") [.ref a,.ref b,r]) Q E s:=by
 let(lo,xs,rel,hl,dd):=I.Bo h;have lx:96<=ca:=by rw[<-rel.length,bW];lia
 have e:=Ew rel k;show jN hX dd.typeIs sQ (sD _ _ _) (EY (qF 57 X.w) a b lo r)
  {show A.units+1+100<v6 by lia,k,xs,I.NB hk,dd,lx,λp hp=>?_,λhn h' sg hs=>?_}
 ·rw[hp]at e;cases ev:valN kvs k with
  |none=>rw[ev]at e;show e.elim
  |some v=>rw[ev]at e;show q1 v _ _ ev (I.tok _) e
 ·rw[hn]at e;cases ev:valN kvs k with
  |some v=>rw[ev]at e;show e.elim
  |none=>
   let(o,es,ep,g,x2,x3,x4,__,x5):=sg;have lp:=wR (kvs:=kvs) (k:=k) (b:=b) (v:=z);show q2 ev _ (t7 I ?_ hs ⟨o,g⟩ (aay {lo,_,Mz rel rv,8,o,es,ep,g,x2,x3,x4,x5}));rcases h.1 with e|⟨_,e⟩<;>rw[e]<;>show True.intro
def acn(hu:A.units+101<v6)(I:Inv X bi Z H s)(h:iL 57 X.w X.K H a kvs)(hk:iS X.K H k b)(rv:RelV z r)(q:∀w' s',Inv X bi Z H s'->RelV ((valN kvs k).getD z) w'->Q w' s'):
  fv 59 A (EQ (.builtin "dict.get") [.ref a,.ref b,r]) Q E s:=by
 let(lo,xs,rel,hl,dd):=I.Bo h;show jN fT dd.typeIs jF (pV _ _ _) (xS (qF 57 X.w) a b lo r)
  {show A.units+1+100<v6 by lia,k,xs,I.NB hk,dd,q _ _ (I.tok _) ((Ew rel k).getD rv)}
def Qy(I:Inv X bi Z H s)(h:iL 57 X.w X.K H a kvs):s.TypeIs 68 "dict"/\∀b,Value.ref a=.ref b->∃ob,s.heap.get? b=some ob/\ob.dict=none:=by let(lo,xs,rel,hl,dd):=I.Bo h;show{dd.typeIs,λb q=>?_};cases q;let(ob,__,__,h1,h2,__):=dd;show{ob,h1,h2.2.1}
def aeP(I:Inv X bi Z H s)(h:iL 57 X.w X.K H a kvs)(q:∀t s',Inv X bi Z H s'->Q (.int kvs.length t) s'):fv 59 A (EQ (.builtin "len") [.ref a]) Q E s:=by
 let(lo,xs,rel,hl,o,es,ep,g,hx,hd,he,__):=I.Bo h;have l1:67=kvs.length:=by rw[size_of_entries he,rel.length]
 show abP lo g hx hd ∅ λt t'=>?_;rw[l1];show q t _ (I.tok _)
end
inductive TJ(P:dL)(w:i3)(K:Frag)(ty:TE)(tz:TE)(Z:St)(Q:VK)(x:V)(H1:Hp):Prop
 |mk a Nv (_:x=.ref a) (_:iL P w K H1 a Nv) (_:ty Z H1 λy H2=>tz Z H2 λz H3=>∃b kvs k,y=.ref b/\iL P w K H3 a kvs/\iS K H3 k b/\kvs.length<10000000/\(∀v,valN kvs k=some v->Q v H3)/\(valN kvs k=none->Q z (upd H3 a (.ext (DN P w a (putN kvs k b z))))))
def W6(P:dL)(w:i3)(K:Frag)(td ty tz:TE):TE:=λZ H Q=>td Z H λx H1=>TJ P w K ty tz Z Q x H1
inductive W8(P:dL)(w:i3)(K:Frag)(ty:TE)(tz:TE)(Z:St)(Q:VK)(x:V)(H1:Hp):Prop
 |mk a Nv (_:x=.ref a) (_:iL P w K H1 a Nv) (_:ty Z H1 λy H2=>tz Z H2 λz H3=>∃b kvs k,y=.ref b/\iL P w K H3 a kvs/\iS K H3 k b/\Q ((valN kvs k).getD z) H3)
def aaZ(P:dL)(w:i3)(K:Frag)(td ty tz:TE):TE:=λZ H Q=>td Z H λx H1=>W8 P w K ty tz Z Q x H1
section
variable{X:Cx}{o e f:u8}{AT fH:Fa}{td ty tz:TE}
def Hn(hu:X.A.units+101<v6)(ho:PE X o td)(he:PE X e ty)(hf:PE X f tz)(m:M2 X o "setdefault" AT e f fH):PE X (.Call (.Attribute o "setdefault" AT) [e,f] [] fH) (W6 57 X.w X.K td ty tz):=by ext bi s Z H Q I h;show pZ m.base m.kL m.line dY hX mC (da (ho bi s Z H _ I h) λu s1 x H1 I1 rx agC=>?_);let(a,Nv,ex,d,q1):=agC;subst ex;obtain rfl:u=Value.ref a:=rx;let(t1,t2):=Qy I1 d;show{t1,t2,?_};rw[m.trees];show fD rfl (ky (fZ (da (he bi s1 Z H1 _ I1 q1) λiv s2 y H2 I2 ry q2=>fZ (da (hf bi s2 Z H2 _ I2 q2) λfv s3 z H3 I3 rz ⟨b,kvs,k,ey,g,hk,hl,k1,k2⟩=>kj ?_))));subst ey;obtain rfl:iv=Value.ref b:=ry;show Wu hu I3 g hk hl rz (λv w' s4 ev I4 r4=>{v,H3,I4,r4,k1 v ev}) λev s4 I4=>{z,_,I4,rz,k2 ev}
def Kj(hu:X.A.units+101<v6)(ho:PE X o td)(he:PE X e ty)(hf:PE X f tz)(m:M2 X o "get" AT e f fH):PE X (.Call (.Attribute o "get" AT) [e,f] [] fH) (aaZ 57 X.w X.K td ty tz):=by ext bi s Z H Q I h;show pZ m.base m.kL m.line dY fT rn (da (ho bi s Z H _ I h) λu s1 x H1 I1 rx agB=>?_);let(a,Nv,ex,d,q1):=agB;subst ex;obtain rfl:u=Value.ref a:=rx;let(t1,t2):=Qy I1 d;show{t1,t2,?_};rw[m.trees];show fD rfl (ky (fZ (da (he bi s1 Z H1 _ I1 q1) λiv s2 y H2 I2 ry q2=>fZ (da (hf bi s2 Z H2 _ I2 q2) λfv s3 z H3 I3 rz ⟨b,kvs,k,ey,g,hk,k1⟩=>kj ?_))));subst ey;obtain rfl:iv=Value.ref b:=ry;show acn hu I3 g hk rz λw' s4 I4 r4=>⟨_,H3,I4,r4,k1⟩
def Lb:gJ X (.builtin "len") (λxs H Q=>∃a kvs,xs=[V.ref a]/\iL 57 X.w X.K H a kvs/\Q (.int kvs.length) H):=by ext bi s Z H xs us Q I r h;let(a,kvs,rfl,ha,q):=h;let(u,rfl,ru):=jn r;cases ru;show aeP I ha λt s' I'=>{.int kvs.length,H,I',⟨t,rfl⟩,q}
inductive abZ(P:dL)(w:i3)(K:Frag)(R:It->Hp->Prop)(x:V)(H1:Hp):Prop
 |mk d u kvs (_:x=.ref d) (_:H1 d=some u) (_:iL P w K H1 d kvs) (_:∀o,R (WO d o u (kvs.map λp=>(.ref p.2.1,p.2.2))) (upd H1 d (.fX o u)))
def aeh(P:dL)(w:i3)(K:Frag)(tl:TE):TI:=λZ H R=>tl Z H λx H1=>abZ P w K R x H1
def XM(hl:PE X l tl):PI X tg l (aeh 57 X.w X.K tl):=by
 ext bi s Z H R I h;show da (hl bi s Z H _ I h) λv s1 x H1 I1 r1 q1=>?_;let(d,u,kvs,e,hd,hv,q):=q1;subst e;cases r1;let(lo,xs,rel,__,o,es,ep,ga,hx,hdt,he,__):=I1.Bo hv;have ents:∀{l:List 74}{xs:List (NK×bn×f')},Paired 97 l xs->Paired (λ(p:V×V)(e:Ch)=>RelV p.1 e.key/\RelV p.2 e.val) (l.map λp=>(V.ref p.2.1,p.2.2)) (xs.map (Rs (qF 57 X.w))):=λr=>by
  induction r with
  |nil=>show .nil
  |@cons p q ps qs h _ ih=>show .cons {by change Value.ref q.2.1=Value.ref p.2.1;rw[h.2.1],h.2.2} ih
 have m:Zm o es ep (kvs.map λp=>(V.ref p.2.1,p.2.2)):={hx,hdt,he▸ents rel};have I2:Inv X bi Z (upd H1 d (.fX o u)) s1:=by
  rcases hv.1 with e|⟨_,e⟩
  ·rw[hd]at e;cases e;show I1.QU hd ga
  ·rw[hd]at e;cases e;show I1.freeze hd ga
 show P7 lo ga m.1 m.2.1 ?_;show{75,[75],_,_,_,9,I2.kept λb o e=>aj _ e,TB m,{_,aR _ rfl,9,9},λb hb=>?_,q o};have e:b=75:=by simpa using hb
 subst e;show I2.vi (au _) (I2.bK.fresh (au _))
def lH(n:Nat)(k:NK):Prop:=(NK.toD k).canLay0=true/\(NK.toD k).depth<=n/\NK.deep k<=n
def YI{n:Nat}:lH n .b7:={by simp[NK.toD,PyData.canLay0],by simp[NK.toD,PyData.depth],by simp[NK.deep]}
def Gw{n:Nat}(i:Int):lH n (.key (.inl i)):={by simp[NK.toD,PyData.canLay0],by simp[NK.toD,PyData.depth],by simp[NK.deep]}
def tW(h:PyData.strOk z=true):lH n (.key (.inr z)):={by simp[NK.toD,PyData.canLay0,h],by simp[NK.toD,PyData.depth],by simp[NK.deep]}
theorem Og:∀{ks:List NK},(∀k∈ks,lH n k)->PyData.canLayAll0 (NK.nK ks)=true/\PyData.depthAll (NK.nK ks)<=n/\NK.pE ks<=n
 |[],_=>{by simp[NK.nK,PyData.canLayAll0],by simp[NK.nK,PyData.depthAll],by simp[NK.pE]}
 |k::ks,h=>by
  let(a1,a2,a3):=h k aw;let(b1,b2,b3):=Og λk hk=>h k (ay _ hk);show{by simp[NK.nK,PyData.canLayAll0,a1,b1],?_,?_}
  ·simp only[NK.nK,PyData.depthAll];lia
  ·simp only[NK.pE];lia
def oC(h:∀k∈ks,lH n k):lH (n+1) (.tup ks):=by let(b1,b2,b3):=Og h;show{by simp only[NK.toD,PyData.canLay0];show b1,by simp only[NK.toD,PyData.depth];lia,by simp only[NK.deep];lia}
def lH.good(h:lH n k)(hn:n<=07):Ti k:={h.1,bc h.2.1 hn,bc h.2.2 hn}
def jh(zs:Aah):NK:=.tup (zs.map λz=>.key (.inr z))
def Qn(h:jh xs=jh ys):xs=ys:=by injection h with h;show List.map_inj_right (λa b e=>by injection e with e;injection e)|>.mp h
def Of(h:∀z∈zs,PyData.strOk z=true):lH 1 (jh zs):=oC λk hk=>by let(z,hz,rfl):=az.mp hk;show tW (h z hz)
theorem M6{K:Frag}:∀zs:Aah,sG K H (zs.map λz=>NK.key (.inr z)) (zs.map V.str)
 |[]=>by rw[fU,sG];rfl
 |z::r=>by show{_,_,9,by rw[NV];rfl,M6 r}
def UW{K:Frag}(h:ba K H a (zs.map V.str)):NV K H (jh zs) 68:=by unfold jh;show{a,_,9,h,M6 zs}
def Ny{K:Frag}(h:ba K H a (zs.map V.str))(hz:∀z∈zs,PyData.strOk z=true):iS K H (jh zs) a:={UW h,(Of hz).good 7}
def adR{K:Frag}(h:NV K H (jh zs) 68):ba K H a (zs.map V.str):=by
 have all:∀{zs:Aah}{xs:Aao},sG K H (zs.map λz=>NK.key (.inr z)) xs->xs=zs.map V.str:=by
  ext zs
  induction zs with
  |nil=>ext xs h;rw[fU,sG]at h;show h
  |cons z r ih=>
   ext xs h;let(x,t,rfl,h1,h2):=h;rw[h1,ih h2];rfl
 unfold jh at h;let(b,xs,e,hq,h):=h;cases e;rw[<-all h];show hq
def Ab(z:io)(n:Nat):NK:=.tup [.key (.inr z),.key (.inl n)]
def yu(z:io)(n i:Nat)(t:io):NK:=.tup [.key (.inr z),.key (.inl n),.key (.inl i),.key (.inr t)]
def NA{K:Frag}{H:Hp}{a:bn}{z:io}{n:Nat}(h:ba K H a [.str z,.int n])(hz:PyData.strOk z=true):iS K H (Ab z n) a:=by
 show{?_,(oC (n:=0) λk hk=>?_).good 7}
 ·unfold Ab;show{a,_,9,h,?_};show⟨_,_,rfl,rfl,_,_,rfl,rfl,rfl⟩
 ·simp only[aN,m6,A8]at hk;rcases hk with rfl|rfl
  ·show tW hz
  ·show Gw _
def Nz{K:Frag}{H:Hp}{a:bn}{z t:io}{n i:Nat}(h:ba K H a [.str z,.int n,.int i,.str t])(hz:PyData.strOk z=true)(ht:PyData.strOk t=true):iS K H (yu z n i t) a:=by
 show{?_,(oC (n:=0) λk hk=>?_).good 7}
 ·unfold yu;show{a,_,9,h,?_};show⟨_,_,rfl,rfl,_,_,rfl,rfl,_,_,rfl,rfl,_,_,rfl,rfl,rfl⟩
 ·simp only[aN,m6,A8]at hk;rcases hk with rfl|rfl|rfl|rfl
  ·show tW hz
  ·show Gw _
  ·show Gw _
  ·show tW ht
def abH{z z':io}{n n':Nat}:Ab z n=Ab z' n'↔z=z'/\n=n':=by unfold Ab;simp only[NK.tup.injEq,nZ,NK.key.injEq,Cb,Sum.inl.injEq,GU,Int.ofNat_inj]
def abG{z z' t t':io}{n n' i i':Nat}:yu z n i t=yu z' n' i' t'↔z=z'/\n=n'/\i=i'/\t=t':=by unfold yu;simp only[NK.tup.injEq,nZ,NK.key.injEq,Cb,Sum.inl.injEq,GU,Int.ofNat_inj]
def adS{z z' t':io}{n n' i':Nat}:Ab z n≠yu z' n' i' t':=by unfold Ab yu;simp
def oj(e:p.1=k):valN (p::r) k=some p.2.2:=by unfold valN;rw[gx (p:=λp:NK×bn×V=>decide (p.1=k)) (bb e)];rfl
def om(e:¬p.1=k):valN (p::r) k=valN r k:=by unfold valN;rw[gA (p:=λp:NK×bn×V=>decide (p.1=k)) (λq=>e (aU q))]
theorem LQ:∀kvs:List 74,valN (kvs.map λp=>if p.1=k then(p.1,p.2.1,v)else p) j=(valN kvs j).map λx=>if j=k then v else x
 |[]=>rfl
 |p::r=>by
  have ih:=LQ (k:=k) (j:=j) (v:=v) r;rw[bo];by_cases h:p.1=k
  ·rw[aL h];by_cases e:p.1=j
   ·rw[oj (p:=(p.1,p.2.1,v)) e,oj e,jW,aL (e.symm.trans h)]
   ·rw[om (p:=(p.1,p.2.1,v)) e,om e,ih]
  ·rw[aI h];by_cases e:p.1=j
   ·rw[oj e,oj e,jW,aI (λz=>h (e.trans z))]
   ·rw[om e,om e,ih]
theorem JY:∀kvs:List 74,valN kvs k=none->valN (kvs++[(k,a,v)]) j=if j=k then some v else valN kvs j
 |[],_=>by
  by_cases e:k=j
  ·rw[aL e.symm];show oj e
  ·rw[aI (λz=>e z.symm)];show om e
 |p::r,hn=>by
  rw[qL];have hk:¬p.1=k:=λz=>by rw[oj z]at hn;cases hn
  rw[om hk]at hn;by_cases e:p.1=j
  ·rw[oj e,oj e,aI (λz=>hk (e.trans z))]
  ·rw[om e,om e,(JY (j:=j) (a:=a) (v:=v) r hn)]
def uH:valN (putN kvs k a v) j=if j=k then some v else valN kvs j:=by
 unfold putN;split
 ·next hs=>
  rw[LQ];by_cases c:j=k
  ·let(x,hx):=xE.mp hs;rw[aL c,c,hx,jW,aL rfl]
  ·rw[aI c];cases valN kvs j with
   |none=>rfl
   |some x=>rw[jW,aI c]
 ·next hs=>
  show JY kvs ?_;cases e:valN kvs k with
  |none=>rfl
  |some x=>rw[e]at hs;show absurd rfl hs
def Ng(h:p∈putN kvs k a v):(∃q∈kvs,p.1=q.1/\p.2.1=q.2.1)\/(p.1=k/\p.2.1=a):=by
 unfold putN at h;split at h
 ·let(q,hq,rfl):=az.mp h;show .inl {q,hq,?_};split<;>show⟨rfl,rfl⟩
 ·rcases aS.mp h with h|h
  ·show .inl ⟨p,h,rfl,rfl⟩
  ·rw[aA.mp h];show .inr ⟨rfl,rfl⟩
def Vo{kvs:List 74}{k j:NK}{a:bn}{v:V}:(∃p∈putN kvs k a v,p.1=j)↔j=k\/∃p∈kvs,p.1=j:=by
 have key:∀(l:List 74)(j:NK),(∃p∈l,p.1=j)↔(valN l j).isSome=true:=by ext l j;unfold valN;rw[ic,E9];show{λ⟨p,hp,e⟩=>{p,hp,bb e},λ⟨p,hp,e⟩=>{p,hp,aU e}}
 rw[key,key,uH];by_cases c:j=k
 ·rw[aL c];simp[c]
 ·rw[aI c];simp[c]
def Qv{kvs:List 74}{j:NK}:(∃p∈kvs,p.1=j)↔(valN kvs j).isSome=true:=by unfold valN;rw[ic,E9];show{λ⟨p,hp,e⟩=>{p,hp,bb e},λ⟨p,hp,e⟩=>{p,hp,aU e}}
end
end L2
namespace L2
open PySem PySem.Spec PyProof.Rows PySem.W uY
section
variable{X:Cx}
inductive abh(x:V)(vs:Aao)(H:Hp)(Q:VK):Prop
 |mk (l:bn) (zs:List Int) (z:Int) (j:Nat) (_:x=.ref l) (_:vs=[.int z]) (_:H l=some (.lst (zs.map V.int))) (_:zs[j]?=some z) (_:(∀m,m<j->zs[m]?≠some z)) (_:Q (.int (j:Int)) H)
def Ks:MtR X "list.index" abh:=by
 ext bi s Z H x vs v us Q I rx rv h;let(l,zs,z,j,rfl,rfl,hH,hj,Al,q):=h;cases rx;let(u,rfl,ru):=rv.one;let(t,rfl):=ru;let(z',aY,n,r,hl,e):=I.zm hH;have eat:∀m,(m:Nat)<aY.length->∃y t',aY[m]?=some (.int y t')/\zs[m]?=some y:=λm hm=>by
  have hz:m<zs.length:=by have:=r.length;rw[ah]at this;lia
  let(u',qX,ru'):=r.get (by rw[aZ,av hz];rfl);let(t',rfl):=ru';show{zs[m],t',qX,av hz}
 have lz:=r.length;rw[ah]at lz;have lT:j<aY.length:=by have:=(aq.mp hj).1;lia
 have sl:=Ae
 let eq:f'->Bool:=λy=>match y with| .int a _=>a==z|_=>false
 have ahq:∀y,y∈aY.toArray->MeetsSeq.EqGives y (.int z t) (eq y):=λy hy=>by let(m,hm):=List.getElem?_of_mem (by simpa using hy:y∈aY);let(a,t',e1,__):=eat m (aq.mp hm).1;rw[hm]at e1;cases e1;show MeetsSeq.EqGives.int a z t' t
 have aem:∀m(hm:m<aY.toArray.size),∃a t',aY.toArray[m]=.int a t'/\zs[m]?=some a:=λm hm=>by let(a,t',e1,e2):=eat m (by simpa using hm);show{a,t',?_,e2};have:=(aq.mp e1).2;simpa using this
 have hjs:j<aY.toArray.size:=by simpa using lT
 show lD F.slot_list_index ⟨_,e,rfl⟩ F.entry_list_index (F.args_list_index_2 _ _) (MeetsSeq.list_index l aY.toArray n (.int z t) eq ahq j hjs ∅ ?_ λm hm bN=>?_) {e,{.int _,H,I.tok _,⟨_,rfl⟩,q}}
 ·let(a,t',e1,e2):=aem j hjs;rw[e1];rw[hj]at e2;cases e2;change(z==z)=true;simp
 ·let(a,t',e1,e2):=aem m hm;rw[e1];show c6.mpr λh=>Al m bN (by rw[e2,h])
variable{bi:Aac}{Z:St}{H:Hp}{s:cr}
def Inv.aeX(I:Inv X bi Z H s)(hn:H D=none)(new:dG 57 X.w (upd H D o) s.heap D o)
  (h1:X.aab.heap.objs.size<=D) (hL:D≠X.env.locals) (h2:∀x c,X.env.cells.lookup x=some c->c≠D) (h3:∀p∈X.pn++bi,p.1≠D):Inv X bi Z (upd H D o) s:=by
 have nD:∀b u,H b=some u->b≠D:=λb u q z=>by rw[z,hn]at q;cases q
 have bK:kh 57 X.w (upd H D o) s.heap:=λb u q=>by
  by_cases hb:b=D
  ·subst hb;rw[ar]at q;cases q;show new
  ·rw[aM hb]at q;show(I.bK b u q).rF (λ_ _ _ z=>z) (λc z=>by rw[aM (nD c _ z)];show z) λc xs z=>by rw[aM (nD c _ z)];show z
 have J:=I.step (t':=s.toks) (d':=s.drawn) (ch:=[D])
  (λb hb=>by
   have e':b=D:=by simpa using hb
   subst e';show{.inr h1,hL,h2,h3})
  (λb o _ _ _ q _=>q) (λb o _ _ _ q _=>{o.slots,q}) (λb o hc _ n=>by rw[aM λz=>hc (by simp[z])];show n) (λb o _ q=>⟨o,q⟩)
  (λb xs q=>by rw[aM (nD b _ q)];show q) (λb o u q=>by rw[aM (nD b _ q)];show q) (λb ps q=>{#[],by rw[aM (nD b _ q),q];simp}) (λm hm=>hm) bK I.bare
 show J
theorem Inv.Iu{lo:bn}(hlo:∀{H:Hp},Inv X bi Z H s->X.aab.heap.objs.size<=lo/\X.env.locals<lo/\(∀x c,X.env.cells.lookup x=some c->c<lo)/\∀p∈X.pn++bi,p.1<lo):
  ∀(as:Aaj)(ps:List (io×io))(H:Hp),Inv X bi Z H s->as.length=ps.length->as.Nodup->(∀a∈as,lo<=a/\H a=none)->
   (∀(j:Nat) a p,as[j]?=some a->ps[j]?=some p->∃t u,s.heap.get? a=some {cls:=.type "tuple",data:=.seq #[.str p.1 t,.str p.2 u]})->
   ∃H',Inv X bi Z H' s/\(∀b u,H b=some u->H' b=some u)/\(∀b,b∉as->H' b=H b)/\∀(j:Nat) a p,as[j]?=some a->ps[j]?=some p->H' a=some (.tup [.str p.1,.str p.2])
 |[],[],H,I,_,_,_,_=>{H,I,λ_ _ h=>h,λ_ _=>9,λj a p e=>by simp at e}
 |[],_::_,_,_,e,_,_,_=>by simp at e
 |_::_,[],_,_,e,_,_,_=>by simp at e
 |a::as,p::ps,H,I,e,nd,fr,tp=>by
  let(n1,n2):=cY.mp nd;let(l1,l2,l3,l4):=hlo I;let(ha,hna):=fr a aw;let(t,u,g):=tp 0 a p rfl rfl;have I1:=I.aeX (o:=.tup [.str p.1,.str p.2]) hna {83,[.str p.1 t,.str p.2 u],.cons ⟨t,rfl⟩ (.cons ⟨u,rfl⟩ .nil),{_,g,9,0,9},_,g,9} (bc l1 ha) (cq (br l2 ha))
   (λx c h=>aW (br (l3 x c h) ha)) (λq hq=>aW (br (l4 q hq) ha))
  let(H',I2,k1,k2,k3):=Inv.Iu hlo as ps _ I1 (by simpa using e) n2 (λb hb=>{(fr b (ay _ hb)).1,by rw[aM (show b≠a fromλz=>n1 (z▸hb))];show(fr b (ay _ hb)).2})
   (λj b q e1 e2=>tp (j+1) b q (by simpa using e1) (by simpa using e2))
  show{H',I2,λb v h=>k1 b v (by rw[aM (bw h hna)];show h),λb hb=>?_,λj b q e1 e2=>?_}
  ·rw[k2 b (λz=>hb (ay _ z)),aM (λz=>hb (by rw[z];show aw))]
  ·cases j with
   |zero=>
    obtain rfl:a=b:=by simpa using e1
    obtain rfl:p=q:=by simpa using e2
    rw[k2 a n1];show ar
   |succ j=>show k3 j b q (by simpa using e1) (by simpa using e2)
def IE(r d:bn):i5->Prop:=λh=>h.IsItemsView r d
end
def ad8(x:IE r d h):dG P w H h r (.ext (IE r d)):=
 {x,let⟨o,q,_⟩:=x;⟨o,q⟩,λ_ _ ⟨o,q,z⟩ k=>{o,k _ q,z}}
inductive aaX(Q:VK)(x:V)(H1:Hp):Prop
 |mk d kvs (_:x=.ref d) (_:H1 d=some (.dK kvs)) (_:∀p,H1 p=none->Q (.ref p) (upd H1 p (.ext (IE p d))))
def acV(td:TE):TE:=λZ H Q=>td Z H λx H1=>aaX Q x H1
def XO{X:Cx}{AT fH:Fa}{l:u8}{tl:TE}(hl:PE X l tl)(Bm:wf l "items" X.env (sn l X.env)=sn l X.env:=by rfl)(Bl:(AT.endLine==fH.line)=true:=by rfl):
  PE X (.Call (.Attribute l "items" AT) [] [] fH) (acV tl):=by
 ext bi s Z H R I h;show pO Bm Bl (da (hl bi s Z H _ I h) λv s1 x H1 I1 r1 q1=>?_);let(d,kvs,e,hd,q):=q1;subst e;cases r1;let(lo,o,es,ep,ga,m):=EL (I1.bK d _ hd) (.inl ⟨kvs,rfl,rfl⟩);have ty:s1.TypeIs (.ref d) "dict":={o,ga,m.1.1};show{"dict","dict.items",dY,xX,PySem.F.type_dict_items,ty,λb q=>?_,fD rfl (sX ?_)}
 ·cases q;show{o,ga,m.1.2.1}
 ·show b9 xX ty PySem.F.entry_dict_items ?_ (PySem.F.args_dict_items_1 _);show ae (ae (jQ ty (ao ?_)));unfold Builtin.Dict.showsAll;rw[lo];show ae (ao (ae (cT (ao {_,9,?_}))));show{.ref 75,_,I1.laid (λb o e=>aj _ e) (au _) (ad8 {_,aR _ rfl,9,9}),9,q _ (I1.bK.fresh (au _))}
def rowsOf(g:List (io×io)):Aab:=g.map λp=>[p.1,p.2]
abbrev Tf(H:Hp):Aao->Aab->Prop:=Paired λ(y:V)(zs:Aah)=>∃a,y=.ref a/\H a=some (.tup (zs.map V.str))
theorem Mv{X:Cx}{bi:Aac}{Z:St}{H:Hp}{s:cr}(I:Inv X bi Z H s):∀{zs:Aao}{rows:Aab},d7 X.K H zs rows->(∀z∈zs,∃a xs,z=.ref a/\H a=some (.tup xs))->Tf H zs rows
 |_,_,.nil,_=>.nil
 |_,_,.cons ⟨a,e,hq⟩ t,h=>by subst e;let(a',xs,e',h'):=h _ aw;cases e';show .cons {a,9,?_} (Mv I t λz hz=>h z (ay _ hz));rw[h',I.uJ (ba.of h') hq]
def GH{X:Cx}(hA:X.A.handled=none):gJ X (.builtin "sorted") (λxs H Q=>∃(r d:bn)(g:List (io×io)),xs=[.ref r]/\H r=some (.ext (IE r d))/\H d=some (.dK (g.map λp=>(Sum.inr p.1,.str p.2)))/\g.length<64/\
  ∀l zs H',(∀b u,H b=some u->H' b=some u)->H' l=none->H l=none->Tf H' zs (mP (rowsOf g))->Q (.ref l) (upd H' l (.lst zs))):=by
 ext bi s Z H xs us Q I r h;let(v,d,g,rfl,hv,hd,Aq,q):=h;let(u,rfl,ru):=jn r;cases ru;let(iv,__):=(show dG 57 X.w H s.heap v (.ext (IE v d))from I.bK v _ hv);let(hz,lo,vs,rel,o,es,ep,m):=uE I.bK hd;have hl:g.length=vs.length:=by have:=rel.length;rw[ah]at this;show this
 show kz FA CU DF (DW _) ?_;show ae (ao ?_);show ae (PySem.W.kdx_collect (by simpa using hA) iv (⟨o,es,m⟩) (by rw[<-hl,bW];lia) λh' tk as kp la G=>?_);have la':as.length=g.length:=by rw[la,hl]
 have bound:∀{H:Hp},Inv X bi Z H {s with heap:=h',toks:=tk}->X.aab.heap.objs.size<=17/\X.env.locals<17/\(∀x c,X.env.cells.lookup x=some c->c<17)/\∀p∈X.pn++bi,p.1<17:=λ_=>
  {I.sz,I.lt,λx c hc=>let⟨_,z⟩:=I.cell x c hc;z.lt,λp hp=>aX (I.pin p hp).1}
 let(H',I2,k1,k2,k3):=Inv.Iu bound as g H (I.kept (t':=tk) kp) la' (G.rise.imp (λh=>aW h)) (λa ha=>{bE (G.above a ha),I.bK.fresh (bE (G.above a ha))}) (λj a p e1 e2=>by let(key,k,x,e3,e4,e5):=G.pairs j a e1;have rj:∃kv',(g.map λp=>((Sum.inr p.1:Key),V.str p.2))[j]?=some kv'/\kv'=(Sum.inr p.1,V.str p.2):={_,by rw[aZ,e2];rfl,9};let(kv',e6,rfl):=rj;let(q',e7,e8,e9):=Paired.at' rel e6;rw[e3]at e7;cases e7;subst e8;let(t,rfl):=(show∃t,key=Value.str p.1 t from tN (k:=Sum.inr p.1) e4);let(u,rfl):=(show∃t,x=Value.str p.2 t from e9);show⟨t,u,e5⟩)
 have lb:as.length=(rowsOf g).length:=by rw[la'];show(ah _).symm
 show G7 (s:=s) I2 lb (λi z b e1 e2=>?_) (λ_ r hr=>?_) (by rw[<-lb,la'];lia) λl zs fw cy VP=>q l zs H' k1 fw ?_ (Mv I2 cy λz hz=>?_)
 ·unfold rowsOf at e1;rw[aZ]at e1;let(p,e3,rfl):=bA.mp e1;show ba.of (k3 i b p e2 e3)
 ·let(p,__,rfl):=az.mp hr;simp
 ·cases e:H l with
  |none=>rfl
  |some o=>rw[k1 l o e]at fw;cases fw
 ·let(b,hb,rfl):=az.mp (VP z hz);let(j,hj):=dy.mp hb;have lT:j<g.length:=by have:=(aq.mp hj).1;lia
  show{b,_,9,k3 j b _ hj (av lT)}
section
variable{K:Frag}{a:bn}{xs:Aao}{fr:List Nat}{tt:TT}{te:TE}{Z:St}{H1:Hp}{R:bn->Aao->Hp->Prop}
def Pt(Pv:Nat->Aao->Hp->Prop)(hx:96<ca)(h0:Pv 0 [] H1)(hl:∀i ys H,i<=96->Pv i ys H->ba K H a xs/\ys.length<=i)
  (hs:∀(i:Nat)(x:V)(ys:Aao)(H:Hp)(p:bn)(N:Aao->Hp->Prop),xs[i]?=some x->Pv i ys H->H p=none->(∀iE H',Pv (i+1) iE H'->N iE H')->
   tt (some (.int i)::some x::slotsOf fr Z) (upd H p (.tup [.int i,x])) λt H4=>if t=true then te (some (.int i)::some x::slotsOf fr Z) H4 (λy H5=>N (ys++[y]) H5)else N ys H4)
  (hd:∀ys H,Pv 96 ys H->∀l,H l=none->R l ys H):El (JP K a) 2 fr (LL K) tt te Z H1 R:=by
 show{λi m ys H=>m=96 -i/\i<=96/\Pv i ys H,{96,58,aJ _,h0},?_};ext i m ys H ⟨rfl,hi,p⟩;let(q,hy):=hl i ys H hi p;by_cases bN:i<96
 ·show .inr {{xs,xs[i],q,by simp[bN]},8,?_};ext v H3 y own ho;let(r,z,rfl,hr,rfl,y):=y;show Je ho rfl (ba.of ar) {[some (.int i),some z],9,9,(hs i z ys H r (λiE H'=>∃m',m'<96 -i/\m'=96 -(i+1)/\i+1<=96/\Pv (i+1) iE H') (y xs q) p hr λiE H' p'=>{_,8,9,bN,p'})}
 ·have e:i=96:=by lia
  subst e;show .inl {⟨xs,q,rfl⟩,8,hd ys H p}
end
section
variable{X:Cx}
def Lr{elt v4 tg c:u8}{x y:io}{py yX:Fa}{j:Nat}{more:Aah}{g:TG}{scope:ww}{pos:Fa}{wi:TI}{fs:Aah}{fr:List Nat}{tc:TT}{te:TE}(hN:X.N.Nodup)(hj:X.N[j]?=some y)(hy:X.env.scope.names.lookup y=some .local)(hc:X.calm=true)(S:uj X scope x more fs fr)(hi:PI X tg v4 wi)(hg:∀C s H ex,PG 88 tg g)
  (ht:∀C s H ex,PT 88 c tc) (he:∀C s H ex,PE 88 elt te) (hs:∀z,rc v4 X.env z=pure z:=by intro _;rfl)
  (NM:AC (.ListComp elt [{tg,v4,[c],0}] scope pos) (some (.Name y py)) yX.line X.env=pure true:=by rfl):
  PS X (.Assign [.Name y py] (.ListComp elt [{tg,v4,[c],0}] scope pos) yX) (LC j (uK wi (more.length+1) fr g tc te)):=CQ hN hj hy hc S hi hg (λC s H ex=>OL (ht C s H ex)) he hs NM
def sH(P:dL)(w:i3)(K:Frag)(mg:Aad)(base:i5)(C:bn)(k:Nat)(m:io)(ps:Aah)(sp:Sp):Prop:=
 ∃f fd,cH P w K mg base dZ k f fd ps sp/\Meth K C m f/\Binds K fd ps []
def U8(c:Em X.K C)(D:sH 57 X.w X.K X.mg X.base C k m ps sp)(hr:iR j X.A)(ho:PE X o ta)(ha:PA X (e::es) t)(hk:k<=j:=by decide)
  (yA:i6 (e::es) X.env=(false,sn e X.env)::i6 es X.env:=by rfl) (jV:(xL pos (i6 es X.env)).any (·.1)=false:=by rfl)
  (ht:sn (.Call (.Attribute o m AT) (e::es) [] pos) X.env=(do
   let ov<-sn o X.env
   U' AT.atName
   let(f,first)<-FM [ov] (UF ov m pl)
   callWith pos f first (xL pos (i6 (e::es) X.env)) (SZ pos (J' [] X.env))):=by rfl):
  PE X (.Call (.Attribute o m AT) (e::es) [] pos) (ZG C m sp [] E0 ta t):=by
 let(f,fd,F,me,b):=D;show abo ho c me F (hr.mono hk) b .nil RM ha yA jV ht
def Sy(hr:iR k A):A.units+101<v6:=by have:=hr.un;lia
def RW{kvs:List 74}{k:NK}{a:bn}{v:V}(h:(kvs.map (·.1)).Nodup):((putN kvs k a v).map (·.1)).Nodup:=by
 unfold putN;split
 ·have e:(kvs.map λp=>if p.1=k then(p.1,p.2.1,v)else p).map (·.1)=kvs.map (·.1):=by rw[b8];show b4 λp _=>?_;change(if p.1=k then(p.1,p.2.1,v)else p).1=p.1;split<;>rfl
  rw[e];show h
 ·next hs=>
  rw[aF];show eR.mpr {h,58,λx hx y hy e=>hs ?_};have VD:y=k:=by simpa using hy
  let(p,hp,hpe):=az.mp hx;show Qv.mp {p,hp,by rw[hpe,e,VD]}
theorem jU{α:Type}[DecidableEq α]:∀{l m:List α},l.Nodup->(∀x∈l,x∈m)->l.length<=m.length
 |[],m,_,_=>aJ _
 |x::l,m,h,s=>by let(h1,h2):=cY.mp h;have hx:=s x aw;have:=jU h2 λy hy=>(BG (show y≠x fromλe=>h1 (e▸hy))).mpr (s y (ay _ hy));rw[xM hx]at this;have hp:=qu hx;rw[bx];lia
variable{K:Frag}
def Iq(hc:X.calm=true)(h:X.K=K:=by rfl):gJ X (.builtin "all") (λxs H Q=>∃(a:bn)(bs:List Bool),xs=[.ref a]/\bg K H a (bs.map V.bl)/\Q (.bl (bs.all id)) H):=h▸Aw hc
end
end L2
namespace aH
open PySem
abbrev Atom:=io×Aah
abbrev cN:=List (io×io)
section
variable(bP:io->Bool)
def ap(h:io->io)(t:io):io:=if bP t then h t else t
def Fits(D:List Atom)(h:io->io)(as:List Atom):Prop:=∀a∈as,(a.1,a.2.map (ap bP h))∈D
def iM(g:cN)(h:io->io):Prop:=∀p∈g,h p.1=p.2
def sP(D:List Atom)(g:cN)(as:List Atom):Prop:=∃h,iM g h/\Fits bP D h as
def jI(as:List Atom):Aah:=(as.map λa=>a.2.filter bP).flatten
def keys(g:cN):Aah:=g.map (·.1)
def get(g:cN)(u:io):Option io:=(g.find? λp=>decide (p.1=u)).map (·.2)
def mE(g g':cN):Prop:=∀u v,get g u=some v->get g' u=some v
end
section
variable{bP:io->Bool}{D as bs:List Atom}{g g':cN}{h h':io->io}
def afZ{t:io}(e:bP t=true->h t=h' t):ap bP h t=ap bP h' t:=by
 unfold ap;split
 ·show e ‹_›
 ·rfl
def adU{ts:Aah}(e:∀t∈ts,bP t=true->h t=h' t):ts.map (ap bP h)=ts.map (ap bP h'):=b4 λt ht=>afZ (e t ht)
def cU{u:io}:u∈jI bP as↔∃a∈as,u∈a.2/\bP u=true:=by
 unfold jI;rw[gf];constructor
 ·ext⟨l,hl,hu⟩;let(a,ha,rfl):=az.mp hl;show{a,ha,cM.mp hu}
 ·ext⟨a,ha,hu⟩;show{_,bI ha,cM.mpr hu}
def Fits.congr(f:Fits bP D h as)(e:∀u∈jI bP as,h u=h' u):Fits bP D h' as:=λa ha=>by rw[<-adU λt ht ut=>e t (cU.mpr ⟨a,ha,ht,ut⟩)];show f a ha
def Fits.app:Fits bP D h (as++bs)↔Fits bP D h as/\Fits bP D h bs:=
 {λf=>{λa ha=>f a (bu _ ha),λa ha=>f a (bj _ ha)},λf a ha=>(aS.mp ha).elim (f.1 a) (f.2 a)}
def Fits.sub(f:Fits bP D h as)(e:∀a∈bs,a∈as):Fits bP D h bs:=λa ha=>f a (e a ha)
def get_some{u v:io}(h:get g u=some v):(u,v)∈g:=by let(p,hp,rfl):=bA.mp h;have:=sM hp;rw[<-(aU this)];show iP hp
def get_none{u:io}:get g u=none↔u∉keys g:=by
 unfold get keys;rw[qt,Ef];constructor
 ·ext h q;let(p,hp,e):=az.mp q;show h p hp (bb e)
 ·ext h p hp q;show h (az.mpr {p,hp,aU q})
def get_mem(nd:(keys g).Nodup){u v:io}(h:(u,v)∈g):get g u=some v:=by
 induction g with
 |nil=>cases h
 |cons p r ih=>
  unfold keys at nd;rw[bo,cY]at nd;unfold get;rcases aN.mp h with e|h
  ·rw[gx (p:=λp:io×io=>decide (p.1=u)) (bb (by rw[<-e]))];rw[<-e];rfl
  ·have ne:¬decide (p.1=u)=true:=λq=>nd.1 (by
    rw[aU q];show az.mpr ⟨_,h,rfl⟩)
   rw[gA (p:=λp:io×io=>decide (p.1=u)) ne];show ih nd.2 h
def iM.get(a:iM g h){u v:io}(e:get g u=some v):h u=v:=a (u,v) (get_some e)
def Lh(nd:(keys g).Nodup)(e:∀u v,get g u=some v->h u=v):iM g h:=λp hp=>e p.1 p.2 (get_mem nd hp)
def iM.longer(nd:(keys g).Nodup)(l:mE g g')(a:iM g' h):iM g h:=Lh nd λu v e=>a.get (l u v e)
def over(g:cN)(h:io->io)(u:io):io:=(get g u).getD (h u)
def lK(nd:(keys g).Nodup):iM g (over g h):=Lh nd λu v e=>by unfold over;rw[e];rfl
def XX{g gi:cN}{p:List Atom}(ndi:(keys gi).Nodup)(l:mE g gi)(dis:∀u∈jI bP p,u∈keys gi->u∈keys g)(c:sP bP D g p):sP bP D gi p:=by
 let(h,ag,f):=c;show{over gi h,lK ndi,f.congr λu hu=>?_};unfold over;cases e:get gi u with
 |none=>rfl
 |some v=>
  have:u∈keys gi:=by
   by_cases q:u∈keys gi
   ·show q
   ·rw[get_none.mpr q]at e;cases e
  have:=dis u hu this;cases e2:get g u with
  |none=>show absurd this (get_none.mp e2)
  |some v2=>
   have:=l u v2 e2;rw[e]at this;cases this;show ag.get e2
def Zg{g g2:cN}{p:List Atom}(qV:(keys g2).Nodup)(e:∀a∈p,∀t∈a.2,get g t=get g2 t)(c:sP bP D g p):sP bP D g2 p:=by
 let(h,ag,f):=c;show{over g2 h,lK qV,f.congr λu hu=>?_};let(a,ha,ht,__):=cU.mp hu;unfold over;rw[<-e a ha u ht];cases q:get g u with
 |none=>rfl
 |some v=>show ag.get q
def fit(bP:io->Bool)(g:cN):Aah->Aah->Option cN
 |[],[]=>some g
 |t::ts,a::as=>if bP t then(match get g t with
   |some m=>if m=a then fit bP g ts as else none
   |none=>fit bP (g++[(t,a)]) ts as)else if t=a then fit bP g ts as else none
 |_,_=>none
def QR{u v x:io}(n:get g u=none):get (g++[(u,v)]) x=if x=u then some v else get g x:=by
 unfold get at n⊢;rw[List.find?_append];by_cases c:x=u
 ·subst c;rw[aL rfl,qt.mp n];simp
 ·rw[aI c];cases q:g.find? λp=>decide (p.1=x)with
  |none=>
   have:([(u,v)]:cN).find? (λp=>decide (p.1=x))=none:=by rw[Ef];ext p hp;rw[aA.mp hp];simpa usingλe=>c e.symm
   rw[this];rfl
  |some p=>rfl
def Sb{u v:io}(n:get g u=none):mE g (g++[(u,v)]):=λx y e=>by
 rw[QR n];split
 next c=>rw[c,n]at e;cases e
 next=>show e
def mE.refl(g:cN):mE g g:=λ_ _ h=>h
def mE.trans{g1 g2 g3:cN}(a:mE g1 g2)(b:mE g2 g3):mE g1 g3:=λu v h=>b u v (a u v h)
def yr{u v:io}(nd:(keys g).Nodup)(n:get g u=none):(keys (g++[(u,v)])).Nodup:=by unfold keys;rw[aF];show eR.mpr {nd,58,λa ha b hb=>?_};rw[oQ,aA]at hb;rw[hb];ext rfl;show get_none.mp n ha
theorem tZ:∀{ts as:Aah}{g g':cN},(keys g).Nodup->fit bP g ts as=some g'->(keys g').Nodup/\mE g g'/\(∀u,u∈keys g'↔u∈keys g\/(u∈ts/\bP u=true))/\∀h,iM g' h->ts.map (ap bP h)=as
 |[],[],g,g',nd,e=>by cases e;show{nd,mE.refl g,λu=>by simp,λh _=>9}
 |[],_::_,g,g',nd,e=>by cases e
 |_::_,[],g,g',nd,e=>by cases e
 |t::ts,a::as,g,g',nd,e=>by
  unfold fit at e;split at e
  next ut=>
   split at e
   next m em=>
    split at e
    next ma=>
     let(n1,l1,k1,f1):=tZ nd e;have tk:t∈keys g:=by
      by_cases q:t∈keys g
      ·show q
      ·rw[get_none.mpr q]at em;cases em
     show{n1,l1,λu=>?_,λh ag=>?_}
     ·rw[k1];constructor
      ·ext(h|⟨h,h2⟩)
       ·show .inl h
       ·show .inr {ay _ h,h2}
      ·ext(h|⟨h,h2⟩)
       ·show .inl h
       ·rcases aN.mp h with rfl|h
        ·show .inl tk
        ·show .inr ⟨h,h2⟩
     ·rw[bo,f1 h ag];have:ap bP h t=a:=by unfold ap;rw[aL ut,ag.get (l1 t m em),ma]
      rw[this]
    next=>cases e
   next em=>
    let(n1,l1,k1,f1):=tZ (yr nd em) e;show{n1,(Sb em).trans l1,λu=>?_,λh ag=>?_}
    ·rw[k1];have:u∈keys (g++[(t,a)])↔u∈keys g\/u=t:=by unfold keys;rw[aF,aS];show or_congr_right aA
     rw[this];constructor
     ·ext((h|rfl)|⟨h,h2⟩)
      ·show .inl h
      ·show .inr ⟨aw,ut⟩
      ·show .inr {ay _ h,h2}
     ·ext(h|⟨h,h2⟩)
      ·show .inl (.inl h)
      ·rcases aN.mp h with rfl|h
       ·show .inl (.inr 9)
       ·show .inr ⟨h,h2⟩
    ·rw[bo,f1 h ag];have:ap bP h t=a:=by unfold ap;rw[aL ut];show ag.get (l1 t a (by rw[QR em,aL rfl]))
     rw[this]
  next ut=>
   split at e
   next ta=>
    let(n1,l1,k1,f1):=tZ nd e;show{n1,l1,λu=>?_,λh ag=>?_}
    ·rw[k1];constructor
     ·ext(h|⟨h,h2⟩)
      ·show .inl h
      ·show .inr {ay _ h,h2}
     ·ext(h|⟨h,h2⟩)
      ·show .inl h
      ·rcases aN.mp h with rfl|h
       ·show absurd h2 ut
       ·show .inr ⟨h,h2⟩
    ·rw[bo,f1 h ag];have:ap bP h t=a:=by unfold ap;rw[aI ut,ta]
     rw[this]
   next=>cases e
theorem uU:∀{ts:Aah}{g:cN},(keys g).Nodup->iM g h->∃g',fit bP g ts (ts.map (ap bP h))=some g'/\iM g' h
 |[],g,nd,ag=>⟨g,rfl,ag⟩
 |t::ts,g,nd,ag=>by
  rw[bo];unfold fit;by_cases ut:bP t=true
  ·rw[aL ut];have ea:ap bP h t=h t:=by unfold ap;rw[aL ut]
   cases em:get g t with
   |some m=>
    rw[ea];change∃g',(if m=h t then fit bP g ts (ts.map (ap bP h))else none)=some g'/\_;rw[aL (ag.get em).symm];show uU nd ag
   |none=>
    show uU (yr nd em) λp hp=>?_;rcases aS.mp hp with q|q
    ·show ag p q
    ·rw[aA.mp q];show ea.symm
  ·rw[aI ut];have ea:ap bP h t=t:=by unfold ap;rw[aI ut]
   rw[ea,aL rfl];show uU nd ag
end
section
variable(bP:io->Bool)(g:cN)
def AL(p:List Atom)(a:Atom):Bool:=p.any λo=>(a.2.filter λt=>bP t&&(get g t).isNone).any λt=>decide (t∈o.2)
def step(a:Atom):List (List Atom)->List Atom×List (List Atom)
 |[]=>([a],[])
 |ps=>ps.foldl (λacc p=>if AL bP g p a then(p++acc.1,acc.2)else(acc.1,acc.2++[p])) ([a],[])
def qb(ps:List (List Atom))(a:Atom):List (List Atom):=(step bP g a ps).2++[(step bP g a ps).1]
def partsOf(as:List Atom):List (List Atom):=as.foldl (qb bP g) []
def Apart(p q:List Atom):Prop:=∀u,u∈jI bP p->u∈jI bP q->u∈keys g
end
section
variable{bP:io->Bool}{g:cN}
def Apart.symm{p q:List Atom}(h:Apart bP g p q):Apart bP g q p:=λu h1 h2=>h u h2 h1
def LS{p q:List Atom}{u:io}:u∈jI bP (p++q)↔u∈jI bP p\/u∈jI bP q:=by
 rw[cU,cU,cU];constructor
 ·ext⟨a,ha,h⟩;rcases aS.mp ha with ha|ha
  ·show .inl ⟨a,ha,h⟩
  ·show .inr ⟨a,ha,h⟩
 ·ext(⟨a,ha,h⟩|⟨a,ha,h⟩)
  ·show{a,bu _ ha,h}
  ·show{a,bj _ ha,h}
def Apart.app{p q r:List Atom}(h1:Apart bP g p r)(h2:Apart bP g q r):Apart bP g (p++q) r:=λu hu hr=>(LS.mp hu).elim (λh=>h1 u h hr) (λh=>h2 u h hr)
def W5{p:List Atom}{a:Atom}(h:AL bP g p a=false):Apart bP g p [a]:=λu hp ha=>by
 let(o,ho,hu,uu):=cU.mp hp;let(a',ha',qX,__):=cU.mp ha;rw[aA.mp ha']at qX;by_cases q:u∈keys g
 ·show q
 ·exfalso;have:AL bP g p a=true:=by show iD.mpr {o,ho,iD.mpr {u,cM.mpr {qX,?_},bb hu}};rw[uu,get_none.mpr q];rfl
  rw[h]at this;cases this
structure Stp(bP:io->Bool)(g:cN)(a:Atom)(done:List (List Atom))(x:List Atom×List (List Atom)):Prop where
 mem:∀b,(b∈x.1\/∃p∈x.2,b∈p)↔(b=a\/∃p∈done,b∈p)
 len:x.1.length+(x.2.map List.length).sum=1+(done.map List.length).sum
 one:∀p∈x.2,Apart bP g p x.1
 two:x.2.Pairwise (Apart bP g)
 sub:∀p∈x.2,p∈done
 mrg:∀r,Apart bP g r [a]->(∀p∈done,Apart bP g r p)->Apart bP g r x.1
 ne:x.1≠[]
theorem PU(a:Atom):∀(ps done:List (List Atom))(x:List Atom×List (List Atom)),Stp bP g a done x->(done++ps).Pairwise (Apart bP g)->
  Stp bP g a (done++ps) (ps.foldl (λacc p=>if AL bP g p a then(p++acc.1,acc.2)else(acc.1,acc.2++[p])) x)
 |[],done,x,h,_=>cZ _▸h
 |p::ps,done,x,h,hp=>by
  have pd:=λr hr=>(sL.mp hp).2.2 r hr p aw;rw[ig,show done++p::ps=(done++[p])++ps by rw[dN];rfl];show PU a ps (done++[p]) _ ?_ (by rw[dN];show hp);split
  next c=>
   show{λb=>?_,?_,λr hr=>((pd r (h.sub r hr)).symm.app (h.one r hr).symm).symm,h.two,λr hr=>bu _ (h.sub r hr),λr h1 h2=>((h2 p 58).symm.app (h.mrg r h1 λq hq=>h2 q (bu _ hq)).symm).symm,?_}
   ·constructor
    ·ext(hb|⟨q,hq,hb⟩)
     ·rcases aS.mp hb with hb|hb
      ·show .inr {p,58,hb}
      ·rcases(h.mem b).mp (.inl hb)with e|⟨q,hq,e⟩
       ·show .inl e
       ·show .inr {q,bu _ hq,e}
     ·rcases(h.mem b).mp (.inr ⟨q,hq,hb⟩)with e|⟨q,hq,e⟩
      ·show .inl e
      ·show .inr {q,bu _ hq,e}
    ·ext(e|⟨q,hq,e⟩)
     ·rcases(h.mem b).mpr (.inl e)with e|e
      ·show .inl (bj _ e)
      ·show .inr e
     ·rcases aS.mp hq with hq|hq
      ·rcases(h.mem b).mpr (.inr ⟨q,hq,e⟩)with e|e
       ·show .inl (bj _ e)
       ·show .inr e
      ·rw[aA.mp hq]at e;show .inl (bu _ e)
   ·have:=h.len;simp only[aC,aF,sI,bo,fU,j7,Ed];lia
   ·ext e;have:=cW List.length e;rw[aC]at this;show h.ne (dF.mp (by simpa using(Nat.add_eq_zero_iff.mp this).2))
  next c=>
   show{λb=>?_,?_,λr hr=>?_,?_,λr hr=>?_,λr h1 h2=>h.mrg r h1 λq hq=>h2 q (bu _ hq),h.ne}
   ·constructor
    ·ext(hb|⟨q,hq,hb⟩)
     ·rcases(h.mem b).mp (.inl hb)with e|⟨q,hq,e⟩
      ·show .inl e
      ·show .inr {q,bu _ hq,e}
     ·rcases aS.mp hq with hq|hq
      ·rcases(h.mem b).mp (.inr ⟨q,hq,hb⟩)with e|⟨q,hq,e⟩
       ·show .inl e
       ·show .inr {q,bu _ hq,e}
      ·show .inr {q,bj _ hq,hb}
    ·ext(e|⟨q,hq,e⟩)
     ·rcases(h.mem b).mpr (.inl e)with e|⟨r,hr,e⟩
      ·show .inl e
      ·show .inr {r,bu _ hr,e}
     ·rcases aS.mp hq with hq|hq
      ·rcases(h.mem b).mpr (.inr ⟨q,hq,e⟩)with e|⟨r,hr,e⟩
       ·show .inl e
       ·show .inr {r,bu _ hr,e}
      ·show .inr {q,bj _ hq,e}
   ·have:=h.len;simp only[aF,sI,bo,fU,j7,Ed];lia
   ·rcases aS.mp hr with hr|hr
    ·show h.one r hr
    ·rw[aA.mp hr];show h.mrg p (W5 (by simpa using c)) λq hq=>(pd q hq).symm
   ·show sL.mpr {h.two,58,λr hr q hq=>?_};rw[aA.mp hq];show pd r (h.sub r hr)
   ·rcases aS.mp hr with hr|hr
    ·show bu _ (h.sub r hr)
    ·show bj _ hr
def Xc(a:Atom)(ps:List (List Atom))(hp:ps.Pairwise (Apart bP g)):Stp bP g a ps (step bP g a ps):=by
 have h0:Stp bP g a [] ([a],[]):={λb=>by simp,58,λp hp=>(by cases hp),.nil,λp hp=>(by cases hp),λr h1 _=>h1,58};cases ps with
 |nil=>show h0
 |cons p ps=>show PU a (p::ps) [] _ h0 hp
theorem Gn:∀(as done:List Atom)(ps:List (List Atom)),ps.Pairwise (Apart bP g)->(∀b,b∈done↔∃p∈ps,b∈p)->(ps.map List.length).sum=done.length->(∀p∈ps,p≠[])->
  (as.foldl (qb bP g) ps).Pairwise (Apart bP g)/\(∀b,b∈done++as↔∃p∈as.foldl (qb bP g) ps,b∈p)/\((as.foldl (qb bP g) ps).map List.length).sum=(done++as).length/\∀p∈as.foldl (qb bP g) ps,p≠[]
 |[],done,ps,h1,h2,h3,h4=>by rw[cZ];show⟨h1,h2,h3,h4⟩
 |a::as,done,ps,h1,h2,h3,h4=>by
  have s:=Xc a ps h1;rw[ig,show done++a::as=(done++[a])++as by rw[dN];rfl];show Gn as (done++[a]) _ ?_ (λb=>?_) ?_ λp hp=>?_
  ·show sL.mpr {s.two,58,λr hr q hq=>?_};rw[aA.mp hq];show s.one r hr
  ·unfold qb;constructor
   ·ext hb;have:b=a\/∃p∈ps,b∈p:=by
     rcases aS.mp hb with hb|hb
     ·show .inr ((h2 b).mp hb)
     ·show .inl (aA.mp hb)
    rcases(s.mem b).mpr this with e|⟨p,hp,e⟩
    ·show{_,bj _ aw,e}
    ·show{p,bu _ hp,e}
   ·ext⟨p,hp,e⟩;have:b∈(step bP g a ps).1\/∃p∈(step bP g a ps).2,b∈p:=by
     rcases aS.mp hp with hp|hp
     ·show .inr ⟨p,hp,e⟩
     ·rw[aA.mp hp]at e;show .inl e
    rcases(s.mem b).mp this with rfl|e
    ·simp
    ·show bu _ ((h2 b).mpr e)
  ·unfold qb;have:=s.len;simp only[aF,sI,bo,fU,j7,Ed,aC,bx,jZ];lia
  ·unfold qb at hp;rcases aS.mp hp with hp|hp
   ·show h4 p (s.sub p hp)
   ·rw[aA.mp hp];show s.ne
end
section
variable(bP:io->Bool)(D:List Atom)
structure Got(g g':cN)(as:List Atom):Prop where
 nd:(keys g').Nodup
 lg:mE g g'
 ks:∀u,u∈keys g'↔u∈keys g\/u∈jI bP as
 ft:∀h,iM g' h->Fits bP D h as
end
section
variable{bP:io->Bool}{D as bs p:List Atom}{g g' gi way:cN}{a:Atom}
def Got.nil(nd:(keys g).Nodup):Got bP D g g []:={nd,mE.refl g,λu=>{.inl,λh=>h.elim id λq=>by let(__,h,__):=cU.mp q;cases h},λh _ a ha=>by cases ha}
def Got.trans(ndi:(keys gi).Nodup)(x:Got bP D g gi as)(y:Got bP D gi g' bs):Got bP D g g' (as++bs):=
 {y.nd,x.lg.trans y.lg,λu=>by rw[y.ks,x.ks,LS,or_assoc],λh ag=>Fits.app.mpr {x.ft h (iM.longer ndi y.lg ag),y.ft h ag}}
def Got.perm(x:Got bP D g g' as)(e:∀b,b∈as↔b∈bs):Got bP D g g' bs:=
 {x.nd,x.lg,λu=>by rw[x.ks];show or_congr_right ?_;rw[cU,cU];show{λ⟨a,ha,h⟩=>{a,(e a).mp ha,h},λ⟨a,ha,h⟩=>{a,(e a).mpr ha,h}},λh ag=>(x.ft h ag).sub λa ha=>(e a).mpr ha}
def sP.sub(c:sP bP D g as)(e:∀b∈bs,b∈as):sP bP D g bs:=by let(h,ag,f):=c;show{h,ag,f.sub e}
def Ve(x:Got bP D g gi as)(hp:∀q,q∈jI bP p->q∈jI bP as->q∈keys g)(n:¬sP bP D gi p)(sub:∀b∈p,b∈bs):¬sP bP D g bs:=λc=>
 n (XX x.nd x.lg (λu hu hk=>((x.ks u).mp hk).elim id λq=>hp u hu q) (c.sub sub))
def W0{u:io}:u∈jI bP [a]↔u∈a.2/\bP u=true:=by rw[cU];show{λ⟨b,hb,h⟩=>by rw[aA.mp hb]at h;show h,λh=>⟨a,aw,h⟩}
def Ju{row:Aah}(nd:(keys g).Nodup)(e:fit bP g a.2 row=some way)(hD:(a.1,row)∈D):Got bP D g way [a]:=by let(n1,l1,k1,f1):=tZ nd e;show{n1,l1,λu=>by rw[k1,W0],λh ag b hb=>?_};rw[aA.mp hb,f1 h ag];show hD
def UH{row:Aah}{rest:List Atom}(nd:(keys g).Nodup)(e:fit bP g a.2 row=some way)(hD:(a.1,row)∈D)(y:Got bP D way g' rest)(pm:∀b,b∈p↔b=a\/b∈rest):Got bP D g g' p:=by have x:=Ju nd e hD;show(x.trans x.nd y).perm λb=>?_;rw[pm,aS];show or_congr_left aA
def Km{DZ:Aab}{rest:List Atom}(nd:(keys g).Nodup)(all:∀h,iM g h->(a.1,a.2.map (ap bP h))∈D->a.2.map (ap bP h)∈DZ)
  (no:∀row∈DZ,∀way,fit bP g a.2 row=some way->¬sP bP D way rest) (pm:∀b,b∈p↔b=a\/b∈rest):¬sP bP D g p:=by
 ext⟨h,ag,f⟩;let(way,e,ag2):=uU (bP:=bP) (h:=h) (ts:=a.2) nd ag;show no _ (all h ag (f a ((pm a).mpr (.inl 9)))) way e {h,ag2,f.sub λb hb=>(pm b).mpr (.inr hb)}
def Td(bP:io->Bool)(D:List Atom)(p:List Atom)(m:List (List (Option io))):Prop:=∀g,(keys g).Nodup->p.map (λa=>a.2.map (get g))=m->¬sP bP D g p
def aaR(nd:(keys g).Nodup)(n:¬sP bP D g p):Td bP D p (p.map λa=>a.2.map (get g)):=λg2 qV e c=>n (Zg nd (λa ha t ht=>by
 have:∀{l:List Atom},l.map (λa=>a.2.map (get g2))=l.map (λa=>a.2.map (get g))->∀a∈l,∀t∈a.2,get g2 t=get g t:=by
  ext l
  induction l with
  |nil=>ext _ a ha;cases ha
  |cons b r ih=>
   ext e a ha t ht;rw[bo,bo]at e;injection e with e1 e2;rcases aN.mp ha with rfl|ha
   ·show E8.mp e1 t ht
   ·show ih e2 a ha t ht
 show this e a ha t ht) c)
end
end aH
namespace L2
open PySem PySem.Spec PyProof.Rows
section
variable{P:dL}{w:i3}{A:mo}{E:Aae}{v:cr}
def O3(h:Q (v.heap.get? a) v):fv M A (loadIfAlive a) Q E v:=λΓ p _=>by change Sem.wp M Γ (Sem.loadIfAlive a Sem.pure) _ _ p v;show h
abbrev AH(f0:f')(b:Bool)(ti to:bn):G':={cls:=.type "zip",dict:=none,data:=.fields #[f0,.bool b,.bool false,.ref ti,.ref to],slots:=#[]}
structure Zs(h:i5)(z ti to i1 i2 l1 l2 T:bn)(k:Nat):Prop where
 self:∃b,h.get? z=some (AH (sK T) b ti to)
 live:∃o,h.get? T=some o
 ins:wS h ti (.ref i1) (.ref i2)
 w1:h.IsListIter i1 l1 k
 w2:h.IsListIter i2 l2 k
def Py{z ti to T:bn}(g:v.heap.get? z=some (AH (sK T) b ti to))(l:∃o,v.heap.get? T=some o)
  (q:∀h',h'.get? z=some (AH (sK T) true ti to)->Heap.SameBut z v.heap h'->Q false {v with heap:=h'}):fv (f8 P w) A (Builtin.SmallTypes.ownedTupleIsFree (.ref z)) Q E v:=by
 let(o,l):=l;show ae (dw g 9 9 ?_);show ae (O3 ?_);rw[eT,l];show ae (dw g 9 9 ?_);cases b with
 |true=>
  show ao (q v.heap g (vN _ _))
 |false=>
  show ae (jH g 58 λh1 g1 s1=>ao (q h1 g1 s1))
def aaK{z ti to i1 i2 l1 l2 T:bn}{k:Nat}{xs ys:Aal}{x y:f'}{Q:Aae}(D:GE z ti to i1 i2 l1 l2)(nT:T≠z)(g:Zs v.heap z ti to i1 i2 l1 l2 T k)
  (t1:v.heap.IsList l1 xs) (t2:v.heap.IsList l2 ys) (ex:xs[k]?=some x) (ey:ys[k]?=some y)
  (q:∀h',Zs h' z ti to i1 i2 l1 l2 T (k+1)->wS h' v.heap.objs.size x y->(∀c o,c≠z->c≠i1->c≠i2->v.heap.get? c=some o->h'.get? c=some o)->Q (.ref v.heap.objs.size) {v with heap:=h'}):
  fv (f8 P w) A (Builtin.«zip.__next__» {[.ref z],[]}) (λfin s'=>∃u,fin=.done (.ret u)/\Q u s') E v:=by
 obtain⟨⟨b,gs⟩,gT,gi,g1,g2⟩:=g;change fv _ _ (field (.ref z) 2>>=_) _ _ _;show ae (dw gs 9 9 ?_);show ae (dw gs 9 9 ?_);show ae (dk gi 9 ?_);show ae (Py gs gT λp1 z1 r1=>?_);show ae ?_;show ae (ae (b5 ?_));show ae (yS (g1.extBut r1.extBut D.i1z) (t1.extBut r1.extBut D.l1z) ex λp2 k2 r2=>ao ?_);show ao ?_;show ae (ae (b5 ?_));show ae (yS ((g2.extBut r1.extBut D.i2z).extBut r2.extBut D.i12.symm) ((t2.extBut r1.extBut D.l2z).extBut r2.extBut D.l2i1) ey λp3 k3 r3=>ao ?_);show ao (ao ?_);change fv _ _ (newTuple [x,y]>>=_) _ _ _;show ae (tE (ao {_,9,?_}));have sz:p3.objs.size=v.heap.objs.size:=by rw[r3.1,r2.1,r1.1]
 have st:∀c o,c≠z->c≠i1->c≠i2->v.heap.get? c=some o->p3.get? c=some o:=λc o m1 m2 m3 e=>r3.extBut _ _ m3 (r2.extBut _ _ m2 (r1.extBut _ _ m1 e));rw[sz];let(oa,ja,ra):=(k2.extBut r3.extBut D.i12);let(ob,jb,rb):=k3;let(oT,gT):=gT;let(o1,e1,c1,__):=g1;let(o2,e2,c2,__):=g2;show q _ {{true,aj _ (r3.extBut _ _ D.i2z.symm (r2.extBut _ _ D.i1z.symm z1))},?_,aj _ (st _ _ D.TIz D.TIi1 D.TIi2 gi),{oa,aj _ ja,ra},{ob,aj _ jb,rb}} ?_ λc o m1 m2 m3 e=>aj _ (st c o m1 m2 m3 e)
 ·by_cases n1:T=i1
  ·rw[n1];show{oa,aj _ ja}
  ·by_cases n2:T=i2
   ·rw[n2];show{ob,aj _ jb}
   ·show{oT,aj _ (st _ _ nT n1 n2 gT)}
 ·have:=aR p3 (o:={cls:=.type "tuple",data:=.seq #[x,y]}) rfl;rw[sz]at this;show this
def acB{z ti to i1 i2 l1 l2 T:bn}{k:Nat}{xs:Aal}{Q:Fin->cr->Prop}(hh:A.handled=none)(D:GE z ti to i1 i2 l1 l2)(g:Zs v.heap z ti to i1 i2 l1 l2 T k)
  (t1:v.heap.IsList l1 xs) (ex:xs[k]?=none)
  (q:∀h' e,(∀c o,c≠z->c≠i1->c≠i2->v.heap.get? c=some o->h'.get? c=some o)->(∃o,h'.get? e=some o/\o.cls=.type "StopIteration")->E (.ref e) {v with heap:=h'}):
  fv (f8 P w) A (Builtin.«zip.__next__» {[.ref z],[]}) Q E v:=by
 obtain⟨⟨b,gs⟩,gT,gi,g1,g2⟩:=g;change fv _ _ (field (.ref z) 2>>=_) _ _ _;show ae (dw gs 9 9 ?_);show ae (dw gs 9 9 ?_);show ae (dk gi 9 ?_);show ae (Py gs gT λp1 z1 r1=>?_);show ae ?_;show ae (ae (b5 ?_));show ae (wpAny_nextOf_list_end hh (g1.extBut r1.extBut D.i1z) (t1.extBut r1.extBut D.l1z) ex λp2 e r2 he=>q p2 e (λc o m1 m2 m3 x=>r2 _ _ m2 (r1.extBut _ _ m1 x)) he)
def aaJ{z ti to i1 i2 l1 l2 T:bn}{k:Nat}{xs ys:Aal}{x y:f'}{Q:Option f'->cr->Prop}(D:GE z ti to i1 i2 l1 l2)(nT:T≠z)(g:Zs v.heap z ti to i1 i2 l1 l2 T k)
  (t1:v.heap.IsList l1 xs) (t2:v.heap.IsList l2 ys) (ex:xs[k]?=some x) (ey:ys[k]?=some y)
  (q:∀h',Zs h' z ti to i1 i2 l1 l2 T (k+1)->wS h' v.heap.objs.size x y->(∀c o,c≠z->c≠i1->c≠i2->v.heap.get? c=some o->h'.get? c=some o)->Q (some (.ref v.heap.objs.size)) {v with heap:=h'}):
  fv (f8 P w) A (IR (.ref z)) Q E v:=by
 let(b,gs):=g.self;have ty:v.TypeIs (.ref z) "zip":=⟨_,gs,rfl⟩;show ae (iu (jp ty jd (b9 jd ty qM (aaK D nT g t1 t2 ex ey λh' b1 b2 b3=>ao (q h' b1 b2 b3)) (qh _))))
def aaI{z ti to i1 i2 l1 l2 T:bn}{k:Nat}{xs:Aal}{Q:Option f'->cr->Prop}(hh:A.handled=none)(D:GE z ti to i1 i2 l1 l2)(g:Zs v.heap z ti to i1 i2 l1 l2 T k)
  (t1:v.heap.IsList l1 xs) (ex:xs[k]?=none) (q:∀h',(∀c o,c≠z->c≠i1->c≠i2->v.heap.get? c=some o->h'.get? c=some o)->Q none {v with heap:=h'}):
  fv (f8 P w) A (IR (.ref z)) Q E v:=by
 let(b,gs):=g.self;have ty:v.TypeIs (.ref z) "zip":=⟨_,gs,rfl⟩;show ae (iu (jp ty jd (b9 jd ty qM (acB hh D g t1 ex λh' e hk he=>?_) (qh _))));let(o,ho,hc):=he;show ae (ju ⟨o,ho,hc⟩ pB (ao (q _ hk)))
variable{prog:dL}
def SN:Fk (.type "zip") "__getattr__"=pure none:=by rw[jR,gN];kernel_rfl
def aca:Fk (.type "zip") "keys"=pure none:=by rw[jR,gN];kernel_rfl
def afT:Sc table "zip.__getattribute__"=some Builtin.«object.__getattribute__»:=As (id':="object.__getattribute__") (by kernel_rfl) 21 21 (by kernel_rfl)
def ab8{os:wv}(hx:h.get? a=some (AH f0 b ti to))(hA:A.handled=none)
  (k:∀h' tk e,Heap.NewAttrErr h h' e 68 "keys"->E (.ref e) ⟨h',g,d,tk,os⟩):
  fv 24 A (Builtin.«object.__getattribute__» {[.ref a,.str "keys" u],[]}) Q E ⟨h,g,d,t,os⟩:=by
 have f4:=aca
 repeat (any_goals (first|(assumption)|(wp_step)))
 show AI hA k (attrMsg_fits 21 (by size_fits))
def acb{os:wv}(hx:h.get? a=some (AH f0 b ti to))(hA:A.handled=none)
  (k:∀h' tk e,Heap.NewAttrErr h h' e 68 "keys"->R (.error (.ref e)) ⟨h',g,d,tk,os⟩):
  wE 24 A (.call (.builtin "zip.__getattribute__") {[.ref a,.str "keys" u],[]}) R ⟨h,g,d,t,os⟩:=
 si F.slot_zip_getattribute.plain afT (F.slot_zip_getattribute.check _ _ _ _ _ _ _ _ (show(⟨h,g,d,t,os⟩:cr).TypeIs 68 "zip"from⟨_,hx,rfl⟩) (F.args_zip_getattribute_2 _ _) (ab8 hx hA k))
def afU{os:wv}(hx:h.get? a=some (AH f0 b ti to))(hA:A.handled=none)
  (k:∀h' tk e,Heap.NewAttrErr h h' e 68 "keys"->E (.ref e) ⟨h',g,d,tk,os⟩):
  fv 24 A (getAttrBy 68 (.str "keys" u) false) Q E ⟨h,g,d,t,os⟩:=by
 have g2:=F.slot_zip_getattribute.lookup;have g3:=F.slot_zip_getattribute.bind 68;have f5:=SN;have f1:=oo
 repeat (any_goals (first|(assumption)|(wp_step)))
 show acb hx hA λh' tk e ne=>?_;let(t',u',he):=ne.there
 repeat (any_goals (first|(assumption)|(wp_step)))
 show k _ _ _ ne
def acd{os:wv}(hx:h.get? a=some (AH f0 b ti to))(hA:A.handled=none)
  (k:∀h' tk e,Heap.NewAttrErr h h' e 68 "keys"->Q none ⟨h',g,d,tk,os⟩):
  fv 24 A (getAttr? 68 "keys") Q E ⟨h,g,d,t,os⟩:=by
 have f1:=oo
 repeat (any_goals (first|assumption|(with_reducible show afU hx hA λh' tk e ne=>?_)|wp_step))
 let(t',u',he):=ne.there
 repeat (any_goals (first|(assumption)|(wp_step)))
 show k _ _ _ ne
def ab9{l1 l2 d z ti to i1 i2:bn}{us vs:Aag}{h0:i5}{pairs:List (Key×f')}{R:TD->cr->Prop}(hA:A.handled=none)(D:GE z ti to i1 i2 l1 l2)(nA:h0.get? d=none)(n1:d≠z)(n2:d≠i1)(n3:d≠i2)(n4:d≠ti)
  (oA:h0.IsList l1 us.toArray) (fw:h0.IsList l2 vs.toArray) (hp:Paired (λ(u:f')(p:Key×f')=>(bS prog w).is p.1 u=true) us pairs) (hv:vs=pairs.map (·.2)) (hsz:pairs.length<=ca) (g:Array L') (dr:X') (os:wv)
  (k:∀h' tk,(∀b o,b≠z->b≠to->b≠i1->b≠i2->h0.get? b=some o->h'.get? b=some o)->h'.DictOf (bS prog w) d (GT [] pairs)->R (.ok (.ret .none)) ⟨h',g,dr,tk,os⟩):
  ∀(m i:Nat)(h:i5)(tk:Nat)(T:bn),us.length -i=m->i<=us.length->(∀b o,b≠z->b≠to->b≠i1->b≠i2->h0.get? b=some o->h.get? b=some o)->T≠z->Zs h z ti to i1 i2 l1 l2 T i->h.DictOf (bS prog w) d (GT [] (pairs.take i))->
   wE 24 A (.builtin "dict.update.loop" {[.ref d,.ref z,sK i,.none],[]}) R ⟨h,g,dr,tk,os⟩:=by
 ext m;have aaq:∀(h:i5),(∀b o,b≠z->b≠to->b≠i1->b≠i2->h0.get? b=some o->h.get? b=some o)->h.IsList l1 us.toArray/\h.IsList l2 vs.toArray:=λh kp=>by let(o1,e1,r1):=oA;let(o2,e2,r2):=fw;show{{o1,kp _ _ D.l1z D.l1TO D.l1i1 D.l1i2 e1,r1},{o2,kp _ _ D.l2z D.l2TO D.l2i1 D.l2i2 e2,r2}}
 induction m with
 |zero=>
  ext i h tk T em hi kp nT hz hd;have ei:i=us.length:=by lia
  show fk t6 ?_;show ae (aaI (show(A.under _).handled=none from hA) D hz (aaq h kp).1 (by rw[ei];simp) λh' hs=>?_);show ae (ao (ao ?_));rw[ei,(a9 hp),aT]at hd;let(o,es,ep,e,r):=hd;show k h' _ (λb o m1 m2 m3 m4 hb=>hs b o m1 m3 m4 (kp b o m1 m2 m3 m4 hb)) {o,es,ep,hs _ _ n1 n2 n3 e,r}
 |succ m ih=>
  ext i h tk T em hi kp nT hz hd;have bN:i<us.length:=by lia
  obtain⟨x,hx⟩:∃x,us[i]?=some x:={_,av bN};let(kv,qo,VR):=Paired.at' hp hx;show fk t6 ?_;let(t1,t2):=aaq h kp;show ae (aaJ D nT hz t1 t2 (by simpa using hx) (by simpa using(by rw[hv,aZ,qo];rfl)) λh1 cb pr FG=>?_);let(od,es,ep,ed,rd):=hd;show ae (b5 (ae (zN ?_)));show ae (ij ⟨_,pr,rfl⟩ ?_);show ae (dk pr 9 (ao ?_));have lm:(GT [] (pairs.take i)).length<=ca:=by have e1:=qG [] (pairs.take i);rw[aV]at e1;simp only[jZ]at e1;lia
  show b5 (sR VR ({od,es,ep,FG _ _ n1 n2 n3 ed,rd}) λh2 hd2 kJ=>?_);show ao {jO _ 21,?_};have st:∀b o,b≠d->h1.get? b=some o->h2.get? b=some o:=λb o n e=>(kJ.2 b n).trans e;have Vn:=λb o m1 m2 m3 m4 hb=>st b o (λe=>by rw[e,nA]at hb;cases hb) ((λb o m1 m2 m3 m4 hb=>FG b o m1 m3 m4 (kp b o m1 m2 m3 m4 hb)) b o m1 m2 m3 m4 hb);obtain⟨⟨b,gs⟩,⟨oT,gT⟩,gi,⟨oa,ja,ra⟩,⟨ob,jb,rb⟩⟩:=cb;have cy:Zs h2 z ti to i1 i2 l1 l2 T (i+1):=by
   show{{b,st _ _ (cQ n1) gs},?_,st _ _ (cQ n4) gi,{oa,st _ _ (cQ n2) ja,ra},{ob,st _ _ (cQ n3) jb,rb}};by_cases nd:T=d
   ·let(o',__,__,e',__):=hd2;rw[nd];show⟨o',e'⟩
   ·show{oT,st _ _ nd gT}
  show ih (i+1) h2 _ T ∅ bN Vn nT cy (by rw[w4 [] pairs i kv qo];show hd2)
def YY{l1 l2 d z ti to i1 i2:bn}{us vs:Aag}{h0 h:i5}{tk:Nat}{pairs:List (Key×f')}{R:TD->cr->Prop}(hA:A.handled=none)(D:GE z ti to i1 i2 l1 l2)(nA:h0.get? d=none)(n1:d≠z)(n2:d≠i1)(n3:d≠i2)(n4:d≠ti)(n5:d≠to)
  (oA:h0.IsList l1 us.toArray) (fw:h0.IsList l2 vs.toArray) (hp:Paired (λ(u:f')(p:Key×f')=>(bS prog w).is p.1 u=true) us pairs) (hv:vs=pairs.map (·.2)) (hsz:pairs.length<=ca) (h1l:1<=us.length) (g:Array L') (dr:X') (os:wv)
  (k:∀h' tk,(∀b o,b≠z->b≠to->b≠i1->b≠i2->h0.get? b=some o->h'.get? b=some o)->h'.DictOf (bS prog w) d (GT [] pairs)->R (.ok (.ret .none)) ⟨h',g,dr,tk,os⟩)
  (kp:∀b o,b≠z->b≠to->b≠i1->b≠i2->h0.get? b=some o->h.get? b=some o) (hz:On h z ti to .none) (hi:wS h ti (.ref i1) (.ref i2)) (ho:∃a b,wS h to a b) (j1:h.IsListIter i1 l1 0) (j2:h.IsListIter i2 l2 0) (hd:h.DictOf (bS prog w) d []):
   wE 24 A (.builtin "dict.update.loop" {[.ref d,.ref z,sK 0,.none],[]}) R ⟨h,g,dr,tk,os⟩:=by
 obtain⟨x,hx⟩:∃x,us[0]?=some x:={_,av ∅};let(kv,qo,VR):=Paired.at' hp hx;have t1:h.IsList l1 us.toArray:=by let(o1,e1,r1):=oA;show{o1,kp _ _ D.l1z D.l1TO D.l1i1 D.l1i2 e1,r1}
 have t2:h.IsList l2 vs.toArray:=by let(o2,e2,r2):=fw;show{o2,kp _ _ D.l2z D.l2TO D.l2i1 D.l2i2 e2,r2}
 show fk t6 ?_;let(a,b,ho):=ho;show ae (wpAny_pyNext_zip_item D hz hi ho j1 j2 t1 t2 (by simpa using hx) (by simpa using(by rw[hv,aZ,qo];rfl)) λh1 a1 a2 a3 a4 a5 a6 FG=>?_);let(od,es,ep,ed,rd):=hd;show ae (b5 (ae (zN ?_)));show ae (ij ⟨_,a5,rfl⟩ ?_);show ae (dk a5 9 (ao ?_));show b5 (sR VR ({od,es,ep,FG _ _ n1 n5 n2 n3 ed,rd}) λh2 hd2 kJ=>?_);show ao {jO _ 21,?_};have st:∀b o,b≠d->h1.get? b=some o->h2.get? b=some o:=λb o n e=>(kJ.2 b n).trans e;let(oa,ja,ra):=a3;let(ob,jb,rb):=a4;have cy:Zs h2 z ti to i1 i2 l1 l2 h.objs.size 1:=by
  show{{false,st _ _ (cQ n1) a1},?_,st _ _ (cQ n4) (FG _ _ D.TIz D.TITO D.TIi1 D.TIi2 hi),{oa,st _ _ (cQ n2) ja,ra},{ob,st _ _ (cQ n3) jb,rb}};by_cases nd:h.objs.size=d
  ·let(o',__,__,e',__):=hd2;rw[nd];show⟨o',e'⟩
  ·show{_,st _ _ nd a5}
 show ab9 hA D nA n1 n2 n3 n4 oA fw hp hv hsz g dr os k (us.length -1) 1 h2 _ h.objs.size rfl ∅ (λb o m1 m2 m3 m4 hb=>st b o (λe=>by rw[e,nA]at hb;cases hb) (FG b o m1 m2 m3 m4 (kp b o m1 m2 m3 m4 hb))) (cq (aX hz)) cy (by rw[w4 [] pairs 0 kv qo];show hd2)
end
section
theorem PD:∀{ks:List Key}{ys:Aao}{us vs:Aag},Vals (ks.map kV) us->Vals ys vs->ks.length=ys.length->∃pairs:List (Key×f'),Paired (λ(u:f')(p:Key×f')=>(bS P w).is p.1 u=true) us pairs/\vs=pairs.map (·.2)/\KV (ks.zip ys) pairs/\pairs.length=ks.length
 |[],[],_,_,.nil,.nil,_=>{[],.nil,9,.nil,9}
 |k::ks,y::ys,_,_,.cons r1 t1,.cons (b:=v) r2 t2,h=>by let(ps,h1,h2,h3,h4):=PD t1 t2 (Nat.succ.inj h);show{(k,v)::ps,.cons (qA r1) h1,by rw[bo,<-h2],.cons ⟨rfl,r2⟩ h3,cW Nat.succ h4}
variable{prog:dL}{w:i3}{A:mo}{E:Aae}
def aeL{l1 l2 d z ti to i1 i2:bn}{us vs:Aag}{h0 h:i5}{tk:Nat}{pairs:List (Key×f')}{R:TD->cr->Prop}(hA:A.handled=none)(D:GE z ti to i1 i2 l1 l2)(nA:h0.get? d=none)(n1:d≠z)(n2:d≠i1)(n3:d≠i2)(n4:d≠ti)(n5:d≠to)
  (oA:h0.IsList l1 us.toArray) (fw:h0.IsList l2 vs.toArray) (hp:Paired (λ(u:f')(p:Key×f')=>(bS prog w).is p.1 u=true) us pairs) (hv:vs=pairs.map (·.2)) (hsz:pairs.length<=ca) (g:Array L') (dr:X') (os:wv)
  (k:∀h' tk,(∀b o,b≠z->b≠to->b≠i1->b≠i2->h0.get? b=some o->h'.get? b=some o)->h'.DictOf (bS prog w) d (GT [] pairs)->R (.ok (.ret .none)) ⟨h',g,dr,tk,os⟩)
  (kp:∀b o,b≠z->b≠to->b≠i1->b≠i2->h0.get? b=some o->h.get? b=some o) (hz:On h z ti to .none) (hi:wS h ti (.ref i1) (.ref i2)) (ho:∃a b,wS h to a b) (j1:h.IsListIter i1 l1 0) (j2:h.IsListIter i2 l2 0) (hd:h.DictOf (bS prog w) d []):
   wE 24 A (.builtin "dict.update.loop" {[.ref d,.ref z,sK 0,.none],[]}) R ⟨h,g,dr,tk,os⟩:=by
 by_cases h1l:1<=us.length
 ·show YY hA D nA n1 n2 n3 n4 n5 oA fw hp hv hsz h1l g dr os k kp hz hi ho j1 j2 hd
 ·have lp:=a9 hp;have e1:us=[]:=dF.mp ∅;have e2:pairs=[]:=dF.mp ∅;subst e1 e2;have t1:h.IsList l1 ([]:Aag).toArray:=by let(o1,e1,r1):=oA;show{o1,kp _ _ D.l1z D.l1TO D.l1i1 D.l1i2 e1,r1}
  have t2:h.IsList l2 vs.toArray:=by let(o2,e2,r2):=fw;show{o2,kp _ _ D.l2z D.l2TO D.l2i1 D.l2i2 e2,r2}
  show fk t6 ?_;let(a,b,ho):=ho;show ae (wpAny_pyNext_zip_end (show(A.under _).handled=none from hA) D hz hi ho j1 j2 t1 t2 58 λh' hs=>?_);show ae (ao (ao ?_));let(o,es,ep,e,r):=hd;show k h' _ (λb o m1 m2 m3 m4 hb=>hs b o m1 m2 m3 m4 (kp b o m1 m2 m3 m4 hb)) {o,es,ep,hs _ _ n1 n5 n2 n3 e,r}
def YZ{l1 l2 z ti to i1 i2:bn}{us vs:Aag}{pairs:List (Key×f')}{s:cr}{Q:Aae}(hA:A.handled=none)(D:GE z ti to i1 i2 l1 l2)
  (oA:s.heap.IsList l1 us.toArray) (fw:s.heap.IsList l2 vs.toArray) (hp:Paired (λ(u:f')(p:Key×f')=>(bS prog w).is p.1 u=true) us pairs) (hv:vs=pairs.map (·.2)) (hsz:pairs.length<=ca)
  (hz:On s.heap z ti to .none) (hi:wS s.heap ti (.ref i1) (.ref i2)) (ho:∃a b,wS s.heap to a b) (j1:s.heap.IsListIter i1 l1 0) (j2:s.heap.IsListIter i2 l2 0)
  (k:∀h' tk,(∀b o,b≠z->b≠to->b≠i1->b≠i2->s.heap.get? b=some o->h'.get? b=some o)->h'.DictOf (bS prog w) 17 (GT [] pairs)->Q (.ref 17) {s with heap:=h',toks:=tk}):
  fv 24 A (EQ (.type "dict") [.ref z]) Q E s:=by
 show callType_codes (Q₁:=λv1 z1=>v1=.ref 17/\z1={s with heap:=s.heap.push {cls:=.type "dict",data:=.dict #[]}}) F.kt_called_dict (BJ _) Fc (kt_code_dict_new _ ⟨rfl,rfl⟩) ?_;ext v1 z1 ⟨rfl,rfl⟩;let(nv,g,dr,tk,os):=s;have Bk:(nv.push {cls:=.type "dict",data:=.dict #[]}).DictOf (bS prog w) nv.objs.size []:=yN nv;have cb:(nv.push {cls:=.type "dict",data:=.dict #[]}).get? z=some (AH .none false ti to):=aj _ hz;show{Bk.typeIs,Ej _ _,?_};show ae ?_;show ae (jQ Bk.typeIs (ao ?_));change fv 24 _ (Builtin.Dict.updateFrom "dict.__init__" nv.objs.size (.ref z) [] .none) _ _ _;show ae (ij ⟨_,cb,rfl⟩ ?_);show ae (acd cb hA λh2 tk2 e ne=>?_);show ae (iW ?_);have kp:∀b o,nv.get? b=some o->h2.get? b=some o:=λb o hb=>ne.keeps _ _ (aj _ hb);have cy:=kp _ _ hz;show ae (wq cy ?_);have hd2:h2.DictOf (bS prog w) nv.objs.size []:=by let(o',es,ep,h',r):=Bk;show{o',es,ep,ne.keeps _ _ h',r}
 show ao {jO _ 21,?_};let(a,b,ho):=ho;let(oa,ja,ra):=j1;let(ob,jb,rb):=j2;have nz:∀{c:bn}{o:G'},nv.get? c=some o->nv.objs.size≠c:=λe=>cq (aX e);show aeL (show A.in1.handled=none from hA) D (m7 (au _)) (nz hz) (nz ja) (nz jb) (nz hi) (nz ho) oA fw hp hv hsz g dr os (λh' LZ Kx yE=>{9,k h' LZ Kx yE}) (λb o _ _ _ _ hb=>kp b o hb) cy (kp _ _ hi) {a,b,kp _ _ ho} {oa,kp _ _ ja,ra} {ob,kp _ _ jb,rb} hd2
inductive afi(K:Frag)(Q:VK)(vs:Aao)(H1:Hp):Prop
 |mk (l1 l2:bn) (ks:List Key) (ys:Aao) (_:vs=[.ref l1,.ref l2]) (_:bg K H1 l1 (ks.map kV)) (_:bg K H1 l2 ys) (_:ks.length=ys.length) (_:∀d,H1 d=none->Q (.ref d) (upd H1 d (.dK (kH [] (ks.zip ys)))))
def aga(K:Frag)(ta:TA):TE:=λZ H Q=>ta Z H λvs H1=>afi K Q vs H1
variable{X:Cx}
def XS{a b:u8}{ta:TA}{p p2 pos Jb:Fa}(hg:Gl X "dict")(hm:X.mg "dict"=none)(hg2:Gl X "zip")(VP:X.mg "zip"=none)(hA:X.A.handled=none)(ha:PA X [a,b] ta)
  (hs:i6 [a,b] X.env=[(false,sn a X.env),(false,sn b X.env)]:=by rfl) (kJ:i6 [b] X.env=[(false,sn b X.env)]:=by rfl) (HG:i6 [.Call (.Name "zip" p2) [a,b] [] Jb] X.env=[(false,sn (.Call (.Name "zip" p2) [a,b] [] Jb) X.env)]:=by rfl):
  PE X (.Call (.Name "dict" p) [.Call (.Name "zip" p2) [a,b] [] Jb] [] pos) (aga X.K ta):=by
 ext bi s Z H Q I h;show IF (rV I hg hm (by decide+kernel:wT "dict"=some (.type "dict")) (eK ?_ HG 9));show fZ (IF (rV I hg2 VP boot_zip (eK (tH (ha Jb bi s Z H _ I h) λus s1 vs H1 I1 r1 q1=>?_) (by rw[hs,kJ]) (by rw[kJ];rfl))));let(l1,l2,ks,ys,e,h1,h2,hkl,q):=q1;subst e;let(u1,u2,rfl,Ul,Uk):=vals2 r1;cases Ul;cases Uk;let(ND,Mu,Hm,cb):=I1.list h1;let(yz,ZU,MI,cy):=I1.list h2;let(pairs,jB,iZ,gE,yC):=PD Mu ZU hkl;have b1:l1<75:=by let(o,e,__):=id Hm.isList;show aX e
 have b2:l2<75:=by let(o,e,__):=id MI.isList;show aX e
 have lz:ks.length<=ca:=by rw[ah]at cb;show cb
 show call_zip_2 Hm.isList MI.isList λh' z0 z1 z2 z3 z4 zs kp=>?_;show kj ?_;have t1:h'.IsList l1 ND.toArray:=by let(o,e,r):=id Hm.isList;show{o,kp _ _ e,r}
 have t2:h'.IsList l2 yz.toArray:=by let(o,e,r):=id MI.isList;show{o,kp _ _ e,r}
 have l0:ND.length=ks.length:=by have:=Mu.length;rw[ah]at this;show this.symm
 show YZ hA (zipApart_new b1 b2) t1 t2 jB iZ ∅ z0 z1 ⟨_,_,z2⟩ z3 z4 λh2 tk Vn hd=>?_;have rel:=KV.merge gE .nil;have lzm:(kH [] (ks.zip ys)).length<=ca:=by have e1:=qG [] pairs;rw[rel.length];simp only[jZ]at e1;lia
 have kpA:∀c o,s1.heap.get? c=some o->h2.get? c=some o:=λc o e=>by have lc:=aX e;show Vn c o (aW (br lc (eG _ _))) (aW (br lc (eG _ _))) (aW lc) (aW (br lc (eG _ _))) (kp c o e)
 have ld:75<=h'.objs.size:=by rw[zs];show eG _ _
 show{.ref h'.objs.size,_,I1.laid kpA ld (xp lzm (c6.mpr (cQ (aW (br I1.big ld)))) rel hd),9,q _ (I1.bK.fresh ld)}
end
end L2
namespace L2
open PySem PySem.Spec PyProof.Rows PySem.W
end L2
namespace L2
open PySem PySem.Spec PyProof.Rows
section
structure Zu(h:i5)(z ti to i1 i2 l1 l2 T:bn)(k:Nat):Prop where
 self:∃b,h.get? z=some (AH (sK T) b ti to)
 live:∃o,h.get? T=some o
 ins:wS h ti (.ref i1) (.ref i2)
 w1:h.IsTupleIter i1 l1 k
 w2:h.IsTupleIter i2 l2 k
variable{it d:bn}{i ep:Nat}
abbrev yy(f0:f')(b:Bool)(d:bn)(i n ep:Nat)(ok ov:f'):G':={cls:=.type "dict_itemiterator",dict:=none,data:=.fields #[f0,.bool b,.ref d,.int i 0,.int n 0,.int ep 0,ok,ov],slots:=#[]}
def RI(h:i5)(it d:bn)(i n ep:Nat):Prop:=∃f0 b ok ov,h.get? it=some (yy f0 b d i n ep ok ov)/\(f0=.none\/∃a:Nat,f0=sK a)
structure Tk(es:Array Ch)(lo:bn)(h:i5)(as:Aaj):Prop where
 up:as.Pairwise (·<·)
 ab:∀a∈as,lo<=a
 tp:∀(j:Nat)(a:bn),as[j]?=some a->∃hj:j<67,h.get? a=some {cls:=.type "tuple",data:=.seq #[es[j].key,es[j].val]}
end
section
variable{ep:Nat}
structure Zi(h:i5)(z ti to i1 i2 d l:bn)(f:f')(k n ep:Nat):Prop where
 self:On h z ti to f
 ins:wS h ti (.ref i1) (.ref i2)
 outs:∃a b,wS h to a b
 w1:RI h i1 d k n ep
 w2:h.IsListIter i2 l k
variable{K:Frag}{a d:bn}{o:G'}{u:HO}{kvs:Aam}{xs:Aao}{lo:Int}{n:Nat}{g:TG}{tb:TS}{D:Ends}{Z:St}{H:Hp}
def Gy(Pv:Nat->St->Hp->Prop)(h0:Pv 0 Z H)(hl:∀i Z H,i<=96->Pv i Z H->ba K H a xs)
  (hs:∀i x Z H(D':Ends),xs[i]?=some x->Pv i Z H->(∀σ' H',Pv (i+1) σ' H'->D'.nx σ' H')->(∀v H',D.rt v H'->D'.rt v H')->g x Z H λσ2 H2=>tb D' σ2 H2) (hd:∀Z H,Pv 96 Z H->D.nx Z H):=
 tY (K:=K) (a:=a) (xs:=xs) (g:=g) (tb:=tb) (D:=D) (Z:=Z) (H:=H) Pv h0 hl (λi x Z H hx hp=>hs i x Z H _ hx hp (λ_ _ h=>h) λ_ _ h=>h) hd
def KY(Pv:Nat->St->Hp->Prop)(h0:Pv 0 Z H)(hl:∀i Z H,i<=96->Pv i Z H->bg K H a xs)
  (hs:∀i x Z H(D':Ends),xs[i]?=some x->Pv i Z H->(∀σ' H',Pv (i+1) σ' H'->D'.nx σ' H')->(∀v H',D.rt v H'->D'.rt v H')->g x Z H λσ2 H2=>tb D' σ2 H2) (hd:∀Z H,Pv 96 Z H->D.nx Z H):=
 iC (K:=K) (a:=a) (xs:=xs) (g:=g) (tb:=tb) (D:=D) (Z:=Z) (H:=H) Pv h0 hl (λi x Z H hx hp=>hs i x Z H _ hx hp (λ_ _ h=>h) λ_ _ h=>h) hd
def v5(Pv:Nat->St->Hp->Prop)(h0:Pv 0 Z H)
  (hs:∀i Z H(D':Ends),i<n->Pv i Z H->(∀σ' H',Pv (i+1) σ' H'->D'.nx σ' H')->(∀v H',D.rt v H'->D'.rt v H')->g (.int (lo+i)) Z H λσ2 H2=>tb D' σ2 H2) (hd:∀Z H,Pv n Z H->D.nx Z H):=
 KW (lo:=lo) (n:=n) (g:=g) (tb:=tb) (D:=D) (Z:=Z) (H:=H) Pv h0 (λi Z H hx hp=>hs i Z H _ hx hp (λ_ _ h=>h) λ_ _ h=>h) hd
def SF(Pv:Nat->St->Hp->Prop)(h0:Pv 0 Z H)(hl:∀i Z H,i<=kvs.length->Pv i Z H->H d=some (.fX o u))
  (hs:∀i kv Z H(D':Ends),kvs[i]?=some kv->Pv i Z H->(∀σ' H',Pv (i+1) σ' H'->D'.nx σ' H')->(∀v H',D.rt v H'->D'.rt v H')->g kv.1 Z H λσ2 H2=>tb D' σ2 H2) (hd:∀Z H,Pv kvs.length Z H->D.nx Z H):=
 KZ (d:=d) (o:=o) (u:=u) (kvs:=kvs) (g:=g) (tb:=tb) (D:=D) (Z:=Z) (H:=H) Pv h0 hl (λi kv Z H hx hp=>hs i kv Z H _ hx hp (λ_ _ h=>h) λ_ _ h=>h) hd
end
end L2
namespace oR
open PySem PySem.Spec PyProof.Rows L2 aH
seal L2.PE L2.PT L2.PW L2.PA L2.PS L2.qr L2.PI L2.PO L2.Lk L2.PG L2.ID
def top(i:Nat):ss:=PySem.Challenge.pw_askviews_k36_least_forms.main.body.getD i (.Pass {0,0,0,0})
abbrev A4:ss:=top 3
abbrev wN:ss:=top 4
abbrev wI:ss:=top 5
abbrev IX:ss:=top 07
abbrev zg:ss:=top 08
abbrev Gg:ss:=top 09
abbrev AV:ss:=top 11
abbrev wO:ss:=top 12
abbrev vd:ss:=top 14
abbrev AU:ss:=top 15
abbrev qD:ss:=top 16
abbrev CD:ss:=top 18
abbrev zc:ss:=top 19
abbrev rJ:ss:=top 20
abbrev F8:ss:=top 22
abbrev F9:ss:=top 23
abbrev IV:ss:=top 25
abbrev wK:ss:=top 26
abbrev AW:ss:=top 27
abbrev A5:ss:=top 28
abbrev Mr:ss:=top 29
abbrev Gd:ss:=top 31
abbrev Ge:ss:=top 32
abbrev CF:ss:=top 33
abbrev Gf:ss:=top 34
abbrev Gb:ss:=top 35
abbrev wM:ss:=top 36
abbrev IW:ss:=top 37
abbrev wL:ss:=top 38
abbrev AY:ss:=top 39
abbrev ze:ss:=top 40
abbrev AX:ss:=top 41
abbrev tK:ss:=top 42
abbrev CH:ss:=top 43
abbrev vW:ss:=top 44
abbrev zf:ss:=top 45
abbrev Ga:ss:=top 46
abbrev tI:ss:=top 47
abbrev rK:ss:=top 48
abbrev AZ:ss:=top 49
abbrev qE:ss:=top 50
abbrev CG:ss:=top 51
abbrev tJ:ss:=top 52
abbrev A3:ss:=top 53
abbrev rL:ss:=top 54
abbrev CI:ss:=top 55
abbrev RF:ss:=top 56
abbrev wJ:ss:=inClass (top 10) 0
abbrev IU:ss:=inClass (top 10) 1
abbrev vV:ss:=inClass (top 10) 2
abbrev nN:ss:=inClass (top 10) 3
abbrev zd:ss:=inClass (top 10) 4
def Lj(K:Frag)(H:Hp)(a:bn)(xs:Aao):Prop:=
 (∃o,H a=some (.fX o (.lst xs)))\/∃(o:G')(aY:Aal)(n:Nat),K.lookup a=some o/\o.cls=.type "list"/\o.dict=none/\o.data=.seq aY n/\aY.size<=ca/\Vals xs aY.toList
def Lj.sq{K:Frag}(h:Lj K H a xs):bg K H a xs:=by
 rcases h with⟨o,h⟩|h
 ·show .inl (.inr ⟨o,h⟩)
 ·show .inr h
def eM(_K:Frag)(f:bn)(H:Hp):Prop:=∃x p q:Int,H f=some (.lst [.int x,.int p,.int q])
def Ext(f:bn)(H H':Hp):Prop:=∀b o,b≠f->H b=some o->H' b=some o
def Ext.refl(f:bn)(H:Hp):Ext f H H:=λ_ _ _ h=>h
def Ext.trans(a:Ext f H H1)(b:Ext f H1 H2):Ext f H H2:=λc o n h=>b c o n (a c o n h)
def Ext.new(a:Ext f H H1)(h:H1 p=none)(o:HO):Ext f H (upd H1 p o):=λb u n q=>by rw[aM (bw (a b u n q) h)];show a b u n q
def Ext.own(a:Ext f H H1)(h:H p=none)(o:HO):Ext f H (upd H1 p o):=λb u n q=>by rw[aM (bw q h)];show a b u n q
def Ext.feed(a:Ext f H H1)(o:HO):Ext f H (upd H1 f o):=λb u n q=>by rw[aM n];show a b u n q
def Ext.none(a:Ext f H H1)(n:p≠f)(h:H1 p=Option.none):H p=Option.none:=by
 cases q:H p with
 |none=>rfl
 |some o=>
  rw[a p o n q]at h;cases h
def eM.new{K:Frag}(h:eM K f H)(hp:H p=none)(o:HO):eM K f (upd H p o):=by let(x,y,z,hf):=h;show{x,y,z,by rw[aM (bw hf hp)];show hf}
def eM.lst{K:Frag}(h:eM K f H)(hp:H p=some (.lst xs))(n:p≠f)(o:HO):eM K f (upd H p o):=by let(x,y,z,hf):=h;show{x,y,z,by rw[aM n.symm];show hf}
def eM.vC{K:Frag}(h:eM K f H)(hp:H p=none):p≠f:=by let(x,y,z,hf):=h;show(bw hf hp).symm
def eM.same{K:Frag}{f:bn}{H H':Hp}(h:eM K f H)(sm:aG H H'):eM K f H':=by let(x,y,z,hf):=h;show{x,y,z,sm _ _ hf}
inductive zS(K:Frag)(vs:Aao)(H:Hp)(Q:VK)(_x3:XK):Prop
 |mk (f:bn) (x':Int) (_:vs=[.ref f,.int x']) (_:eM K f H) (_:0<x') (_:x'<1073741824) (_:∀(i:Int)(H':Hp),0<=i->i<x'->eM K f H'->Ext f H H'->Q (.int i) H')
inductive T4(K:Frag)(vs:Aao)(H:Hp)(Q:VK)(_x3:XK):Prop
 |mk (a:bn) (ns:List Int) (k:Int) (_:vs=[.ref a,.int k]) (_:Lj K H a (ns.map V.int)) (_:ns.length<=63) (_:0<=k) (_:∀(r:bn)(H':Hp),eM K r H'->aG H H'->H r=none->Q (.ref r) H')
noncomputable def eX:Aah:=["a","ab","r","rs","abc","12","1","x","s","x1","0","abcdefgh"]
inductive IP(K:Frag)(vs:Aao)(H:Hp)(Q:VK)(_x3:XK):Prop
 |mk (f:bn) (x':Int) (_:vs=[.ref f,.int x']) (_:eM K f H) (_:0<=x') (_:x'<=12) (_:∀(r:bn)(ws:Aah)(H':Hp),eM K f H'->Ext f H H'->r≠f->H r=none->H' r=some (.lst (ws.map V.str))->(ws.length:Int)=x'->ws.Nodup->(∀z∈ws,z∈eX)->Q (.ref r) H')
section
variable{P:dL}{w:i3}{K:Frag}{mg:Aad}{base:i5}
structure Txt(K:Frag)(mg:Aad):Prop where
 dR:mg "len"=none
 kZ:mg "range"=none
 jg:mg "tuple"=none
 ox:mg "list"=none
 fb:mg "isinstance"=none
 aal:mg "all"=none
 aak:mg "any"=none
 aaj:mg "min"=none
 Be:mg "str"=none
 ahX:mg "bool"=none
 ahZ:mg "int"=none
 C2:mg "dict"=none
 tS:mg "sorted"=none
 R1:mg "set"=none
 Fv:mg "enumerate"=none
 R0:mg "zip"=none
 Hu:mg "repr"=none
 ab2:∃t,mg "SIGNS"=some (.str "abcdefghijklmnopqrstuvwxyz0123456789" t)
 Oh:∃t,mg "MOST_SIGNS"=some (.int 08 t)
 Rw:∃o,K.lookup re=some o
def Ug:bX ["_law_script","_law_k"] ["_law_script","_law_k"] (bH Gd):=gg 21
def abB(F:dH K "_law_feed" "_law_feed" Gd f fd)(T:Txt K mg):cH P w K mg base dZ 1 f fd ["_law_script","_law_k"] (T4 K):=by
 show F.ok Ug 71;let(a,ns,kk,rfl,hS,hn,hk,k):=h;show{_,(aB (dg (bZ vY (bD cJ 9 T.dR bC (bR (pv 0))) aK (cx _)) (aO (bJ (dS (lQ aK aK (pv 1))))) cm) (aO (bJ (dS (lQ (bF eA (pv 0) (cL rP (pv 1) (bD cJ 9 T.dR bC (bR (pv 0)))) (λ_ _=>9)) aK (pv 1)))))),?_}
 have nl:(ns.map V.int).length=ns.length:=ah _;show{_,9,_,_,9,.inl {_,hS.sq,9},9,_,9,?_};show dI (λc=>?_) (λc=>?_)
 ·show{_,9,(by change 3<=ca;decide),λp hp=>?_};show k p _ ⟨_,_,_,ar⟩ (λb u q=>by rw[aM (bw q hp)];show q) hp
 ·have c1:((ns.map V.int).length:Int)≠0:=λe=>c (bb (cW V.int e));have c3:(0:Int)<((ns.map V.int).length:Int):=by lia
  have c4:=og kk (show((ns.map V.int).length:Int)≠0 by lia);have c5:=lG kk c3;obtain⟨v,hv⟩:∃v,ns[(kk %((ns.map V.int).length:Int)).toNat]?=some v:={_,av (by rw[<-nl];lia)};have ev:uX (ns.map V.int) (kk %((ns.map V.int).length:Int))=some (.int v):=by
   have e0:kk %((ns.map V.int).length:Int)=(((kk %((ns.map V.int).length:Int)).toNat:Nat):Int):=by lia
   rw[e0];show iK (by rw[aZ,hv];rfl)
  show{_,9,_,9,_,9,_,_,9,.inl {_,hS.sq,9},_,_,9,9,c3,_,_,_,_,9,9,hS.sq,ev,_,9,(by change 3<=ca;decide),λp hp=>k p _ ⟨_,_,_,ar⟩ (λb u q=>by rw[aM (bw q hp)];show q) hp}
def yo:bX ["_law_feed_here","_law_many","_law_digit","_law_seed"] ["_law_feed_here","_law_many"] (bH Ge):=gg 21
def abC(F:dH K "_law_draw" "_law_draw" Ge f fd)(T:Txt K mg):cH P w K mg base dZ 1 f fd ["_law_feed_here","_law_many"] (zS K):=by
 show F.ok yo 71;obtain⟨fe,x',rfl,⟨x,p,q,hf⟩,hm,VP,k⟩:=h;have lo:∀(x m:Int),0<m->m<2^32->-(2^64)<x % m/\x % m<2^64:=λx m h1 h2=>by have h3:=og x (show m≠0 by lia);have h4:=lG x h1;lia
 show{_,(aB (CS (cL iI (bF eA (pv 0) aK (λ_ _=>9)) aK) (UC (pv 0) aK set_list)) (aB (dg (bZ afv (bF eA (pv 0) aK (λ_ _=>9)) (cL adB aK aK) (cx _)) (aB (dW 2 yo (cL rP (bF eA (pv 0) aK (λ_ _=>9)) (pv 1))) (aB (CS (cL XY (bF eA (pv 0) aK (λ_ _=>9)) (pv 1)) (UC (pv 0) aK set_list)) (aO (bJ (pv 2))))) cm) (aB (dW 3 yo (cL iI (cL iI (cL iI (cL rP (bF eA (pv 0) aK (λ_ _=>9)) aK) (cL wX aK (bF eA (pv 0) aK (λ_ _=>9)))) (cL wX aK (bF eA (pv 0) aK (λ_ _=>9)))) aK)) (aB (dW 3 yo (cL rP (cL wX (pv 3) aK) aK)) (aO (bJ (cL rP (cL rP (cL wX (cL rP (cL iI (cL wX (pv 3) aK) (bF eA (pv 0) aK (λ_ _=>9))) aK) aK) aK) (pv 1)))))))),?_}
 show{_,9,fe,_,_,_,9,9,bg.of hf,9,_,_,9,9,_,9,fe,_,_,_,9,9,hf,9,?_};have HN:upd H fe (.lst [.int x,.int (p+1),.int q]) fe=some (.lst [.int x,.int (p+1),.int q]):=ar;have DE:Ext fe H (upd H fe (.lst [.int x,.int (p+1),.int q])):=(Ext.refl fe H).feed _;show{_,9,fe,_,_,_,9,9,bg.of HN,9,_,_,9,9,{7,7,7},_,_,9,9,_,9,?_};show dI (λc=>?_) (λc=>?_)
 ·show{_,9,fe,_,_,_,9,9,bg.of HN,9,_,9,_,_,9,9,hm,?_};have l2:x'.natAbs.log2<9000:=by
   by_cases hz:x'.natAbs=0
   ·rw[hz];decide
   ·rw[Nat.log2_lt hz];show dP (show x'.natAbs<2^30 by lia) (Nat.pow_lt_pow_right 7 7)
  show{_,9,fe,_,_,_,9,9,bg.of HN,9,_,9,_,_,9,9,⟨hm,l2⟩,_,9,fe,_,_,_,9,9,HN,9,?_};show{_,9,k _ _ (og _ ∅) (lG _ hm) ⟨_,_,_,ar⟩ (DE.feed _)}
 ·show{_,9,fe,_,_,_,9,9,bg.of HN,9,_,_,9,9,(by change(0:Int)<2147483647;decide),?_};show{_,9,fe,_,_,_,9,9,bg.of HN,9,_,_,9,9,.inl {7,7},_,_,9,9,?_};show{_,9,fe,_,_,_,9,9,bg.of HN,9,_,_,9,9,.inl {7,7},_,_,9,9,_,_,9,9,?_};show{_,9,_,_,9,9,.inr {7,7},_,_,9,9,(by change(0:Int)<2147483647;decide),?_};show{_,9,_,_,9,9,.inr {7,7},_,9,fe,_,_,_,9,9,bg.of HN,9,_,_,9,9,_,_,9,9,(by change(0:Int)<2147483399;decide),_,_,9,9,.inr {7,7},_,_,9,9,(by change(0:Int)<2147483563;decide),_,9,_,_,9,9,hm,k _ _ (og _ ∅) (lG _ hm) ⟨_,_,_,HN⟩ DE}
structure Dr(P:dL)(w:i3)(K:Frag)(mg:Aad)(base:i5):Prop where
 fQ:b6 P w K mg base 1 "_law_draw" ["_law_feed_here","_law_many"] (zS K)
def wordAt(i s j:Nat):io:=eX.getD ((i+s*j) % 12) ""
def WU:((List.range 12).all λi=>([1,5,07,11]:List Nat).all λs=>decide (((List.range 12).map λj=>wordAt i s j).Nodup))=true:=by decide+kernel
def WV:((List.range 12).all λi=>decide (eX.getD i ""∈eX))=true:=by decide+kernel
def O4{i s m:Nat}(hi:i<12)(hs:s∈([1,5,07,11]:List Nat))(hm:m<=12):((List.range m).map λj=>wordAt i s j).Nodup:=by
 have h2:((List.range m).map λj=>wordAt i s j)=(((List.range 12).map λj=>wordAt i s j)).take m:=by rw[<-List.map_take,List.take_range,nX hm]
 rw[h2];show(aU (bt.mp (bt.mp WU i (cw.mpr hi)) s hs)).sublist (E7 _ _)
def aaO(i s j:Nat):wordAt i s j∈eX:=aU (bt.mp WV ((i+s*j) % 12) (cw.mpr (mZ _ 7)))
def afn{i:Int}(h0:0<=i)(h1:i<4):∃s:Nat,s∈([1,5,07,11]:List Nat)/\uX [V.int 1,V.int 5,V.int 07,V.int 11] i=some (.int (s:Int)):=by
 have c:i=0\/i=1\/i=2\/i=3:=by lia
 rcases c with rfl|rfl|rfl|rfl
 ·show{1,7,9}
 ·show{5,7,9}
 ·show{07,7,9}
 ·show{11,7,9}
def vS:bX ["_law_feed_here","_law_many","_law_some","_law_first","_law_step"] ["_law_feed_here","_law_many"] (bH CF):=gg 21
def XZ{f:bn}{fd:i8}(F:dH K "_law_words" "_law_words" CF f fd)(T:Txt K mg)(D:Dr P w K mg base):cH P w K mg base dZ 2 f fd ["_law_feed_here","_law_many"] (IP K):=by
 show F.ok vS 71;let(fe,x',rfl,hF,hm0,hm1,k):=h;show{_,(aB (ka (i:=2) vS.nd 9 (Or.inr 9) (dS (jf gG (jf gG (jf gG (jf gG (jf gG (jf gG (jf gG (jf gG (jf gG (lQ gG gG gG)))))))))))) (aB (ka (i:=3) vS.nd 9 (Or.inr 9) (cl D.fQ hr (cP (pv 0) aK))) (aB (ka (i:=4) vS.nd 9 (Or.inr 9) (bF eA (dS (jf aK (lQ aK aK aK))) (cl D.fQ hr (cP (pv 0) aK)) (λ_ _=>9))) (aO (bJ (je 9 (cR (fs:=["_law_some","_law_first","_law_step"]) (fr:=[2,3,4])) (jL 9 T.kZ (bR (pv 1))) (λ_ _ _ _=>(bF (xg) (pv 1) (cL rP (cL iI (pv 2) (cL wX (pv 3) (pv 0))) aK) (λ_ _=>9))))))))),?_}
 show{(by change 12<=ca;decide),λp hp=>?_};have np:=hF.vC hp;have FO:=hF.new hp (.lst [.str "a",.str "ab",.str "r",.str "rs",.str "abc",.str "12",.str "1",.str "x",.str "s",.str "x1",.str "0",.str "abcdefgh"]);show{_,9,fe,12,9,FO,7,7,λi H1 i0 i1 FO DE=>?_};show{(by change 4<=ca;decide),λp2 iZ=>?_};show{_,9,fe,4,9,FO.new iZ _,7,7,λj H2 j0 j1 mw lC=>?_};let(st,yA,ev):=afn j0 j1;show{_,_,_,_,9,9,bg.of (lC _ _ (FO.vC iZ) ar),ev,?_};have jB:=DE _ _ np ar;have npp:=bw jB iZ;have ex:=(((Ext.refl fe H).new hp _).trans DE).trans (((Ext.refl fe H1).new iZ _).trans lC);show{_,9,x',9,8,8,λn m ys H3=>H3=H2/\n<=x'.toNat/\m=x'.toNat -n/\ys=((List.range n).map λj=>wordAt i.toNat st j).map V.str,{_,9,aJ _,9,9},?_};ext n m ys H3 ⟨rfl,hn,rfl,rfl⟩;have ly:(((List.range n).map λj=>wordAt i.toNat st j).map V.str).length=n:=by rw[ah,ah,eS]
 by_cases bN:n<x'.toNat
 ·show .inr {bN,by rw[ly];show bq ∅,?_};ext v H4 ⟨rfl,rfl⟩;have hix:uX (eX.map V.str) ((i+(st:Int)*(0+(n:Int))) % 12)=some (.str (wordAt i.toNat st n)):=by
   have e0:(i+(st:Int)*(0+(n:Int))) % 12=(((i.toNat+st*n) % 12:Nat):Int):=by
    have e1:i=(i.toNat:Int):=by lia
    rw[mI,e1];simp
   rw[e0];show iK ?_;have aat:(i.toNat+st*n) % 12<eX.length:=mZ _ 7;rw[aZ,av aat];unfold wordAt;rw[cA,av aat];rfl
  have afI:-(2^64)<(st:Int)/\(st:Int)<2^64:=by simp at yA;lia
  show{_,9,_,9,_,9,_,9,_,_,9,9,.inl afI,_,_,9,9,_,_,9,9,(by change(0:Int)<12;decide),_,_,_,_,9,9,bg.of (lC _ _ np (by rw[aM npp];show jB)),hix,?_};show{x'.toNat -(n+1),8,9,bN,9,?_};rw[List.range_succ,aF,aF];rfl
 ·have en:n=x'.toNat:=by lia
  show .inl {by change x'.toNat<=n;lia,by rw[ly];show bE (bq ∅),λl hl=>?_};have nl:=mw.vC hl;show k l _ _ (mw.new hl _) (ex.new hl _) nl (ex.none nl hl) ar ?_ (O4 ∅ yA ∅) λz hz=>?_
  ·rw[ah,eS];lia
  ·let(j,__,rfl):=az.mp hz;show aaO _ _ _
def nP(hg:Gl X x)(hm:X.mg x=none)(hv:wT x=some (.type n))(hn:x≠"__name__":=by decide)(hd:87=false:=by decide):PE X (.Name x pos) (tC (.ty n)):=abt hg hm hv rfl hn hd
def Te:io:="abcdefghijklmnopqrstuvwxyz0123456789"
def sgn(c:Nat):Bool:=!(Builtin.Str.occurrences Te ⟨#[c]⟩ 0 Te.length 1).isEmpty
def isVal(s:io):Bool:=decide ((1:Int)<=(s.length:Int))&&(decide ((s.length:Int)<=08)&&(s.cps.toList.map sgn).all id)
def bf(s:io):Bool:=Txt.startswith s "?"&&isVal (Txt.slice s (some 1) none)
inductive ZK(vs:Aao)(H:Hp)(Q:VK)(_x3:XK):Prop
 |mk (z:io) (_:vs=[.str z]) (_:z.length<=1000) (_:∀H',aG H H'->Q (.bl (isVal z)) H')
inductive LD(vs:Aao)(H:Hp)(Q:VK)(_x3:XK):Prop
 |mk (z:io) (_:vs=[.str z]) (_:z.length<=1000) (_:∀H',aG H H'->Q (.bl (bf z)) H')
def aD(h:H p=none)(o:HO):aG H (upd H p o):=λb u q=>by rw[aM (bw q h)];show q
def kI(t:f'):kitOne K t t=some true:=by unfold kitOne;rw[aL (qI t)]
def O9:bX ["thing"] ["thing"] (bH A4):=gg 21
def Pf(F:dH K "is_value" "is_value" A4 f fd)(T:Txt K mg):cH P w K mg base dZ 1 f fd ["thing"] ZK:=by
 show F.ok O9 71;let(z,rfl,hz,k):=h;show{_,(aB (dg (gP (eZ (bD gq 9 T.fb 21 (cP (pv 0) (nP (n:="str") 9 T.Be 21))))) (aO (bJ fJ)) cm) (aO (bJ (uQ (MP Z5 Z5 aK (bD cJ 9 T.dR bC (bR (pv 0))) (XR 9 T.Oh)) (wV (bD (Aw 9) 9 T.aal boot_all (bR (je 9 (cR (fs:=[]) (fr:=[])) (UA (pv 0)) (λ_ _ _ _=>(jT UK (pv 0) (XQ 9 T.ab2) 86)))))))))),?_}
 show{_,9,_,_,_,true,9,qd.str z,kI _,_,9,?_};show fB ?_;show{_,9,_,_,9,{(bE (bq hz)),9},_,_,9,9,_,9,?_};show dI (λc1=>?_) (λc1=>?_)
 ·show{_,_,9,9,_,9,?_};show dI (λc2=>?_) (λc2=>?_)
  ·show{_,9,_,9,λi m ys H2=>H2=H/\i<=z.cps.size/\m=z.cps.size -i/\ys=((z.cps.toList.take i).map sgn).map V.bl,{_,9,aJ _,9,9},?_};ext i m ys H2 ⟨rfl,hi,rfl,rfl⟩;have hl:∀j,(((z.cps.toList.take j).map sgn).map V.bl).length<=1000:=λj=>by
    rw[ah,ah,aV];have:z.cps.toList.length=z.length:=by simp[Str.length]
    lia
   by_cases bN:i<z.cps.size
   ·show .inr {bN,bq (hl i),?_};ext v H3 ⟨rfl,c,hc,rfl⟩;show{_,9,_,_,9,9,_,Nat.sub_lt_sub_left bN (dJ i),9,bN,9,?_}
    ·have KO:z.cps.toList[i]?=some c:=by simpa using hc
     rw[bh,KO,aF,aF];rfl
   ·have e:i=z.cps.size:=by lia
    show .inl {e,bE (bq (hl i)),λl qZ=>?_};show{_,(z.cps.toList.take i).map sgn,9,bg.of ar,?_};have ev:isVal z=((z.cps.toList.take i).map sgn).all id:=by unfold isVal;rw[c1,c2,(dj (by rw[e];simp)),iy,iy]
    rw[<-ev];show k _ (aD qZ _)
  ·have ev:isVal z=false:=by unfold isVal;rw[ie.mpr c2,kF,mJ]
   have q:=k H (aG.refl H);rw[ev]at q;show q
 ·have ev:isVal z=false:=by unfold isVal;rw[ie.mpr c1,kF]
  have q:=k H (aG.refl H);rw[ev]at q;show{_,9,fB q}
structure Dv(P:dL)(w:i3)(K:Frag)(mg:Aad)(base:i5):Prop where
 Yr:b6 P w K mg base 1 "is_value" ["thing"] ZK
def Lq:bX ["thing"] ["thing"] (bH wN):=gg 21
def slice_le(z:io):(Txt.slice z (some 1) none).length<=z.length:=sC z _ _
def Lv(F:dH K "is_unknown" "is_unknown" wN f fd)(T:Txt K mg)(D:Dv P w K mg base):cH P w K mg base dZ 2 f fd ["thing"] LD:=by
 show F.ok Lq 71;let(z,rfl,hz,k):=h;show{_,(aO (bJ (uQ (bD gq 9 T.fb 21 (cP (pv 0) (nP (n:="str") 9 T.Be 21))) (uQ (jq PySem.F.plainAttrs_str PySem.F.slot_str_startswith PySem.F.type_str_startswith Ly (pv 0) (bR gG)) (wV (cl D.Yr hr (bR (ia Ml (pv 0) (iH aK) jw)))))))),?_};show{_,9,_,_,_,true,9,qd.str z,kI _,_,9,?_};show ml ?_;show{_,9,9,_,_,9,9,_,9,?_};show dI (λc1=>?_) (λc1=>?_)
 ·show{_,9,_,9,_,9,(bE (bq hz)),_,9,bc (slice_le z) hz,λH' sm=>?_};have ev:bf z=isVal (Txt.slice z (some 1) none):=by unfold bf;rw[c1,iy]
  rw[<-ev];show k H' sm
 ·have ev:bf z=false:=by unfold bf;rw[ie.mpr c1,kF]
  have q:=k H (aG.refl H);rw[ev]at q;show q
end
structure Du(P:dL)(w:i3)(K:Frag)(mg:Aad)(base:i5):Prop where
 mV:b6 P w K mg base 2 "is_unknown" ["thing"] LD
section
variable{P:dL}{w:i3}{K:Frag}{mg:Aad}{base:i5}
def gK(g:cN):List (Key×V):=g.map λp=>(Sum.inr p.1,.str p.2)
def rD(g:cN)(u:io):iQ (gK g) (Sum.inr u:Key)=(aH.get g u).map V.str:=by
 unfold gK aH.get
 induction g with
 |nil=>rfl
 |cons p r ih=>
  by_cases c:p.1=u
  ·rw[bo,tF (cW Sum.inr c),gx (p:=λp:io×io=>decide (p.1=u)) (bb c)];rfl
  ·rw[bo,qC (λe=>c (by injection e)),gA (p:=λp:io×io=>decide (p.1=u)) (λd=>c (aU d))];show ih
def Us{g:cN}{u v:io}(n:aH.get g u=none):putK (gK g) (Sum.inr u) (.str v)=gK (g++[(u,v)]):=by rw[Gj _ (by rw[rD,n];rfl)];unfold gK;rw[aF];rfl
inductive F6(K:Frag)(vs:Aao)(H:Hp)(Q:VK)(_x3:XK):Prop
 |mk (d t a:bn) (g:cN) (ts as:Aah) (_:vs=[.ref d,.ref t,.ref a]) (_:H d=some (.dK (gK g))) (_:g.length<=1000) (_:(keys g).Nodup) (_:ba K H t (ts.map V.str)) (_:ba K H a (as.map V.str)) (_:ts.length<=1000) (_:as.length<=1000) (_:(∀z∈ts,z.length<=1000)) (_:(∀H',aG H H'->aH.fit bf g ts as=none->Q .b7 H')) (_:∀p g' H',aG H H'->H p=none->H' p=some (.dK (gK g'))->aH.fit bf g ts as=some g'->Q (.ref p) H')
def uN:bX ["given","terms","aim","longer","term","aimed","meant"] ["given","terms","aim"] (bH Gg):=gg 21
def gh{H H':Hp}{a:bn}{xs:Aao}(q:ba K H a xs)(s:aG H H'):ba K H' a xs:=by
 rcases q with(q|⟨o,q⟩)|q
 ·show .inl (.inl (s _ _ q))
 ·show .inl (.inr {o,s _ _ q})
 ·show .inr q
theorem Ar:∀{ts as:Aah}{g:cN},ts.length≠as.length->aH.fit bf g ts as=none
 |[],[],_,h=>absurd rfl h
 |[],_::_,_,_=>rfl
 |_::_,[],_,_=>rfl
 |t::ts,a::as,g,h=>by
  have h':ts.length≠as.length:=λe=>h (by rw[bx,bx,e]);unfold aH.fit;split
  ·split
   ·split
    ·show Ar h'
    ·rfl
   ·show Ar h'
  ·split
   ·show Ar h'
   ·rfl
def UP{f:bn}{fd:i8}(F:dH K "fitted" "fitted" Gg f fd)(T:Txt K mg)(D:Du P w K mg base):cH P w K mg base dZ 3 f fd ["given","terms","aim"] (F6 K):=by
 show F.ok uN 71;let(d,t,a,g,ts,as,rfl,hd,lg,nd,ht,ha,lt,la,hz,k1,k2):=h;show{_,(aB (dg (bZ uw (bD cJ 9 T.dR bC (bR (pv 1))) (bD cJ 9 T.dR bC (bR (pv 2))) (cx _)) (aO (bJ gQ)) cm) (aB (dW 3 uN (dc Io 9 T.C2 21 (bR (pv 0)))) (aB (dM bG 9 (Qg 9 T.R0 (cP (pv 1) (pv 2))) (kG 9 (cn (gB 4 uN) (cn (gB 5 uN) gM))) (aB (dW 6 uN (Gm (eZ (cl D.mV hr (bR (pv 4)))) (jq dY hX mC Kr (pv 3) (cP (pv 4) (pv 5))) (pv 4))) (aO (dg (bZ uw (pv 6) (pv 5) (cx _)) (aO (bJ gQ)) cm)))) (aO (bJ (pv 3)))))),?_}
 have Nj:(ts.map V.str).length=ts.length:=ah _;have Vj:(as.map V.str).length=as.length:=ah _;show{_,9,_,_,9,.inr ⟨_,ht,rfl⟩,_,9,_,_,9,.inr ⟨_,ha,rfl⟩,9,_,9,?_};show dI (λc=>?_) (λc=>?_)
 ·show k1 H (aG.refl H) (Ar λe=>?_);rw[Nj,Vj,e]at c;simp at c
 have le:ts.length=as.length:=by have:¬¬(V.int (ts.length:Int)=V.int (as.length:Int)):=λh=>c (by simpa using h);have:=ki.mp this;injection this with this;lia
 show{_,9,d,gK g,9,.inl hd,λp hp=>?_};have s1:aG H (upd H p (.dK (gK g))):=aD hp _;have jB:upd H p (.dK (gK g)) p=some (.dK (gK g)):=ar;show{_,rfl,_,rfl,t,a,rfl,{_,gh ht s1},{_,gh ha s1},Om (ys:=as.map V.str)
  (λi Z H2=>∃(x4 x5 x6:Aap)(gi:cN),Z=[some (.ref d),some (.ref t),some 68,some (.ref p),x4,x5,x6]/\aG H H2/\H2 p=some (.dK (gK gi))/\(keys gi).Nodup/\gi.length<=g.length+i/\aH.fit bf g ts as=aH.fit bf gi (ts.drop i) (as.drop i))
  (by rw[Nj,Vj,le]) {_,_,_,g,9,s1,jB,nd,au _,9} ?_ ?_ ?_}
 ·ext i Z H2 hi ⟨x4,x5,x6,gi,rfl,s2,_⟩;show{gh ht s2,gh ha s2}
 ·ext i x y q Z H2 hx hy ⟨x4,x5,x6,gi,rfl,s2,iZ,qV,lg2,ef⟩ hq;rw[aZ]at hx hy;let(z,HC,rfl):=bA.mp hx;let(b,QO,rfl):=bA.mp hy;have li:=(aq.mp HC).1;have dz:ts.drop i=z::ts.drop (i+1):=by rw[fG li];rw[av li]at HC;cases HC;rfl
  have db:as.drop i=b::as.drop (i+1):=by
   have Vg:i<as.length:=by lia
   rw[fG Vg];rw[av Vg]at QO;cases QO;rfl
  rw[dz,db]at ef;have s3:aG H2 (upd H2 q (.tup [.str z,.str b])):=aD hq _;have gE:=s3 _ _ iZ;show{q,_,9,ba.of ar,9,_,_,9,_,_,9,9,?_};show{_,9,z,9,hz z (aE HC),λH4 s4=>{_,9,?_}};have rM:=s2.trans (s3.trans s4);have yC:=s4 _ _ gE;have lgk:(gK gi).length=gi.length:=ah _;show dI (λc1=>?_) (λc1=>?_)
  ·have c1:=c1;show{_,9,.inr (.inr (.inl {9,.inl ⟨_,yC⟩})),_,9,_,9,p,Sum.inr z,.str b,gK gi,9,9,yC,by rw[lgk];show br (show gi.length<3000 by lia) (by rw[bW];decide),λv hv=>?_,λhv=>?_}
   ·rw[rD]at hv;let(m,hm,rfl):=bA.mp hv;show{_,9,_,9,9,_,9,?_};show dI (λc2=>?_) (λc2=>?_)
    ·show k1 H4 rM ?_;rw[ef];unfold aH.fit;rw[aL c1,hm];change(if m=b then _ else none)=none;rw[aI (λe=>by rw[e]at c2;simp at c2)]
    ·have e2:m=b:=by have:¬¬(V.str m=V.str b):=λh=>c2 (by simpa using h);have:=ki.mp this;injection this
     show{_,_,_,gi,9,rM,yC,qV,8,?_};rw[ef]
     conv=>lhs;unfold aH.fit
     rw[aL c1,hm];change(if m=b then _ else none)=_;rw[aL e2]
   ·rw[rD]at hv;have hm:=qt.mp hv;rw[Us hm];show{_,9,_,9,9,_,9,?_};show dI (λc2=>?_) (λc2=>?_)
    ·simp at c2
    ·show{_,_,_,gi++[(z,b)],9,λb' u h=>?_,ar,yr qV hm,by rw[aC];change gi.length+1<=_;lia,?_}
     ·rw[aM (bw h hp)];show rM _ _ h
     ·rw[ef]
      conv=>lhs;unfold aH.fit
      rw[aL c1,hm]
  ·have c1:=c1;show{_,9,?_};show{_,9,_,9,9,_,9,?_};show dI (λc2=>?_) (λc2=>?_)
   ·show k1 H4 rM ?_;rw[ef];unfold aH.fit;rw[aI c1,aI (λe=>by rw[e]at c2;simp at c2)]
   ·have e2:z=b:=by have:¬¬(V.str z=V.str b):=λh=>c2 (by simpa using h);have:=ki.mp this;injection this
    show{_,_,_,gi,9,rM,yC,qV,8,?_};rw[ef]
    conv=>lhs;unfold aH.fit
    rw[aI c1,aL e2]
 ·ext Z H2 ⟨x4,x5,x6,gi,rfl,s2,iZ,qV,lg2,ef⟩;rw[Nj,jG (au _),jG ∅]at ef;show{_,9,k2 p gi H2 s2 hp iZ ef}
structure Df(P:dL)(w:i3)(K:Frag)(mg:Aad)(base:i5):Prop extends Du P w K mg base where
 Ou:b6 P w K mg base 3 "fitted" ["given","terms","aim"] (F6 K)
def wm(z:io)(l:Aah):FD (.str z) (l.map V.str)=decide (z∈l):=by
 unfold FD;rw[mH,fu,iD];constructor
 ·ext⟨y,hy,e⟩;rw[dX e]at hy;show bb hy
 ·ext h;show{z,aU h,by change(z==z)=true;simp}
def xl(l:Aah):(l.map V.str).all uC=true:=by rw[Eh];show bt.mpr λ_ _=>9
def jy{zs:Aah}{i:Nat}(h:(zs.map V.str)[i]?=some y):∃z,zs[i]?=some z/\y=V.str z:=by
 rw[aZ]at h;cases e:zs[i]? with
 |none=>rw[e]at h;cases h
 |some z=>rw[e]at h;show{z,9,(bY h).symm}
theorem fK{α β:Type}{R:α->β->Prop}:∀{xs zs:List α}{ys ws:List β},Paired R xs ys->Paired R zs ws->Paired R (xs++zs) (ys++ws)
 |_,_,_,_,.nil,h=>h
 |_,_,_,_,.cons a r,h=>.cons a (fK r h)
def FY(K:Frag)(H:Hp)(v:V)(a:aH.Atom):Prop:=∃b c,v=.ref b/\ba K H b [.str a.1,.ref c]/\ba K H c (a.2.map V.str)
abbrev kP(K:Frag)(H:Hp):Aao->List aH.Atom->Prop:=Paired (FY K H)
def FY.same{H H':Hp}{v:V}{a:aH.Atom}(h:FY K H v a)(s:aG H H'):FY K H' v a:=by let(b,c,e,h1,h2):=h;show{b,c,e,gh h1 s,gh h2 s}
def kP.same{H H':Hp}{ys:Aao}{as:List aH.Atom}(h:kP K H ys as)(s:aG H H'):kP K H' ys as:=by
 induction h with
 |nil=>show .nil
 |cons h _ ih=>show .cons (h.same s) ih
def lJ(a:aH.Atom):Prop:=a.2.length<=100/\PyData.strOk a.1=true/\∀z∈a.2,z.length<=100/\PyData.strOk z=true
inductive J5(K:Frag)(vs:Aao)(H:Hp)(Q:VK)(_x3:XK):Prop
 |mk (pl d:bn) (v:V) (ys:Aao) (p:List aH.Atom) (a:aH.Atom) (g:cN) (_:vs=[.ref pl,v,.ref d]) (_:bg K H pl ys) (_:kP K H ys p) (_:FY K H v a) (_:p.length<=1000) (_:(∀b∈p,lJ b)) (_:lJ a) (_:H d=some (.dK (gK g))) (_:∀H',aG H H'->Q (.bl (aH.AL bf g p a)) H')
def BP:bX ["part","atom","given","free"] ["part","atom","given"] (bH wO):=gg 21
def jr{H H':Hp}{a:bn}{xs:Aao}(q:bg K H a xs)(s:aG H H'):bg K H' a xs:=by
 rcases q with(q|⟨o,q⟩)|q
 ·show .inl (.inl (s _ _ q))
 ·show .inl (.inr {o,s _ _ q})
 ·show .inr q
def Lw{f:bn}{fd:i8}(F:dH K "is_touched" "is_touched" wO f fd)(T:Txt K mg)(D:Du P w K mg base):cH P w K mg base dZ 3 f fd ["part","atom","given"] (J5 K):=by
 show F.ok BP 71;let(pl,d,v,ys,p,a,g,rfl,jV,hp,ha,lp,fp,fa,hd,k):=h;let(ab,ac,rfl,xi,q9):=ha;show{_,(aB (ka (i:=3) BP.nd 9 (Or.inr 9) (mL 9 (cR (fs:=["given"]) (fr:=[2])) (il (bF bU (pv 1) aK (λ_ _=>9))) (λ_ _ _ _=>(PW.pt (Hk (eZ (cl D.mV hr (bR (pv 0)))) (Ez (Uu (UG (nQ hr) (pv 0) (pv 1))))))) (λ_ _ _ _=>(pv 0)))) (aO (bJ (bD (Av 9) 9 T.aak 21 (bR (XU 9 (Ii (fs:=["free"]) (fr:=[3])) (dO (pv 0)) (λ_ _ _ _=>(bD (Ip 9) 9 T.aak 21 (bR (je 9 (cR (fs:=["other"]) (fr:=[0])) (MJ (pv 1)) (λ_ _ _ _=>(jT (Hr) (pv 0) (bF (wj) (pv 1) aK (λ_ _=>9)) 86)))))))))))),?_}
 let(fl,f0,fz):=fa
 let fr:io->Bool:=λt=>bf t&&(aH.get g t).isNone
 show{_,9,_,_,_,_,9,9,xi,9,ac,9,⟨_,q9⟩,mW (xs:=a.2.map V.str) (λi zs H2=>aG H H2/\i<=a.2.length/\zs=((a.2.take i).filter fr).map V.str) (by rw[ah];show bq ∅) {aG.refl H,aJ _,9} ?_ ?_ ?_}
 ·ext i zs H2 hi ⟨s2,mq,rfl⟩;show{gh q9 s2,?_};rw[ah];have:=cS fr (a.2.take i);rw[aV]at this;lia
 ·ext i x zs H2 N hc ⟨s2,mq,rfl⟩ hN;let(z,hz,rfl):=jy hc;have bN:=(aq.mp hz).1;show{_,rfl,z,rfl,by have:=(fz z (aE hz)).1;lia,λH3 s3=>{_,9,?_}};have uO:=s2.trans s3;have fin:∀H4,aG H H4->if fr z=true then N ((((a.2.take i).filter fr).map V.str)++[.str z]) H4 else N (((a.2.take i).filter fr).map V.str) H4:=λH4 s4=>by
   show dI (λc=>?_) (λc=>?_)
   ·show hN _ _ {s4,bN,?_};rw[bh,hz,dQ,aF];change _=_++List.map V.str (List.filter fr [z]);rw[cK,aL c];rfl
   ·show hN _ _ {s4,bN,?_};rw[bh,hz,dQ,aF];change _=_++List.map V.str (List.filter fr [z]);rw[cK,aI c];simp
  show dI (λc=>?_) (λc=>?_)
  ·show{_,9,_,9,d,_,9,kW.k (k:=Sum.inr z) (uO _ _ hd),_,9,?_};have e:(!(iQ (gK g) (Sum.inr z:Key)).isSome)=fr z:=by rw[rD];change _=(bf z&&_);rw[show bf z=true from c];cases aH.get g z<;>rfl
   rw[e];have:=fin H3 uO;cases q:fr z with
   |true=>rw[q]at this;show⟨_,rfl,this⟩
   |false=>rw[q]at this;show this
  ·have q:fr z=false:=by change(bf z&&_)=false;rw[show bf z=false by simpa using c];rfl
   have:=fin H3 uO;rw[q]at this;show this
 ext zs H2 ⟨s2,_,rfl⟩ l hl;rw[ah,aT];generalize hfe:a.2.filter fr=FP;have lfe:FP.length<=100:=by rw[<-hfe];have:=cS fr a.2;lia
 have s3:aG H (upd H2 l (.lst (FP.map V.str))):=s2.trans (aD hl _);have rZ:upd H2 l (.lst (FP.map V.str)) l=some (.lst (FP.map V.str)):=ar;generalize (upd H2 l (.lst (FP.map V.str)))=H3 at s3 rZ⊢;have Ni:=a9 hp;show{_,9,pl,9,{_,jr jV s3},ji (xs:=ys) (λi zs H4=>aG H3 H4/\i<=p.length/\zs=((p.take i).map λo=>FP.any λt=>decide (t∈o.2)).map V.bl) (bq ∅) {aG.refl _,aJ _,9} ?_ ?_ ?_}
 ·ext i zs H4 hi ⟨s4,mq,rfl⟩;show{jr jV (s3.trans s4),?_};rw[ah,ah,aV];lia
 ·ext i x zs H4 N hc ⟨s4,mq,rfl⟩ hN;let(o,ho,hxo):=Paired.at' hp hc;have bN:=(aq.mp ho).1;let(ob,oc,rfl,hob,hoc):=hxo.same (s3.trans s4);let(ol,__,oz):=fp o (aE ho);show{_,9,l,9,{_,bg.of (s4 _ _ rZ)},ji (xs:=FP.map V.str) (λj us H5=>H5=H4/\j<=FP.length/\us=((FP.take j).map λt=>decide (t∈o.2)).map V.bl) (by rw[ah];show bq ∅) {9,aJ _,9} ?_ ?_ ?_}
  ·ext j us H5 hj ⟨rfl,An,rfl⟩;show{bg.of (s4 _ _ rZ),?_};rw[ah,ah,aV];lia
  ·ext j y us H5 M hcy ⟨rfl,An,rfl⟩ hM;let(t,ht,rfl):=jy hcy;have hjt:=(aq.mp ht).1;show{_,9,_,9,_,_,_,_,9,9,hob,9,oc,_,9,.inr hoc,9,xl _,?_};rw[wm];show hM _ _ {9,hjt,?_};rw[bh,ht,aF,aF];rfl
  ·ext us H5 ⟨rfl,_,rfl⟩ q hq;rw[ah,aT];show{q,_,9,bg.of ar,hN _ _ {s4.trans (aD hq _),bN,?_}};rw[bh,ho,aF,aF,mH];rfl
 ·ext zs H4 ⟨s4,_,rfl⟩ q hq;rw[Ni,aT];show{q,_,9,bg.of ar,?_};have e:((p.map λo=>FP.any λt=>decide (t∈o.2)).any id)=aH.AL bf g p a:=by rw[mH,<-hfe];rfl
  rw[e];show k _ (s3.trans (s4.trans (aD hq _)))
structure Dt2(P:dL)(w:i3)(K:Frag)(mg:Aad)(base:i5):Prop extends Df P w K mg base where
 Sf:b6 P w K mg base 3 "is_touched" ["part","atom","given"] (J5 K)
def Er(K:Frag)(H:Hp):Aao->List (List aH.Atom)->Prop:=Paired λv p=>∃l ys,v=.ref l/\H l=some (.lst ys)/\kP K H ys p
def Er.same{H H':Hp}{vs:Aao}{ps:List (List aH.Atom)}(h:Er K H vs ps)(s:aG H H'):Er K H' vs ps:=by
 unfold Er at h⊢
 induction h with
 |nil=>show .nil
 |cons h _ ih=>
  let(l,ys,e,h1,h2):=h;show .cons {l,ys,e,s _ _ h1,h2.same s} ih
inductive Ka(K:Frag)(vs:Aao)(H:Hp)(Q:VK)(_x3:XK):Prop
 |mk (l d:bn) (ys:Aao) (as:List aH.Atom) (g:cN) (_:vs=[.ref l,.ref d]) (_:bg K H l ys) (_:kP K H ys as) (_:as.length<=100) (_:(∀b∈as,lJ b)) (_:H d=some (.dK (gK g))) (_:∀p Ct H',aG H H'->H p=none->H' p=some (.lst Ct)->Er K H' Ct (aH.partsOf bf g as)->Q (.ref p) H')
def kA:bX ["atoms","given","parts","atom","part","beside","earlier"] ["atoms","given"] (bH AV):=gg 21
theorem Bf{n:Nat}:∀{l:List Nat},n∈l->n<=l.sum
 |[],h=>by cases h
 |m::l,h=>by
  rw[j7];rcases aN.mp h with rfl|h
  ·lia
  ·have:=Bf h;lia
def RN{g:cN}(as:List aH.Atom)(fa:∀b∈as,lJ b):∀q∈as.foldl (aH.qb bf g) [],q.length<=as.length/\∀b∈q,lJ b:=λq hq=>by let(__,h2,h3,__):=aH.Gn as [] [] .nil 58 58 58;rw[jY]at h3;show{?_,λb hb=>fa b (by simpa using(h2 b).mpr ⟨q,hq,hb⟩)};rw[<-h3];show Bf (az.mpr ⟨q,hq,rfl⟩)
def Pd{f:bn}{fd:i8}(F:dH K "parts_of" "parts_of" AV f fd)(T:Txt K mg)(D:Dt2 P w K mg base):cH P w K mg base dZ 4 f fd ["atoms","given"] (Ka K):=by
 show F.ok kA 71;let(l,d,ys,as,g,rfl,hl,lS,la,fa,hd,k):=h;show{_,(aB (dW 2 kA (dS gS)) (aB (dM bG 9 (dO (pv 0)) (gB 3 kA) (aB (dW 4 kA (dS (bR (pv 3)))) (aB (dW 5 kA (dS gS)) (aB (dM bG 9 (dO (pv 2)) (gB 6 kA) (aO (dg (eZ (cl D.Sf hr (lQ (pv 6) (pv 3) (pv 1)))) (aO (dW 4 kA (cL rQ (pv 6) (pv 4)))) (aO (gn (jq bO gX gW qW (pv 5) (bR (pv 6)))))))) (aO (dW 2 kA (cL rQ (pv 5) (dS (bR (pv 4)))))))))) (aO (bJ (pv 2))))),?_}
 show{77,λpp QH=>?_};have s0:aG H (upd H pp 70):=aD QH _;have nv:upd H pp 70 pp=some 70:=ar;show{_,rfl,l,rfl,{_,jr hl s0},iC (xs:=ys) (λi Z H2=>∃(x3 x4 x5 x6:Aap)(pq:bn)(vs:Aao),Z=[some (.ref l),some (.ref d),some (.ref pq),x3,x4,x5,x6]/\i<=as.length/\aG H H2/\H pq=none/\H2 pq=some (.lst vs)/\Er K H2 vs ((as.take i).foldl (aH.qb bf g) [])/\vs.length<=i)
  {_,_,_,_,pp,[],9,aJ _,s0,QH,nv,.nil,au _} ?_ ?_ ?_}
 ·ext i Z H2 hi ⟨_,_,_,_,pq,vs,rfl,mq,s2,_⟩;show jr hl s2
 ·ext i x Z H2 hx ⟨_,_,_,_,pq,vs,rfl,mq,s2,QF,NQ,FI,rS⟩;let(a,ha,Dc):=Paired.at' lS hx;have bN:=(aq.mp ha).1;have fa1:=fa a (aE ha);show{_,9,(by change 1<=ca;decide),λp1 jB=>?_};have s3:aG H2 (upd H2 p1 (.lst [x])):=aD jB _;have gE:upd H2 p1 (.lst [x]) p1=some (.lst [x]):=ar;generalize (upd H2 p1 (.lst [x]))=H3 at s3 gE⊢;show{77,λbs Dx=>?_};have s4:aG H3 (upd H3 bs 70):=aD Dx _;have FL:upd H3 bs 70 bs=some 70:=ar;have uO:=s2.trans s3;have ael:=Dc.same uO;have aeo:=FI.same s3;have e0:(as.take (i+1)).foldl (aH.qb bf g) []=aH.qb bf g ((as.take i).foldl (aH.qb bf g) []) a:=by rw[bh,ha,qe];rfl
  have Wc:=RN (g:=g) (as.take i) λb hb=>fa b (kr hb);rw[e0];generalize aib:(as.take i).foldl (aH.qb bf g) []=ps at FI aeo Wc;have Wc:∀q∈ps,q.length<=i/\∀b∈q,lJ b:=λq hq=>{bc (Wc q hq).1 (by rw[aV];lia),(Wc q hq).2};have lps:=a9 FI
  let st:List aH.Atom×List (List aH.Atom)->List aH.Atom->List aH.Atom×List (List aH.Atom):=λacc p=>if aH.AL bf g p a then(p++acc.1,acc.2)else(acc.1,acc.2++[p])
  show{_,rfl,pq,rfl,{_,bg.of (s4 _ _ (s3 _ _ NQ))},iC (xs:=vs) (λj Z H5=>∃(x6:Aap)(p2:bn)(Ki DP:Aao),Z=[some (.ref l),some (.ref d),some (.ref pq),some x,some (.ref p2),some (.ref bs),x6]/\j<=ps.length/\aG H3 H5/\H5 p2=some (.lst Ki)/\p2≠bs/\H5 bs=some (.lst DP)/\
    kP K H3 Ki ((ps.take j).foldl st ([a],[])).1/\Er K H3 DP ((ps.take j).foldl st ([a],[])).2/\DP.length<=j/\((ps.take j).foldl st ([a],[])).1.length<=1+i*j/\(∀b∈((ps.take j).foldl st ([a],[])).1,lJ b)/\∀q∈((ps.take j).foldl st ([a],[])).2,q∈ps)
   {_,p1,[x],[],9,aJ _,s4,s4 _ _ gE,(λe=>by rw[<-e,gE]at Dx;cases Dx),FL,.cons ael .nil,.nil,au _,58,λb hb=>(aA.mp hb▸fa1),λq hq=>(by cases hq)} ?_ ?_ ?_}
  ·ext j Z H5 hj ⟨_,p2,Ki,DP,rfl,An,s5,_⟩;show bg.of (s5 _ _ (s3 _ _ NQ))
  ·ext j y Z H5 hy ⟨_,p2,Ki,DP,rfl,An,s5,QI,n5,Ap,B3,FK,lbv,Vd,QX,sub⟩;let(p,hp,e,QY,rfl,Dj,Ao):=Paired.at' aeo hy;have lT:=(aq.mp hp).1;have mp:=aE hp;have e1:(ps.take (j+1)).foldl st ([a],[])=st ((ps.take j).foldl st ([a],[])) p:=by rw[bh,hp,qe];rfl
   generalize (ps.take j).foldl st ([a],[])=acc at B3 FK Vd QX sub e1;let(lp1,fp1):=Wc p mp;show{_,9,_,9,_,9,e,d,x,QY,p,a,g,9,bg.of (s5 _ _ Dj),Ao.same s5,ael.same s5,8,fp1,fa1,s5 _ _ (uO _ _ hd),λH6 s6=>{_,9,?_}};have s56:=s5.trans s6;show dI (λc=>?_) (λc=>?_)
   ·have c:=c;have e2:st acc p=(p++acc.1,acc.2):=aL c;rw[e1,e2];have le1:=a9 Ao;have le2:=a9 B3;have OP:acc.1.length<=1+100*100:=bc Vd (Cg (Nat.mul_le_mul ∅ ∅) 1);show{_,9,_,9,e,p2,QY,Ki,9,9,s56 _ _ Dj,s6 _ _ QI,by rw[bW];lia,λp3 gE=>?_};show{_,p3,_,DP,9,lT,s56.trans (aD gE _),ar,λe=>?_,?_,fK Ao B3,FK,8,?_,λb hb=>?_,sub}
    ·rw[e,s6 _ _ Ap]at gE;cases gE
    ·rw[aM (bw (s6 _ _ Ap) gE)];show s6 _ _ Ap
    ·change(p++acc.1).length<=_;rw[aC,lN];lia
    ·rcases aS.mp hb with hb|hb
     ·show fp1 b hb
     ·show QX b hb
   ·have c:=c;have e2:st acc p=(acc.1,acc.2++[p]):=aI c;rw[e1,e2];show{_,9,.inl {9,_,bg.of (s6 _ _ Ap)},_,9,bs,DP,_,9,9,s6 _ _ Ap,by rw[bW];lia,?_};show{_,p2,Ki,_,9,lT,λb u h=>?_,?_,n5,ar,B3,fK FK (.cons ⟨e,QY,rfl,Dj,Ao⟩ .nil),aC▸gY lbv,?_,QX,λq hq=>?_}
    ·rw[aM (bw h Dx)];show s56 _ _ h
    ·rw[aM n5];show s6 _ _ QI
    ·change acc.1.length<=_;rw[lN];lia
    ·rcases aS.mp hq with hq|hq
     ·show sub q hq
     ·rw[aA.mp hq];show mp
  ·ext Z H5 ⟨_,p2,Ki,DP,rfl,_,s5,QI,n5,Ap,B3,FK,lbv,Vd,QX,sub⟩;rw[lps,aT]at B3 FK Vd QX sub;have es:ps.foldl st ([a],[])=aH.step bf g a ps:=by
    cases ps with
    |nil=>rfl
    |cons q r=>rfl
   rw[es]at B3 FK Vd QX sub;show{_,9,_,9,(by change 1<=ca;decide),λq1 NR=>?_};have s6:aG H5 (upd H5 q1 (.lst [.ref p2])):=aD NR _;have hq6:upd H5 q1 (.lst [.ref p2]) q1=some (.lst [.ref p2]):=ar;generalize (upd H5 q1 (.lst [.ref p2]))=H6 at s6 hq6⊢;show{bs,q1,DP,_,9,9,s6 _ _ Ap,hq6,by rw[bW,dC];lia,λr hr=>?_};have s7:aG H6 (upd H6 r (.lst (DP++[.ref p2]))):=aD hr _;have s37:=s5.trans (s6.trans s7);have r0:H r=none:=by
    cases e:H r with
    |none=>rfl
    |some u=>
     have:=s5.trans s6 _ _ (uO _ _ e);rw[hr]at this;cases this
   show{_,_,_,_,r,_,9,bN,uO.trans s37,r0,ar,?_,?_}
   ·unfold aH.qb;show fK (Er.same FK s37) (.cons {p2,Ki,9,s7 _ _ (s6 _ _ QI),kP.same B3 s37} .nil)
   ·rw[aC,dC];lia
 ·ext Z H2 ⟨_,_,_,_,pq,vs,rfl,mq,s2,QF,NQ,FI,_⟩;rw[(a9 lS),aT]at FI;show{_,9,k pq vs H2 s2 QF NQ FI}
variable{C:bn}
def cu(H H':Hp):Prop:=∀b xs,Rd H b (.tup xs)->Rd H' b (.tup xs)
def cu.refl(H:Hp):cu H H:=λ_ _ h=>h
def cu.trans(a:cu H H1)(b:cu H1 H2):cu H H2:=λx xs h=>b x xs (a x xs h)
def cu.same(s:aG H H'):cu H H':=λb xs h=>by
 rcases h with h|⟨o,h⟩
 ·show .inl (s _ _ h)
 ·show .inr {o,s _ _ h}
def v9(H:Hp)(a:bn):Prop:=∀xs,¬Rd H a (.tup xs)
def cu.upd(h:v9 H a):cu H (upd H a o):=λb xs q=>by
 have hb:b≠a:=λe=>h xs (e▸q);rcases q with q|⟨o',q⟩
 ·show .inl (by rw[aM hb];show q)
 ·show .inr {o',by rw[aM hb];show q}
def RX{H:Hp}{a:bn}(h:H a=none):v9 H a:=λxs q=>by rcases q with q|⟨o,q⟩<;>rw[h]at q<;>cases q
def UZ(h:H a=some (.ext φ)):v9 H a:=λxs q=>by rcases q with q|⟨o,q⟩<;>rw[h]at q<;>cases q
def tR(h:H a=some (.dK l)):v9 H a:=λxs q=>by rcases q with q|⟨o,q⟩<;>rw[h]at q<;>cases q
def C1(h:H a=some (.ins C dx l)):v9 H a:=λxs q=>by rcases q with q|⟨o,q⟩<;>rw[h]at q<;>cases q
def dh(q:ba K H a xs)(t:cu H H'):ba K H' a xs:=by
 rcases q with q|q
 ·show .inl (t _ _ q)
 ·show .inr q
mutual
theorem Z9(t:cu H H'):∀(k:NK)(v:V),NV K H k v->NV K H' k v
 | .b7,v,h=>by rw[NV]at h⊢;show h
 | .key k,v,h=>by rw[NV]at h⊢;show h
 | .tup ks,v,h=>by rw[NV]at h⊢;let(a,xs,e,hq,hs):=h;show{a,xs,e,dh hq t,UU t ks xs hs}
theorem UU(t:cu H H'):∀(ks:List NK)(vs:Aao),sG K H ks vs->sG K H' ks vs
 |[],vs,h=>by rw[sG]at h⊢;show h
 |k::ks,vs,h=>by rw[sG]at h⊢;let(x,r,e,h1,h2):=h;show{x,r,e,Z9 t k x h1,UU t ks r h2}
end
def pf{H H':Hp}{k:NK}{a:bn}(h:iS K H k a)(t:cu H H'):iS K H' k a:={Z9 t _ _ h.1,h.2}
def _root_.L2.iL.tp{H H':Hp}{d:bn}{kvs:List 74}(h:iL P w K H d kvs)(t:cu H H')(e:H' d=H d):iL P w K H' d kvs:={e▸h.1,λp hp=>pf (h.2 p hp) t}
def _root_.L2.iL.some{H:Hp}{d:bn}{kvs:List 74}(h:iL P w K H d kvs):∃u,H d=some u:=by rcases h.1 with h|⟨_,h⟩<;>show⟨_,h⟩
def _root_.L2.iL.o8{H:Hp}{d:bn}{kvs:List 74}(h:iL P w K H d kvs):v9 H d:=by
 rcases h.1 with h|⟨_,h⟩
 ·show UZ h
 ·show tR h
def _root_.L2.iL.put{H:Hp}{d b:bn}{kvs:List 74}{k:NK}{v:V}(h:iL P w K H d kvs)(hk:iS K H k b):iL P w K (upd H d (.ext (DN P w d (putN kvs k b v)))) d (putN kvs k b v):=by
 have t:cu H (upd H d (.ext (DN P w d (putN kvs k b v)))):=cu.upd h.o8;show{.inl ar,λp hp=>?_};rcases Ng hp with⟨q,hq,e1,e2⟩|⟨e1,e2⟩
 ·rw[e1,e2];show pf (h.2 q hq) t
 ·rw[e1,e2];show pf hk t
def EN{H:Hp}{p:bn}(h:H p=Option.some 69):iL P w K H p []:={.inr ⟨rfl,h⟩,λ_ hp=>by cases hp}
def FY.tp{H H':Hp}{v:V}{a:aH.Atom}(h:FY K H v a)(t:cu H H'):FY K H' v a:=by let(b,c,e,h1,h2):=h;show{b,c,e,dh h1 t,dh h2 t}
def kP.tp{H H':Hp}{ys:Aao}{as:List aH.Atom}(h:kP K H ys as)(t:cu H H'):kP K H' ys as:=by
 induction h with
 |nil=>show .nil
 |cons h _ ih=>show .cons (h.tp t) ih
abbrev Rl:=NK->Aah->Prop
structure gm(P:dL)(w:i3)(K:Frag)(H0 H:Hp)(A:bn)(kvs:List 74)(R:Rl)(n:Nat):Prop where
 at_:iL P w K H A kvs
 len:kvs.length<=n
 own:H0 A=none
 vals:∀k v,valN kvs k=some v->∃d inner,v=.ref d/\d≠A/\H0 d=none/\iL P w K H d inner/\inner.length<=n/\(inner.map (·.1)).Nodup/\(∀p∈inner,p.2.2=.bl true)/\∀j,(∃p∈inner,p.1=j)↔∃zs,R k zs/\j=jh zs
 no:∀k,valN kvs k=none->∀zs,¬R k zs
 inj:∀k k' d,valN kvs k=some (.ref d)->valN kvs k'=some (.ref d)->k=k'
def gm.congr{H0 H:Hp}{A:bn}{kvs:List 74}{R R':Rl}{n:Nat}(x:gm P w K H0 H A kvs R n)(e:∀k zs,R k zs↔R' k zs):gm P w K H0 H A kvs R' n:=
 {x.at_,x.len,x.own,λk v h=>by let(d,inner,h1,h2,h3,h4,h5,h6,h7,h8):=x.vals k v h;show{d,inner,h1,h2,h3,h4,h5,h6,h7,λj=>(h8 j).trans {λ⟨zs,a,b⟩=>{zs,(e _ _).mp a,b},λ⟨zs,a,b⟩=>{zs,(e _ _).mpr a,b}}},λk h zs q=>x.no k h zs ((e _ _).mpr q),x.inj}
def gm.mono{H0 H:Hp}{A:bn}{kvs:List 74}{R:Rl}{n m:Nat}(x:gm P w K H0 H A kvs R n)(e:n<=m):gm P w K H0 H A kvs R m:=
 {x.at_,bc x.len e,x.own,λk v h=>by let(d,inner,h1,h2,h3,h4,h5,h6,h7,h8):=x.vals k v h;show{d,inner,h1,h2,h3,h4,bc h5 e,h6,h7,h8},x.no,x.inj}
def gm.move{H0 H H':Hp}{A:bn}{kvs:List 74}{R:Rl}{n:Nat}(x:gm P w K H0 H A kvs R n)(t:cu H H')(e:∀b,H0 b=none->(b=A\/∃k,valN kvs k=some (.ref b))->H' b=H b):gm P w K H0 H' A kvs R n:=
 {x.at_.tp t (e A x.own (.inl 9)),x.len,x.own,λk v h=>by let(d,inner,h1,h2,h3,h4,h5,h6,h7,h8):=x.vals k v h;show{d,inner,h1,h2,h3,h4.tp t (e d h3 (.inr {k,by rw[h,h1]})),h5,h6,h7,h8},x.no,x.inj}
def gm.adT{H0 H:Hp}{A b p:bn}{kvs:List 74}{R:Rl}{n:Nat}{k:NK}(x:gm P w K H0 H A kvs R n)(hn:valN kvs k=none)(hk:iS K H k b)(hp:H p=some 69)(h0:H0 p=none)(pA:p≠A)(pd:∀k' d,valN kvs k'=some (.ref d)->d≠p):
  gm P w K H0 (upd H A 91) A (putN kvs k b (.ref p)) R (n+1):=by
 have t:cu H (upd H A 91):=cu.upd x.at_.o8;show{x.at_.put hk,bc wR (gY x.len),x.own,λk' v h=>?_,λk' h=>?_,λk1 k2 d h1 h2=>?_}
 ·rw[uH]at h;by_cases c:k'=k
  ·rw[aL c]at h;cases h;show{p,[],9,pA,h0,(EN hp).tp t (by rw[aM pA]),aJ _,58,λq hq=>(by cases hq),λj=>{λ⟨q,hq,_⟩=>(by cases hq),λ⟨zs,hz,_⟩=>absurd (c▸hz) (x.no k hn zs)}}
  ·rw[aI c]at h;let(d,inner,h1,h2,h3,h4,h5,h6,h7,h8):=x.vals k' v h;show{d,inner,h1,h2,h3,h4.tp t (by rw[aM h2]),lY h5,h6,h7,h8}
 ·rw[uH]at h;by_cases c:k'=k
  ·rw[aL c]at h;cases h
  ·rw[aI c]at h;show x.no k' h
 ·rw[uH]at h1 h2;by_cases c1:k1=k
  ·by_cases c2:k2=k
   ·rw[c1,c2]
   ·rw[aL c1]at h1;rw[aI c2]at h2;cases h1;show absurd rfl (pd k2 _ h2)
  ·by_cases c2:k2=k
   ·rw[aI c1]at h1;rw[aL c2]at h2;cases h2;show absurd rfl (pd k1 _ h1)
   ·rw[aI c1]at h1;rw[aI c2]at h2;show x.inj k1 k2 d h1 h2
def gm.put{H0 H:Hp}{A c d:bn}{kvs:List 74}{R:Rl}{n:Nat}{k:NK}{zs:Aah}(x:gm P w K H0 H A kvs R n)(hv:valN kvs k=some (.ref d))(hc:iS K H (jh zs) c):
  ∃inner,iL P w K H d inner/\inner.length<=n/\H0 d=none/\d≠A/\gm P w K H0 (upd H d (.ext (DN P w d (putN inner (jh zs) c (.bl true))))) A kvs (λk' z'=>R k' z'\/(k'=k/\z'=zs)) (n+1):=by
 let(d',inner,e,h2,h3,h4,h5,h6,h7,h8):=x.vals k _ hv;cases e;have t:cu H (upd H d (.ext (DN P w d (putN inner (jh zs) c (.bl true))))):=cu.upd h4.o8;show{inner,h4,h5,h3,h2,x.at_.tp t (by rw[aM (cQ h2)]),lY x.len,x.own,λk' v h=>?_,λk' h JU q=>?_,x.inj}
 ·by_cases ck:k'=k
  ·subst ck;rw[hv]at h;cases h;show{d,_,9,h2,h3,h4.put hc,bc wR (gY h5),RW h6,λq hq=>?_,λj=>?_}
   ·unfold putN at hq;split at hq
    ·let(q0,QF,rfl):=az.mp hq;split
     ·rfl
     ·show h7 q0 QF
    ·rcases aS.mp hq with hq|hq
     ·show h7 q hq
     ·rw[aA.mp hq]
   ·rw[Vo,h8 j];constructor
    ·ext(rfl|⟨z',a,b⟩)
     ·show{zs,.inr ⟨rfl,rfl⟩,9}
     ·show{z',.inl a,b}
    ·ext⟨z',a|⟨_,a⟩,b⟩
     ·show .inr ⟨z',a,b⟩
     ·show .inl (by rw[b,a])
  ·let(d1,aea,e1,g2,g3,g4,g5,g6,g7,g8):=x.vals k' v h;have nd:d1≠d:=λe=>ck (x.inj k' k d (by rw[h,e1,e]) hv);show{d1,aea,e1,g2,g3,g4.tp t (by rw[aM nd]),lY g5,g6,g7,λj=>(g8 j).trans {λ⟨JU,a,b⟩=>{JU,.inl a,b},λ⟨JU,a,b⟩=>{JU,a.elim id λq=>absurd q.1 ck,b}}}
 ·rcases q with q|⟨q,_⟩
  ·show x.no k' h JU q
  ·rw[q,hv]at h;cases h
def tq(H H':Hp):Prop:=∀b C dx fs,H b=some (.ins C dx fs)->H' b=some (.ins C dx fs)
def tq.refl(H:Hp):tq H H:=λ_ _ _ _ h=>h
def tq.trans{H H1 H2:Hp}(a:tq H H1)(b:tq H1 H2):tq H H2:=λx c d f h=>b x c d f (a x c d f h)
def tq.same{H H':Hp}(s:aG H H'):tq H H':=λb _ _ _ h=>s _ _ h
def tq.dict{H:Hp}{d:bn}{kvs:List 74}{o:HO}(h:iL P w K H d kvs):tq H (upd H d o):=λb c dx fs q=>by
 have:b≠d:=λe=>by rw[e]at q;rcases h.1 with h|⟨_,h⟩<;>rw[h]at q<;>cases q
 rw[aM this];show q
structure IB(P:dL)(w:i3)(K:Frag)(H0 H H':Hp)(A:bn)(R:Rl)(n:Nat):Prop where
 sm:aG H0 H'
 tp:cu H H'
 is:tq H H'
 ai:∃kvs,gm P w K H0 H' A kvs R n
def gm.same{H0 H H':Hp}{A:bn}{kvs:List 74}{R:Rl}{n:Nat}(x:gm P w K H0 H A kvs R n)(s:aG H H'):gm P w K H0 H' A kvs R n:=x.move (cu.same s) λq _ h=>by
 rcases h with rfl|⟨k',h⟩
 ·let(u,hu):=x.at_.some;rw[hu,s _ _ hu]
 ·let(d',__,e',__,__,h4,__):=x.vals k' _ h;cases e';let(u,hu):=h4.some;rw[hu,s _ _ hu]
def acx{H0 H:Hp}{A b c p:bn}{kvs:List 74}{R R':Rl}{n:Nat}{k:NK}{zs:Aah}{Nx:Hp->Prop}(x:gm P w K H0 H A kvs R n)(sm:aG H0 H)(hk:iS K H k b)(hc:iS K H (jh zs) c)(hn:n+2<10000000)(hp:H p=some 69)(h0:H0 p=none)(pA:p≠A)(pd:∀k' d,valN kvs k'=some (.ref d)->d≠p)
  (hR:∀k' z',R' k' z'↔R k' z'\/(k'=k/\z'=zs)) (nx:∀H',IB P w K H0 H H' A R' (n+2)->Nx H'):
  (∀v,valN kvs k=some v->∃a inner,v=.ref a/\iL P w K H a inner/\iS K H (jh zs) c/\inner.length<10000000/\Nx (upd H a (.ext (DN P w a (putN inner (jh zs) c (.bl true))))))/\
  (valN kvs k=none->∃inner,iL P w K (upd H A 91) p inner/\iS K (upd H A 91) (jh zs) c/\inner.length<10000000/\
   Nx (upd (upd H A 91) p (.ext (DN P w p (putN inner (jh zs) c (.bl true)))))):=by
 have own:∀{d:bn}{o:HO}{H1:Hp},aG H0 H1->H0 d=none->aG H0 (upd H1 d o):=λ{d o H1} s h q u e=>by rw[aM (bw e h)];show s _ _ e
 show{λv hv=>?_,λhv=>?_}
 ·let(a,__,rfl,__):=x.vals k v hv;let(inner,g1,g2,g3,g4,g5):=x.put hv hc;show{a,inner,9,g1,hc,8,nx _ {own sm g3,cu.upd g1.o8,tq.dict g1,kvs,(g5.congr λk' z'=>(hR k' z').symm).mono ∅}}
 ·have y:=x.adT hv hk hp h0 pA pd;have t1:cu H (upd H A 91):=cu.upd x.at_.o8;have QN:=pf hc t1;let(inner,g1,g2,g3,g4,g5):=y.put (by rw[uH,aL rfl]) QN;show{inner,g1,QN,8,nx _ {own (own sm x.own) g3,t1.trans (cu.upd g1.o8),(tq.dict x.at_).trans (tq.dict g1),_,g5.congr λk' z'=>(hR k' z').symm}}
def Ur{H0 H H2:Hp}{A b c p:bn}{xs:Aao}{kvs:List 74}{R R':Rl}{n:Nat}{k:NK}{zs:Aah}{Nx:Hp->Prop}(lP:aG H0 H2)(LW:cu H H2)(yz:tq H H2)(x:gm P w K H0 H2 A kvs R n)(hb:H2 b=none)(hp:upd H2 b (.tup xs) p=none)
  (zp:∀H3,ba K H3 b xs->iS K H3 k b) (hc:iS K H2 (jh zs) c) (hn:n+2<10000000) (hR:∀k' z',R' k' z'↔R k' z'\/(k'=k/\z'=zs)) (nx:∀H',IB P w K H0 H H' A R' (n+2)->Nx H'):
  iL P w K (upd (upd H2 b (.tup xs)) p 69) A kvs/\iS K (upd (upd H2 b (.tup xs)) p 69) k b/\kvs.length<10000000/\
  (∀v,valN kvs k=some v->∃a inner,v=.ref a/\iL P w K (upd (upd H2 b (.tup xs)) p 69) a inner/\iS K (upd (upd H2 b (.tup xs)) p 69) (jh zs) c/\inner.length<10000000/\Nx (upd (upd (upd H2 b (.tup xs)) p 69) a (.ext (DN P w a (putN inner (jh zs) c (.bl true))))))/\
  (valN kvs k=none->∃inner,iL P w K (upd (upd (upd H2 b (.tup xs)) p 69) A 91) p inner/\iS K (upd (upd (upd H2 b (.tup xs)) p 69) A 91) (jh zs) c/\inner.length<10000000/\
   Nx (upd (upd (upd (upd H2 b (.tup xs)) p 69) A 91) p (.ext (DN P w p (putN inner (jh zs) c (.bl true)))))):=by
 have s3:aG H2 (upd H2 b (.tup xs)):=aD hb _;have s4:aG (upd H2 b (.tup xs)) (upd (upd H2 b (.tup xs)) p 69):=aD hp _;have rM:=s3.trans s4;have FL:ba K (upd (upd H2 b (.tup xs)) p 69) b xs:=ba.of (s4 _ _ ar);have yC:upd (upd H2 b (.tup xs)) p 69 p=some 69:=ar;have p2:H2 p=none:=by
  cases e:H2 p with
  |none=>rfl
  |some u=>rw[s3 _ _ e]at hp;cases hp
 have p0:H0 p=none:=by
  cases e:H0 p with
  |none=>rfl
  |some u=>rw[lP _ _ e]at p2;cases p2
 let(uA,hA):=x.at_.some;have pd:∀k' d,valN kvs k'=some (.ref d)->d≠p:=λk' d h e=>by let(d',__,e',__,__,h4,__):=x.vals k' _ h;cases e';let(u,hu):=h4.some;rw[e,p2]at hu;cases hu
 have x4:=x.move (cu.same rM) λq _ h=>by
  rcases h with rfl|⟨k',h⟩
  ·rw[hA,rM _ _ hA]
  ·let(d',__,e',__,__,h4,__):=x.vals k' _ h;cases e';let(u,hu):=h4.some;rw[hu,rM _ _ hu]
 let(q1,q2):=acx x4 (lP.trans rM) (zp _ FL) (pf hc (cu.same rM)) hn yC p0 (λe=>by rw[e,hA]at p2;cases p2) pd hR λH' pt=>nx H' {pt.sm,LW.trans ((cu.same rM).trans pt.tp),yz.trans ((tq.same rM).trans pt.is),pt.ai};show{x4.at_,zp _ FL,fY x4.len ∅,q1,q2}
def Hc(h:∀R:L2.St->Hp->Prop,(∀σ' H',u D σ' H'->R σ' H')->t {D with nx:=R} Z H):acR t u D Z H:=h (u D) λ_ _ x=>x
def Hit(k:NK)(a:aH.Atom):Prop:=k=Ab a.1 a.2.length\/∃i t,a.2[i]?=some t/\k=yu a.1 a.2.length i t
def hits(L:List aH.Atom):Rl:=λk zs=>∃a∈L,Hit k a/\zs=a.2
structure Own(K:Frag)(C:bn):Prop where
 c:Em K C
 DZ:u0 K C "aims"
 Rk:u0 K C "vain"
inductive ZO(P:dL)(w:i3)(K:Frag)(C:bn)(vs:Aao)(H:Hp)(Q:VK)(_x3:XK):Prop
 |mk (self t dx A:bn) (fs:List (io×V)) (ys:Aao) (L M:List aH.Atom) (kvs:List (NK×bn×V)) (H0:Hp) (n:Nat) (_:vs=[.ref self,.ref t]) (_:H self=some (.ins C dx fs)) (_:fs.lookup ("aims":io)=some (.ref A)) (_:fs.length<1000) (_:H0 self=none) (_:ba K H t ys) (_:kP K H ys M) (_:M.length<=100) (_:(∀a∈M,lJ a)) (_:aG H0 H) (_:gm P w K H0 H A kvs (hits L) n) (_:n<=1000000) (_:∀H' Nw B,aG H0 H'->cu H H'->H0 B=none->H' self=some (.ins C dx (jv "vain" (.ref B) fs))->H' B=some (.dK [])->gm P w K H0 H' A Nw (hits (L++M)) (n+300*M.length)->A≠B->(∀k d,valN Nw k=some (.ref d)->d≠B)->Q .b7 H')
def wH:bX ["self","atoms","name","terms","place","term"] ["self","atoms"] (bH IU):=gg 21
def adK{f:bn}{fd:i8}(F:dH K "add" "MapSearch.add" IU f fd)(T:Txt K mg)(O:Own K C):cH P w K mg base dZ 2 f fd ["self","atoms"] (ZO P w K C):=by
 show F.ok wH 71;let(self,t,dx,A,fs,ys,L,M,kvs,H0,n,rfl,hs,lk,lf,V7,ht,lS,lM,fM,sm,ax,hn,k):=h;have hN:=Sy hr;show{_,(aB (dM bG 9 (il (pv 1)) (kG 9 (cn (gB 2 wH) (cn (gB 3 wH) gM))) (aB (Gk hN (Hn hN (zY (pv 0) 9) (iq (cP (pv 2) (bD cJ 9 T.dR bC (bR (pv 3))))) iY ⟨rfl,rfl,rfl,rfl⟩) (pv 3) fJ 9) (aO (dM bG 9 (ML 9 T.Fv (bR (pv 3))) (kG 9 (cn (gB 4 wH) (cn (gB 5 wH) gM))) (aO (Gk hN (Hn hN (zY (pv 0) 9) (iq (jf (pv 2) (lQ (bD cJ 9 T.dR bC (bR (pv 3))) (pv 4) (pv 5)))) iY ⟨rfl,rfl,rfl,rfl⟩) (pv 3) fJ 9)))))) (aO (ME (pv 0) iY 9))),?_}
 show{_,9,t,9,⟨_,ht⟩,tY (xs:=ys) (λi Z H2=>∃x2 x3 x4 x5:Aap,Z=[some (.ref self),some (.ref t),x2,x3,x4,x5]/\i<=M.length/\IB P w K H0 H H2 A (hits (L++M.take i)) (n+300*i)) {_,_,_,_,9,aJ _,sm,cu.refl H,tq.refl H,kvs,by simpa using ax} ?_ ?_ ?_}
 ·ext i Z H2 hi ⟨_,_,_,_,rfl,_,pt⟩;show dh ht pt.tp
 ·ext i x Z H2 hx ⟨_,_,_,_,rfl,hi,lP,LW,yz,Vm,OS⟩;let(a,ha,Dc):=Paired.at' lS hx;have bN:=(aq.mp ha).1;let(ab,ac,rfl,ahB,Ob):=Dc;have q9:=dh Ob LW;let(fl,f0,fz):=fM a (aE ha);show{ab,_,9,(dh ahB LW),9,_,_,9,_,_,9,9,?_};have lt:(a.2.map V.str).length=a.2.length:=ah _
  let Rj:Nat->Rl:=λj k' z'=>hits (L++M.take i) k' z'\/(z'=a.2/\(k'=Ab a.1 a.2.length\/∃i' t',i'<j/\a.2[i']?=some t'/\k'=yu a.1 a.2.length i' t'))
  show Hc λNX hNX=>?_;have go:∀(x4 x5:Aap)(H3:Hp),IB P w K H0 H H3 A (Rj 0) (n+300*i+2)->NX [some (.ref self),some (.ref t),some (.str a.1),some (.ref ac),x4,x5] H3:=λx4 x5 H3 pt=>by
   show hNX _ _ ?_;show{_,9,ac,9,{_,(dh Ob pt.tp)},Wd (xs:=a.2.map V.str) (λj Z H4=>∃x4 x5:Aap,Z=[some (.ref self),some (.ref t),some (.str a.1),some (.ref ac),x4,x5]/\j<=a.2.length/\IB P w K H0 H H4 A (Rj j) (n+300*i+2+2*j)) {_,_,9,aJ _,pt} ?_ ?_ ?_}
   ·ext j Z H4 hj ⟨_,_,rfl,_,pt4⟩;show dh Ob pt4.tp
   ·ext j y q Z H4 hy ⟨_,_,rfl,hj,qj,tp4,is4,kv4,ax4⟩ hq;let(z,hz,rfl):=jy hy;have lT:=(aq.mp hz).1;have s5:aG H4 (upd H4 q (.tup [.int j,.str z])):=aD hq _;show{q,_,9,ba.of ar,9,_,_,9,_,_,9,9,?_};have wD:=qj.trans s5;have tp5:=tp4.trans (cu.same s5);have is5:=is4.trans (tq.same s5);have ax5:=ax4.same s5;show{_,9,self,C,dx,fs,_,9,is5 _ _ _ _ hs,O.c,O.DZ,lk,A,kv4,9,ax5.at_,_,9,_,9,_,_,9,.inr {_,(dh Ob tp5),9},_,9,_,9,(by change 4<=ca;decide),λb hb p hp=>?_};rw[lt]at hp⊢;have hR:∀k' z',Rj (j+1) k' z'↔Rj j k' z'\/(k'=yu a.1 a.2.length j z/\z'=a.2):=λk' z'=>by
     constructor
     ·ext(h|⟨e,h|⟨i',t',h1,h2,h3⟩⟩)
      ·show .inl (.inl h)
      ·show .inl (.inr {e,.inl h})
      ·rcases Nat.lt_or_eq_of_le (Nat.lt_succ_iff.mp h1)with h1|rfl
       ·show .inl (.inr {e,.inr ⟨i',t',h1,h2,h3⟩})
       ·rw[hz]at h2;cases h2;show .inr ⟨h3,e⟩
     ·ext((h|⟨e,h|⟨i',t',h1,h2,h3⟩⟩)|⟨h3,e⟩)
      ·show .inl h
      ·show .inr {e,.inl h}
      ·show .inr {e,.inr {i',t',eP h1,h2,h3}}
      ·show .inr {e,.inr {j,z,dJ _,hz,h3}}
    let(q1,q2,q3,q4,q5):=Ur wD tp5 is5 ax5 hb hp (λH3 h=>Nz h f0 (fz z (aE hz)).2) (pf (Ny Ob λz hz=>(fz z hz).2) tp5) ∅ hR (λH' pt=>pt);show{b,kv4,yu a.1 a.2.length j z,9,q1,q2,q3,λv hv=>?_,λhv=>?_}
    ·let(a',inner,rfl,r1,r2,r3,r4):=q4 v hv;show{_,9,a',ac,inner,jh a.2,9,9,r1,r2,r3,_,_,9,lT,r4}
    ·let(inner,r1,r2,r3,r4):=q5 hv;show{_,9,p,ac,inner,jh a.2,9,9,r1,r2,r3,_,_,9,lT,r4}
   ·ext Z H4 ⟨_,_,rfl,_,qj,tp4,is4,kv4,ax4⟩;rw[lt]at ax4;show{_,_,_,_,9,bN,qj,tp4,is4,kv4,(ax4.congr λk' z'=>?_).mono ∅};rw[bh,ha];constructor
    ·ext(⟨b,hb,h⟩|⟨e,h⟩)
     ·show{b,by rw[<-dN];show bu _ hb,h}
     ·show{a,58,?_,e};rcases h with h|⟨i',t',_,h2,h3⟩
      ·show .inl h
      ·show .inr ⟨i',t',h2,h3⟩
    ·ext⟨b,hb,h,e⟩;rw[<-dN]at hb;rcases aS.mp hb with hb|hb
     ·show .inl ⟨b,hb,h,e⟩
     ·have js:b=a:=by simpa using hb
      subst js;show .inr {e,?_};rcases h with h|⟨i',t',h2,h3⟩
      ·show .inl h
      ·show .inr {i',t',(aq.mp h2).1,h2,h3}
  show{_,9,self,C,dx,fs,_,9,(yz _ _ _ _ hs),O.c,O.DZ,lk,A,Vm,9,OS.at_,_,9,_,9,_,_,9,.inr ⟨_,q9,rfl⟩,83,λb hb p hp=>?_};rw[lt]at hp⊢;let(q1,q2,q3,q4,q5):=Ur lP LW yz OS hb hp (λH3 h=>NA h f0) (Ny q9 λz hz=>(fz z hz).2) ∅ (λk' z'=>{λh=>h.imp id λ⟨e1,e2⟩=>{e2.elim id λ⟨i',_,h,_⟩=>absurd h (eC _),e1},λh=>h.imp id λ⟨e1,e2⟩=>{e2,.inl e1}}) (λH' pt=>go _ _ H' pt);show{b,Vm,Ab a.1 a.2.length,9,q1,q2,q3,λv hv=>?_,λhv=>?_}
  ·let(a',inner,rfl,r1,r2,r3,r4):=q4 v hv;show{_,9,a',ac,inner,jh a.2,9,9,r1,r2,r3,r4}
  ·let(inner,r1,r2,r3,r4):=q5 hv;show{_,9,p,ac,inner,jh a.2,9,9,r1,r2,r3,r4}
 ·ext Z H2 ⟨_,_,_,_,rfl,_,lP,LW,yz,Vm,OS⟩;have kJ:=yz _ _ _ _ hs;rw[(a9 lS),aT]at OS
  refineλB hB=>?_
  have s3:aG H2 (upd H2 B 69):=aD hB _;have hB3:upd H2 B 69 B=some 69:=ar;have B0:H0 B=none:=by
   cases e:H0 B with
   |none=>rfl
   |some u=>rw[lP _ _ e]at hB;cases hB
  have AB:A≠B:=λe=>by let(u,hu):=OS.at_.some;rw[e,hB]at hu;cases hu
  have dB:∀k d,valN Vm k=some (.ref d)->d≠B:=λk' d h e=>by let(d',__,e',__,__,h4,__):=OS.vals k' _ h;cases e';let(u,hu):=h4.some;rw[e,hB]at hu;cases hu
  have ax3:=OS.same s3;generalize (upd H2 B 69)=H3 at s3 hB3 ax3⊢;show{_,9,self,C,dx,fs,9,s3 _ _ kJ,O.c,O.Rk,lf,?_};have t4:cu H3 (upd H3 self (.ins C dx (jv "vain" (.ref B) fs))):=cu.upd (C1 (s3 _ _ kJ));have nd:∀b Nw,iL P w K H3 b Nw->b≠self:=λb Nw h e=>by have HG:=s3 _ _ kJ;rw[<-e]at HG;rcases h.1 with h|⟨_,h⟩<;>rw[h]at HG<;>cases HG
  show k _ Vm B (λb u h=>?_) (LW.trans ((cu.same s3).trans t4)) B0 ar ?_ (ax3.move t4 λb _ h=>?_) AB dB
  ·rw[aM (bw h V7)];show s3 _ _ (lP _ _ h)
  ·rw[aM (λe=>by rw[e,s3 _ _ kJ]at hB3;cases hB3)];show hB3
  ·show aM ?_;rcases h with rfl|⟨k',h⟩
   ·show nd _ _ ax3.at_
   ·let(d',__,e',__,__,h4,__):=ax3.vals k' _ h;cases e';show nd _ _ h4
structure Da(P:dL)(w:i3)(K:Frag)(mg:Aad)(base:i5)(C:bn):Prop where
 R8:sH P w K mg base C 2 "add" ["self","atoms"] (ZO P w K C)
inductive Ry(P:dL)(w:i3)(K:Frag)(C:bn)(vs:Aao)(H:Hp)(Q:VK)(_x3:XK):Prop
 |mk (self t dx:bn) (ys:Aao) (L:List aH.Atom) (H0:Hp) (_:vs=[.ref self,.ref t]) (_:H self=some (.ins C dx [])) (_:H0 self=none) (_:ba K H t ys) (_:kP K H ys L) (_:L.length<=100) (_:(∀a∈L,lJ a)) (_:aG H0 H) (_:∀H' A B kvs,aG H0 H'->H0 A=none->H0 B=none->H' self=some (.ins C dx [("aims",.ref A),("vain",.ref B)])->H' B=some (.dK [])->gm P w K H0 H' A kvs (hits L) (300*L.length)->A≠B->(∀k d,valN kvs k=some (.ref d)->d≠B)->Q .b7 H')
def Lp:bX ["self","atoms"] ["self","atoms"] (bH wJ):=gg 21
def abA{f:bn}{fd:i8}(F:dH K "__init__" "MapSearch.__init__" wJ f fd)(T:Txt K mg)(O:Own K C)(D:Da P w K mg base C):cH P w K mg base dZ 3 f fd ["self","atoms"] (Ry P w K C):=by
 show F.ok Lp 71;let(self,t,dx,ys,L,H0,rfl,hs,V7,ht,lS,lL,fL,sm,k):=h;show{_,(aB (ME (pv 0) iY 9) (aB (ME (pv 0) iY 9) (aO (gn (U8 O.c D.R8 hr (pv 0) (bR (pv 1)) ∅))))),?_}
 have own:∀{d:bn}{o:HO}{H1:Hp},aG H0 H1->H0 d=none->aG H0 (upd H1 d o):=λ{d o H1} s h q u e=>by rw[aM (bw e h)];show s _ _ e
 have z0:∀{p:bn}{H1:Hp},aG H0 H1->H1 p=none->H0 p=none:=λ{p H1} s h=>by
  cases e:H0 p with
  |none=>rfl
  |some u=>rw[s _ _ e]at h;cases h
 ext A hA;have s1:aG H (upd H A 69):=aD hA _;have hA1:upd H A 69 A=some 69:=ar;have A0:=z0 sm hA;have sA:A≠self:=λe=>by rw[e,hs]at hA;cases hA
 have m1:=sm.trans s1;generalize (upd H A 69)=H1 at s1 hA1 m1⊢;show{_,9,self,C,dx,[],9,s1 _ _ hs,O.c,O.DZ,7,?_};have t2:cu H1 (upd H1 self (.ins C dx (jv "aims" (.ref A) []))):=cu.upd (C1 (s1 _ _ hs));have m2:aG H0 (upd H1 self (.ins C dx (jv "aims" (.ref A) []))):=own m1 V7;have kJ:upd H1 self (.ins C dx (jv "aims" (.ref A) [])) self=some (.ins C dx [("aims",.ref A)]):=ar;have hA2:upd H1 self (.ins C dx (jv "aims" (.ref A) [])) A=some 69:=aM sA▸hA1;generalize (upd H1 self (.ins C dx (jv "aims" (.ref A) [])))=H2 at t2 m2 kJ hA2⊢;ext B hB;have s3:aG H2 (upd H2 B 69):=aD hB _;have m3:=m2.trans s3;generalize (upd H2 B 69)=H3 at s3 m3⊢;show{_,9,self,C,dx,_,9,s3 _ _ kJ,O.c,O.Rk,by change 1<1000;decide,?_};have t4:cu H3 (upd H3 self (.ins C dx (jv "vain" (.ref B) [("aims",.ref A)]))):=cu.upd (C1 (s3 _ _ kJ));have m4:aG H0 (upd H3 self (.ins C dx (jv "vain" (.ref B) [("aims",.ref A)]))):=own m3 V7;have VJ:upd H3 self (.ins C dx (jv "vain" (.ref B) [("aims",.ref A)])) self=some (.ins C dx [("aims",.ref A),("vain",.ref B)]):=by rw[ar];rfl
 have hA4:upd H3 self (.ins C dx (jv "vain" (.ref B) [("aims",.ref A)])) A=some 69:=aM sA▸s3 _ _ hA2;have t04:=(cu.same s1).trans (t2.trans ((cu.same s3).trans t4));show{_,9,self,dx,_,9,VJ,9,_,9,self,t,dx,A,_,ys,[],L,[],H0,0,9,VJ,9,by change 2<1000;decide,V7,dh ht t04,lS.tp t04,lL,fL,m4,{EN hA4,aJ _,A0,λk v h=>(by cases h),λk _ zs ⟨a,ha,_⟩=>(by cases ha),λk k' d h=>(by cases h)},aJ _,λH5 kvs B' m5 t5 B0 hs5 hB5 ax5 ab db=>k H5 A B' kvs m5 A0 B0 hs5 hB5 (by simpa using ax5) ab db}
structure Li(P:dL)(w:i3)(K:Frag)(C:bn)(H:Hp)(me A B dx:bn)(kvs:List 74)(L:List aH.Atom):Prop where
 ins:H me=some (.ins C dx [("aims",.ref A),("vain",.ref B)])
 ai:gm P w K (λ_=>none) H A kvs (hits L) 100000
 ab:A≠B
 db:∀k d,valN kvs k=some (.ref d)->d≠B
def Li.same{H H':Hp}{self A B dx:bn}{kvs:List 74}{L:List aH.Atom}(x:Li P w K C H self A B dx kvs L)(s:aG H H'):Li P w K C H' self A B dx kvs L:=
 {s _ _ x.ins,x.ai.move (cu.same s) (λb _ h=>by
  rcases h with rfl|⟨k,h⟩
  ·let(u,hu):=x.ai.at_.some;rw[hu,s _ _ hu]
  ·let(d,inner,e,__,__,h4,__):=x.ai.vals k _ h;cases e;let(u,hu):=h4.some;rw[hu,s _ _ hu]),x.ab,x.db}
def gm.got{H0 H:Hp}{A p:bn}{kvs:List 74}{R:Rl}{n:Nat}(x:gm P w K H0 H A kvs R n)(hp:H p=some 69)(k:NK):∃d inner,(valN kvs k).getD (.ref p)=.ref d/\iL P w K H d inner/\inner.length<=n/\(inner.map (·.1)).Nodup/\∀j,(∃q∈inner,q.1=j)↔∃zs,R k zs/\j=jh zs:=by
 cases e:valN kvs k with
 |some v=>
  let(d,inner,rfl,__,__,h4,h5,h6,__,h8):=x.vals k v e;show⟨d,inner,rfl,h4,h5,h6,h8⟩
 |none=>show{p,[],9,EN hp,aJ _,58,λj=>{λ⟨q,hq,_⟩=>(by cases hq),λ⟨zs,hz,_⟩=>absurd hz (x.no k e zs)}}
def Dz(g:cN)(t:io):Bool:=(aH.get g t).isSome||!bf t
def NH(g:cN)(t:io):io:=(aH.get g t).getD t
def Dy(g:cN)(ts:Aah)(n:Nat):List Nat:=(List.range n).filter λj=>Dz g (ts.getD j "")
def OP(g:cN)(ts:Aah)(ns:List Nat):List (Nat×io):=ns.map λj=>(j,NH g (ts.getD j ""))
abbrev Ep(K:Frag)(H:Hp):Aao->List (Nat×io)->Prop:=Paired λ(y:V)(p:Nat×io)=>∃q,y=.ref q/\ba K H q [.int p.1,.str p.2]
def Ba(bs:List (Nat×io))(zs:Aah):Bool:=bs.all λp=>decide (zs.getD p.1 ""=p.2)
def Rh(L:List aH.Atom)(a:aH.Atom)(bs:List (Nat×io))(inner:List 74):Prop:=(inner.map (·.1)).Nodup/\(∀p∈inner,∃zs,p.1=jh zs/\(a.1,zs)∈L/\zs.length=a.2.length)/\
 ∀zs,(a.1,zs)∈L->zs.length=a.2.length->Ba bs zs=true->∃p∈inner,p.1=jh zs
def Oj{g:cN}{ts:Aah}{i:Nat}:Dy g ts (i+1)=Dy g ts i++if Dz g (ts.getD i "")=true then[i]else[]:=by unfold Dy;rw[List.range_succ,dQ,cK,nY]
def QT{g:cN}{ts:Aah}{i:Nat}:(Dy g ts i).length<=i:=by have:=cS (λj=>Dz g (ts.getD j "")) (List.range i);rw[eS]at this;show this
def QS{g:cN}{ts:Aah}{j:Nat}:j∈Dy g ts ts.length↔∃t,ts[j]?=some t/\Dz g t=true:=by
 unfold Dy;rw[cM,cw,cA];constructor
 ·ext⟨h1,h2⟩;rw[av h1]at h2;show{_,av h1,h2}
 ·ext⟨t,h1,h2⟩;rw[h1];show{(aq.mp h1).1,h2}
def Ep.same{H H':Hp}{ys:Aao}{bs:List (Nat×io)}(h:Ep K H ys bs)(s:aG H H'):Ep K H' ys bs:=by
 induction h with
 |nil=>show .nil
 |cons h _ ih=>
  let(q,e,hq):=h;show .cons {q,e,gh hq s} ih
def Ol{L:List aH.Atom}{a:aH.Atom}{bs:List (Nat×io)}{inner:List 74}{k:NK}(nd:(inner.map (·.1)).Nodup)(h:∀j,(∃q∈inner,q.1=j)↔∃zs,hits L k zs/\j=jh zs)(hb:∀p∈bs,p.1<a.2.length)(hk:k=Ab a.1 a.2.length\/∃p∈bs,k=yu a.1 a.2.length p.1 p.2):Rh L a bs inner:=by
 show{nd,λp hp=>?_,λzs hz lz ok=>?_}
 ·obtain⟨zs,⟨b,hbL,hit,rfl⟩,e⟩:=(h p.1).mp ⟨p,hp,rfl⟩;have:b.1=a.1/\b.2.length=a.2.length:=by
   rcases hk with rfl|⟨p0,_,rfl⟩
   ·rcases hit with hit|⟨i,t,_,hit⟩
    ·let(e1,e2):=abH.mp hit;show{e1.symm,e2.symm}
    ·show absurd hit adS
   ·rcases hit with hit|⟨i,t,_,hit⟩
    ·show absurd hit.symm adS
    ·let(e1,e2,__):=abG.mp hit;show{e1.symm,e2.symm}
  show{b.2,e,?_,this.2};rw[<-this.1];show hbL
 ·show(h (jh zs)).mpr {zs,{(a.1,zs),hz,?_,9},9};rcases hk with rfl|⟨p0,nv,rfl⟩
  ·show .inl (by rw[lz])
  ·show .inr {p0.1,p0.2,?_,by rw[lz]};have h1:=aU (bt.mp ok p0 nv);have h2:p0.1<zs.length:=lz▸hb p0 nv;rw[cA,av h2]at h1;rw[av h2];show cW some h1
theorem BS{L:List aH.Atom}{a:aH.Atom}{bs:List (Nat×io)}:∀{inner:List 74},(∀p∈inner,∃zs,p.1=jh zs/\(a.1,zs)∈L/\zs.length=a.2.length)->∃rs:Aab,inner.map (·.1)=rs.map jh/\∀zs∈rs,(a.1,zs)∈L/\zs.length=a.2.length
 |[],_=>{[],9,λ_ h=>by cases h}
 |p::r,h=>by
  let(zs,e,h1,h2):=h p aw;let(rs,e',h'):=BS (bs:=bs) λq hq=>h q (ay _ hq);show{zs::rs,by rw[bo,bo,e,e'],λz hz=>?_};rcases aN.mp hz with rfl|hz
  ·show⟨h1,h2⟩
  ·show h' z hz
def iG(h:d7 K H ys rs)(t:cu H H'):d7 K H' ys rs:=by
 induction h with
 |nil=>show .nil
 |cons h _ ih=>
  let(q,e,hq):=h;show .cons {q,e,dh hq t} ih
def Ep.tp{H H':Hp}{ys:Aao}{bs:List (Nat×io)}(h:Ep K H ys bs)(t:cu H H'):Ep K H' ys bs:=by
 induction h with
 |nil=>show .nil
 |cons h _ ih=>
  let(q,e,hq):=h;show .cons {q,e,dh hq t} ih
def adJ{g:cN}{ts:Aah}{ns:List Nat}{bs:List (Nat×io)}{h:io->io}(Dx:OP g ts ns=bs)(B4:Dy g ts ts.length=ns)(ag:aH.iM g h)(gu:∀u∈keys g,bf u=true):Ba bs (ts.map (aH.ap bf h))=true:=by
 show bt.mpr λp hp=>bb ?_;rw[<-Dx]at hp;let(j,hj,rfl):=az.mp hp;rw[<-B4]at hj;let(t,ht,hf):=QS.mp hj;rw[cA,cA,aZ,ht];change aH.ap bf h t=NH g t;unfold NH aH.ap;cases q:aH.get g t with
 |some v=>
  have hk:t∈keys g:=by
   cases e:(decide (t∈keys g))with
   |true=>show aU e
   |false=>rw[aH.get_none.mpr (ou e)]at q;cases q
  rw[gu t hk,aL rfl];show ag.get q
 |none=>
  unfold Dz at hf;rw[q]at hf;have:bf t=false:=by simpa using hf
  rw[this,aI 58];rfl
inductive T5(P:dL)(w:i3)(K:Frag)(C:bn)(vs:Aao)(H:Hp)(Q:VK)(_x3:XK):Prop
 |mk (self A B dx d:bn) (kvs:List (NK×bn×V)) (L:List aH.Atom) (v:V) (a:aH.Atom) (g:cN) (_:vs=[.ref self,v,.ref d]) (_:Li P w K C H self A B dx kvs L) (_:FY K H v a) (_:lJ a) (_:(∀b∈L,lJ b)) (_:L.length<=1000) (_:H d=some (.dK (gK g))) (_:(keys g).Nodup) (_:(∀u∈keys g,bf u=true)) (_:(∀q∈g,PyData.strOk q.2=true)) (_:∀p ys qN H',aG H H'->H p=none->H' p=some (.lst ys)->d7 K H' ys qN->qN.length<=L.length->(∀zs∈qN,(a.1,zs)∈L)->(∀h,aH.iM g h->(a.1,a.2.map (aH.ap bf h))∈L->a.2.map (aH.ap bf h)∈qN)->Q (.ref p) H')
def ik:bX ["self","atom","given","name","terms","fixed","bound","found","place","term","closer"] ["self","atom","given"] (bH zd):=gg 21
def RV{f:bn}{fd:i8}(F:dH K "aims_of" "MapSearch.aims_of" zd f fd)(T:Txt K mg)(O:Own K C)(D:Du P w K mg base):cH P w K mg base dZ 3 f fd ["self","atom","given"] (T5 P w K C):=by
 show F.ok ik 71;let(self,A,B,dx,d,kvs,L,v,a,g,rfl,se,ha,fa,fL,lL0,hd,nd,gu,gs,k):=h;have hu:=nQ hr;have hN:=Sy hr;let(ab,ac,rfl,xi,q9):=ha;let(fl,f0,fz):=fa;show{_,(aB (CS (pv 1) (kG 9 (cn (gB 3 ik) (cn (o6 (i:=4) ik.nd 9 (Or.inr 9)) gM)))) (aB (Lr (j:=5) ik.nd 9 9 9 (pF (more:=["term"]) (fs:=["given"]) (fr:=[2])) (ML 9 T.Fv (bR (pv 4))) (λ_ _ _ _=>(we (n:=2) 9 (cn (j4 (i:=0)) (cn (j4 (i:=1)) gM)))) (λ_ _ _ _=>(PW.pt (km (Uu (adx hu (pv 1) (pv 2))) (ot (gP (eZ (cl D.mV hr (bR (pv 1))))))))) (λ_ _ _ _=>(pv 0))) (aB (ka (i:=6) ik.nd 9 (Or.inr 9) (je 9 (cR (fs:=["given","terms"]) (fr:=[2,4])) (dO (pv 5)) (λ_ _ _ _=>(iq (cP (pv 0) (tQ hu (pv 1) (bF (wj) (pv 2) (pv 0) (λ_ _=>9)) (bF (wj) (pv 2) (pv 0) (λ_ _=>9)) ⟨rfl,rfl,rfl,rfl⟩)))))) (aB (dW 07 ik (Kj hN (zY (pv 0) 9) (iq (cP (pv 3) (bD cJ 9 T.dR bC (bR (pv 4))))) iY ⟨rfl,rfl,rfl,rfl⟩)) (aB (dM bG 9 (dO (pv 6)) (kG 9 (cn (gB 08 ik) (cn (gB 09 ik) gM))) (aB (dW 10 ik (Kj hN (zY (pv 0) 9) (iq (jf (pv 3) (lQ (bD cJ 9 T.dR bC (bR (pv 4))) (pv 08) (pv 09)))) iY ⟨rfl,rfl,rfl,rfl⟩)) (aO (dW 07 ik (Gm (bZ yq (bD Lb 9 T.dR bC (bR (pv 10))) (bD Lb 9 T.dR bC (bR (pv 07))) (cx _)) (pv 10) (pv 07)))))) (aO (bJ (XN (RL 9 (Ii (fs:=["bound"]) (fr:=[6])) (XM (pv 07)) (λ_ _ _ _=>(eZ (bD (Iq 9) 9 T.aal boot_all (bR (wW 9 (pF (more:=["term"]) (fs:=["aim"]) (fr:=[0])) (MJ (pv 1)) (λ_ _ _ _=>(we (n:=2) 9 (cn (j4 (i:=0)) (cn (j4 (i:=1)) gM)))) (λ_ _ _ _=>(jT vY (bF (wj) (pv 2) (pv 0) (λ_ _=>9)) (pv 1) (cx _)))))))) (λ_ _ _ _=>(pv 0))))))))))),?_}
 have lt:(a.2.map V.str).length=a.2.length:=ah _;show{_,9,ab,_,9,xi,9,_,_,9,_,_,9,9,?_};show{_,9,ac,9,⟨_,q9⟩,Pt (λi zs H2=>aG H H2/\i<=a.2.length/\zs=(Dy g a.2 i).map λj:Nat=>V.int (j:Int)) (by rw[lt];show bq ∅) {aG.refl H,aJ _,9} ?_ ?_ ?_}
 ·ext i zs H2 hi ⟨s2,mq,rfl⟩;show{dh q9 (cu.same s2),?_};rw[ah];show QT
 ·ext i x zs H2 q N hc ⟨s2,mq,rfl⟩ hq qp;let(z,hz,rfl):=jy hc;have bN:=(aq.mp hz).1;have s3:aG H (upd H2 q (.tup [.int i,.str z])):=s2.trans (aD hq _);generalize (upd H2 q (.tup [.int i,.str z]))=H3 at s3⊢;have ez:a.2.getD i ""=z:=by rw[cA,hz];rfl
  have yes:∀H4,aG H H4->Dz g z=true->N (((Dy g a.2 i).map λj:Nat=>V.int (j:Int))++[.int i]) H4:=λH4 s4 c=>qp _ _ {s4,bN,by rw[Oj,ez,aL c,aF];rfl};have no:∀H4,aG H H4->Dz g z=false->N ((Dy g a.2 i).map λj:Nat=>V.int (j:Int)) H4:=λH4 s4 c=>qp _ _ {s4,bN,by rw[Oj,ez,c];simp};show{_,9,_,9,d,_,9,kW.k (k:=Sum.inr z) (s3 _ _ hd),_,9,?_};have e0:(iQ (gK g) (Sum.inr z:Key)).isSome=(aH.get g z).isSome:=by rw[rD,ic]
  rw[e0];show dI (λc=>?_) (λc=>?_)
  ·show ml {_,9,yes H3 s3 ?_};unfold Dz;rw[c];rfl
  ·show{_,rfl,z,rfl,by have:=(fz z (aE hz)).1;lia,λH4 s4=>{_,9,?_}};have e1:Dz g z=!bf z:=by unfold Dz;rw[show(aH.get g z).isSome=false by simpa using c];rfl
   rw[<-e1];show dI (λc2=>{_,9,yes H4 (s3.trans s4) c2}) (λc2=>no H4 (s3.trans s4) (by simpa using c2))
 ext zs H2 ⟨s2,_,rfl⟩ fx hfx;rw[lt];generalize B4:Dy g a.2 a.2.length=ns;have lns:ns.length<=100:=by rw[<-B4];show bc QT fl
 have YA:∀j∈ns,∃t,a.2[j]?=some t/\Dz g t=true:=λj hj=>by rw[<-B4]at hj;show QS.mp hj
 have s3:aG H (upd H2 fx (.lst (ns.map λj:Nat=>V.int (j:Int)))):=s2.trans (aD hfx _);have hf3:upd H2 fx (.lst (ns.map λj:Nat=>V.int (j:Int))) fx=some (.lst (ns.map λj:Nat=>V.int (j:Int))):=ar;generalize (upd H2 fx (.lst (ns.map λj:Nat=>V.int (j:Int))))=H3 at s3 hf3⊢;have lnv:(ns.map λj:Nat=>V.int (j:Int)).length=ns.length:=ah _;show{_,9,fx,9,{_,bg.of hf3},ji (λi zs H4=>aG H3 H4/\i<=ns.length/\Ep K H4 zs (OP g a.2 (ns.take i))) (by rw[lnv];show bq ∅) {aG.refl _,aJ _,.nil} ?_ ?_ ?_}
 ·ext i zs H4 hi ⟨s4,mq,hb⟩;show{bg.of (s4 _ _ hf3),?_};have:=a9 hb;rw[this];unfold OP;rw[ah,aV];lia
 ·ext i x zs H4 N hc ⟨s4,mq,hb⟩ qp;rw[aZ]at hc;let(j,hj,rfl):=bA.mp hc;have bN:=(aq.mp hj).1;let(z,hz,__):=YA j (aE hj);have ez:a.2.getD j ""=z:=by rw[cA,hz];rfl
  have Mt:=s3.trans s4;have aey:=dh q9 (cu.same Mt);have at':uX (a.2.map V.str) (j:Int)=some (.str z):=iK (by rw[aZ,hz];rfl);show{_,9,_,9,d,9,.inl {_,.inl (Mt _ _ hd)},_,9,_,9,_,_,_,_,9,9,aey,at',_,9,_,9,_,_,_,_,9,9,aey,at',_,kW.k (k:=Sum.inr z) (Mt _ _ hd),83,λq hq=>?_};have e1:(iQ (gK g) (Sum.inr z:Key)).getD (.str z)=.str (NH g z):=by rw[rD];unfold NH;cases aH.get g z<;>rfl
  rw[e1];show qp _ _ {s4.trans (aD hq _),bN,?_};unfold OP;rw[bh,hj,aF];show fK (Ep.same hb (aD hq _)) (.cons {q,9,ba.of ?_} .nil);change upd H4 q _ q=some (.tup [.int j,.str (NH g (a.2.getD j ""))]);rw[ez];show ar
 ext zs H4 ⟨s4,_,hb⟩ bl hbl;rw[lnv,aT]at hb;generalize Dx:OP g a.2 ns=bs at hb;have s5:aG H (upd H4 bl (.lst zs)):=s3.trans (s4.trans (aD hbl _));have Ap:upd H4 bl (.lst zs) bl=some (.lst zs):=ar;have Ss:=Ep.same hb (aD hbl (.lst zs));generalize (upd H4 bl (.lst zs))=H5 at s5 Ap Ss⊢;have lbs:bs.length<=100:=by rw[<-Dx];unfold OP;rw[ah];show lns
 have hb1:∀p∈bs,p.1<a.2.length:=λp hp=>by rw[<-Dx]at hp;let(j,hj,rfl):=az.mp hp;let(t,ht,__):=YA j hj;show(aq.mp ht).1
 have lzb:=a9 Ss;have Mo:=se.same s5;have aex:=dh q9 (cu.same s5);show{_,9,self,C,dx,_,_,9,Mo.ins,O.c,O.DZ,9,A,kvs,9,Mo.ai.at_,_,9,_,9,_,_,9,.inr ⟨_,aex,rfl⟩,83,λb hb p hp=>?_};rw[lt]at hp⊢;have s6:aG H5 (upd H5 b (.tup [.str a.1,.int a.2.length])):=aD hb _;have hb6:ba K (upd H5 b (.tup [.str a.1,.int a.2.length])) b [.str a.1,.int a.2.length]:=ba.of ar;generalize (upd H5 b (.tup [.str a.1,.int a.2.length]))=H6 at s6 hb6 hp⊢;have s7:aG H6 (upd H6 p 69):=aD hp _;have hp7:upd H6 p 69 p=some 69:=ar;have s57:=s6.trans s7;have Ud:=Mo.same s57;let(dd,inner,e0,g1,g2,g3,g4):=Ud.ai.got hp7 (Ab a.1 a.2.length);show{b,kvs,Ab a.1 a.2.length,9,Ud.ai.at_,NA (gh hb6 s7) f0,?_};rw[e0];show{_,rfl,bl,rfl,{_,bg.of (s57 _ _ Ap)},iC (xs:=zs) (λi Z H8=>∃(dd:bn)(inner:List 74)(x8 x9 x10:Aap),Z=[some (.ref self),some (.ref ab),some (.ref d),some (.str a.1),some (.ref ac),some (.ref fx),some (.ref bl),some (.ref dd),x8,x9,x10]/\aG H5 H8/\iL P w K H8 dd inner/\Rh L a bs inner)
  {dd,inner,_,_,_,9,s57,g1,Ol g3 g4 hb1 (.inl 9)} ?_ ?_ ?_}
 ·ext i Z H8 hi ⟨_,_,_,_,_,rfl,s8,_⟩;show bg.of (s8 _ _ Ap)
 ·ext i x Z H8 hx ⟨dd,inner,_,_,_,rfl,s8,g1,g2⟩;obtain⟨⟨j,z⟩,VS,q,rfl,hq⟩:=Paired.at' (Ep.same Ss s8) hx;have mjz:=aE VS;have se8:=Mo.same s8;have hz:PyData.strOk z=true:=by
   rw[<-Dx]at mjz;let(j',KI,e):=az.mp mjz;let(t,ht,__):=YA j' KI;have e2:NH g (a.2.getD j' "")=z:=cW Prod.snd e;rw[cA,ht]at e2;rw[<-e2];change PyData.strOk ((aH.get g t).getD t)=true;cases q2:aH.get g t with
   |none=>show(fz t (aE ht)).2
   |some v=>show gs _ (aH.get_some q2)
  show{q,_,9,hq,9,_,_,9,_,_,9,9,?_};show{_,9,self,C,dx,_,_,9,se8.ins,O.c,O.DZ,9,A,kvs,9,se8.ai.at_,_,9,_,9,_,_,9,.inr {_,dh aex (cu.same s8),9},_,9,_,9,(by change 4<=ca;decide),λb hb p hp=>?_};rw[lt]at hp⊢;have s9:aG H8 (upd H8 b (.tup [.str a.1,.int a.2.length,.int j,.str z])):=aD hb _;have V0:ba K (upd H8 b (.tup [.str a.1,.int a.2.length,.int j,.str z])) b [.str a.1,.int a.2.length,.int j,.str z]:=ba.of ar;generalize (upd H8 b (.tup [.str a.1,.int a.2.length,.int j,.str z]))=H9 at s9 V0 hp⊢;have kD:aG H9 (upd H9 p 69):=aD hp _;have aet:upd H9 p 69 p=some 69:=ar;generalize (upd H9 p 69)=jC at kD aet⊢;have Ms:=s9.trans kD;have ac6:=se8.same Ms;let(cd,cin,e1,c1,c2,c3,c4):=ac6.ai.got aet (yu a.1 a.2.length j z);show{b,kvs,yu a.1 a.2.length j z,9,ac6.ai.at_,Nz (gh V0 kD) f0 hz,?_};rw[e1];have g10:iL P w K jC dd inner:=by let(u,hu):=g1.some;show g1.tp (cu.same Ms) (by rw[hu,Ms _ _ hu])
  show{_,9,cd,cin,9,c1,_,9,dd,inner,9,g10,_,_,9,9,_,9,?_};show dI (λc=>?_) (λc=>{_,9,dd,inner,_,_,_,9,s8.trans Ms,g10,g2})
  ·show{_,9,cd,cin,_,_,_,9,s8.trans Ms,c1,(Ol c3 c4 hb1 (.inr {(j,z),mjz,9}))}
 ext Z H8 ⟨dd,inner,_,_,_,rfl,s8,g1,Nc,g2,g3⟩;let(rs,ers,hrs):=BS (bs:=bs) g2;have lrs:inner.length=rs.length:=by have:=cW List.length ers;rw[ah,ah]at this;show this
 have lL:rs.length<=L.length:=by
  have:=jU (m:=L.map λb=>jh b.2) Nc λj hj=>by let(p,hp,rfl):=az.mp hj;let(JU,e,h1,__):=g2 p hp;show az.mpr {_,h1,e.symm}
  rw[ah,ah]at this;lia
 let(u,VG):=g1.some;have nfz:∀o v,H8 dd≠some (.fX o v):=λo v e=>by rcases g1.1 with h|⟨_,h⟩<;>rw[h]at e<;>cases e
 have lkv:(inner.map λp=>((V.ref p.2.1,p.2.2):V×V)).length=inner.length:=ah _;have ahL:bl≠dd:=λe=>by have:=s8 _ _ Ap;rw[e]at this;rcases g1.1 with h|⟨_,h⟩<;>rw[h]at this<;>cases this
 show{dd,nfz,_,9,dd,u,inner,9,VG,g1,λo=>?_};have t9:cu H8 (upd H8 dd (.fX o u)):=cu.upd g1.o8;have bl9:upd H8 dd (.fX o u) bl=some (.lst zs):=aM ahL▸s8 _ _ Ap;have V0:=(Ep.same Ss s8).tp t9;have VZ:upd H8 dd (.fX o u) dd=some (.fX o u):=ar;have back:∀b v,b≠dd->H8 b=some v->upd H8 dd (.fX o u) b=some v:=λb v n h=>aM n▸h;have aap:=λp hp=>pf (g1.2 p hp) t9;generalize (upd H8 dd (.fX o u))=H9 at t9 bl9 V0 VZ back aap⊢;show S5 (λi ys jC=>aG H9 jC/\i<=rs.length/\d7 K jC ys ((rs.take i).filter (Ba bs))) (by rw[lkv,bW];lia) {aG.refl _,aJ _,.nil} ?_ ?_ ?_
 ·ext i ys jC hi ⟨kD,mq,hr⟩;show{kD _ _ VZ,?_};rw[a9 hr];have:=cS (Ba bs) (rs.take i);rw[aV]at this;lia
 ·ext i kv ys jC N qo ⟨kD,mq,hr⟩ qp;rw[aZ]at qo;let(p,hp,rfl):=bA.mp qo;have hil:=(aq.mp hp).1;have NN:i<rs.length:=by lia
  have ep:p.1=jh rs[i]:=by have:=cW (λl=>l[i]?) ers;simp only[aZ,hp,av NN,jW]at this;show bY this
  generalize hri:rs[i]=row at ep;have Yx:rs[i]?=some row:=by rw[av NN,hri]
  let(R3,agt):=hrs row (aE Yx);have kK:=gh (adR (by rw[<-ep];show(aap p (aE hp)).1)) kD;show{_,9,bl,9,{_,bg.of (kD _ _ bl9)},Ij (xs:=zs) (λj us pW=>aG jC pW/\j<=bs.length/\us=((bs.take j).map λq=>decide (row.getD q.1 ""=q.2)).map V.bl) (bq ∅) {aG.refl _,aJ _,9} ?_ ?_ ?_}
  ·ext j us pW hj ⟨oq,An,rfl⟩;show{bg.of (oq _ _ (kD _ _ bl9)),?_};rw[ah,ah,aV];lia
  ·ext j y us pW M hy ⟨oq,An,rfl⟩ hM;obtain⟨⟨jj,z⟩,VS,q,rfl,hq⟩:=Paired.at' (V0.same (kD.trans oq)) hy;have lT:=(aq.mp VS).1;have jl:jj<row.length:=by rw[agt];show hb1 (jj,z) (aE VS)
   show{q,_,_,9,hq,zW ?_};show{_,9,_,9,_,_,_,_,9,9,gh kK oq,iK (by rw[aZ,av jl];rfl),_,9,9,?_};have e1:decide (V.str row[jj]=V.str z)=decide (row.getD jj ""=z):=by rw[cA,av jl];simp
   rw[e1];show hM _ _ {oq,lT,?_};rw[bh,VS,aF,aF];rfl
  ·ext us pW ⟨oq,_,rfl⟩ q hq;rw[lzb,aT];show{q,_,9,bg.of ar,_,9,?_};have e1:((bs.map λq=>decide (row.getD q.1 ""=q.2)).all id)=Ba bs row:=by rw[Eh];rfl
   rw[e1];have qm:aG jC (upd pW q (.lst ((bs.map λq=>decide (row.getD q.1 ""=q.2)).map V.bl))):=oq.trans (aD hq _);generalize (upd pW q (.lst ((bs.map λq=>decide (row.getD q.1 ""=q.2)).map V.bl)))=WR at qm⊢;show dI (λc=>{_,9,qp _ _ {kD.trans qm,NN,?_}}) (λc=>qp _ _ {kD.trans qm,NN,?_})
   ·rw[bh,Yx,dQ];show fK (iG hr (cu.same qm)) ?_;change d7 K WR _ (List.filter (Ba bs) [row]);rw[cK,aL c];show .cons {p.2.1,9,gh kK qm} .nil
   ·rw[bh,Yx,dQ];change d7 K WR _ (_++List.filter (Ba bs) [row]);rw[cK,aI c,nY,cZ];show iG hr (cu.same qm)
 ·ext ys jC ⟨kD,_,hr⟩ l hl;rw[lkv,lrs,aT]at hr;have ld:l≠dd:=λe=>by rw[e,kD _ _ VZ]at hl;cases hl
  show{o,u,by rw[aM (cQ ld)];show kD _ _ VZ,?_};have st:aG H (upd (upd jC l (.lst ys)) dd u):=λb v h=>by
   by_cases c:b=dd
   ·rw[c,ar];have:=s8 _ _ (s5 _ _ h);rw[c,VG]at this;show this
   ·have KR:=kD _ _ (back b v c (s8 _ _ (s5 _ _ h)));rw[aM c,aM (bw KR hl)];show KR
  have l0:H l=none:=by
   cases e:H l with
   |none=>rfl
   |some v=>rw[kD _ _ (back l v ld (s8 _ _ (s5 _ _ e)))]at hl;cases hl
  have tpp:cu jC (upd (upd jC l (.lst ys)) dd u):=(cu.upd (RX hl)).trans (cu.upd λxs q=>by
   have h0:upd jC l (.lst ys) dd=some (.fX o u):=by rw[aM (cQ ld)];show kD _ _ VZ
   have nu:∀xs,u≠ .tup xs:=λxs e=>by rw[e]at VG;rcases g1.1 with h|⟨_,h⟩<;>rw[h]at VG<;>cases VG
   rcases q with q|⟨o',q⟩<;>rw[h0]at q
   ·cases q
   ·injection q with q;injection q with _ q;show nu _ q)
  show k l ys _ _ st l0 (aM ld▸ar) (iG hr tpp) (bc (cS _ _) lL) (λz hz=>(hrs z (cM.mp hz).1).1) λh ag hm=>?_;have bK:=adJ Dx B4 ag gu;show cM.mpr {?_,bK};let(p,hp,e):=g3 _ hm (by rw[ah]) bK;have:jh (a.2.map (aH.ap bf h))∈rs.map jh:=by rw[<-ers,<-e];show az.mpr ⟨p,hp,rfl⟩
  let(z,hz,ez):=az.mp this;rw[<-Qn ez];show hz
def atK(a:aH.Atom):NK:=.tup [.key (.inr a.1),jh a.2]
def UL:Option io->NK
 |none=>.b7
 |some z=>.key (.inr z)
def Qq(m:List (Option io)):NK:=.tup (m.map UL)
def vc(p:List aH.Atom)(m:List (List (Option io))):NK:=.tup [.tup (p.map atK),.tup (m.map Qq)]
theorem map_inj{α β:Type}{f:α->β}(h:∀x y,f x=f y->x=y):∀{l m:List α},l.map f=m.map f->l=m
 |[],[],_=>rfl
 |[],_::_,e=>by cases e
 |_::_,[],e=>by cases e
 |x::l,y::m,e=>by injection e with e1 e2;rw[h x y e1,map_inj h e2]
def acu(a b:aH.Atom)(h:atK a=atK b):a=b:=by unfold atK at h;simp only[NK.tup.injEq,nZ,NK.key.injEq,Cb,GU]at h;show GW h.1 (Qn h.2)
def abv(a b:Option io)(h:UL a=UL b):a=b:=by cases a<;>cases b<;>simp_all [UL]
def abL(a b:List (Option io))(h:Qq a=Qq b):a=b:=by injection h with h;show map_inj abv h
def WZ{p p':List aH.Atom}{m m':List (List (Option io))}(h:vc p m=vc p' m'):p=p'/\m=m':=by unfold vc at h;simp only[NK.tup.injEq,nZ,GU]at h;show{map_inj acu h.1,map_inj abL h.2}
def YK{a:aH.Atom}(h:lJ a):lH 2 (atK a):=oC λk hk=>by
 simp only[aN,m6,A8]at hk;rcases hk with rfl|rfl
 ·show tW h.2.1
 ·show Of λz hz=>(h.2.2 z hz).2
def YJ{m:List (Option io)}(h:∀z,some z∈m->PyData.strOk z=true):lH 1 (Qq m):=oC λk hk=>by
 let(o,ho,rfl):=az.mp hk;cases o with
 |none=>show YI
 |some z=>show tW (h z ho)
def _root_.L2.lH.mono{n m:Nat}{k:NK}(h:lH n k)(e:n<=m):lH m k:={h.1,bc h.2.1 e,bc h.2.2 e}
def V8{p:List aH.Atom}{m:List (List (Option io))}(h1:∀a∈p,lJ a)(h2:∀r∈m,∀z,some z∈r->PyData.strOk z=true):Ti (vc p m):=(oC λk hk=>by
 simp only[aN,m6,A8]at hk;rcases hk with rfl|rfl
 ·show oC λk hk=>by let(a,ha,rfl):=az.mp hk;show YK (h1 a ha)
 ·show oC λk hk=>by let(r,hr,rfl):=az.mp hk;show(YJ (h2 r hr)).mono 7).good 7
def adL{H:Hp}{v:V}{a:aH.Atom}(h:FY K H v a):NV K H (atK a) v:=by let(b,c,rfl,h1,h2):=h;unfold atK;show{b,_,9,h1,?_};show{_,_,9,by rw[NV];rfl,_,_,9,UW h2,9}
def abF{H:Hp}{ys:Aao}{p:List aH.Atom}(h:kP K H ys p):sG K H (p.map atK) ys:=by
 induction h with
 |nil=>rw[fU,sG]
 |cons h _ ih=>
  show{_,_,9,adL h,ih}
def Z6:Option io->V
 |none=>.b7
 |some z=>.str z
abbrev JO(K:Frag)(H:Hp):Aao->List (List (Option io))->Prop:=Paired λ(y:V)(m:List (Option io))=>∃q,y=.ref q/\ba K H q (m.map Z6)
theorem Ql{H:Hp}:∀m:List (Option io),sG K H (m.map UL) (m.map Z6)
 |[]=>by rw[fU,sG];rfl
 |o::r=>by
  show{_,_,9,?_,Ql r};cases o with
  |none=>change NV K H .b7 .b7;rw[NV]
  |some z=>change NV K H (.key (.inr z)) (.str z);rw[NV];rfl
def abE{H:Hp}{ys:Aao}{ms:List (List (Option io))}(h:JO K H ys ms):sG K H (ms.map Qq) ys:=by
 induction h with
 |nil=>rw[fU,sG]
 |cons h _ ih=>
  let(q,rfl,hq):=h;show{_,_,9,?_,ih};unfold Qq;show{q,_,9,hq,Ql _}
def Vr{H:Hp}{b b1 b2:bn}{ys zs:Aao}{p:List aH.Atom}{ms:List (List (Option io))}(hb:ba K H b [.ref b1,.ref b2])(h1:ba K H b1 ys)(h2:ba K H b2 zs)(hp:kP K H ys p)(hm:JO K H zs ms)(g1:∀a∈p,lJ a)(g2:∀r∈ms,∀z,some z∈r->PyData.strOk z=true):iS K H (vc p ms) b:=by
 show{?_,V8 g1 g2};unfold vc;show{b,_,9,hb,?_};show{_,_,9,?_,_,_,9,?_,9}
 ·rw[NV];show{b1,ys,9,h1,abF hp}
 ·rw[NV];show{b2,zs,9,h2,abE hm}
def ir(P:dL)(w:i3)(K:Frag)(H:Hp)(B:bn)(L:List aH.Atom)(n:Nat):Prop:=∃kvs,iL P w K H B kvs/\kvs.length<=n/\∀q∈kvs,∃p m,q.1=vc p m/\aH.Td bf L p m
def ir.mono{H:Hp}{B:bn}{L:List aH.Atom}{n m:Nat}(h:ir P w K H B L n)(e:n<=m):ir P w K H B L m:=by let(kvs,h1,h2,h3):=h;show{kvs,h1,bc h2 e,h3}
def ir.same{H H':Hp}{B:bn}{L:List aH.Atom}{n:Nat}(h:ir P w K H B L n)(s:aG H H'):ir P w K H' B L n:=by let(kvs,h1,h2,h3):=h;let(u,hu):=h1.some;show{kvs,h1.tp (cu.same s) (by rw[hu,s _ _ hu]),h2,h3}
def ir.put{H:Hp}{B b:bn}{L:List aH.Atom}{n:Nat}{kvs:List 74}{p:List aH.Atom}{m:List (List (Option io))}{v:V}(h1:iL P w K H B kvs)(h2:kvs.length<=n)(h3:∀q∈kvs,∃p m,q.1=vc p m/\aH.Td bf L p m)(hb:iS K H (vc p m) b)(hv:aH.Td bf L p m):
  ir P w K (upd H B (.ext (DN P w B (putN kvs (vc p m) b v)))) B L (n+1):=by
 show{_,h1.put hb,bc wR (gY h2),λq hq=>?_};rcases Ng hq with⟨q0,QF,e,_⟩|⟨e,_⟩
 ·let(p',m',e',hv'):=h3 q0 QF;show{p',m',e.trans e',hv'}
 ·show⟨p,m,e,hv⟩
def SB(B:bn)(H H':Hp):Prop:=∀b u,b≠B->H b=some u->H' b=some u
def SB.refl(B:bn)(H:Hp):SB B H H:=λ_ _ _ h=>h
def SB.trans{B:bn}{H H1 H2:Hp}(a:SB B H H1)(b:SB B H1 H2):SB B H H2:=λx u n h=>b x u n (a x u n h)
def SB.same{B:bn}{H H':Hp}(s:aG H H'):SB B H H':=λx u _ h=>s x u h
def SB.upd{B:bn}{H:Hp}{o:HO}:SB B H (upd H B o):=λx u n h=>by rw[aM n];show h
def ir.o8{H:Hp}{B:bn}{L:List aH.Atom}{n:Nat}(h:ir P w K H B L n):v9 H B:=by let(kvs,h1,__):=h;show h1.o8
def SB.tp{B:bn}{H H':Hp}(s:SB B H H')(h:v9 H B):cu H H':=λb xs q=>by
 have hb:b≠B:=λe=>h xs (e▸q);rcases q with q|⟨o,q⟩
 ·show .inl (s _ _ hb q)
 ·show .inr {o,s _ _ hb q}
def ir.LH{H:Hp}{B:bn}{L:List aH.Atom}{n:Nat}(h:ir P w K H B L n):∀xs,¬Rd H B (.lst xs):=λxs q=>by let(kvs,h1,__):=h;rcases h1.1 with e|⟨_,e⟩<;>rcases q with q|⟨o,q⟩<;>rw[e]at q<;>cases q
def L7{B a:bn}{H H':Hp}{xs:Aao}(q:bg K H a xs)(s:SB B H H')(h:∀xs,¬Rd H B (.lst xs)):bg K H' a xs:=by
 rcases q with q|q
 ·have hb:a≠B:=λe=>h xs (e▸q);rcases q with q|⟨o,q⟩
  ·show .inl (.inl (s _ _ hb q))
  ·show .inl (.inr {o,s _ _ hb q})
 ·show .inr q
def Li.sb{H H':Hp}{self A B dx:bn}{kvs:List 74}{L:List aH.Atom}{n:Nat}(x:Li P w K C H self A B dx kvs L)(v:ir P w K H B L n)(s:SB B H H'):Li P w K C H' self A B dx kvs L:=by
 have sB:self≠B:=λe=>by let(kv,h1,__):=v;have:=x.ins;rw[e]at this;rcases h1.1 with h|⟨_,h⟩<;>rw[h]at this<;>cases this
 show{s _ _ sB x.ins,x.ai.move (s.tp v.o8) (λb _ h=>?_),x.ab,x.db};rcases h with rfl|⟨k,h⟩
 ·let(u,hu):=x.ai.at_.some;rw[hu,s _ _ x.ab hu]
 ·have:=x.db k b h;let(d,inner,e,__,__,h4,__):=x.ai.vals k _ h;cases e;let(u,hu):=h4.some;rw[hu,s _ _ this hu]
def tn:Nat->Nat
 |0=>0
 |n+1=>08*tn n+1
theorem LY:∀a b,tn a+tn b<=tn (a+b)
 |0,b=>by simp[tn]
 |a+1,b=>by
  have ih:=LY a b;rw[show a+1+b=(a+b)+1 by lia];simp only[tn];have:tn b<=08*tn b:=by lia
  lia
def aaW{a b:Nat}(h:a<=b):tn a<=tn b:=by have:=LY a (b -a);rw[show a+(b -a)=b by lia]at this;lia
theorem LX:∀ps:List (List aH.Atom),(ps.map λp=>tn p.length).sum<=tn (ps.map List.length).sum
 |[]=>by simp[tn]
 |p::ps=>by have:=LX ps;have h2:=LY p.length (ps.map List.length).sum;simp only[bo,j7];lia
structure Ask(P:dL)(w:i3)(K:Frag)(C:bn)(H:Hp)(me A B dx:bn)(kvs:List 74)(L:List aH.Atom)(c:Nat)(U:Aah)(d:bn)(g:cN)(p:List aH.Atom)(n:Nat):Prop where
 se:Li P w K C H me A B dx kvs L
 va:ir P w K H B L c
 lL:L.length<=08
 fL:∀b∈L,lJ b
 fp:∀b∈p,lJ b
 ln:p.length<=n
 n8:n<=08
 lc:c+tn p.length<=9000000
 hd:H d=some (.dK (gK g))
 dB:d≠B
 nd:(keys g).Nodup
 gu:∀u∈keys g,bf u=true
 fg:∀q∈g,PyData.strOk q.2=true
 gU:∀u∈keys g,u∈U
 pU:∀u∈aH.jI bf p,u∈U
 lU:U.length<=1000
def Tells(P:dL)(w:i3)(K:Frag)(H:Hp)(B:bn)(L:List aH.Atom)(c:Nat)(g:cN)(p:List aH.Atom)(Q:VK):Prop:=
 (∀H',SB B H H'->ir P w K H' B L (c+tn p.length)->¬aH.sP bf L g p->Q .b7 H')/\
 ∀H' d' g',SB B H H'->ir P w K H' B L (c+tn p.length)->H' d'=some (.dK (gK g'))->d'≠B->(∀q∈g',PyData.strOk q.2=true)->aH.Got bf L g g' p->Q (.ref d') H'
inductive Mc(P:dL)(w:i3)(K:Frag)(C:bn)(n:Nat)(vs:Aao)(H:Hp)(Q:VK)(_x3:XK):Prop
 |mk (self A B dx pl d:bn) (kvs:List (NK×bn×V)) (L:List aH.Atom) (c:Nat) (U:Aah) (g:cN) (p:List aH.Atom) (ys:Aao) (_:vs=[.ref self,.ref pl,.ref d]) (_:Ask P w K C H self A B dx kvs L c U d g p n) (_:bg K H pl ys) (_:kP K H ys p) (_:p≠[]) (_:Tells P w K H B L c g p Q)
inductive AR(P:dL)(w:i3)(K:Frag)(C:bn)(n:Nat)(vs:Aao)(H:Hp)(Q:VK)(_x3:XK):Prop
 |mk (self A B dx pl d:bn) (kvs:List (NK×bn×V)) (L:List aH.Atom) (c:Nat) (U:Aah) (g:cN) (p:List aH.Atom) (ys:Aao) (_:vs=[.ref self,.ref pl,.ref d]) (_:Ask P w K C H self A B dx kvs L c U d g p n) (_:bg K H pl ys) (_:kP K H ys p) (_:Tells P w K H B L c g p Q)
structure Dp(P:dL)(w:i3)(K:Frag)(mg:Aad)(base:i5)(C:bn):Prop extends Dt2 P w K mg base where
 XW:b6 P w K mg base 4 "parts_of" ["atoms","given"] (Ka K)
 C3:sH P w K mg base C 3 "aims_of" ["self","atom","given"] (T5 P w K C)
structure Dm(P:dL)(w:i3)(K:Frag)(mg:Aad)(base:i5)(C:bn)(n:Nat):Prop extends Dp P w K mg base C where
 Lz:sH P w K mg base C (6+2*n) "mapped_part" ["self","part","given"] (Mc P w K C n)
structure Dq(P:dL)(w:i3)(K:Frag)(mg:Aad)(base:i5)(C:bn)(n:Nat):Prop extends Dp P w K mg base C where
 xa:sH P w K mg base C (07+2*n) "mapped" ["self","atoms","given"] (AR P w K C n)
theorem L4:∀(l:List (List aH.Atom))(i:Nat),((l.take i).map λp=>tn p.length).sum<=(l.map λp=>tn p.length).sum
 |[],i=>by simp
 |x::r,0=>by simp
 |x::r,i+1=>by have:=L4 r i;rw[Ci,bo,bo,j7,j7];lia
def y9:bX ["self","atoms","given","part"] ["self","atoms","given"] (bH vV):=gg 21
def Kp{f:bn}{fd:i8}{n:Nat}(F:dH K "mapped" "MapSearch.mapped" vV f fd)(T:Txt K mg)(O:Own K C)(D:Dm P w K mg base C n):cH P w K mg base dZ (07+2*n) f fd ["self","atoms","given"] (AR P w K C n):=by
 rw[show 07+2*n=(6+2*n)+1 by lia];show F.ok y9 71;let(self,A,B,dx,pl,d,kvs,L,c,U,g,p,ys,rfl,ak,jV,lS,k1,k2):=h;show{_,(aB (dM bG 9 (dO (cl D.XW hr (cP (pv 1) (pv 2)) ∅)) (gB 3 y9) (aB (dW 2 y9 (U8 O.c D.Lz hr (pv 0) (cP (pv 3) (pv 2)) ∅)) (aO (dg (bZ CW (pv 2) gQ (cx _)) (aO (bJ gQ)) cm)))) (aO (bJ (pv 2)))),?_}
 let(po1,Uy,Ux,po4):=aH.Gn p [] [] .nil 58 58 58;rw[jY]at Ux;have l8:=bc ak.ln ak.n8;show{_,9,_,9,pl,d,ys,p,g,9,jV,lS,8,ak.fp,ak.hd,λq Ct H1 s1 hq NR FI=>?_};generalize ahk:aH.partsOf bf g p=ps at FI;have ahj:p.foldl (aH.qb bf g) []=ps:=ahk;rw[ahj]at po1 Uy Ux po4;have Tt:=ak.va.same s1;have lps:ps.length<=08:=by
  have:∀l:List (List aH.Atom),(∀q∈l,q≠[])->l.length<=(l.map List.length).sum:=by
   ext l
   induction l with
   |nil=>ext _;simp
   |cons x r ih=>
    ext h;have h1:x.length≠0:=λe=>h x aw (dF.mp e);have h2:=ih λq hq=>h q (ay _ hq);rw[bo,j7,bx];lia
  have:=this ps po4;lia
 show{q,rfl,{_,bg.of NR},iC (xs:=Ct) (λi Z H2=>∃(di:bn)(gi:cN)(x3:Aap),Z=[some (.ref self),some (.ref pl),some (.ref di),x3]/\i<=ps.length/\SB B H1 H2/\ir P w K H2 B L (c+((ps.take i).map λp=>tn p.length).sum)/\H2 di=some (.dK (gK gi))/\di≠B/\(∀q∈gi,PyData.strOk q.2=true)/\aH.Got bf L g gi (ps.take i).flatten)
  {d,g,_,9,aJ _,SB.refl B H1,by simpa using Tt,s1 _ _ ak.hd,ak.dB,ak.fg,aH.Got.nil ak.nd} ?_ ?_ ?_}
 ·ext i Z H2 hi ⟨di,gi,_,rfl,_,Hf,_⟩;show L7 (bg.of NR) Hf Tt.LH
 ·ext i x Z H2 hx ⟨di,gi,_,rfl,hi,Hf,Zy,hd2,dB2,fg2,got⟩;let(pi,HJ,l,QY,rfl,hl,Ao):=Paired.at' FI hx;have bN:=(aq.mp HJ).1;have mpi:=aE HJ;have Xa:=λb hb=>by simpa using(Uy b).mpr ⟨pi,mpi,hb⟩
  have e1:((ps.take (i+1)).map λp=>tn p.length).sum=((ps.take i).map λp=>tn p.length).sum+tn pi.length:=by rw[bh,HJ,aF,sI];simp
  have e2:(ps.take (i+1)).flatten=(ps.take i).flatten++pi:=by rw[bh,HJ,nM];simp
  have le1:((ps.take (i+1)).map λp=>tn p.length).sum<=tn p.length:=bc (L4 _ _) (bc (LX ps) (sE (by rw[Ux])));have lpi:pi.length<=p.length:=by rw[<-Ux];show Bf (az.mpr ⟨pi,mpi,rfl⟩)
  have uu:=λu hu=>ak.pU u (by
   let(b,hb,h):=aH.cU.mp hu;show aH.cU.mpr {b,Xa b hb,h})
  have gk:=λu hu=>((got.ks u).mp hu).imp id λh=>by let(b,hb,h):=aH.cU.mp h;let(r,hr,hb):=gf.mp hb;show aH.cU.mpr {b,by simpa using(Uy b).mpr {r,kr hr,hb},h}
  have ask:Ask P w K C H2 self A B dx kvs L (c+((ps.take i).map λp=>tn p.length).sum) U di gi pi n:=
   {(ak.se.same s1).sb Tt Hf,Zy,ak.lL,ak.fL,λb hb=>ak.fp b (Xa b hb),bc lpi ak.ln,ak.n8,by have:=ak.lc;lia,hd2,dB2,got.nd,λu hu=>(gk u hu).elim (ak.gu u) λh=>(aH.cU.mp h).elim λb h=>h.2.2,fg2,λu hu=>(gk u hu).elim (ak.gU u) (ak.pU u),uu,ak.lU}
  show{_,9,self,dx,_,9,ask.se.ins,9,_,9,_,9,self,A,B,dx,l,di,kvs,L,_,U,gi,pi,QY,9,ask,bg.of (Hf _ _ (λe=>Tt.LH QY (.inl (e▸hl))) hl),Ao.tp (Hf.tp Tt.o8),po4 pi mpi,λH3 sb3 va3 nc=>?_,λH3 d3 g3 sb3 va3 HQ dB3 fg3 ahD=>?_}
  ·show{_,9,9,_,9,ml ?_};show k1 H3 ((SB.same s1).trans (Hf.trans sb3)) (va3.mono ∅) (aH.Ve got (λu hu hq=>?_) nc Xa);let(b,hb,h):=aH.cU.mp hq;let(r,hr,hb):=gf.mp hb;let(j,hj):=dy.mp hr;have hji:j<i:=by have:=(aq.mp hj).1;rw[aV]at this;lia
   have KI:ps[j]?=some r:=by rw[u3,aL hji]at hj;show hj
   have ap:=kq.mp po1 j i ∅ bN hji;rw[(aq.mp KI).2,(aq.mp HJ).2]at ap;show ap u (aH.cU.mpr ⟨b,hb,h⟩) hu
  ·show{_,9,9,_,9,fB ?_};show{d3,g3,_,9,bN,Hf.trans sb3,?_,HQ,dB3,fg3,?_}
   ·rw[e1,<-vp];show va3
   ·rw[e2];show got.trans got.nd ahD
 ·ext Z H2 ⟨di,gi,_,rfl,_,Hf,Zy,hd2,dB2,fg2,got⟩;rw[(a9 FI),aT]at Zy got;have le2:=LX ps;rw[Ux]at le2;show{_,9,k2 H2 di gi ((SB.same s1).trans Hf) (Zy.mono ∅) hd2 dB2 fg2 (got.perm λb=>?_)};rw[gf];show{λ⟨r,hr,hb⟩=>by simpa using(Uy b).mpr ⟨r,hr,hb⟩,λhb=>(Uy b).mp (by simpa using hb)}
def abn{X:Cx}{tg l:u8}{tl:TE}(hl:PE X l tl)(h:X.K=K:=by rfl):PI X tg l (aec K tl):=h▸il hl
def Ji{H H':Hp}{ys:Aao}{ms:List (List (Option io))}(h:JO K H ys ms)(s:aG H H'):JO K H' ys ms:=by
 induction h with
 |nil=>show .nil
 |cons h _ ih=>
  let(q,e,hq):=h;show .cons {q,e,gh hq s} ih
abbrev Tp(K:Frag)(H:Hp)(L:List aH.Atom)(g:cN):Aao->List aH.Atom->Prop:=Paired λ(v:V)(a:aH.Atom)=>∃l ng qN,v=.ref l/\H l=some (.lst ng)/\d7 K H ng qN/\qN.length<=L.length/\(∀zs∈qN,(a.1,zs)∈L)/\∀h,aH.iM g h->(a.1,a.2.map (aH.ap bf h))∈L->a.2.map (aH.ap bf h)∈qN
def D0{H H':Hp}{L:List aH.Atom}{g:cN}{ys:Aao}{p:List aH.Atom}(h:Tp K H L g ys p)(s:aG H H'):Tp K H' L g ys p:=by
 induction h with
 |nil=>show .nil
 |cons h _ ih=>
  let(l,ng,qN,e,h1,h2,h3):=h;show .cons {l,ng,qN,e,s _ _ h1,iG h2 (cu.same s),h3} ih
def WG{H:Hp}{L:List aH.Atom}{g:cN}{ys:Aao}{p:List aH.Atom}(h:Tp K H L g ys p):∃j5:List Int,j5.length=p.length/\∀(i:Nat) l ng,ys[i]?=some (.ref l)->H l=some (.lst ng)->j5[i]?=some (ng.length:Int):=by
 induction h with
 |nil=>show{[],9,λi l ng e=>by simp at e}
 |cons h _ ih=>
  let(l,ng,qN,rfl,h1,__):=h;let(j5,e1,e2):=ih;show{(ng.length:Int)::j5,by rw[bx,bx,e1],λi l' Xu e h=>?_};cases i with
  |zero=>
   cases e;rw[h1]at h;cases h;rfl
  |succ i=>show e2 i l' Xu (by simpa using e) h
theorem Gz{m:Int}:∀{l:List Int},m∈l->∃j:Nat,l[j]?=some m/\∀i,i<j->l[i]?≠some m
 |[],h=>by cases h
 |x::l,h=>by
  by_cases c:x=m
  ·show{0,by rw[c];rfl,λi hi=>absurd hi (eC _)}
  ·have h':=(aN.mp h).elim (λe=>absurd e.symm c) id;let(j,h1,h2):=Gz h';show{j+1,by simpa using h1,λi hi=>?_};cases i with
   |zero=>exactλe=>c (by simpa using e)
   |succ i=>simpa using h2 i ∅
def uc{xs:Aao}{j:Nat}:qH xs none (some (j:Int))=xs.take j:=by
 unfold qH;rw[HT.Gh,HT.IY,uh,Ec];by_cases h:j<=96
 ·rw[nX h]
 ·rw[xI ∅,aT,dj ∅]
def ub{xs:Aao}{j:Nat}:qH xs (some (j:Int)) none=xs.drop j:=by
 unfold qH;rw[HT.IY,HT.Gh];by_cases h:j<=96
 ·rw[nX h];show dj (by rw[c9];lia)
 ·rw[xI ∅,xH,mF,jG ∅]
def mj(h:q none H):PN Z H q:=h
theorem zj{α β:Type}{R:α->β->Prop}:∀{xs:List α}{ys:List β}(j:Nat),Paired R xs ys->Paired R (xs.take j) (ys.take j)
 |_,_,_,.nil=>by simp only[List.take_nil];show .nil
 |_,_,0,.cons _ _=>by simp only[mF];show .nil
 |_,_,j+1,.cons a r=>by simp only[Ci];show .cons a (zj j r)
theorem zk{α β:Type}{R:α->β->Prop}:∀{xs:List α}{ys:List β}(j:Nat),Paired R xs ys->Paired R (xs.drop j) (ys.drop j)
 |_,_,_,.nil=>by simp only[List.drop_nil];show .nil
 |_,_,0,.cons a r=>by simp only[uh];show .cons a r
 |_,_,j+1,.cons a r=>by simp only[List.drop_succ_cons];show zk j r
theorem xm:∀{ts as:Aah}{g g':cN},aH.fit bf g ts as=some g'->∀q∈g',q∈g\/q.2∈as
 |[],[],g,g',h,q,hq=>by cases h;show .inl hq
 |[],_::_,g,g',h,q,hq=>by cases h
 |_::_,[],g,g',h,q,hq=>by cases h
 |t::ts,a::as,g,g',h,q,hq=>by
  unfold aH.fit at h;split at h
  ·split at h
   ·split at h
    ·show(xm h q hq).imp id λh=>ay _ h
    ·cases h
   ·rcases xm h q hq with h|h
    ·rcases aS.mp h with h|h
     ·show .inl h
     ·rw[aA.mp h];show .inr aw
    ·show .inr (ay _ h)
  ·split at h
   ·show(xm h q hq).imp id λh=>ay _ h
   ·cases h
def gO:bX ["self","part","given","key","aims","counts","place","aim","way","whole"] ["self","part","given"] (bH nN):=gg 21
def Jg{f:bn}{fd:i8}{n:Nat}(F:dH K "mapped_part" "MapSearch.mapped_part" nN f fd)(T:Txt K mg)(O:Own K C)(D:Dq P w K mg base C n):cH P w K mg base dZ (6+2*(n+1)) f fd ["self","part","given"] (Mc P w K C (n+1)):=by
 rw[show 6+2*(n+1)=(07+2*n)+1 by lia];show F.ok gO 71;let(self,A,B,dx,pl,d,kvs,L,c,U,g,p,ys,rfl,ak,jV,lS,iB,k1,k2):=h;have cC:=O.c;have hu:=nQ hr;have hN:=Sy hr;show{_,(aB (dW 3 gO (iq (cP (dc hJ 9 T.jg 21 (bR (pv 1))) (dc hJ 9 T.jg 21 (bR (wW 9 (pF (more:=["terms"]) (fs:=["given"]) (fr:=[2])) (dO (pv 1)) (λ_ _ _ _=>(we (n:=2) 9 (cn (j4 (i:=0)) (cn (j4 (i:=1)) gM)))) (λ_ _ _ _=>(dc (JE) 9 T.jg 21 (bR (je 9 (cR (fs:=["given"]) (fr:=[2])) (abn (pv 1)) (λ_ _ _ _=>(XT hu (pv 1) (pv 0) ags)))))))))))) (aB (dg (bZ (adE hN) (pv 3) (zY (pv 0) 9) 86) (aO (bJ gQ)) cm) (aB (rN (j:=4) gO.nd 9 9 9 (cR (fs:=["self","given"]) (fr:=[0,2])) (dO (pv 1)) (λ_ _ _ _=>(U8 cC D.C3 hr (pv 1) (cP (pv 0) (pv 2)) ∅))) (aB (rN (j:=5) gO.nd 9 9 9 (cR (fs:=[]) (fr:=[])) (dO (pv 4)) (λ_ _ _ _=>(bD (yK) 9 T.dR bC (bR (pv 0))))) (aB (dW 6 gO (jq bO xV xT Ks (pv 5) (bR (bD (La 9) 9 T.aaj 21 (bR (pv 5)))))) (aB (dM bG 9 (dO (bF eA (pv 4) (pv 6) (λ_ _=>9))) (gB 07 gO) (aB (dW 08 gO (cl D.Ou hr (lQ (pv 2) (bF bU (bF eA (pv 1) (pv 6) (λ_ _=>9)) aK (λ_ _=>9)) (pv 07)) ∅)) (aB (dW 09 gO (Gm (bZ CW (pv 08) gQ (cx _)) gQ (U8 cC D.xa hr (pv 0) (cP (cL rQ (ia oY (pv 1) jw (iH (pv 6))) (ia oY (pv 1) (iH (cL iI (pv 6) aK)) jw)) (pv 08)) ∅))) (aO (dg (bZ wg (pv 09) gQ (cx _)) (aO (bJ (pv 09))) cm))))) (aB (Gk hN (zY (pv 0) 9) (pv 3) fJ 9) (aO (bJ gQ))))))))),?_}
 have l8:=bc ak.ln ak.n8;have Ni:=a9 lS
 let mem:List (List (Option io)):=p.map λa=>a.2.map (aH.get g)
 show{_,9,pl,ys,9,.inl {jV,λt1 QD=>?_}};have s1:aG H (upd H t1 (.tup ys)):=aD QD _;have KQ:ba K (upd H t1 (.tup ys)) t1 ys:=ba.of ar;generalize (upd H t1 (.tup ys))=H1 at s1 KQ⊢;show{_,9,pl,9,{_,jr jV s1},Ij (xs:=ys) (λi zs H2=>aG H1 H2/\i<=p.length/\JO K H2 zs ((p.take i).map λa=>a.2.map (aH.get g))) (bq ∅) {aG.refl _,aJ _,.nil} ?_ ?_ ?_}
 ·ext i zs H2 hi ⟨s2,mq,hm⟩;show{jr jV (s1.trans s2),?_};rw[a9 hm,ah,aV];lia
 ·ext i x zs H2 N hx ⟨s2,mq,hm⟩ qp;let(a,ha,Dc):=Paired.at' lS hx;have bN:=(aq.mp ha).1;let(ab,ac,rfl,xi,q9):=Dc.same (s1.trans s2);have lt:(a.2.map V.str).length=a.2.length:=ah _;have fa:=(ak.fp a (aE ha)).1;show{ab,_,_,9,xi,zW ?_};show{_,9,ac,9,⟨_,q9⟩,mW (λj us H3=>H3=H2/\j<=a.2.length/\us=((a.2.take j).map (aH.get g)).map Z6) (by rw[lt];show bq ∅) {9,aJ _,9} ?_ ?_ ?_}
  ·ext j us H3 hj ⟨rfl,An,rfl⟩;show{q9,?_};rw[ah,ah,aV];lia
  ·ext j y us H3 M hy ⟨rfl,An,rfl⟩ hM;let(z,hz,rfl):=jy hy;have lT:=(aq.mp hz).1;show{_,9,d,9,.inl {_,.inl (s2 _ _ (s1 _ _ ak.hd))},_,9,_,kW.k (k:=Sum.inr z) (s2 _ _ (s1 _ _ ak.hd)),?_};have e1:(iQ (gK g) (Sum.inr z:Key)).getD .b7=Z6 (aH.get g z):=by rw[rD];cases aH.get g z<;>rfl
   rw[e1];show hM _ _ {9,lT,?_};rw[bh,hz,aF,aF];rfl
  ·ext us H3 ⟨rfl,_,rfl⟩ l hl;rw[lt,aT];show{l,_,9,.inl {bg.of ar,λt ht=>qp _ _ {s2.trans ((aD hl _).trans (aD ht _)),bN,?_}}};rw[bh,ha,aF];show fK (Ji hm ((aD hl _).trans (aD ht _))) (.cons {t,9,ba.of ar} .nil)
 ext zs H2 ⟨s2,_,hm⟩ l2 fw;rw[Ni,aT]at hm;show{l2,_,9,.inl {bg.of ar,λt2 rY=>?_}};have s3:aG H1 (upd (upd H2 l2 (.lst zs)) t2 (.tup zs)):=s2.trans ((aD fw _).trans (aD rY _));have h32:ba K (upd (upd H2 l2 (.lst zs)) t2 (.tup zs)) t2 zs:=ba.of ar;have hm3:JO K (upd (upd H2 l2 (.lst zs)) t2 (.tup zs)) zs mem:=Ji hm ((aD fw _).trans (aD rY _));generalize (upd (upd H2 l2 (.lst zs)) t2 (.tup zs))=H3 at s3 h32 hm3⊢;show{83,λkt hkt=>?_};have s4:aG H (upd H3 kt (.tup [.ref t1,.ref t2])):=s1.trans (s3.trans (aD hkt _));have Yq:=Vr (ba.of ar) (gh KQ (s3.trans (aD hkt _))) (gh h32 (aD hkt _)) (lS.same s4) (Ji hm3 (aD hkt _)) ak.fp λr hr z hz=>by let(a,__,rfl):=az.mp hr;let(t,__,e):=az.mp hz;show ak.fg _ (aH.get_some e)
 generalize (upd H3 kt (.tup [.ref t1,.ref t2]))=H4 at s4 Yq⊢;have se4:=ak.se.same s4;have va4:=ak.va.same s4;let(vkv,v1,v2,v3):=id va4;show{_,9,_,9,self,C,dx,_,_,9,se4.ins,O.c,O.Rk,9,B,kt,vkv,vc p mem,9,9,v1,Yq,_,9,?_};show dI (λcc=>?_) (λcc=>?_)
 ·have cc:=cc;let(q,hq,eq):=Qv.mpr cc;let(p',m',e',hv):=v3 q hq;let(rfl,rfl):=WZ (eq.symm.trans e');show k1 H4 (SB.same s4) (va4.mono (eG _ _)) (hv g ak.nd 9)
 have aes:=jr jV s4;have aek:=lS.same s4;show{_,9,pl,9,⟨_,aes⟩,ji (xs:=ys) (λi zs H5=>aG H4 H5/\i<=p.length/\Tp K H5 L g zs (p.take i)) (bq ∅) {aG.refl _,aJ _,.nil} ?_ ?_ ?_}
 ·ext i zs H5 hi ⟨s5,mq,hm⟩;show{jr aes s5,?_};rw[a9 hm,aV];lia
 ·ext i x zs H5 N hx ⟨s5,mq,hm⟩ qp;let(a,ha,Dc):=Paired.at' aek hx;have bN:=(aq.mp ha).1;have Mo:=se4.same s5;show{_,rfl,self,dx,_,rfl,Mo.ins,rfl,_,rfl,_,rfl,self,A,B,dx,d,kvs,L,x,a,g,rfl,Mo,Dc.same s5,ak.fp a (aE ha),ak.fL,by have:=ak.lL;lia,s5 _ _ (s4 _ _ ak.hd),ak.nd,ak.gu,ak.fg,λl ng qN H6 s6 sT NT hr h1 h2 h3=>qp _ _ {s5.trans s6,bN,?_}};rw[bh,ha];show fK (D0 hm s6) (.cons ⟨l,ng,qN,rfl,NT,hr,h1,h2,h3⟩ .nil)
 ext fS H5 ⟨s5,_,hm⟩ al vF;rw[Ni,aT]at hm;have s6:aG H4 (upd H5 al (.lst fS)):=s5.trans (aD vF _);have Sv:upd H5 al (.lst fS) al=some (.lst fS):=ar;have VO:=D0 hm (aD vF (.lst fS));generalize (upd H5 al (.lst fS))=H6 at s6 Sv VO⊢;have lav:=a9 VO;let(j5,Sl,e6):=WG VO;show{_,9,al,9,{_,bg.of Sv},ji (xs:=fS) (λi zs H7=>H7=H6/\i<=p.length/\zs=(j5.take i).map V.int) (bq ∅) {9,aJ _,9} ?_ ?_ ?_}
 ·ext i zs H7 hi ⟨rfl,mq,rfl⟩;show{bg.of Sv,?_};rw[ah,aV];lia
 ·ext i x zs H7 N hx ⟨rfl,mq,rfl⟩ qp;let(a,ha,l,ng,qN,rfl,hl,hr,__):=Paired.at' VO hx;have bN:=(aq.mp ha).1;show{_,9,_,_,9,.inl {_,bg.of hl,9},qp _ _ {9,bN,?_}};rw[bh,e6 i l ng hx hl,aF];rfl
 ext DI H7 ⟨e7,_,rfl⟩ cl mv;rw[e7]at mv⊢;rw[lav,dj ∅];have s7:aG H6 (upd H6 cl (.lst (j5.map V.int))):=aD mv _;have So:upd H6 cl (.lst (j5.map V.int)) cl=some (.lst (j5.map V.int)):=ar;generalize (upd H6 cl (.lst (j5.map V.int)))=H7 at s7 So⊢;show{_,9,.inl {9,_,bg.of So},_,9,cl,j5,9,bg.of So,?_,λm hm ahp=>?_}
 ·rw[Sl];show Ck.mpr iB
 let(j,hj,Al):=Gz hm;show{cl,j5,m,j,9,9,So,hj,Al,?_};have hjp:j<p.length:=by have:=(aq.mp hj).1;lia
 have s47:=s6.trans s7;have hm7:=D0 VO s7;have ahz:=s7 _ _ Sv;obtain⟨va,VF,haj⟩:∃va,fS[j]?=some va/\True:={_,av ∅,trivial};let(a,ha,al_,ng,qN,rfl,NN,HH,lz,snd,cmp):=Paired.at' hm7 VF;obtain⟨vy,hvy⟩:∃vy,ys[j]?=some vy:={_,av ∅};let(a',ha',hya):=Paired.at' aek hvy;rw[ha]at ha';cases ha';let(ab,ac,rfl,xi,q9):=hya.same s47;have zV:=s4.trans s47;have LR:=ak.va.same zV;have Ud:=ak.se.same zV
 let rest:List aH.Atom:=p.take j++p.drop (j+1)
 have aan:rest.length+1=p.length:=by rw[aC,aV,c9];lia
 have pm:∀b,b∈p↔b=a\/b∈rest:=λb=>by
  have e:p=p.take j++a::p.drop (j+1):=by
   conv=>lhs;rw[<-jX j p]
   rw[fG hjp,(aq.mp ha).2]
  conv=>lhs;rw[e]
  change b∈p.take j++a::p.drop (j+1)↔b=a\/b∈p.take j++p.drop (j+1);simp only[aS,aN];show{λh=>h.elim (λh=>.inr (.inl h)) λh=>h.elim .inl λh=>.inr (.inr h),λh=>h.elim (λh=>.inr (.inl h)) λh=>h.elim .inl λh=>.inr (.inr h)}
 have fa:=ak.fp a (aE ha);have tnp:tn p.length=08*tn rest.length+1:=by rw[<-aan];rfl
 show{_,rfl,_,rfl,_,_,_,_,rfl,rfl,bg.of ahz,iK VF,al_,rfl,{_,bg.of NN},iC (xs:=ng) (λi Z H8=>∃x7 x8 x9:Aap,Z=[some (.ref self),some (.ref pl),some (.ref d),some (.ref kt),some (.ref al),some (.ref cl),some (.int j),x7,x8,x9]/\i<=qN.length/\SB B H7 H8/\ir P w K H8 B L (c+i*tn rest.length)/\∀row∈qN.take i,∀way,aH.fit bf g a.2 row=some way->¬aH.sP bf L way rest)
  {_,_,_,9,aJ _,SB.refl _ _,by simpa using LR,λrow h=>by simp at h} ?_ ?_ ?_}
 ·ext i Z H8 hi ⟨_,_,_,rfl,_,BQ,_⟩;show L7 (bg.of NN) BQ LR.LH
 ·ext i x Z H8 hx ⟨_,_,_,rfl,hi,BQ,Ts,Ht⟩;let(row,kK,ra,rfl,HI):=Paired.at' HH hx;have bN:=(aq.mp kK).1;have ZC:=BQ.tp LR.o8;have R3:=snd row (aE kK);have aeB:=ak.fL _ R3;have aer:=L7 (jr jV zV) BQ LR.LH;have lg:g.length<=1000:=by have:=jU ak.nd ak.gU;have h2:=ak.lU;unfold keys at this;rw[ah]at this;lia
  have ZJ:∀σ' H9,SB B H7 H9->ir P w K H9 B L (c+(i+1)*tn rest.length)->(∀way,aH.fit bf g a.2 row=some way->¬aH.sP bf L way rest)->(∃x7 x8 x9:Aap,σ'=[some (.ref self),some (.ref pl),some (.ref d),some (.ref kt),some (.ref al),some (.ref cl),some (.int j),x7,x8,x9])->
    ∃x7 x8 x9:Aap,σ'=[some (.ref self),some (.ref pl),some (.ref d),some (.ref kt),some (.ref al),some (.ref cl),some (.int j),x7,x8,x9]/\i+1<=qN.length/\SB B H7 H9/\ir P w K H9 B L (c+(i+1)*tn rest.length)/\∀row∈qN.take (i+1),∀way,aH.fit bf g a.2 row=some way->¬aH.sP bf L way rest:=λσ' H9 ZR va9 no9 ⟨x7,x8,x9,e⟩=>{x7,x8,x9,e,bN,ZR,va9,λr hr=>by
   rw[bh,kK]at hr;rcases aS.mp hr with hr|hr
   ·show Ht r hr
   ·have:r=row:=by simpa using hr
    rw[this];show no9}
  show{_,rfl,_,rfl,_,rfl,_,_,_,_,rfl,rfl,aer,iK hvy,_,_,_,_,rfl,rfl,dh xi ZC,rfl,_,rfl,d,ac,ra,g,a.2,row,rfl,(BQ _ _ ak.dB (zV _ _ ak.hd)),lg,ak.nd,dh q9 ZC,dh HI ZC,by have:=fa.1;lia,by have:=aeB.1;show bc this 7,λz hz=>bc (fa.2.2 z hz).1 7,λH9 s9 e9=>?_,λwp g9 H9 s9 hw0 hw9 e9=>?_}
  ·show{_,9,9,_,9,ml ?_};show{_,9,9,_,9,fB (ZJ _ H9 (BQ.trans (SB.same s9)) ((Ts.same s9).mono (by rw[uF];lia)) (λway hw=>by rw[e9]at hw;cases hw) ⟨_,_,_,rfl⟩)}
  ·show{_,9,9,_,9,fB ?_};have YH:=aH.Ju ak.nd e9 R3;have ZR:=BQ.trans (SB.same s9);have se9:=(Ud.sb LR BQ).same s9;have wB:wp≠B:=λe=>by let(kv,h1,__):=Ts;let(u,hu):=h1.some;rw[e,hu]at hw0;cases hw0
   have aeq:=jr aer s9;show{_,9,self,dx,_,9,se9.ins,9,_,9,mj {_,9,_,9,pl,ys,9,aeq,λc1 QN=>?_}};rw[uc];have kD:aG H9 (upd H9 c1 (.lst (ys.take j))):=aD QN _;have KR:upd H9 c1 (.lst (ys.take j)) c1=some (.lst (ys.take j)):=ar;generalize (upd H9 c1 (.lst (ys.take j)))=jC at kD KR⊢;show{_,9,_,9,_,_,9,9,_,9,mj {pl,ys,9,jr aeq kD,λc2 uS=>?_}};rw[show((j:Int)+1)=((j+1:Nat):Int)from rfl,ub];have oq:aG jC (upd jC c2 (.lst (ys.drop (j+1)))):=aD uS _;have KQ:upd jC c2 (.lst (ys.drop (j+1))) c2=some (.lst (ys.drop (j+1))):=ar;generalize (upd jC c2 (.lst (ys.drop (j+1))))=pW at oq KQ⊢;show{c1,c2,_,_,9,9,oq _ _ KR,KQ,by rw[aV,c9,bW];lia,λc3 hc3=>?_};have qm:aG pW (upd pW c3 (.lst (ys.take j++ys.drop (j+1)))):=aD hc3 _;have V6:upd pW c3 (.lst (ys.take j++ys.drop (j+1))) c3=some (.lst (ys.take j++ys.drop (j+1))):=ar;generalize (upd pW c3 (.lst (ys.take j++ys.drop (j+1))))=WR at qm V6⊢;have IZ:=kD.trans (oq.trans qm);have ur:∀u,u∈aH.jI bf rest->u∈aH.jI bf p:=λu hu=>by let(b,hb,h):=aH.cU.mp hu;show aH.cU.mpr {b,(pm b).mpr (.inr hb),h}
   have ua:∀u,u∈aH.jI bf [a]->u∈aH.jI bf p:=λu hu=>by let(b,hb,h):=aH.cU.mp hu;show aH.cU.mpr {b,(pm b).mpr (.inl (aA.mp hb)),h}
   have mi:(i+1)*tn rest.length<=08*tn rest.length:=BF _ (by have:=ak.lL;lia);have mi2:(i+1)*tn rest.length=i*tn rest.length+tn rest.length:=by rw[uF,Nat.one_mul]
   have ask:Ask P w K C WR self A B dx kvs L (c+i*tn rest.length) U wp g9 rest n:=
    {se9.same IZ,(Ts.same s9).same IZ,ak.lL,ak.fL,λb hb=>ak.fp b ((pm b).mpr (.inr hb)),by have:=ak.ln;lia,by have:=ak.n8;lia,by have:=ak.lc;lia,IZ _ _ hw9,wB,YH.nd,λu hu=>((YH.ks u).mp hu).elim (ak.gu u) λh=>(aH.cU.mp h).elim λb h=>h.2.2,λq hq=>(xm e9 q hq).elim (ak.fg q) λh=>(aeB.2.2 _ h).2,λu hu=>((YH.ks u).mp hu).elim (ak.gU u) λh=>ak.pU u (ua u h),λu hu=>ak.pU u (ur u hu),ak.lU}
   show{_,9,self,A,B,dx,c3,wp,kvs,L,_,U,g9,rest,_,9,ask,bg.of V6,?_,λWQ Xn WY nc=>?_,λWQ d13 g13 Xn WY ahy ahJ ahF afP=>?_}
   ·have NI:=((lS.same zV).tp (ZC.trans (cu.same s9))).same IZ;show fK (zj j NI) (zk (j+1) NI)
   ·show{_,9,9,_,9,fB ?_};show ZJ _ WQ (ZR.trans ((SB.same IZ).trans Xn)) (WY.mono ∅) (λway hw=>?_) ⟨_,_,_,rfl⟩;rw[e9]at hw;cases hw;show nc
   ·show{_,9,9,_,9,ml ?_};show{_,9,k2 WQ d13 g13 ((SB.same zV).trans (ZR.trans ((SB.same IZ).trans Xn))) (WY.mono ∅) ahy ahJ ahF (aH.UH ak.nd e9 R3 afP pm)}
 ·ext Z H8 ⟨_,_,_,rfl,_,BQ,Ts,Ht⟩;rw[(a9 HH),aT]at Ht;have nc:=aH.Km ak.nd cmp Ht pm;have ad7:=pf (pf Yq (cu.same s47)) (BQ.tp LR.o8);let(kv8,w1,w2,w3):=Ts;have mi:ng.length*tn rest.length<=08*tn rest.length:=BF _ (by have:=ak.lL;lia);have lc:=ak.lc;show{_,9,self,C,dx,_,_,9,(Ud.sb LR BQ).ins,O.c,O.Rk,9,_,9,B,kt,kv8,vc p mem,9,9,w1,ad7,8,k1 _ ((SB.same zV).trans (BQ.trans SB.upd)) ((ir.put w1 w2 w3 ad7 (aH.aaR ak.nd nc)).mono ∅) nc}
def step(acc:Aah)(t:io):Aah:=if bf t=true then(if t∈acc then acc else acc++[t])else acc
def fA(fl:Aah):Aah:=fl.foldl step []
def Yh(acc:Aah)(t:io):(step acc t).length<=acc.length+1:=by
 unfold step;split
 ·split
  ·lia
  ·rw[aC];show au _
 ·lia
theorem Nm:∀(fl acc:Aah),(fl.foldl step acc).length<=acc.length+fl.length
 |[],acc=>by simp
 |t::r,acc=>by have h1:=Nm r (step acc t);have h2:=Yh acc t;rw[ig,bx];lia
def Af(fl:Aah):(fA fl).length<=fl.length:=by have:=Nm fl [];simpa[fA]using this
def W2(fl:Aah)(t:io):fA (fl++[t])=step (fA fl) t:=by unfold fA;rw[qe];rfl
def rW(acc:Aah):List (Key×V):=acc.map λt=>(Sum.inr t,V.bl true)
def any_keys(acc:Aah)(t:io):((rW acc).any λkv=>decide (kv.1=(Sum.inr t:Key)))=decide (t∈acc):=by
 unfold rW;rw[mH,fu,iD];constructor
 ·ext⟨x,hx,e⟩;have e':=aU e;injection e' with e';show bb (e'▸hx)
 ·ext h;show{t,aU h,bb rfl}
def XB(acc:Aah)(t:io):putK (rW acc) (Sum.inr t:Key) (V.bl true)=rW (if t∈acc then acc else acc++[t]):=by
 unfold putK;rw[any_keys];by_cases h:t∈acc
 ·rw[bb h,aL rfl,aL h];unfold rW;rw[b8];show b4 λx _=>?_;change(if(Sum.inr x:Key)=Sum.inr t then((Sum.inr x:Key),V.bl true)else(Sum.inr x,V.bl true))=_;split<;>rfl
 ·rw[cz h,aI bL,aI h];unfold rW;rw[aF];rfl
def Vp(acc:Aah):((rW acc).map λkv=>kV kv.1)=acc.map V.str:=by unfold rW;rw[b8];rfl
def cI(H H':Hp):Prop:=∀b xs,H b=some (.tup xs)->H' b=some (.tup xs)
def cI.trans(a:cI H H1)(b:cI H1 H2):cI H H2:=λc xs h=>b c xs (a c xs h)
def cI.of{H H':Hp}(a:aG H H'):cI H H':=λc xs h=>a c _ h
def cI.refl(H:Hp):cI H H:=λ_ _ h=>h
def cI.new(a:cI H H1)(h:H1 p=none)(o:HO):cI H (upd H1 p o):=λb xs q=>by rw[aM (bw (a b xs q) h)];show a b xs q
def cI.lst(a:cI H H1)(h:H1 p=some (.lst ys))(o:HO):cI H (upd H1 p o):=λb xs q=>by rw[aM (RZ (a b xs q) h λz=>by cases z)];show a b xs q
def cI.ext(hf:H f=some (.lst ys))(a:Ext f H H1):cI H H1:=λb xs q=>a b _ (RZ q hf λz=>by cases z) q
def eM.iX{K:Frag}(h:eM K f H)(a:Ext f H H1):cI H H1:=by let(__,__,__,hf):=h;show cI.ext hf a
def AG(H:Hp)(v:V)(a:io×Aah):Prop:=∃(p t:bn),v=.ref p/\H p=some (.tup [.str a.1,.ref t])/\H t=some (.tup (a.2.map V.str))
abbrev dD(H:Hp):Aao->Aaa->Prop:=Paired (AG H)
def AG.keep(a:cI H H')(h:AG H v b):AG H' v b:=by let(p,t,e,h1,h2):=h;show{p,t,e,a _ _ h1,a _ _ h2}
def dD.keep(a:cI H H')(h:dD H vs aP):dD H' vs aP:=Paired.imp' (λ_ _ q=>q.keep a) h
def Ra(H:Hp)(v:V)(hz:Aah)(aP:Aaa):Prop:=∃(q h a:bn)(vs:Aao),v=.ref q/\H q=some (.tup [.ref h,.ref a])/\H h=some (.tup (hz.map V.str))/\H a=some (.tup vs)/\dD H vs aP
def Ra.keep{H H':Hp}{v:V}{hz:Aah}{aP:Aaa}(t:cI H H')(x:Ra H v hz aP):Ra H' v hz aP:=by let(q,h,a,vs,e,h1,h2,h3,h4):=x;show{q,h,a,vs,e,t _ _ h1,t _ _ h2,t _ _ h3,dD.keep t h4}
def Paired.ZP(h:Paired F l₁ aac)(q:F a b):Paired F (l₁++[a]) (aac++[b]):=h.snoc q
theorem Paired.app{α β:Type}{F:α->β->Prop}:∀{l₁ m₁:List α}{aac m₂:List β},Paired F l₁ aac->Paired F m₁ m₂->Paired F (l₁++m₁) (aac++m₂)
 |_,_,_,_,.nil,h=>h
 |_,_,_,_,.cons a t,h=>.cons a (Paired.app t h)
theorem Paired.at:∀{l₁:List α}{aac:List β}{i:Nat}{x:α},Paired F l₁ aac->l₁[i]?=some x->∃y,aac[i]?=some y/\F x y
 |_,_,_,_,.nil,e=>by simp at e
 |_,_,0,_,.cons r _,e=>by simp at e;subst e;show⟨_,rfl,r⟩
 |_,_,i+1,x,.cons _ t,e=>by let(y,h1,h2):=Paired.at (i:=i) (x:=x) t (by simpa using e);show{y,by simpa using h1,h2}
def bz(aP:Aaa):Aah:=(aP.map (·.2)).flatten
def SG(l:Aaa)(a:io×Aah):bz (l++[a])=bz l++a.2:=by unfold bz;simp
def pC{aP:Aaa}(h:aP[i]?=some a):bz (aP.take (i+1))=bz (aP.take i)++a.2:=by rw[bh,h];show SG _ _
def tP{zs:Aah}(h0:0<=i)(h1:i<(zs.length:Int)):∃z,z∈zs/\uX (zs.map V.str) i=some (.str z):=by
 obtain⟨z,hz⟩:∃z,zs[i.toNat]?=some z:={_,av ∅};show{z,aE hz,?_};have e:i=((i.toNat:Nat):Int):=by lia
 rw[e];show iK (by rw[aZ,hz];rfl)
theorem Jl:∀l:Aaa,(∀a∈l,a.2.length<=4)->(bz l).length<=4*l.length
 |[],_=>au _
 |a::r,q=>by have h1:=Jl r λts B1=>q ts (ay _ B1);have h2:=q a aw;change(a.2++bz r).length<=_;rw[aC,bx];lia
def gF{aP:Aaa}{z:io}:z∈bz aP↔∃a∈aP,z∈a.2:=by
 unfold bz;rw[gf];constructor
 ·ext⟨l,h1,h2⟩;let(a,ha,rfl):=az.mp h1;show⟨a,ha,h2⟩
 ·ext⟨a,ha,h⟩;show{a.2,bI ha,h}
def um(z:io):io:=("?":io)++z
def kX:Aah:=eX.map um
end
inductive P0(K:Frag)(vs:Aao)(H:Hp)(Q:VK)(_x3:XK):Prop
 |mk (f nl ul vl:bn) (nj us ws:Aah) (_:vs=[.ref f,.ref nl,.ref ul,.ref vl]) (_:eM K f H) (_:(nl≠f/\ul≠f/\vl≠f)) (_:(H nl=some (.lst (nj.map V.str))/\1<=nj.length/\nj.length<=100)) (_:(H ul=some (.lst (us.map V.str))/\1<=us.length/\us.length<=100)) (_:(H vl=some (.lst (ws.map V.str))/\1<=ws.length/\ws.length<=100)) (_:∀(r:bn)(a:io×Aah)(H':Hp),eM K f H'->Ext f H H'->AG H' (.ref r) a->a.1∈nj->1<=a.2.length->a.2.length<=4->(∀z∈a.2,z∈us\/z∈ws)->Q (.ref r) H')
section
variable{P:dL}{w:i3}{K:Frag}{mg:Aad}{base:i5}
def afB{i:Int}(h0:0<=i):∃n:Int,uX [V.int 2,V.int 1,V.int 3] (i % 3)=some (.int n)/\1<=n/\n<=4:=by
 have h1:=og i (show(3:Int)≠0 by decide);have h2:=lG i (show(0:Int)<3 by decide);generalize i % 3=j at h1 h2;have c:j=0\/j=1\/j=2:=by lia
 rcases c with rfl|rfl|rfl
 ·show{2,9,7,7}
 ·show{1,9,7,7}
 ·show{3,9,7,7}
def mK:bX ["_law_feed_here","_law_names","_law_unknowns_here","_law_values","_law_at","_law_long","_law_terms_here","_law_k","_law_term"] ["_law_feed_here","_law_names","_law_unknowns_here","_law_values"] (bH Gf):=gg 21
def X8{f:bn}{fd:i8}(F:dH K "_law_atom" "_law_atom" Gf f fd)(T:Txt K mg)(D:Dr P w K mg base):cH P w K mg base dZ 2 f fd ["_law_feed_here","_law_names","_law_unknowns_here","_law_values"] (P0 K):=by
 show F.ok mK 71;obtain⟨fe,nl,ul,vl,nj,us,ws,rfl,hF,⟨BY,nul,Fu⟩,⟨Am,VM,KG⟩,⟨NL,QA,FF⟩,⟨HD,hv1,hv2⟩,k⟩:=h;have ln:(nj.map V.str).length=nj.length:=ah _;have lu:(us.map V.str).length=us.length:=ah _;have lv:(ws.map V.str).length=ws.length:=ah _;show cut 3 (λZ H2=>∃(at' lg:Int)(x6 x7 x8:Aap),Z=[some (.ref fe),some (.ref nl),some (.ref ul),some (.ref vl),some (.int at'),some (.int lg),none,none,none]/\0<=at'/\at'<(nj.length:Int)/\1<=lg/\lg<=4/\eM K fe H2/\Ext fe H H2)
  {_,(aB (dW 6 mK (dS gS)) (aB (dM bG 9 (jL 9 T.kZ (bR (pv 5))) (gB 07 mK) (aB (dW 08 mK (bF eA (pv 2) (cl D.fQ hr (cP (pv 0) (bD cJ 9 T.dR bC (bR (pv 2))))) (λ_ _=>9))) (aB (dg (bZ vY (cl D.fQ hr (cP (pv 0) aK)) aK (cx _)) (aO (dW 08 mK (bF eA (pv 3) (cl D.fQ hr (cP (pv 0) (bD cJ 9 T.dR bC (bR (pv 3))))) (λ_ _=>9)))) cm) (aO (gn (jq bO gX gW qW (pv 6) (bR (pv 08)))))))) (aO (bJ (iq (cP (bF eA (pv 1) (pv 4) (λ_ _=>9)) (dc hJ 9 T.jg 21 (bR (pv 6))))))))),?_} (λt2 ht=>{_,(aB (dW 4 mK (cl D.fQ hr (cP (pv 0) (bD cJ 9 T.dR bC (bR (pv 1)))))) (aB (dW 5 mK (bF eA (dS (lQ aK aK aK)) (cL rP (pv 4) aK) (λ_ _=>9))) (aB (dg (bZ vY (cl D.fQ hr (cP (pv 0) aK)) aK (cx _)) (aO (dW 5 mK (cL iI aK (cl D.fQ hr (cP (pv 0) aK))))) cm) ht))),λtl=>?_})
 ·ext Z H2 ⟨at',lg,_,_,_,rfl,a0,a1,l0,l1,mw,lC⟩;show{77,λt ht=>?_};have nt:=mw.vC ht;have VI:H t=none:=lC.none nt ht;show{_,rfl,lg,rfl,by lia,by lia,KW (lo:=0) (n:=lg.toNat)
   (λj Z H3=>∃(y7 y8:Aap)(ts:Aah),Z=[some (.ref fe),some (.ref nl),some (.ref ul),some (.ref vl),some (.int at'),some (.int lg),some (.ref t),y7,y8]/\eM K fe H3/\Ext fe H H3/\H3 t=some (.lst (ts.map V.str))/\ts.length=j/\∀z∈ts,z∈us\/z∈ws)
   {none,none,[],9,mw.new ht _,lC.new ht _,ar,9,λz h=>by cases h} ?_ ?_}
  ·ext j Z H3 hj ⟨y7,y8,ts,rfl,rh,sd,KA,bN,B1⟩;show{_,9,_,9,_,9,_,_,9,.inl {_,bg.of (sd _ _ nul NL),9},fe,_,9,rh,8,8,λi4 H4 i0 i1 uT pS=>?_};have aeD:=sd.trans pS;let(z,hz,ev):=tP (zs:=us) i0 ∅;show{_,_,_,_,9,9,bg.of (aeD _ _ nul NL),ev,?_};have ht4:=pS _ _ nt KA;show{_,9,fe,6,9,uT,7,7,λi5 H5 j0 j1 xj sV=>{9,_,9,?_}};have SM:=aeD.trans sV;have QC:=sV _ _ nt ht4;show dI (λc=>?_) (λc=>?_)
   ·show{_,9,_,9,_,9,_,_,9,.inl {_,bg.of (SM _ _ Fu HD),9},fe,_,9,xj,8,8,λi6 H6 k0 k1 vH oE=>?_};let(y,hy,ev6):=tP (zs:=ws) k0 ∅;have HE:=oE _ _ nt QC;show{_,_,_,_,9,9,bg.of ((SM.trans oE) _ _ Fu HD),ev6,?_};show{_,9,.inl {9,_,bg.of HE},_,9,_,_,_,9,9,HE,by rw[ah];show bq ∅,?_};show{_,_,ts++[y],9,vH.lst HE nt _,(SM.trans oE).own VI _,by rw[ar,aF];rfl,by rw[aC,bN];rfl,λz' h=>?_};rcases aS.mp h with q|q
    ·show B1 z' q
    ·rw[aA.mp q];show .inr hy
   ·show{_,9,.inl {9,_,bg.of QC},_,9,_,_,_,9,9,QC,by rw[ah];show bq ∅,?_};show{_,_,ts++[z],9,xj.lst QC nt _,SM.own VI _,by rw[ar,aF];rfl,by rw[aC,bN];rfl,λz' h=>?_};rcases aS.mp h with q|q
    ·show B1 z' q
    ·rw[aA.mp q];show .inl hz
  ·ext Z H3 ⟨y7,y8,ts,rfl,rh,sd,KA,bN,B1⟩;let(z,hz,ev):=tP (zs:=nj) a0 ∅;show{_,9,_,9,_,_,_,_,9,9,bg.of (sd _ _ BY Am),ev,?_};show{_,9,t,_,9,.inl {bg.of KA,λtt pQ=>?_}};show{83,λap hap=>?_};have hFa:=(rh.new pQ (.tup (ts.map V.str))).new hap (.tup [.str z,.ref tt]);have nta:tt≠ap:=λe=>by rw[<-e,ar]at hap;cases hap
   show k ap (z,ts) _ hFa ((sd.new pQ _).new hap _) {ap,tt,9,ar,by rw[aM nta,ar]} hz (by change 1<=ts.length;lia) (by change ts.length<=4;lia) B1
 ·--at,long
  show{_,9,_,9,_,_,9,.inl {_,bg.of Am,9},fe,_,9,hF,8,8,λi1 H1 a0 a1 FO DE=>?_};show{(by change 3<=ca;decide),λp hp=>?_};let(lg,ev,l0,l1):=afB a0;show{_,9,_,_,9,9,(by change(0:Int)<3;decide),_,_,_,_,9,9,bg.of ar,ev,?_};have mw:=FO.new hp (.lst [.int 2,.int 1,.int 3]);have lC:=DE.new hp (.lst [.int 2,.int 1,.int 3]);show{_,9,fe,08,9,mw,7,7,λi3 H3 c0 c1 rh sd=>{9,_,9,?_}};show dI (λc=>?_) (λc=>?_)
  ·show{_,9,fe,4,9,rh,7,7,λi4 H4 d0 d1 uT pS=>{_,_,9,9,?_}};show tl _ _ {i1,_,none,none,none,9,a0,8,8,8,uT,(lC.trans sd).trans pS}
  ·show tl _ _ {i1,lg,none,none,none,9,a0,8,l0,l1,rh,lC.trans sd}
inductive PZ(K:Frag)(vs:Aao)(H:Hp)(Q:VK)(_x3:XK):Prop
 |mk (f al:bn) (fS:Aao) (aP:Aaa) (_:vs=[.ref f,.ref al]) (_:eM K f H) (_:al≠f) (_:H al=some (.lst fS)) (_:dD H fS aP) (_:1<=aP.length) (_:aP.length<=100) (_:(∀a∈aP,1<=a.2.length/\a.2.length<=4)) (_:∀(r:bn)(hz:Aah)(H':Hp),eM K f H'->Ext f H H'->H' r=some (.tup (hz.map V.str))->hz.length<=4->(∀z∈hz,z∈bz aP)->Q (.ref r) H')
def yn:bX ["_law_feed_here","_law_atoms","_law_terms_here","_law_name","_law_some"] ["_law_feed_here","_law_atoms"] (bH Gb):=gg 21
theorem YQ:∀{aP:Aaa},1<=aP.length->(∀a∈aP,1<=a.2.length/\a.2.length<=4)->1<=(bz aP).length
 |[],h,_=>absurd h 7
 |a::r,_,g=>by have:=(g a aw).1;change 1<=(a.2++bz r).length;rw[aC];lia
def X6{f:bn}{fd:i8}(F:dH K "_law_head" "_law_head" Gb f fd)(T:Txt K mg)(D:Dr P w K mg base):cH P w K mg base dZ 2 f fd ["_law_feed_here","_law_atoms"] (PZ K):=by
 show F.ok yn 71;let(fe,al,fS,aP,rfl,hF,nal,vF,fC,oA,fw,hg,k):=h;show{_,(aB (ka (i:=2) yn.nd 9 (Or.inr 9) (dS gS)) (aB (dM bG 9 (dO (pv 1)) (kG 9 (cn (gB 3 yn) (cn (gB 4 yn) gM))) (aO (gn (jq bO eF eE vZ (pv 2) (bR (pv 4)))))) (aO (bJ (dc hJ 9 T.jg 21 (bR (je 9 (cR (fs:=["_law_terms_here","_law_feed_here"]) (fr:=[2,0])) (jL 9 T.kZ (bR (cl D.fQ hr (cP (pv 0) aK)))) (λ_ _ _ _=>(bF (xg) (pv 1) (cl D.fQ hr (cP (pv 2) (bD (yK) 9 T.dR bC (bR (pv 1))))) (λ_ _=>9)))))))))),?_}
 show{77,λt ht=>?_};have nt:=hF.vC ht;have fl:∀n,(bz (aP.take n)).length<=4*aP.length:=λn=>by
  have h1:=Jl (aP.take n) λa ha=>(hg a (kr ha)).2;have h2:(aP.take n).length<=aP.length:=by rw[aV];lia
  lia
 show{_,rfl,al,rfl,{fS,bg.of (by rw[aM (bw vF ht)];show vF)},iC
  (λi Z H2=>∃(x3 x4:Aap),Z=[some (.ref fe),some (.ref al),some (.ref t),x3,x4]/\eM K fe H2/\Ext fe H H2/\H2 t=some (.lst ((bz (aP.take i)).map V.str))) {none,none,9,hF.new ht _,(Ext.refl fe H).new ht _,ar} (λi Z H2 _ hq=>by(let(__,__,__,__,ex,__):=hq;show bg.of (ex _ _ nal vF))) ?_ ?_}
 ·ext i x Z H2 hx ⟨x3,x4,rfl,mw,lC,rY⟩;let(a,vD,p,tt,rfl,hp,pQ):=Paired.at fC hx;have g:=hg a (aE vD);have tu:=hF.iX lC;have lf:=fl i;show{p,_,9,ba.of (tu _ _ hp),9,_,_,9,_,_,9,9,?_};show{_,9,.inl {9,_,bg.of rY},_,9,_,_,_,_,9,9,rY,ba.of (tu _ _ pQ),?_,?_}
  ·rw[ah,ah];show bE (bq ∅)
  ·show{_,_,9,mw.lst rY nt _,lC.own ht _,?_};rw[ar,pC vD,aF]
 ·ext Z H2 ⟨x3,x4,rfl,mw,lC,rY⟩;rw[(a9 fC),aT]at rY;have lf:=fl aP.length;rw[aT]at lf;have lp:=YQ oA hg;show{_,9,fe,5,9,mw,7,7,λn H3 n0 n1 rh sd=>?_};show{n,rfl,by lia,by lia,λj m ys H4=>j<=n.toNat/\m=n.toNat -j/\eM K fe H4/\Ext fe H3 H4/\∃hz:Aah,ys=hz.map V.str/\hz.length=j/\∀z∈hz,z∈bz aP,{_,aJ _,9,rh,Ext.refl _ _,[],9,9,λz h=>by cases h},?_};ext j m ys H4 ⟨hj,rfl,uT,pS,hz,rfl,hlz,Ai⟩;have ly:(hz.map V.str).length=j:=by rw[ah,hlz]
  have ht4:=pS _ _ nt (sd _ _ nt rY);have lt4:((bz aP).map V.str).length=(bz aP).length:=ah _;by_cases bN:j<n.toNat
  ·show .inr {bN,by rw[ly];show bq ∅,?_};ext v H5 ⟨rfl,rfl⟩;show{_,9,_,9,_,9,_,_,9,.inl {_,bg.of ht4,9},fe,_,9,uT,8,8,λi6 H6 k0 k1 vH oE=>?_};let(z,hzm,ev):=tP (zs:=bz aP) k0 ∅;show{_,_,_,_,9,9,bg.of (oE _ _ nt ht4),ev,?_};show{n.toNat -(j+1),8,bN,9,vH,pS.trans oE,hz++[z],by rw[aF];rfl,by rw[aC,hlz];rfl,λz' h=>?_};rcases aS.mp h with q|q
   ·show Ai z' q
   ·rw[aA.mp q];show hzm
  ·show .inl {by change n.toNat<=j;lia,by rw[ly];show bE (bq ∅),λl hl=>?_};show{l,_,9,.inl {bg.of ar,λtp htp=>k tp hz _ ((uT.new hl _).new htp _) ((((lC.trans sd).trans pS).new hl _).new htp _) ar ∅ Ai}}
def GoodW(nj:Aah)(aP:Aaa):Prop:=∀a∈aP,a.1∈nj/\1<=a.2.length/\a.2.length<=4/\∀z∈a.2,z∈kX\/z∈eX
inductive Fj(K:Frag)(vs:Aao)(H:Hp)(Q:VK)(_x3:XK):Prop
 |mk (f nl:bn) (most:Int) (nj:Aah) (_:vs=[.ref f,.ref nl,.int most]) (_:eM K f H) (_:nl≠f) (_:(H nl=some (.lst (nj.map V.str))/\1<=nj.length/\nj.length<=100)) (_:1<=most) (_:most<=20) (_:∀(r:bn)(hz:Aah)(aP:Aaa)(H':Hp),eM K f H'->Ext f H H'->Ra H' (.ref r) hz aP->1<=aP.length->(aP.length:Int)<=2*most->GoodW nj aP->hz.length<=4->(∀z∈hz,z∈bz aP)->Q (.ref r) H')
structure Dr2(P:dL)(w:i3)(K:Frag)(mg:Aad)(base:i5):Prop extends Dr P w K mg base where
 EF:b6 P w K mg base 2 "_law_words" ["_law_feed_here","_law_many"] (IP K)
 ad2:b6 P w K mg base 2 "_law_atom" ["_law_feed_here","_law_names","_law_unknowns_here","_law_values"] (P0 K)
 ad0:b6 P w K mg base 2 "_law_head" ["_law_feed_here","_law_atoms"] (PZ K)
def kY:bX ["_law_feed_here","_law_names","_law_most","_law_unknowns_here","_law_values","_law_many","_law_atoms"] ["_law_feed_here","_law_names","_law_most"] (bH wM):=gg 21
def WX:(eX.all λz=>decide (z.length<=08))=true:=by decide+kernel
def afs:("?":io).length=1:=by decide+kernel
def M3{f:bn}{fd:i8}(F:dH K "_law_question" "_law_question" wM f fd)(T:Txt K mg)(D:Dr2 P w K mg base):cH P w K mg base dZ 3 f fd ["_law_feed_here","_law_names","_law_most"] (Fj K):=by
 show F.ok kY 71;obtain⟨fe,nl,most,nj,rfl,hF,BY,⟨Am,VM,KG⟩,hm1,VP,k⟩:=h;have big:10000<=ca:=by rw[bW];decide
 show cut 4 (λZ H2=>∃(ul vl:bn)(us ws:Aah)(x':Int),Z=[some (.ref fe),some (.ref nl),some (.int most),some (.ref ul),some (.ref vl),some (.int x'),none]/\(ul≠fe/\vl≠fe)/\(H2 ul=some (.lst (us.map V.str))/\1<=us.length/\us.length<=100)/\(H2 vl=some (.lst (ws.map V.str))/\1<=ws.length/\ws.length<=100)/\(∀z∈us,z∈kX)/\(∀z∈ws,z∈eX)/\1<=x'/\x'<=2*most/\eM K fe H2/\Ext fe H H2)
  {_,(aB (rN (j:=6) kY.nd 9 9 9 (cR (fs:=["_law_feed_here","_law_names","_law_unknowns_here","_law_values"]) (fr:=[0,1,3,4])) (jL 9 T.kZ (bR (pv 5))) (λ_ _ _ _=>(cl D.ad2 hr (jf (pv 1) (lQ (pv 2) (pv 3) (pv 4)))))) (aO (bJ (iq (cP (cl D.ad0 hr (cP (pv 0) (pv 6))) (dc hJ 9 T.jg 21 (bR (pv 6)))))))),?_} (λt2 ht=>{_,(aB (ka (i:=3) kY.nd 9 (Or.inr 9) (je 9 (cR (fs:=[]) (fr:=[])) (dO (cl D.EF hr (cP (pv 0) (cL iI aK (cl D.fQ hr (cP (pv 0) aK)))))) (λ_ _ _ _=>(cL o7 gG (pv 0))))) (aB (ka (i:=4) kY.nd 9 (Or.inr 9) (cl D.EF hr (cP (pv 0) aK))) (aB (dW 5 kY (cL iI aK (cl D.fQ hr (cP (pv 0) (pv 2))))) (aB (dg (bZ vY (cl D.fQ hr (cP (pv 0) aK)) aK (cx _)) (aO (dW 5 kY (cL iI (pv 2) (cl D.fQ hr (cP (pv 0) (cL iI (pv 2) aK)))))) cm) ht)))),λtl=>?_})
 ·ext Z H2 ⟨ul,vl,us,ws,x',rfl,⟨nul,Fu⟩,⟨NL,QA,FF⟩,⟨HD,hv1,hv2⟩,huw,hww,m1,m2,mw,lC⟩;show{_,rfl,x',rfl,by lia,by lia,λj m ys H4=>j<=x'.toNat/\m=x'.toNat -j/\eM K fe H4/\Ext fe H2 H4/\∃aP:Aaa,dD H4 ys aP/\aP.length=j/\GoodW nj aP,{_,aJ _,9,mw,Ext.refl _ _,[],.nil,9,λa h=>by cases h},?_};ext j m ys H4 ⟨hj,rfl,uT,pS,aP,fC,hla,hg⟩;have ly:ys.length=j:=hla▸a9 fC;by_cases bN:j<x'.toNat
  ·show .inr {bN,by rw[ly];show bq ∅,?_};ext v H5 ⟨rfl,rfl⟩;show{_,9,_,9,_,9,_,9,fe,nl,ul,vl,nj,us,ws,9,uT,⟨BY,nul,Fu⟩,{pS _ _ BY (lC _ _ BY Am),VM,KG},{pS _ _ nul NL,QA,FF},{pS _ _ Fu HD,hv1,hv2},λr a H6 vH oE hA QP oA qY B1=>?_};show{x'.toNat -(j+1),8,bN,9,vH,pS.trans oE,aP++[a],Paired.ZP (dD.keep (uT.iX oE) fC) hA,by rw[aC,hla];rfl,λb hb=>?_};rcases aS.mp hb with q|q
   ·show hg b q
   ·rw[aA.mp q];show{QP,oA,qY,λz hz=>?_};rcases B1 z hz with q|q
    ·show .inl (huw z q)
    ·show .inr (hww z q)
  ·show .inl {by change x'.toNat<=j;lia,by rw[ly];show bE (bq ∅),λl hl=>?_};have Aa:=uT.vC hl;have hFl:=uT.new hl (.lst ys);have exl:=pS.new hl (.lst ys);have HR:=dD.keep ((cI.refl H4).new hl (.lst ys)) fC;have KH:upd H4 l (.lst ys) l=some (.lst ys):=ar;show{_,9,_,9,fe,l,ys,aP,9,hFl,Aa,KH,HR,8,8,λa ha=>{(hg a ha).2.1,(hg a ha).2.2.1},λr hz H6 vH oE hr6 VB Ai=>?_};show{_,9,l,_,9,.inl {bg.of (oE _ _ Aa KH),λta vD=>?_}};show{83,λq hq=>?_};have tu7:=(((cI.refl H6).new vD (.tup ys)).new hq (.tup [.ref r,.ref ta]));show k q hz aP _ ((vH.new vD _).new hq _) ((((lC.trans exl).trans oE).new vD _).new hq _) {q,r,ta,ys,9,ar,tu7 _ _ hr6,by rw[aM (λe=>by rw[<-e,ar]at hq;cases hq),ar],dD.keep ((hFl.iX oE).trans tu7) HR} ∅ ∅ hg VB Ai
 ·--af2
  show{_,9,_,9,fe,5,9,hF,7,7,λi1 H1 a0 a1 FO DE=>{_,_,9,9,fe,_,9,FO,8,8,λwl yh H2 mw lC nwl ah6 FE hlw ndw nU=>?_}};show{wl,9,{_,bg.of FE},ji (xs:=yh.map V.str) (λi ys H3=>H3=H2/\i<=yh.length/\ys=((yh.take i).map um).map V.str) (by rw[ah];show bq ∅) {9,aJ _,9} ?_ ?_ ?_}
  ·ext i ys H3 hi ⟨rfl,_,rfl⟩;show{bg.of FE,?_};rw[ah,ah,aV];lia
  ·ext i x ys H3 N hc ⟨rfl,hi,rfl⟩ hN;have bN:=(aq.mp hc).1;rw[ah]at bN;rw[aZ,av bN]at hc;obtain rfl:V.str yh[i]=x:=bY hc;have lw:=aU (bt.mp WX yh[i] (nU _ (jA bN)));show{_,9,_,_,9,9,by rw[afs];lia,hN _ _ {9,bN,?_}};rw[bh,av bN,aF,aF];rfl
  ·ext ys H3 ⟨rfl,_,rfl⟩ l hl;rw[ah,aT];have Aa:=mw.vC hl;have rh:=mw.new hl (.lst ((yh.map um).map V.str));have KH:upd H3 l (.lst ((yh.map um).map V.str)) l=some (.lst ((yh.map um).map V.str)):=ar;have sd:=(DE.trans lC).new hl (.lst ((yh.map um).map V.str));show{_,9,fe,2,9,rh,7,7,λvl vws H5 xj sV Fu ahe HD VQ ndv hinv=>?_};show{_,9,_,9,fe,most,9,xj,8,8,λi6 H6 b0 b1 vH oE=>{_,_,9,9,?_}};have huw:∀z∈yh.map um,z∈kX:=λz hz=>by let(y,hy,rfl):=az.mp hz;show bI (nU y hy)
   have lus:(yh.map um).length=yh.length:=ah _;show{_,9,fe,08,9,vH,7,7,λi7 H7 c0 c1 sU xn=>{9,_,9,?_}};have SJ:=oE.trans xn;show dI (λc=>?_) (λc=>tl _ _ {l,vl,yh.map um,vws,_,9,⟨Aa,Fu⟩,{SJ _ _ Aa (sV _ _ Aa KH),8,8},{SJ _ _ Fu HD,8,8},huw,hinv,8,8,sU,(sd.trans sV).trans SJ})
   ·show{_,9,_,9,_,9,_,_,9,9,fe,_,9,sU,8,8,λi8 H8 d0 d1 vG mx=>{_,_,9,9,?_}};have YU:=SJ.trans mx;show tl _ _ {l,vl,yh.map um,vws,_,9,⟨Aa,Fu⟩,{YU _ _ Aa (sV _ _ Aa KH),8,8},{YU _ _ Fu HD,8,8},huw,hinv,8,8,vG,(sd.trans sV).trans YU}
def MX(c d:Nat):decide ((⟨#[c]⟩:io)=⟨#[d]⟩)=(c==d):=by
 by_cases h:c=d
 ·subst h;simp
 ·have:¬((⟨#[c]⟩:io)=⟨#[d]⟩):=λe=>h (by injection e with e;simpa using e);rw[cz this];show(c6.mpr h).symm
def RH:("?":io)=⟨#[63]⟩:=by decide+kernel
def wy{z:io}{c:Nat}(h:z.cps.toList[0]?=some c):Txt.startswith z "?"=decide ((⟨#[c]⟩:io)="?"):=by rw[RH,MX];rw[fu,sj];unfold Txt.startswith;rw[bQ,iJ,E3,h];show{λe=>bY e,λe=>by rw[e]}
def O5{z:io}(h:z.cps.toList[0]?=none):Txt.startswith z "?"=false:=by rw[RH];show ie.mpr λe=>?_;unfold Txt.startswith at e;rw[bQ,iJ,E3,h]at e;cases e
def YS{z:io}(h:z≠""):∃c,z.cps.toList[0]?=some c:=by
 cases e:z.cps.toList with
 |cons c r=>show⟨c,rfl⟩
 |nil=>
  show absurd (ya (e.trans 9)) h
def zq{α:Type}{g:α->Bool}{l:List α}{i:Nat}{x:α}(h:l[i]?=some x):(l.take (i+1)).filter g=(l.take i).filter g++(if g x=true then[x]else[]):=by rw[bh,h,dQ];change _++[x].filter g=_;rw[cK,nY]
def Uc:sgn 63=false:=by decide+kernel
def aaQ{z:io}(h:isVal z=true):bf z=false:=by
 unfold isVal at h;rw[bQ,bQ]at h;have h1:=aU h.1;unfold bf;cases e:z.cps.toList with
 |nil=>
  have:z.length=0:=by change z.cps.size=0;rw[<-bB,e];rfl
  lia
 |cons c r=>
  have hc:=bt.mp h.2.2 _ (bI (e▸aw));have nc:c≠63:=λz=>by rw[z,Uc]at hc;cases hc
  rw[wy (by rw[e];rfl),RH,MX,c6.mpr nc,kF]
def kE(z:io):Bool:=isVal z||bf z
def qa(acc:Aah)(t:io):Aah:=if t∈acc then acc else acc++[t]
def xq(g:Aah):Aah:=g.foldl qa []
def OC(g:Aah)(t:io):xq (g++[t])=qa (xq g) t:=by unfold xq;rw[qe];rfl
theorem Nh:∀(g acc:Aah)(z:io),z∈g.foldl qa acc↔z∈acc\/z∈g
 |[],acc,z=>by simp
 |t::r,acc,z=>by
  rw[ig,Nh r (qa acc t) z];unfold qa;by_cases d:t∈acc
  ·rw[aL d];constructor
   ·ext(h|h)
    ·show .inl h
    ·show .inr (ay _ h)
   ·ext(h|h)
    ·show .inl h
    ·rcases aN.mp h with rfl|h
     ·show .inl d
     ·show .inr h
  ·rw[aI d];constructor
   ·ext(h|h)
    ·rcases aS.mp h with h|h
     ·show .inl h
     ·rw[aA.mp h];show .inr aw
    ·show .inr (ay _ h)
   ·ext(h|h)
    ·show .inl (bu _ h)
    ·rcases aN.mp h with rfl|h
     ·show .inl (bj _ (aA.mpr 9))
     ·show .inr h
def EB(g:Aah)(z:io):z∈xq g↔z∈g:=by unfold xq;rw[Nh];simp
theorem Q1:∀(g acc:Aah),(g.foldl qa acc).length<=acc.length+g.length
 |[],acc=>by simp
 |t::r,acc=>by
  have h1:=Q1 r (qa acc t);have h2:(qa acc t).length<=acc.length+1:=by
   unfold qa;split
   ·lia
   ·rw[aC];show au _
  rw[ig,bx];lia
def abQ(g:Aah):(xq g).length<=g.length:=by have:=Q1 g [];simpa[xq]using this
theorem Iw:∀(g acc:Aah),acc.Nodup->(g.foldl qa acc).Nodup
 |[],acc,h=>h
 |t::r,acc,h=>by
  show Iw r _ ?_;unfold qa;split
  ·show h
  ·rename_i d;rw[eR];show{h,58,λa ha b hb e=>?_};rw[aA.mp hb]at e;show d (e▸ha)
def Wr(g:Aah):(xq g).Nodup:=Iw g [] .nil
theorem J4:∀(fl acc:Aah),fl.foldl step acc=(fl.filter bf).foldl qa acc
 |[],acc=>rfl
 |t::r,acc=>by
  rw[ig,cK,J4 r];unfold step;by_cases c:bf t=true
  ·rw[aL c,aL c,ig];rfl
  ·rw[aI c,aI c]
def Es(fl:Aah):fA fl=xq (fl.filter bf):=J4 fl []
def yj(fl:Aah):(fA fl).Nodup:=by rw[Es];show Wr _
def acI{z:io}(h:kE z=true):Txt.startswith z "?"=bf z:=by
 have h':(isVal z||bf z)=true:=h;cases e:isVal z with
 |true=>
  rw[aaQ e];cases e1:z.cps.toList with
  |nil=>show O5 (by rw[e1];rfl)
  |cons c r=>
   unfold isVal at e;rw[bQ,bQ]at e;have hc:=bt.mp e.2.2 _ (bI (e1▸aw));have nc:c≠63:=λz=>by rw[z,Uc]at hc;cases hc
   rw[wy (by rw[e1];rfl),RH,MX,c6.mpr nc]
 |false=>
  rw[e,Bool.false_or]at h';rw[h'];unfold bf at h';rw[bQ]at h';show h'.1
def F1{z:io}(h:kE z=true):∃c,z.cps.toList[0]?=some c:=by
 show YS λe=>?_;rw[e]at h;have:kE ""=false:=by decide+kernel
 cases h
def F2{z:io}(h:kE z=true){c:Nat}(hc:z.cps.toList[0]?=some c):decide (V.str ⟨#[c]⟩=V.str "?")=bf z:=by rw[<-acI h,wy hc,fu];simp
def aeT(xs:Aao)(j:Nat):qH xs none (some (j:Int))=xs.take j:=by
 unfold qH;rw[HT.Gh,HT.IY,uh,Ec];by_cases h:j<=96
 ·rw[nX h]
 ·rw[xI ∅,aT,dj ∅]
noncomputable def Zv:Aah:=["?z1","?z","?y","?yy","?0","?m"]
end
structure BB where
 P:io->Prop
noncomputable instance:Membership io BB:=⟨λs z=>s.P z⟩
def p9:BB:=⟨λz=>kE z=true/\z.length<=100/\PyData.strOk z=true⟩
def aeW:((kX++eX++Zv).all λz=>kE z&&decide (z.length<=100)&&PyData.strOk z)=true:=by decide+kernel
def Uw{z:io}(h:z∈kX++eX++Zv):z∈p9:=by have:=bt.mp aeW z h;rw[bQ,bQ]at this;show{this.1.1,aU this.1.2,this.2}
def f7{z:io}(h:z∈p9):kE z=true/\z.length<=100/\PyData.strOk z=true:=h
def Cr{z:io}(h:z∈eX):z∈p9:=Uw (bu _ (bj _ h))
def ZA{z:io}(h:z∈kX):z∈p9:=Uw (bu _ (bu _ h))
def pM(aP:Aaa):Prop:=∀a∈aP,a.1∈eX/\1<=a.2.length/\a.2.length<=4/\∀z∈a.2,z∈p9
structure QW(H:Hp)(v:V)(hz:Aah)(aP:Aaa):Prop where
 at':Ra H v hz aP
 l1:0<=aP.length
 l8:aP.length<=08
 good:pM aP
 h4:hz.length<=4
 hh:∀z∈hz,z∈p9
def QW.keep{H H':Hp}{v:V}{hz:Aah}{aP:Aaa}(t:cI H H')(x:QW H v hz aP):QW H' v hz aP:={x.at'.keep t,x.l1,x.l8,x.good,x.h4,x.hh}
def pM.flat{aP:Aaa}(g:pM aP){z:io}(h:z∈bz aP):z∈p9:=by let(a,ha,hz):=gF.mp h;show(g a ha).2.2.2 z hz
def pM.len{aP:Aaa}(g:pM aP)(n:Nat):(bz (aP.take n)).length<=4*aP.length:=by
 have h1:=Jl (aP.take n) λa ha=>(g a (kr ha)).2.2.1;have h2:(aP.take n).length<=aP.length:=by rw[aV];lia
 lia
inductive wc(vs:Aao)(H:Hp)(Q:VK)(_x3:XK):Prop
 |mk (v:V) (hz:Aah) (aP:Aaa) (_:vs=[v]) (_:QW H v hz aP) (_:∀(r:bn)(H':Hp),aG H H'->H r=none->H' r=some (.lst ((fA (bz aP)).map V.str))->Q (.ref r) H')
section
variable{P:dL}{w:i3}{K:Frag}{mg:Aad}{base:i5}
structure Dv2(P:dL)(w:i3)(K:Frag)(mg:Aad)(base:i5):Prop extends Dv P w K mg base where
 mV:b6 P w K mg base 2 "is_unknown" ["thing"] LD
def oZ:bX ["question","found","atom","term"] ["question"] (bH vd):=gg 21
def Jf(F:dH K "unknowns_of" "unknowns_of" vd f fd)(T:Txt K mg)(D:Dv2 P w K mg base):cH P w K mg base dZ 3 f fd ["question"] wc:=by
 show F.ok oZ 71;obtain⟨v,hz0,aP,rfl,⟨⟨q,hd,aa,fS,rfl,hq,ny,jt,fC⟩,l1,l8,good,h4,hh⟩,k⟩:=h;show{_,(aB (dW 1 oZ iY) (aB (dM bG 9 (il (bF bU (pv 0) aK (λ_ _=>9))) (gB 2 oZ) (aO (dM bG 9 (il (bF bU (pv 2) aK (λ_ _=>9))) (gB 3 oZ) (aO (dg (eZ (cl D.mV hr (bR (pv 3)))) (aO (EA (nQ hr) (pv 1) (pv 3) fJ 9)) cm))))) (aO (bJ (dc (JF 9) 9 T.ox 21 (bR (pv 1))))))),?_}
 ext d nA;show{_,rfl,_,_,_,_,rfl,rfl,ba.of (aD nA _ _ _ hq),rfl,aa,rfl,{fS,ba.of (aD nA _ _ _ jt)},tY
  (λi Z H2=>∃(x2 x3:Aap),Z=[some (.ref q),some (.ref d),x2,x3]/\aG H H2/\H2 d=some (.dK (rW (fA (bz (aP.take i)))))) {none,none,9,aD nA _,ar} (λi Z H2 _ hq=>by(let(__,__,__,sm,__):=hq;show ba.of (sm _ _ jt))) ?_ ?_}
 ·ext i x Z H2 hx ⟨x2,x3,rfl,sm,hd2⟩;let(ta,ht,p,t,rfl,hp,pQ):=Paired.at fC hx;have g:=good ta (aE ht);have lf:=good.len i;show{_,rfl,_,_,_,_,rfl,rfl,ba.of (sm _ _ hp),rfl,t,rfl,{_,ba.of (sm _ _ pQ)},tY
   (λj Z H3=>∃(x3:Aap),Z=[some (.ref q),some (.ref d),some (.ref p),x3]/\aG H H3/\H3 d=some (.dK (rW (fA (bz (aP.take i)++ta.2.take j))))) {x3,9,sm,by rw[mF,cZ];show hd2} (λj Z H3 _ hq=>by(let(__,__,sm',__):=hq;show ba.of (sm' _ _ pQ))) ?_ ?_}
  ·ext j y Z H3 hy ⟨x3,rfl,qQ,HQ⟩;let(z,hz,rfl):=jy hy;have hz9:=(f7 (g.2.2.2 z (aE hz))).2.1;show{_,9,z,9,8,λH4 qj=>{_,9,?_}};have HP:=qj _ _ HQ;have en:fA (bz (aP.take i)++ta.2.take (j+1))=step (fA (bz (aP.take i)++ta.2.take j)) z:=by rw[bh,hz,<-W2,dN];rfl
   have lu:=Af (bz (aP.take i)++ta.2.take j);rw[aC,aV]at lu;show dI (λc1=>?_) (λc1=>?_)
   ·show{_,9,_,9,d,_,9,Ek.k (k:=Sum.inr z) HP (by unfold rW;rw[ah];show bq ∅),?_};show{_,9,λb u e=>?_,?_}
    ·rw[aM (bw e nA)];show qj _ _ (qQ _ _ e)
    ·rw[ar,XB,en];unfold step;rw[aL c1]
   ·show{_,9,qQ.trans qj,?_};rw[en];unfold step;rw[aI c1];show HP
  ·ext Z H3 ⟨x3,rfl,qQ,HQ⟩;show{_,_,9,qQ,?_};rw[ah,aT]at HQ;rw[pC ht];show HQ
 ·ext Z H2 ⟨x2,x3,rfl,sm,hd2⟩;rw[(a9 fC),aT]at hd2;show{_,9,d,_,9,hd2,λl hl=>?_};show k l _ (sm.trans (aD hl _)) (sm.free hl) ?_;rw[ar,Vp]
def qz:bX ["_law_question_here","_law_found","_law_name","_law_terms_here"] ["_law_question_here"] (bH wL):=gg 21
def MZ{f:bn}{fd:i8}(F:dH K "_law_unknowns" "_law_unknowns" wL f fd)(T:Txt K mg):cH P w K mg base dZ 1 f fd ["_law_question_here"] wc:=by
 show F.ok qz 71;obtain⟨v,hz0,aP,rfl,⟨⟨q,yE,aa,fS,rfl,hq,ny,jt,fC⟩,l1,l8,good,h4,hh⟩,k⟩:=h;show{_,(aB (ka (i:=1) qz.nd 9 (Or.inr 9) (dS gS)) (aB (dM bG 9 (il (bF bU (pv 0) aK (λ_ _=>9))) (kG 9 (cn (gB 2 qz) (cn (gB 3 qz) gM))) (aO (gn (jq bO eF eE yw (pv 1) (bR (mL 9 (cR (fs:=[]) (fr:=[])) (il (pv 3)) (λ_ _ _ _=>(bZ vY (bF NC (pv 0) aK (λ_ _=>9)) gG (cx _))) (λ_ _ _ _=>(pv 0)))))))) (aO (bJ (mL 9 (cR (fs:=["_law_found"]) (fr:=[1])) (jL 9 T.kZ (bR (bD cJ 9 T.dR bC (bR (pv 1))))) (λ_ _ _ _=>(bZ (ve) (bF (xg) (pv 1) (pv 0) (λ_ _=>9)) (ia (Xj) (pv 1) jw (iH (pv 0))) 86)) (λ_ _ _ _=>(bF (xg) (pv 1) (pv 0) (λ_ _=>9)))))))),?_}
 have lf:∀i,((bz (aP.take i)).filter bf).length<=32:=λi=>by have h1:=cS bf (bz (aP.take i));have h2:=good.len i;lia
 show{77,λd nA=>?_};show{_,rfl,_,_,_,_,rfl,rfl,ba.of (aD nA _ _ _ hq),rfl,aa,rfl,{fS,ba.of (aD nA _ _ _ jt)},tY
  (λi Z H2=>∃(x2 x3:Aap),Z=[some (.ref q),some (.ref d),x2,x3]/\aG H H2/\H2 d=some (.lst (((bz (aP.take i)).filter bf).map V.str))) {none,none,9,aD nA _,ar} (λi Z H2 _ hq=>by(let(__,__,__,sm,__):=hq;show ba.of (sm _ _ jt))) ?_ ?_}
 ·ext i x Z H2 hx ⟨x2,x3,rfl,sm,hd2⟩;let(ta,ht,p,t,rfl,hp,pQ):=Paired.at fC hx;have g:=good ta (aE ht);have lfi:=lf i;show{p,_,9,ba.of (sm _ _ hp),9,_,_,9,_,_,9,9,?_};show{_,9,.inl {9,_,bg.of hd2},_,9,t,9,{_,ba.of (sm _ _ pQ)},mW (xs:=ta.2.map V.str) (λj ys H3=>H3=H2/\j<=ta.2.length/\ys=((ta.2.take j).filter bf).map V.str) (by rw[ah];show bq ∅) {9,aJ _,9} ?_ ?_ ?_}
  ·ext j ys H3 hj ⟨rfl,_,rfl⟩;show{ba.of (sm _ _ pQ),?_};rw[ah];show bc (cS _ _) ?_;rw[aV];lia
  ·ext j y ys H3 N hc ⟨rfl,hj,rfl⟩ hN;let(z,hz,rfl):=jy hc;have KI:=(aq.mp hz).1;have Ai:=f7 (g.2.2.2 z (aE hz));let(c,KN):=F1 Ai.1;show{_,9,_,_,_,9,9,bE (bq ∅),(iK (j:=0) KN),9,_,9,?_};rw[F2 Ai.1 KN];show dI (λc1=>?_) (λc1=>?_)
   ·show{_,9,hN _ _ {9,KI,?_}};rw[zq hz,aL c1,aF];rfl
   ·show hN _ _ {9,KI,?_};rw[zq hz,aI c1,cZ]
  ·ext ys H3 ⟨rfl,_,rfl⟩ l hl;rw[ah,aT];show{_,_,_,_,9,9,by rw[aM (bw hd2 hl)];show hd2,ar,?_,?_}
   ·rw[ah,ah];have:=bc (cS bf ta.2) g.2.2.1;show bE (bq ∅)
   ·show{_,_,9,λb u e=>?_,?_}
    ·rw[aM (bw e nA)];show aD hl _ _ _ (sm _ _ e)
    ·rw[ar,pC ht,dQ,aF]
 ·ext Z H2 ⟨x2,x3,rfl,sm,hd2⟩;rw[(a9 fC),aT]at hd2;have lfa:=lf aP.length;rw[aT]at lfa;rw[Es]at k;generalize (bz aP).filter bf=g at hd2 lfa k;have lg:(g.map V.str).length=g.length:=ah _;show{_,9,_,_,9,.inl {_,bg.of hd2,9},_,9,8,8,λj m' ys H3=>j<=g.length/\m'=g.length -j/\aG H2 H3/\ys=(xq (g.take j)).map V.str,{_,aJ _,9,aG.refl _,9},?_};ext j m' ys H3 ⟨hj,rfl,qQ,rfl⟩;have ly:((xq (g.take j)).map V.str).length<=32:=by rw[ah];show bc (abQ _) ?_;rw[aV];lia
  by_cases bN:j<g.length
  ·show .inr {by change j<((g.map V.str).length:Int).toNat;lia,bq ∅,?_};ext v H4 ⟨rfl,rfl⟩;have HP:=qQ _ _ hd2;obtain⟨z,hz⟩:∃z,g[j]?=some z:={_,av bN};have ev:uX (g.map V.str) (0+(j:Int))=some (.str z):=by rw[mI];show iK (by rw[aZ,hz];rfl)
   show{_,9,_,9,_,_,_,_,9,9,bg.of HP,ev,?_};show{_,9,mj {_,9,_,9,_,_,9,bg.of HP,λp hp=>?_}};have ec:qH (g.map V.str) none (some (0+(j:Int)))=(g.take j).map V.str:=by rw[mI,aeT,List.map_take]
   rw[ec];show{p,_,9,.inl (bg.of ar),9,xl _,_,9,?_};have wD:aG H2 (upd H4 p (.lst ((g.take j).map V.str))):=qQ.trans (aD hp _);have et:g.take (j+1)=g.take j++[z]:=by rw[bh,hz];rfl
   rw[wm];show dI (λc1=>?_) (λc1=>?_)
   ·have c1:z∉g.take j:=by simpa using c1
    show{_,9,_,9,_,_,_,_,9,9,bg.of (wD _ _ hd2),ev,?_};show{_,8,bN,9,wD,?_};rw[et,OC];unfold qa;rw[aI (λh=>c1 ((EB _ _).mp h)),aF];rfl
   ·have c1:z∈g.take j:=by simpa using c1
    show{_,8,bN,9,wD,?_};rw[et,OC];unfold qa;rw[aL ((EB _ _).mpr c1)]
  ·have ej:j=g.length:=by lia
   show .inl {by change((g.map V.str).length:Int).toNat<=j;lia,bE (bq ∅),λl hl=>?_};show k l _ ((sm.trans qQ).trans (aD hl _)) ((sm.trans qQ).free hl) ?_;rw[ar,ej,aT]
def gD(g:List (io×io)):List (Key×V):=g.map λp=>(Sum.inr p.1,V.str p.2)
def Nl(g:List (io×io))(z:io):Option io:=(g.find? λp=>decide (p.1=z)).map (·.2)
def dv(g:List (io×io))(z:io):io:=(Nl g z).getD z
def p6(g:List (io×io))(u t:io):List (io×io):=if(g.any λp=>decide (p.1=u))=true then g.map (λp=>if p.1=u then(p.1,t)else p)else g++[(u,t)]
theorem II(z:io):∀g:List (io×io),iQ (gD g) (Sum.inr z:Key)=(Nl g z).map V.str
 |[]=>rfl
 |p::r=>by
  unfold iQ Nl at*;change Option.map _ (List.find? _ ((Sum.inr p.1,V.str p.2)::gD r))=_;rw[jc,jc];by_cases h:p.1=z
  ·rw[bb h,bb (show(Sum.inr p.1:Key)=Sum.inr z from cW _ h)];rfl
  ·rw[cz h,cz (show ¬(Sum.inr p.1:Key)=Sum.inr z fromλe=>h (by injection e))];show(II z r)
def aeV(u:io)(g:List (io×io)):((gD g).any λkv=>decide (kv.1=(Sum.inr u:Key)))=g.any λp=>decide (p.1=u):=by
 unfold gD;rw[mH];congr 1;funext p;change decide ((Sum.inr p.1:Key)=Sum.inr u)=_;by_cases h:p.1=u
 ·rw[bb h,bb (show(Sum.inr p.1:Key)=Sum.inr u from cW _ h)]
 ·rw[cz h,cz (show ¬(Sum.inr p.1:Key)=Sum.inr u fromλe=>h (by injection e))]
def Qe(g:List (io×io))(u t:io):putK (gD g) (Sum.inr u:Key) (V.str t)=gD (p6 g u t):=by
 unfold putK p6;rw[aeV];by_cases c:(g.any λp=>decide (p.1=u))=true
 ·rw[aL c,aL c];unfold gD;rw[b8,b8];show b4 λp _=>?_;change(if(Sum.inr p.1:Key)=Sum.inr u then((Sum.inr p.1:Key),V.str t)else(Sum.inr p.1,V.str p.2))=(Sum.inr (if p.1=u then(p.1,t)else p).1,V.str (if p.1=u then(p.1,t)else p).2);by_cases h:p.1=u
  ·rw[aL (cW _ h),aL h]
  ·rw[aI (λe=>h (by injection e)),aI h]
 ·rw[aI c,aI c];unfold gD;rw[aF];rfl
def XE(g:List (io×io))(u t:io):(p6 g u t).length<=g.length+1:=by
 unfold p6;split
 ·rw[ah];lia
 ·rw[aC];show au _
def Ut{g:List (io×io)}{u t:io}{l:BB}(h:∀p∈g,p.2∈l)(ht:t∈l):∀p∈p6 g u t,p.2∈l:=λp hp=>by
 unfold p6 at hp;split at hp
 ·let(q,hq,rfl):=az.mp hp;split
  ·show ht
  ·show h q hq
 ·rcases aS.mp hp with hp|hp
  ·show h p hp
  ·rw[aA.mp hp];show ht
def ED{g:List (io×io)}{z:io}{l:BB}(h:∀p∈g,p.2∈l)(hz:z∈l):dv g z∈l:=by
 unfold dv Nl;cases e:g.find? λp=>decide (p.1=z)with
 |none=>show hz
 |some p=>show h p (iP e)
def Bg(g:List (io×io))(aP:Aaa):Aaa:=aP.map λa=>(a.1,a.2.map (dv g))
inductive G6(vs:Aao)(H:Hp)(Q:VK)(_x3:XK):Prop
 |mk (t d:bn) (ts:Aah) (g:List (io×io)) (_:vs=[.ref t,.ref d]) (_:H t=some (.tup (ts.map V.str))) (_:H d=some (.dK (gD g))) (_:ts.length<=100) (_:∀(r:bn)(H':Hp),aG H H'->H' r=some (.tup ((ts.map (dv g)).map V.str))->Q (.ref r) H')
inductive T2(vs:Aao)(H:Hp)(Q:VK)(_x3:XK):Prop
 |mk (v:V) (d:bn) (hz:Aah) (aP:Aaa) (g:List (io×io)) (_:vs=[v,.ref d]) (_:QW H v hz aP) (_:H d=some (.dK (gD g))) (_:(∀p∈g,p.2∈p9)) (_:∀(r:bn)(H':Hp),aG H H'->QW H' (.ref r) (hz.map (dv g)) (Bg g aP)->Q (.ref r) H')
def Xl:bX ["_law_terms_here","_law_given"] ["_law_terms_here","_law_given"] (bH IW):=gg 21
def adH{f:bn}{fd:i8}(F:dH K "_law_led" "_law_led" IW f fd)(T:Txt K mg):cH P w K mg base dZ 1 f fd ["_law_terms_here","_law_given"] G6:=by
 show F.ok Xl 71;let(t,d,ts,g,rfl,ht,hd,hl,k):=h;show{_,(aO (bJ (dc hJ 9 T.jg 21 (bR (je 9 (cR (fs:=["_law_given"]) (fr:=[1])) (il (pv 0)) (λ_ _ _ _=>(tQ (nQ hr) (pv 1) (pv 0) (pv 0) R9))))))),?_};show{_,9,t,9,{_,ba.of ht},mW (xs:=ts.map V.str) (λi ys H2=>H2=H/\i<=ts.length/\ys=((ts.take i).map (dv g)).map V.str) (by rw[ah];show bq ∅) {9,aJ _,9} ?_ ?_ ?_}
 ·ext i ys H2 hi ⟨rfl,_,rfl⟩;show{ba.of ht,?_};rw[ah,ah,aV];lia
 ·ext i x ys H2 N hc ⟨rfl,hi,rfl⟩ hN;let(z,hz,rfl):=jy hc;have bN:=(aq.mp hz).1;show{_,9,d,9,.inl {_,.inl hd},_,9,_,9,_,kW.k (k:=Sum.inr z) hd,?_};have e:(iQ (gD g) (Sum.inr z:Key)).getD (.str z)=.str (dv g z):=by rw[II];unfold dv;cases Nl g z<;>rfl
  rw[e];show hN _ _ {9,bN,?_};rw[bh,hz,aF,aF];rfl
 ·ext ys H2 ⟨rfl,_,rfl⟩ l qZ;rw[ah,aT];show{l,_,9,.inl {bg.of ar,λp hp=>k p _ ((aD qZ _).trans (aD hp _)) ar}}
structure Dle(P:dL)(w:i3)(K:Frag)(mg:Aad)(base:i5):Prop where
 EG:b6 P w K mg base 1 "_law_led" ["_law_terms_here","_law_given"] G6
def EX:bX ["_law_question_here","_law_given"] ["_law_question_here","_law_given"] (bH qE):=gg 21
def aby{f:bn}{fd:i8}(F:dH K "_law_led_question" "_law_led_question" qE f fd)(T:Txt K mg)(D:Dle P w K mg base):cH P w K mg base dZ 2 f fd ["_law_question_here","_law_given"] T2:=by
 show F.ok EX 71;obtain⟨v,d,hz,aP,g,rfl,⟨⟨q,h0,aa,fS,rfl,hq,hh0,jt,fC⟩,l1,l8,good,h4,hh⟩,hd,hgv,k⟩:=h;have la:=a9 fC;show{_,(aO (bJ (iq (cP (cl D.EG hr (cP (bF bU (pv 0) aK (λ_ _=>9)) (pv 1))) (dc hJ 9 T.jg 21 (bR (wW 9 (pF (more:=["_law_terms_here"]) (fs:=["_law_given"]) (fr:=[1])) (il (bF bU (pv 0) aK (λ_ _=>9))) (λ_ _ _ _=>(we (n:=2) 9 (cn (j4 (i:=0)) (cn (j4 (i:=1)) gM)))) (λ_ _ _ _=>(iq (cP (pv 0) (cl D.EG hr (cP (pv 1) (pv 2))))))))))))),?_};show{_,9,_,_,_,_,9,9,ba.of hq,9,_,9,h0,d,hz,g,9,hh0,hd,8,λr1 H1 yl NP=>?_};show{_,9,_,_,_,_,9,9,ba.of (yl _ _ hq),9,aa,9,{fS,ba.of (yl _ _ jt)},DK (xs:=fS) (λi ys H2=>aG H1 H2/\i<=aP.length/\dD H2 ys (Bg g (aP.take i))) (bq ∅) {aG.refl _,aJ _,.nil} ?_ ?_ ?_}
 ·ext i ys H2 hi ⟨lP,_,hA⟩;show{ba.of (lP _ _ (yl _ _ jt)),?_};rw[(a9 hA)];unfold Bg;rw[ah,aV];lia
 ·ext i x ys H2 N hc ⟨lP,hi,hA⟩ hN;let(a,vD,p,tt,rfl,hp,pQ):=Paired.at fC hc;have ga:=good a (aE vD);have bN:=(aq.mp vD).1;have sm:=yl.trans lP;show{p,_,_,9,ba.of (sm _ _ hp),zW ?_};show{_,9,_,9,_,9,tt,d,a.2,g,9,sm _ _ pQ,sm _ _ hd,8,λr3 H3 qQ De=>?_};show{83,λp4 yC=>?_};have qj:aG H3 (upd H3 p4 (.tup [.str a.1,.ref r3])):=aD yC _;show hN _ _ {lP.trans (qQ.trans qj),bN,?_};have e:Bg g (aP.take (i+1))=Bg g (aP.take i)++[(a.1,a.2.map (dv g))]:=by unfold Bg;rw[bh,vD,aF];rfl
  rw[e];show Paired.ZP (dD.keep (cI.of (qQ.trans qj)) hA) {p4,r3,9,ar,qj _ _ De}
 ·ext ys H2 ⟨lP,_,hA⟩ l qZ;rw[la,aT]at hA;show{l,_,9,.inl {bg.of ar,λp hp=>?_}};show{83,λp5 QI=>?_};have smC:=aD QI (.tup [.ref r1,.ref p]);have Xi:=(aD qZ _).trans ((aD hp _).trans smC);show k p5 _ (yl.trans (lP.trans Xi)) {{p5,r1,p,ys,9,ar,Xi _ _ (lP _ _ NP),smC _ _ ar,dD.keep (cI.of Xi) hA},?_,?_,?_,?_,?_}
  ·unfold Bg;rw[ah];show l1
  ·unfold Bg;rw[ah];show l8
  ·ext b hb;let(a,ha,rfl):=az.mp hb;let(g1,g2,g3,g4):=good a ha;show{g1,by change 1<=(a.2.map _).length;rw[ah];show g2,by change(a.2.map _).length<=4;rw[ah];show g3,λz hz=>?_};let(y,hy,rfl):=az.mp hz;show ED hgv (g4 y hy)
  ·rw[ah];show h4
  ·ext z hz;let(y,hy,rfl):=az.mp hz;show ED hgv (hh y hy)
def PT:BB:=⟨λz=>z.length<=100/\PyData.strOk z=true⟩
def IC{z:io}(h:z∈PT):z.length<=100/\PyData.strOk z=true:=h
abbrev xD(H:Hp):Aao->List (io×io)->Prop:=Paired λ(v:V)(p:io×io)=>∃a,v=.ref a/\H a=some (.tup [.str p.1,.str p.2])
def xD.keep{H H':Hp}(t:cI H H'){vs:Aao}{bV:List (io×io)}(h:xD H vs bV):xD H' vs bV:=Paired.imp' (λ_ _ ⟨a,e,q⟩=>{a,e,t _ _ q}) h
def ET(bV:List (io×io)):Prop:=∀p∈bV,p.1∈PT/\p.2∈PT
def jD(bV:List (io×io)):List (io×io):=bV.foldl (λg p=>p6 g p.1 p.2) []
theorem Gr:∀(bV g:List (io×io)),kH (gD g) (gD bV)=gD (bV.foldl (λg p=>p6 g p.1 p.2) g)
 |[],g=>rfl
 |p::r,g=>by change kH (putK (gD g) (Sum.inr p.1) (V.str p.2)) (gD r)=_;rw[Qe,Gr r];rfl
theorem MS{H:Hp}:∀{vs:Aao}{bV:List (io×io)},xD H vs bV->Paired (λ(y:V)(kv:Key×V)=>∃t,y=.ref t/\H t=some (.tup [kV kv.1,kv.2])) vs (gD bV)
 |_,_,.nil=>.nil
 |_,_,.cons ⟨a,e,h⟩ t=>.cons ⟨a,e,h⟩ (MS t)
def tT(cb:Aah)(bM:Aaa)(cy:Aah)(bT:Aaa)(bV:List (io×io)):Bool:=
 decide (bV.map (·.1)=eY (fA (bz bT)))&&(decide (cy.map (dv (jD bV))=cb)&&(bT.map λa=>decide ((a.1,a.2.map (dv (jD bV)))∈bM)).all id)
inductive ZL(vs:Aao)(H:Hp)(Q:VK)(_x3:XK):Prop
 |mk (v1 v2:V) (pl:bn) (cb cy:Aah) (bM bT:Aaa) (gL:Aao) (bV:List (io×io)) (_:vs=[v1,v2,.ref pl]) (_:QW H v1 cb bM) (_:QW H v2 cy bT) (_:H pl=some (.lst gL)) (_:xD H gL bV) (_:ET bV) (_:bV.length<=100) (_:∀H',aG H H'->Q (.bl (tT cb bM cy bT bV)) H')
def dA(a:io×Aah):PyData:=.tuple [.str a.1,.tuple (a.2.map PyData.str)]
def OH(a b:io×Aah):PyData.eqv (dA a) (dA b)=decide (a=b):=by unfold dA;let(a1,a2):=a;let(b1,b2):=b;simp only[PyData.eqv,PyData.eqvAll,nJ,Bool.and_true];by_cases h:a1=b1<;>by_cases h':a2=b2<;>simp[h,h']
def aeS(aP:Aaa)(b:io×Aah):((aP.map dA).any λe=>PyData.eqv e (dA b))=decide (b∈aP):=by
 rw[mH,fu,iD,iJ];constructor
 ·ext⟨x,hx,e⟩;have e:PyData.eqv (dA x) (dA b)=true:=e;rw[OH,iJ]at e;show e▸hx
 ·ext h;show{b,h,by change PyData.eqv (dA b) (dA b)=true;rw[OH];show bb rfl}
def Nq{a:io×Aah}(h1:PyData.strOk a.1=true)(h2:∀z∈a.2,PyData.strOk z=true):(dA a).canLay0=true:=by unfold dA;simp[PyData.canLay0,PyData.canLayAll0,h1,xc a.2 h2]
theorem Qt:∀{aP:Aaa},(∀a∈aP,PyData.strOk a.1=true/\∀z∈a.2,PyData.strOk z=true)->PyData.canLayAll0 (aP.map dA)=true
 |[],_=>rfl
 |a::r,h=>by simp[PyData.canLayAll0,(Nq (h a aw).1 (h a aw).2),(Qt (aP:=r) λb hb=>h b (ay _ hb))]
def OB(a:io×Aah):(dA a).depth<=60:=by unfold dA;simp[PyData.depth,PyData.depthAll,pD]
def EM{K:Frag}{H:Hp}{v:V}{a:io×Aah}(h:AG H v a):Dt K H (dA a) v:=by let(p,t,rfl,hp,ht):=h;unfold dA;show{p,_,9,ba.of hp,?_};show{_,_,9,by rw[Dt],?_};show{_,_,9,?_,by rw[pN]};show{t,_,9,ba.of ht,ko _}
theorem Oy{K:Frag}{H:Hp}:∀{vs:Aao}{aP:Aaa},dD H vs aP->pN K H (aP.map dA) vs
 |_,_,.nil=>by rw[fU,pN]
 |_,_,.cons r t=>by show{_,_,9,EM r,Oy t}
def wG(zs:Aah)(h:∀z∈zs,PyData.strOk z=true):SeqAt.shaped (.tuple (zs.map PyData.str))=true:=by simp[SeqAt.shaped,PyData.canLay0,PyData.depth,xc zs h,pD]
def Ir(bs:List Bool):FD (.bl false) (bs.map V.bl)=!(bs.all id):=by
 unfold FD;rw[mH]
 induction bs with
 |nil=>rfl
 |cons b r ih=>
  rw[nG,vq,ih];cases b<;>rfl
def Ot(bs:List Bool):(bs.map V.bl).all uC=true:=by rw[Eh];show bt.mpr λ_ _=>9
def DY{z:io}(h:z∈p9):z∈PT:=(f7 h).2
def afQ{g bV:List (io×io)}{l:BB}(hg:∀p∈g,p.2∈l)(h:∀p∈bV,p.2∈l):∀p∈bV.foldl (λg p=>p6 g p.1 p.2) g,p.2∈l:=by
 induction bV generalizing g with
 |nil=>show hg
 |cons q r ih=>show ih (Ut hg (h q aw)) λp hp=>h p (ay _ hp)
def Vh{bV:List (io×io)}(hg:ET bV){z:io}(h:z∈p9):dv (jD bV) z∈PT:=ED (afQ (λp h=>by cases h) λp hp=>(hg p hp).2) (DY h)
structure Dma(P:dL)(w:i3)(K:Frag)(mg:Aad)(base:i5):Prop extends Dle P w K mg base where
 Bh:b6 P w K mg base 1 "_law_unknowns" ["_law_question_here"] wc
def zb:bX ["_law_one","_law_other","_law_pairs","_law_pair","_law_given"] ["_law_one","_law_other","_law_pairs"] (bH AY):=gg 21
def X4{f:bn}{fd:i8}(F:dH K "_law_is_map" "_law_is_map" AY f fd)(T:Txt K mg)(D:Dma P w K mg base):cH P w K mg base dZ 2 f fd ["_law_one","_law_other","_law_pairs"] ZL:=by
 show F.ok zb 71;let(v1,v2,pl,cb,cy,bM,bT,gL,bV,rfl,qw1,BU,jV,QG,hgp,ah5,k):=h;have lp:=a9 QG;let(q1,h1,aa1,aih,rfl,NR,VU,ahC,EI):=id qw1.at';let(q2,h2,aa2,ahM,rfl,NQ,N0,aez,LK):=id BU.at';have la2:=a9 LK;have l8:=BU.l8;show{_,(aB (dg (gP (eZ (bD gq 9 T.fb 21 (cP (pv 2) (nP (n:="list") 9 T.ox 21))))) (aO (bJ fJ)) cm) (aB (dM bG 9 (dO (pv 2)) (gB 3 zb) (aO (dg (PW.pt (km (gP (eZ (bD gq 9 T.fb 21 (cP (pv 3) (nP (n:="tuple") 9 T.jg 21))))) (km (bZ uw (bD cJ 9 T.dR bC (bR (pv 3))) aK (cx _)) (ot (gP (eZ (bD gq 9 T.fb 21 (cP (bF bU (pv 3) aK (λ_ _=>9)) (nP (n:="str") 9 T.Be 21))))))))) (aO (bJ fJ)) cm))) (aB (dg (bZ (CV hr.units) (je 9 (cR (fs:=[]) (fr:=[])) (dO (pv 2)) (λ_ _ _ _=>(bF (wj) (pv 0) aK (λ_ _=>9)))) (bD Pw 9 T.tS 21 (bR (cl D.Bh hr (bR (pv 1))))) (cx _)) (aO (bJ fJ)) cm) (aB (ka (i:=4) zb.nd 9 (Or.inr 9) (dc (Im hr.hd) 9 T.C2 21 (bR (pv 2)))) (aB (dg (bZ (CV hr.units) (cl D.EG hr (cP (bF bU (pv 1) aK (λ_ _=>9)) (pv 4))) (bF bU (pv 0) aK (λ_ _=>9)) (cx _)) (aO (bJ fJ)) cm) (aO (bJ (jT mh fJ (wW 9 (pF (more:=["_law_terms_here"]) (fs:=["_law_given","_law_one"]) (fr:=[4,0])) (il (bF bU (pv 1) aK (λ_ _=>9))) (λ_ _ _ _=>(we (n:=2) 9 (cn (j4 (i:=0)) (cn (j4 (i:=1)) gM)))) (λ_ _ _ _=>(jT (abu hr.units) (iq (cP (pv 0) (cl D.EG hr (cP (pv 1) (pv 2))))) (bF (wj) (pv 3) aK (λ_ _=>9)) 86))) 86)))))))),?_}
 show{_,9,_,_,_,_,9,.lst jV,by rfl,_,9,?_};show fB ?_;show{_,rfl,pl,rfl,{_,bg.of jV},iC
  (λi Z H2=>∃x3:Aap,Z=[some (.ref q1),some (.ref q2),some (.ref pl),x3,none]/\H2=H) ⟨none,rfl,rfl⟩ (λi Z H2 _ ⟨_,_,e⟩=>by rw[e];show bg.of jV) ?_ ?_}
 ·ext i x Z H2 hx ⟨x3,rfl,rfl⟩;let(pr,HJ,a,rfl,ha):=Paired.at QG hx;show{_,9,_,_,_,_,9,.tup ha,by rfl,_,9,?_};show fB ?_;show{_,9,_,_,9,.inr {_,ba.of ha,9},9,_,9,?_};show fB ?_;show{_,9,_,_,_,_,9,9,ba.of ha,9,_,_,_,_,9,.str _,by rfl,_,9,?_};show fB ⟨_,rfl,rfl⟩
 ext Z H2 ⟨x3,rfl,rfl⟩;show{_,9,pl,9,{_,bg.of jV},ji (xs:=gL) (λi ys H3=>H3=H2/\i<=bV.length/\ys=((bV.take i).map (·.1)).map V.str) (bq ∅) {9,aJ _,9} ?_ ?_ ?_}
 ·ext i ys H3 hi ⟨rfl,_,rfl⟩;show{bg.of jV,?_};rw[ah,ah,aV];lia
 ·ext i x ys H3 N hc ⟨rfl,hi,rfl⟩ hN;let(pr,HJ,a,rfl,ha):=Paired.at QG hc;have bN:=(aq.mp HJ).1;show{_,9,_,_,_,_,9,9,ba.of ha,9,hN _ _ {9,bN,?_}};rw[bh,HJ,aF,aF];rfl
 ext ys H3 ⟨rfl,_,rfl⟩ l hl;rw[lp,aT];have qj:aG H3 (upd H3 l (.lst ((bV.map (·.1)).map V.str))):=aD hl _;have e4:upd H3 l (.lst ((bV.map (·.1)).map V.str)) l=some (.lst ((bV.map (·.1)).map V.str)):=ar;show{_,9,.ref q2,cy,bT,9,BU.keep (cI.of qj),λur H5 wD nur hur=>?_};have lun:(fA (bz bT)).length<=32:=by have h1:=Af (bz bT);have h2:=BU.good.len bT.length;rw[aT]at h2;lia
 have ahf:∀z∈fA (bz bT),z∈p9:=λz hz=>by rw[Es,EB,cM]at hz;show BU.good.flat hz.1
 show{ur,_,9,bg.of hur,8,λl6 NT=>?_};have P4:aG H5 (upd H5 l6 (.lst ((eY (fA (bz bT))).map V.str))):=aD NT _;have e6:upd H5 l6 (.lst ((eY (fA (bz bT))).map V.str)) l6=some (.lst ((eY (fA (bz bT))).map V.str)):=ar;generalize upd H5 l6 (.lst ((eY (fA (bz bT))).map V.str))=H6 at P4 e6⊢;have ac2:=wD.trans P4;have RA:=qj.trans ac2;show{.list ((bV.map (·.1)).map PyData.str),.list ((eY (fA (bz bT))).map PyData.str),?_,?_,Fn _ λz hz=>?_,Fn _ λz hz=>(f7 (ahf z ((ix _).mem_iff.mp hz))).2.2,_,9,?_}
 ·rw[Dt];show{l,_,9,bg.of (ac2 _ _ e4),ko _}
 ·rw[Dt];show{l6,_,9,bg.of e6,ko _}
 ·let(p,hp,rfl):=az.mp hz;show(IC (hgp p hp).1).2
 have ee:PyData.eqv (.list ((bV.map (·.1)).map PyData.str)) (.list ((eY (fA (bz bT))).map PyData.str))=decide (bV.map (·.1)=eY (fA (bz bT))):=by rw[PyData.eqv,nJ]
 rw[ee];show dI (λc1=>?_) (λc1=>?_)
 ·have q:=k H6 RA;unfold tT at q;rw[show decide (bV.map (·.1)=eY (fA (bz bT)))=false by simpa using c1,kF]at q;show q
 have c1:decide (bV.map (·.1)=eY (fA (bz bT)))=true:=by simpa using c1
 show{_,9,pl,gL,gD bV,9,bg.of (RA _ _ jV),MS (xD.keep (cI.of RA) QG),λd hd=>?_};rw[show kH [] (gD bV)=gD (jD bV)from Gr bV []];have sm7:aG H6 (upd H6 d (.dK (gD (jD bV)))):=aD hd _;have e7:upd H6 d (.dK (gD (jD bV))) d=some (.dK (gD (jD bV))):=ar;have Xh:=RA.trans sm7;have h24:=BU.h4;show{_,9,_,_,_,_,9,9,ba.of (Xh _ _ NQ),9,_,9,h2,d,cy,jD bV,9,Xh _ _ N0,e7,8,λr8 H8 sm8 FH=>?_};have Cu:=Xh.trans sm8;show{_,9,_,_,_,_,9,9,ba.of (Cu _ _ NR),9,.tuple ((cy.map (dv (jD bV))).map PyData.str),.tuple (cb.map PyData.str),?_,?_,wG _ λz hz=>?_,wG _ λz hz=>(f7 (qw1.hh z hz)).2.2,_,9,?_}
 ·rw[Dt];show{r8,_,9,ba.of FH,ko _}
 ·rw[Dt];show{h1,_,9,ba.of (Cu _ _ VU),ko _}
 ·let(y,hy,rfl):=az.mp hz;show(IC (Vh hgp (BU.hh y hy))).2
 have ee2:PyData.eqv (.tuple ((cy.map (dv (jD bV))).map PyData.str)) (.tuple (cb.map PyData.str))=decide (cy.map (dv (jD bV))=cb):=by rw[PyData.eqv,nJ]
 rw[ee2];show dI (λc2=>?_) (λc2=>?_)
 ·have q:=k H8 Cu;unfold tT at q;rw[show decide (cy.map (dv (jD bV))=cb)=false by simpa using c2,kF,mJ]at q;show q
 have c2:decide (cy.map (dv (jD bV))=cb)=true:=by simpa using c2
 show{_,9,_,_,_,_,9,9,ba.of (Cu _ _ NQ),9,aa2,9,{_,ba.of (Cu _ _ aez)},DK (xs:=ahM) (λi ys H9=>aG H8 H9/\i<=bT.length/\ys=((bT.take i).map λa=>decide ((a.1,a.2.map (dv (jD bV)))∈bM)).map V.bl) (bq ∅) {aG.refl _,aJ _,9} ?_ ?_ ?_}
 ·ext i ys H9 hi ⟨Mi,_,rfl⟩;show{ba.of (Mi _ _ (Cu _ _ aez)),?_};rw[ah,ah,aV];lia
 ·ext i x ys H9 N hc ⟨Mi,hi,rfl⟩ hN;let(a,vD,p,tt,rfl,hp,pQ):=Paired.at LK hc;have ga:=BU.good a (aE vD);have bN:=(aq.mp vD).1;have Xg:=Cu.trans Mi;show{p,_,_,9,ba.of (Xg _ _ hp),zW ?_};show{_,9,_,9,_,9,tt,d,a.2,jD bV,9,Xg _ _ pQ,Mi _ _ (sm8 _ _ e7),8,λCM jC ac3 Yy=>?_};show{83,λUI ahl=>?_};have RC:aG jC (upd jC UI (.tup [.str a.1,.ref CM])):=aD ahl _;have Wn:upd jC UI (.tup [.str a.1,.ref CM]) UI=some (.tup [.str a.1,.ref CM]):=ar;generalize upd jC UI (.tup [.str a.1,.ref CM])=pW at RC Wn⊢;have RB:=Xg.trans (ac3.trans RC);show{_,9,_,_,_,_,9,9,ba.of (RB _ _ NR),9,dA (a.1,a.2.map (dv (jD bV))),bM.map dA,EM {UI,CM,9,Wn,RC _ _ Yy},.inl ?_,Qt λb hb=>?_,Nq (f7 (Cr ga.1)).2.2 λz hz=>?_,OB _,?_}
  ·rw[Dt];show{aa1,_,9,ba.of (RB _ _ ahC),Oy (dD.keep (cI.of RB) EI)}
  ·have gb:=qw1.good b hb;show{(f7 (Cr gb.1)).2.2,λz hz=>(f7 (gb.2.2.2 z hz)).2.2}
  ·let(y,hy,rfl):=az.mp hz;show(IC (Vh hgp (ga.2.2.2 y hy))).2
  ·change N (_++[.bl ((bM.map dA).any λe=>PyData.eqv e (dA (a.1,a.2.map (dv (jD bV)))))]) pW;rw[aeS];show hN _ _ {Mi.trans (ac3.trans RC),bN,?_};rw[bh,vD,aF,aF];rfl
 ·ext ys H9 ⟨Mi,_,rfl⟩ l10 Sm;rw[la2,aT];show{l10,_,9,.inl (bg.of ar),9,Ot _,?_};have q:=k _ ((Cu.trans Mi).trans (aD Sm (.lst ((bT.map λa=>decide ((a.1,a.2.map (dv (jD bV)))∈bM)).map V.bl))));unfold tT at q;rw[c1,c2,iy,iy]at q;rw[Ir,Bool.not_not];show q
variable{C:bn}
theorem He{fm fp:bn}{dm dp:i8}(Fm:dH K "mapped" "MapSearch.mapped" vV fm dm)(Fp:dH K "mapped_part" "MapSearch.mapped_part" nN fp dp)(Mm:Meth K C "mapped" fm)(Mp:Meth K C "mapped_part" fp)(bm:Binds K dm ["self","atoms","given"] [])(bp:Binds K dp ["self","part","given"] [])
  (T:Txt K mg) (O:Own K C) (D:Dp P w K mg base C):∀n,sH P w K mg base C (07+2*n) "mapped" ["self","atoms","given"] (AR P w K C n)
 |0=>by have M9:∀vs H Q E,¬Mc P w K C 0 vs H Q E:=λvs H Q E ⟨_,_,_,_,_,_,_,_,_,_,_,p,_,_,ak,_,_,iB,_⟩=>iB (dF.mp (Nat.le_zero.mp ak.ln));show{fm,dm,Kp Fm T O {D,{fp,dp,({λvs H Q E h=>absurd h (M9 vs H Q E),λA outer s H args us vs Q E _ _ _ _ h=>absurd h (M9 vs H Q E)}),Mp,bp}},Mm,bm}
 |n+1=>by show{fm,dm,Kp Fm T O {D,{fp,dp,Jg Fp T O {D,(He Fm Fp Mm Mp bm bp T O D n)},Mp,bp}},Mm,bm}
def OX(P:dL)(w:i3)(K:Frag)(mg:Aad)(base:i5)(C:bn)(k:Nat)(x:io)(ps:Aah)(sp:Sp):Prop:=∃f fd,Mk K C f/\cH P w K mg base dZ k f fd ps sp/\mg x=some (.ref C)/\Binds K fd ps []
def mkO(D:OX 57 X.w X.K X.mg X.base C k x ps sp)(hr:iR j X.A)(ha:PA X (e::es) t)(hk:k+1<=j)(hg:Gl X x:=by rfl)
  (Dk:87=false:=by decide) (he:i6 (e::es) X.env=(false,sn e X.env)::i6 es X.env:=by rfl) (jV:(xL pos (i6 es X.env)).any (·.1)=false:=by rfl):
  PE X (.Call (.Name x p) (e::es) [] pos) (ZH C sp [] E0 t):=by
 let(f,fd,M,F,m,b):=D;show abp M F (hr.mono hk) hg m b .nil RM ha Dk he jV
structure Dfm(P:dL)(w:i3)(K:Frag)(mg:Aad)(base:i5)(C:bn):Prop where
 Ou:b6 P w K mg base 3 "fitted" ["given","terms","aim"] (F6 K)
 xa:sH P w K mg base C (07+2*08) "mapped" ["self","atoms","given"] (AR P w K C 08)
 Pm:OX P w K mg base C 3 "MapSearch" ["self","atoms"] (Ry P w K C)
def l5(cb:Aah)(bM:Aaa)(cy:Aah)(bT:Aaa)(h:io->io):Prop:=cy.map (aH.ap bf h)=cb/\aH.Fits bf bM h bT
structure LN(cb:Aah)(bM:Aaa)(cy:Aah)(bT:Aaa)(g:cN):Prop where
 nd:(keys g).Nodup
 ks:∀u,u∈keys g↔(u∈cy/\bf u=true)\/u∈aH.jI bf bT
 led:∀h,aH.iM g h->l5 cb bM cy bT h
 ok:∀q∈g,PyData.strOk q.2=true
inductive IS(vs:Aao)(H:Hp)(Q:VK)(_x3:XK):Prop
 |mk (v1 v2:V) (cb cy:Aah) (bM bT:Aaa) (_:vs=[v1,v2]) (_:QW H v1 cb bM) (_:QW H v2 cy bT) (_:(∀H',aG H H'->(∀h,¬l5 cb bM cy bT h)->Q .b7 H')) (_:∀H' d g,aG H H'->H' d=some (.dK (gK g))->LN cb bM cy bT g->Q (.ref d) H')
def CB:bX ["one","other","given"] ["one","other"] (bH zg):=gg 21
def gm.free{H0 H:Hp}{A:bn}{kvs:List 74}{R:Rl}{n:Nat}(x:gm P w K H0 H A kvs R n):gm P w K (λ_=>none) H A kvs R n:={x.at_,x.len,rfl,λk v h=>by let(d,inner,h1,h2,h3,h4):=x.vals k v h;show⟨d,inner,h1,h2,rfl,h4⟩,x.no,x.inj}
def Jv{aP:Aaa}(g:pM aP):∀a∈aP,lJ a:=λa ha=>by let(h1,h2,h3,h4):=g a ha;show{8,(f7 (Cr h1)).2.2,λz hz=>(f7 (h4 z hz)).2}
def JK{H:Hp}{vs:Aao}{aP:Aaa}(h:dD H vs aP):kP K H vs aP:=by
 induction h with
 |nil=>show .nil
 |cons h _ ih=>
  let(p,t,e,h1,h2):=h;show .cons {p,t,e,ba.of h1,ba.of h2} ih
def M5{f:bn}{fd:i8}(F:dH K "found_map" "found_map" zg f fd)(T:Txt K mg)(O:Own K C)(D:Dfm P w K mg base C):cH P w K mg base dZ 25 f fd ["one","other"] IS:=by
 show F.ok CB 71;let(v1,v2,cb,cy,bM,bT,rfl,q1,q2,k1,k2):=h;let(r1,h1,a1,Zx,rfl,NP,VU,QP,EI):=q1.at';let(r2,h2,a2,PK,rfl,pR,N0,ha2,LK):=q2.at';show{_,(aB (dW 2 CB (cl D.Ou hr (lQ iY (bF bU (pv 1) aK (λ_ _=>9)) (bF bU (pv 0) aK (λ_ _=>9))))) (aB (dg (bZ CW (pv 2) gQ (cx _)) (aO (bJ gQ)) cm) (aO (bJ (U8 O.c D.xa hr (mkO D.Pm hr (bR (bF bU (pv 0) aK (λ_ _=>9))) ∅) (cP (dc mB 9 T.ox 21 (bR (bF bU (pv 1) aK (λ_ _=>9)))) (pv 2)) ∅))))),?_}
 refineλe0 N6=>?_
 have s1:aG H (upd H e0 69):=aD N6 _;have he1:upd H e0 69 e0=some (.dK (gK [])):=ar;have oA:=q1.h4;have fw:=q2.h4;show{_,9,_,_,_,_,9,9,ba.of (s1 _ _ pR),9,_,9,_,_,_,_,9,9,ba.of (s1 _ _ NP),9,e0,h2,h1,[],cy,cb,9,he1,aJ _,dq,ba.of (s1 _ _ N0),ba.of (s1 _ _ VU),8,8,λz hz=>bc (f7 (q2.hh z hz)).2.1 7,λH2 s2 e2=>?_,λd g0 H2 s2 nA hd2 e2=>?_}
 ·show{_,9,9,_,9,ml (k1 H2 (s1.trans s2) λh hl=>?_)};let(g',e,__):=aH.uU (g:=[]) dq (λp hp=>by cases hp);rw[hl.1,e2]at e;cases e
 show{_,9,9,_,9,fB ?_};have CJ:=s1.trans s2;let(n0,__,ks0,YE):=aH.tZ (g:=[]) dq e2;show{_,9,_,_,_,_,9,9,ba.of (CJ _ _ NP),9,λx dx hx hdx ne=>?_};have s3:aG H2 (upd (upd H2 dx (.own x)) x (.ins C dx [])):=λb u h=>by rw[aM (bw h hx),aM (bw h hdx)];show h
 have hx3:upd (upd H2 dx (.own x)) x (.ins C dx []) x=some (.ins C dx []):=ar;have pP:=CJ.trans s3;have la1:=q1.l8;have la2:=q2.l8;show{x,a1,dx,Zx,bM,H2,9,hx3,hx,ba.of (pP _ _ QP),JK (EI.keep λb xs h=>pP _ _ h),8,Jv q1.good,s3,λH4 A' B kvs s4 A0 B0 VJ hB4 ax ab db=>{9,?_}};have nO:=CJ.trans s4;show{x,dx,_,9,VJ,9,_,9,_,_,_,_,9,9,ba.of (nO _ _ pR),9,a2,PK,9,.inr (ba.of (nO _ _ ha2)),λl hl=>?_};have s5:aG H4 (upd H4 l (.lst PK)):=aD hl _;have NU:upd H4 l (.lst PK) l=some (.lst PK):=ar;generalize (upd H4 l (.lst PK))=H5 at s5 NU⊢;have vB:=nO.trans s5;have uf:∀u,u∈aH.jI bf bT->u∈bz bT:=λu hu=>by let(b,hb,h,__):=aH.cU.mp hu;show gF.mpr ⟨b,hb,h⟩
 have lf:(bz bT).length<=4*bT.length:=by have:=q2.good.len bT.length;rw[aT]at this;show this
 have k0:=λu hu=>((ks0 u).mp hu).elim (λh=>by cases h) id;have dB:d≠B:=λe=>by rw[e,B0]at hd2;cases hd2
 have H0B:H B=none:=by
  cases e:H B with
  |none=>rfl
  |some u=>rw[CJ _ _ e]at B0;cases B0
 have tn8:tn bT.length<=9000000:=bc (aaW la2) 7;have ask:Ask P w K C H5 x A' B dx kvs bM 0 (cy++bz bT) d g0 bT 08:=
  {{s5 _ _ VJ,((ax.free.mono ∅).same s5),ab,db},{[],EN (s5 _ _ hB4),au _,λq hq=>by cases hq},la1,Jv q1.good,Jv q2.good,la2,au _,8,s5 _ _ (s4 _ _ hd2),dB,n0,λu hu=>(k0 u hu).2,λq hq=>(xm e2 q hq).elim (λh=>by cases h) λh=>(f7 (q1.hh _ h)).2.2,λu hu=>bu _ (k0 u hu).1,λu hu=>bj _ (uf u hu),by rw[aC];lia}
 have ZS:∀H6,SB B H5 H6->aG H H6:=λH6 sb b u h=>sb b u (bw h H0B) (vB _ _ h);show{_,9,x,A',B,dx,l,d,kvs,bM,0,_,g0,bT,PK,9,ask,bg.of NU,JK (LK.keep λb xs h=>vB _ _ h),λH6 sb va nc=>?_,λH6 d6 g6 sb va N7 dB6 fg6 got=>?_}
 ·show k1 H6 (ZS H6 sb) λh hl=>nc {h,?_,hl.2};let(g',e,ag):=aH.uU (g:=[]) dq (λp hp=>by cases hp);rw[hl.1,e2]at e;cases e;show ag
 ·show k2 H6 d6 g6 (ZS H6 sb) N7 {got.nd,λu=>?_,λh ag=>{YE h (aH.iM.longer n0 got.lg ag),got.ft h ag},fg6};rw[got.ks,ks0];show or_congr_left {λh=>h.elim (λh=>by cases h) id,.inr}
def wb{z:io}(h:isVal z=true):z.length<=08:=by unfold isVal at h;rw[bQ,bQ]at h;have:=aU h.2.1;lia
def T9{z:io}(h:1<=z.length):(Txt.slice z (some 1) none).cps.toList=z.cps.toList.drop 1:=by
 have e:=slice_from_eq (x:=z) (i:=1) 7 ∅ rfl;rw[e];show dj ?_;rw[c9];have:z.cps.toList.length=z.length:=by simp[Str.length]
 lia
def T7(n:Nat)(h:n<=100000):((n:Int)).natAbs.log2<1920:=by
 rw[Int.natAbs_natCast];by_cases h0:n=0
 ·rw[h0];decide
 ·rw[Nat.log2_lt h0];show fY h 21
def Xm:bX ["terms","given"] ["terms","given"] (bH IX):=gg 21
def X5(F:dH K "image" "image" IX f fd)(T:Txt K mg):cH P w K mg base dZ 1 f fd ["terms","given"] G6:=by
 show F.ok Xm 71;let(t,d,ts,g,rfl,ht,hd,hl,k):=h;show{_,(aO (bJ (dc hJ 9 T.jg 21 (bR (je 9 (cR (fs:=["given"]) (fr:=[1])) (il (pv 0)) (λ_ _ _ _=>(tQ (nQ hr) (pv 1) (pv 0) (pv 0) R9))))))),?_};show{_,9,t,9,{_,ba.of ht},mW (xs:=ts.map V.str) (λi ys H2=>H2=H/\i<=ts.length/\ys=((ts.take i).map (dv g)).map V.str) (by rw[ah];show bq ∅) {9,aJ _,9} ?_ ?_ ?_}
 ·ext i ys H2 hi ⟨rfl,_,rfl⟩;show{ba.of ht,?_};rw[ah,ah,aV];lia
 ·ext i x ys H2 N hc ⟨rfl,hi,rfl⟩ hN;let(z,hz,rfl):=jy hc;have bN:=(aq.mp hz).1;show{_,9,d,9,.inl {_,.inl hd},_,9,_,9,_,kW.k (k:=Sum.inr z) hd,?_};have e:(iQ (gD g) (Sum.inr z:Key)).getD (.str z)=.str (dv g z):=by rw[II];unfold dv;cases Nl g z<;>rfl
  rw[e];show hN _ _ {9,bN,?_};rw[bh,hz,aF,aF];rfl
 ·ext ys H2 ⟨rfl,_,rfl⟩ l qZ;rw[ah,aT];show{l,_,9,.inl {bg.of ar,λp hp=>k p _ ((aD qZ _).trans (aD hp _)) ar}}
def fW(k:Nat):io:=⟨(110::(Nat.toDigits 10 k).map Char.toNat).toArray⟩
def JZ(k:Nat):io:=⟨(63::110::(Nat.toDigits 10 k).map Char.toNat).toArray⟩
def aai(k:Nat):("n":io)++Str.ofString (toString (k:Int))=fW k:=by rw[show(k:Int)=Int.ofNat k from rfl,text_ofNat];change(⟨("n":io).cps++_⟩:io)=_;rw[show("n":io).cps=#[110] by decide+kernel];unfold fW;simp
def Ro(k:Nat):("?":io)++fW k=JZ k:=by change(⟨("?":io).cps++_⟩:io)=_;rw[show("?":io).cps=#[63] by decide+kernel];unfold JZ fW;simp
def acj:((List.range 10).all λd=>sgn (48+d))=true:=by decide+kernel
def afx:sgn 110=true:=by decide+kernel
def SQ{k c:Nat}(h:c∈(Nat.toDigits 10 k).map Char.toNat):sgn c=true/\c<128:=by let(ch,B5,rfl):=az.mp h;have r2:=digit_range (Nat.isDigit_of_mem_toDigits (b:=10) 7 7 B5);have e:=bt.mp acj (ch.toNat -48) (cw.mpr ∅);rw[show 48+(ch.toNat -48)=ch.toNat by lia]at e;show{e,8}
def U1{k:Nat}(h:k<600):(fW k).length<=4:=by change((110::(Nat.toDigits 10 k).map Char.toNat).toArray).size<=4;rw[aQ,bx,ah];have:=digits10_le (k:=3) (n:=k) 7 ∅;lia
def Nb{k:Nat}(h:k<600):isVal (fW k)=true:=by
 have l1:=U1 h;have l0:1<=(fW k).length:=by change 1<=((110::(Nat.toDigits 10 k).map Char.toNat).toArray).size;rw[aQ,bx];lia
 unfold isVal;rw[bb ∅,bb ∅,iy,iy,bt];ext b hb;let(c,hc,rfl):=az.mp hb;rcases aN.mp hc with rfl|hc
 ·show afx
 ·show(SQ hc).1
def adQ{i j:Nat}(h:fW i=fW j):i=j:=by
 have h1:(fW i).cps.toList=(fW j).cps.toList:=by rw[h]
 unfold fW at h1;simp only[nZ,true_and]at h1;have h2:=BC i;rw[h1,BC]at h2;show h2.symm
def LU(k:Nat):Txt.slice (JZ k) (some 1) none=fW k:=by
 have e:(Txt.slice (JZ k) (some 1) none).cps=(fW k).cps:=by apply Array.ext';rw[(T9 (z:=JZ k) (by change 1<=((63::110::(Nat.toDigits 10 k).map Char.toNat).toArray).size;rw[aQ,bx];lia))];rfl
 cases hs:Txt.slice (JZ k) (some 1) none with
 |mk c=>rw[hs]at e;cases e;rfl
def acG{k:Nat}(h:k<600):bf (JZ k)=true:=by unfold bf;rw[LU,Nb h,Bool.and_true,wy rfl];decide+kernel
def Z8{z:io}(h:∀c∈z.cps.toList,c<128):PyData.strOk z=true:=by
 unfold PyData.strOk;rw[<-xR,bt]
 exactλc hc=>bb (by have:=h c hc;lia)
def ae9(k:Nat):PyData.strOk (JZ k)=true:=Z8 λc hc=>by
 rcases aN.mp hc with rfl|hc
 ·decide
 ·rcases aN.mp hc with rfl|hc
  ·decide
  ·show(SQ hc).2
structure ahS(k:Nat):Prop where
 v:isVal (fW k)=true
 l:(fW k).length<=4
 u:bf ("?"++fW k)=true
 us:PyData.strOk ("?"++fW k)=true
 c:Txt.slice ("?"++fW k) (some 1) none=fW k
def aah{k:Nat}(h:k<600):ahS k:={Nb h,U1 h,Ro _▸acG h,Ro _▸ae9 k,Ro _▸LU k}
def U2{i j:Nat}(hi:i<600)(hj:j<600)(h:fW i=fW j):i=j:=adQ h
theorem Jh{α β:Type}{f:α->β}:∀{l:List α},(∀i∈l,∀j∈l,f i=f j->i=j)->l.Nodup->(l.map f).Nodup
 |[],_,_=>.nil
 |a::l,h,nd=>by rw[cY]at nd;rw[bo,cY];show{λe=>?_,Jh (λi hi j hj=>h i (ay _ hi) j (ay _ hj)) nd.2};let(b,hb,e):=az.mp e;show nd.1 (h b (ay _ hb) a aw e▸hb)
theorem U3:∀{s t:Aah},s.Nodup->(∀z∈s,z∈t)->s.length<=t.length
 |[],_,_,_=>aJ _
 |z::s,t,hn,hs=>by
  have hz:=hs z aw;rw[cY]at hn;have h1:=U3 (t:=t.erase z) hn.2 λy hy=>by show(BG (λe=>hn.1 (by rw[<-e];show hy))).mpr (hs y (ay _ hy))
  rw[xM hz]at h1;have h2:=qu hz;change s.length+1<=t.length;lia
inductive TZ(vs:Aao)(H:Hp)(Q:VK)(_x3:XK):Prop
 |mk (n:Int) (tl:bn) (tk:Aah) (_:vs=[.int n,.ref tl]) (_:H tl=some (.lst (tk.map V.str))) (_:0<=n) (_:n+tk.length<=500) (_:∀(r:bn)(ks:List Nat)(H':Hp),aG H H'->H r=none->H' r=some (.lst ((ks.map fW).map V.str))->(ks.length:Int)=n->ks.Nodup->(∀k∈ks,k<600/\fW k∉tk)->Q (.ref r) H')
def m8:bX ["count","taken","found","number","value"] ["count","taken"] (bH wI):=gg 21
def nnS{k:Nat}(h:k<600):(Str.ofString (toString (k:Int))).length<=100:=by have h1:=(aah h).l;rw[<-aai,vK]at h1;lia
def Ls{f:bn}{fd:i8}(F:dH K "new_values" "new_values" wI f fd)(T:Txt K mg):cH P w K mg base dZ 1 f fd ["count","taken"] TZ:=by
 show F.ok m8 71;let(n,tl,tk,rfl,QB,n0,nt,k):=h;show{_,(aB (dW 2 m8 (dS gS)) (aB (dW 3 m8 aK) (aB (MC bG (bZ yq (bD cJ 9 T.dR bC (bR (pv 2))) (pv 0) (cx _)) (aB (dW 4 m8 (cL o7 gG (dc DM 9 T.Be 21 (bR (pv 3))))) (aB (dg (bZ mh (pv 4) (pv 1) 86) (aO (gn (jq bO gX gW qW (pv 2) (bR (pv 4))))) cm) (aO (adq (i:=3) m8.nd 9 (Or.inl 9) aK ad9))))) (aO (bJ (pv 2)))))),?_}
 show{77,λfl xh=>?_};show{λm Z H2=>∃(num:Nat)(x4:Aap)(ks sk:List Nat),m=600 -num/\num<600/\Z=[some (.int n),some (.ref tl),some (.ref fl),some (.int (num:Int)),x4]/\aG H H2/\H2 fl=some (.lst ((ks.map fW).map V.str))/\(ks.length:Int)<=n/\ks.length+sk.length=num/\ks.Nodup/\sk.Nodup/\(∀i∈ks,i<num/\fW i∉tk)/\(∀i∈sk,i<num/\fW i∈tk),{_,0,none,[],[],9,7,9,aD xh _,ar,by change(0:Int)<=n;show n0,9,.nil,.nil,(λi h=>by cases h),λi h=>by cases h},?_};ext m Z H2 ⟨num,x4,ks,sk,rfl,Sj,rfl,sm,Di,hkn,hks,Nc,qV,Dg,yD⟩;have lk:((ks.map fW).map V.str).length=ks.length:=by rw[ah,ah]
 have lsk:sk.length<=tk.length:=by
  have h1:(sk.map fW).Nodup:=by show Jh (λi hi j hj e=>U2 (dP (yD i hi).1 Sj) (dP (yD j hj).1 Sj) e) qV
  have:=U3 h1 λz hz=>by let(i,hi,rfl):=az.mp hz;show(yD i hi).2
  rw[ah]at this;show this
 show{_,9,_,_,9,.inl {_,bg.of Di,9},_,9,_,_,9,9,_,9,?_};show dI (λc=>?_) (λc=>?_)
 ·have c:=aU c;show{λσ' H'=>∃(Bb:Nat)(x4':Aap)(C6 Ua:List Nat),Bb=num+1/\Bb<600/\σ'=[some (.int n),some (.ref tl),some (.ref fl),some (.int (Bb:Int)),x4']/\aG H H'/\H' fl=some (.lst ((C6.map fW).map V.str))/\(C6.length:Int)<=n/\C6.length+Ua.length=Bb/\C6.Nodup/\Ua.Nodup/\(∀i∈C6,i<Bb/\fW i∉tk)/\(∀i∈Ua,i<Bb/\fW i∈tk),λσ' H' ⟨Bb,x4',C6,Ua,e,r⟩=>{600 -Bb,8,Bb,x4',C6,Ua,9,r},?_};have hb:=aah Sj;have ln:=nnS Sj;have e1:("n":io).length=1:=by decide+kernel
  have ls:=bq (n:=1+(Str.ofString (toString (num:Int))).length) ∅;show{_,9,(num:Int),9,T7 num ∅,_,_,9,9,8,?_};rw[aai];show{_,9,_,9,tl,_,9,.inl (bg.of (sm _ _ QB)),9,xl _,_,9,?_};rw[wm];show dI (λc1=>?_) (λc1=>?_)
  ·have c1:fW num∉tk:=by simpa using c1
   show{_,9,.inl {9,_,bg.of Di},_,9,_,_,_,9,9,Di,by rw[lk];show bq ∅,?_};show{_,9,_,_,9,9,?_};show{num+1,_,ks++[num],sk,9,by rw[lk]at c;lia,9,λb u e=>?_,?_,?_,?_,?_,qV,λi hi=>?_,λi hi=>{eP (yD i hi).1,(yD i hi).2}}
   ·rw[aM (bw e xh)];show sm _ _ e
   ·rw[ar,aF,aF];rfl
   ·rw[aC];change((ks.length+1:Nat):Int)<=n;lia
   ·rw[aC];change ks.length+1+sk.length=num+1;lia
   ·rw[eR];show{Nc,58,λa ha b hb e=>?_};have h1:=(Dg a ha).1;rw[aA.mp hb]at e;lia
   ·rcases aS.mp hi with hi|hi
    ·show{eP (Dg i hi).1,(Dg i hi).2}
    ·rw[aA.mp hi];show{dJ _,c1}
  ·have c1:fW num∈tk:=by simpa using c1
   show{_,9,_,_,9,9,?_};show{num+1,_,ks,sk++[num],9,by rw[lk]at c;lia,9,sm,Di,hkn,?_,Nc,?_,λi hi=>{eP (Dg i hi).1,(Dg i hi).2},λi hi=>?_}
   ·rw[aC];change ks.length+(sk.length+1)=num+1;lia
   ·rw[eR];show{qV,58,λa ha b hb e=>?_};have h1:=(yD a ha).1;rw[aA.mp hb]at e;lia
   ·rcases aS.mp hi with hi|hi
    ·show{eP (yD i hi).1,(yD i hi).2}
    ·rw[aA.mp hi];show{dJ _,c1}
 ·have c:¬((((ks.map fW).map V.str).length:Nat):Int)<n:=λh=>c (bb h);show{_,9,k fl ks H2 sm xh Di ∅ Nc λi hi=>⟨by have:=(Dg i hi).1;lia,(Dg i hi).2⟩}
inductive wz(vs:Aao)(H:Hp)(Q:VK)(_x3:XK):Prop
 |mk (v:V) (hz:Aah) (aP:Aaa) (_:vs=[v]) (_:QW H v hz aP) (_:∀(r:bn)(H':Hp),aG H H'->H r=none->H' r=some (.lst ((hz++bz aP).map V.str))->Q (.ref r) H')
def y4:bX ["question","found","atom"] ["question"] (bH AU):=gg 21
def Pc{f:bn}{fd:i8}(F:dH K "terms_of" "terms_of" AU f fd)(T:Txt K mg):cH P w K mg base dZ 1 f fd ["question"] wz:=by
 show F.ok y4 71;obtain⟨v,hz,aP,rfl,⟨⟨q,hd,aa,fS,rfl,hq,ny,jt,fC⟩,l1,l8,good,h4,hh⟩,k⟩:=h;show{_,(aB (dW 1 y4 (dc mB 9 T.ox 21 (bR (bF bU (pv 0) aK (λ_ _=>9))))) (aB (dM bG 9 (il (bF bU (pv 0) aK (λ_ _=>9))) (gB 2 y4) (aO (gn (jq bO eF eE vZ (pv 1) (bR (bF bU (pv 2) aK (λ_ _=>9))))))) (aO (bJ (pv 1))))),?_}
 show{_,9,_,_,_,_,9,9,ba.of hq,9,hd,_,9,.inr (ba.of ny),λl hl=>?_};show{_,rfl,_,_,_,_,rfl,rfl,ba.of (aD hl _ _ _ hq),rfl,aa,rfl,{fS,ba.of (aD hl _ _ _ jt)},tY
  (λi Z H2=>∃(x2:Aap),Z=[some (.ref q),some (.ref l),x2]/\aG H H2/\H2 l=some (.lst ((hz++bz (aP.take i)).map V.str))) {none,9,aD hl _,by rw[ar];change some (HO.lst _)=some (HO.lst ((hz++[]).map V.str));rw[cZ]} (λi Z H2 _ hq=>by(let(__,__,sm,__):=hq;show ba.of (sm _ _ jt))) ?_ ?_}
 ·ext i x Z H2 hx ⟨x2,rfl,sm,fw⟩;let(ta,ht,p,t,rfl,hp,pQ):=Paired.at fC hx;have g:=good ta (aE ht);have lf:=good.len i;show{_,9,.inl {9,_,bg.of fw},_,9,_,_,_,_,9,9,ba.of (sm _ _ hp),9,l,t,_,_,9,9,fw,ba.of (sm _ _ pQ),?_,?_}
  ·rw[ah,ah,aC];show bE (bq ∅)
  ·show{_,9,λb u e=>?_,?_}
   ·rw[aM (bw e hl)];show sm _ _ e
   ·rw[ar,pC ht,<-dN,aF (l₁:=hz++bz (aP.take i))]
 ·ext Z H2 ⟨x2,rfl,sm,fw⟩;rw[(a9 fC),aT]at fw;show{_,9,k l H2 sm hl fw}
structure En where
 nm:io
 ad:bn
 ys:Aao
 rows:Aab
def gC(e:En):Key×V:=(Sum.inr e.nm,.ref e.ad)
def Rg(r:Aah):Prop:=1<=r.length/\r.length<=4
end
def JT(K:Frag)(H:Hp)(e:En):Prop:=H e.ad=some (.lst e.ys)/\d7 K H e.ys e.rows/\(∀r∈e.rows,Rg r)/\e.rows.length<=60
def JN(K:Frag)(H:Hp)(d:bn)(es:List En):Prop:=H d=some (.dK (es.map gC))/\(es.map (·.nm)).Nodup/\es.length<=60/\∀e∈es,JT K H e
section
variable{K:Frag}{H H':Hp}{d:bn}
def adP(es:List En):(es.map gC).map (·.1)=(es.map (·.nm)).map (Sum.inr:io->Key):=by rw[b8,b8];rfl
def JT.keep(h:JT K H e)(x:aG H H'):JT K H' e:={x _ _ h.1,iG h.2.1 (cu.same x),h.2.2}
def JN.keep(h:JN K H d es)(x:aG H H'):JN K H' d es:={x _ _ h.1,h.2.1,h.2.2.1,λe he=>(h.2.2.2 e he).keep x}
theorem tG:∀{es:List En},(es.map (·.nm)).Nodup->∀{e:En},e∈es->iQ (es.map gC) (Sum.inr e.nm)=some (.ref e.ad)
 |[],_,e,h=>by cases h
 |a::r,nd,e,h=>by
  rw[bo,cY]at nd;rcases aN.mp h with rfl|h
  ·show tF rfl
  ·have ne:¬(gC a).1=Sum.inr e.nm:=λq=>nd.1 (by
    have:a.nm=e.nm:=by injection q
    rw[this];show bI h)
   rw[bo,qC ne];show tG nd.2 h
theorem LP:∀{es:List En}{z:io},z∉es.map (·.nm)->iQ (es.map gC) (Sum.inr z:Key)=none
 |[],_,_=>rfl
 |a::r,z,h=>by rw[bo,aN]at h;rw[bo,qC (λq=>h (.inl (by injection q with q;show q.symm)))];show LP λq=>h (.inr q)
def jo(es:List En)(z:io):Aab:=match es.find? (λe=>decide (e.nm=z))with
 |some e=>e.rows
 |none=>[]
theorem tL:∀{es:List En},(es.map (·.nm)).Nodup->∀{e:En},e∈es->jo es e.nm=e.rows
 |[],_,e,h=>by cases h
 |a::r,nd,e,h=>by
  rw[bo,cY]at nd;unfold jo;rcases aN.mp h with rfl|h
  ·rw[gx (p:=λx:En=>decide (x.nm=e.nm)) (bb 9)]
  ·have ne:¬decide (a.nm=e.nm)=true:=λq=>nd.1 (by
    rw[aU q];show bI h)
   rw[gA (p:=λx:En=>decide (x.nm=e.nm)) ne];show tL nd.2 h
end
section
variable{P:dL}{w:i3}{K:Frag}{mg:Aad}{base:i5}
inductive Ma(K:Frag)(vs:Aao)(H:Hp)(Q:VK)(_x3:XK):Prop
 |mk (d:bn) (es:List En) (e:En) (_:vs=[.ref d,.str e.nm]) (_:JN K H d es) (_:e∈es) (_:∀(l:bn)(zs:Aao)(H':Hp),aG H H'->H l=none->H' l=some (.lst zs)->d7 K H' zs (iN e.rows)->Q (.ref l) H')
def RE:bX ["tables","name"] ["tables","name"] (bH CD):=gg 21
def gZ(h:d7 K H ys rows)(s:aG H H'):d7 K H' ys rows:=iG h (cu.same s)
def L6(q:ba K H a xs)(s:aG H H'):ba K H' a xs:=by
 rcases q with(q|⟨o,q⟩)|q
 ·show .inl (.inl (s _ _ q))
 ·show .inl (.inr {o,s _ _ q})
 ·show .inr q
def RR(F:dH K "rows_of" "rows_of" CD f fd)(T:Txt K mg):cH P w K mg base dZ 1 f fd ["tables","name"] (Ma K):=by
 show F.ok RE 71;let(d,es,e,rfl,hT,he,k):=h;show{_,(aO (bJ (bD (Au hr.hd) 9 T.tS 21 (bR (dc (K7 hr.hd hr.units) 9 T.R1 21 (bR (tQ (nQ hr) (pv 0) (pv 1) (dS gS) aam))))))),?_};let(hd,hn,hl,ho):=id hT;let(ha,hR,hg,hlr):=ho e he;show{_,9,d,9,.inl {_,.inl hd},_,9,77,λl0 sT=>?_};have G9:aG H (upd H l0 70):=aD sT _;generalize (upd H l0 70)=H0 at G9⊢;show{_,kW.k (k:=Sum.inr e.nm) (G9 _ _ hd),?_};rw[tG hn he];show{e.ad,e.ys,e.rows,9,bg.of (G9 _ _ ha),gZ hR G9,8,λa us ha0 nu mu lu NJ=>?_};have yl:aG H0 (upd H0 a (.ext (vo P w a us))):=aD ha0 _;show{a,us,e.ys,9,ar,λx hx=>{L6 (NJ x hx).1 yl,(NJ x hx).2},λ_ x hx=>?_,8,λl zs hl pR _=>?_}
 ·have:=hg x.1 ((mu x.1).mp (bI hx));ext q;have:=this.1;rw[q]at this;cases this
 ·replace hl:upd H0 a (.ext (vo P w a us)) l=none:=hl
  have lP:aG (upd H0 a (.ext (vo P w a us))) (upd (upd H0 a (.ext (vo P w a us))) l (.lst zs)):=aD hl _;rw[F0 nu mu]at pR;show k l zs _ (G9.trans (yl.trans lP)) ?_ ar (gZ pR lP);cases q:H l with
  |none=>rfl
  |some o=>
   rw[yl _ _ (G9 _ _ q)]at hl;cases hl
structure Ds(P:dL)(w:i3)(K:Frag)(mg:Aad)(base:i5):Prop where
 abc:b6 P w K mg base 1 "rows_of" ["tables","name"] (Ma K)
def Found(K:Frag)(H H':Hp)(p:bn)(es fs:List En):Prop:=H' p=some 78/\H p=none/\fs.map (·.nm)=(eY (es.map (·.nm))).filter (λz=>!(jo es z).isEmpty)/\(fs.map (·.ad)).Nodup/\
 ∀e∈fs,H e.ad=none/\e.ad≠p/\H' e.ad=some (.lst e.ys)/\d7 K H' e.ys e.rows/\e.rows=iN (jo es e.nm)
inductive L9(K:Frag)(vs:Aao)(H:Hp)(Q:VK)(_x3:XK):Prop
 |mk (d:bn) (es:List En) (_:vs=[.ref d]) (_:JN K H d es) (_:∀(p:bn)(fs:List En)(H':Hp),aG H H'->Found K H H' p es fs->Q (.ref p) H')
def mQ:bX ["tables","told","name","rows"] ["tables"] (bH rJ):=gg 21
def Fh(rows:Aab):(iN rows).isEmpty=rows.isEmpty:=by
 cases rows with
 |nil=>
  cases h:iN []with
  |nil=>rfl
  |cons b r=>
   have:b∈iN []:=h▸aw;cases(uR b []).mp this
 |cons a r=>
  have:a∈iN (a::r):=(uR a _).mpr aw;cases h:iN (a::r)with
  |nil=>rw[h]at this;cases this
  |cons _ _=>rfl
def Gp{f:bn}{fd:i8}(F:dH K "sorted_tables" "sorted_tables" rJ f fd)(T:Txt K mg)(D:Ds P w K mg base):cH P w K mg base dZ 2 f fd ["tables"] (L9 K):=by
 show F.ok mQ 71;let(d,es,rfl,hT,k):=h;show{_,(aB (dW 1 mQ iY) (aB (dM bG 9 (dO (bD (DO hr.hd) 9 T.tS 21 (bR (pv 0)))) (gB 2 mQ) (aB (dW 3 mQ (cl D.abc hr (cP (pv 0) (pv 2)))) (aO (dg (XG (pv 3) (λ_=>9)) (aO (EA (nQ hr) (pv 1) (pv 2) (pv 3) 9)) cm)))) (aO (bJ (pv 1))))),?_}
 let(hd,hn,hl,ho):=id hT;ext p hp;have G9:aG H (upd H p 69):=aD hp _;have nv:upd H p 69 p=some 69:=ar;show{_,9,d,es.map gC,es.map (·.nm),9,G9 _ _ hd,adP es,by rw[ah];lia,λl sT=>?_};have Qm:=bw nv sT;have ps:=ix (es.map (·.nm));show{l,rfl,{_,bg.of ar},iC (xs:=(eY (es.map (·.nm))).map V.str)
  (λi Z H2=>∃(x2 x3:Aap)(fs:List En),Z=[some (.ref d),some (.ref p),x2,x3]/\aG H H2/\H2 l=some (.lst ((eY (es.map (·.nm))).map V.str))/\H2 p=some 78/\fs.map (·.nm)=((eY (es.map (·.nm))).take i).filter (λz=>!(jo es z).isEmpty)/\(fs.map (·.ad)).Nodup/\
   ∀e∈fs,H e.ad=none/\e.ad≠p/\H2 e.ad=some (.lst e.ys)/\d7 K H2 e.ys e.rows/\e.rows=iN (jo es e.nm)) ?_ ?_ ?_ ?_}
 ·show{none,none,[],9,(G9.trans (aD sT _)),ar,?_,9,dq,λe h=>by cases h};rw[aM Qm];show nv
 ·ext i Z H2 hi ⟨x2,x3,fs,rfl,lP,fw,_⟩;show bg.of fw
 ·ext i x Z H2 hx ⟨x2,x3,fs,rfl,lP,fw,iZ,N4,na2,KJ⟩;let(z,hz,rfl):=bA.mp (by rw[<-aZ];show hx);let(e,he,rfl):=az.mp (ps.mem_iff.mp (aE hz));have er:=tL hn he;show{_,9,_,9,d,es,e,9,hT.keep lP,he,λl3 zs H3 qQ rZ aeu De=>?_};have gE:=qQ _ _ iZ;have keep:∀e∈fs,H e.ad=none/\e.ad≠p/\H3 e.ad=some (.lst e.ys)/\d7 K H3 e.ys e.rows/\e.rows=iN (jo es e.nm):=λe' h'=>by let(q1,q2,q3,q4,q5):=KJ e' h';show{q1,q2,qQ _ _ q3,gZ q4 qQ,q5}
  have ft:=zq (g:=λz=>!(jo es z).isEmpty) hz;have lz:zs.isEmpty=(jo es e.nm).isEmpty:=by rw[er,<-Fh];have:=De.length;cases zs<;>cases h:iN e.rows<;>simp_all
  show{_,9,!zs.isEmpty,.inl {zs,bg.of aeu,9},?_};rw[lz];show dI (λc=>?_) (λc=>?_)
  ·have l3n:H l3=none:=by
    cases q:H l3 with
    |none=>rfl
    |some o=>
     rw[lP _ _ q]at rZ;cases rZ
   have n3p:l3≠p:=λq=>by rw[q,iZ]at rZ;cases rZ
   have nm:e.nm∉fs.map (·.nm):=λq=>by
    rw[N4]at q;have:=(cM.mp q).1;let(j,hj):=dy.mp this;rw[u3]at hj;split at hj
    next lt=>
     have li:=(aq.mp hz).1;have:=(List.getElem?_inj li (ps.nodup_iff.mpr hn)).mp (hz.trans hj.symm);lia
    next=>cases hj
   have ek:putK (fs.map gC) (Sum.inr e.nm) (V.ref l3)=(fs++[En.mk e.nm l3 zs (iN e.rows)]).map gC:=by rw[Gj _ (LP nm),aF];rfl
   have lfs:fs.length<=1000:=by
    have h1:fs.length=(fs.map (·.nm)).length:=(ah _).symm;rw[N4]at h1;have h2:=cS (λz=>!(jo es z).isEmpty) ((eY (es.map (·.nm))).take i);have h3:((eY (es.map (·.nm))).take i).length<=(eY (es.map (·.nm))).length:=aV▸Nat.min_le_right _ _;have h4:(eY (es.map (·.nm))).length=es.length:=by rw[ps.length_eq,ah]
    lia
   show{_,9,_,9,_,9,p,_,9,.inl {_,Sum.inr e.nm,gE,9,by rw[ah];show bq lfs,9},?_};rw[ek];have qj:aG H (upd H3 p (.dK ((fs++[En.mk e.nm l3 zs (iN e.rows)]).map gC))):=λb u q=>by rw[aM (bw q hp)];show qQ _ _ (lP _ _ q)
   have tk:∀{ys:Aao}{rows:Aab},d7 K H3 ys rows->d7 K (upd H3 p (.dK ((fs++[En.mk e.nm l3 zs (iN e.rows)]).map gC))) ys rows:=λh=>iG h (cu.upd (tR gE));show{_,_,fs++[En.mk e.nm l3 zs (iN e.rows)],9,qj,?_,ar,?_,?_,λe' h'=>?_}
   ·rw[aM Qm.symm];show qQ _ _ fw
   ·rw[aF,N4,ft,aL c];rfl
   ·rw[aF];show eR.mpr {na2,58,λa ha b hb=>?_};rw[oQ,aA]at hb;let(e',h',rfl):=az.mp ha;rw[hb];ext q;have:=(KJ e' h').2.2.1;rw[q]at this;rw[this]at rZ;cases rZ
   ·rcases aS.mp h' with h'|h'
    ·let(q1,q2,q3,q4,q5):=keep e' h';show{q1,q2,aM q2▸q3,tk q4,q5}
    ·rw[aA.mp h'];show{l3n,n3p,aM n3p▸aeu,tk De,by rw[er]}
  ·show{_,_,fs,9,lP.trans qQ,qQ _ _ fw,gE,?_,na2,keep};rw[ft,aI c,cZ];show N4
 ·ext Z H2 ⟨x2,x3,fs,rfl,lP,fw,iZ,N4,na2,KJ⟩;rw[ah,aT]at N4;show{_,9,k p fs H2 lP ⟨iZ,hp,N4,na2,KJ⟩}
structure Ds2(P:dL)(w:i3)(K:Frag)(mg:Aad)(base:i5):Prop extends Ds P w K mg base where
 Ln:b6 P w K mg base 2 "sorted_tables" ["tables"] (L9 K)
def jK(rws:Aaa)(z:io):Aab:=(rws.filter λa=>decide (a.1=z)).map (·.2)
structure Under(K:Frag)(H0 H:Hp)(d:bn)(es:List En)(rws:Aaa):Prop where
 tb:JN K H d es
 d0:H0 d=none
 ad:(es.map (·.ad)).Nodup
 own:∀e∈es,H0 e.ad=none/\e.ad≠d
 rows:∀e∈es,e.rows=jK rws e.nm
 all:∀a∈rws,a.1∈es.map (·.nm)
 ne:∀e∈es,e.rows≠[]
 le:es.length<=rws.length
structure Told(K:Frag)(H H':Hp)(p:bn)(rws:Aaa)(fs:List En):Prop where
 at_:H' p=some 78
 p0:H p=none
 nm:(fs.map (·.nm)).Nodup
 ad:(fs.map (·.ad)).Nodup
 en:∀e∈fs,H e.ad=none/\e.ad≠p/\H' e.ad=some (.lst e.ys)/\d7 K H' e.ys e.rows/\e.rows=iN (jK rws e.nm)/\e.rows≠[]
 all:∀a∈rws,a.1∈fs.map (·.nm)
 sub:∀e∈fs,∃a∈rws,a.1=e.nm
 len:fs.length<=60
inductive L8(K:Frag)(vs:Aao)(H:Hp)(Q:VK)(_x3:XK):Prop
 |mk (l:bn) (ys:Aao) (rws:Aaa) (_:vs=[.ref l]) (_:bg K H l ys) (_:kP K H ys rws) (_:rws.length<=60) (_:(∀a∈rws,Rg a.2)) (_:∀p fs H',aG H H'->Told K H H' p rws fs->Q (.ref p) H')
def rG:bX ["atoms","tables","name","row"] ["atoms"] (bH zc):=gg 21
def Hi{rws:Aaa}{z:io}:(jK rws z).length<=rws.length:=by unfold jK;rw[ah];show cS _ _
def zh{rws:Aaa}{a:io×Aah}{z:io}:jK (rws++[a]) z=jK rws z++if a.1=z then[a.2]else[]:=by
 unfold jK;rw[dQ,aF,cK,nY];by_cases h:a.1=z
 ·rw[aL (bb h),aL h];rfl
 ·rw[aI (λq=>h (aU q)),aI h];rfl
def Hv{rws:Aaa}{z:io}{r:Aah}:r∈jK rws z↔(z,r)∈rws:=by
 unfold jK;rw[az];constructor
 ·ext⟨a,ha,rfl⟩;let(h1,h2):=cM.mp ha;rw[<-aU h2];show h1
 ·ext h;show{_,cM.mpr {h,bb rfl},9}
def yt(h:H a=some (.lst l)):v9 H a:=λxs q=>by rcases q with q|⟨o,q⟩<;>rw[h]at q<;>cases q
theorem FZ:∀{es:List En}{z:io}{v:V},iQ (es.map gC) (Sum.inr z:Key)=some v->∃e∈es,e.nm=z/\v=.ref e.ad
 |[],_,_,h=>by cases h
 |e::r,z,v,h=>by
  by_cases c:e.nm=z
  ·rw[bo,tF (show(gC e).1=Sum.inr z by rw[<-c];rfl)]at h;show{e,aw,c,(bY h).symm}
  ·rw[bo,qC (λq=>c (by injection q))]at h;let(e',h1,h2):=FZ h;show{e',ay _ h1,h2}
theorem Jr{α β:Type}{f:α->β}:∀{l:List α},(l.map f).Nodup->∀{x y:α},x∈l->y∈l->f x=f y->x=y
 |[],_,x,_,h,_,_=>by cases h
 |a::l,nd,x,y,hx,hy,e=>by
  rw[bo,cY]at nd;rcases aN.mp hx with h1|h1
  ·rcases aN.mp hy with h2|h2
   ·rw[h1,h2]
   ·show absurd (by rw[<-h1,e];show bI h2) nd.1
  ·rcases aN.mp hy with h2|h2
   ·show absurd (by rw[<-h2,<-e];show bI h1) nd.1
   ·show Jr nd.2 h1 h2 e
def aeY{es:List En}(nd:(es.map (·.ad)).Nodup){x y:En}(hx:x∈es)(hy:y∈es)(e:x.ad=y.ad):x=y:=Jr nd hx hy e
def aeK{es:List En}(nd:(es.map (·.nm)).Nodup){x y:En}(hx:x∈es)(hy:y∈es)(e:x.nm=y.nm):x=y:=Jr nd hx hy e
def M0{f:bn}{fd:i8}(F:dH K "tables_of" "tables_of" zc f fd)(T:Txt K mg)(D:Ds2 P w K mg base):cH P w K mg base dZ 3 f fd ["atoms"] (L8 K):=by
 show F.ok rG 71;let(l,ys,rws,rfl,hl,lS,lr,gr,k):=h;show{_,(aB (dW 1 rG iY) (aB (dM bG 9 (dO (pv 0)) (kG 9 (cn (gB 2 rG) (cn (gB 3 rG) gM))) (aO (gn (jq bO gX gW qW (jq dY hX mC Kr (pv 1) (cP (pv 2) (dS gS))) (bR (pv 3)))))) (aO (bJ (cl D.Ln hr (bR (pv 1))))))),?_}
 refineλd hd=>?_
 have s1:aG H (upd H d 69):=aD hd _;have hd1:upd H d 69 d=some 69:=ar;show{_,rfl,l,rfl,{_,jr hl s1},iC (xs:=ys) (λi Z H2=>∃(x2 x3:Aap)(es:List En),Z=[some (.ref l),some (.ref d),x2,x3]/\i<=rws.length/\aG H H2/\Under K H H2 d es (rws.take i))
  {_,_,[],9,aJ _,s1,{hd1,dq,aJ _,λe h=>by cases h},hd,dq,λe h=>(by cases h),λe h=>(by cases h),λa h=>(by simp at h),λe h=>(by cases h),aJ _} ?_ ?_ ?_}
 ·ext i Z H2 hi ⟨_,_,_,rfl,_,s2,_⟩;show jr hl s2
 ·ext i x Z H2 hx ⟨_,_,es,rfl,hi,s2,un⟩;let(a,ha,Dc):=Paired.at' lS hx;have bN:=(aq.mp ha).1;let(ab,ac,rfl,xi,q9):=Dc.same s2;show{ab,_,9,xi,9,_,_,9,_,_,9,9,?_};let(VY,hnE,hlE,hoE):=id un.tb;have ga:=gr a (aE ha);have e1:rws.take (i+1)=rws.take i++[a]:=by rw[bh,ha];rfl
  have lti:(rws.take i).length=i:=by rw[aV];lia
  show{_,9,.inr (.inr (.inl {9,.inl ⟨_,VY⟩})),_,9,77,λl0 sT=>?_};have s3:aG H2 (upd H2 l0 70):=aD sT _;have rZ:upd H2 l0 70 l0=some 70:=ar;generalize (upd H2 l0 70)=H3 at s3 rZ⊢;have pP:=s2.trans s3;have l00:H l0=none:=by
   cases q:H l0 with
   |none=>rfl
   |some u=>rw[s2 _ _ q]at sT;cases sT
  have dl0:l0≠d:=λq=>by rw[q,VY]at sT;cases sT
  show{d,Sum.inr a.1,.ref l0,es.map gC,9,9,s3 _ _ VY,(by rw[ah,bW];lia),λv hv=>?_,λhv=>?_}
  ·let(e,he,hen,rfl):=FZ hv;let(Ao,heR,heg,Dj):=hoE e he;have YD:=s3 _ _ Ao;have lye:=a9 heR;show{.inl {9,_,bg.of YD},_,9,e.ad,e.ys,_,9,9,YD,by rw[bW];lia,?_}
   let up:En->En:=λe'=>if e'.nm=a.1 then{e'.nm,e'.ad,e'.ys++[.ref ac],e'.rows++[a.2]}else e'
   have u1:∀e',(up e').nm=e'.nm:=λe'=>by change(if _ then _ else _:En).nm=_;split<;>rfl
   have u2:∀e',(up e').ad=e'.ad:=λe'=>by change(if _ then _ else _:En).ad=_;split<;>rfl
   have m1:(es.map up).map (·.nm)=es.map (·.nm):=by rw[b8];show b4 λe' _=>u1 e'
   have m2:(es.map up).map (·.ad)=es.map (·.ad):=by rw[b8];show b4 λe' _=>u2 e'
   have m3:(es.map up).map gC=es.map gC:=by rw[b8];show b4 λe' _=>?_;change((Sum.inr (up e').nm:Key),V.ref (up e').ad)=_;rw[u1,u2];rfl
   have ne:∀e'∈es,e'.nm≠a.1->e'.ad≠e.ad:=λe' h' n q=>n (aeY un.ad h' he q▸hen);have t4:cu H3 (upd H3 e.ad (.lst (e.ys++[.ref ac]))):=cu.upd (yt YD);show{_,_,es.map up,9,bN,λb u q=>?_,{?_,?_,?_,λe' h'=>?_},un.d0,m2▸un.ad,λe' h'=>?_,λe' h'=>?_,λb hb=>?_,λe' h'=>?_,?_}
   ·rw[aM (bw q (un.own e he).1)];show pP _ _ q
   ·rw[m3,aM (cQ (un.own e he).2)];show s3 _ _ VY
   ·rw[m1];show hnE
   ·rw[ah];show hlE
   ·let(e0,h0,rfl):=az.mp h';let(q1,q2,q3,q4):=hoE e0 h0;by_cases c:e0.nm=a.1
    ·have:e0=e:=aeK hnE h0 he (c.trans hen.symm);subst this;change JT K _ (if e0.nm=a.1 then _ else _);rw[aL c];show{ar,fK (iG heR ((cu.same s3).trans t4)) (.cons {ac,9,dh q9 ((cu.same s3).trans t4)} .nil),λr hr=>?_,?_}
     ·rcases aS.mp hr with hr|hr
      ·show heg r hr
      ·rw[aA.mp hr];show ga
     ·have:=Hi (rws:=rws.take i++[a]) (z:=e0.nm);rw[zh,aL c.symm,<-un.rows e0 h0,aC,aC,lti]at this;rw[aC];simp only[dC]at this⊢;lia
    ·change JT K _ (if e0.nm=a.1 then _ else _);rw[aI c];show{by rw[aM (ne e0 h0 c)];show s3 _ _ q1,iG q2 ((cu.same s3).trans t4),q3,q4}
   ·let(e0,h0,rfl):=az.mp h';rw[u2];show un.own e0 h0
   ·let(e0,h0,rfl):=az.mp h';rw[u1,e1,zh,<-un.rows e0 h0];change(if e0.nm=a.1 then _ else _:En).rows=_;by_cases c:e0.nm=a.1
    ·rw[aL c,aL c.symm]
    ·rw[aI c,aI (λq=>c q.symm),cZ]
   ·rw[m1];rw[e1]at hb;rcases aS.mp hb with hb|hb
    ·show un.all b hb
    ·rw[aA.mp hb,<-hen];show bI he
   ·let(e0,h0,rfl):=az.mp h';change(if e0.nm=a.1 then _ else _:En).rows≠[];by_cases c:e0.nm=a.1
    ·rw[aL c];simp
    ·rw[aI c];show un.ne e0 h0
   ·have:=un.le;rw[ah,e1,aC,lti];lia
  ·have nn:a.1∉es.map (·.nm):=λq=>by let(e,he,q):=az.mp q;rw[<-q,tG hnE he]at hv;cases hv
   rw[Gj _ hv];have t4:cu H3 (upd H3 d (.dK (es.map gC++[(Sum.inr a.1,.ref l0)]))):=cu.upd (tR (s3 _ _ VY));have qY:upd H3 d (.dK (es.map gC++[(Sum.inr a.1,.ref l0)])) l0=some 70:=aM dl0▸rZ;have HP:upd H3 d (.dK (es.map gC++[(Sum.inr a.1,.ref l0)])) d=some (.dK (es.map gC++[(Sum.inr a.1,.ref l0)])):=ar;have o4:∀b u,b≠d->H3 b=some u->upd H3 d (.dK (es.map gC++[(Sum.inr a.1,.ref l0)])) b=some u:=λb u n q=>aM n▸q;generalize (upd H3 d (.dK (es.map gC++[(Sum.inr a.1,.ref l0)])))=H4 at t4 qY HP o4⊢;show{.inl {9,_,bg.of qY},_,9,l0,[],_,9,9,qY,7,?_};have t5:cu H4 (upd H4 l0 (.lst ([]++[.ref ac]))):=cu.upd (yt qY);have t35:=(cu.same s3).trans (t4.trans t5);have nl:∀e'∈es,e'.ad≠l0:=λe' h' q=>by have:=(hoE e' h').1;rw[q,sT]at this;cases this
   show{_,_,es++[{a.1,l0,[.ref ac],[a.2]}],9,bN,λb u q=>?_,{?_,?_,?_,λe' h'=>?_},un.d0,?_,λe' h'=>?_,λe' h'=>?_,λb hb=>?_,λe' h'=>?_,?_}
   ·rw[aM (bw q l00)];show o4 _ _ (bw q un.d0) (pP _ _ q)
   ·rw[aM (cQ dl0),aF];show HP
   ·rw[aF];show eR.mpr {hnE,58,λx hx y hy q=>nn (by rw[oQ,aA]at hy;rw[<-show y=a.1 from hy,<-q];show hx)}
   ·have:=un.le;rw[aC,dC];lia
   ·rcases aS.mp h' with h'|h'
    ·let(q1,q2,q3,q4):=hoE e' h';show{by rw[aM (nl e' h')];show o4 _ _ (un.own e' h').2 (s3 _ _ q1),iG q2 t35,q3,q4}
    ·rw[aA.mp h'];show{ar,.cons {ac,9,dh q9 t35} .nil,λr hr=>?_,by change 1<=60;decide};rw[aA.mp hr];show ga
   ·rw[aF];show eR.mpr {un.ad,by simp,λx hx y hy q=>by rw[oQ,aA]at hy;let(e',h',rfl):=az.mp hx;show nl e' h' (q.trans hy)}
   ·rcases aS.mp h' with h'|h'
    ·show un.own e' h'
    ·rw[aA.mp h'];show⟨l00,dl0⟩
   ·rw[e1,zh];rcases aS.mp h' with h'|h'
    ·rw[aI (λq=>nn (by rw[q];show bI h')),cZ];show un.rows e' h'
    ·rw[aA.mp h'];rw[aL rfl];have:jK (rws.take i) a.1=[]:=by
      cases q:jK (rws.take i) a.1 with
      |nil=>rfl
      |cons r t=>
       have hr:r∈jK (rws.take i) a.1:=q▸aw;show absurd (un.all _ (Hv.mp hr)) nn
     rw[this,jY]
   ·rw[aF];rw[e1]at hb;rcases aS.mp hb with hb|hb
    ·show bu _ (un.all b hb)
    ·rw[aA.mp hb];show bj _ aw
   ·rcases aS.mp h' with h'|h'
    ·show un.ne e' h'
    ·rw[aA.mp h'];simp
   ·have:=un.le;rw[e1,aC,aC,dC,dC];lia
 ·ext Z H2 ⟨_,_,es,rfl,_,s2,un⟩;rw[(a9 lS),aT]at un;show{_,9,d,es,9,un.tb,λp fs H3 s3 fo=>?_};let(f1,f2,f3,f4,f5):=fo;have hn:=un.tb.2.1;have ps:=ix (es.map (·.nm));have ne:∀z∈es.map (·.nm),(jo es z).isEmpty=false:=λz hz=>by
   let(e,he,rfl):=az.mp hz;rw[tL hn he];have:=un.ne e he;cases q:e.rows with
   |nil=>show absurd q this
   |cons _ _=>rfl
  rw[(List.filter_eq_self.mpr λz hz=>by rw[ne z (ps.mem_iff.mp hz)];rfl)]at f3;have z0:∀b,H2 b=none->H b=none:=λb q=>by
   cases e:H b with
   |none=>rfl
   |some u=>rw[s2 _ _ e]at q;cases q
  show k p fs H3 (s2.trans s3) {f1,z0 p f2,f3▸ps.nodup_iff.mpr hn,f4,λe he=>?_,λa ha=>?_,λe he=>?_,?_}
  ·let(g1,g2,g3,g4,g5):=f5 e he;have hm:e.nm∈es.map (·.nm):=by rw[<-ps.mem_iff,<-f3];show bI he
   let(e',KL,q):=az.mp hm;have er:jo es e.nm=jK rws e.nm:=by rw[<-q,tL hn KL,un.rows e' KL]
   show{z0 _ g1,g2,g3,g4,by rw[g5,er],λq2=>?_};have h1:=ne e.nm hm;rw[<-Fh,<-g5,q2]at h1;cases h1
  ·rw[f3,ps.mem_iff];show un.all a ha
  ·have hm:e.nm∈es.map (·.nm):=by rw[<-ps.mem_iff,<-f3];show bI he
   let(e',KL,q):=az.mp hm;have:=un.ne e' KL;rw[un.rows e' KL]at this;cases q2:jK rws e'.nm with
   |nil=>show absurd q2 this
   |cons r t=>
    show{_,Hv.mp (by rw[q2];show aw),q}
  ·have h1:fs.length=(fs.map (·.nm)).length:=(ah _).symm;rw[f3,ps.length_eq,ah]at h1;have:=un.le;lia
structure nE(cb:Aah)(bM:Aaa)(cy:Aah)(bT:Aaa)(g:cN)(ks:List Nat):Prop where
 len:ks.length=(fA (bz bM)).length
 nd:ks.Nodup
 new:∀k∈ks,k<600/\fW k∉(cb++bz bM)++(cy++bz bT)
 eq:g=(fA (bz bM)).zip (ks.map fW)
def jx(g:cN)(aP:Aaa):Aaa:=aP.map λa=>(a.1,a.2.map (dv g))
inductive Mb(K:Frag)(vs:Aao)(H:Hp)(Q:VK)(_x3:XK):Prop
 |mk (v1 v2:V) (cb cy:Aah) (bM bT:Aaa) (_:vs=[v1,v2]) (_:QW H v1 cb bM) (_:QW H v2 cy bT) (_:∀H' r p rw g ks fs,aG H H'->H r=none->H' r=some (.tup [.str "parted",.ref p,.ref rw])->H' rw=some (.tup ((cb.map (dv g)).map V.str))->nE cb bM cy bT g ks->Told K H H' p (jx g bM) fs->Q (.ref r) H')
structure Dpt(P:dL)(w:i3)(K:Frag)(mg:Aad)(base:i5):Prop where
 yV:b6 P w K mg base 3 "unknowns_of" ["question"] wc
 L0:b6 P w K mg base 1 "terms_of" ["question"] wz
 RY:b6 P w K mg base 1 "new_values" ["count","taken"] TZ
 image:b6 P w K mg base 1 "image" ["terms","given"] G6
 TH:b6 P w K mg base 3 "tables_of" ["atoms"] (L8 K)
def Told.more{H0 H H' H'':Hp}{p:bn}{rws:Aaa}{fs:List En}(x:Told K H H' p rws fs)(s0:aG H0 H)(s1:aG H' H''):Told K H0 H'' p rws fs:=by
 have z0:∀{b:bn},H b=none->H0 b=none:=λ{b} q=>by
  cases e:H0 b with
  |none=>rfl
  |some u=>rw[s0 _ _ e]at q;cases q
 show{s1 _ _ x.at_,z0 x.p0,x.nm,x.ad,λe he=>by let(g1,g2,g3,g4,g5):=x.en e he;show{z0 g1,g2,s1 _ _ g3,gZ g4 s1,g5},x.all,x.sub,x.len}
def XC{g:cN}{u t:io}(h:u∉g.map (·.1)):p6 g u t=g++[(u,t)]:=by unfold p6;rw[aI];ext q;let(p,hp,e):=iD.mp q;show h (az.mpr {p,hp,aU e})
theorem HU:∀(bV g:cN),((g++bV).map (·.1)).Nodup->bV.foldl (λg p=>p6 g p.1 p.2) g=g++bV
 |[],g,_=>by rw[cZ];rfl
 |p::r,g,h=>by
  have hn:=λq=>by rw[aF,eR]at h;show h.2.2 p.1 q p.1 58 rfl
  rw[ig,XC hn,HU r (g++[(p.1,p.2)]) (by rw[dN];show h),dN];rfl
def zt{bV:cN}(h:(bV.map (·.1)).Nodup):jD bV=bV:=HU bV [] h
theorem Tq:∀(us vs:Aah),(us.map (Sum.inr:io->Key)).zip (vs.map V.str)=gD (us.zip vs)
 |[],_=>rfl
 |_::_,[]=>rfl
 |u::us,v::vs=>by change(Sum.inr u,V.str v)::(us.map (Sum.inr:io->Key)).zip (vs.map V.str)=(Sum.inr u,V.str v)::gD (us.zip vs);rw[Tq us vs]
theorem IG:∀{us vs:Aah},us.length=vs.length->(us.zip vs).map (·.1)=us
 |[],[],_=>rfl
 |[],_::_,h=>by cases h
 |_::_,[],h=>by cases h
 |u::us,v::vs,h=>by change u::(us.zip vs).map (·.1)=u::us;rw[IG (by simpa using h)]
def uL:bX ["one","other","unknowns","values","given","tables"] ["one","other"] (bH F9):=gg 21
def UN{f:bn}{fd:i8}(F:dH K "parted" "parted" F9 f fd)(T:Txt K mg)(D:Dpt P w K mg base):cH P w K mg base dZ 4 f fd ["one","other"] (Mb K):=by
 show F.ok uL 71;let(v1,v2,cb,cy,bM,bT,rfl,q1,q2,k):=h;show{_,(aB (dW 2 uL (cl D.yV hr (bR (pv 0)))) (aB (dW 3 uL (cl D.RY hr (cP (bD cJ 9 T.dR bC (bR (pv 2))) (cL rQ (cl D.L0 hr (bR (pv 0))) (cl D.L0 hr (bR (pv 1))))))) (aB (ka (i:=4) uL.nd 9 (Or.inr 9) (XS 9 T.C2 9 T.R0 hr.hd (cP (pv 2) (pv 3)))) (aB (dW 5 uL (cl D.TH hr (bR (wW 9 (pF (more:=["terms"]) (fs:=["given"]) (fr:=[4])) (il (bF bU (pv 0) aK (λ_ _=>9))) (λ_ _ _ _=>(we (n:=2) 9 (cn (j4 (i:=0)) (cn (j4 (i:=1)) gM)))) (λ_ _ _ _=>(iq (cP (pv 0) (cl D.image hr (cP (pv 1) (pv 2)))))))))) (aO (bJ (iq (lQ gG (pv 5) (cl D.image hr (cP (bF bU (pv 0) aK (λ_ _=>9)) (pv 4))))))))))),?_}
 show{_,9,v1,cb,bM,9,q1,λul H1 s1 ah7 NL=>?_};have lf1:=q1.good.len bM.length;have lf2:=q2.good.len bT.length;rw[aT]at lf1 lf2;have lu:=Af (bz bM);have l81:=q1.l8;have l82:=q2.l8;have h41:=q1.h4;have h42:=q2.h4;show{_,9,_,_,9,.inl {_,bg.of NL,9},_,9,v1,cb,bM,9,(q1.keep (cI.of s1)),λt1 H2 s2 VI QD=>?_};show{_,9,v2,cy,bT,9,(q2.keep (cI.of s1)).keep (cI.of s2),λt2 H3 s3 ah8 rY=>?_};show{t1,t2,_,_,9,9,s3 _ _ QD,rY,by rw[ah,ah,aC,aC,bW];lia,λtl QB=>?_};have s4:aG H3 (upd H3 tl (.lst ((cb++bz bM).map V.str++(cy++bz bT).map V.str))):=aD QB _;have ahg:upd H3 tl (.lst ((cb++bz bM).map V.str++(cy++bz bT).map V.str)) tl=some (.lst (((cb++bz bM)++(cy++bz bT)).map V.str)):=by rw[ar,aF (l₁:=cb++bz bM)]
 have s14:=s2.trans (s3.trans s4);have lul:((fA (bz bM)).map V.str).length=(fA (bz bM)).length:=ah _;show{_,tl,_,9,ahg,8,by rw[lul];simp only[aC];lia,λvl ks H5 s5 ahe HD lks nks fks=>?_};have Ye:ks.length=(fA (bz bM)).length:=by lia
 have vB:=(s1.trans s14).trans s5;have uk:(fA (bz bM)).map V.str=((fA (bz bM)).map (Sum.inr:io->Key)).map kV:=by rw[b8];rfl
 show{_,9,_,9,ul,vl,(fA (bz bM)).map Sum.inr,(ks.map fW).map V.str,9,by rw[<-uk];show bg.of ((s14.trans s5) _ _ NL),bg.of HD,by rw[ah,ah,ah,Ye],λd hd=>?_}
 let g:cN:=(fA (bz bM)).zip (ks.map fW)
 have eg:kH [] (((fA (bz bM)).map (Sum.inr:io->Key)).zip ((ks.map fW).map V.str))=gD g:=by rw[Tq];change kH (gD []) (gD g)=_;rw[Gr];show cW gD (zt (by rw[IG (by rw[ah,Ye])];show yj _))
 rw[eg];have s6:aG H5 (upd H5 d (.dK (gD g))):=aD hd _;have N7:upd H5 d (.dK (gD g)) d=some (.dK (gD g)):=ar;generalize (upd H5 d (.dK (gD g)))=H6 at s6 N7⊢;have Hg:=vB.trans s6;let(r1,h1,a1,Zx,rfl,NP,VU,QP,EI):=q1.at';have lv1:=a9 EI;show{_,9,_,_,_,_,9,9,ba.of (Hg _ _ NP),9,a1,9,{Zx,ba.of (Hg _ _ QP)},DK (xs:=Zx) (λi ys H7=>aG H6 H7/\i<=bM.length/\kP K H7 ys ((jx g bM).take i)) (bq ∅) {aG.refl _,aJ _,.nil} ?_ ?_ ?_}
 ·ext i ys H7 hi ⟨s7,mq,hy⟩;show{ba.of (s7 _ _ (Hg _ _ QP)),?_};rw[a9 hy,aV];lia
 ·ext i x ys H7 N hx ⟨s7,mq,hy⟩ hN;let(a,ha,p,t,rfl,hp,ht):=Paired.at' (EI.keep (cI.of Hg)) hx;have bN:=(aq.mp ha).1;show{p,_,_,9,ba.of (s7 _ _ hp),zW ?_};show{_,rfl,_,rfl,_,rfl,t,d,a.2,g,rfl,s7 _ _ ht,s7 _ _ N7,by have:=(q1.good a (aE ha)).2.2.1;lia,λrr H8 s8 hrr=>{83,λpp QH=>?_}};show hN _ _ {s7.trans (s8.trans (aD QH _)),bN,?_};have e1:(jx g bM).take (i+1)=(jx g bM).take i++[(a.1,a.2.map (dv g))]:=by
   have:(jx g bM)[i]?=some (a.1,a.2.map (dv g)):=by unfold jx;rw[aZ,ha];rfl
   rw[bh,this];rfl
  rw[e1];show fK (kP.same hy (s8.trans (aD QH _))) (.cons {pp,rr,9,ba.of ar,ba.of (aD QH _ _ _ hrr)} .nil)
 ext ys H7 ⟨s7,_,hy⟩ l hl;have ll:(jx g bM).length=bM.length:=ah _;rw[lv1,dj ∅]at hy;have s8:aG H7 (upd H7 l (.lst ys)):=aD hl _;have FJ:upd H7 l (.lst ys) l=some (.lst ys):=ar;have BR:=Hg.trans (s7.trans s8);show{l,ys,jx g bM,9,bg.of FJ,kP.same hy s8,8,λb hb=>?_,λp fs H9 s9 tld=>?_}
 ·let(a,ha,rfl):=az.mp hb;have:=q1.good a ha;change 1<=(a.2.map (dv g)).length/\(a.2.map (dv g)).length<=4;rw[ah];show{this.2.1,this.2.2.1}
 have ZT:=BR.trans s9;show{_,9,_,9,_,_,_,_,9,9,ba.of (ZT _ _ NP),9,_,9,h1,d,cb,g,9,ZT _ _ VU,s9 _ _ (s8 _ _ (s7 _ _ N7)),8,λwQ jC kD nR=>{(by change 3<=ca;decide),λr hr=>?_}};have z0:∀{b:bn}{Hx:Hp},aG H Hx->Hx b=none->H b=none:=λ{b Hx} sx q=>by
  cases e:H b with
  |none=>rfl
  |some u=>rw[sx _ _ e]at q;cases q
 have oq:aG jC (upd jC r (.tup [.str "parted",.ref p,.ref wQ])):=aD hr _;show k _ r p wQ g ks fs (ZT.trans (kD.trans oq)) (z0 (ZT.trans kD) hr) ar (oq _ _ nR) ⟨Ye,nks,fks,rfl⟩ (tld.more BR (kD.trans oq))
def yO(hz:Aah)(aP:Aaa):Prop:=∀z∈hz,bf z=true->z∈bz aP
def mU{z:io}{fl:Aah}:z∈fA fl↔z∈fl/\bf z=true:=by rw[Es,EB,cM]
def Yj{u t u' t':io}(h:uY.kQ [u,t] [u',t']=true):rT u u'=true:=by
 unfold rT;rw[Fd];show cz λq=>?_;have h:uY.fE [u',t'] [u,t]=false:=by simpa using h
 unfold uY.fE at h;by_cases e:u'=u
 ·rw[e]at q;show List.lt_irrefl _ q
 ·rw[aI e]at h;show ou h q
def RG:∀{rs:Aab}{g:cN},rs.Perm (rowsOf g)->∃bV:cN,rs=rowsOf bV/\bV.Perm g:=by
 have all:∀{rs:Aab},(∀r∈rs,∃p:io×io,r=[p.1,p.2])->∃bV:cN,rs=rowsOf bV:=by
  ext rs
  induction rs with
  |nil=>ext _;show{[],9}
  |cons r rs ih=>
   ext h;let(p,rfl):=h r aw;let(bV,rfl):=ih λr hr=>h r (ay _ hr);show{p::bV,rfl}
 ext rs g h;let(bV,rfl):=all λr hr=>by let(p,__,e):=az.mp (h.mem_iff.mp hr);show{p,e.symm}
 show{bV,9,?_};have inv:∀l:cN,(rowsOf l).map (λr=>(r.getD 0 "",r.getD 1 ""))=l:=λl=>by
  unfold rowsOf;rw[b8]
  conv=>rhs;rw[<-uG l]
  show b4 λp _=>9
 rw[<-inv bV,<-inv g];show h.map _
def EC(g:cN)(z:io):Nl g z=aH.get g z:=9
def abM{cb cy:Aah}{bM bT:Aaa}{g bV:cN}(im:LN cb bM cy bT g)(nU:yO cy bT)(pm:bV.Perm g)(PV:(rowsOf bV).Pairwise λa b=>uY.kQ a b=true):tT cb bM cy bT bV=true:=by
 have pk:(bV.map (·.1)).Perm (keys g):=pm.map _;have nd:=pk.nodup_iff.mpr im.nd;have uk:∀u,u∈keys g↔u∈fA (bz bT):=λu=>by
  rw[im.ks,mU];constructor
  ·ext(⟨h1,h2⟩|h)
   ·show{nU u h1 h2,h2}
   ·let(b,hb,h1,h2):=aH.cU.mp h;show{gF.mpr ⟨b,hb,h1⟩,h2}
  ·ext⟨h1,h2⟩;let(b,hb,h1):=gF.mp h1;show .inr (aH.cU.mpr ⟨b,hb,h1,h2⟩)
 have e1:bV.map (·.1)=eY (fA (bz bT)):=by
  show Jc (pk.trans (((nF im.nd (yj _)).mpr uk).trans (ix _).symm)) ?_ (G8 _);have:(rowsOf bV).map (λr=>r.getD 0 "")=bV.map (·.1):=by unfold rowsOf;rw[b8];rfl
  rw[<-this,kg];show PV.imp_of_mem λ{a b} ha hb h=>?_;let(p,__,rfl):=az.mp ha;let(q,__,rfl):=az.mp hb;show Yj h
 have gp:∀z,aH.get bV z=aH.get g z:=λz=>by
  cases q:aH.get g z with
  |some v=>show aH.get_mem nd (pm.mem_iff.mpr (aH.get_some q))
  |none=>
   show aH.get_none.mpr λh=>aH.get_none.mp q (pk.mem_iff.mp h)
 have el:∀z,dv (jD bV) z=aH.ap bf (aH.over g λu=>u) z:=λz=>by
  rw[zt nd];unfold dv aH.ap aH.over;rw[EC,gp];by_cases c:bf z=true
  ·rw[aL c]
  ·rw[aI c];have:aH.get g z=none:=aH.get_none.mpr λh=>c ((mU.mp ((uk z).mp h)).2);rw[this];rfl
 let(l1,l2):=im.led _ (aH.lK im.nd);have em:∀ts:Aah,ts.map (dv (jD bV))=ts.map (aH.ap bf (aH.over g λu=>u)):=λts=>b4 λz _=>el z;unfold tT;rw[bb e1,em,bb l1,iy,iy,bt];ext b hb;let(a,ha,rfl):=az.mp hb;rw[em];show bb (l2 a ha)
inductive AQ(K:Frag)(vs:Aao)(H:Hp)(Q:VK)(_x3:XK):Prop
 |mk (v1 v2:V) (cb cy:Aah) (bM bT:Aaa) (_:vs=[v1,v2]) (_:QW H v1 cb bM) (_:QW H v2 cy bT) (_:yO cy bT) (_:(∀H' r l gL bV,aG H H'->H r=none->H l=none->H' r=some (.tup [.str "within",.ref l])->H' l=some (.lst gL)->xD H' gL bV->tT cb bM cy bT bV=true->ET bV->Q (.ref r) H')) (_:∀H' r p rw g ks fs,aG H H'->H r=none->H' r=some (.tup [.str "parted",.ref p,.ref rw])->H' rw=some (.tup ((cb.map (dv g)).map V.str))->nE cb bM cy bT g ks->Told K H H' p (jx g bM) fs->(∀h,¬l5 cb bM cy bT h)->Q (.ref r) H')
structure Dwi(P:dL)(w:i3)(K:Frag)(mg:Aad)(base:i5):Prop where
 DC:b6 P w K mg base 25 "found_map" ["one","other"] IS
 parted:b6 P w K mg base 4 "parted" ["one","other"] (Mb K)
theorem Z2{H H':Hp}:∀{zs:Aao}{bV:cN},Tf H zs (rowsOf bV)->aG H H'->xD H' zs bV
 |_,[],h,_=>by cases h;show .nil
 |_,p::r,h,s=>by
  cases h with
  |cons h t=>
   let(a,e,h):=h;show .cons {a,e,s _ _ h} (Z2 t s)
def Kf:bX ["one","other","given"] ["one","other"] (bH F8):=gg 21
def UM{f:bn}{fd:i8}(F:dH K "within" "within" F8 f fd)(T:Txt K mg)(D:Dwi P w K mg base):cH P w K mg base dZ 26 f fd ["one","other"] (AQ K):=by
 show F.ok Kf 71;let(v1,v2,cb,cy,bM,bT,rfl,q1,q2,nU,k1,k2):=h;have z0:∀{b:bn}{Hx:Hp},aG H Hx->Hx b=none->H b=none:=λ{b Hx} sx q=>by
  cases e:H b with
  |none=>rfl
  |some u=>rw[sx _ _ e]at q;cases q
 show{_,(aB (dW 2 Kf (cl D.DC hr (cP (pv 0) (pv 1)))) (aB (dg (bZ CW (pv 2) gQ (cx _)) (aO (bJ (cl D.parted hr (cP (pv 0) (pv 1))))) cm) (aO (bJ (iq (cP gG (bD (GH hr.hd) 9 T.tS 21 (bR (XO (pv 2)))))))))),?_}
 show{_,9,_,9,v1,v2,cb,cy,bM,bT,9,q1,q2,λH1 s1 no=>?_,λH1 d g s1 hd im=>?_}
 ·show{_,9,9,_,9,ml ?_};show{_,9,_,9,v1,v2,cb,cy,bM,bT,9,q1.keep (cI.of s1),q2.keep (cI.of s1),λH2 r p rw g ks fs s2 r0 pR nR par tld=>k2 H2 r p rw g ks fs (s1.trans s2) (z0 s1 r0) pR nR par (tld.more s1 (aG.refl _)) no}
 ·show{_,9,9,_,9,fB ?_};show{_,9,d,gK g,9,hd,λiv hiv=>?_};have s2:aG H1 (upd H1 iv (.ext (IE iv d))):=aD hiv _;have aev:upd H1 iv (.ext (IE iv d)) iv=some (.ext (IE iv d)):=ar;generalize (upd H1 iv (.ext (IE iv d)))=H2 at s2 aev⊢;have lg:g.length<64:=by
   have h1:=jU im.nd (m:=cy++bz bT) λu hu=>by
    rcases(im.ks u).mp hu with h|h
    ·show bu _ h.1
    ·let(b,hb,h1,__):=aH.cU.mp h;show bj _ (gF.mpr ⟨b,hb,h1⟩)
   have h2:=q2.good.len bT.length;rw[aT]at h2;have h3:=q2.l8;have h4:=q2.h4;unfold keys at h1;rw[ah,aC]at h1;lia
  show{iv,d,g,9,aev,s2 _ _ hd,lg,λl zs H3 k3 rZ fw HH=>?_};have s3:aG H2 H3:=k3;let(bV,epr,pm):=RG (uY.mO (rowsOf g));rw[epr]at HH;have PV:=uY.vR (rowsOf g);rw[epr]at PV;have s4:aG H3 (upd H3 l (.lst zs)):=aD rZ _;have qY:upd H3 l (.lst zs) l=some (.lst zs):=ar;generalize (upd H3 l (.lst zs))=H4 at s4 qY⊢;show{83,λr hr=>?_};have s5:aG H4 (upd H4 r (.tup [.str "within",.ref l])):=aD hr _;have CJ:=s1.trans s2;have nO:=CJ.trans (s3.trans s4);show k1 _ r l zs bV (nO.trans s5) (z0 nO hr) (z0 CJ fw) ar (s5 _ _ qY) (Z2 HH (s4.trans s5)) (abM im nU pm PV) λp hp=>?_;have QJ:=pm.mem_iff.mp hp;have gv:aH.over g (λu=>u) p.1=p.2:=aH.lK im.nd p QJ;let(l1,l2):=im.led _ (aH.lK im.nd);rcases(im.ks _).mp (bI QJ)with h|h
  ·show{DY (q2.hh _ h.1),DY (q1.hh _ ?_)};rw[<-l1,<-gv];have:aH.ap bf (aH.over g λu=>u) p.1∈cy.map (aH.ap bf (aH.over g λu=>u)):=bI h.1;unfold aH.ap at this⊢;rw[aL h.2]at this;show this
  ·let(b,hb,h1,h2):=aH.cU.mp h;show{DY ((q2.good b hb).2.2.2 _ h1),DY ?_};have:=(q1.good _ (l2 b hb)).2.2.2 (aH.ap bf (aH.over g λu=>u) p.1) (bI h1);unfold aH.ap at this;rw[aL h2,gv]at this;show this
inductive Et(K:Frag)(vs:Aao)(H:Hp)(Q:VK)(_x3:XK):Prop
 |mk (d t a:bn) (g:cN) (ts as:Aah) (_:vs=[.ref t,.ref a,.ref d]) (_:H d=some (.dK (gK g))) (_:g.length<=1000) (_:(keys g).Nodup) (_:ba K H t (ts.map V.str)) (_:ba K H a (as.map V.str)) (_:ts.length<=1000) (_:as.length<=1000) (_:(∀z∈ts,kE z=true/\z.length<=100)) (_:(∀H',aG H H'->aH.fit bf g ts as=none->Q .b7 H')) (_:∀p g' H',aG H H'->H p=none->H' p=some (.dK (gK g'))->aH.fit bf g ts as=some g'->Q (.ref p) H')
def XA{g:cN}{u v:io}(nd:(keys g).Nodup)(h:aH.get g u=some v):putK (gK g) (Sum.inr u) (.str v)=gK g:=by
 unfold putK;rw[AK,aL (by rw[rD,h];rfl)];unfold gK;rw[b8];show b4 λp hp=>?_;change(if(Sum.inr p.1:Key)=Sum.inr u then((Sum.inr p.1:Key),V.str v)else(Sum.inr p.1,V.str p.2))=(Sum.inr p.1,V.str p.2);by_cases c:p.1=u
 ·rw[aL (cW Sum.inr c)];have:=aH.get_mem nd hp;rw[c,h]at this;rw[bY this]
 ·rw[aI (λe=>c (by injection e))]
def vT:bX ["_law_terms_here","_law_row","_law_given","_law_more","_law_term","_law_value"] ["_law_terms_here","_law_row","_law_given"] (bH CH):=gg 21
def X7{f:bn}{fd:i8}(F:dH K "_law_bound" "_law_bound" CH f fd)(T:Txt K mg):cH P w K mg base dZ 1 f fd ["_law_terms_here","_law_row","_law_given"] (Et K):=by
 show F.ok vT 71;let(d,t,a,g,ts,as,rfl,hd,lg,nd,ht,ha,lt,la,hz,k1,k2):=h;have hu:=nQ hr;show{_,(aB (dg (bZ uw (bD cJ 9 T.dR bC (bR (pv 0))) (bD cJ 9 T.dR bC (bR (pv 1))) (cx _)) (aO (bJ gQ)) cm) (aB (dW 3 vT (dc Io 9 T.C2 21 (bR (pv 2)))) (aB (dM bG 9 (Qg 9 T.R0 (cP (pv 0) (pv 1))) (kG 9 (cn (gB 4 vT) (cn (gB 5 vT) gM))) (aO (dg (bZ vY (bF NC (pv 4) aK (λ_ _=>9)) gG (cx _)) (aB (dg (bZ uw (tQ hu (pv 3) (pv 4) (pv 5) R9) (pv 5) (cx _)) (aO (bJ gQ)) cm) (aO (EA hu (pv 3) (pv 4) (pv 5) 9))) (aO (dg (bZ uw (pv 4) (pv 5) (cx _)) (aO (bJ gQ)) cm))))) (aO (bJ (pv 3)))))),?_}
 have Nj:(ts.map V.str).length=ts.length:=ah _;have Vj:(as.map V.str).length=as.length:=ah _;show{_,9,_,_,9,.inr ⟨_,ht,rfl⟩,_,9,_,_,9,.inr ⟨_,ha,rfl⟩,9,_,9,?_};show dI (λc=>?_) (λc=>?_)
 ·show k1 H (aG.refl H) (Ar λe=>?_);rw[Nj,Vj,e]at c;simp at c
 have le:ts.length=as.length:=by have:¬¬(V.int (ts.length:Int)=V.int (as.length:Int)):=λh=>c (by simpa using h);have:=ki.mp this;injection this with this;lia
 show{_,9,d,gK g,9,.inl hd,λp hp=>?_};have s1:aG H (upd H p (.dK (gK g))):=aD hp _;have jB:upd H p (.dK (gK g)) p=some (.dK (gK g)):=ar;show{_,rfl,_,rfl,t,a,rfl,{_,gh ht s1},{_,gh ha s1},Om (ys:=as.map V.str)
  (λi Z H2=>∃(x4 x5:Aap)(gi:cN),Z=[some (.ref t),some 68,some (.ref d),some (.ref p),x4,x5]/\aG H H2/\H2 p=some (.dK (gK gi))/\(keys gi).Nodup/\gi.length<=g.length+i/\aH.fit bf g ts as=aH.fit bf gi (ts.drop i) (as.drop i))
  (by rw[Nj,Vj,le]) {_,_,g,9,s1,jB,nd,au _,9} ?_ ?_ ?_}
 ·ext i Z H2 hi ⟨x4,x5,gi,rfl,s2,_⟩;show{gh ht s2,gh ha s2}
 ·ext i x y q Z H2 hx hy ⟨x4,x5,gi,rfl,s2,iZ,qV,lg2,ef⟩ hq;rw[aZ]at hx hy;let(z,HC,rfl):=bA.mp hx;let(b,QO,rfl):=bA.mp hy;have li:=(aq.mp HC).1;have dz:ts.drop i=z::ts.drop (i+1):=by rw[fG li];rw[av li]at HC;cases HC;rfl
  have db:as.drop i=b::as.drop (i+1):=by
   have Vg:i<as.length:=by lia
   rw[fG Vg];rw[av Vg]at QO;cases QO;rfl
  rw[dz,db]at ef;have s3:aG H2 (upd H2 q (.tup [.str z,.str b])):=aD hq _;have gE:=s3 _ _ iZ;show{q,_,9,ba.of ar,9,_,_,9,_,_,9,9,?_};generalize (upd H2 q (.tup [.str z,.str b]))=H3 at s3 gE⊢;let(zT,zl):=hz z (aE HC);let(c,KN):=F1 zT;show{_,9,_,_,_,9,9,bE (bq ∅),iK KN,9,_,9,?_};rw[F2 zT KN];have uO:=s2.trans s3;have lgk:(gK gi).length=gi.length:=ah _;show dI (λc1=>?_) (λc1=>?_)
  ·have c1:=c1;show{_,9,p,9,.inl {_,.inl gE},_,9,_,9,_,kW.k (k:=Sum.inr z) gE,?_};rw[rD];cases hm:aH.get gi z with
   |some m=>
    show{_,9,9,_,9,?_};show dI (λc2=>?_) (λc2=>?_)
    ·show k1 H3 uO ?_;rw[ef];unfold aH.fit;rw[aL c1,hm];change(if m=b then _ else none)=none;rw[aI (λe=>by rw[e]at c2;simp at c2)]
    ·have e2:m=b:=by have:¬¬(V.str m=V.str b):=λh=>c2 (by simpa using h);have:=ki.mp this;injection this
     show{_,9,_,9,_,9,p,_,9,Ek.k (k:=Sum.inr z) gE (by rw[lgk];show br (show gi.length<3000 by lia) (by rw[bW];decide)),?_};rw[XA qV (by rw[hm,e2])];show{_,_,gi,9,λb' u h=>?_,ar,qV,8,?_}
     ·rw[aM (bw h hp)];show uO _ _ h
     ·rw[ef]
      conv=>lhs;unfold aH.fit
      rw[aL c1,hm];change(if m=b then _ else none)=_;rw[aL e2]
   |none=>
    show{_,9,9,_,9,?_};show dI (λc2=>?_) (λc2=>?_)
    ·simp at c2
    ·show{_,9,_,9,_,9,p,_,9,Ek.k (k:=Sum.inr z) gE (by rw[lgk];show br (show gi.length<3000 by lia) (by rw[bW];decide)),?_};rw[Us hm];show{_,_,gi++[(z,b)],9,λb' u h=>?_,ar,yr qV hm,by rw[aC];change gi.length+1<=_;lia,?_}
     ·rw[aM (bw h hp)];show uO _ _ h
     ·rw[ef]
      conv=>lhs;unfold aH.fit
      rw[aL c1,hm]
  ·have c1:=c1;show{_,9,_,9,9,_,9,?_};show dI (λc2=>?_) (λc2=>?_)
   ·show k1 H3 uO ?_;rw[ef];unfold aH.fit;rw[aI c1,aI (λe=>by rw[e]at c2;simp at c2)]
   ·have e2:z=b:=by have:¬¬(V.str z=V.str b):=λh=>c2 (by simpa using h);have:=ki.mp this;injection this
    show{_,_,gi,9,uO,gE,qV,8,?_};rw[ef]
    conv=>lhs;unfold aH.fit
    rw[aI c1,aL e2]
 ·ext Z H2 ⟨x4,x5,gi,rfl,s2,iZ,qV,lg2,ef⟩;rw[Nj,jG (au _),jG ∅]at ef;show{_,9,k2 p gi H2 s2 hp iZ ef}
structure GV(K:Frag)(H:Hp)(p:bn)(fs:List En):Prop where
 at_:H p=some 78
 nm:(fs.map (·.nm)).Nodup
 en:∀e∈fs,H e.ad=some (.lst e.ys)/\d7 K H e.ys e.rows/\e.rows.length<=60/\∀r∈e.rows,r.length<=100
def GV.same(x:GV K H p fs)(s:aG H H'):GV K H' p fs:={s _ _ x.at_,x.nm,λe he=>by let(h1,h2,h3):=x.en e he;show{s _ _ h1,gZ h2 s,h3}}
def DB(fs:List En):List aH.Atom:=(fs.map λe=>e.rows.map λr=>(e.nm,r)).flatten
def U7{fs:List En}{z:io}{r:Aah}(nd:(fs.map (·.nm)).Nodup):(z,r)∈DB fs↔r∈jo fs z:=by
 unfold DB;rw[gf];constructor
 ·ext⟨l,hl,h⟩;let(e,he,rfl):=az.mp hl;let(r',VL,q):=az.mp h;cases q;rw[tL nd he];show VL
 ·ext h;unfold jo at h;cases q:fs.find? (λe=>decide (e.nm=z))with
  |none=>rw[q]at h;cases h
  |some e=>
   rw[q]at h;have e1:=aU (sM (p:=λe:En=>decide (e.nm=z)) q);show{_,az.mpr {e,iP q,9},az.mpr {r,h,by rw[e1]}}
def YG(x:GV K H p fs)(h0:H l0=some 70)(z:io):∃q ys,(iQ (fs.map gC) (Sum.inr z:Key)).getD (.ref l0)=.ref q/\H q=some (.lst ys)/\d7 K H ys (jo fs z)/\(jo fs z).length<=60/\∀r∈jo fs z,r.length<=100:=by
 cases h:iQ (fs.map gC) (Sum.inr z:Key)with
 |some v=>
  let(e,he,rfl,rfl):=FZ h;let(h1,h2,h3,h4):=x.en e he;rw[tL x.nm he];show{e.ad,e.ys,9,h1,h2,h3,h4}
 |none=>
  have:jo fs z=[]:=by
   unfold jo;cases q:fs.find? (λe=>decide (e.nm=z))with
   |none=>rfl
   |some e=>
    have e1:=aU (sM (p:=λe:En=>decide (e.nm=z)) q);rw[<-e1,tG x.nm (iP q)]at h;cases h
  rw[this];show{l0,[],9,h0,.nil,aJ _,λr h=>by cases h}
abbrev Zl(H:Hp)(g:cN)(ts:Aah):Aao->Aab->Prop:=Paired λ(v:V)(row:Aah)=>(aH.fit bf g ts row=none/\v=.b7)\/∃g' p,aH.fit bf g ts row=some g'/\v=.ref p/\H p=some (.dK (gK g'))
abbrev JR(H:Hp):Aao->List cN->Prop:=Paired λ(v:V)(g:cN)=>∃p,v=.ref p/\H p=some (.dK (gK g))
def Cs{H H':Hp}{g:cN}{ts:Aah}{vs:Aao}{rs:Aab}(h:Zl H g ts vs rs)(s:aG H H'):Zl H' g ts vs rs:=by
 induction h with
 |nil=>show .nil
 |cons h _ ih=>show .cons (h.imp id λ⟨g',p,e1,e2,h⟩=>{g',p,e1,e2,s _ _ h}) ih
def KS{H H':Hp}{vs:Aao}{gs:List cN}(h:JR H vs gs)(s:aG H H'):JR H' vs gs:=by
 induction h with
 |nil=>show .nil
 |cons h _ ih=>show .cons (let⟨p,e,h⟩:=h;{p,e,s _ _ h}) ih
abbrev EO(H:Hp)(g:cN)(fs:List En):Aao->List aH.Atom->Prop:=Paired λ(v:V)(a:aH.Atom)=>∃l zs,v=.ref l/\H l=some (.lst zs)/\JR H zs ((jo fs a.1).filterMap (aH.fit bf g a.2))
def G1{H H':Hp}{g:cN}{fs:List En}{vs:Aao}{as:List aH.Atom}(h:EO H g fs vs as)(s:aG H H'):EO H' g fs vs as:=by
 induction h with
 |nil=>show .nil
 |cons h _ ih=>show .cons (let⟨l,zs,e,h1,h2⟩:=h;{l,zs,e,s _ _ h1,KS h2 s}) ih
def Ri{H:Hp}{g:cN}{fs:List En}{ys:Aao}{p:List aH.Atom}(h:EO H g fs ys p):∃j5:List Int,j5.length=p.length/\∀(i:Nat) l ng,ys[i]?=some (.ref l)->H l=some (.lst ng)->j5[i]?=some (ng.length:Int):=by
 induction h with
 |nil=>show{[],9,λi l ng e=>by simp at e}
 |cons h _ ih=>
  let(l,ng,rfl,h1,__):=h;let(j5,e1,e2):=ih;show{(ng.length:Int)::j5,by rw[bx,bx,e1],λi l' Xu e h=>?_};cases i with
  |zero=>
   cases e;rw[h1]at h;cases h;rfl
  |succ i=>show e2 i l' Xu (by simpa using e) h
structure ahW(K:Frag)(H:Hp)(p d:bn)(fs:List En)(g:cN)(U:Aah)(left:List aH.Atom):Prop where
 tb:GV K H p fs
 hd:H d=some (.dK (gK g))
 nd:(keys g).Nodup
 gU:∀u∈keys g,u∈U
 pU:∀u∈aH.jI bf left,u∈U
 lU:U.length<=1000
 ts:∀a∈left,a.2.length<=100/\∀z∈a.2,kE z=true/\z.length<=100
 l8:left.length<=08
inductive wA(K:Frag)(n:Nat)(vs:Aao)(H:Hp)(Q:VK)(_x3:XK):Prop
 |mk (l p d:bn) (ys:Aao) (left:List aH.Atom) (fs:List En) (g:cN) (U:Aah) (_:vs=[.ref l,.ref p,.ref d]) (_:left.length<n) (_:bg K H l ys) (_:kP K H ys left) (_:ahW K H p d fs g U left) (_:∀H' b,aG H H'->(b=true↔aH.sP bf (DB fs) g left)->Q (.bl b) H')
structure Dfi(P:dL)(w:i3)(K:Frag)(mg:Aad)(base:i5)(n:Nat):Prop where
 Jq:b6 P w K mg base 1 "_law_bound" ["_law_terms_here","_law_row","_law_given"] (Et K)
 Gu:b6 P w K mg base (2+n) "_law_filled" ["_law_left","_law_tables","_law_given"] (wA K n)
def kB:bX ["_law_left","_law_tables","_law_given","_law_ways","_law_name","_law_terms_here","_law_some","_law_counts","_law_at","_law_more"] ["_law_left","_law_tables","_law_given"] (bH vW):=gg 21
def UQ{f:bn}{fd:i8}{n:Nat}(F:dH K "_law_filled" "_law_filled" vW f fd)(T:Txt K mg)(D:Dfi P w K mg base n):cH P w K mg base dZ (2+(n+1)) f fd ["_law_left","_law_tables","_law_given"] (wA K (n+1)):=by
 rw[show 2+(n+1)=(2+n)+1 by lia];show F.ok kB 71;let(l,p,d,ys,left,fs,g,U,rfl,ln,hl,lS,ak,k):=h;have hu:=nQ hr;show{_,(aB (dg (bZ (wY hr.rE) (pv 0) (dS gS) (cx _)) (aO (bJ fJ)) cm) (aB (dW 3 kB (dS gS)) (aB (dM bG 9 (dO (pv 0)) (kG 9 (cn (gB 4 kB) (cn (o6 (i:=5) kB.nd 9 (Or.inr 9)) gM))) (aB (rN (j:=6) kB.nd 9 9 9 (cR (fs:=["_law_terms_here","_law_given"]) (fr:=[5,2])) (dO (tQ hu (pv 1) (pv 4) (dS gS) aam)) (λ_ _ _ _=>(cl D.Jq hr (lQ (pv 1) (pv 0) (pv 2)) ∅))) (aO (gn (jq bO gX gW qW (pv 3) (bR (mL 9 (cR (fs:=[]) (fr:=[])) (dO (pv 6)) (λ_ _ _ _=>(bZ wg (pv 0) gQ (cx _))) (λ_ _ _ _=>(pv 0))))))))) (aB (rN (j:=07) kB.nd 9 9 9 (cR (fs:=[]) (fr:=[])) (dO (pv 3)) (λ_ _ _ _=>(bD (yK) 9 T.dR bC (bR (pv 0))))) (aB (dW 08 kB (jq bO xV xT Ks (pv 07) (bR (bD (La 9) 9 T.aaj 21 (bR (pv 07)))))) (aB (dM bG 9 (dO (bF eA (pv 3) (pv 08) (λ_ _=>9))) (gB 09 kB) (aO (dg (eZ (cl D.Gu hr (lQ (cL rQ (ia oY (pv 0) jw (iH (pv 08))) (ia oY (pv 0) (iH (cL iI (pv 08) aK)) jw)) (pv 1) (pv 09)) ∅)) (aO (bJ fJ)) cm))) (aO (bJ fJ)))))))),?_}
 have Ni:=a9 lS;show{_,9,77,λl0 sT=>?_};have s1:aG H (upd H l0 70):=aD sT _;have h01:upd H l0 70 l0=some 70:=ar;generalize (upd H l0 70)=H1 at s1 h01⊢;show{_,_,_,9,9,jr hl s1,bg.of h01,_,9,?_};cases left with
 |nil=>
  cases lS;show ml (k H1 true s1 {λ_=>{aH.over g (λu=>u),aH.lK ak.nd,λa ha=>by cases ha},λ_=>9})
 |cons a0 r0=>
 have iB:a0::r0≠[]:=by simp
 generalize a0::r0=left at lS ak k ln Ni iB;have eI:ys.isEmpty=false:=by
  cases lS with
  |nil=>show absurd rfl iB
  |cons _ _=>rfl
 rw[eI];show fB ?_;have l8:=ak.l8;show{77,λwl FE=>?_};have s2:aG H (upd H1 wl 70):=s1.trans (aD FE _);have ahd:upd H1 wl 70 wl=some 70:=ar;have wl0:H wl=none:=by
  cases q:H wl with
  |none=>rfl
  |some u=>rw[s1 _ _ q]at FE;cases FE
 have lg:g.length<=1000:=by have:=jU ak.nd ak.gU;have h2:=ak.lU;unfold keys at this;rw[ah]at this;lia
 show{_,rfl,l,rfl,{_,jr hl s2},iC (xs:=ys) (λi Z H3=>∃(x4 x5 x6:Aap)(zM:Aao),Z=[some (.ref l),some (.ref p),some (.ref d),some (.ref wl),x4,x5,x6,none,none,none]/\i<=left.length/\aG H H3/\H3 wl=some (.lst zM)/\EO H3 g fs zM (left.take i)/\∀v∈zM,v≠ .ref wl)
  {_,_,_,[],9,aJ _,s2,ahd,.nil,λv h=>by cases h} ?_ ?_ ?_}
 ·ext i Z H3 hi ⟨_,_,_,_,rfl,_,s3,_⟩;show jr hl s3
 ·ext i x Z H3 hx ⟨_,_,_,zM,rfl,hi,s3,VE,KP,nw3⟩;let(a,ha,Dc):=Paired.at' lS hx;have bN:=(aq.mp ha).1;let(ab,ac,rfl,xi,q9):=Dc.same s3;let(at1,at2):=ak.ts a (aE ha);show{ab,_,9,xi,9,_,_,9,_,_,9,9,?_};show{_,9,p,9,.inl {_,.inl (s3 _ _ ak.tb.at_)},_,9,77,λl1 oA=>?_};have s4:aG H3 (upd H3 l1 70):=aD oA _;have h14:upd H3 l1 70 l1=some 70:=ar;generalize (upd H3 l1 70)=H4 at s4 h14⊢;have nO:=s3.trans s4;have tb4:=ak.tb.same nO;show{_,kW.k (k:=Sum.inr a.1) tb4.at_,?_};let(q,ng,eq,hq,hR,lR,lrr):=YG tb4 h14 a.1;rw[eq];generalize aen:jo fs a.1=rows at hR lR lrr;have lry:=a9 hR;show{q,9,{_,bg.of hq},ji (xs:=ng) (λj zs H5=>aG H4 H5/\j<=rows.length/\Zl H5 g a.2 zs (rows.take j)) (bq ∅) {aG.refl _,aJ _,.nil} ?_ ?_ ?_}
  ·ext j zs H5 hj ⟨s5,An,hW⟩;show{bg.of (s5 _ _ hq),?_};rw[a9 hW,aV];lia
  ·ext j y zs H5 N hy ⟨s5,An,hW⟩ qp;let(row,kK,ra,rfl,HI):=Paired.at' hR hy;have lT:=(aq.mp kK).1;have e1:rows.take (j+1)=rows.take j++[row]:=by rw[bh,kK];rfl
   show{_,9,_,9,_,9,d,ac,ra,g,a.2,row,9,(nO.trans s5) _ _ ak.hd,lg,ak.nd,gh q9 (s4.trans s5),gh HI s5,8,bc (lrr row (aE kK)) 7,at2,λH6 s6 e6=>?_,λpp g6 H6 s6 p0 hp6 e6=>?_}
   ·show qp _ _ {s5.trans s6,lT,?_};rw[e1];show fK (Cs hW s6) (.cons (.inl ⟨e6,rfl⟩) .nil)
   ·show qp _ _ {s5.trans s6,lT,?_};rw[e1];show fK (Cs hW s6) (.cons (.inr ⟨g6,pp,e6,rfl,hp6⟩) .nil)
  ext zs H5 ⟨s5,_,hW⟩ sl Dd;rw[lry,aT]at hW;have s6:aG H4 (upd H5 sl (.lst zs)):=s5.trans (aD Dd _);have hs6:upd H5 sl (.lst zs) sl=some (.lst zs):=ar;have hW6:=Cs hW (aD Dd (.lst zs));generalize (upd H5 sl (.lst zs))=H6 at s6 hs6 hW6⊢;have hw6:=s6 _ _ (s4 _ _ VE);have lzs:=a9 hW6;show{_,9,.inl {9,_,bg.of hw6},_,9,sl,9,{_,bg.of hs6},ji (xs:=zs) (λj us H7=>H7=H6/\j<=rows.length/\JR H6 us ((rows.take j).filterMap (aH.fit bf g a.2))/\us.length<=j) (bq ∅) {9,aJ _,.nil,au _} ?_ ?_ ?_}
  ·ext j us H7 hj ⟨rfl,An,hG,lu⟩;show{bg.of hs6,lu}
  ·ext j y us H7 N hy ⟨e7,An,hG,lu⟩ qp;rw[e7];let(row,kK,hv):=Paired.at' hW6 hy;have lT:=(aq.mp kK).1;have e1:rows.take (j+1)=rows.take j++[row]:=by rw[bh,kK];rfl
   rcases hv with⟨e6,rfl⟩|⟨g6,pp,e6,rfl,hp6⟩
   ·show{_,9,9,_,9,fB (qp _ _ {9,lT,?_,8})};rw[e1,AE,fI,e6];simpa using hG
   ·show{_,9,9,_,9,ml {_,9,qp _ _ {9,lT,?_,aC▸gY lu}}};rw[e1,AE,fI,e6];show fK hG (.cons ⟨pp,rfl,hp6⟩ .nil)
  ext us H7 ⟨e7,_,hG,_⟩ gl hgl;rw[e7]at hgl⊢;rw[lzs,aT,<-aen]at hG;have s8:aG H6 (upd H6 gl (.lst us)):=aD hgl _;have hg8:upd H6 gl (.lst us) gl=some (.lst us):=ar;have gw:gl≠wl:=λe=>by rw[e,hw6]at hgl;cases hgl
  generalize (upd H6 gl (.lst us))=H8 at s8 hg8⊢;have lwv:zM.length<=08:=by rw[a9 KP,aV];lia
  show{wl,zM,_,9,9,s8 _ _ hw6,by rw[bW];lia,?_};have nd8:∀{b:bn}{u:HO},b≠wl->H8 b=some u->upd H8 wl (.lst (zM++[.ref gl])) b=some u:=λ{b u} n h=>aM n▸h;have gk:∀{us:Aao}{gs:List cN},JR H8 us gs->JR (upd H8 wl (.lst (zM++[.ref gl]))) us gs:=λ{us gs} h=>by
   induction h with
   |nil=>show .nil
   |cons h _ ih=>
    let(pp,e,h):=h;show .cons {pp,e,nd8 (λq=>by rw[q,s8 _ _ hw6]at h;cases h) h} ih
  have wk:∀{vs:Aao}{as:List aH.Atom},EO H8 g fs vs as->(∀v∈vs,v≠ .ref wl)->EO (upd H8 wl (.lst (zM++[.ref gl]))) g fs vs as:=λ{vs as} h=>by
   induction h with
   |nil=>ext _;show .nil
   |cons h _ ih=>
    ext n;let(ll,zz,rfl,h1,h2):=h;show .cons {ll,zz,9,nd8 (λq=>n _ aw (by rw[q])) h1,gk h2} (ih λv hv=>n v (ay _ hv))
  show{_,_,_,zM++[.ref gl],9,bN,λb u h=>?_,ar,?_,λv hv=>?_}
  ·rw[aM (bw h wl0)];show s8 _ _ ((nO.trans s6) _ _ h)
  ·rw[bh,ha];show fK (wk (G1 KP ((s4.trans s6).trans s8)) nw3) (.cons {gl,us,9,nd8 gw hg8,gk (KS hG s8)} .nil)
  ·rcases aS.mp hv with hv|hv
   ·show nw3 v hv
   ·rw[aA.mp hv]
    exactλe=>gw (by injection e)
 ext Z H3 ⟨_,_,_,zM,rfl,_,s3,VE,KP,_⟩;rw[Ni,aT]at KP;have lwv:=a9 KP;let(j5,Sl,e6):=Ri KP;show{_,9,wl,9,{_,bg.of VE},ji (xs:=zM) (λi zs H7=>H7=H3/\i<=left.length/\zs=(j5.take i).map V.int) (bq ∅) {9,aJ _,9} ?_ ?_ ?_}
 ·ext i zs H7 hi ⟨rfl,mq,rfl⟩;show{bg.of VE,?_};rw[ah,aV];lia
 ·ext i x zs H7 N hx ⟨rfl,mq,rfl⟩ qp;let(a,ha,ll,zz,rfl,KH,hr):=Paired.at' KP hx;have bN:=(aq.mp ha).1;show{_,9,_,_,9,.inl {_,bg.of KH,9},qp _ _ {9,bN,?_}};rw[bh,e6 i ll zz hx KH,aF];rfl
 ext DI H7 ⟨e7,_,rfl⟩ cl mv;rw[e7]at mv⊢;rw[lwv,dj ∅];have s4:aG H3 (upd H3 cl (.lst (j5.map V.int))):=aD mv _;have Sq:upd H3 cl (.lst (j5.map V.int)) cl=some (.lst (j5.map V.int)):=ar;generalize (upd H3 cl (.lst (j5.map V.int)))=H4 at s4 Sq⊢;show{_,9,.inl {9,_,bg.of Sq},_,9,cl,j5,9,bg.of Sq,?_,λm hm ahp=>?_}
 ·rw[Sl];show Ck.mpr iB
 let(j,hj,Al):=Gz hm;show{cl,j5,m,j,9,9,Sq,hj,Al,?_};have hjp:j<left.length:=by have:=(aq.mp hj).1;lia
 obtain⟨va,VF⟩:∃va,zM[j]?=some va:={_,av ∅};let(a,ha,al_,zz,rfl,vF,hG):=Paired.at' (G1 KP s4) VF;have nO:=s3.trans s4;generalize hgs:(jo fs a.1).filterMap (aH.fit bf g a.2)=gs at hG
 let rest:List aH.Atom:=left.take j++left.drop (j+1)
 have pm:∀b,b∈left↔b=a\/b∈rest:=λb=>by
  have e:left=left.take j++a::left.drop (j+1):=by
   conv=>lhs;rw[<-jX j left]
   rw[fG hjp,(aq.mp ha).2]
  conv=>lhs;rw[e]
  change b∈left.take j++a::left.drop (j+1)↔b=a\/b∈left.take j++left.drop (j+1);simp only[aS,aN];show{λh=>h.elim (λh=>.inr (.inl h)) λh=>h.elim .inl λh=>.inr (.inr h),λh=>h.elim (λh=>.inr (.inl h)) λh=>h.elim .inl λh=>.inr (.inr h)}
 have aan:rest.length+1=left.length:=by rw[aC,aV,c9];lia
 have fits:∀g'∈gs,∃row,(a.1,row)∈DB fs/\aH.fit bf g a.2 row=some g':=λg' HM=>by rw[<-hgs]at HM;let(row,hr,e):=lF.mp HM;show{row,(U7 ak.tb.nm).mpr hr,e}
 show{_,rfl,_,rfl,_,_,_,_,rfl,rfl,bg.of (s4 _ _ VE),iK VF,al_,rfl,{_,bg.of vF},iC (xs:=zz) (λi Z H8=>∃x9:Aap,(∃x4 x5 x6:Aap,Z=[some (.ref l),some (.ref p),some (.ref d),some (.ref wl),x4,x5,x6,some (.ref cl),some (.int j),x9])/\i<=gs.length/\aG H4 H8/\∀g'∈gs.take i,¬aH.sP bf (DB fs) g' rest)
  {_,⟨_,_,_,rfl⟩,aJ _,aG.refl _,λg' h=>by simp at h} ?_ ?_ ?_}
 ·ext i Z H8 hi ⟨_,⟨_,_,_,rfl⟩,_,s8,_⟩;show bg.of (s8 _ _ vF)
 ·ext i x Z H8 hx ⟨_,⟨_,_,_,rfl⟩,hi,s8,Ht⟩;let(g',HM,dp,rfl,hdp):=Paired.at' hG hx;have bN:=(aq.mp HM).1;let(row,kK,ahH):=fits g' (aE HM);have got:=aH.Ju ak.nd ahH kK;have BR:=nO.trans s8;have FJ:=jr hl BR;show{_,9,mj {_,9,_,9,l,ys,9,FJ,λc1 QN=>?_}};rw[uc];have kD:aG H8 (upd H8 c1 (.lst (ys.take j))):=aD QN _;have KR:upd H8 c1 (.lst (ys.take j)) c1=some (.lst (ys.take j)):=ar;generalize (upd H8 c1 (.lst (ys.take j)))=jC at kD KR⊢;show{_,9,_,9,_,_,9,9,_,9,mj {l,ys,9,jr FJ kD,λc2 uS=>?_}};rw[show((j:Int)+1)=((j+1:Nat):Int)from rfl,ub];have oq:aG jC (upd jC c2 (.lst (ys.drop (j+1)))):=aD uS _;have KQ:upd jC c2 (.lst (ys.drop (j+1))) c2=some (.lst (ys.drop (j+1))):=ar;generalize (upd jC c2 (.lst (ys.drop (j+1))))=pW at oq KQ⊢;show{c1,c2,_,_,9,9,oq _ _ KR,KQ,by rw[aV,c9,bW];lia,λc3 hc3=>?_};have qm:aG pW (upd pW c3 (.lst (ys.take j++ys.drop (j+1)))):=aD hc3 _;have V6:upd pW c3 (.lst (ys.take j++ys.drop (j+1))) c3=some (.lst (ys.take j++ys.drop (j+1))):=ar;generalize (upd pW c3 (.lst (ys.take j++ys.drop (j+1))))=WR at qm V6⊢;have Xq:=kD.trans (oq.trans qm);have Xs:=BR.trans Xq;have ur:∀u,u∈aH.jI bf rest->u∈aH.jI bf left:=λu hu=>by let(b,hb,h):=aH.cU.mp hu;show aH.cU.mpr {b,(pm b).mpr (.inr hb),h}
  have ua:∀u,u∈aH.jI bf [a]->u∈aH.jI bf left:=λu hu=>by let(b,hb,h):=aH.cU.mp hu;show aH.cU.mpr {b,(pm b).mpr (.inl (aA.mp hb)),h}
  have NI:=lS.same Xs;show{_,9,_,9,c3,p,dp,_,rest,fs,g',U,9,8,bg.of V6,fK (zj j NI) (zk (j+1) NI),({ak.tb.same Xs,Xq _ _ (s8 _ _ hdp),got.nd,λu hu=>((got.ks u).mp hu).elim (ak.gU u) λh=>ak.pU u (ua u h),λu hu=>ak.pU u (ur u hu),ak.lU,λb hb=>ak.ts b ((pm b).mpr (.inr hb)),8}),λWQ b s13 hb=>{_,9,?_}};show dI (λc=>?_) (λc=>?_)
  ·show k WQ true (Xs.trans s13) {λ_=>?_,λ_=>9};let(h,ag,ft):=hb.mp c;show{h,aH.iM.longer ak.nd got.lg ag,λb hb=>?_};rcases(pm b).mp hb with rfl|hb
   ·show got.ft h ag b aw
   ·show ft b hb
  ·show{_,⟨_,_,_,rfl⟩,bN,s8.trans (Xq.trans s13),λg2 h2=>?_};rw[bh,HM]at h2;rcases aS.mp h2 with h2|h2
   ·show Ht g2 h2
   ·have:g2=g':=by simpa using h2
    rw[this]
    exactλhc=>c (hb.mpr hc)
 ·ext Z H8 ⟨_,⟨_,_,_,rfl⟩,_,s8,Ht⟩;rw[(a9 hG),aT]at Ht;show k H8 false (nO.trans s8) {λh=>(by cases h),λhc=>?_};exfalso;show aH.Km ak.nd (λh ag hm=>(U7 ak.tb.nm).mp hm) (λrow hr way e=>Ht way ?_) pm hc;rw[<-hgs];show lF.mpr ⟨row,hr,e⟩
theorem HV{f:bn}{fd:i8}(F:dH K "_law_filled" "_law_filled" vW f fd)(m:mg "_law_filled"=some (.ref f))(kp:keepIn K (.ref f)=true)(b:Binds K fd ["_law_left","_law_tables","_law_given"] [])(T:Txt K mg)
  (D:b6 P w K mg base 1 "_law_bound" ["_law_terms_here","_law_row","_law_given"] (Et K)):∀n,b6 P w K mg base (2+n) "_law_filled" ["_law_left","_law_tables","_law_given"] (wA K n)
 |0=>by have M9:∀vs H Q E,¬wA K 0 vs H Q E:=λvs H Q E ⟨_,_,_,_,_,_,_,_,_,h,_,_,_,_⟩=>absurd h (eC _);show{f,fd,{λvs H Q E h=>absurd h (M9 vs H Q E),λA outer s H args us vs Q E _ _ _ _ h=>absurd h (M9 vs H Q E)},m,kp,b}
 |n+1=>{f,fd,UQ F T {D,HV F m kp b T D n},m,kp,b}
inductive Kb(K:Frag)(vs:Aao)(H:Hp)(Q:VK)(_x3:XK):Prop
 |mk (v:V) (p r:bn) (hz:Aah) (aP:Aaa) (fs:List En) (row:Aah) (_:vs=[v,.ref p,.ref r]) (_:QW H v hz aP) (_:GV K H p fs) (_:ba K H r (row.map V.str)) (_:row.length<=100) (_:∀H' b,aG H H'->(b=true↔∃h,l5 row (DB fs) hz aP h)->Q (.bl b) H')
structure Dan(P:dL)(w:i3)(K:Frag)(mg:Aad)(base:i5):Prop where
 Jq:b6 P w K mg base 1 "_law_bound" ["_law_terms_here","_law_row","_law_given"] (Et K)
 Gu:b6 P w K mg base (2+09) "_law_filled" ["_law_left","_law_tables","_law_given"] (wA K 09)
def CA:bX ["_law_question_here","_law_tables","_law_row","_law_given"] ["_law_question_here","_law_tables","_law_row"] (bH zf):=gg 21
def RU(F:dH K "_law_answers" "_law_answers" zf f fd)(T:Txt K mg)(D:Dan P w K mg base):cH P w K mg base dZ 12 f fd ["_law_question_here","_law_tables","_law_row"] (Kb K):=by
 show F.ok CA 71;let(v,p,r,hz,aP,fs,row,rfl,qw,tb,yB,lr,k):=h;let(q,hd,aa,fS,rfl,hq,ny,jt,fC):=qw.at';show{_,(aB (dW 3 CA (cl D.Jq hr (lQ (bF bU (pv 0) aK (λ_ _=>9)) (pv 2) iY))) (aO (bJ (uQ (jT wg (pv 3) gQ (cx _)) (wV (cl D.Gu hr (lQ (dc mB 9 T.ox 21 (bR (bF bU (pv 0) aK (λ_ _=>9)))) (pv 1) (pv 3)))))))),?_}
 have h4:=qw.h4;have l8:=qw.l8;show{_,9,_,_,_,_,9,9,ba.of hq,9,_,9,λe0 N6=>?_};have s1:aG H (upd H e0 69):=aD N6 _;have he1:upd H e0 69 e0=some (.dK (gK [])):=ar;show{e0,hd,r,[],hz,row,9,he1,aJ _,dq,ba.of (s1 _ _ ny),gh yB s1,8,8,λz ke=>{(f7 (qw.hh z ke)).1,(f7 (qw.hh z ke)).2.1},λH2 s2 e2=>?_,λd g0 H2 s2 d0 hd2 e2=>?_}
 ·show{_,9,9,_,9,fB (k H2 false (s1.trans s2) {λh=>(by cases h),λagA=>?_})};let(h,hl):=agA;let(g',e,__):=aH.uU (g:=[]) dq (λp hp=>by cases hp);rw[hl.1,e2]at e;cases e
 ·show{_,9,9,_,9,ml ?_};have CJ:=s1.trans s2;let(n0,__,ks0,YE):=aH.tZ (g:=[]) dq e2;show{_,9,_,_,_,_,9,9,ba.of (CJ _ _ hq),9,aa,fS,9,.inr (ba.of (CJ _ _ jt)),λl hl=>?_};have s3:aG H2 (upd H2 l (.lst fS)):=aD hl _;have rZ:upd H2 l (.lst fS) l=some (.lst fS):=ar;have pP:=CJ.trans s3;have uf:∀u,u∈aH.jI bf aP->u∈bz aP:=λu hu=>by let(b,hb,h,__):=aH.cU.mp hu;show gF.mpr ⟨b,hb,h⟩
  have lf:(bz aP).length<=4*aP.length:=by have:=qw.good.len aP.length;rw[aT]at this;show this
  show{_,9,_,9,l,p,d,fS,aP,fs,g0,hz++bz aP,9,8,bg.of rZ,JK (fC.keep (cI.of pP)),{tb.same pP,s3 _ _ hd2,n0,λu hu=>bu _ ((λu hu=>((ks0 u).mp hu).elim (λh=>by cases h) id) u hu).1,λu hu=>bj _ (uf u hu),by rw[aC];lia,λa ha=>?_,l8},λH4 b s4 hb=>k H4 b (pP.trans s4) (hb.trans ?_)}
  ·have g:=qw.good a ha;show⟨by have:=g.2.2.1;lia,λz ke=>{(f7 (g.2.2.2 z ke)).1,(f7 (g.2.2.2 z ke)).2.1}⟩
  ·constructor
   ·ext⟨h,ag,ft⟩;show{h,YE h ag,ft}
   ·ext⟨h,hl⟩;let(g',e,ag):=aH.uU (g:=[]) dq (λp hp=>by cases hp);rw[hl.1,e2]at e;cases e;show{h,ag,hl.2}
def LB{X:Cx}:gJ X (.builtin "isinstance") (λxs H Q=>∃a ys n b,xs=[.ref a,.ty n]/\ba X.K H a ys/\kitOne X.K (.type "tuple") (.type n)=some b/\Q (.bl b) H):=by ext bi s Z H xs us Q I r h;let(a,ys,n,b,rfl,hq,e,q):=h;let(u,w',rfl,ru,qR):=vals2 r;cases ru;cases qR;obtain⟨aY,_,⟨o,h1,h2,_⟩,_⟩:=I.tuple hq;show fq D9 I.nq ⟨o,h1,h2⟩ e (λz=>nomatch z) λtk=>{.bl b,H,I.tok tk,9,q}
inductive TV(vs:Aao)(H:Hp)(Q:VK)(_x3:XK):Prop
 |mk (z:io) (_:vs=[.str z]) (_:isVal z=true) (_:∀H',aG H H'->Q (.bl true) H')
def Mq:bX ["_law_thing"] ["_law_thing"] (bH ze):=gg 21
def RT{f:bn}{fd:i8}(F:dH K "_law_is_word" "_law_is_word" ze f fd)(T:Txt K mg):cH P w K mg base dZ 1 f fd ["_law_thing"] TV:=by
 show F.ok Mq 71;let(z,rfl,hz,k):=h;show{_,(aB (dg (PW.pt (km (gP (eZ (bD gq 9 T.fb 21 (cP (pv 0) (nP (n:="str") 9 T.Be 21))))) (ot (gP (XH yq yq aK (bD cJ 9 T.dR bC (bR (pv 0))) aK))))) (aO (bJ fJ)) cm) (aO (bJ (jT (wY hr.rE) (mL 9 (cR (fs:=[]) (fr:=[])) (UA (pv 0)) (λ_ _ _ _=>(bZ MW (pv 0) gG 86)) (λ_ _ _ _=>(pv 0))) (dS gS) (cx _))))),?_}
 have hz8:=wb hz;have hv:=hz;unfold isVal at hv;rw[bQ,bQ]at hv;have h1:=aU hv.1;show{_,9,_,_,_,true,9,qd.str z,kI _,_,9,fB ?_};show{_,9,_,_,9,{(bE (bq ∅)),9},_,_,9,9,_,9,?_};rw[bb (show(0:Int)<(z.length:Int) by lia)];show ml {_,_,9,9,_,9,?_};rw[bb (show(z.length:Int)<09 by lia)];show fB ?_;show{_,9,_,9,Y9 (λi ys H2=>H2=H/\ys=[]) (bq (show z.length<=1000 by lia)) ⟨rfl,rfl⟩ ?_ ?_ ?_}
 ·ext i ys H2 hi ⟨rfl,rfl⟩;show aJ _
 ·ext i c ys H2 N hc ⟨rfl,rfl⟩ hN;have sc:sgn c=true:=by have:=bt.mp hv.2.2 (sgn c) (bI (aE (by simpa using hc)));show this
  show{_,9,_,_,9,9,_,9,?_};show dI (λc3=>?_) (λc3=>hN _ _ ⟨rfl,rfl⟩);have c3:(!sgn c)=true:=c3;rw[sc]at c3;cases c3
 ·ext ys H2 ⟨rfl,rfl⟩ l hl;show{77,λl2 fw=>?_};show{_,_,_,9,9,bg.of (by rw[aM (bw ar fw)];show ar),bg.of ar,?_};show k _ ((aD hl _).trans (aD fw _))
inductive Rx(K:Frag)(vs:Aao)(H:Hp)(Q:VK)(_x3:XK):Prop
 |mk (a:bn) (zs:Aah) (_:vs=[.ref a]) (_:ba K H a (zs.map V.str)) (_:zs.length<=100) (_:(∀z∈zs,isVal z=true)) (_:∀H',aG H H'->Q (.bl true) H')
structure Dw1(P:dL)(w:i3)(K:Frag)(mg:Aad)(base:i5):Prop where
 Vk:b6 P w K mg base 1 "_law_is_word" ["_law_thing"] TV
def O8:bX ["_law_row"] ["_law_row"] (bH AX):=gg 21
def UO{f:bn}{fd:i8}(F:dH K "_law_is_row" "_law_is_row" AX f fd)(T:Txt K mg)(D:Dw1 P w K mg base):cH P w K mg base dZ 2 f fd ["_law_row"] (Rx K):=by
 show F.ok O8 71;let(a,zs,rfl,ha,lz,vz,k):=h;show{_,(aO (bJ (uQ (bD LB 9 T.fb 21 (cP (pv 0) (nP (n:="tuple") 9 T.jg 21))) (wV (jT mh fJ (je 9 (cR (fs:=[]) (fr:=[])) (il (pv 0)) (λ_ _ _ _=>(cl D.Vk hr (bR (pv 0))))) 86))))),?_};show{_,9,a,_,_,_,9,ha,kI _,_,9,ml ?_};show{_,9,a,9,⟨_,ha⟩,mW (xs:=zs.map V.str) (λi ys H2=>aG H H2/\i<=zs.length/\ys=(List.replicate i true).map V.bl) (by rw[(ah _)];show bq ∅) {aG.refl H,aJ _,9} ?_ ?_ ?_}
 ·ext i ys H2 hi ⟨s2,mq,rfl⟩;show{gh ha s2,?_};rw[ah,fV];show au _
 ·ext i x ys H2 N hc ⟨s2,mq,rfl⟩ hN;let(z,hz,rfl):=jy hc;have bN:=(aq.mp hz).1;show{_,9,z,9,vz z (aE hz),λH3 s3=>hN _ _ {s2.trans s3,bN,?_}};rw[sJ,aF];rfl
 ·ext ys H2 ⟨s2,_,rfl⟩ l hl;show{l,_,9,.inl (bg.of ar),9,Ot _,?_};rw[Ir];have:(List.replicate (zs.map V.str).length true).all id=true:=bt.mpr λb hb=>by rw[(oP.mp hb).2];rfl
  rw[this];show k _ (s2.trans (aD hl _))
structure vm(K:Frag)(H:Hp)(p:bn)(fs:List En):Prop where
 at_:H p=some 78
 nm:(fs.map (·.nm)).Nodup
 en:∀e∈fs,isVal e.nm=true/\H e.ad=some (.lst e.ys)/\d7 K H e.ys e.rows/\e.rows≠[]/\e.rows.length<=60/\(∀r∈e.rows,1<=r.length/\r.length<=4/\∀z∈r,isVal z=true/\PyData.strOk z=true)/\iN e.rows=e.rows
inductive ZN(K:Frag)(vs:Aao)(H:Hp)(Q:VK)(_x3:XK):Prop
 |mk (p:bn) (fs:List En) (_:vs=[.ref p]) (_:vm K H p fs) (_:fs.length<=60) (_:∀H',aG H H'->Q (.bl true) H')
structure Dar(P:dL)(w:i3)(K:Frag)(mg:Aad)(base:i5):Prop where
 Bi:b6 P w K mg base 2 "_law_is_row" ["_law_row"] (Rx K)
def rH:bX ["_law_tables","_law_name","_law_rows"] ["_law_tables"] (bH tK):=gg 21
def Lx{f:bn}{fd:i8}(F:dH K "_law_are_tables" "_law_are_tables" tK f fd)(T:Txt K mg)(D:Dar P w K mg base):cH P w K mg base dZ 3 f fd ["_law_tables"] (ZN K):=by
 show F.ok rH 71;let(p,fs,rfl,tb,lf,k):=h;show{_,(aB (dg (gP (eZ (bD gq 9 T.fb 21 (cP (pv 0) (nP (n:="dict") 9 T.C2 21))))) (aO (bJ fJ)) cm) (aB (MD (dM bG 9 (MK (pv 0)) (gB 1 rH) (aB (dW 2 rH (Jd (nQ hr) (pv 0) (pv 1) (λ_ _=>9))) (aB (dg (PW.pt (km (gP (eZ (cl D.Bi hr (bR (iq (bR (pv 1))))))) (km (gP (eZ (bD gq 9 T.fb 21 (cP (pv 2) (nP (n:="list") 9 T.ox 21))))) (ot (bZ (wY hr.rE) (pv 2) (dS gS) (cx _)))))) (aO (bJ fJ)) cm) (aO (dg (PW.pt (km (bZ CY fJ (je 9 (cR (fs:=[]) (fr:=[])) (dO (pv 2)) (λ_ _ _ _=>(uQ (cl D.Bi hr (bR (pv 0))) (wV (MP yq yq aK (bD (yK) 9 T.dR bC (bR (pv 0))) aK))))) 86) (ot (bZ (CV hr.units) (pv 2) (bD (Au hr.hd) 9 T.tS 21 (bR (dc (K7 hr.hd hr.units) 9 T.R1 21 (bR (pv 2))))) (cx _))))) (aO (bJ fJ)) cm)))))) (aO (bJ fJ)))),?_}
 show{_,9,_,_,_,_,9,.dK tb.at_,kI _,_,9,fB ?_};show{p,(λo v e=>by rw[tb.at_]at e;cases e),_,9,p,_,_,9,tb.at_,.inl ⟨_,rfl,rfl⟩,λo=>?_};have jB:upd H p (.fX o 78) p=some (.fX o 78):=ar;have t1:cu H (upd H p (.fX o 78)):=cu.upd (tR tb.at_);have en1:∀e∈fs,upd H p (.fX o 78) e.ad=some (.lst e.ys):=λe he=>by have h:=(tb.en e he).2.1;rw[aM (λq=>by rw[q,tb.at_]at h;cases h)];show h
 have b1:∀b u,b≠p->H b=some u->upd H p (.fX o 78) b=some u:=λb u n h=>aM n▸h;generalize (upd H p (.fX o 78))=H1 at jB t1 en1 b1⊢;show KZ (λi Z H2=>∃x1 x2:Aap,Z=[some (.ref p),x1,x2]/\aG H1 H2) {_,_,9,aG.refl _} ?_ ?_ ?_
 ·ext i Z H2 hi ⟨_,_,rfl,s2⟩;show s2 _ _ jB
 ·ext i kv Z H2 qo ⟨_,_,rfl,s2⟩;rw[b8,aZ]at qo;let(e,N6,Wm):=bA.mp qo;have Wm:kv=(.str e.nm,.ref e.ad):=Wm.symm;subst Wm;have he:=aE N6;let(vn,Ao,hR,iB,lR,gR,un):=tb.en e he;have lye:=a9 hR;have N5:=s2 _ _ (en1 e he);have hR2:=gZ (iG hR t1) s2;show{_,9,_,9,p,.ref e.ad,9,.inl {fs.map gC,Sum.inr e.nm,.inr {o,s2 _ _ jB},9,(tG tb.nm he).symm},?_};show{_,9,(by change 1<=ca;decide),λt ht=>?_};have s3:aG H2 (upd H2 t (.tup [.str e.nm])):=aD ht _;have KA:ba K (upd H2 t (.tup [.str e.nm])) t (([e.nm]:Aah).map V.str):=ba.of ar;show{t,[e.nm],9,KA,by change 1<=100;decide,λz hz=>(aA.mp hz▸vn),λH4 s4=>{_,9,?_}};show fB ?_;have rM:=s3.trans s4;show{_,9,_,_,_,true,9,.lst (rM _ _ N5),kI _,_,9,fB ?_};show{_,9,77,λl0 sT=>?_};have s5:aG H4 (upd H4 l0 70):=aD sT _;have h05:upd H4 l0 70 l0=some 70:=ar;generalize (upd H4 l0 70)=H5 at s5 h05⊢;have sS:=rM.trans s5;show{_,_,_,9,9,bg.of (sS _ _ N5),bg.of h05,_,9,?_};have eI:e.ys.isEmpty=false:=by
   cases q:e.ys with
   |nil=>
    rw[q]at lye;show absurd (dF.mp lye.symm) iB
   |cons _ _=>rfl
  rw[eI];show fB ?_;show{_,9,e.ad,9,{_,bg.of (sS _ _ N5)},ji (xs:=e.ys) (λj us H6=>aG H5 H6/\j<=e.rows.length/\us=(List.replicate j true).map V.bl) (bq ∅) {aG.refl _,aJ _,9} ?_ ?_ ?_}
  ·ext j us H6 hj ⟨s6,An,rfl⟩;show{bg.of (s6 _ _ (sS _ _ N5)),?_};rw[ah,fV];show au _
  ·ext j y us H6 N hy ⟨s6,An,rfl⟩ hN;let(row,kK,ra,rfl,HI):=Paired.at' (gZ hR2 (sS.trans s6)) hy;have lT:=(aq.mp kK).1;let(r1,r4,rv):=gR row (aE kK);show{_,9,ra,row,9,HI,8,λz hz=>(rv z hz).1,λH7 s7=>{_,9,ml ?_}};show{_,9,_,_,9,.inr {_,gh HI s7,9},_,_,9,9,_,9,?_};rw[(ah _),bb (show(0:Int)<(row.length:Int) by lia)];show ml {_,_,9,9,?_};rw[bb (show(row.length:Int)<5 by lia)];show hN _ _ {s6.trans s7,lT,?_};rw[sJ,aF];rfl
  ext us H6 ⟨s6,_,rfl⟩ l hl;have s7:aG H5 (upd H6 l (.lst ((List.replicate e.ys.length true).map V.bl))):=s6.trans (aD hl _);have QL:upd H6 l (.lst ((List.replicate e.ys.length true).map V.bl)) l=some (.lst ((List.replicate e.ys.length true).map V.bl)):=ar;generalize (upd H6 l (.lst ((List.replicate e.ys.length true).map V.bl)))=H7 at s7 QL⊢;show{l,_,9,.inl (bg.of QL),9,Ot _,_,9,?_};have ev:(if false=true then !FD (.bl false) ((List.replicate e.ys.length true).map V.bl)else FD (.bl false) ((List.replicate e.ys.length true).map V.bl))=false:=by
   rw[aI bL,Ir];have:(List.replicate e.ys.length true).all id=true:=bt.mpr λb hb=>by rw[(oP.mp hb).2];rfl
   rw[this];rfl
  rw[ev];show fB ?_;have s27:=sS.trans s7;have hR7:=gZ hR2 s27;have aew:=s27 _ _ N5;show{_,9,_,9,e.ad,e.ys,e.rows,9,bg.of aew,hR7,8,λa us ha0 nu mu lu NJ=>?_};have s8:aG H7 (upd H7 a (.ext (vo P w a us))):=aD ha0 _;show{a,us,e.ys,9,ar,λx hx=>{L6 (NJ x hx).1 s8,(NJ x hx).2},λ_ x hx=>?_,8,λl2 zs fw pR _=>?_}
  ·have:=(gR x.1 ((mu x.1).mp (bI hx))).1;ext q;rw[q]at this;cases this
  rw[F0 nu mu,un]at pR;have s9:aG (upd H7 a (.ext (vo P w a us))) (upd (upd H7 a (.ext (vo P w a us))) l2 (.lst zs)):=aD fw _;have s79:=s8.trans s9;have oku:=λr hr z hz=>((gR r hr).2.2 z hz).2;show{f9 e.rows,f9 e.rows,Q0 (bg.of (s79 _ _ aew)) (gZ hR7 s79),Q0 (bg.of ar) (gZ pR s9),Fo oku,Fo oku,_,9,?_};have ev:(if true=true then !PyData.eqv (f9 e.rows) (f9 e.rows)else PyData.eqv (f9 e.rows) (f9 e.rows))=false:=by rw[aL rfl,YX,bb rfl];rfl
  rw[ev];show fB {_,_,9,s2.trans (s27.trans s79)}
 ·ext Z H2 ⟨_,_,rfl,s2⟩;show{o,_,s2 _ _ jB,k _ λb u h=>?_};by_cases c:b=p
  ·rw[c,ar];rw[c,tb.at_]at h;show h
  ·rw[aM c];show s2 _ _ (b1 b u c h)
def AS:bX ["_law_question_here","_law_terms_here","_law_atom_here"] ["_law_question_here"] (bH CG):=gg 21
def RS{f:bn}{fd:i8}(F:dH K "_law_terms" "_law_terms" CG f fd)(T:Txt K mg):cH P w K mg base dZ 1 f fd ["_law_question_here"] wz:=by
 show F.ok AS 71;obtain⟨v,hz,aP,rfl,⟨⟨q,hd,aa,fS,rfl,hq,ny,jt,fC⟩,l1,l8,good,h4,hh⟩,k⟩:=h;show{_,(aB (dW 1 AS (dc mB 9 T.ox 21 (bR (bF bU (pv 0) aK (λ_ _=>9))))) (aB (dM bG 9 (il (bF bU (pv 0) aK (λ_ _=>9))) (gB 2 AS) (aO (gn (jq bO eF eE vZ (pv 1) (bR (bF bU (pv 2) aK (λ_ _=>9))))))) (aO (bJ (pv 1))))),?_}
 show{_,9,_,_,_,_,9,9,ba.of hq,9,hd,_,9,.inr (ba.of ny),λl hl=>?_};show{_,rfl,_,_,_,_,rfl,rfl,ba.of (aD hl _ _ _ hq),rfl,aa,rfl,{fS,ba.of (aD hl _ _ _ jt)},tY
  (λi Z H2=>∃(x2:Aap),Z=[some (.ref q),some (.ref l),x2]/\aG H H2/\H2 l=some (.lst ((hz++bz (aP.take i)).map V.str))) {none,9,aD hl _,by rw[ar];change some (HO.lst _)=some (HO.lst ((hz++[]).map V.str));rw[cZ]} (λi Z H2 _ hq=>by(let(__,__,sm,__):=hq;show ba.of (sm _ _ jt))) ?_ ?_}
 ·ext i x Z H2 hx ⟨x2,rfl,sm,fw⟩;let(ta,ht,p,t,rfl,hp,pQ):=Paired.at fC hx;have g:=good ta (aE ht);have lf:=good.len i;show{_,9,.inl {9,_,bg.of fw},_,9,_,_,_,_,9,9,ba.of (sm _ _ hp),9,l,t,_,_,9,9,fw,ba.of (sm _ _ pQ),?_,?_}
  ·rw[ah,ah,aC];show bE (bq ∅)
  ·show{_,9,λb u e=>?_,?_}
   ·rw[aM (bw e hl)];show sm _ _ e
   ·rw[ar,pC ht,<-dN,aF (l₁:=hz++bz (aP.take i))]
 ·ext Z H2 ⟨x2,rfl,sm,fw⟩;rw[(a9 fC),aT]at fw;show{_,9,k l H2 sm hl fw}
inductive T1(K:Frag)(vs:Aao)(H:Hp)(Q:VK)(_x3:XK):Prop
 |mk (p ql:bn) (v1:V) (fs:List En) (hz:Aah) (aP:Aaa) (_:vs=[.ref p,.ref ql]) (_:vm K H p fs) (_:fs.length<=60) (_:H ql=some (.lst [v1])) (_:QW H v1 hz aP) (_:∀H' r(zs:Aah),aG H H'->H r=none->H' r=some (.lst (zs.map V.str))->zs.length<=100000->(∀z∈zs,isVal z=true/\PyData.strOk z=true)->Q (.ref r) H')
structure Dnv(P:dL)(w:i3)(K:Frag)(mg:Aad)(base:i5):Prop where
 Jo:b6 P w K mg base 1 "_law_terms" ["_law_question_here"] wz
def jS:bX ["_law_tables","_law_questions","_law_old","_law_question_here","_law_some","_law_name","_law_row"] ["_law_tables","_law_questions"] (bH tJ):=gg 21
def X1{f:bn}{fd:i8}(F:dH K "_law_new_values" "_law_new_values" tJ f fd)(T:Txt K mg)(D:Dnv P w K mg base):cH P w K mg base dZ 2 f fd ["_law_tables","_law_questions"] (T1 K):=by
 show F.ok jS 71;let(p,ql,v1,fs,hz,aP,rfl,tb,lf,hql,q,k):=h;show{_,(aB (ka (i:=2) jS.nd 9 (Or.inr 9) (dS gS)) (aB (dM bG 9 (dO (pv 1)) (gB 3 jS) (aO (gn (jq bO eF eE yw (pv 2) (bR (cl D.Jo hr (bR (pv 3)))))))) (aB (dW 4 jS (dS gS)) (aB (dM bG 9 (dO (bD (DO hr.hd) 9 T.tS 21 (bR (pv 0)))) (gB 5 jS) (aO (dM bG 9 (dO (Jd (nQ hr) (pv 0) (pv 5) (λ_ _=>9))) (gB 6 jS) (aO (gn (jq bO eF eE yw (pv 4) (bR (mL 9 (cR (fs:=["_law_old"]) (fr:=[2])) (il (pv 6)) (λ_ _ _ _=>(bZ (ve) (pv 0) (pv 1) 86)) (λ_ _ _ _=>(pv 0)))))))))) (aO (bJ (pv 4))))))),?_}
 show{77,λol HK=>?_};have s1:aG H (upd H ol 70):=aD HK _;have Aj:upd H ol 70 ol=some (.lst (([]:Aah).map V.str)):=ar;show{_,9,ql,9,{_,bg.of (s1 _ _ hql)},iC (xs:=[v1]) (λi Z H2=>∃(x3:Aap)(os:Aah),Z=[some (.ref p),some (.ref ql),some (.ref ol),x3,none,none,none]/\aG H H2/\H2 ol=some (.lst (os.map V.str))/\os.length<=100*i) {_,[],9,s1,Aj,au _} ?_ ?_ ?_}
 ·ext i Z H2 hi ⟨_,_,rfl,s2,_⟩;show bg.of (s2 _ _ hql)
 ·ext i x Z H2 hx ⟨_,os,rfl,s2,vE,lo⟩;obtain⟨rfl,rfl⟩:i=0/\x=v1:=by
   cases i with
   |zero=>show{9,(bY hx).symm}
   |succ j=>show absurd hx 58
  have lq:=q.good.len aP.length;rw[aT]at lq;have:=q.l8;have:=q.h4;show{_,9,.inl {9,_,bg.of vE},_,9,x,hz,aP,9,(q.keep (cI.of s2)),λr H3 s3 yB De=>{ol,r,_,_,9,9,s3 _ _ vE,De,?_,?_}}
  ·rw[ah,ah,aC];show bE (bq ∅)
  ·show{_,os++(hz++bz aP),9,λb u e=>?_,?_,?_}
   ·rw[aM (bw e HK)];show s3 _ _ (s2 _ _ e)
   ·rw[ar,aF (l₁:=os)]
   ·rw[aC,aC];lia
 ·ext Z H2 ⟨_,os,rfl,s2,vE,lo⟩;show{77,λsl Dd=>?_};have s3:aG H2 (upd H2 sl 70):=aD Dd _;have h3:upd H2 sl 70 sl=some (.lst (([]:Aah).map V.str)):=ar;generalize (upd H2 sl 70)=H3 at s3 h3⊢;have pP:=s2.trans s3;show{_,9,p,fs.map gC,fs.map (·.nm),9,pP _ _ tb.at_,by rw[b8,b8];rfl,by rw[ah];lia,λnl Am=>?_};have s4:aG H3 (upd H3 nl (.lst ((eY (fs.map (·.nm))).map V.str))):=aD Am _;have h4:upd H3 nl (.lst ((eY (fs.map (·.nm))).map V.str)) nl=some (.lst ((eY (fs.map (·.nm))).map V.str)):=ar;generalize (upd H3 nl (.lst ((eY (fs.map (·.nm))).map V.str)))=H4 at s4 h4⊢;have nO:=pP.trans s4;have ho4:=s4 _ _ (s3 _ _ vE);have UX:=s2.free Dd;have BY:sl≠nl:=λe=>by rw[e]at h3;rw[h3]at Am;cases Am
  have nol:sl≠ol:=λe=>by rw[e,vE]at Dd;cases Dd
  have lns:(eY (fs.map (·.nm))).length=fs.length:=by rw[(ix _).length_eq,ah]
  have mns:∀z∈eY (fs.map (·.nm)),∃e∈fs,e.nm=z:=λz hz=>az.mp ((ix _).mem_iff.mp hz);generalize eY (fs.map (·.nm))=ns at h4 lns mns⊢;show{nl,9,{_,bg.of h4},iC (xs:=ns.map V.str) (λi Z H5=>∃(x3 x5 x6:Aap)(zs:Aah),Z=[some (.ref p),some (.ref ql),some (.ref ol),x3,some (.ref sl),x5,x6]/\SB sl H4 H5/\H5 sl=some (.lst (zs.map V.str))/\zs.length<=240*i/\∀z∈zs,isVal z=true/\PyData.strOk z=true) {_,_,_,[],9,SB.refl _ _,s4 _ _ h3,au _,λz h=>by cases h} ?_ ?_ ?_}
  ·ext i Z H5 hi ⟨_,_,_,_,rfl,s5,_⟩;show bg.of (s5 _ _ BY.symm h4)
  ·ext i x Z H5 hx ⟨x3,x5,x6,zs,rfl,s5,h5,lz,gz⟩;let(nm,hnm,rfl):=jy hx;have hi:=(aq.mp hnm).1;let(e,he,rfl):=mns nm (aE hnm);let(vn,Ao,hR,iB,lR,gR,un):=tb.en e he;have vB:=λb u h=>s5 b u (bw h UX) (nO _ _ h);have lye:=a9 hR;show{_,9,_,9,p,.ref e.ad,9,.inl {fs.map gC,Sum.inr e.nm,.inl (vB _ _ tb.at_),9,(tG tb.nm he).symm},e.ad,9,{_,bg.of (vB _ _ Ao)},iC (xs:=e.ys) (λj Z H6=>∃(x6:Aap)(us:Aah),Z=[some (.ref p),some (.ref ql),some (.ref ol),x3,some (.ref sl),some (.str e.nm),x6]/\SB sl H5 H6/\H6 sl=some (.lst (us.map V.str))/\us.length<=240*i+4*j/\∀z∈us,isVal z=true/\PyData.strOk z=true) {_,zs,9,SB.refl _ _,h5,8,gz} ?_ ?_ ?_}
   ·ext j Z H6 hj ⟨_,_,rfl,s6,_⟩;show bg.of (s6 _ _ (bw Ao UX) (vB _ _ Ao))
   ·ext j y Z H6 hy ⟨x6',us,rfl,s6,h6,lu,gu⟩;let(row,kK,ra,rfl,HI):=Paired.at' (gZ hR (λb u h=>s6 b u (bw h UX) (vB _ _ h))) hy;have lT:=(aq.mp kK).1;let(r1,r4,rv):=gR row (aE kK);show{_,9,.inl {9,_,bg.of h6},_,9,ra,9,⟨_,HI⟩,mW (xs:=row.map V.str) (λt ys H7=>H7=H6/\t<=row.length/\ys=((row.take t).filter λz=>!decide (z∈os)).map V.str) (by rw[ah];show bq ∅) {9,aJ _,9} ?_ ?_ ?_}
    ·ext t ys H7 ht ⟨rfl,_,rfl⟩;show{HI,?_};rw[ah];show bc (cS _ _) ?_;rw[aV];lia
    ·ext t y ys H7 N hc ⟨rfl,ht,rfl⟩ hN;let(z,ke,rfl):=jy hc;have bN:=(aq.mp ke).1;show{_,9,_,9,ol,_,9,.inl (bg.of (s6 _ _ nol.symm (s5 _ _ nol.symm ho4))),9,xl _,_,9,?_};change if(!FD (.str z) (os.map V.str))=true then _ else _;rw[wm];have et:=bh (l:=row) (i:=t);rw[ke]at et;show dI (λc1=>?_) (λc1=>?_)
     ·show{_,9,hN _ _ {9,bN,?_}};rw[et,dQ,aF];change _=_++(List.filter _ [z]).map V.str;rw[cK,aL c1];rfl
     ·show hN _ _ {9,bN,?_};rw[et,dQ,aF];change _=_++(List.filter _ [z]).map V.str;rw[cK,aI c1];simp
    ·ext ys H7 ⟨rfl,_,rfl⟩ cl mv;rw[ah,aT];have lc:(row.filter λz=>!decide (z∈os)).length<=row.length:=cS _ _;have gc:∀z∈(row.filter λz=>!decide (z∈os)),isVal z=true/\PyData.strOk z=true:=λz hz=>rv z (cM.mp hz).1;generalize (row.filter λz=>!decide (z∈os))=cs at lc gc⊢;show{sl,cl,_,_,9,9,by rw[aM (λe=>by rw[<-e,h6]at mv;cases mv)];show h6,ar,?_,?_}
     ·rw[ah,ah];have:240*i<=240*60:=sZ _ ∅;show bE (fY (m:=20000) ∅ 7)
     ·show{_,us++cs,9,λb u n h=>?_,?_,?_,?_}
      ·rw[aM n,aM (bw (s6 _ _ n h) mv)];show s6 _ _ n h
      ·rw[ar,aF]
      ·rw[aC];lia
      ·ext z hz;rcases aS.mp hz with h|h
       ·show gu z h
       ·show gc z h
   ·ext Z H6 ⟨x6',us,rfl,s6,h6,lu,gu⟩;show{_,_,_,us,9,s5.trans s6,h6,8,gu}
  ·ext Z H5 ⟨x3,x5,x6,zs,rfl,s5,h5,lz,gz⟩;rw[ah]at lz;show{_,9,k H5 sl zs (λb u h=>s5 b u (bw h UX) (nO _ _ h)) UX h5 ∅ gz}
def WW:(eX.all λz=>isVal z)=true:=by decide+kernel
def afw(k:Nat):PyData.strOk (fW k)=true:=Z8 λc hc=>by
 rcases aN.mp hc with rfl|hc
 ·decide
 ·show(SQ hc).2
def Rn(l:Aab):iN (iN l)=iN l:=by have nd:(iN l).Nodup:=(uY.mO _).nodup_iff.mpr (rR l);rw[<-(F0 nd λr=>ES)];show(uY.wC (List.Perm.refl _) (uY.vR _)).symm
def Tu(l:Aab):(iN l).length<=l.length:=by show jU ((uY.mO _).nodup_iff.mpr (rR l)) λr hr=>(uR r l).mp hr
def tV(g:cN)(v:io):io:=((g.find? λp=>decide (p.2=v)).map (·.1)).getD v
variable{cb cy:Aah}{bM bT:Aaa}{g:cN}{ks:List Nat}
def nE.fst(x:nE cb bM cy bT g ks):g.map (·.1)=fA (bz bM):=by rw[x.eq];show IG (by rw[ah,x.len])
theorem PB:∀{us vs:Aah},us.length=vs.length->(us.zip vs).map (·.2)=vs
 |[],[],_=>rfl
 |[],_::_,h=>by cases h
 |_::_,[],h=>by cases h
 |u::us,v::vs,h=>by change v::(us.zip vs).map (·.2)=v::vs;rw[PB (by simpa using h)]
def nE.snd(x:nE cb bM cy bT g ks):g.map (·.2)=ks.map fW:=by rw[x.eq];show PB (by rw[ah,x.len])
def nE.Nc(x:nE cb bM cy bT g ks):(keys g).Nodup:=by change(g.map (·.1)).Nodup;rw[x.fst];show yj _
def nE.qV(x:nE cb bM cy bT g ks):(g.map (·.2)).Nodup:=by rw[x.snd];show Jh (λi hi j hj e=>U2 (x.new i hi).1 (x.new j hj).1 e) x.nd
def nE.Qs(x:nE cb bM cy bT g ks){z:io}(h:z∈fA (bz bM)):∃k∈ks,(z,fW k)∈g/\dv g z=fW k:=by
 rw[<-x.fst]at h;let(p,hp,rfl):=az.mp h;have h2:p.2∈ks.map fW:=by rw[<-x.snd];show bI hp
 let(k,hk,e):=az.mp h2;show{k,hk,e▸hp,?_};unfold dv;rw[EC,aH.get_mem x.Nc hp,e];rfl
def nE.Jm(x:nE cb bM cy bT g ks){z:io}(h:bf z=false):dv g z=z:=by
 unfold dv;rw[EC];have:aH.get g z=none:=aH.get_none.mpr λq=>by have q:z∈g.map (·.1):=q;rw[x.fst]at q;rw[(mU.mp q).2]at h;cases h
 rw[this];rfl
def nE.abU(x:nE cb bM cy bT g ks){u:io}{k:Nat}(h:(u,fW k)∈g):tV g (fW k)=u:=by
 unfold tV;have find:∀{l:cN},(l.map (·.2)).Nodup->(u,fW k)∈l->(l.find? λp=>decide (p.2=fW k))=some (u,fW k):=by
  ext l
  induction l with
  |nil=>ext _ h;cases h
  |cons p r ih=>
   ext nd h;rw[bo,cY]at nd;rcases aN.mp h with h|h
   ·rw[<-h,gx (p:=λp:io×io=>decide (p.2=fW k)) (bb 9)]
   ·have ne:¬decide (p.2=fW k)=true:=λq=>nd.1 (by rw[aU q];show az.mpr ⟨_,h,rfl⟩);rw[gA (p:=λp:io×io=>decide (p.2=fW k)) ne];show ih nd.2 h
 rw[find x.qV h];rfl
def nE.Qz(x:nE cb bM cy bT g ks){z:io}(h:z∈(cb++bz bM)++(cy++bz bT)):tV g z=z:=by
 unfold tV;cases q:g.find? λp=>decide (p.2=z)with
 |none=>rfl
 |some p=>
  exfalso;have e:=aU (sM (p:=λp:io×io=>decide (p.2=z)) q);have h2:p.2∈ks.map fW:=by rw[<-x.snd];show bI (iP q)
  let(k,hk,e2):=az.mp h2;show(x.new k hk).2 (by rw[e2,e];show h)
def nE.one(x:nE cb bM cy bT g ks):l5 (cb.map (dv g)) (jx g bM) cb bM (dv g):=by
 have e:∀z,aH.ap bf (dv g) z=dv g z:=λz=>by
  unfold aH.ap;cases c:bf z with
  |true=>rfl
  |false=>rw[aI bL,x.Jm c]
 have em:∀ts:Aah,ts.map (aH.ap bf (dv g))=ts.map (dv g):=λts=>b4 λz _=>e z;show{em cb,λa ha=>?_};rw[em];show az.mpr ⟨a,ha,rfl⟩
def nE.other(x:nE cb bM cy bT g ks)(nU:yO cb bM){h:io->io}(l:l5 (cb.map (dv g)) (jx g bM) cy bT h):l5 cb bM cy bT (λu=>tV g (h u)):=by
 have e2:∀z∈cy++bz bT,tV g (aH.ap bf h z)=aH.ap bf (λu=>tV g (h u)) z:=λz hz=>by
  unfold aH.ap;cases c:bf z with
  |true=>rfl
  |false=>
   show x.Qz (bj _ hz)
 have e1:∀z∈cb++bz bM,tV g (dv g z)=z:=λz hz=>by
  cases c:bf z with
  |true=>
   let(k,__,hm,e):=x.Qs (mU.mpr {((aS.mp hz).elim (λq=>nU z q c) id),c});rw[e];show x.abU hm
  |false=>
   rw[x.Jm c];show x.Qz (bu _ hz)
 show{?_,λa ha=>?_}
 ·have:=cW (List.map (tV g)) l.1;rw[b8,b8]at this;rw[<-b4 (f:=tV g∘aH.ap bf h) λz hz=>e2 z (bu _ hz),this]
  conv=>rhs;rw[<-uG cb]
  show b4 λz hz=>e1 z (bu _ hz)
 ·let(b,hb,e):=az.mp (l.2 a ha);injection e with eb1 eb2;have:=cW (List.map (tV g)) eb2;rw[b8,b8]at this;rw[b4 (f:=tV g∘aH.ap bf h) λz hz=>e2 z ((λz hz=>bj _ (gF.mpr ⟨a,ha,hz⟩)) z hz)]at this;have e3:b.2.map (tV g∘dv g)=b.2:=by
   conv=>rhs;rw[<-uG b.2]
   show b4 λz hz=>e1 z ((λz hz=>bj _ (gF.mpr ⟨b,hb,hz⟩)) z hz)
  rw[e3]at this;rw[<-this,<-eb1];show hb
end
section
variable{K:Frag}
structure Win(H:Hp)(v:V)(l:bn)(cb:Aah)(bM:Aaa)(cy:Aah)(bT:Aaa):Prop where
 at_:∃r gL bV,v=.ref r/\H r=some (.tup [.str "within",.ref l])/\H l=some (.lst gL)/\xD H gL bV/\ET bV/\bV.length<=100/\tT cb bM cy bT bV=true
structure Prt(K:Frag)(H:Hp)(v:V)(p:bn)(fs:List En)(cb:Aah)(bM:Aaa)(cy:Aah)(bT:Aaa):Prop where
 tb:vm K H p fs
 lf:fs.length<=60
 at_:∃r rw row,v=.ref r/\H r=some (.tup [.str "parted",.ref p,.ref rw])/\H rw=some (.tup (row.map V.str))/\row.length<=4/\(∀z∈row,isVal z=true)/\(∃h,l5 row (DB fs) cb bM h)/\∀h,¬l5 row (DB fs) cy bT h
def vm.acK{H:Hp}{p:bn}{fs:List En}(x:vm K H p fs):GV K H p fs:={x.at_,x.nm,λe he=>by let(__,h2,h3,__,h5,h6,__):=x.en e he;show{h2,h3,h5,λr hr=>by have:=(h6 r hr).2.1;lia}}
def vm.same{H H':Hp}{p:bn}{fs:List En}(x:vm K H p fs)(s:aG H H'):vm K H' p fs:={s _ _ x.at_,x.nm,λe he=>by let(h1,h2,h3,h4):=x.en e he;show{h1,s _ _ h2,gZ h3 s,h4}}
def U9{cb cy:Aah}{bM bT:Aaa}{bV:cN}(h:tT cb bM cy bT bV=true):l5 cb bM cy bT (dv bV):=by
 unfold tT at h;rw[bQ,bQ]at h;let(h1,h2,h3):=h;have h1:=aU h1;have nd:(bV.map (·.1)).Nodup:=by rw[h1];show(ix _).nodup_iff.mpr (yj _)
 rw[zt nd]at h2 h3;have e:∀z,aH.ap bf (dv bV) z=dv bV z:=λz=>by
  unfold aH.ap;by_cases c:bf z=true
  ·rw[aL c]
  ·rw[aI c];unfold dv;rw[EC];have:aH.get bV z=none:=aH.get_none.mpr λq=>by have q:z∈bV.map (·.1):=q;rw[h1]at q;show c (mU.mp ((ix _).mem_iff.mp q)).2
   rw[this];rfl
 have em:∀ts:Aah,ts.map (aH.ap bf (dv bV))=ts.map (dv bV):=λts=>b4 λz _=>e z;show{by rw[em];show(aU h2),λa ha=>?_};rw[em];have:=bt.mp h3 _ (az.mpr ⟨a,ha,rfl⟩);show aU this
def map_len{cb cy:Aah}{bM bT:Aaa}{bV:cN}(h:tT cb bM cy bT bV=true):bV.length<=(bz bT).length:=by unfold tT at h;rw[bQ]at h;have h1:=cW List.length (aU h.1);rw[ah,(ix _).length_eq]at h1;rw[h1];show Af _
def nE.aao{cb cy:Aah}{bM bT:Aaa}{g:cN}{ks:List Nat}(x:nE cb bM cy bT g ks){z:io}(hT:z∈p9)(nU:bf z=true->z∈bz bM):isVal (dv g z)=true/\PyData.strOk (dv g z)=true:=by
 let(ht,__,ok):=f7 hT;cases c:bf z with
 |true=>
  let(k,hk,__,e):=x.Qs (mU.mpr {nU c,c});rw[e];show{Nb (x.new k hk).1,afw k}
 |false=>
  rw[x.Jm c];unfold kE at ht;rw[c,Cc]at ht;show⟨ht,ok⟩
def IJ{H H':Hp}{p:bn}{rws:Aaa}{fs:List En}(t:Told K H H' p rws fs)(a:io×Aah):a∈DB fs↔a∈rws:=by
 let(z,r):=a;have by_:∀z r,r∈jK rws z↔(z,r)∈rws:=λz r=>by
  unfold jK;rw[az];constructor
  ·ext⟨a,ha,rfl⟩;let(h1,h2):=cM.mp ha;rw[<-aU h2];show h1
  ·ext h;show{(z,r),cM.mpr {h,bb rfl},9}
 unfold DB;rw[gf];constructor
 ·ext⟨l,hl,h⟩;let(e,he,rfl):=az.mp hl;let(r',VL,q):=az.mp h;cases q;let(__,__,__,__,e5,__):=t.en e he;rw[e5]at VL;show(by_ _ _).mp ((uR _ _).mp VL)
 ·ext h;let(e,he,hz):=az.mp (t.all _ h);let(__,__,__,__,e5,__):=t.en e he;show{_,az.mpr ⟨e,he,rfl⟩,az.mpr {r,?_,by rw[hz]}};rw[e5,hz];show(uR _ _).mpr ((by_ _ _).mpr h)
def Nn{D D':Aaa}(h:∀a,a∈D↔a∈D'){row hz:Aah}{aP:Aaa}{g:io->io}:l5 row D hz aP g↔l5 row D' hz aP g:=
 {λx=>{x.1,λa ha=>(h _).mp (x.2 a ha)},λx=>{x.1,λa ha=>(h _).mpr (x.2 a ha)}}
def TF{H H':Hp}{p:bn}{cb cy:Aah}{bM bT:Aaa}{g:cN}{ks:List Nat}{fs:List En}(t:Told K H H' p (jx g bM) fs)(x:nE cb bM cy bT g ks)(good:pM bM)(l8:bM.length<=08):vm K H' p fs:=by
 show{t.at_,t.nm,λe he=>?_};let(__,__,h3,h4,h5,h6):=t.en e he;have el:(jx g bM).length=bM.length:=ah _;show{?_,h3,h4,h6,?_,λr hr=>?_,?_}
 ·let(a,ha,e1):=t.sub e he;let(b,hb,rfl):=az.mp ha;rw[<-e1];show bt.mp WW _ (good b hb).1
 ·rw[h5];have h1:=Tu (jK (jx g bM) e.nm);have h2:=Hi (rws:=jx g bM) (z:=e.nm);lia
 ·have hm:=(IJ t _).mp (gf.mpr {_,az.mpr ⟨e,he,rfl⟩,az.mpr ⟨r,hr,rfl⟩});let(b,hb,q):=az.mp hm;injection q with q1 q2;let(__,g1,g4,gT):=good b hb;rw[<-q2,ah];show{g1,g4,λz hz=>?_};let(y,hy,rfl):=az.mp hz;show x.aao (gT y hy) λ_=>gF.mpr ⟨b,hb,hy⟩
 ·rw[h5];show Rn _
inductive Tld(K:Frag)(H H':Hp)(v:V)(cb:Aah)(bM:Aaa)(cy:Aah)(bT:Aaa):Prop
 |win (r l:bn) (gL:Aao) (er:v=.ref r) (hr:H' r=some (.tup [.str "within",.ref l])) (hl:H' l=some (.lst gL)) (lp:gL.length<=100) (l0:H l=none) (w:Win H' v l cb bM cy bT) (yes:∃h,l5 cb bM cy bT h)
 |BW (r p rw:bn) (fs:List En) (er:v=.ref r) (hr:H' r=some (.tup [.str "parted",.ref p,.ref rw])) (p0:H p=none) (ad:(fs.map (·.ad)).Nodup) (en:∀e∈fs,H e.ad=none/\e.ad≠p) (w:Prt K H' v p fs cb bM cy bT) (no:∀h,¬l5 cb bM cy bT h)
def JV{H:Hp}{v1 v2:V}{cb cy:Aah}{bM bT:Aaa}{Q:VK}{E:XK}(q1:QW H v1 cb bM)(q2:QW H v2 cy bT)(i1:yO cb bM)(i2:yO cy bT)(k:∀v H',aG H H'->Tld K H H' v cb bM cy bT->Q v H'):AQ K [v1,v2] H Q E:=by
 show{v1,v2,cb,cy,bM,bT,9,q1,q2,i2,λH' r l gL bV s r0 l0 hr hl hp mb gp=>?_,λH' r p wQ g ks fs s r0 hr nR x t no=>?_}
 ·have ll:bV.length<=100:=by have h1:=map_len mb;have h2:=q2.good.len bT.length;rw[aT]at h2;have:=q2.l8;lia
  have lv:=a9 hp;show k _ H' s (.win r l gL 9 hr hl ∅ l0 ⟨r,gL,bV,rfl,hr,hl,hp,gp,ll,mb⟩ {_,U9 mb})
 ·show k _ H' s (.BW r p wQ fs 9 hr t.p0 t.ad (λe he=>{(t.en e he).1,(t.en e he).2.1}) {TF t x q1.good q1.l8,t.len,r,wQ,_,9,hr,nR,?_,λz hz=>?_,{dv g,(Nn (IJ t)).mpr x.one},λh hh=>?_} no)
  ·rw[ah];show q1.h4
  ·let(y,hy,rfl):=az.mp hz;show(x.aao (q1.hh y hy) (i1 y hy)).1
  ·show no _ (x.other i1 ((Nn (IJ t)).mp hh))
end
end oR
namespace aH
open PySem
section
variable{bP:io->Bool}{h1 h2 h3 hz:Aah}{A A' B C:List Atom}
def Led(bP:io->Bool)(h1:Aah)(A:List Atom)(h2:Aah)(B:List Atom):Prop:=∃h,h2.map (ap bP h)=h1/\Fits bP A h B
def acv{g h:io->io}(t:io):ap bP (λu=>ap bP g (h u)) t=ap bP g (ap bP h t):=by unfold ap;by_cases c:bP t=true<;>simp[c]
def Led.trans(x:Led bP h1 A h2 B)(y:Led bP h2 B h3 C):Led bP h1 A h3 C:=by
 let(g,eg,fg):=x;let(h,eh,fh):=y;have e:∀ts:Aah,ts.map (ap bP λu=>ap bP g (h u))=(ts.map (ap bP h)).map (ap bP g):=λts=>by rw[b8];show b4 λt _=>acv t
 show{_,by rw[e,eh,eg],λa ha=>by rw[e];show fg _ (fh a ha)}
def aaB(ts:Aah):ts.map (ap bP λu=>u)=ts:=by
 conv=>rhs;rw[<-uG ts]
 show b4 λt _=>by unfold ap;split<;>rfl
def Led.sub(s:∀b∈B,b∈A):Led bP hz A hz B:={λu=>u,aaB hz,λb hb=>by rw[aaB];show s b hb}
def Led.ne(x:Led bP h1 A h2 B)(n:B≠[]):A≠[]:=λe=>by
 let(h,__,f):=x;cases B with
 |nil=>show n rfl
 |cons b r=>
  have:=f b aw;rw[e]at this;cases this
def Min(bP:io->Bool)(hz:Aah)(A:List Atom):Prop:=∀p,p<A.length->¬Led bP hz (A.eraseIdx p) hz A
structure Th(bP:io->Bool)(hz:Aah)(A A':List Atom):Prop where
 sub:A'.Sublist A
 led:Led bP hz A' hz A
 min:Min bP hz A'
structure Walk(bP:io->Bool)(hz:Aah)(A:List Atom)(m:Nat)(C:List Atom):Prop where
 len:m<=C.length
 sub:C.Sublist A
 led:Led bP hz C hz A
 min:∀p,m<=p->p<C.length->¬Led bP hz (C.eraseIdx p) hz C
def Walk.start:Walk bP hz A A.length A:={au _,List.Sublist.refl _,Led.sub λ_ h=>h,λp h1 h2=>absurd h2 (pK.mpr h1)}
def Walk.keep{m:Nat}(x:Walk bP hz A (m+1) C)(n:¬Led bP hz (C.eraseIdx m) hz C):Walk bP hz A m C:=
 {Nat.le_of_succ_le x.len,x.sub,x.led,λp h1 h2=>by
  rcases Nat.eq_or_lt_of_le h1 with e|h1
  ·rw[<-e];show n
  ·show x.min p h1 h2}
theorem Wh{α:Type}:∀(l:List α){p q:Nat},p<=q->∀b∈(l.eraseIdx p).eraseIdx q,b∈l.eraseIdx (q+1)
 |[],_,_,_,b,h=>by simp at h
 |a::l,0,q,_,b,h=>by change b∈a::l.eraseIdx q;show ay _ h
 |a::l,p+1,0,h,_,_=>absurd h 58
 |a::l,p+1,q+1,h,b,hb=>by
  have hb:b∈a::(l.eraseIdx p).eraseIdx q:=hb;change b∈a::l.eraseIdx (q+1);rcases aN.mp hb with e|hb
  ·rw[e];show aw
  ·show ay _ (Wh l (Nat.le_of_succ_le_succ h) b hb)
def Walk.drop{m:Nat}(x:Walk bP hz A (m+1) C)(l:Led bP hz (C.eraseIdx m) hz C):Walk bP hz A m (C.eraseIdx m):=by
 have hl:=x.len;show{?_,(List.eraseIdx_sublist ..).trans x.sub,l.trans x.led,λp h1 h2 n=>?_}
 ·rw[j8 hl];lia
 ·rw[j8 hl]at h2;show x.min (p+1) (gY h1) ∅ ((Led.sub (Wh C h1)).trans (n.trans l))
def Walk.least(x:Walk bP hz A 0 C):Th bP hz A C:={x.sub,x.led,λp h=>x.min p (aJ _) h}
end
end aH
namespace L2
open PySem PySem.Spec PyProof.Rows
def WM(lo:Int)(n:Nat):It:={λi _=>i<n,λi H x H'=>H'=H/\x=.int (lo -i),λi _=>n<=i}
def Tz{P:dL}{w:i3}{K:Frag}{tg:u8}(it:bn)(lo:Int)(n:Nat):Turn P w K tg (WM lo n) [it] it (λi h=>XV h it (lo+(i:Nat)*(-1)) ((n:Int) -(i:Nat)) (-1)) where
 mem:=by simp
 obj:=λi h st b hb=>by
  have e:b=it:=by simpa using hb
  subst e;show{_,st,λv z=>by have z':Data.fields _=Data.cell v:=z;cases z'}
 keep:=λi h h' st k=>k it 58 _ st
 item:=by ext X hP hw hK hc i bi s Z H E I hf st hg;subst hP hw hK;let(f0,f1,f2,f3,f4,f5):=hf it 58;have W:=Walks.range (prog:=57) (w:=X.w) (I.ok.hd hc) it lo (-1) n;show W.item i s _ _ hg st λv h' tk hv lO kk=>?_;let(t,rfl):=hv;have I1:Inv X bi Z H {s with heap:=h',toks:=tk}:=I.turned (λb o hb e=>kk b o (by simpa using hb) e) f0 f1 f3 f4 f5;show{_,9,EJ (s:={s with heap:=h',toks:=tk}) (n:="range_iterator") lO rfl rfl 7 {.int (lo -i),H,I1,{t,?_},⟨rfl,rfl⟩,lO,λb hb=>(hf b hb).1}};rw[show lo+(i:Int)*(-1)=lo -i by lia]
 done:=by ext X hP hw hK hc i bi s Z H E I hf st hg;subst hP hw hK;let(f0,f1,f2,f3,f4,f5):=hf it 58;show yP (I.ok.hd hc) st (by have:n<=i:=hg;lia) λh' eb=>{9,I.turned (t':=s.toks) (λb o hb e=>eb b o hb e) f0 f1 f3 f4 f5}
 self:=λ_ _ _ _ _ st h=>yR st h
inductive aed(R:It->Hp->Prop)(vs:Aao)(H1:Hp):Prop
 |mk (i j:Int) (_:vs=[.int i,.int j,.int (-1)]) (_:(-1000<=i/\i<1000/\-1000<=j/\j<1000)) (_:R (WM i (i -j).toNat) H1)
def afG(ta:TA):TI:=λZ H R=>ta Z H λvs H1=>aed R vs H1
section
variable{X:Cx}{tg:u8}
def UB{a b c:u8}{ta:TA}{p pos:Fa}(hg:Gl X "range")(hm:X.mg "range"=none)(ha:PA X [a,b,c] ta)(hs:i6 [a,b,c] X.env=[(false,sn a X.env),(false,sn b X.env),(false,sn c X.env)]:=by rfl)(kJ:i6 [b,c] X.env=[(false,sn b X.env),(false,sn c X.env)]:=by rfl):
  PI X tg (.Call (.Name "range" p) [a,b,c] [] pos) (afG ta):=by
 ext bi s Z H R I h;show IF (rV I hg hm boot_range (eK (tH (ha pos bi s Z H _ I h) λus s1 vs H1 I1 r1 q1=>?_) (by rw[hs,kJ]) (by rw[kJ];rfl)));obtain⟨i,j,e,⟨q1,q2,q3,q4⟩,q⟩:=q1;subst e;cases r1 with
 |cons r rr=>
  cases rr with
  |cons r' rr=>
   cases rr with
   |cons r'' rr=>
    cases rr;let(t,rfl):=r;let(u,rfl):=r';let(v,rfl):=r'';show call_range_3 7 ?_ (.inl (PyProof.noPylong_small ∅));show Cq (IsRange.new ..) (PySem.W.small_down ∅ ∅ ∅ ∅) ?_;have I2:Inv X bi Z H1 {s1 with heap:=s1.heap.push {cls:=.type "range",data:=.fields #[.int i t,.int j u,.int (-1) v]},toks:=s1.toks}:=I1.kept λb o e=>aj _ e;show{_,[_],_,_,H1,9,I2.kept (t':=s1.toks) λb o e=>aj _ e,Tz _ i (i -j).toNat,?_,λb hb=>?_,q}
    ·change XV _ _ (i+((0:Nat):Int)*(-1)) ((((i -j).toNat:Nat):Int) -((0:Nat):Int)) (-1);rw[show i+((0:Nat):Int)*(-1)=i by simp,show(((i -j).toNat:Nat):Int) -((0:Nat):Int)=Builtin.Range.rangeSize i j (-1) by rw[PySem.W.rangeSize_downNat];simp];show aR _ rfl
    ·have e:b=_:=aA.mp hb;subst e;show I2.vi (au _) (I2.bK.fresh (au _))
def YO{lo:Int}{n:Nat}{g:TG}{tb:TS}{D:Ends}{Z:St}{H:Hp}(Pv:Nat->St->Hp->Prop)(h0:Pv 0 Z H)
  (hs:∀i Z H(D':Ends),i<n->Pv i Z H->(∀σ' H',Pv (i+1) σ' H'->D'.nx σ' H')->(∀v H',D.rt v H'->D'.rt v H')->g (.int (lo -i)) Z H λσ2 H2=>tb D' σ2 H2) (hd:∀Z H,Pv n Z H->D.nx Z H):
  ∃W:Nat->Nat->St->Hp->Prop,(∃m,W 0 m Z H)/\∀i m Z H,W i m Z H->
   ((WM lo n).stop i H/\D.nx Z H)\/((WM lo n).go i H/\∃N:St->Hp->Prop,(∀σ' H',N σ' H'->∃m',m'<m/\W (i+1) m' σ' H')/\∀x H',(WM lo n).Cn i H x H'->g x Z H' λσ2 H2=>tb {D with nx:=N,ct:=N,bk:=D.nx} σ2 H2):=by
 show{λi m Z H=>m=n -i/\i<=n/\Pv i Z H,{n,58,aJ _,h0},?_};ext i m Z H ⟨rfl,hi,p⟩;by_cases bN:i<n
 ·show .inr {bN,Pv (i+1),λσ' H' p'=>{n -(i+1),8,9,bN,p'},λx H' y=>?_};let(e,y):=y;subst e y;show hs i Z _ _ bN p (λ_ _ h=>h) λ_ _ h=>h
 ·have e:i=n:=by lia
  subst e;show .inl {au _,hd Z H p}
end
end L2
namespace oR
open PySem PySem.Spec PyProof.Rows L2 aH
seal L2.PE L2.PT L2.PW L2.PA L2.PS L2.qr L2.PI L2.PO L2.Lk L2.PG L2.ID
theorem Paired.erase{α β:Type}{F:α->β->Prop}:∀{l₁:List α}{aac:List β}(i:Nat),Paired F l₁ aac->Paired F (l₁.eraseIdx i) (aac.eraseIdx i)
 |_,_,_,.nil=>.nil
 |_,_,0,.cons _ t=>t
 |_,_,i+1,.cons a t=>.cons a (Paired.erase i t)
def Ext.of(s:aG H H'):Ext f H H':=λb o _ h=>s b o h
def Z0{H:Hp}{v:V}{hz nj:Aah}{aP:Aaa}(q:Ra H v hz aP)(l1:1<=aP.length)(l8:aP.length<=08)(g:GoodW nj aP)(hn:∀z∈nj,z∈eX)(h4:hz.length<=4)(ke:∀z∈hz,z∈bz aP):QW H v hz aP:=by
 have gt:pM aP:=λa ha=>by let(g1,g2,g3,g4):=g a ha;show{hn _ g1,g2,g3,λz hz=>(g4 z hz).elim ZA Cr}
 show{q,aJ _,l8,gt,h4,λz hz=>gt.flat (ke z hz)}
section
variable{K:Frag}
def Ex{a:bn}{H:Hp}{xs:Aao}{lo hi:Option Int}{Q:VK}(ha:H a=some (.tup xs))
  (k:∀(p:bn)(H':Hp),aG H H'->H' p=some (.tup (qH xs lo hi))->Q (.ref p) H'):adg K 68 lo hi H Q:=by
 show{a,xs,9,ba.of ha,λh=>?_,λh p hp=>k p _ (aD hp _) ar}
 ·show k a H (aG.refl H) ?_;unfold qH;rw[h.1,h.2,uh,Ec,aT];show ha
def Qb{a b:bn}{H:Hp}{xs ys:Aao}{Q:VK}(ha:H a=some (.tup xs))(hb:H b=some (.tup ys))(hl:96+ys.length<=1000)
  (k:∀(p:bn)(H':Hp),aG H H'->H' p=some (.tup (xs++ys))->Q (.ref p) H'):ZZ K 68 (.ref b) H Q:=by
 show{a,b,xs,ys,9,9,ba.of ha,ba.of hb,bE (bq hl),λh=>k b H (aG.refl H) (by rw[h,jY];show hb),λ_ h=>k a H (aG.refl H) (by rw[h,cZ];show ha),λ_ _ p hp=>k p _ (aD hp _) ar}
def LN.Yi{cb cy:Aah}{bM bT:Aaa}{g:cN}(im:LN cb bM cy bT g):Led bf cb bM cy bT:={_,im.led _ (aH.lK (h:=λu=>u) im.nd)}
variable{P:dL}{w:i3}{mg:Aad}{base:i5}
inductive Md(vs:Aao)(H:Hp)(Q:VK)(_x3:XK):Prop
 |mk (v:V) (hz:Aah) (aP:Aaa) (j:Nat) (_:vs=[v,.int (j:Int)]) (_:QW H v hz aP) (_:j<aP.length) (_:∀r H',aG H H'->QW H' (.ref r) hz (aP.eraseIdx j)->Q (.ref r) H')
def za:bX ["question","place","head","atoms"] ["question","place"] (bH AW):=gg 21
def Pe{f:bn}{fd:i8}(F:dH K "left_out" "left_out" AW f fd)(T:Txt K mg):cH P w K mg base dZ 1 f fd ["question","place"] Md:=by
 show F.ok za 71;obtain⟨v,hz,aP,j,rfl,⟨⟨q,hd,aa,fS,rfl,hq,ny,jt,fC⟩,l1,l8,good,h4,hh⟩,hj,k⟩:=h;have la:=a9 fC;show{_,(aB (CS (pv 0) (kG 9 (cn (gB 2 za) (cn (gB 3 za) gM)))) (aO (bJ (iq (cP (pv 2) (cL Qj (ia Eu (pv 3) jw (iH (pv 1))) (ia Eu (pv 3) (iH (cL iI (pv 1) aK)) jw))))))),?_}
 show{_,9,q,_,9,ba.of hq,9,_,_,9,_,_,9,9,?_};show{_,9,_,9,mj {_,9,_,9,Ex jt λp1 H1 s1 jB=>?_}};show{_,9,_,9,_,_,9,9,_,9,mj (Ex (s1 _ _ jt) λp2 H2 s2 iZ=>?_)};rw[uc]at jB;rw[show(j:Int)+1=((j+1:Nat):Int)from rfl,ub]at iZ;show Qb (s2 _ _ jB) iZ (by rw[aV,c9];lia) λp3 H3 s3 gE=>?_;rw[<-kS]at gE;show{83,λr hr=>?_};have s4:=aD hr (.tup [.ref hd,.ref p3]);have nO:=(s1.trans s2).trans (s3.trans s4);show k r _ nO {{r,hd,p3,_,9,ar,nO _ _ ny,s4 _ _ gE,Paired.erase j (dD.keep (cI.of nO) fC)},aJ _,by rw[BH];split<;>lia,λb hb=>good b (xK hb),h4,hh}
inductive PY(vs:Aao)(H:Hp)(Q:VK)(_x3:XK):Prop
 |mk (v:V) (hz:Aah) (aP:Aaa) (_:vs=[v]) (_:QW H v hz aP) (_:∀l zs H',aG H H'->H' l=some (.lst zs)->(zs=[]↔yO hz aP)->Q (.ref l) H')
structure Dlo(P:dL)(w:i3)(K:Frag)(mg:Aad)(base:i5):Prop where
 mV:b6 P w K mg base 2 "is_unknown" ["thing"] LD
 yV:b6 P w K mg base 3 "unknowns_of" ["question"] wc
def vA:bX ["question","bound"] ["question"] (bH qD):=gg 21
def X2{f:bn}{fd:i8}(F:dH K "loose_unknowns" "loose_unknowns" qD f fd)(T:Txt K mg)(D:Dlo P w K mg base):cH P w K mg base dZ 4 f fd ["question"] PY:=by
 show F.ok vA 71;let(v,hz,aP,rfl,qw,k):=h;show{_,(aB (ka (i:=1) vA.nd 9 (Or.inr 9) (cl D.yV hr (bR (pv 0)))) (aO (bJ (mL 9 (cR (fs:=["bound"]) (fr:=[1])) (il (bF bU (pv 0) aK (λ_ _=>9))) (λ_ _ _ _=>(PW.pt (Hk (eZ (cl D.mV hr (bR (pv 0)))) (Ez (bZ (ve) (pv 0) (pv 1) 86))))) (λ_ _ _ _=>(pv 0)))))),?_}
 show{_,9,v,hz,aP,9,qw,λr H4 qj nr NO=>?_};obtain⟨⟨q,hd,aa,fS,rfl,hq,ny,jt,fC⟩,l1,l8,good,h4,hh⟩:=qw;have lh:(hz.map V.str).length=hz.length:=ah _;show{_,9,_,_,_,_,9,9,ba.of (qj _ _ hq),9,hd,9,{_,ba.of (qj _ _ ny)},mW (λi ys H5=>aG H4 H5/\ys.length<=i/\(ys=[]↔yO (hz.take i) aP)) (by rw[lh];show bq ∅) {aG.refl H4,aJ _,{λ_ z ke=>(by cases ke),λ_=>9}} ?_ ?_ ?_}
 ·ext i ys H5 hi ⟨wD,hl,_⟩;show{ba.of (wD _ _ (qj _ _ ny)),8}
 ·ext i x ys H5 N hc ⟨wD,hl,iff⟩ hN;let(z,cb,rfl):=jy hc;have tk:hz.take (i+1)=hz.take i++[z]:=by rw[bh,cb];rfl
  show{_,9,z,9,bc (f7 (hh z (aE cb))).2.1 7,λH6 P4=>{_,9,?_}};have no:(bf z=true->z∈bz aP)->N ys H6:=λnU=>hN _ _ {wD.trans P4,by lia,iff.trans ⟨λh y hy=>by
   rw[tk]at hy;rcases aS.mp hy with q|q
   ·show h y q
   ·rw[aA.mp q];show nU,λh y hy=>h y (tk▸bu _ hy)⟩}
  show dI (λc4=>?_) (λc4=>fB (no λc=>absurd c c4));show{_,9,_,9,r,_,9,.inl (bg.of (P4 _ _ (wD _ _ NO))),9,xl _,_,9,?_};rw[wm];show dI (λc5=>{_,9,hN _ _ {wD.trans P4,aC▸sF hl 1,{λh=>absurd h 58,λh=>?_}}}) (λc5=>no λ_=>?_)
  ·have hm:=h z (by rw[tk];show bj _ (aA.mpr 9)) c4;have:z∈fA (bz aP):=mU.mpr ⟨hm,c4⟩;simp[this]at c5
  ·have:z∈fA (bz aP):=by simpa using c5
   show(mU.mp this).1
 ·ext ys H5 ⟨wD,_,iff⟩ l qZ;rw[lh,aT]at iff;show k l _ _ ((qj.trans wD).trans (aD qZ _)) ar iff
def Bnd(hz:Aah)(aP:Aaa):Prop:=aP≠[]/\yO hz aP
inductive ZM(vs:Aao)(H:Hp)(Q:VK)(_x3:XK):Prop
 |mk (v:V) (hz:Aah) (aP:Aaa) (_:vs=[v]) (_:QW H v hz aP) (_:∀b H',aG H H'->(b=true↔Bnd hz aP)->Q (.bl b) H')
structure Dbo(P:dL)(w:i3)(K:Frag)(mg:Aad)(base:i5):Prop where
 Jk:b6 P w K mg base 4 "loose_unknowns" ["question"] PY
def Pa:bX ["question"] ["question"] (bH A5):=gg 21
def Pg{f:bn}{fd:i8}(F:dH K "is_bound" "is_bound" A5 f fd)(T:Txt K mg)(D:Dbo P w K mg base):cH P w K mg base dZ 5 f fd ["question"] ZM:=by
 show F.ok Pa 71;let(v,hz,aP,rfl,qw,k):=h;show{_,(aO (bJ (uQ (jT RP (bD cJ 9 T.dR bC (bR (bF bU (pv 0) aK (λ_ _=>9)))) aK (cx _)) (wV (jT (wY hr.rE) (cl D.Jk hr (bR (pv 0))) (dS gS) (cx _)))))),?_};let(q,hd,aa,fS,rfl,hq,ny,jt,fC):=qw.at';show{_,9,_,_,_,_,9,9,ba.of hq,9,_,_,9,.inr {_,ba.of jt,9},_,_,9,9,_,9,?_};have la:=a9 fC;show dI (λc1=>?_) (λc1=>k _ H (aG.refl H) {λh=>(by cases h),λh=>absurd (bb ?_) c1})
 ·have c1:=aU c1;show{_,9,_,hz,aP,9,qw,λl zs H1 s1 hl iff=>?_};show{77,λe he=>?_};have s2:aG H1 (upd H1 e 70):=aD he _;show{l,e,zs,9,9,bg.of (s2 _ _ hl),bg.of ar,k _ _ (s1.trans s2) ?_};change zs.isEmpty=true↔_;rw[List.isEmpty_iff,iff];show⟨λh=>⟨λe=>by rw[e]at la;have la:fS.length=0:=la;lia,h⟩,λh=>h.2⟩
 ·let(b,r,e):=List.exists_cons_of_ne_nil h.1;rw[e]at la;rw[la];change(0:Int)<((r.length+1:Nat):Int);lia
inductive FX(K:Frag)(H:Hp)(v:V)(hz:Aah)(aP:Aaa)(j:Nat)(ad:Aaj):Prop
 |b7 (e:v=.b7) (nb:¬Bnd hz (aP.eraseIdx j)) (ea:ad=[])
 |BW (r p rw:bn) (fs:List En) (row:Aah) (er:v=.ref r) (hr:H r=some (.tup [.ref p,.ref rw])) (nR:H rw=some (.tup (row.map V.str))) (bd:Bnd hz (aP.eraseIdx j)) (tb:vm K H p fs) (lf:fs.length<=60) (lr:row.length<=4) (vr:∀z∈row,isVal z=true) (one:∃h,l5 row (DB fs) hz (aP.eraseIdx j) h) (other:∀h,¬l5 row (DB fs) hz aP h) (ea:ad=p::fs.map (·.ad))
def FX.same{H H':Hp}{v:V}{hz:Aah}{aP:Aaa}{j:Nat}{ad:Aaj}(x:FX K H v hz aP j ad)(s:aG H H'):FX K H' v hz aP j ad:=by
 cases x with
 |b7 e nb ea=>show .b7 e nb ea
 |BW r p rw fs row er hr nR bd tb lf lr vr one other ea=>show .BW r p rw fs row er (s _ _ hr) (s _ _ nR) bd (tb.same s) lf lr vr one other ea
inductive TY(K:Frag)(vs:Aao)(H:Hp)(Q:VK)(_x3:XK):Prop
 |mk (v:V) (hz:Aah) (aP:Aaa) (j:Nat) (_:vs=[v,.int (j:Int)]) (_:QW H v hz aP) (_:j<aP.length) (_:Min bf hz aP) (_:yO hz aP) (_:∀u ad H',aG H H'->FX K H' u hz aP j ad->ad.Nodup->(∀a∈ad,H a=none)->Q u H')
structure Dsh(P:dL)(w:i3)(K:Frag)(mg:Aad)(base:i5):Prop where
 Gs:b6 P w K mg base 1 "left_out" ["question","place"] Md
 Ys:b6 P w K mg base 5 "is_bound" ["question"] ZM
 within:b6 P w K mg base 26 "within" ["one","other"] (AQ K)
def IT:bX ["form","place","fewer","told"] ["form","place"] (bH Mr):=gg 21
def abw{f:bn}{fd:i8}(F:dH K "show" "show" Mr f fd)(T:Txt K mg)(D:Dsh P w K mg base):cH P w K mg base dZ 27 f fd ["form","place"] (TY K):=by
 show F.ok IT 71;let(v,hz,aP,j,rfl,qw,hj,mn,nU,k):=h;show{_,(aB (dW 2 IT (cl D.Gs hr (cP (pv 0) (pv 1)))) (aB (dg (gP (eZ (cl D.Ys hr (bR (pv 2))))) (aO (bJ gQ)) cm) (aB (dW 3 IT (cl D.within hr (cP (pv 2) (pv 0)))) (aO (bJ (iq (cP (bF bU (pv 3) aK (λ_ _=>9)) (bF bU (pv 3) aK (λ_ _=>9))))))))),?_}
 show{_,9,_,9,v,hz,aP,j,9,qw,hj,λr H1 s1 q1=>?_};show{_,9,_,hz,_,9,q1,λb H2 s2 iff=>{_,9,?_}};have qm:=s1.trans s2;show dI (λc=>k _ [] _ qm (.b7 9 (λh=>by rw[iff.mpr h]at c;cases c) rfl) dq λa h=>(by cases h)) (λc=>?_);have bd:=iff.mp (by simpa using c);show{_,9,_,9,?_};show JV (q1.keep (cI.of s2)) (qw.keep (cI.of qm)) bd.2 nU λu H3 s3 t=>?_;cases t with
 |win r l gL er De hl lp l0 wi yes=>show absurd yes (mn j hj)
 |BW r3 p wQ fs er De p0 ad en wp no=>
  let(tb,lf,r',qR,row,er',g1,g2,lr,vr,one,other):=wp;subst er;cases er';rw[De]at g1;cases g1;show{_,9,_,_,_,_,9,9,ba.of De,9,_,9,_,_,_,_,9,9,ba.of De,9,83,λr4 NO=>?_};have s4:=aD NO (.tup [.ref p,.ref wQ]);have z0:∀{b:bn},H2 b=none->H b=none:=λ{b} q=>qm.free q;show k _ (p::fs.map (·.ad)) _ (qm.trans (s3.trans s4)) (.BW r4 p wQ fs row 9 ar (s4 _ _ g2) bd (tb.same s4) lf lr vr one other 9) (cY.mpr {λh=>?_,ad}) λa ha=>?_
  ·let(e,he,q):=az.mp h;show(en e he).2 q
  ·rcases aN.mp ha with q|q
   ·rw[q];show z0 p0
   ·let(e,he,rfl):=az.mp q;show z0 (en e he).1
inductive T3(vs:Aao)(H:Hp)(Q:VK)(_x3:XK):Prop
 |mk (v:V) (hz:Aah) (aP:Aaa) (_:vs=[v]) (_:QW H v hz aP) (_:∀f de H',aG H H'->QW H' f hz de->Th bf hz aP de->Q f H')
structure Dfo(P:dL)(w:i3)(K:Frag)(mg:Aad)(base:i5):Prop where
 Gs:b6 P w K mg base 1 "left_out" ["question","place"] Md
 DC:b6 P w K mg base 25 "found_map" ["one","other"] IS
def m9:bX ["question","form","place","fewer"] ["question"] (bH wK):=gg 21
def Lu{f:bn}{fd:i8}(F:dH K "least_form" "least_form" wK f fd)(T:Txt K mg)(D:Dfo P w K mg base):cH P w K mg base dZ 26 f fd ["question"] T3:=by
 show F.ok m9 71;let(v,hz,aP,rfl,qw,k):=h;show{_,(aB (dW 1 m9 (pv 0)) (aB (dM bG 9 (UB 9 T.kZ (lQ (cL adA (bD cJ 9 T.dR bC (bR (bF bU (pv 0) aK (λ_ _=>9)))) aK) (Z3 Tv aK) (Z3 Tv aK))) (gB 2 m9) (aB (dW 3 m9 (cl D.Gs hr (cP (pv 1) (pv 2)))) (aO (dg (bZ wg (cl D.DC hr (cP (pv 3) (pv 1))) gQ (cx _)) (aO (dW 1 m9 (pv 3))) cm)))) (aO (bJ (pv 1))))),?_}
 let(q,hd,aa,fS,rfl,hq,ny,jt,fC):=qw.at';have la:=a9 fC;have l8:=qw.l8;show{_,9,?_};show{_,9,_,_,_,_,9,9,ba.of hq,9,_,_,9,.inr {_,ba.of jt,9},_,_,9,9,_,9,_,9,_,_,9,{8,8,7,7},YO (λi Z H2=>∃(f:V)(cur:Aaa)(x2 x3:Aap),Z=[some (.ref q),some f,x2,x3]/\aG H H2/\QW H2 f hz cur/\Walk bf hz aP (aP.length -i) cur) {_,_,_,_,9,aG.refl H,qw,Walk.start} ?_ ?_}
 ·ext i Z H2 D' hi ⟨f,cur,x2,x3,rfl,s2,q2,wk⟩ hD _;obtain⟨m,em⟩:∃m,aP.length -i=m+1:={aP.length -i -1,8};rw[em]at wk;have ei:aP.length -(i+1)=m:=by lia
  show{_,9,_,9,f,hz,cur,m,by rw[show((fS.length:Int) -1 -(i:Int))=(m:Int) by lia];rfl,q2,wk.len,λr H3 s3 q3=>?_};have uO:=s2.trans s3;have q23:=q2.keep (cI.of s3);show{_,9,_,9,_,f,hz,hz,_,cur,9,q3,q23,λH4 s4 no=>{9,_,9,fB (hD _ _ {_,_,_,_,9,uO.trans s4,q23.keep (cI.of s4),?_})},λH4 d g s4 HP im=>{9,_,9,ml {_,9,hD _ _ {_,_,_,_,9,uO.trans s4,q3.keep (cI.of s4),?_}}}}
  ·rw[ei];show wk.keep λ⟨h,hh⟩=>no h hh
  ·rw[ei];show wk.drop im.Yi
 ·ext Z H2 ⟨f,cur,x2,x3,rfl,s2,q2,wk⟩;rw[show aP.length -((fS.length:Int) -1 -(-1)).toNat=0 by lia]at wk;show{_,9,k f cur H2 s2 q2 wk.least}
structure OV(K:Frag)(H0 H:Hp)(ys:Aao)(hz:Aah)(aP:Aaa)(n:Nat)(gj:List (Aaj)):Prop where
 len:gj.length=n
 ly:ys.length=n
 at_:∀(j:Nat) u ad,ys[j]?=some u->gj[j]?=some ad->FX K H u hz aP j ad
 nd:gj.flatten.Nodup
 fr:∀a∈gj.flatten,H0 a=none
 old:∀a∈gj.flatten,∃o,H a=some o
def FX.old{H:Hp}{v:V}{hz:Aah}{aP:Aaa}{j:Nat}{ad:Aaj}(x:FX K H v hz aP j ad):∀a∈ad,∃o,H a=some o:=λa ha=>by
 cases x with
 |b7 e nb ea=>rw[ea]at ha;cases ha
 |BW r p rw fs row er hr nR bd tb lf lr vr one other ea=>
  rw[ea]at ha;rcases aN.mp ha with q|q
  ·rw[q];show{_,tb.at_}
  ·let(e,he,rfl):=az.mp q;show{_,(tb.en e he).2.1}
def OV.same{H0 H H':Hp}{ys:Aao}{hz:Aah}{aP:Aaa}{n:Nat}{gj:List (Aaj)}(x:OV K H0 H ys hz aP n gj)(s:aG H H'):OV K H0 H' ys hz aP n gj:=
 {x.len,x.ly,λj u ad h1 h2=>(x.at_ j u ad h1 h2).same s,x.nd,x.fr,λa ha=>let⟨o,h⟩:=x.old a ha;{o,s _ _ h}}
structure Rb(K:Frag)(H0 H:Hp)(r:bn)(f:V)(fl l:bn)(gL:Aao)(bV:cN)(ys:Aao)(gj:List (Aaj))(hz:Aah)(aP de:Aaa):Prop where
 hr:H r=some (.tup [f,.ref fl,.ref l])
 fl0:H0 fl=none
 xh:H fl=some (.lst gL)
 pr:xD H gL bV
 gp:ET bV
 lp:bV.length<=100
 mb:tT hz de hz aP bV=true
 l0:H0 l=none
 Qo:fl≠l
 hl:H l=some (.lst ys)
 sw:OV K H0 H ys hz de de.length gj
 DD:∀a∈gj.flatten,a≠fl/\a≠l
 qf:QW H f hz de
 nU:yO hz de
 ls:Th bf hz aP de
def Rb.same{H0 H H':Hp}{r:bn}{f:V}{fl l:bn}{gL:Aao}{bV:cN}{ys:Aao}{gj:List (Aaj)}{hz:Aah}{aP de:Aaa}(x:Rb K H0 H r f fl l gL bV ys gj hz aP de)(s:aG H H'):Rb K H0 H' r f fl l gL bV ys gj hz aP de:=
 {s _ _ x.hr,x.fl0,s _ _ x.xh,x.pr.keep (cI.of s),x.gp,x.lp,x.mb,x.l0,x.Qo,s _ _ x.hl,x.sw.same s,x.DD,x.qf.keep (cI.of s),x.nU,x.ls}
inductive IQ(K:Frag)(vs:Aao)(H:Hp)(Q:VK)(_x3:XK):Prop
 |mk (v:V) (hz:Aah) (aP:Aaa) (_:vs=[v]) (_:QW H v hz aP) (_:yO hz aP) (_:∀H' r f fl l gL bV ys gj de,aG H H'->Rb K H H' r f fl l gL bV ys gj hz aP de->Q (.ref r) H')
structure ahU(P:dL)(w:i3)(K:Frag)(mg:Aad)(base:i5):Prop where
 Sd:b6 P w K mg base 26 "least_form" ["question"] T3
 within:b6 P w K mg base 26 "within" ["one","other"] (AQ K)
 «show»:b6 P w K mg base 27 "show" ["form","place"] (TY K)
def adY{hz:Aah}{aP de:Aaa}(l:Led bf hz de hz aP)(h:yO hz aP):yO hz de:=λz ke c=>by let(g,e,f):=l;let(a,ha,hza):=gF.mp (h z ke c);have eg:ap bf g z=z:=E8.mp (e.trans (uG hz).symm) z ke;show gF.mpr {_,f a ha,?_};rw[<-eg];show bI hza
def F7:bX ["question","form","fold"] ["question"] (bH IV):=gg 21
def X3{f:bn}{fd:i8}(F:dH K "least" "least" IV f fd)(T:Txt K mg)(D:ahU P w K mg base):cH P w K mg base dZ 28 f fd ["question"] (IQ K):=by
 show F.ok F7 71;let(v,hz,aP,rfl,qw,nU,k):=h;show{_,(aB (ka (i:=1) F7.nd 9 (Or.inr 9) (cl D.Sd hr (bR (pv 0)))) (aB (dW 2 F7 (bF bU (cl D.within hr (cP (pv 1) (pv 0))) aK (λ_ _=>9))) (aO (bJ (iq (lQ (pv 1) (pv 2) (je 9 (cR (fs:=["form"]) (fr:=[1])) (jL 9 T.kZ (bR (bD cJ 9 T.dR bC (bR (bF bU (pv 1) aK (λ_ _=>9)))))) (λ_ _ _ _=>(cl D.show hr (cP (pv 1) (pv 0))))))))))),?_}
 show{_,9,v,hz,aP,9,qw,λf de H1 s1 q1 ls=>?_};have YB:=adY ls.led nU;show{_,9,_,9,?_};show JV q1 (qw.keep (cI.of s1)) YB nU λu H2 s2 t=>?_;cases t with
 |BW r p rw fs er pR p0 ad en w no=>show absurd ls.led λ⟨h,hh⟩=>no h hh
 |win r2 fl gL er h2 xh lp l0 wi yes=>
  subst er;let(r',ah4,bV,er',g1,g2,QG,gp,ll,mb):=wi.at_;cases er';rw[xh]at g2;cases g2;show{_,_,_,_,9,9,ba.of h2,9,?_};have qm:=s1.trans s2;have Z1:=q1.keep (cI.of s2);let(q,hd,aa,fS,rfl,hq,ny,jt,fC):=Z1.at';have la:=a9 fC;have l8:=Z1.l8;show{_,9,_,9,_,9,_,_,_,_,9,9,ba.of hq,9,_,_,9,.inr {_,ba.of jt,9},_,9,8,8,λj m ys H3=>j<=de.length/\m=de.length -j/\aG H2 H3/\∃gj,OV K H2 H3 ys hz de j gj,{_,aJ _,9,aG.refl _,[],9,9,λj u ad h=>(by simp at h),dq,λa h=>(by cases h),λa h=>(by cases h)},?_};ext j m ys H3 ⟨hj,rfl,s3,gj,sw⟩;have ly:=sw.ly;by_cases bN:j<de.length
  ·show .inr {by change j<((fS.length:Int)).toNat;lia,bq ∅,?_};ext u H4 ⟨rfl,rfl⟩;show{_,9,_,9,_,hz,de,j,by rw[mI];rfl,Z1.keep (cI.of s3),bN,ls.min,YB,λu ad H5 s5 sh nda fra=>{de.length -(j+1),8,bN,9,s3.trans s5,gj++[ad],?_}};have sw5:=sw.same s5;show{by rw[aC,sw.len];rfl,by rw[aC,ly];rfl,λi x a h1 h2=>?_,?_,λa ha=>?_,λa ha=>?_}
   ·by_cases ci:i<j
    ·rw[gH ∅]at h1;rw[gH (sw.len▸ci)]at h2;show sw5.at_ i x a h1 h2
    ·rw[eW ∅,ly]at h1;rw[eW (by rw[sw.len];lia),sw.len]at h2;have ei:i=j:=by have:=(aq.mp h1).1;simp at this;lia
     subst ei;rw[xH]at h1 h2;cases h1;cases h2;show sh
   ·rw[nM,qx];show eR.mpr {sw.nd,nda,λa ha b hb e=>?_};let(o,h):=sw.old a ha;rw[e,fra b hb]at h;cases h
   ·rw[nM,qx]at ha;rcases aS.mp ha with h|h
    ·show sw.fr a h
    ·show s3.free (fra a h)
   ·rw[nM,qx]at ha;rcases aS.mp ha with h|h
    ·show sw5.old a h
    ·show sh.old a h
  ·show .inl {by change((fS.length:Int)).toNat<=j;lia,bE (bq ∅),λl hl=>?_};show{(by change 3<=ca;decide),λr hr=>?_};have s5:=aD hr (.tup [.ref q,.ref fl,.ref l]);have s45:=(aD hl _).trans s5;have sS:=s3.trans s45;have ej:j=de.length:=by lia
   subst ej;have TM:=sw.same s45;show k _ r _ fl l gL bV ys gj de (qm.trans sS) {ar,s1.free l0,sS _ _ xh,QG.keep (cI.of sS),gp,ll,mb,(qm.trans s3).free hl,bw (s3 _ _ xh) hl,s5 _ _ ar,{TM.len,TM.ly,TM.at_,TM.nd,λa ha=>qm.free (sw.fr a ha),TM.old},λa ha=>{(bw xh (sw.fr a ha)).symm,by
    let(o,h):=sw.old a ha;show bw h hl},Z1.keep (cI.of sS),YB,ls}
end
end oR
namespace Tb
open PySem PySem.SetTable PyProof.Rows L2
section
variable{prog:dL}{w:i3}{A:mo}{E:Aae}{s:cr}
def D4.put{h:i5}{a:bn}{o:G'}{es uV:Array (Int×f')}{ep:Nat}{t t':SetTable}{ys:List (io×P3)}(ob:h.get? a=some o)(ex:o.ExactSet)(hd:o.data=.set es ep t)(en:uV.toList=ys.map (GB prog w))(kL:ys.length<=1000)(fits:t'.fits uV.size=true)(pl:t'.plain=false)(led:t'.led=nL w):D4 prog w (h.update a (Obj.putSet uV t')) a {o with data:=.set uV (ep+1) t'} uV (ep+1) t' ys:=by have:=dU (Obj.putSet uV t') ob (by rw[uP _ t' hd];rfl);rw[uP _ t' hd]at this;show{this,ex,9,en,kL,fits,.inl pl,led}
def PH{b:Bool}{Q:Unit->cr->Prop}{s:cr}(q:Q () s):fv 24 A (match b with|true=>V' "set.scan.the-table-gave-way"|false=>pure ()) Q E s:=by
 cases b
 ·show ao q
 ·show iW q
def qa{a:bn}{o:G'}{es:Array (Int×f')}{ep:Nat}{t:SetTable}{xs:List (io×P3)}{z:io}{tk:P3}{Q:Bool->cr->Prop}(S:D4 prog w s.heap a o es ep t xs)(hx:96<1000)
  (h1:z∈xs.map (·.1)->Q false s) (h2:z∉xs.map (·.1)->∀h' o' uV vI t' ys,Heap.SameBut a s.heap h'->D4 prog w h' a o' uV vI t' ys->ys.Perm ((z,tk)::xs)->Q true {s with heap:=h'}):
  fv 24 A (setAddHashed a (.str z tk) ((strKind prog w).hash z)) Q E s:=by
 have Dj:=aeJ S.en;have sz:67=96:=by rw[<-bB,S.en,ah]
 have ism:∀e∈xs,(strKind prog w).is z (GB prog w e).2=true↔z=e.1:=λe _=>{λq=>(strKind prog w).inj _ _ _ q (oX _ _ _ _),λq=>by rw[q];show oX _ _ _ _};show b5 (ae (pY S.ob S.data S.fits ?_));dsimp only;rw[byScan_of rfl (by unfold scanBound;lia) Dj,aL rfl];show ae (ae (iW (ae (wpAny_setScan_of (oX _ _ _ _) S.ob S.data S.fits Dj ?_))));cases hr:es.toList.findIdx? (λe=>(strKind prog w).is z e.2)with
 |some j=>
  let(hj,pj,__):=List.findIdx?_eq_some_iff_getElem.mp hr;show ao (ao (h1 ?_));have:es.toList[j]∈xs.map (GB prog w):=S.en▸jA hj;let(e,he,q):=az.mp this;rw[<-q]at pj;show az.mpr {e,he,((ism e he).mp pj).symm}
 |none=>
  have no:z∉xs.map (·.1):=λq=>by let(e,he,q):=az.mp q;have:=List.findIdx?_eq_none_iff.mp hr (GB prog w e) (by rw[S.en];show az.mpr ⟨e,he,rfl⟩);rw[(ism e he).mpr q.symm]at this;cases this
  have lp:=layNew_perm t es ((strKind prog w).hash z) (.str z tk);have lf:=layNew_fits t es ((strKind prog w).hash z) (.str z tk);have ll:=abR t es ((strKind prog w).hash z) (.str z tk);generalize layNew t es ((strKind prog w).hash z) (.str z tk)=L at lp lf ll⊢;let(sW,t1,wd,gv):=L;have e1:(es.push ((strKind prog w).hash z,.str z tk)).toList=(xs++[(z,tk)]).map (GB prog w):=by rw[vP,S.en,aF];rfl
  rw[e1]at lp;let(ys,py,ey):=wU lp rfl;have ly:ys.length=96+1:=by rw[py.length_eq,aC];rfl
  have pz:=py.trans (List.perm_append_singleton _ _);have s1:sW.size=ys.length:=by rw[<-bB,ey,ah]
  show ae (PH ?_);have fin:∀t2:SetTable,t2.fits sW.size=true->t2.plain=false->t2.led=nL w->fv 24 A (do
    storeSet a sW t2
    if(!wd&&t2.tooFull)=true then do
      (match(relayAll t2 sW (SetTable.grown sW.size)).2.2 with|true=>V' "set.scan.the-table-gave-way"|false=>pure ())
      storeSet a (relayAll t2 sW (SetTable.grown sW.size)).1 (relayAll t2 sW (SetTable.grown sW.size)).2.1
      pure (some true)
     else pure (some true)) (λr s'=>fv 24 A (match r with|some added=>pure added|none=>setAddHashedIn a (.str z tk) ((strKind prog w).hash z) 99999) Q E s') E s:=λt2 f2 p2 l2=>by
   have S2:=D4.put S.ob S.ex S.data ey ∅ f2 p2 l2;have sb:=cj s.heap a (Obj.putSet sW t2);show ae (pX S.ob S.data ?_ (by rw[s1,bW];lia));split
   ·have rp:=relayAll_perm t2 sW (SetTable.grown sW.size);have rf:=relayAll_fits t2 sW (SetTable.grown sW.size);let(rl,rq):=Uo t2 sW (SetTable.grown sW.size) p2;generalize relayAll t2 sW (SetTable.grown sW.size)=L at rp rf rl rq⊢;let(es2,t3,g2):=L;rw[ey]at rp;let(vs,pv,ev):=wU rp rfl;show ae (PH (ae (pX S2.ob 9 (ao (ao (h2 no _ _ _ _ _ vs (sb.trans (cj _ a _)) (D4.put S2.ob S2.ex 9 ev (by rw[pv.length_eq];lia) rf rq (rl.trans l2)) (pv.trans pz)))) (by rw[<-bB,ev,ah,pv.length_eq,bW];lia))))
   ·show ao (ao (h2 no _ _ _ _ _ ys sb S2 pz))
  by_cases c:t1.plain=true
  ·rw[aL c];show ae ?_;show ao (fin {t1 with plain:=false} lf 9 (ll.trans S.led))
  ·rw[aI c];show ae (ao (fin t1 lf (ie.mpr c) (ll.trans S.led)))
end
end Tb
namespace L2
open PySem PySem.Spec PyProof.Rows uY
def ER(P:dL)(w:i3)(a:bn)(ks:Aah):i5->Prop:=λh=>∃o es ep t xs,Tb.D4 P w h a o es ep t xs/\xs.map (·.1)=ks
def Xk{P:dL}{w:i3}{H:Hp}{h:i5}{a:bn}{ks:Aah}(x:ER P w a ks h):dG P w H h a (.ext (ER P w a ks)):=
 {x,let⟨o,_,_,_,_,S,_⟩:=x;{o,S.ob},λ_ _ ⟨o,es,ep,t,xs,S,e⟩ k=>{o,es,ep,t,xs,{k _ S.ob,S.ex,S.data,S.en,S.kL,S.fits,S.pl,S.led},e}}
section
variable{X:Cx}
def ac1{zs:Aah}{us:Aag}(h:Wp us zs):∀{i:Nat}{v:f'},us[i]?=some v->∃z t,zs[i]?=some z/\v=.str z t:=by
 induction h with
 |nil=>ext i v h;cases h
 |cons z t _ ih=>
  ext i v h;cases i with
  |zero=>cases h;show⟨z,t,rfl,rfl⟩
  |succ i=>show ih h
def S6(hA:X.A.handled=none):gJ X (.type "set") (λxs H Q=>∃(p:bn)(zs:Aah),xs=[.ref p]/\bg X.K H p (zs.map V.str)/\zs.length<=1000/\∀a ks,H a=none->ks.Nodup->(∀z,z∈ks↔z∈zs)->Q 68 (upd H a (.ext (ER 57 X.w a ks)))):=by
 ext bi s Z H xs us Q I r h;let(p,zs,rfl,hq,hz,q):=h;let(u,rfl,rx):=jn r;cases rx;let(aY,r',pl,__):=I.list hq;have hS:=F4 r';have ln:aY.length=zs.length:=by have:=r'.length;rw[ah]at this;show this.symm
 show Tb.K8 (λi h=>∃(o:G')(es:Array (Int×f'))(ep:Nat)(t:SetTable)(xs:List (io×P3)),Tb.D4 57 X.w h 17 o es ep t xs/\(xs.map λx:io×P3=>x.1).Nodup/\(∀z,z∈(xs.map λx:io×P3=>x.1)↔z∈zs.take i)/\96<=i) hA (.inl pl.isList) (λi h h' ⟨o,es,ep,t,xs,S,r⟩ q=>{o,es,ep,t,xs,{q _ _ (aW (dJ _)) S.ob,S.ex,S.data,S.en,S.kL,S.fits,S.pl,S.led},r}) (λi v s' Q E hv ⟨o,es,ep,t,xs,S,nd,mm,le⟩ k=>?_) (λo=>{_,_,_,_,[],{aj _ (aR _ 9),⟨rfl,rfl,rfl⟩,9,9,aJ _,9,.inr rfl,9},.nil,λz=>by rw[mF];show ES,au _}) λh' tk ⟨o,es,ep,t,xs,S,nd,mm,_⟩ kp=>{.ref 17,_,I.laid (t':=tk) kp (au _) (Xk ⟨o,es,ep,t,xs,S,rfl⟩),9,q _ _ (I.bK.fresh (au _)) nd λz=>?_}
 ·let(z,t',ke,rfl):=ac1 hS (by simpa using hv);have hi:=(aq.mp ke).1;have et:zs.take (i+1)=zs.take i++[z]:=by rw[bh,ke];rfl
  unfold setAdd;show b5 (ae ((strKind 57 X.w).pyHash (k:=z) (oX _ _ _ _) ?_));show Tb.qa (s:={s' with toks:=s'.toks+1}) S ∅ (λm=>?_) λm h' o' uV vI t2 ys sb S2 py=>?_
  ·show k _ s'.heap _ (d8 _) (vN _ _) {o,es,ep,t,xs,S,nd,λy=>?_,lY le};rw[et,aS,<-mm,aA];show{.inl,λc=>c.elim id λe=>e▸m}
  ·have pm:=py.map (·.1);show k _ h' _ (d8 _) sb {o',uV,vI,t2,ys,S2,pm.nodup_iff.mpr (cY.mpr ⟨m,nd⟩),λy=>?_,by rw[py.length_eq,bx];lia};rw[et,aS,<-mm,aA,pm.mem_iff,bo,aN];show Or.comm
 ·rw[mm,aQ,ln,aT]
end
end L2
namespace L2
open PySem PySem.Spec PyProof.Rows
def Iz(r d:bn):i5->Prop:=λh=>h.IsValuesView r d
def acF{P:dL}{w:i3}{H:Hp}{h:i5}{r d:bn}(x:Iz r d h):dG P w H h r (.ext (Iz r d)):=
 {x,let⟨o,q,_⟩:=x;⟨o,q⟩,λ_ _ ⟨o,q,z⟩ k=>{o,k _ q,z}}
inductive acN(Q:VK)(x:V)(H1:Hp):Prop
 |mk d kvs (_:x=.ref d) (_:H1 d=some (.dK kvs)) (_:∀p,H1 p=none->Q (.ref p) (upd H1 p (.ext (Iz p d))))
def afb(td:TE):TE:=λZ H Q=>td Z H λx H1=>acN Q x H1
def UE{X:Cx}{AT fH:Fa}{l:u8}{tl:TE}(hl:PE X l tl)(Bm:wf l "values" X.env (sn l X.env)=sn l X.env:=by rfl)(Bl:(AT.endLine==fH.line)=true:=by rfl):
  PE X (.Call (.Attribute l "values" AT) [] [] fH) (afb tl):=by
 ext bi s Z H R I h;show pO Bm Bl (da (hl bi s Z H _ I h) λv s1 x H1 I1 r1 q1=>?_);let(d,kvs,e,hd,q):=q1;subst e;cases r1;let(hz,lo,vs,rel,o,es,ep,m):=uE I1.bK hd;have at':s1.heap.DictAt (bS 57 X.w) d vs ep:=⟨o,es,m⟩;let(lo',o',uV,vI,ga,m'):=EL (I1.bK d _ hd) (.inl ⟨kvs,rfl,rfl⟩);show{"dict","dict.values",dY,xC,PySem.F.type_dict_values,at'.dictOf.typeIs,λb q=>?_,fD rfl (sX ?_)}
 ·cases q;show{o',ga,m'.1.2.1}
 ·show jN xC at'.dictOf.typeIs PySem.F.entry_dict_values (PySem.F.args_dict_values_1 _) (meets_dict_values (bS 57 X.w) d lo) {{vs,at'.dictOf},?_};show{.ref 75,_,I1.laid (t':=s1.toks) (λb o e=>aj _ e) (au _) (acF {_,aR _ rfl,9,9}),9,q _ (I1.bK.fresh (au _))}
def Il{X:Cx}(hA:X.A.handled=none):gJ X (.type "list") (λxs H Q=>∃(r d:bn)(kvs:List (Key×V)),xs=[.ref r]/\H r=some (.ext (Iz r d))/\H d=some (.dK kvs)/\∀l,H l=none->Q (.ref l) (upd H l (.lst (kvs.map (·.2))))):=by
 ext bi s Z H xs us Q I r h;let(v,d,kvs,rfl,hv,hd,q):=h;let(u,rfl,ru):=jn r;cases ru;let(iv,__):=(show dG 57 X.w H s.heap v (.ext (Iz v d))from I.bK v _ hv);let(hz,lo,vs,rel,o,es,ep,m):=uE I.bK hd;have at':s.heap.DictAt (bS 57 X.w) d vs ep:=⟨o,es,m⟩;have hl:kvs.length=vs.length:=rel.length;have hs:vs.length<=ca:=by rw[<-hl];show hz
 show PySem.W.kdl_call (PySem.W.kdl_values (knd:=bS 57 X.w) (kvs:=vs) (ep:=ep)) hA ⟨iv,at'⟩ hs λh' tk acc c kp gl Sw=>?_;have ea:acc.toList=vs.map (·.2):=PySem.W.kdl_vals_eq acc.toList (by rw[bB];show Sw.1) λj v e=>Sw.2 j v (by rw[<-df];show e);have rv:∀{l:List (Key×V)}{m:List (Key×f')},KV l m->Vals (l.map (·.2)) (m.map (·.2)):=λr=>by
  unfold KV at r
  induction r with
  |nil=>show .nil
  |cons h _ ih=>show .cons h.2 ih
 show{.ref 17,_,I.laid (t':=tk) kp (au _) (o:=.lst (kvs.map (·.2))) {by rw[ah,hl];show hs,vs.map (·.2),c,rv rel,by rw[<-ea];show gl},9,q _ (I.bK.fresh (au _))}
def S7{X:Cx}:gJ X (.builtin "len") (λxs H Q=>∃a ks,xs=[V.ref a]/\H a=some (.ext (ER 57 X.w a ks))/\Q (.int ks.length) H):=by
 ext bi s Z H xs us Q I r h;let(a,ks,rfl,ha,q):=h;let(u,rfl,ru):=jn r;cases ru;obtain⟨⟨o,es,ep,t,xs,S,rfl⟩,_⟩:=(show dG 57 X.w H s.heap a (.ext (ER 57 X.w a ks))from I.bK a _ ha);have sz:67=(xs.map (·.1)).length:=by rw[<-bB,S.en,ah,ah]
 rw[<-sz]at q;have:=S.kL;rw[ah]at sz;show call_len_set S.ob S.ex S.data S.fits ∅ {.int 67,H,I.tok _,⟨_,rfl⟩,q}
end L2
namespace oR
open PySem PySem.Spec PyProof.Rows L2 aH
seal L2.PE L2.PT L2.PW L2.PA L2.PS L2.qr L2.PI L2.PO L2.Lk L2.PG L2.ID
theorem Paired.take{α β:Type}{F:α->β->Prop}:∀{l₁:List α}{aac:List β}(i:Nat),Paired F l₁ aac->Paired F (l₁.take i) (aac.take i)
 |_,_,0,_=>by rw[mF,mF];show .nil
 |_,_,_+1,.nil=>.nil
 |_,_,i+1,.cons a t=>.cons a (Paired.take i t)
theorem Paired.drop{α β:Type}{F:α->β->Prop}:∀{l₁:List α}{aac:List β}(i:Nat),Paired F l₁ aac->Paired F (l₁.drop i) (aac.drop i)
 |_,_,0,h=>h
 |_,_,_+1,.nil=>.nil
 |_,_,i+1,.cons _ t=>Paired.drop i t
def Paired.ins{α β:Type}{F:α->β->Prop}{l₁:List α}{aac:List β}{a:α}{b:β}(i:Nat)(h:Paired F l₁ aac)(q:F a b):Paired F (l₁.take i++a::l₁.drop i) (aac.take i++b::aac.drop i):=Paired.app (Paired.take i h) (.cons q (Paired.drop i h))
def abV{α:Type}{l:List α}{i:Nat}{a x:α}(h:x∈l.take i++a::l.drop i):x∈l\/x=a:=by
 rcases aS.mp h with h|h
 ·show .inl (kr h)
 ·rcases aN.mp h with h|h
  ·show .inr h
  ·show .inl (List.mem_of_mem_drop h)
def abW{α:Type}{l:List α}{i:Nat}{a:α}:(l.take i++a::l.drop i).length=l.length+1:=by rw[aC,bx,aV,c9];lia
def abK{α:Type}{l:List α}{i:Nat}{a b:α}(h:b∈l\/b=a):b∈l.take i++a::l.drop i:=by
 rcases h with h|h
 ·rw[<-jX i l]at h;rcases aS.mp h with h|h
  ·show bu _ h
  ·show bj _ (ay _ h)
 ·rw[h];show bj _ aw
def aaA:Aah:=kX++eX
def qS(k:Nat):io:=("?q":io)++Str.ofString (toString (0+(k:Int)))
def qU(k:Nat)(u:io):io:=qS k++Txt.slice u (some 1) (some 5)
def adz(k:Nat):Aah:=qS k::kX.map (qU k)
def ady:((List.range 3).all λk=>(adz k).all λz=>bf z&&decide (z.length<=100)&&PyData.strOk z)=true:=by decide+kernel
def OQ:((eX.all λz=>!bf z)&&(kX.all λz=>decide (z.length<=100)))=true:=by decide+kernel
def Hq{k:Nat}(hk:k<3){z:io}(h:z∈adz k):z∈p9:=by have:=bt.mp (bt.mp ady k (cw.mpr hk)) z h;simp only[bQ,iJ]at this;obtain⟨⟨h1,h2⟩,h3⟩:=this;show{by unfold kE;rw[h1,Eo],h2,h3}
def WD{z:io}(h:z∈aaA)(u:bf z=true):z∈kX:=by
 rcases aS.mp h with h|h
 ·show h
 ·have:=bt.mp (h9.mp OQ).1 z h;rw[u]at this;cases this
def XD{g:cN}{u t:io}{p:io×io}(h:p∈p6 g u t):p∈g\/p=(u,t):=by
 unfold p6 at h;split at h
 ·let(q,hq,rfl):=az.mp h;split
  next c=>rw[c];show .inr rfl
  next=>show .inl hq
 ·show(aS.mp h).imp id aA.mp
def ab3(g:cN):(gD g).map (·.2)=(g.map (·.2)).map V.str:=by unfold gD;rw[b8,b8];rfl
section
variable{P:dL}{w:i3}{K:Frag}{mg:Aad}{base:i5}
inductive Mf(K:Frag)(vs:Aao)(H:Hp)(Q:VK)(_x3:XK):Prop
 |mk (f:bn) (v:V) (x':Int) (hz:Aah) (aP:Aaa) (_:vs=[.ref f,v,.int x']) (_:eM K f H) (_:QW H v hz aP) (_:0<=x') (_:x'<=3) (_:(∀a∈aP,∀z∈a.2,z∈aaA)) (_:∀(r:bn)(cur:Aaa)(H':Hp),eM K f H'->Ext f H H'->QW H' (.ref r) hz cur->(∀a∈aP,a∈cur)->Q (.ref r) H')
structure Dco(P:dL)(w:i3)(K:Frag)(mg:Aad)(base:i5):Prop where
 fQ:b6 P w K mg base 1 "_law_draw" ["_law_feed_here","_law_many"] (zS K)
 Bh:b6 P w K mg base 1 "_law_unknowns" ["_law_question_here"] wc
 EG:b6 P w K mg base 1 "_law_led" ["_law_terms_here","_law_given"] G6
def kC:bX ["_law_feed_here","_law_question_here","_law_many","_law_atoms","_law_k","_law_given","_law_unknown","_law_name","_law_terms_here"] ["_law_feed_here","_law_question_here","_law_many"] (bH AZ):=gg 21
def aa6{k:Nat}(h:k<3):(0+(k:Int)).natAbs.log2<1920/\(qS k).length<=100/\("?q":io).length+(Str.ofString (toString (0+(k:Int)))).length=(qS k).length:=by
 show{?_,(Hq h aw).2.1,(vK _ _).symm};have:∀k:Nat,k<3->(0+(k:Int)).natAbs.log2<1920:=by decide+kernel
 show this k h
def adp{k:Nat}(h:k<3){u:io}(hu:u∈kX):(qS k).length+(Txt.slice u (some 1) (some 5)).length<=100:=by have:=(Hq h (ay _ (bI hu))).2.1;unfold qU at this;rw[vK]at this;show this
def UR{f:bn}{fd:i8}(F:dH K "_law_copied" "_law_copied" AZ f fd)(T:Txt K mg)(D:Dco P w K mg base):cH P w K mg base dZ 2 f fd ["_law_feed_here","_law_question_here","_law_many"] (Mf K):=by
 show F.ok kC 71;let(fe,v,x',hz,aP,rfl,hF,qw,m0,m3,tb,k):=h;let(q,hd,aa,fS,rfl,hq,ny,jt,fC):=qw.at';have l8:=qw.l8;show{_,(aB (dW 3 kC (dc mB 9 T.ox 21 (bR (bF bU (pv 1) aK (λ_ _=>9))))) (aB (dM bG 9 (jL 9 T.kZ (bR (pv 2))) (gB 4 kC) (aB (dW 5 kC iY) (aB (dM bG 9 (dO (cl D.Bh hr (bR (pv 1)))) (gB 6 kC) (aO (dg (bZ mh (pv 6) (bF bU (pv 1) aK (λ_ _=>9)) 86) (aO (EA (nQ hr) (pv 5) (pv 6) (bF eA (dS (lQ (pv 6) (cL o7 gG (dc DM 9 T.Be 21 (bR (pv 4)))) (cL o7 (cL o7 gG (dc DM 9 T.Be 21 (bR (pv 4)))) (ia Ml (pv 6) (iH aK) (iH aK))))) (cl D.fQ hr (cP (pv 0) aK)) (λ_ _=>9)) rfl)) cm))) (aB (dg (bZ yq (bD S7 9 T.dR bC (bR (dc (S6 hr.hd) 9 T.R1 21 (bR (dc (Il hr.hd) 9 T.ox 21 (bR (UE (pv 5)))))))) (bD WB 9 T.dR bC (bR (pv 5))) (cx _)) (aO (dW 5 kC iY)) cm) (aO (dM bG 9 (il (bF bU (pv 1) aK (λ_ _=>9))) (kG 9 (cn (gB 07 kC) (cn (gB 08 kC) gM))) (aO (dg (PW.pt (Hk (bZ yq (bD cJ 9 T.dR bC (bR (pv 3))) aK (cx _)) (Ez (bZ RP (cl D.fQ hr (cP (pv 0) aK)) aK (cx _))))) (aO (gn (jq bO PySem.F.slot_list_insert PySem.F.type_list_insert U5 (pv 3) (cP (cl D.fQ hr (cP (pv 0) (cL iI (bD cJ 9 T.dR bC (bR (pv 3))) aK))) (iq (cP (pv 07) (cl D.EG hr (cP (pv 08) (pv 5))))))))) cm)))))))) (aO (bJ (iq (cP (bF bU (pv 1) aK (λ_ _=>9)) (dc hJ 9 T.jg 21 (bR (pv 3))))))))),?_}
 show{_,9,_,_,_,_,9,9,ba.of hq,9,aa,_,9,.inr (ba.of jt),λt ht=>?_};have nt:=hF.vC ht;have FO:=hF.new ht (.lst fS);have DE:Ext fe H (upd H t (.lst fS)):=(Ext.refl fe H).new ht _;have et:upd H t (.lst fS) t=some (.lst fS):=ar;have A1:dD (upd H t (.lst fS)) fS aP:=dD.keep ((cI.refl H).new ht _) fC;show{_,rfl,_,rfl,by lia,by lia,v5
  (λj Z H2=>∃(x4 x5 x6 x7 x8:Aap)(DI:Aao)(cur:Aaa),Z=[some (.ref fe),some (.ref q),some (.int x'),some (.ref t),x4,x5,x6,x7,x8]/\eM K fe H2/\Ext fe H H2/\H2 t=some (.lst DI)/\dD H2 DI cur/\cur.length<=08/\pM cur/\∀a∈aP,a∈cur)
  {_,_,_,_,_,_,_,9,FO,DE,et,A1,l8,qw.good,λa ha=>ha} ?_ ?_}
 ·ext j Z H2 D1 hj ⟨x4,x5,x6,x7,x8,DI,cur,rfl,mw,lC,rY,A2,c8,gc,cp⟩ B6 _;have hj3:j<3:=by lia
  refineλd nA=>?_
  have nd:=mw.vC nA;have rh:=mw.new nA 69;have sd:Ext fe H2 (upd H2 d 69):=(Ext.refl fe H2).new nA _;have HQ:upd H2 d 69 d=some (.dK (gD [])):=ar;show{_,9,_,hz,aP,9,qw.keep (hF.iX (lC.trans sd)),λur H4 s4 nur hur=>?_};have lun:(fA (bz aP)).length<=32:=by have h1:=Af (bz aP);have h2:=qw.good.len aP.length;rw[aT]at h2;lia
  show{ur,rfl,{_,bg.of hur},KY
   (λi Z H5=>∃(x6:Aap)(g:cN),Z=[some (.ref fe),some (.ref q),some (.int x'),some (.ref t),some (.int (0+(j:Int))),some (.ref d),x6,x7,x8]/\eM K fe H5/\Ext fe H2 H5/\H5 ur=some (.lst ((fA (bz aP)).map V.str))/\H5 d=some (.dK (gD g))/\g.length<=i/\∀p∈g,p.2∈p9)
   {_,[],9,rh.same s4,sd.trans (Ext.of s4),hur,s4 _ _ HQ,aJ _,λp h=>by cases h} (λi Z H5 _ hq=>by(let(__,__,__,__,__,h,__):=hq;show bg.of h)) ?_ ?_}
  ·ext i x Z H5 D2 hx ⟨x6',g,rfl,xj,sV,Yt,N8,lg,pg⟩ QQ _;let(u,qX,rfl):=jy hx;have hi:=(aq.mp qX).1;let(QA,FF):=mU.mp (aE qX);have up:u∈kX:=by let(a,ha,hz):=gF.mp QA;show WD (tb a ha u hz) FF
   have ul:=aU (bt.mp (h9.mp OQ).2 u up);have tu5:=hF.iX (lC.trans sV);show{_,9,_,9,_,_,_,_,9,9,ba.of (tu5 _ _ hq),9,hd,_,9,.inr (ba.of (tu5 _ _ ny)),9,xl _,_,9,?_};show dI (λ_=>?_) (λ_=>QQ _ _ {_,g,9,xj,sV,Yt,N8,lY lg,pg});let(k1,k2,k3):=aa6 hj3;have k4:=adp hj3 up;have b1:("?q":io).length+(Str.ofString (toString (0+(j:Int)))).length<ca:=by rw[k3];show bq ∅
   have b2:(qS j).length+(Txt.slice u (some 1) (some 5)).length<ca:=bq ∅;show{_,9,_,9,_,9,k1,_,_,9,9,bE b1,_,9,_,9,k1,_,_,9,9,bE b1,_,9,_,9,_,9,_,9,bE (bq ∅),_,_,9,9,bE b2,(by change 3<=ca;decide),λl hl=>?_};have y6:Ext fe H5 (upd H5 l (.lst [.str u,.str (("?q":io)++Str.ofString (toString (0+(j:Int)))),.str (("?q":io)++Str.ofString (toString (0+(j:Int)))++Txt.slice u (some 1) (some 5))])):=(Ext.refl fe H5).new hl _;have vH:=xj.new hl (.lst [.str u,.str (("?q":io)++Str.ofString (toString (0+(j:Int)))),.str (("?q":io)++Str.ofString (toString (0+(j:Int)))++Txt.slice u (some 1) (some 5))]);have e6:upd H5 l (.lst [.str u,.str (("?q":io)++Str.ofString (toString (0+(j:Int)))),.str (("?q":io)++Str.ofString (toString (0+(j:Int)))++Txt.slice u (some 1) (some 5))]) l=some (.lst (([u,qS j,qU j u]:Aah).map V.str)):=ar;show{_,9,fe,3,9,vH,7,7,λi7 H7 c0 c1 sU xn=>?_};let(tm,htm,evt):=tP (zs:=([u,qS j,qU j u]:Aah)) c0 c1;have y7:=y6.trans xn;show{_,_,_,_,9,9,bg.of (xn _ _ (xj.vC hl) e6),evt,?_};show{_,9,_,9,d,_,9,Ek.k (k:=Sum.inr u) (y7 _ _ nd N8) (by unfold gD;rw[ah];show bq ∅),?_};rw[Qe];have pl:=XE g u tm;have vG:eM K fe (upd H7 d (.dK (gD (p6 g u tm)))):=by let(x,y,z,hf):=sU;show{x,y,z,aM nd.symm▸hf}
   show QQ _ _ {_,p6 g u tm,9,vG,(sV.trans y7).own nA _,by rw[aM (λe=>by rw[e,HQ]at nur;cases nur)];show y7 _ _ (rh.vC nur) Yt,ar,8,λp hp=>?_};rcases XD hp with hp|rfl
   ·show pg p hp
   ·simp only[aN,m6,A8]at htm;rcases htm with h|h|h
    ·rw[h];show ZA up
    ·rw[h];show Hq hj3 aw
    ·rw[h];show Hq hj3 (ay _ (bI up))
  ·ext Z H5 ⟨x6',g,rfl,xj,sV,Yt,N8,lg,pg⟩;rw[ah]at lg;dsimp only;show Hc λR hR=>?_;have fin:∀(d':bn)(g':cN)(x6:Aap)(H6:Hp),(∀p∈g',p.2∈p9)->eM K fe H6->Ext fe H2 H6->H6 d'=some (.dK (gD g'))->d'≠fe->t≠d'->R [some (.ref fe),some (.ref q),some (.int x'),some (.ref t),some (.int (0+(j:Int))),some (.ref d'),x6,x7,x8] H6:=by
    ext d' g' x6 H6 gk vH oE N7 nd' agp;show hR _ _ ?_;have aeG:=lC.trans oE;have tu6:=hF.iX aeG;show{_,rfl,_,_,_,_,rfl,rfl,ba.of (tu6 _ _ hq),rfl,aa,rfl,{fS,ba.of (tu6 _ _ jt)},Gy
     (λi Z H7=>∃(x7 x8:Aap)(DI:Aao)(cur:Aaa),Z=[some (.ref fe),some (.ref q),some (.int x'),some (.ref t),some (.int (0+(j:Int))),some (.ref d'),x6,x7,x8]/\eM K fe H7/\Ext fe H H7/\H7 d'=some (.dK (gD g'))/\H7 t=some (.lst DI)/\dD H7 DI cur/\cur.length<=08/\pM cur/\∀a∈aP,a∈cur)
     {_,_,DI,cur,9,vH,aeG,N7,oE _ _ nt rY,dD.keep (mw.iX oE) A2,c8,gc,cp} (λi Z H7 _ hq=>by(let(__,__,__,__,__,__,xn,__):=hq;show ba.of (hF.iX xn _ _ jt))) ?_ ?_}
    ·ext i x Z H7 D3 hx ⟨x7',x8',OJ,OK,rfl,sU,xn,hd7,VH,A7,c87,g7,cp7⟩ hD3 _;let(a,vD,p,tt,rfl,hp,pQ):=Paired.at fC hx;have la7:=a9 A7;show{p,_,9,ba.of ((hF.iX xn) _ _ hp),9,_,_,9,_,_,9,9,?_};show{_,9,_,_,9,.inl {_,bg.of VH,9},_,_,9,9,_,9,?_};have no:∀H8,eM K fe H8->Ext fe H7 H8->D3.nx [some (.ref fe),some (.ref q),some (.int x'),some (.ref t),some (.int (0+(j:Int))),some (.ref d'),x6,some (.str a.1),some (.ref tt)] H8:=λH8 vG mx=>hD3 _ H8 {_,_,OJ,OK,9,vG,xn.trans mx,mx _ _ nd' hd7,mx _ _ nt VH,dD.keep (sU.iX mx) A7,c87,g7,cp7};show dI (λc=>?_) (λc=>fB (no H7 sU (Ext.refl _ _)));have c:=aU c;show{_,9,fe,3,9,sU,7,7,λi8 H8 b0 b1 vG mx=>{_,_,9,9,_,9,?_}};show dI (λ_=>?_) (λ_=>no H8 vG mx);have ht8:=mx _ _ nt VH;show{_,9,.inl {9,_,bg.of ht8},_,9,_,9,_,_,9,.inl {_,bg.of ht8,9},_,_,9,9,fe,_,9,vG,8,8,λi9 H9 a0 a1 hF9 ex9=>?_};have YT:=mx.trans ex9;have ga:=qw.good a (aE vD);show{_,rfl,_,rfl,_,rfl,tt,d',a.2,g',rfl,hF.iX (xn.trans YT) _ _ pQ,YT _ _ nd' hd7,by have:=ga.2.2.1;lia,λCM jC kD Yy=>{83,λQc ahi=>?_}};have oq:aG jC (upd jC Qc (.tup [.str a.1,.ref CM])):=aD ahi _;have Wn:upd jC Qc (.tup [.str a.1,.ref CM]) Qc=some (.tup [.str a.1,.ref CM]):=ar;generalize upd jC Qc (.tup [.str a.1,.ref CM])=pW at oq Wn⊢;have Xp:=kD.trans oq;have Yu:=Xp _ _ (ex9 _ _ nt ht8);show{_,_,_,_,9,9,Yu,a0,8,8,?_};have SI:=YT.trans (Ext.of Xp);have tu1:cI pW (upd pW t (.lst (OJ.take i9.toNat++ .ref Qc::OJ.drop i9.toNat))):=(cI.refl pW).lst Yu _;show hD3 _ _ {_,_,_,OK.take i9.toNat++(a.1,a.2.map (dv g'))::OK.drop i9.toNat,rfl,(hF9.same Xp).lst Yu nt _,(xn.trans SI).own ht _,aM agp.symm▸SI _ _ nd' hd7,ar,Paired.ins _ (dD.keep ((sU.iX SI).trans tu1) A7) {Qc,CM,9,tu1 _ _ Wn,tu1 _ _ (oq _ _ Yy)},by rw[abW];lia,λc hc=>?_,λc hc=>abK (.inl (cp7 c hc))};rcases abV hc with hc|rfl
     ·show g7 c hc
     ·show{ga.1,by rw[ah];show ga.2.1,by rw[ah];show ga.2.2.1,λz hz=>?_};let(y,hy,rfl):=az.mp hz;show ED gk (ga.2.2.2 y hy)
    ·ext Z H7 ⟨x7',x8',OJ,OK,rfl,sU,xn,hd7,VH,A7,c87,g7,cp7⟩;show B6 _ _ ⟨_,_,_,_,_,OJ,OK,rfl,sU,xn,VH,A7,c87,g7,cp7⟩
   show{_,9,d,_,9,N8,λvw hvw=>?_};have y6:aG H5 (upd H5 vw (.ext (Iz vw d))):=aD hvw _;have e6:upd H5 vw (.ext (Iz vw d)) vw=some (.ext (Iz vw d)):=ar;generalize upd H5 vw (.ext (Iz vw d))=H6 at y6 e6⊢;show{vw,d,_,9,e6,y6 _ _ N8,λl hl=>?_};rw[ab3];have y7:aG H6 (upd H6 l (.lst ((g.map (·.2)).map V.str))):=aD hl _;have e7:upd H6 l (.lst ((g.map (·.2)).map V.str)) l=some (.lst ((g.map (·.2)).map V.str)):=ar;generalize upd H6 l (.lst ((g.map (·.2)).map V.str))=H7 at y7 e7⊢;show{l,g.map (·.2),9,bg.of e7,by rw[ah];lia,λsa ks hsa nk mk=>?_};have y8:aG H7 (upd H7 sa (.ext (ER P w sa ks))):=aD hsa _;have Zw:=y6.trans (y7.trans y8);show{sa,ks,9,ar,_,9,d,_,9,Zw _ _ N8,_,_,9,9,_,9,?_};have vG:=xj.same Zw;have mx:=sV.trans (Ext.of Zw);show dI (λ_=>λd2 hd2=>fin d2 [] _ _ (λp h=>(by cases h)) (vG.new hd2 _) (mx.new hd2 _) ar (vG.vC hd2) (bw (mx _ _ nt rY) hd2)) (λc=>fin d g _ _ pg vG mx (Zw _ _ N8) nd (bw rY nA))
 ·ext Z H2 ⟨x4,x5,x6,x7,x8,DI,cur,rfl,mw,lC,rY,A2,c8,gc,cp⟩;have tu2:=hF.iX lC;show{_,9,_,_,_,_,9,9,ba.of (tu2 _ _ hq),9,_,9,t,_,9,.inl {bg.of rY,λp hp=>?_}};show{83,λp2 iZ=>?_};have smB:=aD iZ (.tup [.ref hd,.ref p]);have tuE:=cI.of ((aD hp _).trans smB);show k p2 cur _ ((mw.new hp _).new iZ _) ((lC.new hp _).new iZ _) {{p2,hd,p,DI,9,ar,(tu2.trans tuE) _ _ ny,smB _ _ ar,dD.keep tuE A2},aJ _,c8,gc,qw.h4,qw.hh} cp
def CN(v:io):(("?":io)++v).cps.toList=63::v.cps.toList:=by change(("?":io).cps++v.cps).toList=_;rw[Array.toList_append];rfl
def Rm{v:io}(h:isVal v=true):bf ("?"++v)=true:=by
 have l1:1<=(("?":io)++v).length:=by
  have:(("?":io)++v).length=(("?":io)++v).cps.toList.length:=by simp[Str.length]
  rw[this,CN,bx];lia
 have es:Txt.slice (("?":io)++v) (some 1) none=v:=ya (by rw[T9 l1,CN];rfl);unfold bf;rw[es,h,wy (by rw[CN];rfl)];decide
def aaS{v:io}(h:v.length<=08):(("?":io)++v).length<=100:=by
 have:(("?":io)++v).length=(("?":io)++v).cps.toList.length:=by simp[Str.length]
 have e:v.length=v.cps.toList.length:=by simp[Str.length]
 rw[this,CN,bx,<-e];lia
def agl{v:io}(h:PyData.strOk v=true):PyData.strOk (("?":io)++v)=true:=by unfold PyData.strOk at h⊢;rw[<-xR]at h⊢;rw[CN,vq,h];decide
def ac4{v:io}(h:v.length<=08):Txt.slice v none (some 08)=v:=by
 have e:∀n<09,((Builtin.Str.strSliceIndices none (some 08) 1 n).length==n)=true:=by decide+kernel
 unfold Txt.slice;rw[e _ ∅];rfl
def JQ(hz:Aah)(aP:Aaa):Prop:=∀z∈hz,z∈bz aP
def JQ.nU{hz:Aah}{aP:Aaa}(h:JQ hz aP):yO hz aP:=λz hz _=>h z hz
inductive Mg(K:Frag)(vs:Aao)(H:Hp)(Q:VK)(_x3:XK):Prop
 |mk (f:bn) (v:V) (z:io) (hz:Aah) (aP:Aaa) (_:vs=[.ref f,v,.str z]) (_:eM K f H) (_:QW H v hz aP) (_:JQ hz aP) (_:1<=aP.length) (_:isVal z=true) (_:PyData.strOk z=true) (_:∀(r:bn)(ke:Aah)(de:Aaa)(H':Hp),eM K f H'->Ext f H H'->QW H' (.ref r) ke de->JQ ke de->1<=de.length->Q (.ref r) H')
structure Dca(P:dL)(w:i3)(K:Frag)(mg:Aad)(base:i5):Prop where
 fQ:b6 P w K mg base 1 "_law_draw" ["_law_feed_here","_law_many"] (zS K)
 Jo:b6 P w K mg base 1 "_law_terms" ["_law_question_here"] wz
 Jp:b6 P w K mg base 2 "_law_led_question" ["_law_question_here","_law_given"] T2
def uv:bX ["_law_feed_here","_law_question_here","_law_value","_law_terms_here","_law_old","_law_new"] ["_law_feed_here","_law_question_here","_law_value"] (bH A3):=gg 21
def US{f:bn}{fd:i8}(F:dH K "_law_called" "_law_called" A3 f fd)(T:Txt K mg)(D:Dca P w K mg base):cH P w K mg base dZ 3 f fd ["_law_feed_here","_law_question_here","_law_value"] (Mg K):=by
 show F.ok uv 71;let(fe,v,z,hz,aP,rfl,hF,qw,vF,l1q,vz,oz,k):=h;have l8:=qw.l8;have l4:=qw.h4;have lfl:=qw.good.len aP.length;rw[aT]at lfl;have l1:1<=(bz aP).length:=by obtain⟨a,r,e⟩:∃a r,aP=a::r:=List.exists_cons_of_length_pos l1q;have:=(qw.good a (e▸aw)).2.1;rw[e];change 1<=(a.2++bz r).length;rw[aC];lia
 show{_,(aB (dW 3 uv (cl D.Jo hr (bR (pv 1)))) (aB (dW 4 uv (bF eA (pv 3) (cl D.fQ hr (cP (pv 0) (bD cJ 9 T.dR bC (bR (pv 3))))) (λ_ _=>9))) (aB (dW 5 uv (bF eA (dS (cP (pv 2) (cL o7 gG (ia Ml (pv 2) jw (iH aK))))) (cl D.fQ hr (cP (pv 0) aK)) (λ_ _=>9))) (aO (bJ (cl D.Jp hr (cP (pv 1) (abq (XI (pv 4) (pv 5) abm) 9 9 58 (by change 1<=15;decide))))))))),?_}
 show{_,9,v,hz,aP,9,qw,λtl H1 s1 VI QD=>?_};have lt:(hz++bz aP).length=hz.length+(bz aP).length:=aC;have lt':((hz++bz aP).map V.str).length=hz.length+(bz aP).length:=by rw[ah,lt]
 show{_,9,_,9,_,9,_,_,9,.inl {_,bg.of QD,9},fe,_,9,(hF.same s1),8,8,λi2 H2 a0 a1 mw lC=>?_};have rY:=lC _ _ (hF.vC VI) QD;obtain⟨old,hold⟩:∃y,(hz++bz aP)[i2.toNat]?=some y:={_,av ∅};have ev:uX ((hz++bz aP).map V.str) i2=some (.str old):=by
  have e:i2=((i2.toNat:Nat):Int):=by lia
  rw[e];show iK (by rw[aZ,hold];rfl)
 show{_,_,_,_,9,9,bg.of rY,ev,?_};show{_,9,_,9,_,9,_,9,bE (bq (by have:=wb vz;lia)),?_};rw[ac4 (wb vz)];show{_,_,9,9,bE (bq (by have e1:("?":io).length=1:=9;have:=wb vz;rw[e1];lia)),83,λl hl=>?_};have s3:aG H2 (upd H2 l (.lst [.str z,.str (("?":io)++z)])):=aD hl _;have h3:upd H2 l (.lst [.str z,.str (("?":io)++z)]) l=some (.lst [.str z,.str (("?":io)++z)]):=ar;have rh:=mw.same s3;show{_,9,fe,2,9,rh,7,7,λi4 H4 b0 b1 uT pS=>?_};obtain⟨new,Bk,nT⟩:∃new:io,([.str z,.str (("?":io)++z)]:Aao)[i4.toNat]?=some (.str new)/\new∈p9:=by
  rcases(by lia:i4.toNat=0\/i4.toNat=1)with e|e
  ·rw[e];show{z,9,({by unfold kE;rw[vz];rfl,by have:=wb vz;lia,oz})}
  ·rw[e];show{_,9,({by unfold kE;rw[Rm vz,Eo],aaS (wb vz),agl oz})}
 have ev4:uX ([.str z,.str (("?":io)++z)]:Aao) i4=some (.str new):=by
  have e:i4=((i4.toNat:Nat):Int):=by lia
  rw[e];show iK Bk
 show{_,_,_,_,9,9,bg.of (pS _ _ (mw.vC hl) h3),ev4,?_};show{_,9,λp hp=>?_};have s5:aG H4 (upd (upd H4 p 69) p (.dK (gD [(old,new)]))):=λb u h=>by rw[aM (bw h hp),aM (bw h hp)];show h
 have h5:upd (upd H4 p 69) p (.dK (gD [(old,new)])) p=some (.dK (gD [(old,new)])):=ar;show{_,9,_,9,ar,[(Sum.inr old,.str new)],9,(by change 1<=15;decide),?_};have em:kH [] [((Sum.inr old:Key),V.str new)]=gD [(old,new)]:=9;rw[em];have aeF:=(((Ext.of s1).trans lC).trans ((Ext.of s3).trans pS)).trans (Ext.of s5);show{v,p,hz,aP,[(old,new)],9,qw.keep (hF.iX aeF),h5,λq hq=>(aA.mp hq▸nT),λr H6 s6 q6=>?_};show k r _ _ H6 ((uT.same s5).same s6) (aeF.trans (Ext.of s6)) q6 (λy hy=>?_) (by unfold Bg;rw[ah];show l1q);let(y0,h0,rfl):=az.mp hy;let(a,ha,hza):=gF.mp (vF y0 h0);show gF.mpr {_,bI ha,bI hza}
def Xb{α:Type}{a:α}{l m:List α}(h:(a::l).Sublist (a::m)):l.Sublist m:=by
 cases h with
 |cons _ h=>show(List.sublist_cons_self a l).trans h
 |cons_cons _ h=>show h
def TN{α:Type}{a b:α}{l m:List α}(n:b≠a)(h:(a::l).Sublist (b::m)):(a::l).Sublist m:=by
 cases h with
 |cons _ h=>show h
 |cons_cons _ h=>show absurd rfl n
end
inductive TX(K:Frag)(vs:Aao)(H:Hp)(Q:VK)(_x3:XK):Prop
 |mk (v f:V) (hz:Aah) (aP de:Aaa) (_:vs=[v,f]) (_:QW H v hz aP) (_:QW H f hz de) (_:de.Sublist aP) (_:1<=de.length) (_:∀H',aG H H'->Q (.bl true) H')
section
variable{P:dL}{w:i3}{K:Frag}{mg:Aad}{base:i5}
def Kd{aP:Aaa}(g:pM aP){a:io×Aah}(h:a∈aP):SeqAt.shaped (dA a)=true:=by unfold SeqAt.shaped;rw[Nq (f7 (Cr (g a h).1)).2.2 λz hz=>(f7 ((g a h).2.2.2 z hz)).2.2,iy];show bb (bc (OB a) 7)
def Cz:bX ["_law_question_here","_law_form","_law_left","_law_atom_here"] ["_law_question_here","_law_form"] (bH Ga):=gg 21
def abx{f:bn}{fd:i8}(F:dH K "_law_part" "_law_part" Ga f fd)(T:Txt K mg):cH P w K mg base dZ 1 f fd ["_law_question_here","_law_form"] (TX K):=by
 show F.ok Cz 71;let(v,g,hz,aP,de,rfl,qv,qg,sub,l1,k):=h;let(q,hd,aa,fS,rfl,hq,ny,jt,fC):=qv.at';let(q',yE,aa',ahN,rfl,B2,ahu,Sx,HR):=qg.at';have la':=a9 HR;show{_,(aB (dg (PW.pt (km (gP (eZ (bD gq 9 T.fb 21 (cP (pv 1) (nP (n:="tuple") 9 T.jg 21))))) (km (bZ uw (bD cJ 9 T.dR bC (bR (pv 1))) aK (cx _)) (km (bZ (CV hr.units) (bF bU (pv 1) aK (λ_ _=>9)) (bF bU (pv 0) aK (λ_ _=>9)) (cx _)) (ot (gP (eZ (bD gq 9 T.fb 21 (cP (bF bU (pv 1) aK (λ_ _=>9)) (nP (n:="tuple") 9 T.jg 21)))))))))) (aO (bJ fJ)) cm) (aB (dW 2 Cz (dc mB 9 T.ox 21 (bR (bF bU (pv 0) aK (λ_ _=>9))))) (aB (dM bG 9 (il (bF bU (pv 1) aK (λ_ _=>9))) (gB 3 Cz) (aB (MC bG (PW.pt (Hk (bZ (adD hr.rE) (pv 2) (dS gS) (cx _)) (Ez (bZ (CV hr.units) (bF eA (pv 2) aK (λ_ _=>9)) (pv 3) (cx _))))) (aO (gn (jq bO Az Ay Nd (pv 2) (bR aK))))) (aB (dg (bZ (wY hr.rE) (pv 2) (dS gS) (cx _)) (aO (bJ fJ)) cm) (aO (gn (jq bO Az Ay Nd (pv 2) (bR aK))))))) (aO (bJ (jT RP (bD cJ 9 T.dR bC (bR (bF bU (pv 1) aK (λ_ _=>9)))) aK (cx _))))))),?_}
 have shz:=wG hz λz h=>(f7 (qv.hh z h)).2.2;show{_,9,_,_,_,true,9,.tup B2,kI _,_,9,fB {_,9,_,_,9,.inr {_,ba.of B2,9},9,_,9,dI (λc=>absurd c 58) (λ_=>?_)}};show{_,9,_,_,_,_,9,9,ba.of B2,9,_,9,_,_,_,_,9,9,ba.of hq,9,.tuple (hz.map PyData.str),.tuple (hz.map PyData.str),(by rw[Dt];show{yE,_,9,ba.of ahu,ko _}),(by rw[Dt];show{hd,_,9,ba.of ny,ko _}),shz,shz,_,9,dI (λc=>absurd c (by simp[PyData.eqv,YW])) (λ_=>?_)};show{_,9,_,_,_,_,9,9,ba.of B2,9,_,_,_,true,9,.tup Sx,kI _,_,9,fB ?_};show{_,9,_,_,_,_,9,9,ba.of hq,9,aa,_,9,.inr (ba.of jt),λl hl=>?_};have s1:aG H (upd H l (.lst fS)):=aD hl _;have oA:upd H l (.lst fS) l=some (.lst fS):=ar;show{_,9,_,_,_,_,9,9,ba.of (s1 _ _ B2),9,aa',9,{_,ba.of (s1 _ _ Sx)},Gy (λi Z H2=>∃(x3:Aap)(rS:Aao)(left:Aaa),Z=[some (.ref q),some (.ref q'),some (.ref l),x3]/\aG H H2/\H2 l=some (.lst rS)/\dD H2 rS left/\(de.drop i).Sublist left/\(∀a∈left,a∈aP)/\left.length<=08) {_,fS,aP,9,s1,oA,dD.keep (cI.of s1) fC,sub,λa h=>h,qv.l8} (λi Z H2 _ hq=>by(let(__,__,__,__,s2,__):=hq;show ba.of (s2 _ _ Sx))) ?_ ?_}
 ·ext i x Z H2 D1 hx ⟨x3,rS,left,rfl,s2,fw,QK,sb,sin,ll⟩ B6 _;let(a,ha,hax):=Paired.at HR hx;have bN:=(aq.mp ha).1;have dr:de.drop i=a::de.drop (i+1):=by rw[fG bN];rw[av bN]at ha;cases ha;rfl
  rw[dr]at sb;show{λm Z H3=>∃(rS:Aao)(left:Aaa),Z=[some (.ref q),some (.ref q'),some (.ref l),some x]/\m=left.length/\aG H H3/\H3 l=some (.lst rS)/\dD H3 rS left/\(a::de.drop (i+1)).Sublist left/\(∀a∈left,a∈aP)/\left.length<=08,⟨_,rS,left,rfl,rfl,s2,fw,QK,sb,sin,ll⟩,?_};ext m Z H3 ⟨rS,left,rfl,rfl,s3,rZ,QK,sb,sin,ll⟩;cases QK with
  |nil=>cases sb
  |@cons u b rS left hb QK=>
   show{_,9,77,λe he=>?_};have s4:aG H3 (upd H3 e 70):=aD he _;have he4:upd H3 e 70 e=some 70:=ar;generalize upd H3 e 70=H4 at s4 he4⊢;have Mt:=s3.trans s4;have qY:=s4 _ _ rZ;show{l,e,_,9,9,bg.of qY,bg.of he4,_,9,ml ?_};show{_,9,_,_,_,_,9,9,bg.of qY,iK rfl,_,9,dA b,dA a,EM (hb.keep (cI.of s4)),EM (hax.keep (cI.of Mt)),Kd qv.good (sin b aw),Kd qg.good (aE ha),_,9,?_};rw[OH];have sq:Uf 0 (u::rS).length=some 0:=(Js (by unfold Ky;rw[aL 7,aL (by rw[bx];lia)];rfl)).1;have own:∀x:HO,aG H (upd H4 l x):=λx b' u h=>by rw[aM (bw h hl)];show Mt _ _ h
   show dI (λc=>?_) (λc=>?_)
   ·have nb:b≠a:=λe=>by rw[e]at c;simp at c
    show{λσ' H'=>∃(rS:Aao)(yx:Aaa),σ'=[some (.ref q),some (.ref q'),some (.ref l),some x]/\yx=left/\aG H H'/\H' l=some (.lst rS)/\dD H' rS yx/\(a::de.drop (i+1)).Sublist yx/\(∀a∈yx,a∈aP)/\yx.length<=08,λσ' H' ⟨rS,yx,e1,e2,r⟩=>{yx.length,e2▸dJ _,rS,yx,e1,9,r},?_};show{_,9,.inl {9,_,bg.of qY},l,_,0,0,_,9,9,qY,7,7,sq,9,rS,left,9,9,own _,ar,dD.keep ((λys=>(cI.of s4).trans ((cI.refl H4).lst qY _)) _) QK,TN nb sb,λa h=>sin a (ay _ h),by rw[bx]at ll;lia}
   ·have nb:b=a:=by simpa using c
    subst nb;show{_,9,77,λe5 he5=>?_};have s5:aG H4 (upd H4 e5 70):=aD he5 _;have he6:upd H4 e5 70 e5=some 70:=ar;generalize upd H4 e5 70=H5 at s5 he6⊢;have NU:=s5 _ _ qY;show{l,e5,_,9,9,bg.of NU,bg.of he6,_,9,fB ?_};show{_,9,.inl {9,_,bg.of NU},l,_,0,0,_,9,9,NU,7,7,sq,9,B6 _ _ {_,rS,left,9,λb' u h=>?_,ar,dD.keep (((cI.of (s4.trans s5))).trans ((cI.refl H5).lst NU _)) QK,Xb sb,λa h=>sin a (ay _ h),by rw[bx]at ll;lia}};rw[aM (bw h hl)];show s5 _ _ (Mt _ _ h)
 ·ext Z H2 ⟨x3,rS,left,rfl,s2,_⟩;show{_,9,_,_,_,_,9,9,ba.of (s2 _ _ B2),9,_,_,9,.inr {_,ba.of (s2 _ _ Sx),9},_,_,9,9,?_};have:decide ((0:Int)<(ahN.length:Nat))=true:=bb ∅;rw[this];show k H2 s2
end
inductive PX(K:Frag)(vs:Aao)(H:Hp)(Q:VK)(_x3:XK):Prop
 |mk (f u:V) (hz:Aah) (aP:Aaa) (j:Nat) (ad:Aaj) (_:vs=[f,.int (j:Int),u]) (_:QW H f hz aP) (_:j<aP.length) (_:FX K H u hz aP j ad) (_:∀H',aG H H'->Q (.bl true) H')
def YR{aP:Aaa}(g:pM aP):bz aP=[]↔aP=[]:=by
 cases aP with
 |nil=>show{λ_=>9,λ_=>9}
 |cons a r=>
  show{λh=>?_,λh=>(by cases h)};have h1:=(g a aw).2.1;have h2:a.2++bz r=[]:=h;rw[(List.append_eq_nil_iff.mp h2).1]at h1;show absurd h1 7
def ab1{hz T:Aah}:((hz.filter bf).map λz=>decide (z∈T)).all id=true↔∀z∈hz,bf z=true->z∈T:=by
 rw[bt];constructor
 ·ext h z ke c;show aU (h _ (az.mpr {z,cM.mpr ⟨ke,c⟩,9}))
 ·ext h b hb;let(z,ke,rfl):=az.mp hb;let(h1,h2):=cM.mp ke;show bb (h z h1 h2)
section
variable{P:dL}{w:i3}{K:Frag}{mg:Aad}{base:i5}
structure Dsr(P:dL)(w:i3)(K:Frag)(mg:Aad)(base:i5):Prop where
 Nu:b6 P w K mg base 3 "_law_are_tables" ["_law_tables"] (ZN K)
 Bi:b6 P w K mg base 2 "_law_is_row" ["_law_row"] (Rx K)
 Kv:b6 P w K mg base 12 "_law_answers" ["_law_question_here","_law_tables","_law_row"] (Kb K)
def lB:bX ["_law_form","_law_place","_law_show","_law_fewer","_law_terms_here","_law_name","_law_some"] ["_law_form","_law_place","_law_show"] (bH tI):=gg 21
def X0{f:bn}{fd:i8}(F:dH K "_law_show_right" "_law_show_right" tI f fd)(T:Txt K mg)(D:Dsr P w K mg base):cH P w K mg base dZ 13 f fd ["_law_form","_law_place","_law_show"] (PX K):=by
 show F.ok lB 71;let(v,u,hz,aP,j,ad,rfl,qw,hj,sh,k):=h;let(q,hd,aa,fS,rfl,hq,ny,jt,fC):=qw.at';have la:=a9 fC;have l8:=qw.l8;have h4:=qw.h4;show cut 3 (λZ H2=>∃(qf:bn)(x5 x6:Aap)(tl:bn),Z=[some (.ref q),some (.int (j:Int)),some u,some (.ref qf),some (.ref tl),x5,x6]/\aG H H2/\QW H2 (.ref qf) hz (aP.eraseIdx j)/\H2 tl=some (.lst ((bz (aP.eraseIdx j)).map V.str)))
  {_,(aB (dg (PW.pt (km (bZ (wY hr.rE) (pv 4) (dS gS) (cx _)) (ot (bZ CY fJ (mL 9 (cR (fs:=["_law_terms_here"]) (fr:=[4])) (il (bF bU (pv 0) aK (λ_ _=>9))) (λ_ _ _ _=>(bZ vY (bF NC (pv 0) aK (λ_ _=>9)) gG (cx _))) (λ_ _ _ _=>(jT (Hr) (pv 0) (pv 1) 86))) 86)))) (aO (bJ (jT CW (pv 2) gQ (cx _)))) cm) (aB (dg (PW.pt (km (gP (eZ (bD gq 9 T.fb 21 (cP (pv 2) (nP (n:="tuple") 9 T.jg 21))))) (km (bZ uw (bD cJ 9 T.dR bC (bR (pv 2))) aK (cx _)) (km (gP (eZ (cl D.Nu hr (bR (bF bU (pv 2) aK (λ_ _=>9)))))) (ot (gP (eZ (cl D.Bi hr (bR (bF bU (pv 2) aK (λ_ _=>9))))))))))) (aO (bJ fJ)) cm) (aO (bJ (uQ (cl D.Kv hr (lQ (pv 3) (bF bU (pv 2) aK (λ_ _=>9)) (bF bU (pv 2) aK (λ_ _=>9)))) (wV (adw (cl D.Kv hr (lQ (pv 0) (bF bU (pv 2) aK (λ_ _=>9)) (bF bU (pv 2) aK (λ_ _=>9))))))))))),?_} (λt2 ht=>{_,(aB (dW 3 lB (iq (cP (bF bU (pv 0) aK (λ_ _=>9)) (cL Qj (ia Eu (bF bU (pv 0) aK (λ_ _=>9)) jw (iH (pv 1))) (ia Eu (bF bU (pv 0) aK (λ_ _=>9)) (iH (cL iI (pv 1) aK)) jw))))) (aB (ka (i:=4) lB.nd 9 (Or.inr 9) (dS gS)) (aB (dM bG 9 (il (bF bU (pv 3) aK (λ_ _=>9))) (kG 9 (cn (gB 5 lB) (cn (gB 6 lB) gM))) (aO (gn (jq bO eF eE vZ (pv 4) (bR (pv 6)))))) ht))),λtl=>?_})
 ·ext Z H2 ⟨qf,x5,x6,tl,rfl,s2,BU,QB⟩;have ge:=BU.good;show{_,9,77,λe he=>?_};have s3:aG H2 (upd H2 e 70):=aD he _;have he3:upd H2 e 70 e=some 70:=ar;generalize upd H2 e 70=H3 at s3 he3⊢;have pP:=s2.trans s3;have adN:=λnb=>by
   cases sh with
   |b7 e _ _=>show e
   |BW r p rw fs row er hr nR bd=>show absurd bd nb
  show{tl,e,_,9,9,bg.of (s3 _ _ QB),bg.of he3,_,9,dI (λc=>?_) (λc=>?_)}
  ·have e0:bz (aP.eraseIdx j)=[]:=by
    cases q:bz (aP.eraseIdx j)with
    |nil=>rfl
    |cons z r=>rw[q]at c;cases c
   show{_,9,9,?_};rw[adN λb=>b.1 ((YR ge).mp e0)];show k H3 pP
  have ne:aP.eraseIdx j≠[]:=λe=>by rw[e]at c;show c rfl
  have lfl:(bz (aP.eraseIdx j)).length<=32:=by have h1:=ge.len (aP.eraseIdx j).length;rw[aT]at h1;have h2:=BU.l8;lia
  have lh:(hz.map V.str).length=hz.length:=ah _;show{_,9,_,_,_,_,9,9,ba.of (pP _ _ hq),9,hd,9,{_,ba.of (pP _ _ ny)},mW (λi ys H4=>H4=H3/\i<=hz.length/\ys=(((hz.take i).filter bf).map λz=>decide (z∈bz (aP.eraseIdx j))).map V.bl) (by rw[lh];show bq ∅) {9,aJ _,9} ?_ ?_ ?_}
  ·ext i ys H4 hi ⟨rfl,mq,rfl⟩;show{ba.of (pP _ _ ny),?_};rw[ah,ah];show bc (cS _ _) ?_;rw[aV];lia
  ·ext i x ys H4 N hc ⟨rfl,hi,rfl⟩ hN;let(z,cb,rfl):=jy hc;have bN:=(aq.mp cb).1;have Ai:=f7 (qw.hh z (aE cb));let(c0,KN):=F1 Ai.1;have tk:hz.take (i+1)=hz.take i++[z]:=by rw[bh,cb];rfl
   show{_,9,_,_,_,9,9,bE (bq ∅),iK KN,9,_,9,?_};rw[F2 Ai.1 KN];show dI (λc1=>?_) (λc1=>hN _ _ {9,bN,?_})
   ·show{_,9,_,9,tl,_,9,.inl (bg.of (s3 _ _ QB)),9,xl _,hN _ _ {9,bN,?_}};rw[tk,dQ,cK,aL c1,aF,aF];rw[wm];rfl
   ·rw[tk,dQ,cK,aI c1,nY,cZ]
  ext ys H4 ⟨rfl,_,rfl⟩ l hl;rw[lh,aT];have s4:=aD hl (.lst (((hz.filter bf).map λz=>decide (z∈bz (aP.eraseIdx j))).map V.bl));have qY:upd H4 l (.lst (((hz.filter bf).map λz=>decide (z∈bz (aP.eraseIdx j))).map V.bl)) l=some (.lst (((hz.filter bf).map λz=>decide (z∈bz (aP.eraseIdx j))).map V.bl)):=ar;have iff:=ab1 (hz:=hz) (T:=bz (aP.eraseIdx j));generalize ((hz.filter bf).map λz=>decide (z∈bz (aP.eraseIdx j)))=bs at s4 qY iff⊢;generalize upd H4 l (.lst (bs.map V.bl))=H5 at s4 qY⊢;have vB:=pP.trans s4;show{l,_,9,.inl (bg.of qY),9,bt.mpr λy hy=>?_,_,9,?_}
  ·let(b,__,rfl):=az.mp hy;rfl
  rw[Ir];show dI (λc2=>?_) (λc2=>?_)
  ·show{_,9,9,?_};rw[adN λb=>by rw[iff.mpr b.2]at c2;cases c2];show k H5 vB
  cases sh with
  |b7 _ nb _=>show absurd ({ne,iff.mp (by simpa using c2)}) nb
  |BW r p wQ fs row er yB nR _ tb lf lr vr one other _=>
   subst er;show{_,9,_,_,_,true,9,.tup (vB _ _ yB),kI _,_,9,fB {_,9,_,_,9,.inr {_,ba.of (vB _ _ yB),9},9,_,9,dI (λc=>absurd c 58) (λ_=>?_)}};show{_,9,_,_,_,_,9,9,ba.of (vB _ _ yB),9,p,fs,9,tb.same vB,lf,λH6 s6=>{_,9,?_}};show fB ?_;have Hg:=vB.trans s6;show{_,9,_,_,_,_,9,9,ba.of (Hg _ _ yB),9,wQ,row,9,ba.of (Hg _ _ nR),8,vr,λH7 s7=>{_,9,?_}};show fB ?_;have zV:=Hg.trans s7;show{_,9,_,9,_,_,_,_,9,9,ba.of (zV _ _ yB),9,_,9,_,_,_,_,9,9,ba.of (zV _ _ yB),9,_,p,wQ,hz,_,fs,row,9,(BU.keep (cI.of (s3.trans s4))).keep (cI.of (s6.trans s7)),(tb.same zV).acK,ba.of (zV _ _ nR),8,λH8 b s8 hb=>{_,9,?_}};rw[hb.mpr one];show ml ?_;have BR:=zV.trans s8;show{_,9,_,9,_,_,_,_,9,9,ba.of (BR _ _ yB),9,_,9,_,_,_,_,9,9,ba.of (BR _ _ yB),9,_,p,wQ,hz,aP,fs,row,9,qw.keep (cI.of BR),(tb.same BR).acK,ba.of (BR _ _ nR),8,λH9 b s9 hb=>{_,9,?_}};have eb:b=false:=by
    cases q:b with
    |false=>rfl
    |true=>
     let(h,hh):=hb.mp q;show absurd hh (other h)
   rw[eb];show k H9 (BR.trans s9)
 ·show{_,9,_,_,_,_,9,9,ba.of hq,9,_,9,_,_,_,_,9,9,ba.of hq,9,mj {_,9,_,9,Ex jt λp1 H1 s1 jB=>?_}};show{_,9,_,_,_,_,9,9,ba.of (s1 _ _ hq),9,_,9,_,_,9,9,_,9,mj (Ex (s1 _ _ jt) λp2 H2 s2 iZ=>?_)};rw[uc]at jB;rw[show(j:Int)+1=((j+1:Nat):Int)from rfl,ub]at iZ;show Qb (s2 _ _ jB) iZ (by rw[aV,c9];lia) λp3 H3 s3 gE=>?_;rw[<-kS]at gE;show{83,λr hr=>?_};have s4:aG H3 (upd H3 r (.tup [.ref hd,.ref p3])):=aD hr _;have NO:upd H3 r (.tup [.ref hd,.ref p3]) r=some (.tup [.ref hd,.ref p3]):=ar;generalize upd H3 r (.tup [.ref hd,.ref p3])=H4 at s4 NO⊢;have nO:=(s1.trans s2).trans (s3.trans s4);have FL:=Paired.erase j (dD.keep (cI.of nO) fC);have yC:=s4 _ _ gE;have ge:pM (aP.eraseIdx j):=λb hb=>qw.good b (xK hb);have lb8:(aP.eraseIdx j).length<=08:=by rw[BH];split<;>lia
  have qw4:QW H4 (.ref r) hz (aP.eraseIdx j):={{r,hd,p3,_,9,NO,nO _ _ ny,yC,FL},aJ _,lb8,ge,h4,qw.hh};generalize aP.eraseIdx j=B at FL ge lb8 qw4 tl;generalize fS.eraseIdx j=DP at yC FL;show{77,λt ht=>?_};have s5:aG H4 (upd H4 t 70):=aD ht _;have QC:upd H4 t 70 t=some (.lst (([]:Aah).map V.str)):=ar;show{_,9,_,_,_,_,9,9,ba.of (s5 _ _ NO),9,p3,9,{_,ba.of (s5 _ _ yC)},Gy (λi Z H6=>∃(x5 x6:Aap),Z=[some (.ref q),some (.int (j:Int)),some u,some (.ref r),some (.ref t),x5,x6]/\aG H4 H6/\H6 t=some (.lst ((bz (B.take i)).map V.str))) ⟨_,_,rfl,s5,QC⟩ (λi Z H6 _ hq=>by(let(__,__,__,s6,__):=hq;show ba.of (s6 _ _ yC))) ?_ ?_}
  ·ext i x Z H6 D1 hx ⟨x5,x6,rfl,s6,HE⟩ B6 _;let(a,ha,p,tt,rfl,hp,pQ):=Paired.at FL hx;have g:=ge a (aE ha);have lf:=ge.len i;show{p,_,9,ba.of (s6 _ _ hp),9,_,_,9,_,_,9,9,?_};show{_,9,.inl {9,_,bg.of HE},_,9,t,tt,_,_,9,9,HE,ba.of (s6 _ _ pQ),?_,B6 _ _ {_,_,9,λb u' e=>?_,?_}}
   ·rw[ah,ah];show bE (bq ∅)
   ·rw[aM (bw e ht)];show s6 _ _ e
   ·rw[ar,pC ha,aF]
  ·ext Z H6 ⟨x5,x6,rfl,s6,HE⟩;rw[(a9 FL),aT]at HE;show tl _ _ {r,_,_,t,9,nO.trans s6,qw4.keep (cI.of s6),HE}
end
inductive Me(K:Frag)(vs:Aao)(H:Hp)(Q:VK)(_x3:XK):Prop
 |mk (v f:V) (r fl l:bn) (gL ys:Aao) (bV:cN) (gj:List (Aaj)) (hz:Aah) (aP de:Aaa) (H0:Hp) (_:vs=[.ref r,v]) (_:QW H v hz aP) (_:1<=aP.length) (_:Rb K H0 H r f fl l gL bV ys gj hz aP de) (_:∀H',aG H H'->Q (.bl true) H')
section
variable{P:dL}{w:i3}{K:Frag}{mg:Aad}{base:i5}
structure Dlr(P:dL)(w:i3)(K:Frag)(mg:Aad)(base:i5):Prop where
 adZ:b6 P w K mg base 1 "_law_part" ["_law_question_here","_law_form"] (TX K)
 Ym:b6 P w K mg base 2 "_law_is_map" ["_law_one","_law_other","_law_pairs"] ZL
 Nr:b6 P w K mg base 13 "_law_show_right" ["_law_form","_law_place","_law_show"] (PX K)
def mR:bX ["_law_found","_law_question_here","_law_form","_law_fold","_law_shows"] ["_law_found","_law_question_here"] (bH rK):=gg 21
def abz{f:bn}{fd:i8}(F:dH K "_law_least_right" "_law_least_right" rK f fd)(T:Txt K mg)(D:Dlr P w K mg base):cH P w K mg base dZ 14 f fd ["_law_found","_law_question_here"] (Me K):=by
 show F.ok mR 71;let(v,g,r,fl,l,gL,ys,bV,gj,hz,aP,de,H0,rfl,qv,l1,x,k):=h;have l1':1<=de.length:=by
  have:=Led.ne x.ls.led (λe=>by rw[e]at l1;show absurd l1 7);cases q:de with
  |nil=>show absurd q this
  |cons=>show gY (aJ _)
 show{_,(aB (dg (PW.pt (km (gP (eZ (bD gq 9 T.fb 21 (cP (pv 0) (nP (n:="tuple") 9 T.jg 21))))) (km (bZ uw (bD cJ 9 T.dR bC (bR (pv 0))) aK (cx _)) (ot (gP (eZ (cl D.adZ hr (cP (pv 1) (bF bU (pv 0) aK (λ_ _=>9)))))))))) (aO (bJ fJ)) cm) (aB (CS (pv 0) (kG 9 (cn (o6 (i:=2) mR.nd 9 (Or.inr 9)) (cn (gB 3 mR) (cn (o6 (i:=4) mR.nd 9 (Or.inr 9)) gM))))) (aB (dg (PW.pt (km (gP (eZ (cl D.Ym hr (lQ (pv 2) (pv 1) (pv 3))))) (km (gP (eZ (bD gq 9 T.fb 21 (cP (pv 4) (nP (n:="list") 9 T.ox 21))))) (ot (bZ uw (bD cJ 9 T.dR bC (bR (pv 4))) (bD cJ 9 T.dR bC (bR (bF bU (pv 2) aK (λ_ _=>9)))) (cx _)))))) (aO (bJ fJ)) cm) (aO (bJ (jT mh fJ (je 9 (cR (fs:=["_law_form","_law_shows"]) (fr:=[2,4])) (jL 9 T.kZ (bR (bD cJ 9 T.dR bC (bR (pv 4))))) (λ_ _ _ _=>(cl D.Nr hr (lQ (pv 1) (pv 0) (bF (xg) (pv 2) (pv 0) (λ_ _=>9)))))) 86)))))),?_}
 show{_,9,_,_,_,true,9,.tup x.hr,kI _,_,9,fB {_,9,_,_,9,.inr {_,ba.of x.hr,9},9,_,9,dI (λc=>absurd c 58) (λ_=>?_)}};show{_,9,_,9,_,_,_,_,9,9,ba.of x.hr,9,v,g,hz,aP,de,9,qv,x.qf,x.ls.sub,l1',λH1 s1=>{_,9,?_}};show fB ?_;have x1:=x.same s1;show{_,9,r,_,9,ba.of x1.hr,9,_,_,9,_,_,9,_,_,9,9,?_};show{_,9,_,9,_,9,g,v,fl,hz,hz,de,aP,gL,bV,9,x1.qf,qv.keep (cI.of s1),x1.xh,x1.pr,x1.gp,x1.lp,λH2 s2=>{_,9,?_}};rw[x.mb];show fB ?_;have x2:=x1.same s2;let(q,hd,aa,fS,rfl,hq,ny,jt,fC):=x2.qf.at';have ly:=x2.sw.ly;have l8:=x2.qf.l8;show{_,9,_,_,_,true,9,.lst x2.hl,kI _,_,9,fB {_,9,_,_,9,.inl {_,bg.of x2.hl,9},_,9,_,_,_,_,9,9,ba.of hq,9,_,_,9,.inr {_,ba.of jt,9},9,_,9,dI (λc=>absurd c (by rw[(a9 fC),ly];simp)) (λ_=>?_)}};show{_,9,_,_,9,.inl {_,bg.of x2.hl,9},_,9,8,8,λj m zs H3=>j<=de.length/\m=de.length -j/\aG H2 H3/\zs=List.replicate j (V.bl true),{_,aJ _,9,aG.refl _,9},?_};ext j m zs H3 ⟨hj,rfl,s3,rfl⟩;have lz:(List.replicate j (V.bl true)).length=j:=fV;by_cases bN:j<de.length
 ·show .inr {by change j<(ys.length:Int).toNat;lia,by rw[lz];show bq ∅,?_};ext u H4 ⟨rfl,rfl⟩;have x3:=x2.same s3;obtain⟨u,hu⟩:∃u,ys[j]?=some u:={_,av ∅};obtain⟨ad,had⟩:∃ad,gj[j]?=some ad:={_,av (x3.sw.len▸bN)};have ev:uX ys (0+(j:Int))=some u:=by rw[mI];show iK hu
  show{_,9,_,9,_,9,_,9,_,_,_,_,9,9,bg.of x3.hl,ev,_,u,hz,de,j,ad,by rw[mI];rfl,x3.qf,bN,x3.sw.at_ j u ad hu had,λH5 s5=>{de.length -(j+1),8,bN,9,s3.trans s5,sJ.symm}}
 ·show .inl {by change(ys.length:Int).toNat<=j;lia,by rw[lz];show bE (bq ∅),λl2 fw=>?_};have e0:FD (.bl false) (List.replicate j (V.bl true))=false:=Fb.mpr λy hy=>by rw[(oP.mp hy).2];decide
  show{l2,_,9,.inl (bg.of ar),9,bt.mpr λy hy=>by rw[(oP.mp hy).2];rfl,?_};rw[e0];show k _ (s1.trans (s2.trans (s3.trans (aD fw _))))
end
inductive P2(K:Frag)(vs:Aao)(H:Hp)(Q:VK)(_x3:XK):Prop
 |mk (fe:bn) (v f:V) (r fl l:bn) (gL ys:Aao) (bV:cN) (gj:List (Aaj)) (hz:Aah) (aP de:Aaa) (H0:Hp) (_:vs=[.ref fe,.ref r,v]) (_:eM K fe H) (_:QW H v hz aP) (_:JQ hz aP) (_:1<=aP.length) (_:Rb K H0 H r f fl l gL bV ys gj hz aP de) (_:∀H',eM K fe H'->Ext fe H H'->Q (.bl true) H')
section
variable{P:dL}{w:i3}{K:Frag}{mg:Aad}{base:i5}
structure Dag(P:dL)(w:i3)(K:Frag)(mg:Aad)(base:i5):Prop where
 fQ:b6 P w K mg base 1 "_law_draw" ["_law_feed_here","_law_many"] (zS K)
 Nt:b6 P w K mg base 2 "_law_new_values" ["_law_tables","_law_questions"] (T1 K)
 Yo:b6 P w K mg base 3 "_law_called" ["_law_feed_here","_law_question_here","_law_value"] (Mg K)
 least:b6 P w K mg base 28 "least" ["question"] (IQ K)
 vg:b6 P w K mg base 14 "_law_least_right" ["_law_found","_law_question_here"] (Me K)
def mS:bX ["_law_feed_here","_law_found","_law_question_here","_law_some","_law_show","_law_other"] ["_law_feed_here","_law_found","_law_question_here"] (bH rL):=gg 21
def Yb{f:bn}{fd:i8}(F:dH K "_law_asked_again" "_law_asked_again" rL f fd)(T:Txt K mg)(D:Dag P w K mg base):cH P w K mg base dZ 29 f fd ["_law_feed_here","_law_found","_law_question_here"] (P2 K):=by
 show F.ok mS 71;let(fe,v,g,r,fl,l,gL,ys,bV,gj,hz,aP,de,H0,rfl,hF,qw,vF,l1,x,k):=h;have ly:=x.sw.ly;have l8:=x.qf.l8;show{_,(aB (dW 3 mS (dS gS)) (aB (dM bG 9 (dO (bF bU (pv 1) aK (λ_ _=>9))) (gB 4 mS) (aO (dg (bZ wg (pv 4) gQ (cx _)) (aO (gn (jq bO eF eE yw (pv 3) (bR (cl D.Nt hr (cP (bF bU (pv 4) aK (λ_ _=>9)) (dS (bR (pv 2))))))))) cm))) (aB (dg (bZ (wY hr.rE) (pv 3) (dS gS) (cx _)) (aO (bJ fJ)) cm) (aB (dW 5 mS (cl D.Yo hr (lQ (pv 0) (pv 2) (bF eA (pv 3) (cl D.fQ hr (cP (pv 0) (bD cJ 9 T.dR bC (bR (pv 3))))) (λ_ _=>9))))) (aO (bJ (cl D.vg hr (cP (cl D.least hr (bR (pv 5))) (pv 5))))))))),?_}
 show{77,λsl Dd=>?_};have s1:aG H (upd H sl 70):=aD Dd _;have h1:upd H sl 70 sl=some (.lst (([]:Aah).map V.str)):=ar;show{_,9,_,_,_,_,9,9,ba.of (s1 _ _ x.hr),9,l,9,{_,bg.of (s1 _ _ x.hl)},KY (λi Z H2=>∃(x4:Aap)(zs:Aah),Z=[some (.ref fe),some (.ref r),some v,some (.ref sl),x4,none]/\aG H H2/\H2 sl=some (.lst (zs.map V.str))/\zs.length<=100000*i/\∀z∈zs,isVal z=true/\PyData.strOk z=true) {_,[],9,s1,h1,au _,λz h=>(by cases h)} (λi Z H2 _ hq=>by(let(__,__,__,s2,__):=hq;show bg.of (s2 _ _ x.hl))) ?_ ?_}
 ·ext i u Z H2 D1 hu ⟨x4,zs,rfl,s2,h2,lz,gz⟩ B6 _;have hi:=(aq.mp hu).1;obtain⟨ad,had⟩:∃ad,gj[i]?=some ad:={_,av (by rw[x.sw.len];lia)};have sh:=(x.same s2).sw.at_ i u ad hu had;cases sh with
  |b7 e _ _=>
   subst e;show{_,9,9,_,9,fB (B6 _ _ {_,zs,9,s2,h2,8,gz})}
  |BW r2 p wQ fs row er pR nR _ tb lf lr vr one other _=>
   subst er;show{_,9,9,_,9,ml ?_};show{_,9,.inl {9,_,bg.of h2},_,9,_,_,_,_,9,9,ba.of pR,9,_,9,(by change 1<=ca;decide),λql hql=>?_};have s3:aG H2 (upd H2 ql (.lst [v])):=aD hql _;have h3:upd H2 ql (.lst [v]) ql=some (.lst [v]):=ar;show{p,ql,v,fs,hz,aP,9,tb.same s3,lf,h3,qw.keep (cI.of (s2.trans s3)),λH4 nl us s4 nl0 Am lu gu=>?_};have rM:=s3.trans s4;show{sl,nl,_,_,9,9,(rM _ _ h2),Am,?_,B6 _ _ {_,zs++us,9,λb o e=>?_,by rw[ar,aF],by rw[aC];lia,λz ke=>?_}}
   ·rw[ah,ah];show bE (fY (m:=1000000) ∅ 7)
   ·rw[aM (bw e Dd)];show rM _ _ (s2 _ _ e)
   ·rcases aS.mp ke with h|h
    ·show gz z h
    ·show gu z h
 ·ext Z H2 ⟨x4,zs,rfl,s2,h2,lz,gz⟩;show{_,9,77,λl0 sT=>?_};have s3:aG H2 (upd H2 l0 70):=aD sT _;have h3:upd H2 l0 70 l0=some 70:=ar;generalize (upd H2 l0 70)=H3 at s3 h3⊢;have pP:=s2.trans s3;have rh:=hF.same pP;have HG:=s3 _ _ h2;show{_,_,_,9,9,bg.of HG,bg.of h3,_,9,?_};cases ez:zs with
  |nil=>show ml (k H3 rh (Ext.of pP))
  |cons z0 zr=>
   show fB ?_;have l1z:1<=zs.length:=by rw[ez];show gY (aJ _)
   have lz':(zs.map V.str).length=zs.length:=ah _;show{_,9,_,9,_,9,_,9,_,9,_,_,9,.inl {_,bg.of HG,9},fe,_,9,rh,8,8,λi4 H4 a0 a1 uT pS=>?_};let(z,ke,ev):=tP (zs:=zs) a0 ∅;let(vz,oz):=gz z ke;have aeH:=(Ext.of pP).trans pS;show{_,_,_,_,9,9,bg.of (pS _ _ (hF.vC Dd) HG),ev,fe,v,z,hz,aP,9,uT,qw.keep (hF.iX aeH),vF,l1,vz,oz,λr5 hz5 aeU H5 xj sV q5 ahA l15=>?_};show{_,9,_,hz5,aeU,9,q5,ahA.nU,λH6 r6 f6 fl6 l6 agm agn ys6 ahP ahO s6 x6=>{_,9,_,f6,r6,fl6,l6,agm,ys6,agn,ahP,hz5,aeU,ahO,H5,9,q5.keep (cI.of s6),l15,x6,λH7 s7=>?_}};show k H7 (xj.same (s6.trans s7)) ((aeH.trans sV).trans (Ext.of (s6.trans s7)))
theorem join_le{m:Nat}:∀{ts:Aah},(∀t∈ts,t.length<=m)->(Str.join ", " ts).length<=(m+2)*ts.length
 |[],_=>aJ _
 |[x],h=>by have:=h x aw;change x.length<=(m+2)*1;lia
 |x::y::r,h=>by have h1:=h x aw;have h2:=join_le λt ht=>h t (ay _ ht);have h3:(", ":io).length=2:=9;change(x++", "++Str.join ", " (y::r)).length<=(m+2)*((y::r).length+1);rw[iw,iw,Nat.mul_succ];lia
theorem OU{m:Nat}:∀{ds:List PyData},(∀d∈ds,d.shown.length<=m)->∀t∈PyData.shownAll ds,t.length<=m
 |[],_,t,ht=>by rw[PyData.shownAll_nil]at ht;cases ht
 |d::r,h,t,ht=>by
  rcases aN.mp ht with e|e
  ·rw[e];show h d aw
  ·show OU (λx hx=>h x (ay _ hx)) t e
def abN{m:Nat}{ds:List PyData}(h:∀d∈ds,d.shown.length<=m):(PyData.list ds).shown.length<=(m+2)*ds.length+2:=by have h1:=join_le (OU h);rw[zE]at h1;have e1:("[":io).length=1:=9;have e2:("]":io).length=1:=9;rw[PyData.shown_list,iw,iw];lia
def TC{m:Nat}{ds:List PyData}(h:∀d∈ds,d.shown.length<=m):(PyData.tuple ds).shown.length<=(m+2)*ds.length+3:=by
 have h1:=join_le (OU h);rw[zE]at h1;have e1:("(":io).length=1:=9;have e2:((if ds.length==1 then ",)"else ")":String):io).length<=2:=by split<;>decide
 rw[PyData.shown_tuple,iw,iw];lia
theorem Vl{m:Nat}:∀{kvs:List (PyData×PyData)},(∀p∈kvs,p.1.shown.length+p.2.shown.length<=m)->(∀t∈PyData.shownKv kvs,t.length<=m+2)/\(PyData.shownKv kvs).length=kvs.length
 |[],_=>by show{λt h=>(by cases h),9}
 |(k,v)::r,h=>by
  have h1:k.shown.length+v.shown.length<=m:=h _ aw;let(h2,h3):=Vl λx hx=>h x (ay _ hx);have e:(": ":io).length=2:=9;rw[PyData.shownKv_cons];show{λt ht=>?_,by rw[bx,h3];rfl};rcases aN.mp ht with q|q
  ·rw[q,iw,iw];lia
  ·show h2 t q
def TQ{z:io}(h:∀c∈z.cps.toList,c<0x110000):(PyData.str z).shown.length<=10*z.length+2:=by show StrLaws.reprText_len z λc hc=>br (h c hc) 7
def Ub{c:Nat}(h:sgn c=true):c<0x110000:=by
 unfold sgn at h;rw[StrLaws.found_one,iJ]at h;have:(Te.cps.toList.all λc=>decide (c<0x110000))=true:=by decide+kernel
 show aU (bt.mp this c h)
def LO{z:io}(h:isVal z=true):(PyData.str z).shown.length<=82:=by let(__,h):=h9.mp h;let(h1,h2):=h9.mp h;have h3:=aU h1;have h4:=TQ λc hc=>Ub (bt.mp h2 _ (bI hc));lia
def Mw{m n:Nat}{r:Aah}(h:∀z∈r,(PyData.str z).shown.length<=m)(l:r.length<=n):(j3 r).shown.length<=(m+2)*n+3:=by
 have h1:=TC λd hd=>by let(z,hz,rfl):=az.mp hd;show h z hz
 rw[ah]at h1;show bc h1 (sF (sZ _ l) 3)
def P9{m n:Nat}{rs:Aab}(h:∀r∈rs,(j3 r).shown.length<=m)(l:rs.length<=n):(f9 rs).shown.length<=(m+2)*n+2:=by
 have h1:=abN λd hd=>by let(r,hr,rfl):=az.mp hd;show h r hr
 rw[ah]at h1;show bc h1 (sF (sZ _ l) 2)
def Kw(e:En):PyData×PyData:=(.str e.nm,f9 e.rows)
def IL(fs:List En)(row:Aah):PyData:=.tuple [.dict (fs.map Kw),j3 row]
def P5(zs:Aah):PyData.showableAll (zs.map PyData.str)=true:=by
 induction zs with
 |nil=>rfl
 |cons z r ih=>rw[bo,PyData.showableAll,ih,PyData.showable];rfl
def P6(rs:Aab):PyData.showableAll (rs.map j3)=true:=by
 induction rs with
 |nil=>rfl
 |cons r t ih=>rw[bo,PyData.showableAll,ih,j3,PyData.showable,P5];rfl
def afo(fs:List En):PyData.showableKv (fs.map Kw)=true/\PyData.depthKv (fs.map Kw)<=2:=by
 induction fs with
 |nil=>show{9,aJ _}
 |cons e t ih=>
  have h1:=v7 e.rows;rw[bo,Kw,PyData.showableKv,PyData.depthKv,ih.1,PyData.showable,PyData.depth,f9,PyData.showable,PyData.depth,P6];show{9,8}
def abI(zs:Aah):PyData.hasDictAll (zs.map PyData.str)=false:=by
 induction zs with
 |nil=>rfl
 |cons z r ih=>rw[bo,PyData.hasDictAll,ih,PyData.hasDict];rfl
def abJ(rs:Aab):PyData.hasDictAll (rs.map j3)=false:=by
 induction rs with
 |nil=>rfl
 |cons r t ih=>rw[bo,PyData.hasDictAll,ih,j3,PyData.hasDict,abI];rfl
def acJ{K:Frag}{H:Hp}{p:bn}{fs:List En}{row:Aah}(tb:vm K H p fs)(lf:fs.length<=60)(lr:row.length<=4)(vr:∀z∈row,isVal z=true):(IL fs row).shown.length<=ca:=by
 have h1:(PyData.dict (fs.map Kw)).shown.length<=2000000:=by
  let(a,b):=Vl (kvs:=fs.map Kw) λx hx=>by let(e,he,rfl):=az.mp hx;let(v,__,__,__,l,g,__):=tb.en e he;show Nat.add_le_add (LO v) (P9 (m:=339) (λr hr=>Mw (m:=82) (λz hz=>LO ((g r hr).2.2 z hz).1) (g r hr).2.1) l)
  have c:=join_le a;rw[b,ah]at c;have e1:("{":io).length=1:=9;have e2:("}":io).length=1:=9;rw[PyData.shown_dict,iw,iw];lia
 have h2:=Mw (λz hz=>LO (vr z hz)) lr;show bc (TC λd hd=>?_) (show(2000000+2)*2+3<=ca by decide);rcases aN.mp hd with e|e
 ·rw[e];show h1
 ·rw[aA.mp e];lia
end
inductive Rp(K:Frag)(H:Hp)(S:Aaj):V->PyData->Prop
 |b7:Rp K H S .b7 .none
 |tab (r p rx:bn) (fs:List En) (row:Aah) (hr:ba K H r [.ref p,.ref rx]) (nR:ba K H rx (row.map V.str)) (tb:vm K H p fs) (lf:fs.length<=60) (lr:row.length<=4) (vr:∀z∈row,isVal z=true) (mp:p∈S) (me:∀e∈fs,e.ad∈S):Rp K H S (.ref r) (IL fs row)
def Rp.keep{K:Frag}{H H':Hp}{S:Aaj}{u:V}{d:PyData}(t:cu H H')(k:∀b v,b∈S->H b=some v->H' b=some v)(x:Rp K H S u d):Rp K H' S u d:=by
 cases x with
 |b7=>show .b7
 |tab r p rx fs row hr nR tb lf lr vr mp me=>
  show .tab r p rx fs row (dh hr t) (dh nR t) {k _ _ mp tb.at_,tb.nm,λe he=>?_} lf lr vr mp me;let(h1,h2,h3,h4):=tb.en e he;show{h1,k _ _ (me e he) h2,iG h3 t,h4}
theorem G3{h:i5}:∀{zs:Aah}{us:Aag},Vals (zs.map V.str) us->K' h us (zs.map PyData.str) []
 |[],_,.nil=>.nil
 |z::_,_,.cons ⟨t,e⟩ q=>by subst e;show .cons (.str z t) (G3 q)
section
variable{X:Cx}{bi:Aac}{Z:L2.St}{H:Hp}{s:cr}
def row_reads(I:Inv X bi Z H s){a:bn}{r:Aah}(h:ba X.K H a (r.map V.str)):W' s.heap 68 (j3 r) []:=by obtain⟨aY,rv,⟨o,e,c,n,d⟩,_⟩:=I.tuple h;show .tuple e c d (by simpa using G3 rv)
theorem Hh(I:Inv X bi Z H s):∀{ys:Aao}{rows:Aab}{us:Aag},d7 X.K H ys rows->Vals ys us->K' s.heap us (rows.map j3) []
 |_,_,_,.nil,.nil=>.nil
 |_,_,_,.cons ⟨a,e,h⟩ t,.cons r q=>by subst e;cases r;show .cons (row_reads I h) (Hh I t q)
def Hw(I:Inv X bi Z H s){a:bn}{ys:Aao}{rows:Aab}(ha:H a=some (.lst ys))(ra:d7 X.K H ys rows):W' s.heap 68 (f9 rows) [a]:=by obtain⟨aY,rv,⟨o,n,e,c,_,d⟩,_⟩:=I.list (bg.of ha);show .list e c d (by simpa using Hh I ra rv)
theorem HX(I:Inv X bi Z H s):∀{fs:List En}{es:List Ch},(∀e∈fs,H e.ad=some (.lst e.ys)/\d7 X.K H e.ys e.rows)->Paired (λ(p:V×V)(e:Ch)=>RelV p.1 e.key/\RelV p.2 e.val) ((fs.map gC).map λp=>(kV p.1,p.2)) es->
  K' s.heap (es.map (·.key)) ((fs.map Kw).map (·.1)) []/\K' s.heap (es.map (·.val)) ((fs.map Kw).map (·.2)) (fs.map (·.ad))
 |[],_,_,.nil=>{.nil,.nil}
 |f::fs,e::es,h,.cons ⟨⟨t,e1⟩,r2⟩ q=>by
  let(a,b):=HX I (λx hx=>h x (ay _ hx)) q;let(g1,g2):=h f aw;have e2:e.val=.ref f.ad:=by generalize e.val=v at r2;cases r2;rfl
  show{.cons (as:=[]) ?_ a,.cons (as:=[f.ad]) ?_ b}
  ·change W' s.heap e.key _ _;rw[e1];show .str _ t
  ·change W' s.heap e.val _ _;rw[e2];show Hw I g1 g2
def yJ{K:Frag}(hg:X.A.guards=some [])(hu:X.A.units+64<v6)(sm:∃o,K.lookup re=some o)(hK:X.K=K:=by rfl):gJ X (.builtin "repr") (λxs H Q=>∃x d,xs=[x]/\((∃S,Rp K H S x d)\/∃a ys rows,x=.ref a/\d=f9 rows/\H a=some (.lst ys)/\d7 K H ys rows/\d.shown.length<=ca)/\Q (.str d.shown) H):=by
 subst hK;ext bi s Z H xs us Q I rs h;let(x,d,rfl,h,q):=h;let(u,rfl,ru):=jn rs;have fin:∀h' u tk,(∀b o,s.heap.get? b=some o->h'.get? b=some o)->EP X bi Z Q (.str d.shown u) {s with heap:=h',toks:=tk}:=λh' u tk hk=>{.str d.shown,H,I.kept hk,⟨_,rfl⟩,q};have no:H re=none:=by let(o,e):=sm;show(I.bs _ _ (I.mod.Qu _ _ e)).2
 have nn:∀b v,H b=some v->re≠b:=λb v e z=>by rw[<-z,no]at e;cases e
 rcases h with⟨S,h⟩|⟨a,ys,rows,rfl,rfl,ha,ra,hz⟩;rotate_left
 ·cases ru;have h1:=v7 rows;show repr_of_reads' (Hw I ha ra) (by rw[f9,PyData.showable,P6]) (PyData.noDict_hsm (by rw[f9,PyData.hasDict,abJ])) hg ?_ (λ_ _ e=>e) fin hz;rw[f9,PyData.depth];lia
 cases h with
 |b7=>
  cases ru;show P.repr_of_none (fin _ _ _ λ_ _ e=>e)
 |tab r p rx fs row hr nR tb lf lr vr mp me=>
  cases ru;let(lo,o,es,ep,ga,ex,hd,pr):=EL (I.bK p _ tb.at_) (.inl ⟨_,rfl,rfl⟩);let(k1,k2):=HX I (λe he=>{(tb.en e he).2.1,(tb.en e he).2.2.1}) pr;obtain⟨aY,rv,⟨o2,e2,c2,n2,d2⟩,_⟩:=I.tuple hr;let(s1,s2):=afo fs;have s3:=pD row;have rd:W' s.heap (.ref r) (IL fs row) (p::fs.map (·.ad)):=by
   cases rv with
   |cons q1 rv=>cases q1;cases rv with
    |cons q2 rv=>
     cases q2;cases rv;have:=Reads.tuple e2 c2 d2 (ReadsAll.cons (Reads.dict ga ex.1 hd k1 k2) (ReadsAll.cons (row_reads I nR) .nil));simpa[IL]using this
  show repr_of_reads' rd ?_ (λ_ hm=>?_) hg ?_ (λ_ _ e=>e) fin (acJ tb lf lr vr)
  ·rw[IL,PyData.showable,PyData.showableAll,PyData.showable,s1,PyData.showableAll,j3,PyData.showable,P5];rfl
  ·rcases aN.mp hm with e|e
   ·show nn _ _ tb.at_ e
   ·let(x,hx,e):=az.mp e;show nn _ _ (tb.en x hx).2.1 e.symm
  ·rw[IL,PyData.depth,PyData.depthAll,PyData.depth,PyData.depthAll,j3,PyData.depth,PyData.depthAll];lia
theorem Ox{A:mo}:∀{zs:Aah}{us ws:Aag},Vals (zs.map V.str) us->Vals (zs.map V.str) ws->∀j(h1:j<us.length)(h2:j<ws.length),SeqAt.EqAt A s us[j] ws[j] true
 |[],_,_,.nil,.nil,j,h,_=>absurd h (eC _)
 |z::_,_,_,.cons ⟨t,e⟩ q,.cons ⟨t2,e2⟩ q2,0,_,_=>by subst e e2;have:=D6 (A:=A) (s:=s) z t z t2;rw[qI]at this;show this
 |_::_,_,_,.cons _ q,.cons _ q2,j+1,h1,h2=>Ox q q2 j (zH h1) (zH h2)
def adC{X:Cx}(hu:X.A.units<v6):iT X (on .NotEq) (λx y H Q=>∃(a b:bn)(zs:Aah),x=.ref a/\y=.ref b/\bg X.K H a (zs.map V.str)/\bg X.K H b (zs.map V.str)/\Q (.bl false) H):=by
 ext bi s Z H x y v u Q I rx ry h;let(a,b,zs,rfl,rfl,ha,hb,q):=h;cases rx;cases ry;let(i1,r1,p1,__):=I.list ha;let(i2,r2,p2,__):=I.list hb;have l1:=r1.length;have l2:=r2.length;show D5 (e:=λ_=>true) p1.isList p2.isList (by simp;lia) hu (λj j1 j2=>?_) 57 X.w _ _ ?_
 ·simpa using Ox r1 r2 j (by simpa using j1) (by simpa using j2)
 ·have:(List.range i1.toArray.size).all (λ_=>true)=true:=by simp
  rw[this];show{.bl false,H,I,9,q}
end
end oR
namespace L2
open PySem PySem.Spec PyProof.Rows
section
variable{X:Cx}
inductive abj(x:V)(vs:Aao)(H:Hp)(Q:VK):Prop
 |mk d kvs (_:x=.ref d) (_:vs=[]) (_:H d=some (.dK kvs)) (_:Q .b7 (upd H d (.dK [])))
def U6:Ll X "dict.clear" abj:=by ext bi s Z H x vs v us Q I rx rv h;let(d,kvs,rfl,rfl,hd,q):=h;cases rx;obtain rfl:=rv.zero;show aco I hd λs' I'=>{.b7,_,I',9,q}
end
end L2
namespace oR
open PySem PySem.Spec PyProof.Rows L2 aH
seal L2.PE L2.PT L2.PW L2.PA L2.PS L2.qr L2.PI L2.PO L2.Lk L2.PG L2.ID
def Oq{gj:List (Aaj)}(nd:gj.flatten.Nodup){i j:Nat}{x y:Aaj}(hi:gj[i]?=some x)(hj:gj[j]?=some y)(n:i≠j):∀a∈x,a∉y:=λa ha hb=>by
 let(h1,e1):=aq.mp hi;let(h2,e2):=aq.mp hj;subst e1 e2;have pw:=kq.mp (List.pairwise_flatten.mp nd).2;rcases Nat.lt_or_gt_of_ne n with q|q
 ·show pw i j h1 h2 q a ha a hb rfl
 ·show pw j i h2 h1 q a hb a ha rfl
theorem Kn{α β:Type}{R:α->β->Prop}:∀{l:List α},(∀x∈l,∃y,R x y)->∃m,Paired R l m
 |[],_=>{[],.nil}
 |x::_,h=>
  have⟨y,hy⟩:=h x aw;have⟨m,hm⟩:=Kn λz hz=>h z (ay _ hz)
  {y::m,.cons hy hm}
theorem Ko{α β:Type}{R:α->β->Prop}:∀{l:List α}{m:List β},Paired R l m->∀{i:Nat}{x:α},l[i]?=some x->∃y,m[i]?=some y/\R x y
 |_,_,.nil,_,_,h=>by cases h
 |_,_,.cons hr _,0,_,h=>by cases h;show⟨_,rfl,hr⟩
 |_,_,.cons _ t,_+1,_,h=>Ko t h
abbrev WI(K:Frag)(H:Hp)(S0:Aaj):Aao->Aah->Prop:=Paired λu t=>∃S d,Rp K H S u d/\(∀a∈S,a∉S0)/\t=d.shown
def WI.keep{K:Frag}{H H':Hp}{S0:Aaj}{us:Aao}{ts:Aah}(t:cu H H')(k:∀b v,b∉S0->H b=some v->H' b=some v)(h:WI K H S0 us ts):WI K H' S0 us ts:=Paired.imp' (λ_ _ ⟨S,d,x,n,e⟩=>{S,d,x.keep t λb v m=>k b v (n b m),n,e}) h
section
variable{P:dL}{w:i3}{K:Frag}{mg:Aad}{base:i5}
def nw{H:Hp}{vs:Aao}{Q:VK}(k:∀p H',H p=none->aG H H'->H' p=some (.lst vs)->Q (.ref p) H')(p:bn)(hp:H p=none):Q (.ref p) (upd H p (.lst vs)):=k p _ hp (aD hp _) ar
def Hj{a:bn}{H:Hp}{xs:Aao}{lo hi:Option Int}{Q:VK}(ha:H a=some (.lst xs))(k:∀p H',H p=none->aG H H'->H' p=some (.lst (qH xs lo hi))->Q (.ref p) H'):Xy K 68 lo hi H Q:={a,xs,9,bg.of ha,nw k}
def Ey{a b:bn}{H:Hp}{xs ys:Aao}{Q:VK}(ha:H a=some (.lst xs))(hb:H b=some (.lst ys))(hl:96+ys.length<=1000)(k:∀p H',H p=none->aG H H'->H' p=some (.lst (xs++ys))->Q (.ref p) H'):ado 68 (.ref b) H Q:={a,b,xs,ys,9,9,ha,hb,bE (bq hl),nw k}
def MB{te:TE}{fr:List Nat}{Z:L2.St}{H:Hp}{R:bn->Aao->Hp->Prop}{a:bn}{us:Aao}{ts:Aah}{S0:Aaj}(ha:H a=some (.lst us))(lu:us.length<=100)(h:WI K H S0 us ts)
  (hte:∀u d Q,(∃S,Rp K H S u d)->Q (.str d.shown) H->te (some u::slotsOf fr Z) H Q) (k:∀l,H l=none->R l (ts.map V.str) H):xO (Rf K a) fr AN te Z H R:=by
 show ji (xs:=us) (λi ys H2=>H2=H/\i<=us.length/\ys=(ts.take i).map V.str) (bq ∅) {9,aJ _,9} ?_ ?_ ?_
 ·ext i ys H2 hi ⟨rfl,_,rfl⟩;show{bg.of ha,?_};rw[ah,aV];lia
 ·ext i x ys H2 N hx ⟨rfl,hi,rfl⟩ hN;let(t,ht,S,d,rp,__,e):=Ko h hx;show hte x d _ ⟨S,rp⟩ (hN _ _ {9,(aq.mp hx).1,?_});rw[bh,ht,aF,e];rfl
 ·ext ys H2 ⟨rfl,_,rfl⟩ l hl;rw[(a9 h),aT];show k l hl
inductive P1(K:Frag)(vs:Aao)(H:Hp)(Q:VK)(_x3:XK):Prop
 |mk (r fl l:bn) (f:V) (gL ys:Aao) (rows:Aab) (gj:List (Aaj)) (_:vs=[.ref r]) (_:H r=some (.tup [f,.ref fl,.ref l])) (_:H fl=some (.lst gL)) (_:d7 K H gL rows) (_:(f9 rows).shown.length<=ca) (_:H l=some (.lst ys)) (_:ys.length<=08) (_:gj.length=ys.length) (_:(∀(j:Nat) u S,ys[j]?=some u->gj[j]?=some S->∃d,Rp K H S u d)) (_:gj.flatten.Nodup) (_:(∀a∈gj.flatten,a≠fl/\a≠l/\∃o,H a=some o)) (_:∀H',(∀b u,b∉gj.flatten->H b=some u->H' b=some u)->cu H H'->Q (.bl true) H')
def vU:bX ["_law_found","_law_k","_law_kept","_law_name"] ["_law_found"] (bH CI):=gg 21
def X9{f:bn}{fd:i8}(F:dH K "_law_apart" "_law_apart" CI f fd)(T:Txt K mg):cH P w K mg base dZ 1 f fd ["_law_found"] (P1 K):=by
 show F.ok vU 71;let(r,fl,l,g,gL,ys,rows,gj,rfl,yB,xh,nR,hz,hl,l8,la,at_,nd,DD,k):=h;show{_,(aB (dM bG 9 (jL 9 T.kZ (bR (bD cJ 9 T.dR bC (bR (bF bU (pv 0) aK (λ_ _=>9)))))) (gB 1 vU) (aB (dW 2 vU (cL rQ (je 9 (cR (fs:=[]) (fr:=[])) (dO (cL rQ (ia oY (bF bU (pv 0) aK (λ_ _=>9)) jw (iH (pv 1))) (ia oY (bF bU (pv 0) aK (λ_ _=>9)) (iH (cL iI (pv 1) aK)) jw))) (λ_ _ _ _=>(bD (yJ hr.gd hr.units T.Rw) 9 T.Hu 21 (bR (pv 0))))) (dS (bR (bD (yJ hr.gd hr.units T.Rw) 9 T.Hu 21 (bR (bF bU (pv 0) aK (λ_ _=>9)))))))) (aB (dg (bZ wg (bF eA (bF bU (pv 0) aK (λ_ _=>9)) (pv 1) (λ_ _=>9)) gQ (cx _)) (aB (MD (dM bG 9 (MK (bF bU (bF eA (bF bU (pv 0) aK (λ_ _=>9)) (pv 1) (λ_ _=>9)) aK (λ_ _=>9))) (gB 3 vU) (aO (gn (MQ bO xW xU Nf (Jd (nQ hr) (bF bU (bF eA (bF bU (pv 0) aK (λ_ _=>9)) (pv 1) (λ_ _=>9)) aK (λ_ _=>9)) (pv 3) (λ_ _=>9))))))) (aO (gn (MQ dY xY PySem.F.type_dict_clear U6 (bF bU (bF eA (bF bU (pv 0) aK (λ_ _=>9)) (pv 1) (λ_ _=>9)) aK (λ_ _=>9)))))) cm) (aO (dg (bZ (adC hr.rE) (pv 2) (cL rQ (je 9 (cR (fs:=[]) (fr:=[])) (dO (cL rQ (ia oY (bF bU (pv 0) aK (λ_ _=>9)) jw (iH (pv 1))) (ia oY (bF bU (pv 0) aK (λ_ _=>9)) (iH (cL iI (pv 1) aK)) jw))) (λ_ _ _ _=>(bD (yJ hr.gd hr.units T.Rw) 9 T.Hu 21 (bR (pv 0))))) (dS (bR (bD (yJ hr.gd hr.units T.Rw) 9 T.Hu 21 (bR (bF bU (pv 0) aK (λ_ _=>9))))))) (cx _)) (aO (bJ fJ)) cm))))) (aO (bJ fJ))),?_}
 show{_,9,_,_,_,_,9,9,ba.of yB,9,_,_,9,.inl {_,bg.of hl,9},_,9,8,8,v5 (λi Z H2=>∃x1 x2 x3:Aap,Z=[some (.ref r),x1,x2,x3]/\(∀b u,b∉gj.flatten->H b=some u->H2 b=some u)/\cu H H2/\(∀(j:Nat) u S,ys[j]?=some u->gj[j]?=some S->∃d,Rp K H2 S u d)/\∀a∈gj.flatten,∃o,H2 a=some o) {_,_,_,9,λ_ _ _ h=>h,cu.refl H,at_,λa ha=>(DD a ha).2.2} ?_ ?_}
 ·ext i Z H2 D1 hi ⟨x1,x2,x3,rfl,k2,t2,at2,o2⟩ B6 _;obtain⟨u,hu0⟩:∃u,ys[i]?=some u:={_,av hi};obtain⟨S0,hZ⟩:∃S0,gj[i]?=some S0:={_,av (la▸hi)};rw[mI];have others:∀j x,j≠i->ys[j]?=some x->∃t:io,∃S d,Rp K H2 S x d/\(∀a∈S,a∉S0)/\t=d.shown:=λj x n h=>by obtain⟨S,hS⟩:∃S,gj[j]?=some S:={_,av (by rw[la];show(aq.mp h).1)};let(d,hd):=at2 j x S h hS;show{_,S,d,hd,Oq nd hS hZ n,9}
  obtain⟨ts,B1⟩:∃ts,WI K H2 S0 (ys.take i++ys.drop (i+1)) ts:=Kn λx hx=>by
   rcases aS.mp hx with h|h
   ·let(j,hj):=dy.mp h;rw[u3]at hj;split at hj
    ·show others j x ∅ hj
    ·cases hj
   ·let(j,hj):=dy.mp h;rw[Ee]at hj;show others _ x ∅ hj
  have inZ:∀a∈S0,a∈gj.flatten:=λa ha=>gf.mpr {S0,aE hZ,ha};have nl:=λh=>(DD _ (inZ _ h)).2.1 rfl;have lu:(ys.take i).length+(ys.drop (i+1)).length<=100:=by rw[aV,c9];lia
  have lt:ts.length<=08:=by rw[<-a9 B1,aC,aV,c9];lia
  have pR:ba K H2 r [g,.ref fl,.ref l]:=dh (ba.of yB) t2;have Di:=k2 _ _ (λh=>(DD _ h).1 9) xh;have fw:=k2 _ _ (λh=>(DD _ h).2.1 9) hl;have ra2:=iG nR t2;show{_,9,_,_,_,_,9,9,pR,9,mj {_,9,_,9,Hj fw λp1 H3 _ s3 h3=>?_}};show{_,9,_,_,_,_,9,9,dh pR (cu.same s3),9,_,9,_,_,9,9,_,9,mj (Hj (s3 _ _ fw) λp2 H4 _ s4 h4=>?_)};rw[uc]at h3;rw[show(i:Int)+1=((i+1:Nat):Int)from rfl,ub]at h4;show Ey (s4 _ _ h3) h4 (bc lu 7) λp3 H5 _ s5 h5=>?_;have sS:=s3.trans (s4.trans s5);show{p3,9,{_,bg.of h5},MB h5 (aC▸lu) (B1.keep (cu.same sS) λb v _=>sS b v) (λu d Q x q=>{_,9,u,d,9,.inl x,q}) λl6 NT=>?_};have s6:aG H5 (upd H5 l6 (.lst (ts.map V.str))):=aD NT _;have h6:upd H5 l6 (.lst (ts.map V.str)) l6=some (.lst (ts.map V.str)):=ar;generalize upd H5 l6 (.lst (ts.map V.str))=H6 at s6 h6⊢;have Fs:=sS.trans s6;show{_,9,_,_,_,_,9,9,dh pR (cu.same Fs),9,_,_,9,.inr {fl,gL,rows,9,9,Fs _ _ Di,iG ra2 (cu.same Fs),hz},(by change 1<=ca;decide),λl7 QL=>?_};have s7:aG H6 (upd H6 l7 (.lst [V.str (f9 rows).shown])):=aD QL _;have h7:upd H6 l7 (.lst [V.str (f9 rows).shown]) l7=some (.lst [V.str (f9 rows).shown]):=ar;show Ey (s7 _ _ h6) h7 (by rw[ah];change ts.length+1<=1000;lia) λkl H8 hkl s8 h8=>?_;have yp:=Fs.trans (s7.trans s8);have TL:=cu.same yp;have FH:=dh pR TL;have FJ:=yp _ _ fw;dsimp only;show Hc λR hR=>?_;have fin:∀(x3:Aap)(H9:Hp),(∀b v,b∉S0->H8 b=some v->H9 b=some v)->cu H8 H9->(∃d,Rp K H9 S0 u d)->(∀b v,H8 b=some v->∃o,H9 b=some o)->R [some (.ref r),some (.int (i:Int)),some (.ref kl),x3] H9:=λx3 H9 k9 t9 ⟨d9,rp9⟩ o9=>hR _ _ (by
   have Xr:=yp;have QE:=dh FH t9;have hl9:=k9 _ _ nl FJ;have N3:=k9 _ _ (λh=>(DD _ (inZ _ h)).1 9) (yp _ _ Di);have hk9:=k9 _ _ (λh=>by let(o,e):=o2 kl (inZ _ h);rw[((Fs.trans s7).free hkl)]at e;cases e) h8
   show{_,9,_,9,_,_,_,_,9,9,QE,9,mj {_,9,_,9,Hj hl9 λp1 H3 _ s3 h3=>?_}};show{_,9,_,_,_,_,9,9,dh QE (cu.same s3),9,_,9,_,_,9,9,_,9,mj (Hj (s3 _ _ hl9) λp2 H4 _ s4 h4=>?_)};rw[uc]at h3;rw[show(i:Int)+1=((i+1:Nat):Int)from rfl,ub]at h4;show Ey (s4 _ _ h3) h4 (bc lu 7) λp3 H5 _ s5 h5=>?_;have sS:=s3.trans (s4.trans s5);show{p3,9,{_,bg.of h5},MB h5 (aC▸lu) ((B1.keep (TL.trans t9) λb v n h=>k9 b v n (yp b v h)).keep (cu.same sS) λb v _=>sS b v) (λu d Q x q=>{_,9,u,d,9,.inl x,q}) λl6 NT=>?_};have s6:aG H5 (upd H5 l6 (.lst (ts.map V.str))):=aD NT _;have h6:upd H5 l6 (.lst (ts.map V.str)) l6=some (.lst (ts.map V.str)):=ar;generalize upd H5 l6 (.lst (ts.map V.str))=H6 at s6 h6⊢;have Fs:=sS.trans s6;show{_,9,_,_,_,_,9,9,dh QE (cu.same Fs),9,_,_,9,.inr {fl,gL,rows,9,9,Fs _ _ N3,iG (iG ra2 (TL.trans t9)) (cu.same Fs),hz},(by change 1<=ca;decide),λl7 QL=>?_};have s7:aG H6 (upd H6 l7 (.lst [V.str (f9 rows).shown])):=aD QL _;have h7:upd H6 l7 (.lst [V.str (f9 rows).shown]) l7=some (.lst [V.str (f9 rows).shown]):=ar;show Ey (s7 _ _ h6) h7 (by rw[ah];change ts.length+1<=1000;lia) λul H8 _ s8 h8=>?_;have yp:=Fs.trans (s7.trans s8);have e8:ts.map V.str++[V.str (f9 rows).shown]=(ts++[(f9 rows).shown]).map V.str:=by rw[aF];rfl
   rw[e8]at h8 hk9;have t08:=TL.trans (t9.trans (cu.same yp));show{kl,ul,_,9,9,bg.of (yp _ _ hk9),bg.of h8,_,9,fB (B6 _ _ {_,_,_,9,λb v n h=>yp _ _ (k9 b v (λq=>n (inZ b q)) (Xr _ _ (k2 b v n h))),t2.trans t08,λj x S h1 h2=>?_,λa ha=>?_})}
   ·by_cases c:j=i
    ·subst c;rw[hu0]at h1;rw[hZ]at h2;cases h1;cases h2;show{d9,rp9.keep (cu.same yp) λb v _=>yp b v}
    ·let(d',q):=at2 j x S h1 h2;show{d',q.keep t08 λb v m h=>yp _ _ (k9 b v (Oq nd h2 hZ c b m) (Xr b v h))}
   ·let(o,e):=o2 a ha;let(o',e'):=o9 a o (Xr _ _ e);show{o',yp _ _ e'})
  let(d,hd):=at2 i u S0 hu0 hZ;have hd:=hd.keep TL λb v _=>yp b v;have ev:=iK hu0;show{_,9,_,_,_,_,9,9,FH,9,_,9,_,_,_,_,9,9,bg.of FJ,ev,?_};cases hd with
  |b7=>show{9,_,9,fB (fin _ H8 (λ_ _ _ h=>h) (cu.refl _) {_,.b7} λ_ v h=>⟨v,h⟩)}
  |tab q p wQ fs row hq kK tb lf lr vr mp me=>
   show{9,_,9,ml ?_};show{p,(λo v e=>by rw[tb.at_]at e;cases e),_,9,_,_,_,_,9,9,FH,9,_,9,_,_,_,_,9,9,bg.of FJ,ev,_,_,_,_,9,9,hq,9,p,_,_,9,tb.at_,.inl ⟨_,rfl,rfl⟩,λo=>?_};have jB:upd H8 p (.fX o 78) p=some (.fX o 78):=ar;have t1:cu H8 (upd H8 p (.fX o 78)):=cu.upd (tR tb.at_);have b1:∀b v,b≠p->H8 b=some v->upd H8 p (.fX o 78) b=some v:=λb v n h=>aM n▸h;generalize (upd H8 p (.fX o 78))=H1 at jB t1 b1⊢;have nea:∀e∈fs,e.ad≠p:=λe he z=>by have:=(tb.en e he).2.1;rw[z,tb.at_]at this;cases this
   have Qm:l≠p:=λe=>nl (e▸mp);have nle:∀e∈fs,l≠e.ad:=λe he z=>nl (z▸me e he);show SF (λj Z Hx=>∃x3:Aap,Z=[some (.ref r),some (.int (i:Int)),some (.ref kl),x3]/\(∀b v,(∀e∈fs,b≠e.ad)->H1 b=some v->Hx b=some v)/\cu H1 Hx/\∀e∈fs,∃ys,Hx e.ad=some (.lst ys)) {_,9,λb v _ h=>h,cu.refl _,λe he=>{_,b1 _ _ (nea e he) (tb.en e he).2.1}} ?_ ?_ ?_
   ·ext j Z Hx hj ⟨_,rfl,kx,_,_⟩;show kx _ _ (λe he=>(nea e he).symm) jB
   ·ext j kv Z Hx D2 qo ⟨_,rfl,kx,tx,lx⟩ QQ _;rw[b8,aZ]at qo;let(e,N6,Wm):=bA.mp qo;subst Wm;have he:=aE N6;let(zs,hzs):=lx e he;show{_,9,_,_,_,_,9,9,dh (dh FH t1) tx,9,_,9,_,_,_,_,9,9,bg.of (kx _ _ nle (b1 _ _ Qm FJ)),ev,_,_,_,_,9,9,dh (dh hq t1) tx,9,_,9,p,.ref e.ad,9,.inl {fs.map gC,Sum.inr e.nm,.inr {o,(kx _ _ (λe he=>(nea e he).symm) jB)},9,(tG tb.nm he).symm},.inl {9,_,bg.of hzs},_,_,9,9,hzs,QQ _ _ {_,9,λb v n h=>?_,tx.trans (cu.upd (yt hzs)),λe' KL=>?_}}
    ·rw[aM (n e he)];show kx b v n h
    ·by_cases c:e'.ad=e.ad
     ·show{[],by rw[c,ar]}
     ·let(JU,h'):=lx e' KL;show{JU,aM c▸h'}
   ·ext Z Hx ⟨x3,rfl,kx,tx,lx⟩;have hpx:=kx _ _ (λe he=>(nea e he).symm) jB;show{o,_,hpx,?_};have ty:cu H8 (upd Hx p 78):=(t1.trans tx).trans (cu.upd (λxs z=>by rcases z with z|⟨_,z⟩<;>rw[hpx]at z<;>cases z));have hly:upd Hx p 78 l=some (.lst ys):=by rw[aM Qm];show kx _ _ nle (b1 _ _ Qm FJ)
    have B3:upd Hx p 78 p=some 78:=ar;show{_,9,_,_,_,_,9,9,dh FH ty,9,_,9,_,_,_,_,9,9,bg.of hly,ev,_,_,_,_,9,9,dh hq ty,9,.inr (.inr (.inl {9,.inl ⟨_,B3⟩})),p,_,9,9,B3,?_};have tz:cu H8 (upd (upd Hx p 78) p 69):=ty.trans (cu.upd (tR B3));have aeC:∀b v,b≠p->(∀e∈fs,b≠e.ad)->H8 b=some v->upd (upd Hx p 78) p 69 b=some v:=λb v n1 n2 h=>by rw[aM n1,aM n1];show kx b v n2 (b1 b v n1 h)
    show fin _ _ (λb v n h=>aeC b v (λe=>n (e▸mp)) (λe he z=>n (z▸me e he)) h) tz {_,.tab q p wQ [] row (dh hq tz) (dh kK tz) {ar,dq,λe h=>(by cases h)} (aJ _) lr vr mp λe h=>(by cases h)} λb v h=>?_;by_cases c:b=p
    ·show{_,by rw[c,ar]}
    by_cases c2:∃e∈fs,b=e.ad
    ·let(e,he,z):=c2;let(zs,h'):=lx e he;show{_,by rw[aM c,aM c,z];show h'}
    ·show{v,aeC b v c (λe he z=>c2 ⟨e,he,z⟩) h}
 ·ext Z H2 ⟨x1,x2,x3,rfl,k2,t2,_⟩;show k H2 k2 t2
def Xo{f:bn}{H H1 H2:Hp}(s:aG H H1)(hf:H f=none)(e:Ext f H1 H2):aG H H2:=λb u q=>e b u (bw q hf) (s b u q)
def Lj.same{K:Frag}{H H':Hp}{a:bn}{xs:Aao}(h:Lj K H a xs)(s:aG H H'):Lj K H' a xs:=by
 rcases h with⟨o,h⟩|h
 ·show .inl {o,s _ _ h}
 ·show .inr h
def eM.tps{K:Frag}{f:bn}{H H':Hp}(h:eM K f H)(e:Ext f H H'):cu H H':=λb xs q=>by
 let(x,y,z,hf):=h;rcases q with q|⟨o,q⟩
 ·show .inl (e b _ (λc=>by rw[c,hf]at q;cases q) q)
 ·show .inr {o,e b _ (λc=>by rw[c,hf]at q;cases q) q}
theorem MF{K:Frag}{H:Hp}:∀{gL:Aao}{bV:cN},xD H gL bV->d7 K H gL (bV.map λp=>[p.1,p.2])
 |_,_,.nil=>.nil
 |_,_,.cons ⟨a,e,h⟩ t=>.cons {a,e,ba.of h} (MF t)
def adt{bV:cN}(g:ET bV)(l:bV.length<=100):(f9 (bV.map λp=>[p.1,p.2])).shown.length<=ca:=by
 have sl:∀z∈PT,(PyData.str z).shown.length<=1002:=λz hz=>by have h1:=(IC hz).2;unfold PyData.strOk at h1;rw[<-xR,bt]at h1;have h2:=TQ λc hc=>aU (h1 c hc);have h3:=(IC hz).1;lia
 show bc (P9 (m:=2011) (λr hr=>?_) (by rw[ah];show l)) 7;let(p,hp,rfl):=az.mp hr;show Mw (m:=1002) (λz hz=>?_) (au _);rcases aN.mp hz with e|e
 ·rw[e];show sl _ (g p hp).1
 ·rw[aA.mp e];show sl _ (g p hp).2
def FX.rp{H:Hp}{v:V}{hz:Aah}{aP:Aaa}{j:Nat}{ad:Aaj}(x:FX K H v hz aP j ad):∃d,Rp K H ad v d:=by
 cases x with
 |b7 e nb ea=>
  subst e;show{_,.b7}
 |BW r p rw fs row er hr nR bd tb lf lr vr one other ea=>
  subst er ea;show{_,.tab r p rw fs row (ba.of hr) (ba.of nR) tb lf lr vr aw λe he=>ay _ (bI he)}
structure Dl(P:dL)(w:i3)(K:Frag)(mg:Aad)(base:i5):Prop where
 ad1:b6 P w K mg base 1 "_law_feed" ["_law_script","_law_k"] (T4 K)
 fQ:b6 P w K mg base 1 "_law_draw" ["_law_feed_here","_law_many"] (zS K)
 EF:b6 P w K mg base 2 "_law_words" ["_law_feed_here","_law_many"] (IP K)
 Hz:b6 P w K mg base 3 "_law_question" ["_law_feed_here","_law_names","_law_most"] (Fj K)
 Yn:b6 P w K mg base 2 "_law_copied" ["_law_feed_here","_law_question_here","_law_many"] (Mf K)
 least:b6 P w K mg base 28 "least" ["question"] (IQ K)
 vg:b6 P w K mg base 14 "_law_least_right" ["_law_found","_law_question_here"] (Me K)
 LA:b6 P w K mg base 29 "_law_asked_again" ["_law_feed_here","_law_found","_law_question_here"] (P2 K)
 abT:b6 P w K mg base 1 "_law_apart" ["_law_found"] (P1 K)
inductive LG(K:Frag)(vs:Aao)(H:Hp)(Q:VK)(_x3:XK):Prop
 |mk (a:bn) (ns:List Int) (_:vs=[.ref a]) (_:Lj K H a (ns.map V.int)) (_:ns.length<=63) (_:∀H',Q (.bl true) H')
def uM:bX ["_law_script","_law_j","_law_feed_here","_law_names","_law_question_here","_law_turn","_law_found"] ["_law_script"] (bH RF):=gg 21
def adI(F:dH K "law" "law" RF f fd)(T:Txt K mg)(D:Dl P w K mg base):cH P w K mg base dZ 30 f fd ["_law_script"] (LG K):=by
 show F.ok uM 71;let(a,ns,rfl,hS,hn,k):=h;show{_,(aB (dM bG 9 (jL 9 T.kZ (bR aK)) (gB 1 uM) (aB (dW 2 uM (cl D.ad1 hr (cP (pv 0) (cL wX aK (pv 1))))) (aB (dW 3 uM (cl D.EF hr (cP (pv 2) (cL iI aK (cl D.fQ hr (cP (pv 2) aK)))))) (aB (dW 4 uM (cl D.Hz hr (lQ (pv 2) (pv 3) aK))) (aB (dg (bZ vY (cl D.fQ hr (cP (pv 2) aK)) aK (cx _)) (aO (dW 4 uM (cl D.Yn hr (lQ (pv 2) (cl D.Hz hr (lQ (pv 2) (pv 3) aK)) (cL iI aK (cl D.fQ hr (cP (pv 2) aK))))))) cm) (aO (dM bG 9 (jL 9 T.kZ (bR aK)) (gB 5 uM) (aB (dW 6 uM (cl D.least hr (bR (pv 4)))) (aB (dg (PW.pt (km (gP (eZ (cl D.vg hr (cP (pv 6) (pv 4))))) (ot (gP (eZ (cl D.LA hr (lQ (pv 2) (pv 6) (pv 4)))))))) (aO (bJ fJ)) cm) (aB (dg (gP (eZ (cl D.abT hr (bR (pv 6))))) (aO (bJ fJ)) cm) (aB (gn (MQ bO xW xU Nf (bF bU (pv 6) aK (λ_ _=>9)))) (aO (gn (jq bO gX gW qW (bF bU (pv 6) aK (λ_ _=>9)) (bR gQ))))))))))))))) (aO (bJ fJ))),?_}
 show{4,rfl,by decide,by decide,v5
  (λj Z H1=>∃x1 x2 x3 x4 x5 x6:Aap,Z=[some 68,x1,x2,x3,x4,x5,x6]/\aG H H1) {none,none,none,none,none,none,9,aG.refl H} ?_ ?_}
 ·ext j Z H1 D1 hj ⟨x1,x2,x3,x4,x5,x6,rfl,yl⟩ B6 _;show{_,9,_,9,_,_,9,9,.inl {7,7},a,ns,_,9,hS.same yl,hn,8,λfe H2 mw lP hfe=>?_};show{_,9,_,9,fe,3,9,mw,7,7,λi3 H3 a0 a1 rh sd=>{_,_,9,9,fe,_,9,rh,8,8,λnl nj H4 uT pS BY nl0 Am hln ndn hnw=>?_}};show{_,9,_,9,fe,nl,4,nj,9,uT,BY,{Am,8,8},7,7,λq hz aP H5 xj sV hQ5 l1 l2 hg VB Ai=>?_};have qw5:=Z0 hQ5 l1 ∅ hg hnw VB Ai;have aho:=sV _ _ BY Am;dsimp only;show Hc λR hR=>?_;have go:∀(q:bn)(hz:Aah)(aP:Aaa)(G:Hp),eM K fe G->Ext fe H2 G->QW G (.ref q) hz aP->JQ hz aP->1<=aP.length->R [some 68,some (.int (0+(j:Int))),some (.ref fe),some (.ref nl),some (.ref q),x5,x6] G:=λq hz aP G hFG exG qw vF l1=>hR _ _ (by
   show{2,rfl,by decide,by decide,v5
    (λi Z Hs=>∃x5 x6:Aap,Z=[some 68,some (.int (0+(j:Int))),some (.ref fe),some (.ref nl),some (.ref q),x5,x6]/\eM K fe Hs/\Ext fe G Hs) {_,_,9,hFG,Ext.refl fe G} ?_ ?_}
   ·ext i Z Hs D2 hi ⟨x5,x6,rfl,hFs,exs⟩ QQ _;have qs:=qw.keep (hFG.iX exs);show{_,9,_,hz,aP,9,qs,vF.nU,λH6 r f fl l gL bV ys gj de s6 x=>?_};have nfe:∀b,Hs b=none->b≠fe:=λb h=>hFs.vC h;show{_,9,_,9,_,f,r,fl,l,gL,ys,bV,gj,hz,aP,de,Hs,9,qs.keep (cI.of s6),l1,x,λH7 s7=>{_,9,?_}};show fB ?_;have x7:=x.same s7;have s67:=s6.trans s7;have sU:=hFs.same s67;show{_,9,_,9,_,9,fe,_,f,r,fl,l,gL,ys,bV,gj,hz,aP,de,Hs,9,sU,qs.keep (cI.of s67),vF,l1,x7,λH8 vG mx=>{_,9,?_}};show fB ?_;have t8:=sU.tps mx;have FH:=sU.iX mx _ _ x7.hr;have Qo:=nfe _ x7.fl0;have Aa:=nfe _ x7.l0;have ndf:=λb hb=>nfe b (x7.sw.fr b hb);have ly:=x7.sw.ly;have l8:=x7.qf.l8;show{_,9,r,fl,l,f,gL,ys,_,gj,9,FH,mx _ _ Qo x7.xh,iG (MF x7.pr) t8,adt x7.gp x7.lp,mx _ _ Aa x7.hl,8,by rw[x7.sw.len,ly],λm u S h1 h2=>?_,x7.sw.nd,λb hb=>{(x7.DD b hb).1,(x7.DD b hb).2,?_},λH9 k9 t9=>{_,9,?_}}
    ·let(d,rp):=(x7.sw.at_ m u S h1 h2).rp;show{d,rp.keep t8 λb v hb h=>mx b v (ndf b (gf.mpr {S,aE h2,hb})) h}
    ·let(o,h):=x7.sw.old b hb;show{o,mx b o (ndf b hb) h}
    show fB ?_;have N3:=k9 _ _ (λh=>(x7.DD _ h).1 9) (mx _ _ Qo x7.xh);have QE:ba K H9 r [f,.ref fl,.ref l]:=dh (ba.of FH) t9;show{_,9,_,_,_,_,9,9,QE,9,.inl {9,_,bg.of N3},_,_,9,9,N3,?_};have Sm:upd H9 fl 70 l=some (.lst ys):=by rw[aM x7.Qo.symm];show(k9 _ _ (λh=>(x7.DD _ h).2 9) (mx _ _ Aa x7.hl))
    show{_,9,_,_,_,_,9,9,dh QE (cu.upd (yt N3)),9,.inl {9,_,bg.of Sm},l,_,_,9,9,Sm,bq ∅,?_};have end_:∀b v,b≠fl->b≠l->b∉gj.flatten->H8 b=some v->upd (upd H9 fl 70) l (.lst (ys++[.b7])) b=some v:=λb v n1 n2 n3 h=>by rw[aM n2,aM n1];show k9 b v n3 h
    show QQ _ _ {_,_,9,?_,exs.trans λb v nb h=>?_}
    ·let(y1,y2,y3,h):=vG;show{y1,y2,y3,end_ _ _ Qo.symm Aa.symm (λh=>ndf _ h 9) h}
    ·have h0:∀c,Hs c=none->b≠c:=λc hc=>bw h hc;show end_ b v (h0 _ x7.fl0) (h0 _ x7.l0) (λm=>h0 b (x7.sw.fr b m) 9) (mx b v nb (s67 b v h))
   ·ext Z Hs ⟨x5,x6,rfl,hFs,exs⟩;show B6 _ _ {_,_,_,_,_,_,9,Xo (yl.trans lP) (yl.free hfe) (exG.trans exs)})
  show{_,9,fe,2,9,xj,7,7,λi6 H6 b0 b1 vH oE=>{9,_,9,?_}};have aeE:=((sd.trans pS).trans sV).trans oE;show dI (λc=>?_) (λc=>go q hz aP H6 vH aeE (qw5.keep (xj.iX oE)) Ai l1);show{_,9,_,9,_,9,fe,nl,2,nj,9,vH,BY,{oE _ _ BY aho,8,8},7,7,λq' ke de H7 sU xn hQ7 l1' l2' HM agG aej=>?_};show{_,9,fe,3,9,sU,7,7,λi8 H8 c0 c1 vG mx=>{_,_,9,9,fe,_,_,ke,de,9,vG,(Z0 hQ7 l1' ∅ HM hnw agG aej).keep (sU.iX mx),8,8,(λa ha z h=>aS.mpr ((HM a ha).2.2.2 z h)),λrg cur H9 hF9 ex9 qg sub=>?_}};have sf:∀z∈bz de,z∈bz cur:=λz h=>by let(a,ha,h):=gF.mp h;show gF.mpr {a,sub a ha,h}
  show go rg ke cur H9 hF9 (aeE.trans (xn.trans (mx.trans ex9))) qg (λz h=>sf z (aej z h)) ?_;cases de with
  |nil=>show absurd l1' 7
  |cons a' r'=>show qu (sub a' aw)
 ·ext Z H1 ⟨x1,x2,x3,x4,x5,x6,rfl,yl⟩;show k _
end
end oR
namespace Hd
open PySem PySem.W PyProof.Rows PySem.W.Fast
abbrev pos0:Fa:={0,0,0,0}
abbrev tb:=tw14364793385576792824
abbrev an0:Option f':=some (.ref 6)
def env0(p:dL):UV:={scope:=p.main.scope,locals:=mainNs,globals:=mainNs,cells:=[],code:=.ref 13,frame:=some 14}
def cd0(p:dL):Code:=.body (Go p) (env0 p)
abbrev B0:List Frame:=[topFrame pos0]
def S0(w:i3)(os:wv):cr:={boot_heap w.params,Array.mk [],boot_drawn,boot_toks,os}
def mkT(l:List G'):Nat->Nat->Nat->BT
 |0,_,_=>.nil
 |f+1,a,b=>match l[b]? with
  |some o=>.node o (mkT l f (2*a) (a+b)) (mkT l f (2*a) (2*a+b))
  |none=>.nil
def toT(s:cr):SharedT:={mkT s.heap.objs.toList 6 1 0,17,s.heap.life,s.gens,s.drawn,s.toks,s.os}
def pre(p:dL)(w:i3)(os:wv):SharedT:=match tw15667345088766844465 tb p w 11 an0 12 (S0 w os) (topStub p)with
 |some r=>toT r.1
 |none=>toT (S0 w os)
def body(p:dL)(n:Nat)(w:i3)(os:wv):Option (Flow×SharedT×Code×Fa):=
 tw10110043849684766642 tb p w 11 an0 1 n (pre p w os) (piecesOf (Go p) (env0 p) (cd0 p) pos0 B0)
def aft(p:dL)(n:Nat)(w:i3)(os:wv):SharedT:=match body p n w os with
 |some r=>r.2.1
 |none=>toT (S0 w os)
def posL(p:dL)(n:Nat)(w:i3)(os:wv):Fa:=match body p n w os with
 |some r=>r.2.2.2
 |none=>pos0
def fin(p:dL)(n:Nat)(w:i3)(os:wv):cr:=match tw14082659384304107361 tb p w 11 an0 2 (aft p n w os).abs {doneF .next,cd0 p,posL p n w os,B0}with
 |some s=>s
 |none=>S0 w os
structure Ok(p:dL)(n:Nat):Prop where
 pre:∀w os,tw15667345088766844465 tb p w 11 an0 12 (S0 w os) (topStub p)=some ((Hd.pre p w os).abs,{tw11892475500146522536 tb (cd0 p),cd0 p,pos0,B0})
 block:∀w os,tw14374325043358763698 tb p w 11 an0 1 1 (Hd.pre p w os).abs (blockOf (Go p) (env0 p) (cd0 p) pos0 B0)=some (.next,(Hd.pre p w os).abs,cd0 p,pos0)
 body:∀w os,Hd.body p n w os=some (.next,aft p n w os,cd0 p,posL p n w os)
 fin:∀w os,tw14082659384304107361 tb p w 11 an0 2 (aft p n w os).abs {doneF .next,cd0 p,posL p n w os,B0}=some (Hd.fin p n w os)
def run(o:Ok p n)(w:i3)(os:wv):topRun T' p w 11 an0 (12+(1+(n+2))) (S0 w os) (topStub p)=some (fin p n w os):=by have h1:=o.pre w os;have h2:=o.block w os;have h3:=o.body w os;have h4:=o.fin w os;unfold Hd.body at h3;unfold tb at h1 h2 h3 h4;rw[<-te15667345088766844465,<-te14364793385576792824,<-te11892475500146522536]at h1;rw[<-te14374325043358763698,<-te14364793385576792824]at h2;rw[<-te10110043849684766642,<-te14364793385576792824]at h3;rw[<-te14082659384304107361,<-te14364793385576792824]at h4;have k:topRun T' p w 11 an0 (n+2) (Hd.pre p w os).abs (restOf (Go p++[]) (env0 p) (cd0 p) pos0 B0)=some (fin p n w os):=piece_app (segRun_of h3) (piece_nil h4);rw[cZ]at k;show go_top h1 (piece_block h2 k)
def left(o:Ok p n)(hN:Nat.ble (12+(1+(n+2))) N=true)(he:opening p=plainProg p.main.scope.names)(h6:Nat.ble 600 N=true)(hf:∀s,fenceModules? p s=some s)
  (l1:∀w os,(staticsOk (Ev p.main.body) (boot_heap w.params) (fin p n w os).heap&&namesBound p (fin p n w os).heap&&gensDone (fin p n w os)&&laidKept (boot_heap w.params) (fin p n w os).heap)=true)
  (l2:∀w os,openSeen q loose (Ev p.main.body) Xt g0 (fin p n w os)=openGood q loose) (l3:∀w os,Yf (fin p n w os)=Ya w):LeftO p q loose Xt Yf Ya N g0:=λw=>by
 let(s,e,e'):=bA.mp (boot_open he h6 hf w);obtain⟨os,rfl⟩:∃os,s=S0 w os:=by let(h,g,d,t,os):=s;simp only[Prod.mk.injEq]at e';let(rfl,rfl,rfl,rfl):=e';show⟨os,rfl⟩
 have r:=topRun_mono (N -(12+(1+(n+2)))) _ _ _ _ (run o w os);rw[show 12+(1+(n+2))+(N -(12+(1+(n+2))))=N by have:=Nat.le_of_ble_eq_true hN;lia]at r;have z1:((S0 w os).heap.isNs i7&&(S0 w os).gens.size==0)=true:=by kernel_rfl
 have z2:(S0 w os).heap.objs.size=11:=by kernel_rfl
 have z3:(S0 w os).heap.nsMap i7 "__annotations__"=an0:=by kernel_rfl
 have t:topFrom T' p w N (S0 w os)=some (fin p n w os):=by unfold topFrom;rw[z1,z2,z3,r];have q:=l1 w os;change(match _ with|true=>_|false=>_)=_;rw[show(staticsOk (Ev p.main.body) (S0 w os).heap (fin p n w os).heap&&namesBound p (fin p n w os).heap&&gensDone (fin p n w os)&&laidKept (S0 w os).heap (fin p n w os).heap)=true from q]
 unfold openEnds;rw[e];change(topFrom T' p w N _).map _=_;rw[t];show cW some (GW (l2 w os) (l3 w os))
end Hd
namespace oR
open PySem PySem.Spec PyProof.Rows L2
abbrev cO(vs:Aag):G':={.type "code",none,.fields vs.toArray,#[]}
abbrev kO(P:Params)(x:io)(t:P3)(v:f'):Ch:={PyData.keyHash P x,.str x t,v}
abbrev fO(s:ss)(n q:io)(pm cd:f'):G':={.type "function",none,.func (fnOf n q (my s) (k8 s) (bH s) .none .none .none pm none cd .none),#[]}
abbrev cF(x q:io)(a b c:P3)(l n:Int)(r r1:bn)(v1 v2:f')(r2:bn)(i:Int)(d:P3):G':=cO [.str x a,.str q b,.str "/claim/cut.py" c,.int l 0,.int n 0,.int 0 0,.int 0 0,.int 3 0,.ref r,.bool true,.int 181 0,.ref r1,.none,v1,v2,.ref r2,.int i 0,.int l 0,.str "/claim/cut.py" d]
abbrev cG(x:io)(a b c:P3)(l n:Int)(r r1:bn)(v1 v2:f')(r2:bn)(i:Int)(d:P3):G':=cF x x a b c l n r r1 v1 v2 r2 i d
abbrev fF(s:ss)(x:io)(m:f')(r:bn):G':=fO s x x m (.ref r)
abbrev mO0:f':=Value.str "askviews.terms" 187
abbrev Fx:f':=Value.str "askviews.maps" 217
abbrev mO2:f':=Value.str "askviews.questions" 330
abbrev mO3:f':=Value.str "askviews.tables" 357
abbrev mO4:f':=Value.str "askviews.within" 387
abbrev Va:f':=Value.str "askviews.least" 404
abbrev mM:f':=Value.str "law_askviews_k36_least_forms" 449
noncomputable def KF(P:Params):Frag:=
 (nat_lit 1,{(.type "dict"),none,.dict #[kO P "builtins" 162 (.ref 4),kO P "__main__" 163 (.ref 5)] 2,#[]})::
 (nat_lit 2,{.none,none,.dict #[] 0,#[]})::
 (nat_lit 3,{(.type "dict"),none,.dict #[kO P "__name__" 165 (.str "law_askviews_k36_least_forms" 449),kO P "__doc__" 166 .none,kO P "__package__" 167 .none,kO P "__loader__" 168 (.builtin "__main__.__loader__#opaque"),kO P "__spec__" 169 .none,kO P "__annotations__" 170 (.ref 6),kO P "__builtins__" 171 (.ref 4),kO P "__file__" 173 (.str "/claim/cut.py" 172),kO P "__cached__" 174 .none,kO P "SIGNS" 190 (.str "abcdefghijklmnopqrstuvwxyz0123456789" 189),kO P "MOST_SIGNS" 192 (.int 08 191),kO P "is_value" 198 (.ref 19),kO P "is_unknown" 205 (.ref 26),kO P "new_values" 216 (.ref 33),kO P "image" 224 (.ref 38),kO P "found_map" 233 (.ref 45),kO P "fitted" 246 (.ref 52),kO P "MapSearch" 310 (.ref 93),kO P "parts_of" 323 (.ref 104),kO P "is_touched" 329 (.ref 109),kO P "unknowns_of" 341 (.ref 116),kO P "terms_of" 350 (.ref 123),kO P "loose_unknowns" 356 (.ref 128),kO P "rows_of" 366 (.ref 135),kO P "tables_of" 376 (.ref 142),kO P "sorted_tables" 386 (.ref 149),kO P "within" 397 (.ref 156),kO P "parted" 403 (.ref 161),kO P "least" 411 (.ref 166),kO P "least_form" 421 (.ref 173),kO P "left_out" 431 (.ref 180),kO P "is_bound" 438 (.ref 187),kO P "show" 448 (.ref 194),kO P "_law_feed" 458 (.ref 201),kO P "_law_draw" 468 (.ref 208),kO P "_law_words" 474 (.ref 213),kO P "_law_atom" 489 (.ref 220),kO P "_law_head" 495 (.ref 225),kO P "_law_question" 501 (.ref 230),kO P "_law_led" 507 (.ref 235),kO P "_law_unknowns" 513 (.ref 240),kO P "_law_is_map" 519 (.ref 245),kO P "_law_is_word" 525 (.ref 250),kO P "_law_is_row" 531 (.ref 255),kO P "_law_are_tables" 537 (.ref 260),kO P "_law_bound" 549 (.ref 267),kO P "_law_filled" 555 (.ref 272),kO P "_law_answers" 565 (.ref 279),kO P "_law_part" 575 (.ref 286),kO P "_law_show_right" 581 (.ref 291),kO P "_law_least_right" 587 (.ref 296),kO P "_law_copied" 602 (.ref 303),kO P "_law_led_question" 608 (.ref 308),kO P "_law_terms" 617 (.ref 315),kO P "_law_new_values" 623 (.ref 320),kO P "_law_called" 635 (.ref 327),kO P "_law_asked_again" 647 (.ref 334),kO P "_law_apart" 653 (.ref 339),kO P "law" 666 (.ref 346)] 059,#[]})::
 (nat_lit 18,cG "is_value" 193 194 195 4 1 15 16 .none .none 017 196 197)::
 (nat_lit 19,fF (top 3) "is_value" mO0 18)::
 (nat_lit 25,cG "is_unknown" 199 200 201 08 1 20 021 (.ref 22) (.ref 23) 024 203 204)::
 (nat_lit 26,fF (top 4) "is_unknown" mO0 25)::
 (nat_lit 32,cG "new_values" 206 207 208 10 2 27 28 (.ref 29) (.ref 30) 31 214 215)::
 (nat_lit 33,fF (top 5) "new_values" mO0 32)::
 (nat_lit 37,cG "image" 219 220 221 20 2 34 35 .none .none 36 222 223)::
 (nat_lit 38,fF (top 07) "image" Fx 37)::
 (nat_lit 44,cG "found_map" 225 226 227 22 2 39 40 (.ref 41) (.ref 42) 43 231 232)::
 (nat_lit 45,fF (top 08) "found_map" Fx 44)::
 (nat_lit 51,cG "fitted" 234 235 236 27 3 46 47 (.ref 48) (.ref 49) 50 244 245)::
 (nat_lit 52,fF (top 09) "fitted" Fx 51)::
 (nat_lit 65,cF "__init__" "MapSearch.__init__" 259 260 261 38 2 60 061 (.ref 62) (.ref 63) 64 264 265)::
 (nat_lit 66,fO (inClass (top 10) 0) "__init__" "MapSearch.__init__" Fx (.ref 65))::
 (nat_lit 72,cF "add" "MapSearch.add" 267 268 269 43 2 067 068 (.ref 069) (.ref 070) 071 276 277)::
 (nat_lit 73,fO (inClass (top 10) 1) "add" "MapSearch.add" Fx (.ref 72))::
 (nat_lit 79,cF "mapped" "MapSearch.mapped" 279 280 281 50 3 074 075 (.ref 076) (.ref 077) 078 286 287)::
 (nat_lit 80,fO (inClass (top 10) 2) "mapped" "MapSearch.mapped" Fx (.ref 79))::
 (nat_lit 84,cF "mapped_part" "MapSearch.mapped_part" 289 290 291 057 3 081 82 .none .none 083 292 293)::
 (nat_lit 85,fO (inClass (top 10) 3) "mapped_part" "MapSearch.mapped_part" Fx (.ref 84))::
 (nat_lit 89,cF "aims_of" "MapSearch.aims_of" 295 296 297 72 3 086 087 .none .none 088 298 299)::
 (nat_lit 90,fO (inClass (top 10) 4) "aims_of" "MapSearch.aims_of" Fx (.ref 89))::
 (nat_lit 92,{(.type "dict"),none,.dict #[kO P "__module__" 254 (.str "askviews.maps" 217),kO P "__firstlineno__" 258 (.int 36 257),kO P "__init__" 266 (.ref 66),kO P "add" 278 (.ref 73),kO P "mapped" 288 (.ref 80),kO P "mapped_part" 294 (.ref 85),kO P "aims_of" 300 (.ref 90),kO P "__static_attributes__" 303 (.ref 091),kO P "__dict__" 305 (.ref 94),kO P "__weakref__" 307 (.ref 95),kO P "__doc__" 308 .none] 4,#[]})::
 (nat_lit 93,{(.type "type"),none,.cls {"MapSearch",[(.type "object")],[(.ref 93),(.type "object")],92,"MapSearch",true,[],[],false,none,false},#[none,none,some (.str "MapSearch" 247),some (.str "MapSearch" 255),some (.builtin "object.__new__"),some (.bool true)]})::
 (nat_lit 94,{(.type "getset_descriptor"),none,.fields #[(.str "__dict__" 304),(.ref 93),(.builtin "function.__dict__"),(.builtin "function.__dict__#set")],#[]})::
 (nat_lit 95,{(.type "getset_descriptor"),none,.fields #[(.str "__weakref__" 306),(.ref 93),(.builtin "ExceptionGroup.__weakref__"),.none],#[]})::
 (nat_lit 103,cG "parts_of" 311 312 313 081 2 098 99 (.ref 100) (.ref 101) 102 321 322)::
 (nat_lit 104,fF (top 11) "parts_of" Fx 103)::
 (nat_lit 108,cG "is_touched" 324 325 326 93 3 105 106 .none .none 107 327 328)::
 (nat_lit 109,fF (top 12) "is_touched" Fx 108)::
 (nat_lit 115,cG "unknowns_of" 332 333 334 097 1 110 111 (.ref 112) (.ref 113) 114 339 340)::
 (nat_lit 116,fF (top 14) "unknowns_of" mO2 115)::
 (nat_lit 122,cG "terms_of" 342 343 344 104 1 117 118 (.ref 119) (.ref 120) 121 348 349)::
 (nat_lit 123,fF (top 15) "terms_of" mO2 122)::
 (nat_lit 127,cG "loose_unknowns" 351 352 353 109 1 124 125 .none .none 126 354 355)::
 (nat_lit 128,fF (top 16) "loose_unknowns" mO2 127)::
 (nat_lit 134,cG "rows_of" 359 360 361 113 2 129 130 (.ref 131) (.ref 132) 133 364 365)::
 (nat_lit 135,fF (top 18) "rows_of" mO3 134)::
 (nat_lit 141,cG "tables_of" 367 368 369 115 1 136 137 (.ref 138) (.ref 139) 140 374 375)::
 (nat_lit 142,fF (top 19) "tables_of" mO3 141)::
 (nat_lit 148,cG "sorted_tables" 377 378 379 120 1 143 144 (.ref 145) (.ref 146) 147 384 385)::
 (nat_lit 149,fF (top 20) "sorted_tables" mO3 148)::
 (nat_lit 155,cG "within" 389 390 391 128 2 150 151 (.ref 152) (.ref 153) 154 395 396)::
 (nat_lit 156,fF (top 22) "within" mO4 155)::
 (nat_lit 160,cG "parted" 398 399 400 133 2 157 158 .none .none 159 401 402)::
 (nat_lit 161,fF (top 23) "parted" mO4 160)::
 (nat_lit 165,cG "least" 406 407 408 140 1 162 163 .none .none 164 409 410)::
 (nat_lit 166,fF (top 25) "least" Va 165)::
 (nat_lit 172,cG "least_form" 412 413 414 144 1 167 168 (.ref 169) (.ref 170) 171 419 420)::
 (nat_lit 173,fF (top 26) "least_form" Va 172)::
 (nat_lit 179,cG "left_out" 422 423 424 151 2 174 175 (.ref 176) (.ref 177) 178 429 430)::
 (nat_lit 180,fF (top 27) "left_out" Va 179)::
 (nat_lit 186,cG "is_bound" 432 433 434 154 1 181 182 (.ref 183) (.ref 184) 185 436 437)::
 (nat_lit 187,fF (top 28) "is_bound" Va 186)::
 (nat_lit 193,cG "show" 439 440 441 156 2 188 189 (.ref 190) (.ref 191) 192 446 447)::
 (nat_lit 194,fF (top 29) "show" Va 193)::
 (nat_lit 200,cG "_law_feed" 451 452 453 163 2 195 196 (.ref 197) (.ref 198) 199 456 457)::
 (nat_lit 201,fF (top 31) "_law_feed" mM 200)::
 (nat_lit 207,cG "_law_draw" 459 460 461 167 2 202 203 (.ref 204) (.ref 205) 206 466 467)::
 (nat_lit 208,fF (top 32) "_law_draw" mM 207)::
 (nat_lit 212,cG "_law_words" 469 470 471 176 2 209 210 .none .none 211 472 473)::
 (nat_lit 213,fF (top 33) "_law_words" mM 212)::
 (nat_lit 219,cG "_law_atom" 475 476 477 181 4 214 215 (.ref 216) (.ref 217) 218 487 488)::
 (nat_lit 220,fF (top 34) "_law_atom" mM 219)::
 (nat_lit 224,cG "_law_head" 490 491 492 193 2 221 222 .none .none 223 493 494)::
 (nat_lit 225,fF (top 35) "_law_head" mM 224)::
 (nat_lit 229,cG "_law_question" 496 497 498 198 3 226 227 .none .none 228 499 500)::
 (nat_lit 230,fF (top 36) "_law_question" mM 229)::
 (nat_lit 234,cG "_law_led" 502 503 504 206 2 231 232 .none .none 233 505 506)::
 (nat_lit 235,fF (top 37) "_law_led" mM 234)::
 (nat_lit 239,cG "_law_unknowns" 508 509 510 208 1 236 237 .none .none 238 511 512)::
 (nat_lit 240,fF (top 38) "_law_unknowns" mM 239)::
 (nat_lit 244,cG "_law_is_map" 514 515 516 213 3 241 242 .none .none 243 517 518)::
 (nat_lit 245,fF (top 39) "_law_is_map" mM 244)::
 (nat_lit 249,cG "_law_is_word" 520 521 522 225 1 246 247 .none .none 248 523 524)::
 (nat_lit 250,fF (top 40) "_law_is_word" mM 249)::
 (nat_lit 254,cG "_law_is_row" 526 527 528 229 1 251 252 .none .none 253 529 530)::
 (nat_lit 255,fF (top 41) "_law_is_row" mM 254)::
 (nat_lit 259,cG "_law_are_tables" 532 533 534 231 1 256 257 .none .none 258 535 536)::
 (nat_lit 260,fF (top 42) "_law_are_tables" mM 259)::
 (nat_lit 266,cG "_law_bound" 538 539 540 241 3 261 262 (.ref 263) (.ref 264) 265 547 548)::
 (nat_lit 267,fF (top 43) "_law_bound" mM 266)::
 (nat_lit 271,cG "_law_filled" 550 551 552 253 3 268 269 .none .none 270 553 554)::
 (nat_lit 272,fF (top 44) "_law_filled" mM 271)::
 (nat_lit 278,cG "_law_answers" 556 557 558 266 3 273 274 (.ref 275) (.ref 276) 277 563 564)::
 (nat_lit 279,fF (top 45) "_law_answers" mM 278)::
 (nat_lit 285,cG "_law_part" 566 567 568 269 2 280 281 (.ref 282) (.ref 283) 284 573 574)::
 (nat_lit 286,fF (top 46) "_law_part" mM 285)::
 (nat_lit 290,cG "_law_show_right" 576 577 578 280 3 287 288 .none .none 289 579 580)::
 (nat_lit 291,fF (top 47) "_law_show_right" mM 290)::
 (nat_lit 295,cG "_law_least_right" 582 583 584 290 2 292 293 .none .none 294 585 586)::
 (nat_lit 296,fF (top 48) "_law_least_right" mM 295)::
 (nat_lit 302,cG "_law_copied" 588 589 590 297 3 297 298 (.ref 299) (.ref 300) 301 600 601)::
 (nat_lit 303,fF (top 49) "_law_copied" mM 302)::
 (nat_lit 307,cG "_law_led_question" 603 604 605 310 2 304 305 .none .none 306 606 607)::
 (nat_lit 308,fF (top 50) "_law_led_question" mM 307)::
 (nat_lit 314,cG "_law_terms" 609 610 611 312 1 309 310 (.ref 311) (.ref 312) 313 615 616)::
 (nat_lit 315,fF (top 51) "_law_terms" mM 314)::
 (nat_lit 319,cG "_law_new_values" 618 619 620 317 2 316 317 .none .none 318 621 622)::
 (nat_lit 320,fF (top 52) "_law_new_values" mM 319)::
 (nat_lit 326,cG "_law_called" 624 625 626 326 3 321 322 (.ref 323) (.ref 324) 325 633 634)::
 (nat_lit 327,fF (top 53) "_law_called" mM 326)::
 (nat_lit 333,cG "_law_asked_again" 636 637 638 331 3 328 329 (.ref 330) (.ref 331) 332 645 646)::
 (nat_lit 334,fF (top 54) "_law_asked_again" mM 333)::
 (nat_lit 338,cG "_law_apart" 648 649 650 340 1 335 336 .none .none 337 651 652)::
 (nat_lit 339,fF (top 55) "_law_apart" mM 338)::
 (nat_lit 345,cG "law" 654 655 656 350 1 340 341 (.ref 342) (.ref 343) 344 664 665)::
 (nat_lit 346,fF (top 56) "law" mM 345)::[]
noncomputable def asF:Aaj:=[1,2,3,18,19,25,26,32,33,37,38,44,45,51,52,65,66,72,73,79,80,84,85,89,90,92,93,94,95,103,104,108,109,115,116,122,123,127,128,134,135,141,142,148,149,155,156,160,161,165,166,172,173,179,180,186,187,193,194,200,201,207,208,212,213,219,220,224,225,229,230,234,235,239,240,244,245,249,250,254,255,259,260,266,267,271,272,278,279,285,286,290,291,295,296,302,303,307,308,314,315,319,320,326,327,333,334,338,339,345,346]
def HF:PySem.W.Hook:=PySem.W.kHook KF asF λ_=>by kernel_rfl
noncomputable def qf(p:dL):dL:={p with main:={p.main with body:=[1,2,3,4,5,07,08,09,10,11,12,14,15,16,18,19,20,22,23,25,26,27,28,29,31,32,33,34,35,36,37,38,39,40,41,42,43,44,45,46,47,48,49,50,51,52,53,54,55,56].filterMap λi=>p.main.body[i]?}}
abbrev XF(p:dL)(s:cr):Bool:=PySem.W.xlAt (qf p) [] s&&PySem.W.recOk [] s
abbrev LF(p:dL):Prop:=PySem.W.LeftO p (qf p) [] (XF p) (PySem.W.Hook.obs HF) (PySem.W.Hook.val HF) 3766
abbrev pL:dL:=PySem.Challenge.pw_askviews_k36_least_forms
def okL:Hd.Ok pL 1821:={λw os=>by kernel_rfl,λw os=>by kernel_rfl,λw os=>by kernel_rfl,λw os=>by kernel_rfl}
def l1L(w:i3)(os:wv):(PySem.W.staticsOk (Ev pL.main.body) (PySem.W.boot_heap w.params) (Hd.fin pL 1821 w os).heap&&PySem.W.namesBound pL (Hd.fin pL 1821 w os).heap&&PySem.W.gensDone (Hd.fin pL 1821 w os)&&PySem.W.laidKept (PySem.W.boot_heap w.params) (Hd.fin pL 1821 w os).heap)=true:=by kernel_rfl
def l2L(w:i3)(os:wv):PySem.W.Fast.tw4187177175401517315 (qf pL) [] (Ev pL.main.body) (XF pL) true (Hd.fin pL 1821 w os)=PySem.W.openGood (qf pL) []:=by kernel_rfl
def l3L(w:i3)(os:wv):asF.map (Hd.fin pL 1821 w os).heap.get?=(KF w.params).map λp=>some p.2:=by kernel_rfl
def afL:LF pL:=Hd.left (n:=1821) okL (by kernel_rfl) (by kernel_rfl) (by kernel_rfl) (λs=>by kernel_rfl) l1L (λw os=>by rw[PySem.W.Fast.te4187177175401517315];show l2L w os) l3L
def head:LF PySem.Challenge.pw_askviews_k36_least_forms:=afL
def ac7{K:Frag}(hO:Tg H)(h:bg K H a xs):Lj K H a xs:=by
 rcases h with(h|h)|h
 ·rcases hO a with e|⟨o,ys,e⟩
  ·rw[e]at h;cases h
  ·rw[e]at h;cases h
 ·show .inl h
 ·show .inr h
def FN(K:Frag)(x:io)(st:ss):Prop:=∃f fd,nsIn K i7 x=some (some (.ref f))/\dH K x x st f fd
def afS{K:Frag}{x:io}{st:ss}{f:bn}{oc:f'}{od an:Aak}{BX:Aaf}{kV doc pm cX ct:f'}(a:nsIn K i7 x=some (some (.ref f)))(l:K.lookup f=some {oc,od,.func (fnOf x x (my st) (k8 st) (bH st) .none kV doc pm an cX ct),BX})(c:codeIn K cX x=true)(k:keepIn K (.ref f)=true):FN K x st:={f,_,a,Wa l c k}
section
variable{K:Frag}{h base:i5}{x q p p2 r s:io}{st:ss}{mg:Aad}{f C:bn}{fd:i8}{P:dL}{w:i3}{k:Nat}{sp:Sp}{ps:Aah}
def SU(b:FN K x st)(hb:∀f fd,dH K x x st f fd->Binds K fd ps [])(X:K.In h)(G:h.Ns i7 mg)(ok:∀f fd,dH K x x st f fd->cH P w K mg base dZ k f fd ps sp):b6 P w K mg base k x ps sp:=
 have⟨f,fd,a,F⟩:=b
 {f,fd,ok f fd F,nB X G a,F.kp,hb f fd F}
abbrev Bd1(x q:io)(st:ss)(p:io):Prop:=(λ(a kV doc pm cX ct:f')(an:Aak)=>KM (fnOf x q (my st) (k8 st) (bH st) .none kV doc pm an cX ct) {[a],[]})=λa _ _ _ _ _ _=>pure [(p,a)]
def bd1(F:dH K x q st f fd)(h:Bd1 x q st p):Binds K fd [p] []:=F.binds λk1 k2 k3 k4 k5 k6 us hl=>by rcases us with _|⟨a,_|⟨e,us⟩⟩<;>first|show cV (cV (cV (cV (cV (cV (cV h a) k1) k2) k3) k5) k6) k4|cases hl
def d1(P:dL)(w:i3)(base:i5)(X:K.In h)(G:h.Ns i7 mg)(b:FN K x st)(ok:∀f fd,dH K x x st f fd->cH P w K mg base dZ k f fd [p] sp)(h:Bd1 x x st p:=by rfl):b6 P w K mg base k x [p] sp:=SU b (λ_ _ F=>bd1 F h) X G ok
abbrev Bd2(x q:io)(st:ss)(p p2:io):Prop:=(λ(a b kV doc pm cX ct:f')(an:Aak)=>KM (fnOf x q (my st) (k8 st) (bH st) .none kV doc pm an cX ct) {[a,b],[]})=λa b _ _ _ _ _ _=>pure [(p,a),(p2,b)]
def bd2(F:dH K x q st f fd)(h:Bd2 x q st p p2):Binds K fd [p,p2] []:=F.binds λk1 k2 k3 k4 k5 k6 us hl=>by rcases us with _|⟨a,_|⟨b,_|⟨e,us⟩⟩⟩<;>first|show cV (cV (cV (cV (cV (cV (cV (cV h a) b) k1) k2) k3) k5) k6) k4|cases hl
def d2(P:dL)(w:i3)(base:i5)(X:K.In h)(G:h.Ns i7 mg)(b:FN K x st)(ok:∀f fd,dH K x x st f fd->cH P w K mg base dZ k f fd [p,p2] sp)(h:Bd2 x x st p p2:=by rfl):b6 P w K mg base k x [p,p2] sp:=SU b (λ_ _ F=>bd2 F h) X G ok
abbrev Bd3(x q:io)(st:ss)(p p2 r:io):Prop:=(λ(a b c kV doc pm cX ct:f')(an:Aak)=>KM (fnOf x q (my st) (k8 st) (bH st) .none kV doc pm an cX ct) {[a,b,c],[]})=λa b c _ _ _ _ _ _=>pure [(p,a),(p2,b),(r,c)]
def WC(F:dH K x q st f fd)(h:Bd3 x q st p p2 r):Binds K fd [p,p2,r] []:=F.binds λk1 k2 k3 k4 k5 k6 us hl=>by rcases us with _|⟨a,_|⟨b,_|⟨c,_|⟨e,us⟩⟩⟩⟩<;>first|show cV (cV (cV (cV (cV (cV (cV (cV (cV h a) b) c) k1) k2) k3) k5) k6) k4|cases hl
def d3(P:dL)(w:i3)(base:i5)(X:K.In h)(G:h.Ns i7 mg)(b:FN K x st)(ok:∀f fd,dH K x x st f fd->cH P w K mg base dZ k f fd [p,p2,r] sp)(h:Bd3 x x st p p2 r:=by rfl):b6 P w K mg base k x [p,p2,r] sp:=SU b (λ_ _ F=>WC F h) X G ok
abbrev Bd4(x q:io)(st:ss)(p p2 r s:io):Prop:=(λ(a b c d kV doc pm cX ct:f')(an:Aak)=>KM (fnOf x q (my st) (k8 st) (bH st) .none kV doc pm an cX ct) {[a,b,c,d],[]})=λa b c d _ _ _ _ _ _=>pure [(p,a),(p2,b),(r,c),(s,d)]
def bd4(F:dH K x q st f fd)(h:Bd4 x q st p p2 r s):Binds K fd [p,p2,r,s] []:=F.binds λk1 k2 k3 k4 k5 k6 us hl=>by rcases us with _|⟨a,_|⟨b,_|⟨c,_|⟨d,_|⟨e,us⟩⟩⟩⟩⟩<;>first|show cV (cV (cV (cV (cV (cV (cV (cV (cV (cV h a) b) c) d) k1) k2) k3) k5) k6) k4|cases hl
def d4(P:dL)(w:i3)(base:i5)(X:K.In h)(G:h.Ns i7 mg)(b:FN K x st)(ok:∀f fd,dH K x x st f fd->cH P w K mg base dZ k f fd [p,p2,r,s] sp)(h:Bd4 x x st p p2 r s:=by rfl):b6 P w K mg base k x [p,p2,r,s] sp:=SU b (λ_ _ F=>bd4 F h) X G ok
def MN(K:Frag)(C:bn)(x q:io)(st:ss):Prop:=∃f fd,findIn K (.ref C) x=some (some (.ref f))/\isFn K (.ref f)=true/\dH K x q st f fd
def afy{K:Frag}{x q:io}{st:ss}{f C:bn}{oc:f'}{od an:Aak}{BX:Aaf}{kV doc pm cX ct:f'}(a:findIn K (.ref C) x=some (some (.ref f)))(i:isFn K (.ref f)=true)(l:K.lookup f=some {oc,od,.func (fnOf x q (my st) (k8 st) (bH st) .none kV doc pm an cX ct),BX})(c:codeIn K cX q=true)(k:keepIn K (.ref f)=true):MN K C x q st:={f,_,a,i,Wa l c k}
def m2(P:dL)(w:i3)(base:i5)(mg:Aad)(b:MN K C x q st)(ok:∀f fd,dH K x q st f fd->cH P w K mg base dZ k f fd [p,p2] sp)(h:Bd2 x q st p p2:=by rfl):sH P w K mg base C k x [p,p2] sp:=
 have⟨f,fd,a,i,F⟩:=b
 {f,fd,ok f fd F,{a,i,F.kp},bd2 F h}
def m3(P:dL)(w:i3)(base:i5)(mg:Aad)(b:MN K C x q st)(ok:∀f fd,dH K x q st f fd->cH P w K mg base dZ k f fd [p,p2,r] sp)(h:Bd3 x q st p p2 r:=by rfl):sH P w K mg base C k x [p,p2,r] sp:=
 have⟨f,fd,a,i,F⟩:=b
 {f,fd,ok f fd F,{a,i,F.kp},WC F h}
end
def all_mk{l:PySem.W.OpenLaw}{w:i3}{K:Frag}{h:i5}{mg:Aad}{fa C0:bn}{t0 t1:P3}{oS:G'}(X:K.In h)(G:h.Ns i7 mg)(hfa:mg "law"=some (.ref fa))
  (By:FN K "is_value" A4)
  (xx:FN K "is_unknown" wN)
  (xr:FN K "new_values" wI)
  (JJ:FN K "image" IX)
  (zB:FN K "found_map" zg)
  (GR:FN K "fitted" Gg)
  (Bq:FN K "parts_of" AV)
  (xy:FN K "is_touched" wO)
  (vj:FN K "unknowns_of" vd)
  (Bp:FN K "terms_of" AU)
  (qJ:FN K "loose_unknowns" qD)
  (DQ:FN K "rows_of" CD)
  (zw:FN K "tables_of" zc)
  (sr:FN K "sorted_tables" rJ)
  (GJ:FN K "within" F8)
  (GK:FN K "parted" F9)
  (JH:FN K "least" IV)
  (xu:FN K "least_form" wK)
  (Bs:FN K "left_out" AW)
  (Bz:FN K "is_bound" A5)
  (OR:FN K "show" Mr)
  (GO:FN K "_law_feed" Gd)
  (GP:FN K "_law_draw" Ge)
  (DR:FN K "_law_words" CF)
  (GQ:FN K "_law_atom" Gf)
  (GN:FN K "_law_head" Gb)
  (xw:FN K "_law_question" wM)
  (JI:FN K "_law_led" IW)
  (xv:FN K "_law_unknowns" wL)
  (Bu:FN K "_law_is_map" AY)
  (zy:FN K "_law_is_word" ze)
  (Bt:FN K "_law_is_row" AX)
  (ug:FN K "_law_are_tables" tK)
  (DT:FN K "_law_bound" CH)
  (Bv:FN K "_law_filled" vW)
  (zA:FN K "_law_answers" zf)
  (GL:FN K "_law_part" Ga)
  (ud:FN K "_law_show_right" tI)
  (sv:FN K "_law_least_right" rK)
  (Bw:FN K "_law_copied" AZ)
  (qK:FN K "_law_led_question" qE)
  (DS:FN K "_law_terms" CG)
  (ue:FN K "_law_new_values" tJ)
  (Bx:FN K "_law_called" A3)
  (sy:FN K "_law_asked_again" rL)
  (DU:FN K "_law_apart" CI)
  (S9:FN K "law" RF)
  (cA0:nsIn K i7 "MapSearch"=some (some (.ref C0)))
  (Y8:plainGet K C0 Str.empty=true)
  (Ze:hasDictIn K C0=true)
  (Y7:PySem.W.plainOver K C0=true)
  (Y6:findIn K (.ref C0) "__setattr__"=some (some (.builtin "object.__setattr__")))
  (Zc:PySem.W.makesIn K C0=true)
  (Zd:keepIn K (.ref C0)=true)
  (JC:findIn K (.ref C0) "aims"=some none)
  (JB:findIn K (.ref C0) "vain"=some none)
  (xt:MN K C0 "__init__" "MapSearch.__init__" wJ)
  (JG:MN K C0 "add" "MapSearch.add" IU)
  (Br:MN K C0 "mapped" "MapSearch.mapped" vV)
  (su:MN K C0 "mapped_part" "MapSearch.mapped_part" nN)
  (zx:MN K C0 "aims_of" "MapSearch.aims_of" zd)
  (z0:nsIn K i7 "len"=some none)
  (z1:nsIn K i7 "range"=some none)
  (z2:nsIn K i7 "tuple"=some none)
  (z3:nsIn K i7 "list"=some none)
  (z4:nsIn K i7 "isinstance"=some none)
  (z5:nsIn K i7 "all"=some none)
  (z6:nsIn K i7 "any"=some none)
  (z7:nsIn K i7 "min"=some none)
  (z8:nsIn K i7 "str"=some none)
  (z9:nsIn K i7 "bool"=some none)
  (z10:nsIn K i7 "int"=some none)
  (z11:nsIn K i7 "dict"=some none)
  (z12:nsIn K i7 "sorted"=some none)
  (z13:nsIn K i7 "set"=some none)
  (z14:nsIn K i7 "enumerate"=some none)
  (z15:nsIn K i7 "zip"=some none)
  (z16:nsIn K i7 "repr"=some none)
  (mc0:nsIn K i7 "SIGNS"=some (some (.str "abcdefghijklmnopqrstuvwxyz0123456789" t0)))
  (mc1:nsIn K i7 "MOST_SIGNS"=some (some (.int 08 t1)))
  (sm:K.lookup re=some oS)
  :∃fd:i8,(∀(s:cr)(v:f'),M' s fd {[v],[]} [("_law_script",v)])/\∀base:i5,K.In base->base.Ns i7 mg->cH l.prog w K mg base dZ 30 fa fd ["_law_script"] (LG K):=by
 let(f,fd,a,F):=S9;have e:=hfa.symm.trans (nB X G a);cases e;have T:Txt K mg:={cB X G z0,cB X G z1,cB X G z2,cB X G z3,cB X G z4,cB X G z5,cB X G z6,cB X G z7,cB X G z8,cB X G z9,cB X G z10,cB X G z11,cB X G z12,cB X G z13,cB X G z14,cB X G z15,cB X G z16,{_,nB X G mc0},{_,nB X G mc1},⟨_,sm⟩};show{fd,?_,λbase _ _=>?_}
 ·let(__,__,__,__,__,__,__,__,__,rfl,__,__):=F.ex
  exactλs v=>.of_eq rfl
 have Ig:=d1 l.prog w base X G By λ_ _ F=>Pf F T;have kM:=d1 l.prog w base X G xx λ_ _ F=>Lv F T ⟨Ig⟩;have GG:=d3 l.prog w base X G GR λ_ _ F=>UP F T ⟨kM⟩;have DH:=d3 l.prog w base X G xy λ_ _ F=>Lw F T ⟨kM⟩;have SS:=d2 l.prog w base X G Bq λ_ _ F=>Pd F T {{⟨kM⟩,GG},DH};have O:Own K C0:={⟨Y8,Ze,Y7,Y6⟩,JC,JB};have R8:=m2 l.prog w base mg JG λ_ _ F=>adK F T O;have C3:=m3 l.prog w base mg zx λ_ _ F=>RV F T O ⟨kM⟩;let(fm,fdm,am,im,Fm):=Br;let(fp,fdp,ap,ip,Fp):=su;have xa:=He Fm Fp {am,im,Fm.kp} {ap,ip,Fp.kp} (WC Fm 9) (WC Fp 9) T O {{{⟨kM⟩,GG},DH},SS,C3} 08;let(fi,fdi,ai,ii,Fi):=xt;have agw:OX l.prog w K mg base C0 3 "MapSearch" ["self","atoms"] (Ry l.prog w K C0):={_,_,⟨Zc,ai,ii,Zd⟩,abA Fi T O ⟨R8⟩,nB X G cA0,bd2 Fi rfl};have FU:=d2 l.prog w base X G zB λ_ _ F=>M5 F T O ⟨GG,xa,agw⟩;have B7:=d1 l.prog w base X G vj λ_ _ F=>Jf F T {⟨Ig⟩,kM};have SR:=d1 l.prog w base X G Bp λ_ _ F=>Pc F T;have OE:=d2 l.prog w base X G xr λ_ _ F=>Ls F T;have acm:=d2 l.prog w base X G JJ λ_ _ F=>X5 F T;have K2:=d2 l.prog w base X G DQ λ_ _ F=>RR F T;have Ia:=d1 l.prog w base X G sr λ_ _ F=>Gp F T ⟨K2⟩;have Pp:=d1 l.prog w base X G zw λ_ _ F=>M0 F T {⟨K2⟩,Ia};have Y0:=d2 l.prog w base X G GK λ_ _ F=>UN F T ⟨B7,SR,OE,acm,Pp⟩;have OD:=d2 l.prog w base X G GJ λ_ _ F=>UM F T ⟨FU,Y0⟩;have Ib:=d2 l.prog w base X G Bs λ_ _ F=>Pe F T;have GD:=d1 l.prog w base X G qJ λ_ _ F=>X2 F T ⟨kM,B7⟩;have S1:=d1 l.prog w base X G Bz λ_ _ F=>Pg F T ⟨GD⟩;have aeN:=d2 l.prog w base X G OR λ_ _ F=>abw F T ⟨Ib,S1,OD⟩;have OF:=d1 l.prog w base X G xu λ_ _ F=>Lu F T ⟨Ib,FU⟩;have Q5:=d1 l.prog w base X G JH λ_ _ F=>X3 F T ⟨OF,OD,aeN⟩;have Y3:=d2 l.prog w base X G GO λ_ _ F=>abB F T;have oG:=d2 l.prog w base X G GP λ_ _ F=>abC F T;have K3:=d2 l.prog w base X G DR λ_ _ F=>XZ F T ⟨oG⟩;have Y4:=d4 l.prog w base X G GQ λ_ _ F=>X8 F T ⟨oG⟩;have Y2:=d2 l.prog w base X G GN λ_ _ F=>X6 F T ⟨oG⟩;have OG:=d3 l.prog w base X G xw λ_ _ F=>M3 F T {⟨oG⟩,K3,Y4,Y2};have Jz:=d2 l.prog w base X G JI λ_ _ F=>adH F T;have DG:=d1 l.prog w base X G xv λ_ _ F=>MZ F T;have SX:=d3 l.prog w base X G Bw λ_ _ F=>UR F T ⟨oG,DG,Jz⟩;have GF:=d2 l.prog w base X G qK λ_ _ F=>aby F T ⟨Jz⟩;have SV:=d3 l.prog w base X G Bu λ_ _ F=>X4 F T {⟨Jz⟩,DG};have Pq:=d1 l.prog w base X G zy λ_ _ F=>RT F T;have Ic:=d1 l.prog w base X G Bt λ_ _ F=>UO F T ⟨Pq⟩;have JA:=d1 l.prog w base X G ug λ_ _ F=>Lx F T ⟨Ic⟩;have K5:=d3 l.prog w base X G DT λ_ _ F=>X7 F T;let(ff,fdf,af,Ff):=Bv;have SW:=HV Ff (nB X G af) Ff.kp (WC Ff 9) T K5 09;have Pr:=d3 l.prog w base X G zA λ_ _ F=>RU F T ⟨K5,SW⟩;have Y1:=d2 l.prog w base X G GL λ_ _ F=>abx F T;have Jx:=d3 l.prog w base X G ud λ_ _ F=>X0 F T ⟨JA,Ic,Pr⟩;have yH:=d2 l.prog w base X G sv λ_ _ F=>abz F T ⟨Y1,SV,Jx⟩;have K4:=d1 l.prog w base X G DS λ_ _ F=>RS F T;have Jy:=d2 l.prog w base X G ue λ_ _ F=>X1 F T ⟨K4⟩;have SY:=d3 l.prog w base X G Bx λ_ _ F=>US F T ⟨oG,K4,GF⟩;have Ie:=d3 l.prog w base X G sy λ_ _ F=>Yb F T ⟨oG,Jy,SY,Q5,yH⟩;have Wv:=d1 l.prog w base X G DU λ_ _ F=>X9 F T;show adI F T ⟨Y3,oG,K3,OG,SX,Q5,yH,Ie,Wv⟩
def walk{l:PySem.W.OpenLaw}{K:Params->Frag}(hn:l.most=some 63)(VX:d.params.defaults=[])
  (hY:∀(w:i3)(h:i5),YP w h->(K w.params).In h)
  (F:∀(w:i3)(mg:Aad)(fa:bn)(h:i5),(K w.params).In h->h.Ns i7 mg->mg d.name=some (.ref fa)->
   ∃fd:i8,(∀(s:cr)(u:f'),M' s fd {[u],[]} [("_law_script",u)])/\∀base:i5,(K w.params).In base->base.Ns i7 mg->cH l.prog w (K w.params) mg base dZ 30 fa fd ["_law_script"] (LG (K w.params))):
  PySem.W.WalkO q loose XP YP l.row.toRowW d [] (λf vs=>PySem.call f vs):=
 L2.aaP (n:=63) (k:=30) (x:="_law_script") (CX:=λ_=>dZ) (sp:=λw=>LG (K w.params)) hn 7 VX {9,7,7,9} hY F (λ_ H a ns hl hO hS=>{a,ns,9,ac7 hO hS,hl,λ_=>9}) λ_ _ _ _ _ z=>z
end oR
open PySem PySem.W PyProof.Rows
set_option maxHeartbeats 0 in
theorem PySem.Challenge.cw_askviews_k36_least_forms_holds : PySem.Challenge.rw_askviews_k36_least_forms.Holds := by
 w_on;show holds_law (by rw[PySem.W.Fast.te9446332074065402090];kernel_rfl) λah3=>?_
 show holds_open (q:=oR.qf PySem.Challenge.pw_askviews_k36_least_forms) (loose:=[]) (Xt:=oR.XF PySem.Challenge.pw_askviews_k36_least_forms) (XP:=XL (oR.qf PySem.Challenge.pw_askviews_k36_least_forms) []) (Yf:=Hook.obs oR.HF) (Ya:=Hook.val oR.HF) (YP:=Hook.says oR.HF) (N:=3766) oR.head (Hook.of oR.HF) (Hook.keeps oR.HF)
  (λs e=>xl_of s (h9.mp e).1) XL.keeps (by rfl) (by rfl) (by rfl) (λs e=>recFacts_of (h9.mp e).2) (by rfl) (by first|assumption|decide+kernel) 21 {9,9,9,9,9,21} ?hw ?hc
 case hw=>w_witness2
 case hc=>
 unfold oR.HF
 k_fill
 show oR.walk (l:=PySem.Challenge.rw_askviews_k36_least_forms) rfl rfl (λw h Y=>PySem.W.kIn_of Y) ?F
 case F=>
  ext w mg fa h KX G VN
  refine' oR.all_mk KX G VN ?By ?xx ?xr ?JJ ?zB ?GR ?Bq ?xy ?vj ?Bp ?qJ ?DQ ?zw ?sr ?GJ ?GK ?JH ?xu ?Bs ?Bz ?OR ?GO ?GP ?DR ?GQ ?GN ?xw ?JI ?xv ?Bu ?zy ?Bt ?ug ?DT ?Bv ?zA ?GL ?ud ?sv ?Bw ?qK ?DS ?ue ?Bx ?sy ?DU ?S9 ?cA0 ?Y8 ?Ze ?Y7 ?Y6 ?Zc ?Zd ?JC ?JB ?xt ?JG ?Br ?su ?zx ?z0 ?z1 ?z2 ?z3 ?z4 ?z5 ?z6 ?z7 ?z8 ?z9 ?z10 ?z11 ?z12 ?z13 ?z14 ?z15 ?z16 ?mc0 ?mc1 ?sm
  case By|xx|xr|JJ|zB|GR|Bq|xy|vj|Bp|qJ|DQ|zw|sr|GJ|GK|JH|xu|Bs|Bz|OR|GO|GP|DR|GQ|GN|xw|JI|xv|Bu|zy|Bt|ug|DT|Bv|zA|GL|ud|sv|Bw|qK|DS|ue|Bx|sy|DU|S9=>refine' oR.afS ?a ?l ?c ?k;case a|l|c|k=>k_is
  case cA0|Y8|Ze|Y7|Y6|Zc|Zd|JC|JB=>k_is
  case xt|JG|Br|su|zx=>refine' oR.afy ?a ?i ?l ?c ?k;case a|i|l|c|k=>k_is
  case z0|z1|z2|z3|z4|z5|z6|z7|z8|z9|z10|z11|z12|z13|z14|z15|z16|mc0|mc1|sm=>k_is
