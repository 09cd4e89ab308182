import PyProof.Rows.All
import Wide.All
import OpenK.AllK
import PySem.Challenge.RW_askviews_k10_whole_two_questions_as_one
set_option Elab.async false
set_option linter.all false
set_option bootstrap.genMatcherCode false
set_option maxRecDepth 100000
set_option maxHeartbeats 4000000
local macro_rules|`({$xs:term,*})=>`(⟨$xs,*⟩)
local macro_rules|`(∅)=>`((by lia))
noncomputable section
open PySem.W (Frag findIn nsIn fnOf emptyDict keepIn instObj plainGet kitOne codeIn hasDictIn isFn lookIn)
section
open PySem
def ae:=@wpAny_bind
def af:=@wpAny_pure
def ag:=@List.length_map
def ah:=@PySem.Heap.get?_push_of_some
def ak:=@Nat.le_refl
def ao:=@List.getElem?_eq_getElem
def aq:=@if_neg
def ar:=@List.getElem?_eq_some_iff
def au:=@List.mem_map
def ay:=@if_pos
def az:=@List.mem_cons_of_mem
def aA:=@List.mem_cons_self
def aB:=@PySem.Heap.lt_size
def aC:=@List.mem_singleton
def aD:=@PySem.Heap.get?_push_size
def aE:=@List.mem_cons
def aF:=@Nat.le_trans
def aG:=@List.mem_of_getElem?
def aH:=@List.map_append
def aI:=@Nat.ne_of_lt
def aJ:=@List.getElem?_map
def aK:=@List.length_append
def aL:=@List.size_toArray
def aM:=@Array.length_toList
def aP:=@Bool.false_ne_true
def aQ:=@List.map_cons
def aR:=@Nat.zero_le
def aS:=@List.mem_append
def aU:=@List.length_take
def aW:=@Nat.lt_of_lt_of_le
def aY:=@decide_eq_true
def aZ:=@List.length_cons
def a9:=@Option.map_eq_some_iff
def ba:=@wpAny_call_entry
def bg:=@Nat.le_of_lt
def bh:=@PySem.Paired.length
def bj:=@decide_eq_false
def bo:=@Array.getElem?_eq_getElem
def bu:=@List.take_length
def bx:=@List.take_add_one
def bz:=@List.map_congr_left
def bA:=@of_decide_eq_true
def bB:=@Array.getElem?_toList
def bC:=@Nat.ne_of_gt
def bE:=@PySem.Heap.get?_update_other
def bF:=@wpAny_field
def bJ:=@List.mem_filter
def bK:=@wpAny_holding
def bL:=@Option.some.inj
def bM:=@PySem.Heap.SameBut.update
def bN:=@List.mem_append_right
def bO:=@wpAny_seqItems
def bP:=@sizeLine_eq
def bQ:=@PySem.F.slot_dict_itemiterator_next
def bS:=@wpAny_setField_rec
def bT:=@Bool.false_eq_true
def bV:=@wpAny_newObj_type
def bW:=@List.map_map
def bX:=@Ne.symm
def bY:=@List.getD_eq_getElem?_getD
def bZ:=@PySem.PassesOwn.never
def b6:=@List.mem_append_left
def b7:=@PySem.Heap.size_push
def b8:=@PySem.Heap.get?_update_self
def b9:=@congrFun
def cj:=@PySem.W.mg_none_of
def cq:=@Option.toList_some
def cu:=@congrArg
def cx:=@PySem.F.plainAttrs_list
def cz:=@List.idxOf_lt_length_of_mem
def cD:=@List.nodup_cons
def cE:=@Bool.and_eq_true
def cH:=@boot_len
def cI:=@Int.toNat_natCast
def cJ:=@Array.getElem_mem
def cN:=@List.length_nil
def cP:=@List.append_nil
def cR:=@wpAny_mono
def cS:=@Nat.lt_of_le_of_lt
def cW:=@List.take_append_drop
def cX:=@List.mem_range
def cY:=@Nat.lt_irrefl
def cZ:=@List.getElem?_append_right
def c8:=@List.pairwise_map
def da:=@List.append_assoc
def dk:=@List.getElem?_append_left
def dn:=@List.take_of_length_le
def dq:=@wpAny_attempt
def dv:=@Nat.lt_succ_self
def dw:=@Nat.le_add_right
def dy:=@List.mem_flatMap
def dA:=@List.all_eq_true
def dB:=@PyProof.Rows.callWith_type1
def dC:=@List.length_filter_le
def dD:=@Nat.lt_succ_of_lt
def dE:=@PyProof.Rows.slot_tuple_getitem
def dJ:=@codeAny_builtin
def dM:=@Option.map_some
def dN:=@List.mem_iff_getElem
def dO:=@PySem.F.slot_zip_next
def dP:=@if_false
def dU:=@PySem.F.slot_dict_keyiterator_next
def d6:=@PySem.F.type_list_append
def d8:=@PySem.F.slot_list_append
def d9:=@List.length_singleton
def eB:=@PySem.W.kia_one
def eJ:=@List.mem_of_mem_take
def eP:=@forall_congr'
def eR:=@wpAny_setField
def eT:=@Nat.le_succ
def eW:=@decide_eq_true_eq
def eZ:=@List.pairwise_iff_getElem
def fg:=@PySem.F.args_dict_itemiterator_next_1
def fm:=@List.mem_iff_getElem?
def fq:=@wpAny_isInstance
def fu:=@PySem.F.entry_dict_itemiterator_next
def fA:=@PyProof.Rows.F.plain_set_update_loop
def fB:=@List.Pairwise.imp_of_mem
def fC:=@PySem.Calls.spliced_cons
def fE:=@wpAny_rule
def fJ:=@PySem.Around.under_plainId
def fM:=@List.pairwise_singleton
def fN:=@List.length_eq_zero_iff
def fP:=@wpAny_dictEntries
def fQ:=@List.nodup_append
def fS:=@beq_eq_false_iff_ne
def fT:=@List.filter_sublist
def fU:=@List.filterMap_cons
def fW:=@List.find?_cons_of_pos
def fX:=@List.find?_cons_of_neg
def fZ:=@plainId_quiet
def f6:=@Array.getElem?_eq_some_iff
def gg:=@List.getElem_mem
def gq:=@PySem.F.plain_extend_loop
def gw:=@wpAny_typeOf
def gx:=@wpAny_typeNameOfWhole_itemiter
def gz:=@wpAny_specialOf
def gL:=@Nat.min_eq_left
def gM:=@List.map_nil
def gN:=@Bool.eq_iff_iff
def gO:=@wpAny_truthy_bool
def gX:=@LawfulBEq.eq_of_beq
def gY:=@wpAny_typeNameOfWhole_keyiter
def g9:=@PySem.F.plainAttrs_dict
def hU:=@wpAny_forIn_list
def hW:=@wpAny_fieldsOf
def ie:=@List.cons_append
def iq:=@PySem.Calls.callWith_builtin
def iB:=@wpAny_updateSeq
def iC:=@wpAny_passesOwn
def iH:=@builtinLookup_eq_fast
def iJ:=@PySem.F.slot_dict_get
def iK:=@List.perm_append_comm
def iL:=@List.nil_append
def iM:=@List.length_replicate
def iN:=@List.getElem?_eq_none
def iO:=@List.foldl_cons
def iR:=@PySem.F.slot_NoneType_hash
def iT:=@PySem.F.slot_tuple_iterator_next
def iX:=@bne_self_eq_false
def iY:=@Option.isSome_map
def iZ:=@List.length_range
def jc:=@List.flatMap_cons
def je:=@PySem.F.args_zip_next_1
def jf:=@Bool.eq_false_iff
def jg:=@Nat.pow_le_pow_right
def jh:=@List.pairwise_append
def ji:=@List.drop_eq_getElem_cons
def jk:=@PySem.Calls.call_function_entry
def jr:=@isSubtype_stop
def jw:=@Option.isSome_iff_exists
def jx:=@Nat.pow_succ
def jy:=@Nat.lt_trans
def jz:=@Nat.le_of_not_lt
def jA:=@Nat.add_zero
def jB:=@List.mem_reverse
def jC:=@PySem.F.entry_zip_next
def jD:=@mem_of_lookup
def jG:=@wpAny_getItem_str_slice
def jH:=@List.append_cancel_left
def jO:=@Nat.mul_assoc
def jP:=@Bool.true_and
def jQ:=@Bool.not_true
def jR:=@wpAny_dictEpoch
def jU:=@Nat.not_lt_zero
def jV:=@List.getElem_idxOf
def jW:=@List.find?_cons
def jX:=@List.filter_append
def jY:=@Int.emod_lt_of_pos
def j8:=@Array.getElem?_eq_none
def kh:=@Nat.lt_trichotomy
def kj:=@PySem.F.slot_tuple_hash
def km:=@PySem.Calls.spliced_nil
def ko:=@wpAny_notOrdered_dict
def kr:=@wpAny_newTuple
def kE:=@codeAny_mono
def kH:=@List.pairwise_reverse
def kI:=@List.pairwise_flatMap
def kJ:=@List.nodup_nil
def kK:=@List.Pairwise.sublist
def kL:=@Int.zero_mul
def kT:=@wpAny_pyIter_zip
def kZ:=@List.not_mem_nil
def k7:=@List.mem_flatten
def k8:=@List.length_drop
def k9:=@List.getElem_map
def lq:=@List.filter_cons
def lA:=@List.any_eq_true
def lB:=@PySem.Heap.get?_none_of_le
def lC:=@PySem.Calls.evalArgs_plain
def lD:=@Array.mem_toList_iff
def lE:=@Array.getElem_toList
def lF:=@wpAny_onRaise
def lP:=@List.perm_ext_iff_of_nodup
def lQ:=@List.length_eraseIdx_of_lt
def lR:=@wpAny_letGo
def lV:=@Std.Legacy.Range.forIn_eq_forIn_range'
def lW:=@List.mem_map_of_mem
def lX:=@List.map_eq_nil_iff
def lY:=@wpAny_ite_split
def l9:=@PyProof.Rows.vals1
def ma:=@typeLookup_type
def mE:=@List.mem_of_find?_eq_some
def mF:=@List.forIn_cons
def mG:=@List.append_inj
def mH:=@Int.emod_nonneg
def mI:=@Classical.byContradiction
def mJ:=@wpAny_Call_Name_kw
def mK:=@tupleKind_room_in1
def mX:=@decide_eq_true_iff
def m7:=@PySem.F.type_tuple_index
def m8:=@PySem.F.type_list_extend
def m9:=@PySem.F.slot_tuple_index
def ng:=@PySem.F.slot_list_extend
def nh:=@PySem.F.plainAttrs_tuple
def ni:=@PySem.F.args_tuple_add_2
def nj:=@PySem.F.args_dict_keyiterator_next_1
def nq:=@PyProof.Rows.F.entry_set_update_loop
def ny:=@PySem.Obj.data_mapFields
def nA:=@List.getElem?_take_of_lt
def nB:=@PySem.Code.quiet_builtin
def nF:=@Array.forIn_toList
def nJ:=@typeIs_str
def nR:=@PySem.F.entry_dict_keyiterator_next
def nU:=@Bool.false_and
def nZ:=@PySem.F.entry_tuple_add
def og:=@PySem.F.args_dict_get_3
def oh:=@List.getElem?_cons_succ
def oj:=@wpAny_pyIter_slot
def om:=@wpAny_pyIter_list
def oy:=@List.map_inj_left
def oB:=@Array.toList_push
def oC:=@wpAny_isOneOf_itemiter
def oM:=@PySem.F.slot_tuple_add
def oN:=@PySem.F.entry_dict_get
def oP:=@Nat.mul_add
def oV:=@PySem.W.mg_of
def oW:=@Nat.add_assoc
def oX:=@List.any_cons
def ph:=@List.zipIdx_cons
def pj:=@List.isEmpty_nil
def pk:=@List.ext_getElem
def pP:=@List.Perm.append_left
def pS:=@List.eraseIdx_eq_take_drop_succ
def pT:=@wpAny_execs_nil
def pY:=@post_val_or_str
def qe:=@lookup_relabel_local
def qy:=@call_meetsIn
def qz:=@beq_iff_eq
def qA:=@and_congr_right
def qB:=@PySem.Txt.slice_le
def qC:=@Nat.succ_pos
def qD:=@Nat.mod_lt
def qF:=@List.length_zip
def qH:=@Bool.and_eq_true_iff
def qI:=@Array.toList_extract
def qJ:=@List.eq_nil_of_length_eq_zero
def qO:=@PySem.W.plainGet_of
def qP:=@PySem.F.plain_extend_loop
def qQ:=@Array.toList_append
def rf:=@if_true
def rD:=@PySem.F.slot_dict_setdefault
def rE:=@PySem.F.slot_dict_items_iter
def rF:=@List.dropLast_concat_getLast
def rG:=@Iff.rfl
def rH:=@PySem.F.args_tuple_iterator_next_1
def rJ:=@Bool.and_false
def rT:=@Int.le_refl
def rU:=@wpAny_pyIter_tuple
def sv:=@PyProof.Rows.assignInOrder_cons
def sC:=@PySem.W.callWith_K
def sD:=@List.mem_filterMap
def sE:=@List.map_singleton
def sG:=@List.filterMap_map
def sH:=@PySem.F.entry_tuple_iterator_next
def sI:=@wpAny_newList
def sO:=@PyProof.Rows.listUpdate_at
def sV:=@List.take_subset_take_left
def sW:=@Int.fdiv_eq_ediv_of_nonneg
def sX:=@PySem.Calls.Name_function_global
def sY:=@Array.perm_iff_toList_perm
def sZ:=@wpAny_setState_of
def tm:=@wpAny_Call_method
def tM:=@Nat.mul_left_comm
def tN:=@List.reverse_perm
def tP:=@List.ext_getElem?
def tQ:=@List.drop_sublist
def tT:=@Function.comp_def
def tU:=@wpAny_letOwnedTupleGo_zip
def ue:=@call_meets
def uh:=@PySem.F.entry_extend_loop
def ui:=@List.rel_of_pairwise_cons
def uj:=@Decidable.byContradiction
def ur:=@wpAny_askSetting
def uH:=@noFill_tuple_add
def uW:=@exists_congr
def uX:=@beq_self_eq_true
def va:=@PySem.F.slot_dict_update
def vb:=@Nat.zero_add
def vc:=@List.lookup_cons
def vd:=@List.getElem_zip
def ve:=@Int.zero_add
def vf:=@Int.mul_zero
def vg:=@Int.add_zero
def vj:=@Array.toList_inj
def vk:=@Array.getElem?_replicate
def vm:=@meetsH_dict_get_default
def vn:=@PySem.F.slot_dict_items
def vo:=@Nat.add_sub_cancel_left
def vp:=@List.lookup_eq_some_iff
def vq:=@List.getElem?_replicate
def vt:=@List.filter_cons_of_neg
def vv:=@List.Pairwise.filterMap
def vy:=@Array.back?_eq_getElem?
def vD:=@size_of_entries
def v5:=@List.of_mem_zip
def v7:=@wpAny_Assign_Subscript
def v9:=@PyProof.Rows.subscriptTail_builtinR
def wc:=@PyProof.Rows.seqEpoch_at
def wq:=@PySem.W.cellsFrom_some
def wt:=@PySem.F.slot_dict_iter
def wu:=@PySem.Paired.snoc
def wx:=@Nat.mod_mul
def wy:=@List.range_succ_eq_map
def wz:=@List.pairwise_lt_range
def wA:=@List.not_of_lt_findIdx
def wB:=@List.getElem?_set_self
def wC:=@List.Perm.append_right
def wD:=@wpAny_isTrue_Compare1
def wF:=@wpAny_isOneOf_keyiter
def wG:=@wpAny_eqIsQuiet_tuple
def w6:=@isSubtype_type
def xm:=@entryFor_alias
def xp:=@PySem.F.type_dict_get
def xq:=@PySem.F.plain_set_new
def xr:=@PySem.Obj.isFreed_of_fields
def xt:=@List.forIn_nil
def xv:=@Classical.choose_spec
def xx:=@wpAny_pyIter_keyiter
def xQ:=@or_false
def yg:=@codeAny_call_builtin
def yq:=@PySem.Obj.data_mapDictKeys
def yr:=@Nat.not_lt
def yt:=@Nat.mul_le_mul_right
def yu:=@List.length_take_le'
def yw:=@List.getElem?_set_ne
def yx:=@PySem.F.args_object_init_3
def yy:=@PySem.F.args_list_extend_2
def yz:=@PySem.F.args_list_append_2
def yB:=@Array.toList_reverse
def yC:=@wpAny_standAt
def yE:=@seq_tuple_add
def yT:=@Bool.or_false
def yU:=@wpAny_dictSet_pairs
def yX:=@PyProof.Rows.entry_tuple_getitem
def yY:=@PyProof.Rows.lt_str
def yZ:=@Nat.add_le_add_left
def y0:=@List.length_take_le
def y7:=@List.flatMap_append
def y8:=@PySem.F.entry_list_extend
def za:=@PySem.F.entry_list_append
def zd:=@wpAny_setItem_heap
def ze:=@wpAny_getItem_heap
def zf:=@wpAny_eqBool_tuple
def zo:=@sub_AttributeError
def zv:=@seqIndex_neg
def zH:=@putSet_of
def zI:=@PyProof.Rows.plain_sorted
def zQ:=@of_decide_eq_false
def Ao:=@PyProof.Rows.entry_sorted
def Ap:=@concat_meets
def AB:=@PyProof.Rows.args_tuple_getitem
def AD:=@PyProof.Rows.args_sorted1
def AF:=@PySem.SeqAt.EqAt.str_str
def AG:=@PySem.SeqAt.EqAt.str_int
def AH:=@PySem.SeqAt.EqAt.int_str
def AI:=@PySem.SeqAt.EqAt.int_int
def AJ:=@PySem.F.called_set
def AM:=@Nat.succ_mul
def AN:=@Nat.sub_self
def AO:=@Nat.le_of_eq
def AQ:=@Nat.eq_zero_or_pos
def AR:=@List.zip_cons_cons
def AS:=@List.pairwise_cons
def AU:=@List.getElem?_drop
def AV:=@List.find?_eq_none
def AW:=@List.countP_append
def AX:=@PyProof.Rows.IsTup.new
def AY:=@PySem.F.slot_list_extend
def AZ:=@PySem.F.slot_list_append
def A1:=@Array.size_extract
def Bh:=@wpAny_storeSet_of
def Bi:=@wpAny_sequenceKey
def Bj:=@wpAny_pyIter_enum
def Bm:=@eqIsQuiet_byValue
def Bn:=@PyProof.Rows.assignInOrder_nil
def Bo:=@list_append
def Bp:=@PySem.W.kitx_list
def Bq:=@PySem.W.kitx_dict
def Br:=@PySem.Obj.cls_mapFields
def Bs:=@List.take_sublist
def Bt:=@List.foldl_append
def Bu:=@PySem.Heap.SameBut.refl
def Bv:=@PySem.F.plain_list_iadd
def Bw:=@wpAny_of_eq
def Bx:=@wpAny_mkInt
def BB:=@seqIndex_of
def BM:=@PyProof.Rows.kind_sorted
def B4:=@Nat.add_mul
def B5:=@Int.mul_one
def CS:=@Prod.ext
def CZ:=@wpAny_load
def C1:=@wpAny_call
def C2:=@wpAny_Name
def C6:=@strKind_is
def Ed:=@PyProof.Rows.Subscript_
def Ei:=@PyProof.Rows.Call_
def E3:=@Or.comm
end
namespace L2
open PySem PySem.Spec PyProof.Rows
abbrev Key:=Sum Int Str
def xW:Key->Value->Bool
 | .inl k,v=>Value.isInt k v
 | .inr x,v=>Value.isStrOf x v
def ab6(w:World):Key->Int
 | .inl k=>hashInt k
 | .inr x=>hashStr w x
theorem gu:∀{k:Key}{v:Value},xW k v=true->(∃i t,k=Sum.inl i/\v=Value.int i t)\/(∃x t,k=Sum.inr x/\v=Value.str x t)
 | .inl i,v,h=>by obtain⟨t,e⟩:=Value.isInt_shape h;exact .inl ⟨i,t,rfl,e⟩
 | .inr x,v,h=>by obtain⟨t,e⟩:=Value.isStrOf_shape h;exact .inr ⟨x,t,rfl,e⟩
def Pc(i:Int)(t:Tok):xW (.inl i) (.int i t)=true:=by simp[xW,Value.isInt]
def Pb(x:Str)(t:Tok):xW (.inr x) (.str x t)=true:=by simp[xW,Value.isStrOf]
def YN(a b:Int):decide ((Sum.inl a:Key)=Sum.inl b)=(a==b):=by
 by_cases e:a=b
 ·subst e;simp
 ·have h:¬(Sum.inl a:Key)=Sum.inl b:=λq=>e (Sum.inl.inj q);rw[bj h];exact(fS.mpr e).symm
def YK(a b:Str):decide ((Sum.inr a:Key)=Sum.inr b)=decide (a=b):=by
 by_cases e:a=b
 ·subst e;simp
 ·have h:¬(Sum.inr a:Key)=Sum.inr b:=λq=>e (Sum.inr.inj q);rw[bj h,bj e]
def YM(a:Int)(b:Str):decide ((Sum.inl a:Key)=Sum.inr b)=false:=bj (λq=>nomatch q)
def YL(a:Str)(b:Int):decide ((Sum.inr a:Key)=Sum.inl b)=false:=bj (λq=>nomatch q)
noncomputable def bG(prog:Program)(w:World):PySem.KeyKind prog w Key where
 is:=xW
 hash:=ab6 w
 inj:=λv a b ha hb=>by
  rcases gu ha with⟨i,t,rfl,rfl⟩|⟨x,t,rfl,rfl⟩
  ·rcases gu hb with⟨j,u,rfl,e⟩|⟨y,u,rfl,e⟩
   ·injection e with e1 _;rw[e1]
   ·exact nomatch e
  ·rcases gu hb with⟨j,u,rfl,e⟩|⟨y,u,rfl,e⟩
   ·exact nomatch e
   ·injection e with e1 _;rw[e1]
 byValue:=λk v h=>by rcases gu h with⟨i,t,rfl,rfl⟩|⟨x,t,rfl,rfl⟩<;>rfl
 pyHash:=λhv h=>by
  rcases gu hv with⟨i,t,rfl,rfl⟩|⟨x,t,rfl,rfl⟩
  ·exact wpAny_pyHash_int h
  ·exact wpAny_pyHash_str h
 eqBool:=λhu hv h=>by
  rcases gu hu with⟨i,t,rfl,rfl⟩|⟨x,t,rfl,rfl⟩
  ·rcases gu hv with⟨j,u,rfl,rfl⟩|⟨y,u,rfl,rfl⟩
   ·rw[YN]at h;exact wpAny_eqBool_int h
   ·rw[YM]at h;exact AH i t y u _ _ _ _ h
  ·rcases gu hv with⟨j,u,rfl,rfl⟩|⟨y,u,rfl,rfl⟩
   ·rw[YL]at h;exact AG x t j u _ _ _ _ h
   ·rw[YK]at h;exact wpAny_eqBool_str h
 «strs»:=λk x t v h=>by
  rcases gu h with⟨i,u,rfl,e⟩|⟨y,u,rfl,e⟩
  ·exact nomatch e
  ·injection e with e1 _;subst e1;cases v<;>rfl
def JE(prog:Program)(w:World)(i:Int)(t:Tok):(bG prog w).is (.inl i) (.int i t)=true:=Pc i t
def BH(prog:Program)(w:World)(x:Str)(t:Tok):(bG prog w).is (.inr x) (.str x t)=true:=Pb x t
inductive V where
 |cb|bl (b:Bool)|int (i:Int)|str (x:Str)|tL (b:Array UInt8)|IZ (b:UInt64)|ref (a:Addr)|ty (n:String)
 deriving DecidableEq
def RelV:V->Value->Prop
 | .cb,u=>u=Value.none
 | .bl b,u=>u=Value.bool b
 | .int i,u=>∃t,u=Value.int i t
 | .str x,u=>∃t,u=Value.str x t
 | .tL b,u=>∃t,u=Value.bytes b t
 | .IZ b,u=>∃t,u=Value.float b t
 | .ref a,u=>u=Value.ref a
 | .ty n,u=>u=Value.type n
abbrev Vals:List V->List Value->Prop:=Paired RelV
def Vals.length(r:Vals xs us):xs.length=us.length:=bh r
theorem Vals.get:∀{xs:List V}{us:List Value}{i:Nat}{x:V},Vals xs us->xs[i]?=some x->∃u,us[i]?=some u/\RelV x u
 |_,_,_,_,.nil,e=>by simp at e
 |_,_,0,_,.cons r _,e=>by simp at e;subst e;exact⟨_,rfl,r⟩
 |_,_,i+1,x,.cons _ t,e=>by obtain⟨u,h1,h2⟩:=Vals.get (i:=i) (x:=x) t (by simpa using e);exact{u,by simpa using h1,h2}
theorem Vals.set(r:RelV x u):∀{xs:List V}{us:List Value}(i:Nat),Vals xs us->Vals (xs.set i x) (us.set i u)
 |_,_,_,.nil=>.nil
 |_,_,0,.cons _ t=>.cons r t
 |_,_,i+1,.cons q t=>.cons q (Vals.set r i t)
theorem Vals.append:∀{xs ys:List V}{us ws:List Value},Vals xs us->Vals ys ws->Vals (xs++ys) (us++ws)
 |_,_,_,_,.nil,s=>s
 |_,_,_,_,.cons r t,s=>.cons r (Vals.append t s)
theorem Vals.take:∀{xs:List V}{us:List Value}(n:Nat),Vals xs us->Vals (xs.take n) (us.take n)
 |_,_,0,_=>.nil
 |_,_,_+1,.nil=>.nil
 |_,_,n+1,.cons r t=>.cons r (Vals.take n t)
theorem Vals.drop:∀{xs:List V}{us:List Value}(n:Nat),Vals xs us->Vals (xs.drop n) (us.drop n)
 |_,_,0,r=>r
 |_,_,_+1,.nil=>.nil
 |_,_,n+1,.cons _ t=>Vals.drop n t
def kF:Option V->Option Value->Prop
 |some v,some u=>RelV v u
 |none,none=>True
 |_,_=>False
def KV:List (κ×V)->List (κ×Value)->Prop:=Paired λ(p:κ×V)(q:κ×Value)=>p.1=q.1/\RelV p.2 q.2
def kV:Key->V
 | .inl i=>.int i
 | .inr x=>.str x
inductive HO where
 |lst (xs:List V)
 |tup (xs:List V)
 |dK (kvs:List (Key×V))|dT (kvs:List (List Key×V))
 |set (S:Int->Bool) (n:Nat)
 |ins (C dx:Addr) (fs:List (Str×V))
 |own (x:Addr)
 |xd (fs:List (Str×V))
 |met (f x:Addr)
 |XT (lo hi:Int)
 |eO (o:Obj) (u:HO)
 |GQ (ps:Array Value)
 |ext (φ:Heap->Prop)
abbrev Hp:=Addr->Option HO
def upd(H:Hp)(a:Addr)(o:HO):Hp:=λb=>if b=a then some o else H b
def aw:upd H a o a=some o:=by unfold upd;rw[ay rfl]
def ax(h:b≠a):upd H a o b=H b:=by unfold upd;rw[aq h]
def J4:upd (upd H a o) a u=upd H a u:=by funext b;unfold upd;split<;>rfl
def rM{H:Hp}(h:H a=some o)(h':H b=some u)(d:o≠u):a≠b:=by intro e;subst e;rw[h]at h';exact d (bL h')
def aX{H:Hp}(h:H a=some o)(h':H b=none):a≠b:=by intro e;subst e;rw[h]at h';cases h'
section
variable(P:Program)(w:World)
noncomputable def du(H:Hp)(h:Heap)(a:Addr):HO->Prop
 | .lst xs=>xs.length<=sizeLine/\∃(aT:List Value)(n:Nat),Vals xs aT/\h.get? a=some {cls:=.type "list",data:=.seq aT.toArray n}
 | .tup xs=>xs.length<=sizeLine/\∃aT:List Value,Vals xs aT/\IsTup h a aT.toArray/\∃o,h.get? a=some o/\o.dict=none
 | .dK kvs=>kvs.length<=sizeLine/\(a==sysModules)=false/\∃vs,KV kvs vs/\h.DictOf (bG P w) a vs
 | .dT kvs=>kvs.length<=sizeLine/\(a==sysModules)=false/\∃xs:List (List Key×Addr×Value),
   Paired (λ(p:List Key×V)(q:List Key×Addr×Value)=>p.1=q.1/\H q.2.1=some (.tup (p.1.map kV))/\RelV p.2 q.2.2) kvs xs/\
   ∃o es ep,h.get? a=some o/\o.ExactDict/\o.data=.dict es ep/\es.toList=xs.map (entryOfKey (tupleKind (bG P w)))/\(xs.map (·.1)).Nodup
 | .set S n=>h.SetOf (intKind P w) a S n
 | .ins C dx fs=>H dx=some (.own a)/\fs.length<=1000/\dx≠a/\h.get? a=some (instObj C dx)/\
   ∃mA,h.Ns1 dx mA/\(∀f,kF (fs.lookup f) (mA f))/\PySem.Within mA (fs.map (·.1))
 | .own _=>∃o,h.get? a=some o
 | .xd fs=>∃mA,h.Ns1 a mA/\∀f,kF (fs.lookup f) (mA f)
 | .XT lo hi=>∃t u v,h.get? a=some {cls:=.type "range",data:=.fields #[.int lo t,.int hi u,.int 1 v]}
 | .eO o u=>h.get? a=some o/\du H h a u
 | .GQ ps=>h.get? a=some {cls:=.none,data:=.fields ps}
 | .met f x=>h.get? a=some (PySem.W.methodObj (.ref f) (.ref x))
 | .ext φ=>φ h/\(∃o,h.get? a=some o)/\∀h1 h2:Heap,φ h1->(∀o,h1.get? a=some o->h2.get? a=some o)->φ h2
def jo(H:Hp)(h:Heap):Prop:=∀a o,H a=some o->du P w H h a o
end
section
variable{P:Program}{w:World}{H H':Hp}{h h':Heap}{a:Addr}{o:HO}
def du.lt(x:du P w H h a o):a<h.objs.size:=by
 cases o with
 |lst xs=>obtain⟨_,_,_,_,e⟩:=x;exact aB e
 |tup xs=>obtain⟨_,_,_,p,_⟩:=x;exact p.lt
 |dK kvs=>obtain⟨_,_,_,_,o,_,_,e,_⟩:=x;exact aB e
 |dT kvs=>obtain⟨_,_,_,_,o,_,_,e,_⟩:=x;exact aB e
 |set S n=>obtain⟨o,_,_,_,e,_⟩:=x;exact aB e
 |ins C dx fs=>obtain⟨_,_,_,e,_⟩:=x;exact aB e
 |own y=>obtain⟨_,e⟩:=x;exact aB e
 |xd fs=>obtain⟨_,⟨_,_,_,e,_⟩,_⟩:=x;exact aB e
 |XT lo hi=>obtain⟨_,_,_,e⟩:=x;exact aB e
 |eO ob u=>obtain⟨e,_⟩:=x;exact aB e
 |GQ ps=>exact aB (show h.get? a=some _ from x)
 |met f y=>exact aB (show h.get? a=some _ from x)
 |ext φ=>obtain⟨_,⟨_,e⟩,_⟩:=x;exact aB e
theorem Paired.sN:∀{aad:List α}{aac:List β},Paired F aad aac->(∀a b,F a b->G a b)->Paired G aad aac
 |_,_,.nil,_=>.nil
 |_,_,.cons r t,f=>.cons (f _ _ r) (Paired.sN t f)
def Paired.imp'(f:∀a b,F a b->G a b)(r:Paired F aad aac):Paired G aad aac:=Paired.sN r f
def du.iQ(x:du P w H h a o)(k:∀b u,(b=a\/H b=some (.own a))->h.get? b=some u->h'.get? b=some u)
  (ho:∀b,H b=some (.own a)->H' b=some (.own a)) (ht:∀b xs,H b=some (.tup xs)->H' b=some (.tup xs)):du P w H' h' a o:=by
 induction o with
 |lst xs=>obtain⟨z,aT,n,r,e⟩:=x;exact{z,aT,n,r,k _ _ (.inl rfl) e}
 |tup xs=>obtain⟨z,aT,r,⟨ob,e,c⟩,o2,e2,c2⟩:=x;exact{z,aT,r,{ob,k _ _ (.inl rfl) e,c},o2,k _ _ (.inl rfl) e2,c2}
 |dK kvs=>obtain⟨z,y,vs,r,ob,es,ep,e,c⟩:=x;exact{z,y,vs,r,ob,es,ep,k _ _ (.inl rfl) e,c}
 |dT kvs=>
  obtain⟨z,y,xs,r,ob,es,ep,e,c⟩:=x;exact{z,y,xs,Paired.sN r λp q z=>{z.1,ht _ _ z.2.1,z.2.2},ob,es,ep,k _ _ (.inl rfl) e,c}
 |set S n=>obtain⟨ob,es,ep,t,e,c⟩:=x;exact{ob,es,ep,t,k _ _ (.inl rfl) e,c}
 |ins C dx fs=>
  obtain⟨d,z,ne,e,mA,⟨od,es,ep,e2,c⟩,r⟩:=x;exact{ho _ d,z,ne,k _ _ (.inl rfl) e,mA,{od,es,ep,k _ _ (.inr d) e2,c},r}
 |own y=>obtain⟨ob,e⟩:=x;exact{ob,k _ _ (.inl rfl) e}
 |xd fs=>obtain⟨mA,⟨od,es,ep,e,c⟩,r⟩:=x;exact{mA,{od,es,ep,k _ _ (.inl rfl) e,c},r}
 |XT lo hi=>obtain⟨t,u,v,e⟩:=x;exact{t,u,v,k _ _ (.inl rfl) e}
 |eO ob u ih=>obtain⟨e,q⟩:=x;exact{k _ _ (.inl rfl) e,ih q}
 |GQ ps=>
  have e:=x;exact k a _ (.inl rfl) e
 |met f y=>
  have e:=x;exact k a _ (.inl rfl) e
 |ext φ=>obtain⟨p,⟨o,e⟩,st⟩:=x;exact{st _ _ p λo q=>k _ _ (.inl rfl) q,{o,k _ _ (.inl rfl) e},st}
def jo.lt(x:jo P w H h)(e:H a=some o):a<h.objs.size:=(x a o e).lt
def jo.fresh(x:jo P w H h)(e:h.objs.size<=a):H a=none:=by
 cases q:H a with
 |none=>rfl
 |some u=>exact absurd (aW (x.lt q) e) (cY _)
def jo.kept(x:jo P w H h)(k:∀b u,h.get? b=some u->h'.get? b=some u):jo P w H h':=λa o e=>
 (x a o e).iQ (λb u _ q=>k b u q) (λ_ q=>q) λ_ _ q=>q
def jo.laid(x:jo P w H h)(k:∀b u,h.get? b=some u->h'.get? b=some u)(hp:h.objs.size<=a)(new:du P w (upd H a o) h' a o):jo P w (upd H a o) h':=λb u e=>by
 have hn:=x.fresh hp;by_cases hb:b=a
 ·subst hb;rw[aw]at e;cases e;exact new
 ·rw[ax hb]at e;exact(x b u e).iQ (λc v _ q=>k c v q) (λc q=>by rw[ax (aX q hn)];exact q) λc xs q=>by rw[ax (aX q hn)];exact q
end
def Rd(H:Hp)(a:Addr)(u:HO):Prop:=H a=some u\/∃o,H a=some (.eO o u)
def Rd.ok(r:Rd H a u)(x:jo P w H h):du P w H h a u:=by
 rcases r with r|⟨o,r⟩
 ·exact x a u r
 ·obtain⟨_,q⟩:=x a _ r;exact q
def QO:Option HO->Prop
 |some (.lst _)=>True
 |some (.dK _)=>True
 |some (.dT _)=>True
 |some (.set _ _)=>True
 |some (.ins _ _ _)=>True
 |some (.ext _)=>True
 |_=>False
section
variable{P:Program}{w:World}{H:Hp}{h h':Heap}{x e:Addr}{o':HO}
def jo.write(ok:jo P w H h)(mu:QO (H x))(he:e=x\/H e=some (.own x))(k:∀b u,b≠e->h.get? b=some u->h'.get? b=some u)(Ln:∃u,h'.get? e=some u)
  (new:du P w (upd H x o') h' x o'):jo P w (upd H x o') h':=λb u q=>by
 have Yj:∀c y,H c=some (.own y)->c≠x:=λc y r z=>by subst z;rw[r]at mu;exact mu
 have abU:∀c xs,H c=some (.tup xs)->c≠x:=λc xs r z=>by subst z;rw[r]at mu;exact mu
 by_cases hb:b=x
 ·subst hb;rw[aw]at q;cases q;exact new
 ·rw[ax hb]at q;by_cases IU:b=e
  ·have q':H b=some (.own x):=by
    rcases he with z|z
    ·exact absurd (IU.trans z) hb
    ·rw[IU];exact z
   rw[q]at q';cases q';obtain⟨v,hv⟩:=Ln;exact{v,by rw[IU];exact hv}
  ·refine(ok b u q).iQ (λc v hc r=>k c v ?_ r) (λc r=>by rw[ax (Yj c b r)];exact r) λc xs r=>by rw[ax (abU c xs r)];exact r
   rcases hc with rfl|hc
   ·exact IU
   ·rintro rfl;rcases he with z|z
    ·exact Yj c b hc z
    ·rw[hc]at z;cases z;exact hb rfl
end
structure Un(fs ex:List Addr)(H H':Hp)(h h':Heap):Prop where
 keep:∀b o,h.get? b=some o->H b=none->b∉fs->b∉ex->h'.get? b=some o
 slot:∀b o,h.get? b=some o->H b=none->b∈fs->b∉ex->∃sl,h'.get? b=some {o with slots:=sl}
 free:∀b o,h.get? b=some o->H b=none->b∉ex->H' b=none
 there:∀b o,h.get? b=some o->b∉ex->∃o',h'.get? b=some o'
 kY:∀b xs,H b=some (.tup xs)->H' b=some (.tup xs)
 sR:∀b o u,H b=some (.eO o u)->H' b=some (.eO o u)
 xB:∀b ps,H b=some (.GQ ps)->∃more,H' b=some (.GQ (ps++more))
section
variable{fs ex:List Addr}{H H1:Hp}{h h1 h':Heap}{a x e:Addr}{o:HO}
def Un.any(u:Un fs ex H H1 h h1)(q:h.get? b=some ob)(n:H b=none)(hx:b∉ex):∃sl,h1.get? b=some {ob with slots:=sl}:=by
 by_cases hb:b∈fs
 ·exact u.slot b ob q n hb hx
 ·exact{ob.slots,u.keep b ob q n hb hx}
def Un.kept(k:∀b u,h.get? b=some u->h'.get? b=some u):Un fs ex H H h h':=
 {λb ob q _ _ _=>k b ob q,λb ob q _ _ _=>{ob.slots,k b ob q},λ_ _ _ n _=>n,λb ob q _=>{ob,k b ob q},λ_ _ q=>q,λ_ _ _ q=>q,λ_ ps q=>{#[],by rw[q];simp}}
def Un.refl:Un fs ex H H h h:=Un.kept λ_ _ q=>q
def Un.laid(k:∀b u,h.get? b=some u->h'.get? b=some u)(hp:h.objs.size<=a)(hn:H a=none):Un fs ex H (upd H a o) h h' where
 keep:=λb u q _ _ _=>k b u q
 slot:=λb u q _ _ _=>{u.slots,k b u q}
 free:=λb u q n _=>by rw[ax (aI (aW (aB q) hp))];exact n
 there:=λb u q _=>{u,k b u q}
 kY:=λb xs q=>by rw[ax (aX q hn)];exact q
 sR:=λb u xs q=>by rw[ax (aX q hn)];exact q
 xB:=λb ps q=>{#[],by rw[ax (aX q hn),q];simp}
def Un.write(mu:QO (H x))(he:e=x\/H e=some (.own x))(k:∀b u,b≠e->h.get? b=some u->h'.get? b=some u)(Ln:∃u,h'.get? e=some u):Un fs ex H (upd H x o) h h':=by
 have hx:∀b,H b=none->b≠x:=λb n z=>by subst z;rw[n]at mu;exact mu
 have hb:∀b,H b=none->b≠e:=λb n z=>by
  subst z;rcases he with r|r
  ·exact hx b n r
  ·rw[n]at r;cases r
 have hm:∀b u,H b=some u->¬QO (some u)->b≠x:=λb u q nm z=>by subst z;rw[q]at mu;exact nm mu
 refine{λb u q n _ _=>k b u (hb b n) q,λb u q n _ _=>{u.slots,k b u (hb b n) q},λb u q n _=>by rw[ax (hx b n)];exact n,λb u q _=>?_,
  λb xs q=>by rw[ax (hm b _ q λz=>z)];exact q,λb u xs q=>by rw[ax (hm b _ q λz=>z)];exact q,λb ps q=>{#[],by rw[ax (hm b _ q λz=>z),q];simp}}
 by_cases IU:b=e
 ·subst IU;exact Ln
 ·exact{u,k b u IU q}
end
def Tw(h:Heap)(H:Hp):List Addr:=(List.range h.objs.size).filter λa=>(H a).isSome
def xY(h:Heap)(H:Hp):Heap:=PySem.W.hideAll h (Tw h H)
def PZ(h:Heap)(H:Hp):(xY h H).objs.size=h.objs.size:=PySem.W.hideAll_size _ _
def Sy(e:h.get? b=some o)(n:H b=none):(xY h H).get? b=some o:=
 PySem.W.hideAll_get _ e λhm=>by have q:=(bJ.mp hm).2;rw[n]at q;simp at q
def Wk(e:(xY h H).get? b=some o):h.get? b=some o/\H b=none:=by
 have e':=PySem.W.of_hideAll (Tw h H) e;refine{e',?_};cases q:H b with
 |none=>rfl
 |some x=>
  have hm:b∈Tw h H:=bJ.mpr {cX.mpr (aB e'),by simp[q]};have z:(xY h H).get? b=none:=PySem.W.hideAll_none (Tw h H) hm;rw[z]at e;cases e
def WU(g h:Heap)(L:Addr):List (Addr×Obj):=(List.range h.objs.size).filterMap λa=>if a=L\/(g.get? a).isSome=true then none else(h.get? a).map λo=>(a,o)
def rest(g h:Heap)(L d:Addr):List (Addr×Obj):=(WU g h L).filter λp=>decide (p.1≠d)
structure Mod(K:Frag)(mg:Str->Option Value)(base:Heap):Prop where
 O8:K.In base
 glob:base.Ns mainGlobals mg
 blt:∃mb,base.Ns builtinsNs mb/\∀x:Str,x≠"__name__"->mb x=bootBuiltins x
 nolimit:base.NoLimit
structure Cx where
 prog:Program
 w:World
 K:Frag
 mg:Str->Option Value
 base:Heap
 A:Around
 N:List Str
 aab:Shared
 aaf:Hp
 env:Env
 outer:List Env
 stack:List Env
 ex:List Addr
 fn:Str->Bool
 calm:Bool
 pn:List (Addr×Obj)
 xe:Value->Shared->Prop
def yR(l:List Env):List Addr:=l.filterMap (·.frame)
abbrev Cx.fs(X:Cx):List Addr:=yR X.outer
def Vis(sc:Scope)(x:Str):Prop:=sc.names.lookup x=some .local\/sc.names.lookup x=some .cell\/sc.names.lookup x=some .free
def Loc(sc:Scope)(x:Str):Prop:=sc.names.lookup x=some .local\/sc.names.lookup x=some .cell
def Look(env:Env)(h:Heap)(m:Str->Option Value)(x:Str)(u:Value):Prop:=
 (env.kindOf x=some .local/\m x=some u)\/((env.kindOf x=some .cell\/env.kindOf x=some .free)/\∃c,env.cells.lookup x=some c/\h.IsCell c (some u))
structure Cx.Ok(X:Cx):Prop where
 mod:Mod X.K X.mg X.base
 kind:X.env.scope.kind=.function
 glob:X.env.globals=mainGlobals
 blt:X.env.builtins=builtinsNs
 above:X.aab.heap.objs.size<=X.env.locals
 inj:∀x y c,X.env.cells.lookup x=some c->X.env.cells.lookup y=some c->x=y
 has:∀x,(X.env.kindOf x=some .cell\/X.env.kindOf x=some .free)->∃c,X.env.cells.lookup x=some c
 LJ:∀x c,X.fn x=true->X.env.cells.lookup x=some c->X.aab.heap.objs.size<=c
 hd:X.calm=true->X.A.handled=none
 frames:X.A.frames=some X.stack
 NL:X.stack=X.outer\/(X.stack=X.env::X.outer/\X.env.frame=some X.env.locals)
 Qg:∀b∈X.ex,b≠X.env.locals/\∀x c,X.env.cells.lookup x=some c->c≠b
 bs:∀b o,X.base.get? b=some o->X.aab.heap.get? b=some o/\X.aaf b=none
 B2:X.base.objs.size<=X.aab.heap.objs.size
 EC:∀b o,X.base.get? b=some o->b∉X.ex
 CB:∀b∈X.ex,b∉X.fs
 rg:X.aab.heap.FunFrames X.base X.outer
 F0:∀b∈X.fs,X.aaf b=none
structure Inv(X:Cx)(pins:List (Addr×Obj))(Z:List (Option V))(H:Hp)(s:Shared):Prop where
 ok:X.Ok
 os:s.os=X.aab.os
 bare:AllBare s.gens
 base:Un X.fs X.ex X.aaf H X.aab.heap s.heap
 loc:∃m,s.heap.Ns X.env.locals m/\∀(i:Nat)(x:Str)(v:V),X.N[i]?=some x->Z[i]?=some (some v)->Vis X.env.scope x->∃u,RelV v u/\Look X.env s.heap m x u
 cell:∀x c,X.env.cells.lookup x=some c->∃v,s.heap.IsCell c v
 free:H X.env.locals=none
 nN:∀x c,X.env.cells.lookup x=some c->H c=none
 pin:∀p∈X.pn++pins,s.heap.get? p.1=some p.2/\H p.1=none/\p.1≠X.env.locals/\p.1∉X.fs/\∀v,p.2.data≠ .cell v
 br:jo X.prog X.w H s.heap
 len:Z.length=X.N.length
section
variable{X:Cx}{pins:List (Addr×Obj)}{Z:List (Option V)}{H H':Hp}{s:Shared}{h':Heap}
def Cx.Ok.abV(ok:X.Ok)(e:X.base.get? b=some o):b∉X.fs:=λhb=>by have:=(ok.rg.mem hb).1;rw[e]at this;cases this
def Inv.bs(I:Inv X pins Z H s):∀b o,X.base.get? b=some o->s.heap.get? b=some o/\H b=none:=λb o e=>
 {I.base.keep b o (I.ok.bs b o e).1 (I.ok.bs b o e).2 (I.ok.abV e) (I.ok.EC b o e),I.base.free b o (I.ok.bs b o e).1 (I.ok.bs b o e).2 (I.ok.EC b o e)}
def Inv.bk(I:Inv X pins Z H s):∀b o,X.base.get? b=some o->s.heap.get? b=some o:=λb o e=>(I.bs b o e).1
def Inv.mod(I:Inv X pins Z H s):Mod X.K X.mg X.base:=I.ok.mod
def Inv.mq(I:Inv X pins Z H s):X.K.In s.heap:=I.ok.mod.O8.keeps I.bk
def Inv.lt(I:Inv X pins Z H s):X.env.locals<s.heap.objs.size:=let⟨_,hn,_⟩:=I.loc;hn.lt
def Inv.sz(I:Inv X pins Z H s):X.aab.heap.objs.size<=s.heap.objs.size:=aF I.ok.above (bg I.lt)
def Inv.Yk(I:Inv X pins Z H s)(h:s.heap.objs.size<=a):a∉X.fs:=λhb=>by obtain⟨_,o,ho,_⟩:=I.ok.rg.mem hb;exact absurd (aW (aB ho) (aF I.sz h)) (cY _)
def Inv.Jc(I:Inv X pins Z H s):∀x c,X.env.cells.lookup x=some c->c≠X.env.locals:=λx c e z=>by obtain⟨v,o,ho,hd⟩:=I.cell x c e;obtain⟨m,⟨o',es,ep,qL,si,_⟩,_⟩:=I.loc;rw[z,qL]at ho;cases ho;rw[si]at hd;cases hd
def Inv.rg(I:Inv X pins Z H s):s.heap.FunFrames X.base X.outer:=by
 have all:∀(l:List Env),(∀b∈yR l,b∈X.fs)->X.aab.heap.FunFrames X.base l->s.heap.FunFrames X.base l:=by
  intro l
  induction l with
  |nil=>intro _ _;trivial
  |cons env r ih=>
   intro hs hl;obtain⟨hk,⟨L,o,hf,hn,ho,hd⟩,hr⟩:=hl;have hL:=hs L (by unfold yR;rw[fU,hf];exact aA);obtain⟨sl,e⟩:=I.base.slot L o ho (I.ok.F0 L hL) hL λz=>I.ok.CB L z hL;exact{hk,⟨L,_,hf,hn,e,hd⟩,ih (λb hb=>hs b (by unfold yR;rw[fU,hf];exact az _ hb)) hr}
 exact all X.outer (λ_ hb=>hb) I.ok.rg
def Inv.stack(I:Inv X pins Z H s):s.heap.FunFrames X.base X.stack:=by
 rcases I.ok.NL with e|⟨e,hf⟩
 ·rw[e];exact I.rg
 ·rw[e];obtain⟨m,hn,_⟩:=I.loc;refine .cons (by rw[I.ok.kind];decide) hf hn ?_ I.rg;exact lB (aF I.ok.B2 I.ok.above)
def Inv.GY(I:Inv X pins Z H s):∀b∈yR X.stack,b∈X.env.locals::X.fs:=λb hb=>by
 rcases I.ok.NL with e|⟨e,hf⟩
 ·rw[e]at hb;exact az _ hb
 ·rw[e]at hb;unfold yR at hb;rw[fU,hf]at hb;exact hb
def Inv.Km(I:Inv X pins Z H s):∀b∈yR X.stack,H b=none:=λb hb=>by
 rcases aE.mp (I.GY b hb)with e|hb
 ·rw[e];exact I.free
 ·obtain⟨_,o,ho,_⟩:=I.ok.rg.mem hb;exact I.base.free b o ho (I.ok.F0 b hb) λz=>I.ok.CB b z hb
def Inv.step{ch:List Addr}(I:Inv X pins Z H s)
  (BR:∀b∈ch,(b∈X.ex\/X.aab.heap.objs.size<=b)/\b≠X.env.locals/\(∀x c,X.env.cells.lookup x=some c->c≠b)/\∀p∈X.pn++pins,p.1≠b)
  (keep:∀b o,b≠X.env.locals->b∉X.fs->b∉ch->s.heap.get? b=some o->H b=none->h'.get? b=some o)
  (slot:∀b o,b≠X.env.locals->b∈X.fs->b∉ch->s.heap.get? b=some o->H b=none->∃sl,h'.get? b=some {o with slots:=sl}) (free:∀b o,b∉ch->s.heap.get? b=some o->H b=none->H' b=none)
  (there:∀b o,b∉ch->s.heap.get? b=some o->∃o',h'.get? b=some o')
  (kY:∀b xs,H b=some (.tup xs)->H' b=some (.tup xs)) (sR:∀b o u,H b=some (.eO o u)->H' b=some (.eO o u)) (xB:∀b ps,H b=some (.GQ ps)->∃more,H' b=some (.GQ (ps++more)))
  (ns:∀m,s.heap.Ns X.env.locals m->h'.Ns X.env.locals m) (br:jo X.prog X.w H' h') (hg:AllBare g'):
  Inv X pins Z H' {s with heap:=h',gens:=g',drawn:=d',toks:=t'}:=by
 have KY:∀b o,X.aab.heap.get? b=some o->b≠X.env.locals:=λb o e=>aI (aW (aB e) I.ok.above);have Us:∀b o,X.aab.heap.get? b=some o->b∉X.ex->b∉ch:=λb o e hx hb=>by
  rcases(BR b hb).1 with z|z
  ·exact hx z
  ·exact absurd (aW (aB e) z) (cY _)
 have cellK:∀x c,X.env.cells.lookup x=some c->∀v,s.heap.IsCell c v->h'.IsCell c v:=λx c e v ⟨o,ho,hd⟩=>by
  have OO:=λz=>(BR c z).2.2.1 x c e rfl;by_cases hc:c∈X.fs
  ·obtain⟨sl,q⟩:=slot c o (I.Jc x c e) hc OO ho (I.nN x c e);exact⟨_,q,hd⟩
  ·exact{o,keep c o (I.Jc x c e) hc OO ho (I.nN x c e),hd}
 refine{I.ok,I.os,hg,{λb o e n hb hx=>?_,λb o e n hb hx=>?_,λb o e n hx=>?_,λb o e hx=>?_,λb xs e=>kY b xs (I.base.kY b xs e),λb o xs e=>sR b o xs (I.base.sR b o xs e),λb ps e=>?_},?_,λx c e=>?_,?_,λx c e=>?_,λp hp=>?_,br,I.len}
 ·exact keep b o (KY b o e) hb (Us b o e hx) (I.base.keep b o e n hb hx) (I.base.free b o e n hx)
 ·obtain⟨sl,e1⟩:=I.base.slot b o e n hb hx;obtain⟨sl',e2⟩:=slot b _ (KY b o e) hb (Us b o e hx) e1 (I.base.free b o e n hx);exact⟨sl',e2⟩
 ·obtain⟨o',e1⟩:=I.base.there b o e hx;exact free b o' (Us b o e hx) e1 (I.base.free b o e n hx)
 ·obtain⟨o',e1⟩:=I.base.there b o e hx;exact there b o' (Us b o e hx) e1
 ·obtain⟨m1,e1⟩:=I.base.xB b ps e;obtain⟨m2,e2⟩:=xB b _ e1;exact{m1++m2,by rw[e2,Array.append_assoc]}
 ·obtain⟨m,hn,hl⟩:=I.loc;refine{m,ns m hn,λi x v e1 e2 e3=>?_};obtain⟨u,r,l⟩:=hl i x v e1 e2 e3;refine{u,r,?_};rcases l with l|⟨k,c,e,z⟩
  ·exact .inl l
  ·exact .inr {k,c,e,cellK x c e _ z}
 ·obtain⟨v,z⟩:=I.cell x c e;exact{v,cellK x c e v z}
 ·obtain⟨m,⟨o,_,_,ho,_⟩,_⟩:=I.loc;exact free _ o (λz=>(BR _ z).2.1 rfl) ho I.free
 ·obtain⟨v,o,ho,hd⟩:=I.cell x c e;exact free c o (λz=>(BR c z).2.2.1 x c e rfl) ho (I.nN x c e)
 ·obtain⟨e,n,ne,nf,d⟩:=I.pin p hp;have OO:=λz=>(BR p.1 z).2.2.2 p hp rfl;exact{keep p.1 p.2 ne nf OO e n,free p.1 p.2 OO e n,ne,nf,d}
def Inv.un(I:Inv X pins Z H s)(u:Un X.fs [] H H' s.heap h')(br:jo X.prog X.w H' h'):Inv X pins Z H' {s with heap:=h',toks:=t'}:=by
 obtain⟨m,⟨o,es,ep,ho,r⟩,_⟩:=id I.loc;obtain⟨sl,hL⟩:=u.any ho I.free (by simp);exact I.step (ch:=[]) (λ_ z=>nomatch z) (λb o _ hb _ e n=>u.keep b o e n hb (by simp)) (λb o _ hb _ e n=>u.slot b o e n hb (by simp)) (λb o _ e n=>u.free b o e n (by simp)) (λb o _ e=>u.there b o e (by simp)) u.kY u.sR u.xB (λm' hm=>by obtain⟨o',xl,An,qL,r'⟩:=hm;rw[ho]at qL;cases qL;exact⟨_,xl,An,hL,r'⟩) br I.bare
def Inv.call(I:Inv X pins Z H s)(u:Un (yR X.stack) ch H H' s.heap h')(br:jo X.prog X.w H' h')(hg:AllBare g')
  (BR:∀b∈ch,(b∈X.ex\/X.aab.heap.objs.size<=b)/\b≠X.env.locals/\(∀x c,X.env.cells.lookup x=some c->c≠b)/\∀p∈X.pn++pins,p.1≠b):
  Inv X pins Z H' {s with heap:=h',gens:=g',drawn:=d',toks:=t'}:=by
 obtain⟨m,⟨o,es,ep,ho,r⟩,_⟩:=id I.loc;obtain⟨sl,hL⟩:=u.any ho I.free λz=>(BR _ z).2.1 rfl;exact I.step BR (λb o hL hb hc e n=>u.keep b o e n (λz=>(aE.mp (I.GY b z)).elim hL hb) hc) (λb o _ _ hc e n=>u.any e n hc) (λb o hc e n=>u.free b o e n hc) (λb o hc e=>u.there b o e hc) u.kY u.sR u.xB (λm' hm=>by obtain⟨o',xl,An,qL,r'⟩:=hm;rw[ho]at qL;cases qL;exact⟨_,xl,An,hL,r'⟩) br hg
def Inv.turned(I:Inv X pins Z H s)(k:∀b o,b≠it->s.heap.get? b=some o->h'.get? b=some o)(hn:H it=none)(hL:it≠X.env.locals)
  (h1:it∈X.ex\/X.aab.heap.objs.size<=it) (h2:∀x c,X.env.cells.lookup x=some c->c≠it) (h3:∀p∈X.pn++pins,p.1≠it):Inv X pins Z H {s with heap:=h',toks:=t'}:=by
 have nit:∀b u,H b=some u->b≠it:=λb u e z=>by rw[z,hn]at e;cases e
 refine I.step (ch:=[it]) (λb hb=>?_) (λb o _ _ hc e _=>k b o (λz=>hc (by simp[z])) e) (λb o _ _ hc e _=>{o.slots,k b o (λz=>hc (by simp[z])) e}) (λ_ _ _ _ n=>n)
  (λb o hc e=>{o,k b o (λz=>hc (by simp[z])) e}) (λ_ _ e=>e) (λ_ _ _ e=>e) (λb ps e=>{#[],by rw[e];simp}) (λm hm=>?_) (λb u e=>?_) I.bare
 ·have e:b=it:=by simpa using hb
  subst e;exact⟨h1,hL,h2,h3⟩
 ·obtain⟨o,es,ep,ho,r⟩:=hm;exact{o,es,ep,k _ o (bX hL) ho,r}
 ·refine(I.br b u e).iQ (λc v hc q=>k c v ?_ q) (λ_ q=>q) λ_ _ q=>q;rcases hc with z|z
  ·rw[z];exact nit b u e
  ·exact nit c _ z
def Inv.tok(I:Inv X pins Z H s)(t:Nat):Inv X pins Z H {s with toks:=t}:=I.un Un.refl I.br
def Inv.kept(I:Inv X pins Z H s)(k:∀b u,s.heap.get? b=some u->h'.get? b=some u):Inv X pins Z H {s with heap:=h',toks:=t'}:=I.un (Un.kept k) (I.br.kept k)
def Inv.laid(I:Inv X pins Z H s)(k:∀b u,s.heap.get? b=some u->h'.get? b=some u)(hp:s.heap.objs.size<=a)(new:du X.prog X.w (upd H a o) h' a o):
  Inv X pins Z (upd H a o) {s with heap:=h',toks:=t'}:=I.un (Un.laid k hp (I.br.fresh hp)) (I.br.laid k hp new)
def Inv.write(I:Inv X pins Z H s)(mu:QO (H x))(he:e=x\/H e=some (.own x))(k:∀b u,b≠e->s.heap.get? b=some u->h'.get? b=some u)(Ln:∃u,h'.get? e=some u)
  (new:du X.prog X.w (upd H x o) h' x o):Inv X pins Z (upd H x o) {s with heap:=h',toks:=t'}:=I.un (Un.write mu he k Ln) (I.br.write mu he k Ln new)
def Inv.wO(I:Inv X pins Z H s)(h:∀p∈aaY,s.heap.get? p.1=some p.2/\H p.1=none/\p.1≠X.env.locals/\p.1∉X.fs/\∀v,p.2.data≠ .cell v):Inv X aaY Z H s:=
 {I.ok,I.os,I.bare,I.base,I.loc,I.cell,I.free,I.nN,λp hp=>(aS.mp hp).elim (λz=>I.pin p (b6 _ z)) (h p),I.br,I.len}
def HQ{N:List Str}(hN:N.Nodup){i j:Nat}(a:N[i]?=some x)(b:N[j]?=some x):i=j:=by obtain⟨h1,e1⟩:=ar.mp a;obtain⟨h2,e2⟩:=ar.mp b;exact(List.getElem_inj hN).mp (e1.trans e2.symm)
def NJ(I:Inv X pins Z H s)(hN:X.N.Nodup)(hi:X.N[i]?=some x)(hx:Loc X.env.scope x)(r:RelV v u)
  (h:∀s',Inv X pins (Z.set i (some v)) H s'->(∃a,Heap.SameBut a s.heap s'.heap/\(a=X.env.locals\/X.env.cells.lookup x=some a))->Q () s') (hf:X.fn x=true\/X.env.scope.names.lookup x=some .local:=by first|exact .inl rfl|exact .inr rfl|assumption):wpAny M A (storeName X.env x u) Q E s:=by
 obtain⟨m,hn,hl⟩:=id I.loc;have acX:(X.env.scope.kind==.class||(X.env.scope.kind==.module&&X.env.locals !=X.env.globals))=false:=by rw[I.ok.kind];rfl
 have hiZ:i<Z.length:=by rw[I.len];exact(ar.mp hi).1
 have Jc:=I.Jc;have tracked:∀{a:Addr}{h':Heap},(∃o,s.heap.get? a=some o/\H a=none)->Heap.SameBut a s.heap h'->jo X.prog X.w H h':=λ{a h'} ha hs b ob e=>by
  obtain⟨_,_,U0⟩:=ha;refine(I.br b ob e).iQ (λc w' hc q=>(hs.2 c ?_).trans q) (λ_ q=>q) λ_ _ q=>q;rintro rfl;rcases hc with rfl|hc
  ·rw[U0]at e;cases e
  ·rw[U0]at hc;cases hc
 rcases hx with hk|hk
 ·refine wpAny_storeName_local hk hn (λh' ZE hs=>?_) acX;obtain⟨oL,_,_,IG,_⟩:=id hn;refine h _ {I.ok,I.os,I.bare,{λb o e n hb hx=>?_,λb o e n hb hx=>?_,I.base.free,λb o e hx=>?_,I.base.kY,I.base.sR,I.base.xB},{_,ZE,λj y v' e1 e2 e3=>?_},λy c e=>?_,I.free,I.nN,λp hp=>?_,tracked {oL,IG,I.free} hs,by simpa using I.len} {_,hs,.inl rfl}
  ·exact(hs.2 b (aI (aW (aB e) I.ok.above))).trans (I.base.keep b o e n hb hx)
  ·obtain⟨sl,e1⟩:=I.base.slot b o e n hb hx;exact{sl,(hs.2 b (aI (aW (aB e) I.ok.above))).trans e1}
  ·obtain⟨o',e1⟩:=I.base.there b o e hx;exact{o',(hs.2 b (aI (aW (aB e) I.ok.above))).trans e1}
  ·by_cases hj:j=i
   ·subst hj;rw[hi]at e1;cases e1;rw[wB hiZ]at e2;cases e2;exact{u,r,.inl {hk,by simp}}
   ·rw[yw (bX hj)]at e2;obtain⟨u',r',q⟩:=hl j y v' e1 e2 e3;refine{u',r',?_};rcases q with⟨k,e⟩|⟨k,c,e,z⟩
    ·refine .inl {k,?_};have:y≠x:=λe=>hj (HQ hN e1 (e▸hi));simp[this,e]
    ·exact .inr {k,c,e,z.sameBut hs (Jc y c e)}
  ·obtain⟨w',z⟩:=I.cell y c e;exact{w',z.sameBut hs (Jc y c e)}
  ·obtain⟨e,n,ne,nf,d⟩:=I.pin p hp;exact{(hs.2 p.1 ne).trans e,n,ne,nf,d}
 ·have ZU:X.fn x=true:=by
   rcases hf with z|z
   ·exact z
   ·rw[z]at hk;cases hk
  obtain⟨c,hc⟩:=I.ok.has x (.inl hk);obtain⟨w',z⟩:=I.cell x c hc;refine wpAny_storeName_cell I.ok.kind hk hc z (λh' kQ hs=>?_);obtain⟨oc,hoc,acO⟩:=id z;refine h {s with heap:=h'} {I.ok,I.os,I.bare,{λb o e n hb hx=>?_,λb o e n hb hx=>?_,I.base.free,λb o e hx=>?_,I.base.kY,I.base.sR,I.base.xB},{m,hn.sameBut hs (bX (Jc x c hc)),λj y v' e1 e2 e3=>?_},λy c' e=>?_,I.free,I.nN,λp hp=>?_,tracked {oc,hoc,I.nN x c hc} hs,by simpa using I.len} {c,hs,.inr hc}
  ·exact(hs.2 b (aI (aW (aB e) (I.ok.LJ x c ZU hc)))).trans (I.base.keep b o e n hb hx)
  ·obtain⟨sl,e1⟩:=I.base.slot b o e n hb hx;exact{sl,(hs.2 b (aI (aW (aB e) (I.ok.LJ x c ZU hc)))).trans e1}
  ·obtain⟨o',e1⟩:=I.base.there b o e hx;exact{o',(hs.2 b (aI (aW (aB e) (I.ok.LJ x c ZU hc)))).trans e1}
  ·by_cases hj:j=i
   ·subst hj;rw[hi]at e1;cases e1;rw[wB hiZ]at e2;cases e2;exact{u,r,.inr {.inl hk,c,hc,kQ}}
   ·rw[yw (bX hj)]at e2;obtain⟨u',r',q⟩:=hl j y v' e1 e2 e3;refine{u',r',?_};rcases q with q|⟨k,c',e,z'⟩
    ·exact .inl q
    ·refine .inr {k,c',e,z'.sameBut hs ?_};rintro rfl;exact hj (HQ hN e1 (I.ok.inj _ _ _ e hc▸hi))
  ·by_cases Lp:c'=c
   ·subst Lp;exact⟨_,kQ⟩
   ·obtain⟨w2,z2⟩:=I.cell y c' e;exact{w2,z2.sameBut hs Lp}
  ·obtain⟨e,n,ne,nf,d⟩:=I.pin p hp;refine{(hs.2 p.1 ?_).trans e,n,ne,nf,d};intro q;rw[q,hoc]at e;have q':=bL e;exact d w' (by rw[<-q'];exact acO)
def xD(I:Inv X pins Z H s)(hN:X.N.Nodup)(hi:X.N[i]?=some x)(hx:Loc X.env.scope x)(r:RelV v u)
  (h:∀s',Inv X pins (Z.set i (some v)) H s'->Q () s') (hf:X.fn x=true\/X.env.scope.names.lookup x=some .local:=by first|exact .inl rfl|exact .inr rfl|assumption):wpAny M A (storeName X.env x u) Q E s:=
 NJ I hN hi hx r (λs' I' _=>h s' I') hf
def Inv.abv(I:Inv X pins Z H s)(ho:s'.os=s.os)(u:Un (yR X.stack) ch H H' s.heap s'.heap)(br:jo X.prog X.w H' s'.heap)(hg:AllBare s'.gens)
  (BR:∀b∈ch,(b∈X.ex\/X.aab.heap.objs.size<=b)/\b≠X.env.locals/\(∀x c,X.env.cells.lookup x=some c->c≠b)/\∀p∈X.pn++pins,p.1≠b):Inv X pins Z H' s':=by
 obtain⟨h',g',d',t',o'⟩:=s';have e:=ho;subst e;exact I.call u br hg BR
abbrev XK:=Value->Option Addr->Hp->Prop
abbrev St:=List (Option V)
abbrev VK:=V->Hp->Prop
abbrev TE:=St->Hp->VK->Prop
abbrev TT:=St->Hp->(Bool->Hp->Prop)->Prop
abbrev TA:=St->Hp->(List V->Hp->Prop)->Prop
structure Ends where
 nx:St->Hp->Prop
 rt:VK
 bk:St->Hp->Prop:=λ_ _=>False
 ct:St->Hp->Prop:=λ_ _=>False
abbrev TS:=Ends->St->Hp->Prop
end
inductive EP(X:Cx)(pins:List (Addr×Obj))(Z:St)(Q:VK)(u:Value)(s':Shared):Prop
 |mk v H' (_:Inv X pins Z H' s') (_:RelV v u) (_:Q v H')
inductive TP(X:Cx)(pins:List (Addr×Obj))(Z:St)(Q:Bool->Hp->Prop)(b:Bool)(s':Shared):Prop
 |mk H' (_:Inv X pins Z H' s') (_:Q b H')
inductive AP(X:Cx)(pins:List (Addr×Obj))(Z:St)(Q:List V->Hp->Prop)(us:List Value)(s':Shared):Prop
 |mk vs H' (_:Inv X pins Z H' s') (_:Vals vs us) (_:Q vs H')
def SP(X:Cx)(pins:List (Addr×Obj))(D:Ends)(f:Flow)(s':Shared):Prop:=
 match f with
 | .next=>∃σ' H',Inv X pins σ' H' s'/\D.nx σ' H'
 | .brk=>∃σ' H',Inv X pins σ' H' s'/\D.bk σ' H'
 | .cont=>∃σ' H',Inv X pins σ' H' s'/\D.ct σ' H'
 | .ret u=>∃v σ' H',Inv X pins σ' H' s'/\RelV v u/\D.rt v H'
def PE(X:Cx)(e:Expr)(t:TE):Prop:=
 ∀(pins:List (Addr×Obj))(s:Shared)(Z:St)(H:Hp)(Q:VK),Inv X pins Z H s->t Z H Q->wpAny (model X.prog X.w) X.A (eval e X.env) (EP X pins Z Q) X.xe s
def PT(X:Cx)(e:Expr)(t:TT):Prop:=
 ∀(pins:List (Addr×Obj))(s:Shared)(Z:St)(H:Hp)(Q:Bool->Hp->Prop),Inv X pins Z H s->t Z H Q->wpAny (model X.prog X.w) X.A (isTrue e X.env (eval e X.env)) (TP X pins Z Q) X.xe s
def PW(X:Cx)(e:Expr)(t:TT):Prop:=
 ∀(whole:Sem Value)(pins:List (Addr×Obj))(s:Shared)(Z:St)(H:Hp)(Q:Bool->Hp->Prop),Inv X pins Z H s->t Z H Q->wpAny (model X.prog X.w) X.A (isTrue e X.env whole) (TP X pins Z Q) X.xe s
def PW.pt(h:PW X e t):PT X e t:=h _
def PA(X:Cx)(es:List Expr)(t:TA):Prop:=
 ∀(pos:Pos)(pins:List (Addr×Obj))(s:Shared)(Z:St)(H:Hp)(Q:List V->Hp->Prop),Inv X pins Z H s->t Z H Q->wpAny (model X.prog X.w) X.A (spliced (backTo pos (starEach es X.env))) (AP X pins Z Q) X.xe s
def PS(X:Cx)(st:Stmt)(t:TS):Prop:=
 ∀(pins:List (Addr×Obj))(s:Shared)(Z:St)(H:Hp)(D:Ends),Inv X pins Z H s->t D Z H->wpAny (model X.prog X.w) X.A (exec st X.env) (SP X pins D) X.xe s
def j9(X:Cx)(st:List Stmt)(t:TS):Prop:=
 ∀(pins:List (Addr×Obj))(s:Shared)(Z:St)(H:Hp)(D:Ends),Inv X pins Z H s->t D Z H->wpAny (model X.prog X.w) X.A (execs st X.env) (SP X pins D) X.xe s
def gR(h:wpAny M A t Q E s)(hQ:∀a s,Q a s->Q' a s):wpAny M A t Q' E s:=cR h hQ λ_ _ x=>x
def cU{X:Cx}{pins:List (Addr×Obj)}{Z:St}{Q:VK}{t:Sem Value}{Q':Value->Shared->Prop}{s:Shared}(h:wpAny (model X.prog X.w) X.A t (EP X pins Z Q) X.xe s)(k:∀u s x H,Inv X pins Z H s->RelV x u->Q x H->Q' u s):wpAny (model X.prog X.w) X.A t Q' X.xe s:=gR h λu s ⟨x,H,I,r,q⟩=>k u s x H I r q
def pU{X:Cx}{pins:List (Addr×Obj)}{Z:St}{Q:List V->Hp->Prop}{t:Sem (List Value)}{Q':List Value->Shared->Prop}{s:Shared}(h:wpAny (model X.prog X.w) X.A t (AP X pins Z Q) X.xe s)(k:∀u s x H,Inv X pins Z H s->Vals x u->Q x H->Q' u s):wpAny (model X.prog X.w) X.A t Q' X.xe s:=gR h λu s ⟨x,H,I,r,q⟩=>k u s x H I r q
def El{X:Cx}{pins:List (Addr×Obj)}{Z:St}{Q:Bool->Hp->Prop}{t:Sem Bool}{Q':Bool->Shared->Prop}{s:Shared}(h:wpAny (model X.prog X.w) X.A t (TP X pins Z Q) X.xe s)(k:∀u s H,Inv X pins Z H s->Q u H->Q' u s):wpAny (model X.prog X.w) X.A t Q' X.xe s:=gR h λu s ⟨H,I,q⟩=>k u s H I q
section
variable{X:Cx}
inductive B7(i:Nat)(Z:St)(H:Hp)(Q:VK):Prop
 |mk v (_:Z[i]?=some (some v)) (_:Q v H)
def tC(v:V):TE:=λ_ H Q=>Q v H
def X9(hN:X.N[i]?=some x)(hv:Vis X.env.scope x)(hd:(x==("__debug__":Str))=false:=by decide)(Am:(x==("__classdict__":Str))=false:=by decide):PE X (.Name x pos) (B7 i):=by
 intro pins s Z H Q I h;obtain⟨v,e,h⟩:=h;obtain⟨m,hn,hl⟩:=I.loc;obtain⟨u,r,l⟩:=hl i x v hN e hv;have fin:EP X pins Z Q u s:=⟨v,H,I,r,h⟩;rcases l with⟨hk,hm⟩|⟨hk,c,hc,U4⟩
 ·exact C2 (wpAny_loadName_local I.ok.kind hk hn hm fin) hd
 ·rcases hk with hk|hk
  ·exact C2 (wpAny_loadName_cell I.ok.kind hk hc U4 fin) hd
  ·exact C2 (wpAny_loadName_free I.ok.kind hk hc U4 fin Am) hd
def aV{i j pos}:PE X (.Constant (.int i) j pos) (tC (.int i)):=λ_ _ _ H _ I h=>wpAny_Constant_int {.int i,H,I.tok _,⟨_,rfl⟩,h}
def A9{b j pos}:PE X (.Constant (.bool b) j pos) (tC (.bl b)):=λ_ _ _ H _ I h=>Constant_bool {.bl b,H,I,rfl,h}
def Oo{j pos}:PE X (.Constant .none j pos) (tC .cb):=λ_ _ _ H _ I h=>Constant_none {.cb,H,I,rfl,h}
def dQ{x j pos}:PE X (.Constant (.str x) j pos) (tC (.str x)):=λ_ _ _ H _ I h=>Calls.Constant_str {.str x,H,I.tok _,⟨_,rfl⟩,h}
def Gl(X:Cx)(x:Str):Prop:=X.env.kindOf x=some .globalImplicit
def EF(I:Inv X pins Z H s)(hg:Gl X x)(hm:X.mg x=some u)(h:Q u s)
  (hd:(x==("__debug__":Str))=false:=by decide):wpAny (model X.prog X.w) X.A (eval (.Name x pos) X.env) Q E s:=
 sX I.ok.kind hg (Calls.loadGlobal_global (by rw[I.ok.glob];exact I.mod.glob.keeps I.bk) hm h) hd
def qg(I:Inv X pins Z H s)(hg:Gl X x)(hm:X.mg x=none)(hv:bootBuiltins x=some u)(h:Q u s)
  (hn:x≠"__name__":=by decide) (hd:(x==("__debug__":Str))=false:=by decide):wpAny (model X.prog X.w) X.A (eval (.Name x pos) X.env) Q E s:=by
 obtain⟨mb,h1,h2⟩:=I.mod.blt;exact sX I.ok.kind hg (Calls.loadGlobal_builtin (by rw[I.ok.glob];exact I.mod.glob.keeps I.bk) hm (by rw[I.ok.blt];exact h1.keeps I.bk) ((h2 x hn).trans hv) h) hd
def KN(hg:Gl X x)(hm:X.mg x=some u)(r:RelV v u)(hd:(x==("__debug__":Str))=false:=by decide):PE X (.Name x pos) (tC v):=
 λ_ _ _ H _ I h=>EF I hg hm ⟨v,H,I,r,h⟩ hd
def Wd(hg:Gl X x)(hm:X.mg x=none)(hv:bootBuiltins x=some u)(r:RelV v u)(hn:x≠"__name__":=by decide)(hd:(x==("__debug__":Str))=false:=by decide):PE X (.Name x pos) (tC v):=
 λ_ _ _ H _ I h=>qg I hg hm hv ⟨v,H,I,r,h⟩ hn hd
variable{a b:Expr}{pos:Pos}
def PC(X:Cx)(op:CmpOp)(a b:Expr)(t:TE):Prop:=
 ∀(pins:List (Addr×Obj))(s:Shared)(Z:St)(H:Hp)(Q:VK),Inv X pins Z H s->t Z H Q->
  wpAny (model X.prog X.w) X.A (eval a X.env) (λv aaa=>wpAny (model X.prog X.w) X.A (eval b X.env) (λu aae=>wpAny (model X.prog X.w) X.A (compareOp op v u) (EP X pins Z Q) X.xe aae) X.xe aaa) X.xe s
inductive Kj(Q:Bool->Hp->Prop)(x:V)(H1:Hp):Prop
 |mk c (_:x=.bl c) (_:Q c H1)
def tB(t:TE):TT:=λZ H Q=>t Z H λx H1=>Kj Q x H1
def Hm(h:PC X op a b t)(h1:behindInMarks op b=false:=by first|exact abW _ (by decide) (by decide)|rfl):PT X (.Compare a [op] [b] pos) (tB t):=by intro pins s Z H Q I hw;refine wD (gR (h pins s Z H _ I hw) λv s1 h1=>gR h1 λu s2 h2=>gR h2 λc s3 vN=>?_) h1;obtain⟨x,H1,I1,r1,q1⟩:=vN;obtain⟨d,rfl,q⟩:=q1;cases r1;exact gO ⟨H1,I1,q⟩
def Hl(h:PE X e t)(he:∀whole,isTrue e X.env whole=(do let v<-whole;standAt e.pos;holding [v] (truthy v)):=by intro _;rfl):PT X e (tB t):=by intro pins s Z H Q I hw;refine isTrue_plain (cU (h pins s Z H _ I hw) λv s1 x H1 I1 r1 q1=>?_) (he _);obtain⟨d,rfl,q⟩:=q1;cases r1;exact gO ⟨H1,I1,q⟩
variable{ta tb:TE}{tA Kj:TT}{rest:List Expr}
def abK(t u:TT):TT:=λZ H Q=>t Z H λc H1=>if c=true then u Z H1 Q else Q false H1
def tOr(t u:TT):TT:=λZ H Q=>t Z H λc H1=>if c=true then Q true H1 else u Z H1 Q
def abE(t:TT):TT:=λZ H Q=>t Z H λc H1=>Q (!c) H1
def KG(ha:PT X a tA):PW X (.BoolOp .And [a] pos) tA:=by
 intro wh pins s Z H Q I h;refine isTrue_and (gR (ha pins s Z H Q I h) λc s1 e=>?_);cases c with
 |true=>exact isTrue_and_nil e
 |false=>exact e
def Of(ha:PT X a tA):PW X (.BoolOp .Or [a] pos) tA:=by
 intro wh pins s Z H Q I h;refine isTrue_or (gR (ha pins s Z H Q I h) λc s1 e=>?_);cases c with
 |false=>exact isTrue_or_nil e
 |true=>exact e
def Og(ha:PT X a tA)(hb:PW X (.BoolOp .And (b::rest) pos) Kj):PW X (.BoolOp .And (a::b::rest) pos) (abK tA Kj):=by
 intro wh pins s Z H Q I h;refine isTrue_and (El (ha pins s Z H _ I h) λc s1 H1 I1 q1=>?_);cases c with
 |true=>exact hb wh pins s1 Z H1 Q I1 q1
 |false=>exact⟨H1,I1,q1⟩
def Ue(ha:PT X a tA)(hb:PW X (.BoolOp .Or (b::rest) pos) Kj):PW X (.BoolOp .Or (a::b::rest) pos) (tOr tA Kj):=by
 intro wh pins s Z H Q I h;refine isTrue_or (El (ha pins s Z H _ I h) λc s1 H1 I1 q1=>?_);cases c with
 |true=>exact⟨H1,I1,q1⟩
 |false=>exact hb wh pins s1 Z H1 Q I1 q1
def X4(ha:PT X a tA):PT X (.UnaryOp .Not a pos) (abE tA):=by intro pins s Z H Q I h;exact isTrue_not (El (ha pins s Z H (λc H1=>Q (!c) H1) I h) λ_ _ a b c=>⟨a,b,c⟩)
inductive XC(tb:TE)(Z:St)(Q:VK)(x:V)(H1:Hp):Prop
 |mk c (_:x=.bl c) (_:if c=true then tb Z H1 Q else Q (.bl false) H1)
def aaR(ta tb:TE):TE:=λZ H Q=>ta Z H λx H1=>XC tb Z Q x H1
def Om{op}(h:PE X a t):PE X (.BoolOp op [a] pos) t:=λpins s Z H Q I hw=>BoolOp_one (h pins s Z H Q I hw)
def HB(ha:PE X a ta)(hb:PE X (.BoolOp .And (b::rest) pos) tb):PE X (.BoolOp .And (a::b::rest) pos) (aaR ta tb):=by
 intro pins s Z H Q I h;refine BoolOp_and (cU (ha pins s Z H _ I h) λv s1 x H1 I1 r1 q1=>?_);obtain⟨c,rfl,q1⟩:=q1;cases r1;refine gO ?_;cases c with
 |true=>exact hb pins s1 Z H1 Q I1 q1
 |false=>exact{.bl false,H1,I1,rfl,q1}
def tIf(t:TT)(ta tb:TE):TE:=λZ H Q=>t Z H λc H1=>if c=true then ta Z H1 Q else tb Z H1 Q
def Hv(hc:PT X c tA)(ha:PE X a ta)(hb:PE X b tb):PE X (.IfExp c a b pos) (tIf tA ta tb):=by
 intro pins s Z H Q I h;refine wpAny_IfExp (El (hc pins s Z H _ I h) λd s1 H1 I1 q1=>?_);cases d with
 |true=>exact ha pins s1 Z H1 Q I1 q1
 |false=>exact hb pins s1 Z H1 Q I1 q1
end
def bw(K:Frag)(H:Hp)(a:Addr)(xs:List V):Prop:=
 Rd H a (.lst xs)\/
  ∃(o:Obj)(aT:Array Value)(n:Nat),K.lookup a=some o/\o.cls=.type "list"/\o.dict=none/\o.data=.seq aT n/\aT.size<=sizeLine/\Vals xs aT.toList
def bq(K:Frag)(H:Hp)(a:Addr)(xs:List V):Prop:=
 Rd H a (.tup xs)\/
  ∃(o:Obj)(aT:Array Value)(n:Nat),K.lookup a=some o/\o.cls=.type "tuple"/\o.data=.seq aT n/\aT.size<=sizeLine/\Vals xs aT.toList
def adb:Value->Option V
 | .none=>some .cb
 | .bool b=>some (.bl b)
 | .int i _=>some (.int i)
 | .str x _=>some (.str x)
 | .bytes b _=>some (.tL b)
 | .float b _=>some (.IZ b)
 | .ref a=>some (.ref a)
 | .type n=>some (.ty n)
 |_=>none
def RelV.abs(r:RelV x u):adb u=some x:=by
 cases x with
 |cb=>cases r;rfl
 |bl _=>cases r;rfl
 |int _=>obtain⟨t,rfl⟩:=r;rfl
 |str _=>obtain⟨t,rfl⟩:=r;rfl
 |tL _=>obtain⟨t,rfl⟩:=r;rfl
 |IZ _=>obtain⟨t,rfl⟩:=r;rfl
 |ref _=>cases r;rfl
 |ty _=>cases r;rfl
def RelV.inj(r:RelV x u)(q:RelV y u):x=y:=bL (r.abs.symm.trans q.abs)
theorem Vals.inj:∀{xs ys:List V}{us:List Value},Vals xs us->Vals ys us->xs=ys
 |_,_,_,.nil,.nil=>rfl
 |_,_,_,.cons r t,.cons r' t'=>by rw[r.inj r',Vals.inj t t']
section
variable{X:Cx}{pins:List (Addr×Obj)}{Z:St}{H:Hp}{s:Shared}{a:Addr}{xs ys:List V}
def bw.of{K:Frag}(h:H a=some (.lst xs)):bw K H a xs:=.inl (.inl h)
def bq.of{K:Frag}(h:H a=some (.tup xs)):bq K H a xs:=.inl (.inl h)
def Inv.list(I:Inv X pins Z H s)(h:bw X.K H a xs):∃aT:List Value,Vals xs aT/\PlainL s.heap a aT.toArray/\xs.length<=sizeLine:=by
 rcases h with h|⟨o,aT,n,hk,hc,hd,hs,hz,r⟩
 ·obtain⟨z,aT,n,r,e⟩:=h.ok I.br;exact{aT,r,⟨_,n,e,rfl,rfl,rfl⟩,z}
 ·refine{aT.toList,r,{o,n,I.mq a o hk,hc,hd,by simpa using hs},?_};have e:=r.length;simp only[aM]at e;lia
def Inv.tuple(I:Inv X pins Z H s)(h:bq X.K H a xs):∃aT:List Value,Vals xs aT/\IsTup s.heap a aT.toArray/\xs.length<=sizeLine:=by
 rcases h with h|⟨o,aT,n,hk,hc,hs,hz,r⟩
 ·obtain⟨z,aT,r,p,_⟩:=h.ok I.br;exact⟨aT,r,p,z⟩
 ·refine{aT.toList,r,{o,I.mq a o hk,hc,n,by simpa using hs},?_};have e:=r.length;simp only[aM]at e;lia
def Inv.Co(I:Inv X pins Z H s)(h:bw X.K H a xs)(h':bw X.K H a ys):xs=ys:=by
 obtain⟨aT,r,⟨o,n,e,_,_,d⟩,_⟩:=I.list h;obtain⟨its',r',⟨o',n',e',_,_,d'⟩,_⟩:=I.list h';rw[e]at e';cases e';rw[d]at d';injection d' with d1 _;have:aT=its':=by simpa using cu Array.toList d1
 subst this;exact r.inj r'
def Inv.zg(I:Inv X pins Z H s)(h:bq X.K H a xs)(h':bq X.K H a ys):xs=ys:=by
 obtain⟨aT,r,⟨o,e,_,n,d⟩,_⟩:=I.tuple h;obtain⟨its',r',⟨o',e',_,n',d'⟩,_⟩:=I.tuple h';rw[e]at e';cases e';rw[d]at d';injection d' with d1 _;have:aT=its':=by simpa using cu Array.toList d1
 subst this;exact r.inj r'
end
abbrev Cx.v8(X:Cx)(E:Value->Shared->Prop):Cx:={X with xe:=E}
abbrev Cx.Uo(X:Cx):Cx:=X.v8 λ_ _=>False
def Cx.Ok.v8{X:Cx}(ok:X.Ok)(E:Value->Shared->Prop):(X.v8 E).Ok:=
 {ok.mod,ok.kind,ok.glob,ok.blt,ok.above,ok.inj,ok.has,ok.LJ,ok.hd,ok.frames,ok.NL,ok.Qg,ok.bs,ok.B2,ok.EC,ok.CB,ok.rg,ok.F0}
def Cx.Ok.rV{X:Cx}(ok:(X.v8 E).Ok):X.Ok:=
 {ok.mod,ok.kind,ok.glob,ok.blt,ok.above,ok.inj,ok.has,ok.LJ,ok.hd,ok.frames,ok.NL,ok.Qg,ok.bs,ok.B2,ok.EC,ok.CB,ok.rg,ok.F0}
section
variable{X:Cx}{pins:List (Addr×Obj)}{Z:St}{H:Hp}{s:Shared}{E:Value->Shared->Prop}
def Inv.v8(I:Inv X pins Z H s)(E:Value->Shared->Prop):Inv (X.v8 E) pins Z H s:={I.ok.v8 E,I.os,I.bare,I.base,I.loc,I.cell,I.free,I.nN,I.pin,I.br,I.len}
def Inv.rV(I:Inv (X.v8 E) pins Z H s):Inv X pins Z H s:={I.ok.rV,I.os,I.bare,I.base,I.loc,I.cell,I.free,I.nN,I.pin,I.br,I.len}
def SP.rV(h:SP (X.v8 E) pins D f s'):SP X pins D f s':=by
 cases f with
 |next=>obtain⟨σ',H',I,q⟩:=h;exact{σ',H',I.rV,q}
 |brk=>obtain⟨σ',H',I,q⟩:=h;exact{σ',H',I.rV,q}
 |cont=>obtain⟨σ',H',I,q⟩:=h;exact{σ',H',I.rV,q}
 |ret u=>obtain⟨v,σ',H',I,r,q⟩:=h;exact{v,σ',H',I.rV,r,q}
def j9.Uo{st:List Stmt}(h:j9 X.Uo st t):j9 X st t:=λpins s Z H D I hw=>
 cR (h pins s Z H D (I.v8 _) hw) (λ_ _ q=>q.rV) λ_ _ z=>False.elim z
end
section
variable{X:Cx}{st:Stmt}{rest:List Stmt}{t u:TS}{e:Expr}{te:TE}{pos:Pos}
def aaL:TS:=λD Z H=>D.nx Z H
def GU(t u:TS):TS:=λD Z H=>t {D with nx:=u D} Z H
def gP:j9 X [] aaL:=λ_ _ Z H _ I h=>pT ⟨Z,H,I,h⟩
def aO(h1:PS X st t)(h2:j9 X rest u):j9 X (st::rest) (GU t u):=by
 intro pins s Z H D I h;refine wpAny_execs_cons (gR (h1 pins s Z H {D with nx:=u D} I h) λf s1 q=>?_);cases f with
 |next=>
  obtain⟨σ',H',I',q⟩:=q;exact h2 pins s1 σ' H' D I' q
 |ret v=>exact q
 |brk=>exact q
 |cont=>exact q
def bp(h1:PS X st t):j9 X [st] t:=by
 intro pins s Z H D I h;refine wpAny_execs_cons (gR (h1 pins s Z H D I h) λf s1 q=>?_);cases f with
 |next=>exact pT q
 |ret v=>exact q
 |brk=>exact q
 |cont=>exact q
def Inv.quiet(I:Inv X pins Z H s):interactive X.env=false:=by simp[interactive,I.ok.kind]
def aaN(te:TE):TS:=λD Z H=>te Z H λ_ H1=>D.nx Z H1
def jI(he:PE X e te)(hs:swapsWith e none pos.line X.env=pure false:=by rfl):PS X (.Expr e pos) (aaN te):=by intro pins s Z H D I h;exact wpAny_Expr_any (cU (he pins s Z H _ I h) λv s1 x H1 I1 r1 q1=>⟨Z,H1,I1,q1⟩) I.quiet hs
def abC(te:TE):TS:=λD Z H=>te Z H D.rt
def cL(he:PE X e te):PS X (.Return (some e) pos) (abC te):=by intro pins s Z H D I h;exact wpAny_Return_some (cU (he pins s Z H _ I h) λv s1 x H1 I1 r1 q1=>⟨x,Z,H1,I1,r1,q1⟩)
def abG(c:TT)(t u:TS):TS:=λD Z H=>c Z H λb H1=>if b=true then t D Z H1 else u D Z H1
def ka(hc:PT X c tc)(ha:j9 X a t)(hb:j9 X b u):PS X (.If c a b pos) (abG tc t u):=by
 intro pins s Z H D I h;refine wpAny_If (El (hc pins s Z H _ I h) λd s1 H1 I1 q1=>?_);cases d with
 |true=>exact ha pins s1 Z H1 D I1 q1
 |false=>exact hb pins s1 Z H1 D I1 q1
abbrev TG:=V->St->Hp->(St->Hp->Prop)->Prop
abbrev Vm:=List V->St->Hp->(St->Hp->Prop)->Prop
end
def PG(X:Cx)(target:Expr)(t:TG):Prop:=
 ∀(pins:List (Addr×Obj))(s:Shared)(Z:St)(H:Hp)(v:V)(u:Value)(Q:St->Hp->Prop),Inv X pins Z H s->RelV v u->t v Z H Q->
  wpAny (model X.prog X.w) X.A (assign target X.env u) (λ_ s'=>∃σ' H',Inv X pins σ' H' s'/\Q σ' H') X.xe s
def AL(X:Cx)(ts:List Expr)(t:Vm):Prop:=
 ∀(pins:List (Addr×Obj))(s:Shared)(Z:St)(H:Hp)(vs:List V)(us:List Value)(Q:St->Hp->Prop),Inv X pins Z H s->Vals vs us->t vs Z H Q->
  wpAny (model X.prog X.w) X.A (assignInOrder ((assignEach ts X.env).map (·.2)) us) (λ_ s'=>∃σ' H',Inv X pins σ' H' s'/\Q σ' H') X.xe s
abbrev aau:=V->V->V->Hp->(Hp->Prop)->Prop
def aav(X:Cx)(t:aau):Prop:=
 ∀(pins:List (Addr×Obj))(s:Shared)(Z:St)(H:Hp)(o i v:V)(ov iv u:Value)(Q:Hp->Prop),Inv X pins Z H s->RelV o ov->RelV i iv->RelV v u->t o i v H Q->
  wpAny (model X.prog X.w) X.A (setItem ov iv u) (λ_ s'=>∃H',Inv X pins Z H' s'/\Q H') X.xe s
section
variable{X:Cx}{pos:Pos}
def rQ(i:Nat):TG:=λv Z H Q=>Q (Z.set i (some v)) H
def pD(hN:X.N.Nodup)(hi:X.N[i]?=some x)(hx:Loc X.env.scope x)(hf:X.fn x=true\/X.env.scope.names.lookup x=some .local:=by first|exact .inl rfl|exact .inr rfl|assumption):PG X (.Name x pos) (rQ i):=by intro pins s Z H v u Q I r h;exact wpAny_assign_Name (xD I hN hi hx r (λs' I'=>⟨_,H,I',h⟩) hf)
def aai:Vm:=λvs Z H Q=>vs=[]/\Q Z H
inductive MY(t:TG)(u:Vm)(vs:List V)(Z:St)(H:Hp)(Q:St->Hp->Prop):Prop
 |mk v r (_:vs=v::r) (_:t v Z H λσ' H'=>u r σ' H' Q)
def iD:AL X [] aai:=by intro pins s Z H vs us Q I r h;obtain⟨e,h⟩:=h;subst e;cases r;exact Bn ⟨Z,H,I,h⟩
def cK(h1:PG X e t)(h2:AL X es u)
  (hs:(assignEach (e::es) X.env).map (·.2)=assign e X.env::(assignEach es X.env).map (·.2):=by rfl):AL X (e::es) (MY t u):=by
 intro pins s Z H vs us Q I r h;obtain⟨v,vr,e1,h⟩:=h;subst e1;cases r with
 |cons r rr=>
  rw[hs];refine sv (gR (h1 pins s Z H _ _ _ I r h) λ_ s1 qr=>?_);obtain⟨σ1,H1,I1,q1⟩:=qr;exact h2 pins s1 σ1 H1 _ _ Q I1 rr q1
inductive SK(K:Frag)(n:Nat)(t:Vm)(v:V)(Z:St)(H:Hp)(Q:St->Hp->Prop):Prop
 |mk a xs (_:v=.ref a) (_:bq K H a xs) (_:xs.length=n) (_:t xs Z H Q)
def lL(hc:X.calm=true)(h:AL X es t)
  (hn:(assignEach es X.env).length=n:=by rfl) (gD:(assignEach es X.env).findIdx? (·.1)=none:=by rfl):PG X (.Tuple es k pos) (SK X.K n t):=by
 intro pins s Z H v u Q I r hw;obtain⟨a,xs,e1,hq,hl,hw⟩:=hw;subst e1;cases r;obtain⟨aT,rv,ht,hz⟩:=I.tuple hq;refine assign_Tuple_tuple (I.ok.hd hc) ht (by simp[hn,<-hl,rv.length]) gD λh' hx=>?_;have I1:=I.kept (t':=s.toks) λb o e=>hx b o (aI (aB e)) e;exact h pins _ Z H xs _ Q I1 (by simpa using rv) hw
def ac3(to ti:TE)(t:aau):TG:=λv Z H Q=>to Z H λo H1=>ti Z H1 λi H2=>t o i v H2 λH3=>Q Z H3
def Dw(ho:PE X o to)(hi:PE X i ti)(hs:aav X t)
  (ha:∀v,assign (.Subscript o i pos) X.env v=(do
   let ov<-holding [v] (eval o X.env)
   let iv<-holding [v,ov] (eval i X.env)
   standAt pos
   holding [v,ov,iv] (setItem ov iv v)
   release [v,ov,iv] []):=by intro _;rfl):PG X (.Subscript o i pos) (ac3 to ti t):=by
 intro pins s Z H v u Q I r h;rw[ha];refine ae (bK (cU (ho pins s Z H _ I h) λov s1 x H1 I1 r1 q1=>?_));refine ae (bK (cU (hi pins s1 Z H1 _ I1 q1) λiv s2 y H2 I2 r2 q2=>?_));refine ae (yC (ae (bK (gR (hs pins s2 Z H2 x y v ov iv u _ I2 r1 r2 r q2) λ_ s3 hz3=>?_))));obtain⟨H3,I3,q3⟩:=hz3;exact wpAny_release ⟨Z,H3,I3,q3⟩
def Rb(te:TE)(g:TG):TS:=λD Z H=>te Z H λx H1=>g x Z H1 D.nx
def uE(he:PE X e te)(hg:PG X tg g)(hs:swapsWithSole [tg] e pos.line X.env=pure false:=by rfl)(hw:swappedStores [tg] e X.env=pure none:=by rfl)
  (h1:(assignEach [tg] X.env).map (·.2)=[assign tg X.env]:=by rfl):PS X (.Assign [tg] e pos) (Rb te g):=by
 intro pins s Z H D I h;refine wpAny_Assign_stores (cU (he pins s Z H _ I h) λv s1 x H1 I1 r1 q1=>?_) hs hw;rw[h1];exact gR (hg pins s1 Z H1 x v _ I1 r1 q1) λ_ s2 q=>q
def uD(hN:X.N.Nodup)(hi:X.N[i]?=some x)(hx:Loc X.env.scope x)(he:PE X e te)(hs:swapsWith e (some (.Name x pos')) pos.line X.env=pure false:=by rfl)(hf:X.fn x=true\/X.env.scope.names.lookup x=some .local:=by first|exact .inl rfl|exact .inr rfl|assumption):
  PS X (.Assign [.Name x pos'] e pos) (Rb te (rQ i)):=by
 intro pins s Z H D I h;refine wpAny_Assign_Name (cU (he pins s Z H _ I h) λv s1 y H1 I1 r1 q1=>?_) hs;exact xD I1 hN hi hx r1 (λs2 I2=>⟨_,H1,I2,q1⟩) hf
inductive aaK(i:Nat)(j:Nat)(D:Ends)(Z:St)(vs:List V)(H1:Hp):Prop
 |mk v w (_:vs=[v,w]) (_:D.nx ((Z.set i (some v)).set j (some w)) H1)
def abD(i j:Nat)(ta:TA):TS:=λD Z H=>ta Z H λvs H1=>aaK i j D Z vs H1
def X6{kt k2 X5}(hc:X.calm=true)(hN:X.N.Nodup)(hi:X.N[i]?=some x)(hj:X.N[j]?=some y)(ZR:i≠j)
  (hx:X.env.scope.names.lookup x=some .local) (hy:X.env.scope.names.lookup y=some .local) (ha:PA X [a,b] ta)
  (hw:swappedStores [.Tuple [.Name x px,.Name y py] kt pt] (.Tuple [a,b] k2 X5) X.env=pure (some [x,y]))
  (hs:swapsWithSole [.Tuple [.Name x px,.Name y py] kt pt] (.Tuple [a,b] k2 X5) pos.line X.env=pure false:=by rfl):
  PS X (.Assign [.Tuple [.Name x px,.Name y py] kt pt] (.Tuple [a,b] k2 X5) pos) (abD i j ta):=by
 intro pins s Z H D I h;rw[exec_Assign_arm];refine ae (yC ?_);rw[hs];refine ae (af ?_);rw[aq (by decide)];refine ae (Tuple_ (pU (ha _ pins s Z H _ I h) λus s1 vs H1 I1 r1 q1=>?_));obtain⟨v,w,e1,q1⟩:=q1;subst e1;obtain⟨u1,u2,rfl,rv,oG⟩:∃u1 u2,us=[u1,u2]/\RelV v u1/\RelV w u2:=by
  cases r1 with
  |cons p q=>
   cases q with
   |cons p' q'=>
    cases q';exact⟨_,_,rfl,p,p'⟩
 refine bV ?_ (by show 2<=sizeLine;decide);have I2:Inv X pins Z H1 {s1 with heap:=s1.heap.push {cls:=.type "tuple",data:=.seq [u1,u2].toArray}}:=I1.kept λb o e=>ah _ e;rw[hw];refine ae (af ?_);refine ae (fE (ae (unpackItems_tuple (items:=#[u1,u2]) (I.ok.hd hc) (AX s1.heap _) λh' xa=>?_)));have I3:=I2.kept (t':=s1.toks) λb o e=>xa b o (aI (aB e)) e;refine ae (sv (wpAny_bindName (xD I3 hN hj (.inl hy) oG (λs2 I4=>?_) (.inr hy))));refine sv (wpAny_bindName (xD I4 hN hi (.inl hx) rv (λs3 I5=>Bn (af ?_)) (.inr hx)));rw[List.set_comm _ _ (bX ZR)]at I5;exact⟨_,H1,I5,q1⟩
def Xp(c:TT)(tb:TS):TS:=λD Z H=>∃W:Nat->St->Hp->Prop,(∃m,W m Z H)/\∀m Z H,W m Z H->
 c Z H λb H1=>if b=true then∃N:St->Hp->Prop,(∀σ' H',N σ' H'->∃m',m'<m/\W m' σ' H')/\tb {D with nx:=N,ct:=N,bk:=D.nx} Z H1 else D.nx Z H1
def RC(hp:PassesOwn (model X.prog X.w) X.A X.env X.xe)(hc:PT X c tc)(hb:j9 X body tb):PS X (.While c body [] pos) (Xp tc tb):=by
 intro pins s Z H D I h;obtain⟨W,⟨m0,w0⟩,turn⟩:=h;refine wpAny_While (codeAny_whileLoop (λn s'=>∃σ' H',Inv X pins σ' H' s'/\W n σ' H') ?_ m0 ⟨Z,H,I,w0⟩);rintro n s1 ⟨σ1,H1,I1,w1⟩;refine iC hp (El (hc pins s1 σ1 H1 _ I1 (turn n σ1 H1 w1)) λb s2 H2 I2 q2=>?_);cases b with
 |true=>
  obtain⟨N,hN,q2⟩:=q2;rw[ay rfl];refine iC hp (gR (hb pins s2 σ1 H2 _ I2 q2) λf s3 q3=>?_);cases f with
  |next=>
   obtain⟨σ3,H3,I3,n3⟩:=q3;obtain⟨m',hm,w3⟩:=hN σ3 H3 n3;exact⟨m',hm,σ3,H3,I3,w3⟩
  |cont=>
   obtain⟨σ3,H3,I3,n3⟩:=q3;obtain⟨m',hm,w3⟩:=hN σ3 H3 n3;exact⟨m',hm,σ3,H3,I3,w3⟩
  |brk=>exact q3
  |ret v=>exact q3
 |false=>
  rw[aq aP];exact pT ⟨σ1,H2,I2,q2⟩
structure It where
 go:Nat->Hp->Prop
 zb:Nat->Hp->V->Hp->Prop
 stop:Nat->Hp->Prop
end
def pq(X:Cx)(pins:List (Addr×Obj))(H:Hp)(b:Addr):Prop:=
 H b=none/\b≠X.env.locals/\b∉X.fs/\(b∈X.ex\/X.aab.heap.objs.size<=b)/\(∀x c,X.env.cells.lookup x=some c->c≠b)/\∀p∈X.pn++pins,p.1≠b
def Inv.uV(I:Inv X pins Z H s)(hb:s.heap.objs.size<=b)(hn:H' b=none):pq X pins H' b:=by
 refine{hn,bC (aW I.lt hb),I.Yk hb,.inr (aF I.sz hb),λx c e z=>?_,λp hp z=>?_}
 ·obtain⟨v,q⟩:=I.cell x c e;exact absurd (aW q.lt (by rw[z];exact hb)) (cY _)
 ·exact absurd (aW (aB (I.pin p hp).1) (by rw[z];exact hb)) (cY _)
structure Turn(P:Program)(w:World)(K:Frag)(tg:Expr)(J:It)(fp:List Addr)(it:Addr)(tn:Nat->Heap->Prop):Prop where
 mem:it∈fp
 obj:∀i h,tn i h->∀b∈fp,∃o,h.get? b=some o/\∀v,o.data≠ .cell v
 keep:∀i h h',tn i h->(∀b∈fp,∀o,h.get? b=some o->h'.get? b=some o)->tn i h'
 item:∀(X:Cx),X.prog=P->X.w=w->X.K=K->X.calm=true->∀(i:Nat)(pins:List (Addr×Obj))(s:Shared)(Z:St)(H:Hp)(E:Value->Shared->Prop),Inv X pins Z H s->(∀b∈fp,pq X pins H b)->tn i s.heap->J.go i H->
  wpAny (model P w) X.A (pyNext (.ref it)) (λr s1=>∃u,r=some u/\
   wpAny (model P w) X.A (letOwnedTupleGo tg (.ref it) u) (λ_ s2=>∃x H',Inv X pins Z H' s2/\RelV x u/\J.zb i H x H'/\tn (i+1) s2.heap/\∀b∈fp,H' b=none) E s1) E s
 done:∀(X:Cx),X.prog=P->X.w=w->X.K=K->X.calm=true->∀(i:Nat)(pins:List (Addr×Obj))(s:Shared)(Z:St)(H:Hp)(E:Value->Shared->Prop),Inv X pins Z H s->(∀b∈fp,pq X pins H b)->tn i s.heap->J.stop i H->
  wpAny (model P w) X.A (pyNext (.ref it)) (λr s1=>r=none/\Inv X pins Z H s1) E s
 self:∀(A:Around)(i:Nat)(s:Shared)(Q:Value->Shared->Prop)(E:Value->Shared->Prop),tn i s.heap->Q (.ref it) s->wpAny (model P w) A (pyIter (.ref it)) Q E s
abbrev TI:=St->Hp->(It->Hp->Prop)->Prop
def PIE(X:Cx)(pins:List (Addr×Obj))(Z:St)(tg:Expr)(R:It->Hp->Prop)(YR:Value)(s2:Shared):Prop:=
 ∃(it:Addr)(fp:List Addr)(tn:Nat->Heap->Prop)(J:It)(H':Hp),YR=.ref it/\Inv X pins Z H' s2/\Turn X.prog X.w X.K tg J fp it tn/\tn 0 s2.heap/\(∀b∈fp,pq X pins H' b)/\R J H'
def PI(X:Cx)(tg iter:Expr)(wi:TI):Prop:=
 ∀(pins:List (Addr×Obj))(s:Shared)(Z:St)(H:Hp)(R:It->Hp->Prop),Inv X pins Z H s->wi Z H R->
  wpAny (model X.prog X.w) X.A (eval iter X.env) (λv s1=>wpAny (model X.prog X.w) X.A (pyIter v) (PIE X pins Z tg R) X.xe s1) X.xe s
def DQ(ho:s.heap.get? it=some o)(hc:o.cls=.type n)(hd:o.data=.fields vs)
  (hn:["enumerate","zip","dict_itemiterator","dict_reverseitemiterator","odict_iterator","itertools.zip_longest","itertools.pairwise"].contains n=false) (hQ:Q () s):wpAny M A (letOwnedTupleGo tg (.ref it) u) Q E s:=by
 unfold letOwnedTupleGo;cases tg<;>first
  |exact af hQ
  |(cases u<;>first
    |exact af hQ
    |(refine ae (CZ ho ?_);rw[hc,hd];show wpAny M A (if(["enumerate","zip","dict_itemiterator","dict_reverseitemiterator","odict_iterator","itertools.zip_longest","itertools.pairwise"].contains n&&vs[0]?==some (rawInt _))=true then _ else _) Q E s;rw[aq (by intro h;rw[hn,nU]at h;cases h)];exact af hQ))
def Jn(K:Frag)(a:Addr):It:=
 {λi H=>∃xs x,bw K H a xs/\xs[i]?=some x,λi H x H'=>H'=H/\∀xs,bw K H a xs->xs[i]?=some x,λi H=>∃xs,bw K H a xs/\xs.length<=i}
def Jm(K:Frag)(a:Addr):It:=
 {λi H=>∃xs x,bq K H a xs/\xs[i]?=some x,λi H x H'=>H'=H/\∀xs,bq K H a xs->xs[i]?=some x,λi H=>∃xs,bq K H a xs/\xs.length<=i}
def LO(lo:Int)(n:Nat):It:={λi _=>i<n,λi H x H'=>H'=H/\x=.int (lo+i),λi _=>n<=i}
def NA{K:Frag}(a it:Addr):Turn P w K tg (Jn K a) [it] it (λi h=>h.IsListIter it a i) where
 mem:=by simp
 obj:=λi h st b hb=>by
  have e:b=it:=by simpa using hb
  subst e;obtain⟨o,e,c,d⟩:=st;exact{o,e,λv z=>by rw[d]at z;cases z}
 keep:=λi h h' st k=>st.at λo e=>k it (by simp) o e
 item:=by intro X hP hw hK hc i pins s Z H E I hf st hg;subst hP hw hK;obtain⟨xs,x,hq,hx⟩:=hg;obtain⟨aT,rv,p,hz⟩:=I.list hq;obtain⟨u,hu,ru⟩:=rv.get hx;obtain⟨f0,f1,f2,f3,f4,f5⟩:=hf it (by simp);refine wpAny_pyNext_list_item st p.isList (by simpa using hu) λh' ig sb=>?_;have I1:=I.turned (t':=s.toks) (λb o hb e=>(sb.2 b hb).trans e) f0 f1 f3 f4 f5;obtain⟨o,e,c,d⟩:=id ig;exact{u,rfl,DQ e c d (by decide) {x,H,I1,ru,{rfl,λys hy=>by rw[I.Co hy hq];exact hx},ig,λb hb=>(hf b hb).1}}
 done:=by intro X hP hw hK hc i pins s Z H E I hf st hg;subst hP hw hK;obtain⟨xs,hq,hx⟩:=hg;obtain⟨aT,rv,p,hz⟩:=I.list hq;obtain⟨f0,f1,f2,f3,f4,f5⟩:=hf it (by simp);have hl:=rv.length;exact wpAny_pyNext_list_end (I.ok.hd hc) st p.isList (by simp;lia) λh' eb=>{rfl,I.turned (λb o hb e=>eb b o hb e) f0 f1 f3 f4 f5}
 self:=λ_ _ _ _ _ st h=>wpAny_pyIter_listiter st h
def LQ{K:Frag}(a it:Addr):Turn P w K tg (Jm K a) [it] it (λi h=>h.IsTupleIter it a i) where
 mem:=by simp
 obj:=λi h st b hb=>by
  have e:b=it:=by simpa using hb
  subst e;obtain⟨o,e,c,d⟩:=st;exact{o,e,λv z=>by rw[d]at z;cases z}
 keep:=λi h h' st k=>st.at λo e=>k it (by simp) o e
 item:=by intro X hP hw hK hc i pins s Z H E I hf st hg;subst hP hw hK;obtain⟨xs,x,hq,hx⟩:=hg;obtain⟨aT,rv,p,hz⟩:=I.tuple hq;obtain⟨u,hu,ru⟩:=rv.get hx;obtain⟨f0,f1,f2,f3,f4,f5⟩:=hf it (by simp);refine wpAny_pyNext_tuple_item st (show s.heap.IsTuple a aT.toArray from p) (by simpa using hu) λh' ig sb=>?_;have I1:=I.turned (t':=s.toks) (λb o hb e=>(sb.2 b hb).trans e) f0 f1 f3 f4 f5;obtain⟨o,e,c,d⟩:=id ig;exact{u,rfl,DQ e c d (by decide) {x,H,I1,ru,{rfl,λys hy=>by rw[I.zg hy hq];exact hx},ig,λb hb=>(hf b hb).1}}
 done:=by intro X hP hw hK hc i pins s Z H E I hf st hg;subst hP hw hK;obtain⟨xs,hq,hx⟩:=hg;obtain⟨aT,rv,p,hz⟩:=I.tuple hq;obtain⟨f0,f1,f2,f3,f4,f5⟩:=hf it (by simp);have hl:=rv.length;exact wpAny_pyNext_tuple_end (I.ok.hd hc) st (show s.heap.IsTuple a aT.toArray from p) (by simp;lia) λh' eb=>{rfl,I.turned (λb o hb e=>eb b o hb e) f0 f1 f3 f4 f5}
 self:=λ_ _ _ _ _ st h=>wpAny_pyIter_tupleiter st h
def LR{K:Frag}(it:Addr)(lo:Int)(n:Nat):Turn P w K tg (LO lo n) [it] it (λi h=>IsRangeIter h it (lo+(i:Nat)*1) ((n:Int) -(i:Nat)) 1) where
 mem:=by simp
 obj:=λi h st b hb=>by
  have e:b=it:=by simpa using hb
  subst e;exact{_,st,λv z=>by have z':=z;cases z'}
 keep:=λi h h' st k=>k it (by simp) _ st
 item:=by intro X hP hw hK hc i pins s Z H E I hf st hg;subst hP hw hK;obtain⟨f0,f1,f2,f3,f4,f5⟩:=hf it (by simp);have W:=Walks.range (prog:=X.prog) (w:=X.w) (I.ok.hd hc) it lo 1 n;refine W.item i s _ _ hg st λv h' tk hv ig kk=>?_;obtain⟨t,rfl⟩:=hv;have I1:Inv X pins Z H {s with heap:=h',toks:=tk}:=I.turned (λb o hb e=>kk b o (by simpa using hb) e) f0 f1 f3 f4 f5;refine{_,rfl,DQ ig rfl rfl (by decide) {.int (lo+i),H,I1,{t,?_},⟨rfl,rfl⟩,ig,λb hb=>(hf b hb).1}};rw[B5]
 done:=by intro X hP hw hK hc i pins s Z H E I hf st hg;obtain⟨f0,f1,f2,f3,f4,f5⟩:=hf it (by simp);exact wpAny_pyNext_range_end (I.ok.hd hc) st (by have:n<=i:=hg;lia) λh' eb=>{rfl,I.turned (λb o hb e=>eb b o hb e) f0 f1 f3 f4 f5}
 self:=λ_ _ _ _ _ st h=>wpAny_pyIter_rangeiter st h
section
variable{X:Cx}{tg:Expr}
inductive YY(K:Frag)(R:It->Hp->Prop)(x:V)(H1:Hp):Prop
 |mk a (_:x=.ref a) (_:(∃xs,bw K H1 a xs)) (_:R (Jn K a) H1)
def UG(K:Frag)(tl:TE):TI:=λZ H R=>tl Z H λx H1=>YY K R x H1
inductive abb(K:Frag)(R:It->Hp->Prop)(x:V)(H1:Hp):Prop
 |mk a (_:x=.ref a) (_:(∃xs,bq K H1 a xs)) (_:R (Jm K a) H1)
def ab7(K:Frag)(tl:TE):TI:=λZ H R=>tl Z H λx H1=>abb K R x H1
def gn(hl:PE X l tl):PI X tg l (UG X.K tl):=by
 intro pins s Z H R I h;refine cU (hl pins s Z H _ I h) λv s1 x H1 I1 r1 q1=>?_;obtain⟨a,e,⟨xs,hq⟩,q⟩:=q1;subst e;cases r1;obtain⟨aT,rv,p,hz⟩:=I1.list hq;refine om p.isList ?_;refine{s1.heap.objs.size,[s1.heap.objs.size],_,_,H1,rfl,I1.kept λb o e=>ah _ e,NA a _,{_,aD _ rfl,rfl,rfl},λb hb=>?_,q};have e:b=s1.heap.objs.size:=by simpa using hb
 subst e;exact I1.uV (ak _) (I1.br.fresh (ak _))
def uF(hl:PE X l tl):PI X tg l (ab7 X.K tl):=by
 intro pins s Z H R I h;refine cU (hl pins s Z H _ I h) λv s1 x H1 I1 r1 q1=>?_;obtain⟨a,e,⟨xs,hq⟩,q⟩:=q1;subst e;cases r1;obtain⟨aT,rv,p,hz⟩:=I1.tuple hq;refine rU (show s1.heap.IsTuple a aT.toArray from p) ?_;refine{s1.heap.objs.size,[s1.heap.objs.size],_,_,H1,rfl,I1.kept λb o e=>ah _ e,LQ a _,{_,aD _ rfl,rfl,rfl},λb hb=>?_,q};have e:b=s1.heap.objs.size:=by simpa using hb
 subst e;exact I1.uV (ak _) (I1.br.fresh (ak _))
def Ru{lo hi:Int}(I:Inv X pins Z H s)(h1:-(2^62)<=lo)(h2:lo<2^62)(h3:-(2^62)<=hi)(h4:hi<2^62)
  (q:R (LO lo (hi -lo).toNat) H):wpAny (model X.prog X.w) X.A (pyIter (.ref s.heap.objs.size)) (PIE X pins Z tg R) E {s with heap:=s.heap.push {cls:=.type "range",data:=.fields #[.int lo t,.int hi u,.int 1 v]},toks:=tk}:=by
 refine wpAny_pyIter_range (IsRange.new ..) (small_one h1 h2 h3 h4) ?_;have I1:Inv X pins Z H {s with heap:=s.heap.push {cls:=.type "range",data:=.fields #[.int lo t,.int hi u,.int 1 v]},toks:=tk}:=I.kept λb o e=>ah _ e;refine{(s.heap.push {cls:=.type "range",data:=.fields #[.int lo t,.int hi u,.int 1 v]}).objs.size,[(s.heap.push {cls:=.type "range",data:=.fields #[.int lo t,.int hi u,.int 1 v]}).objs.size],_,_,H,rfl,
  I1.kept λb o e=>ah _ e,LR _ lo (hi -lo).toNat,?_,λb hb=>?_,q}
 ·have e1:lo+((0:Nat):Int)*1=lo:=by simp
  have e2:(((hi -lo).toNat:Nat):Int) -((0:Nat):Int)=Builtin.Range.rangeSize lo hi 1:=by rw[rangeSize_one];split<;>lia
  rw[e1,e2];exact aD _ rfl
 ·have e:b=(s.heap.push {cls:=.type "range",data:=.fields #[.int lo t,.int hi u,.int 1 v]}).objs.size:=by simpa using hb
  subst e;exact I1.uV (ak _) (I1.br.fresh (ak _))
inductive YX(R:It->Hp->Prop)(vs:List V)(H1:Hp):Prop
 |mk (j:Int) (_:vs=[.int j]) (_:-(2^62)<=j) (_:j<2^62) (_:R (LO 0 j.toNat) H1)
def abd(ta:TA):TI:=λZ H R=>ta Z H λvs H1=>YX R vs H1
def mR(hg:Gl X "range")(hm:X.mg "range"=none)(ha:PA X [a] ta)(hs:starEach [a] X.env=[(false,eval a X.env)]:=by rfl):PI X tg (.Call (.Name "range" p) [a] [] pos) (abd ta):=by
 intro pins s Z H R I h;refine Ei (qg I hg hm boot_range (dB (pU (ha pos pins s Z H _ I h) λus s1 vs H1 I1 r1 q1=>?_) hs rfl));obtain⟨j,e,q1,q2,q⟩:=q1;subst e;cases r1 with
 |cons r rr=>
  cases rr;obtain⟨t,rfl⟩:=r;exact call_range_1 (Ru I1 ∅ ∅ q1 q2 (by simpa using q))
def abH(wi:TI)(g:TG)(tb:TS):TS:=λD Z H=>wi Z H λJ H1=>∃W:Nat->Nat->St->Hp->Prop,(∃m,W 0 m Z H1)/\∀i m Z H,W i m Z H->
 (J.stop i H/\D.nx Z H)\/(J.go i H/\∃N:St->Hp->Prop,(∀σ' H',N σ' H'->∃m',m'<m/\W (i+1) m' σ' H')/\∀x H',J.zb i H x H'->g x Z H' λσ2 H2=>tb {D with nx:=N,ct:=N,bk:=D.nx} σ2 H2)
def zK(fp:List Addr)(h:Heap):List (Addr×Obj):=fp.filterMap λb=>(h.get? b).map λo=>(b,o)
def uc(hb:b∈fp)(e:h.get? b=some o):(b,o)∈zK fp h:=sD.mpr {b,hb,by rw[e];rfl}
def OF(hp:p∈zK fp h):p.1∈fp/\h.get? p.1=some p.2:=by
 obtain⟨b,hb,e⟩:=sD.mp hp;cases q:h.get? b with
 |none=>rw[q]at e;cases e
 |some o=>
  rw[q]at e;have e':=bL e;subst e';exact⟨hb,q⟩
def Inv.pinned(I:Inv X pins Z H s)(hf:∀b∈fp,pq X pins H b)(ho:∀b∈fp,∃o,s.heap.get? b=some o/\∀v,o.data≠ .cell v):Inv X (pins++zK fp s.heap) Z H s:=
 I.wO λp hp=>(aS.mp hp).elim (λz=>I.pin p (bN _ z)) λz=>by obtain⟨hb,e⟩:=OF z;obtain⟨f0,f1,f2,_⟩:=hf p.1 hb;obtain⟨o,e',d⟩:=ho p.1 hb;rw[e]at e';cases e';exact⟨e,f0,f1,f2,d⟩
def Inv.xA(I:Inv X (pins++pl) Z H s):Inv X pins Z H s:=I.wO λp hp=>I.pin p (bN _ (b6 _ hp))
def hG(hp:PassesOwn (model X.prog X.w) X.A X.env X.xe)(hc:X.calm=true)(hi:PI X tg iter wi)(hg:PG X tg g)(hb:j9 X body tb)
  (hs:∀x,foldedSetIterable iter X.env x=pure x:=by intro _;rfl):PS X (.For tg iter body [] pos) (abH wi g tb):=by
 intro pins s Z H D I h;refine wpAny_For (gR (hi pins s Z H _ I h) λv s1 h1=>gR h1 λYR s2 h2=>?_) hs;obtain⟨it,fp,tn,J,H2,e,I2,T,pB,f2,W,⟨m0,w0⟩,turn⟩:=h2;subst e;have Rh:∀{H':Hp},(∀b∈fp,H' b=none)->∀b∈fp,pq X pins H' b:=λhn b hb=>{hn b hb,(f2 b hb).2};refine codeAny_forLoop_any (λn s'=>∃i σ' H',Inv X pins σ' H' s'/\tn i s'.heap/\(∀b∈fp,H' b=none)/\W i n σ' H') ?_ m0 {0,Z,H2,I2,pB,λb hb=>(f2 b hb).1,w0};rintro n s3 ⟨i,σ3,H3,I3,tw,fr3,w3⟩;rcases turn i n σ3 H3 w3 with⟨stop,qn⟩|⟨go,N,hN,step⟩
 ·refine iC hp (gR (T.done X rfl rfl rfl hc i pins s3 σ3 H3 X.xe I3 (Rh fr3) tw stop) λr s4 hz4=>?_);obtain⟨hr,I4⟩:=hz4;subst hr;exact pT ⟨σ3,H3,I4,qn⟩
 ·refine iC hp (gR (T.item X rfl rfl rfl hc i pins s3 σ3 H3 X.xe I3 (Rh fr3) tw go) λr s4 hz5=>?_);obtain⟨u,hr,h4⟩:=hz5;subst hr;refine iC hp (gR h4 λ_ s5 hz6=>?_);obtain⟨x,H5,I5,r5,y5,nW,fr5⟩:=hz6;have I5':=I5.pinned (Rh fr5) (T.obj _ _ nW);refine iC hp (gR (hg _ s5 σ3 H5 x u _ I5' r5 (step x H5 y5)) λ_ s6 UI=>?_);obtain⟨σ6,H6,I6,q6⟩:=UI;refine iC hp (gR (hb _ s6 σ6 H6 _ I6 q6) λf s7 q7=>?_);have again:∀{σ7:St}{H7:Hp},Inv X (pins++zK fp s5.heap) σ7 H7 s7->N σ7 H7->∃m,m<n/\∃i σ' H',Inv X pins σ' H' s7/\tn i s7.heap/\(∀b∈fp,H' b=none)/\W i m σ' H':=λ{σ7 H7} I7 n7=>by obtain⟨m',hm,w7⟩:=hN σ7 H7 n7;refine{m',hm,i+1,σ7,H7,I7.xA,T.keep _ _ _ nW λb hb o e=>(I7.pin (b,o) (bN _ (bN _ (uc hb e)))).1,λb hb=>?_,w7};obtain⟨o,e,d⟩:=T.obj _ _ nW b hb;exact(I7.pin (b,o) (bN _ (bN _ (uc hb e)))).2.1
  cases f with
  |next=>obtain⟨σ7,H7,I7,n7⟩:=q7;exact again I7 n7
  |cont=>obtain⟨σ7,H7,I7,n7⟩:=q7;exact again I7 n7
  |brk=>obtain⟨σ7,H7,I7,q7⟩:=q7;exact{σ7,H7,I7.xA,q7}
  |ret v=>obtain⟨x7,σ7,H7,I7,r7,q7⟩:=q7;exact{x7,σ7,H7,I7.xA,r7,q7}
def o8{K:Frag}{g:TG}{tb:TS}{D:Ends}(Pv:Nat->St->Hp->Prop)(h0:Pv 0 Z H)(hl:∀i Z H,i<=xs.length->Pv i Z H->bw K H a xs)
  (hs:∀i x Z H,xs[i]?=some x->Pv i Z H->g x Z H λσ2 H2=>tb {D with nx:=Pv (i+1),ct:=Pv (i+1),bk:=D.nx} σ2 H2) (hd:∀Z H,Pv xs.length Z H->D.nx Z H):
  ∃W:Nat->Nat->St->Hp->Prop,(∃m,W 0 m Z H)/\∀i m Z H,W i m Z H->
   ((Jn K a).stop i H/\D.nx Z H)\/((Jn K a).go i H/\∃N:St->Hp->Prop,(∀σ' H',N σ' H'->∃m',m'<m/\W (i+1) m' σ' H')/\∀x H',(Jn K a).zb i H x H'->g x Z H' λσ2 H2=>tb {D with nx:=N,ct:=N,bk:=D.nx} σ2 H2):=by
 refine{λi m Z H=>m=xs.length -i/\i<=xs.length/\Pv i Z H,{xs.length,by simp,aR _,h0},?_};rintro i m Z H ⟨rfl,hi,p⟩;have q:=hl i Z H hi p;by_cases bR:i<xs.length
 ·refine .inr {{xs,xs[i],q,by simp[bR]},Pv (i+1),λσ' H' p'=>{xs.length -(i+1),by lia,rfl,bR,p'},λx H' y=>?_};obtain⟨e,y⟩:=y;subst e;exact hs i x Z _ (y xs q) p
 ·have e:i=xs.length:=by lia
  subst e;exact .inl {{xs,q,ak _},hd Z H p}
def EI{K:Frag}{g:TG}{tb:TS}{D:Ends}(Pv:Nat->St->Hp->Prop)(h0:Pv 0 Z H)(hl:∀i Z H,i<=xs.length->Pv i Z H->bq K H a xs)
  (hs:∀i x Z H,xs[i]?=some x->Pv i Z H->g x Z H λσ2 H2=>tb {D with nx:=Pv (i+1),ct:=Pv (i+1),bk:=D.nx} σ2 H2) (hd:∀Z H,Pv xs.length Z H->D.nx Z H):
  ∃W:Nat->Nat->St->Hp->Prop,(∃m,W 0 m Z H)/\∀i m Z H,W i m Z H->
   ((Jm K a).stop i H/\D.nx Z H)\/((Jm K a).go i H/\∃N:St->Hp->Prop,(∀σ' H',N σ' H'->∃m',m'<m/\W (i+1) m' σ' H')/\∀x H',(Jm K a).zb i H x H'->g x Z H' λσ2 H2=>tb {D with nx:=N,ct:=N,bk:=D.nx} σ2 H2):=by
 refine{λi m Z H=>m=xs.length -i/\i<=xs.length/\Pv i Z H,{xs.length,by simp,aR _,h0},?_};rintro i m Z H ⟨rfl,hi,p⟩;have q:=hl i Z H hi p;by_cases bR:i<xs.length
 ·refine .inr {{xs,xs[i],q,by simp[bR]},Pv (i+1),λσ' H' p'=>{xs.length -(i+1),by lia,rfl,bR,p'},λx H' y=>?_};obtain⟨e,y⟩:=y;subst e;exact hs i x Z _ (y xs q) p
 ·have e:i=xs.length:=by lia
  subst e;exact .inl {{xs,q,ak _},hd Z H p}
def sj{lo:Int}{g:TG}{tb:TS}{D:Ends}(Pv:Nat->St->Hp->Prop)(h0:Pv 0 Z H)
  (hs:∀i Z H,i<n->Pv i Z H->g (.int (lo+i)) Z H λσ2 H2=>tb {D with nx:=Pv (i+1),ct:=Pv (i+1),bk:=D.nx} σ2 H2) (hd:∀Z H,Pv n Z H->D.nx Z H):
  ∃W:Nat->Nat->St->Hp->Prop,(∃m,W 0 m Z H)/\∀i m Z H,W i m Z H->
   ((LO lo n).stop i H/\D.nx Z H)\/((LO lo n).go i H/\∃N:St->Hp->Prop,(∀σ' H',N σ' H'->∃m',m'<m/\W (i+1) m' σ' H')/\∀x H',(LO lo n).zb i H x H'->g x Z H' λσ2 H2=>tb {D with nx:=N,ct:=N,bk:=D.nx} σ2 H2):=by
 refine{λi m Z H=>m=n -i/\i<=n/\Pv i Z H,{n,by simp,aR _,h0},?_};rintro i m Z H ⟨rfl,hi,p⟩;by_cases bR:i<n
 ·refine .inr {bR,Pv (i+1),λσ' H' p'=>{n -(i+1),by lia,rfl,bR,p'},λx H' y=>?_};obtain⟨e,y⟩:=y;subst e y;exact hs i Z _ bR p
 ·have e:i=n:=by lia
  subst e;exact .inl {ak _,hd Z H p}
abbrev R2:=V->V->Hp->VK->Prop
end
def jT(X:Cx)(f:Value->Value->Sem Value)(r:R2):Prop:=
 ∀(pins:List (Addr×Obj))(s:Shared)(Z:St)(H:Hp)(x y:V)(v u:Value)(Q:VK),Inv X pins Z H s->RelV x v->RelV y u->r x y H Q->
  wpAny (model X.prog X.w) X.A (f v u) (EP X pins Z Q) X.xe s
def j6(X:Cx)(f:Value)(r:List V->Hp->VK->Prop):Prop:=
 ∀(pins:List (Addr×Obj))(s:Shared)(Z:St)(H:Hp)(xs:List V)(us:List Value)(Q:VK),Inv X pins Z H s->Vals xs us->r xs H Q->
  wpAny (model X.prog X.w) X.A (call f us) (EP X pins Z Q) X.xe s
def ade(X:Cx)(r:V->Hp->(Bool->Hp->Prop)->Prop):Prop:=
 ∀(pins:List (Addr×Obj))(s:Shared)(Z:St)(H:Hp)(x:V)(v:Value)(Q:Bool->Hp->Prop),Inv X pins Z H s->RelV x v->r x H Q->
  wpAny (model X.prog X.w) X.A (truthy v) (TP X pins Z Q) X.xe s
def TC(r:R2)(ta tb:TE):TE:=λZ H Q=>ta Z H λx H1=>tb Z H1 λy H2=>r x y H2 Q
inductive rI(C:Int->Int->Prop)(g:Int->Int->V)(x:V)(y:V)(H:Hp)(Q:VK):Prop
 |mk i j (_:x=.int i) (_:y=.int j) (_:C i j) (_:Q (g i j) H)
inductive KC(g:Int->Int->V)(x:V)(y:V)(H:Hp)(Q:VK):Prop
 |mk i j (_:x=.int i) (_:y=.int j) (_:Q (g i j) H)
section
variable{X:Cx}{a b:Expr}{ta tb:TE}{pos:Pos}
def Td(ha:PE X a ta)(hb:PE X b tb){R:V->V->Hp->Prop}(I:Inv X pins Z H s)
  (h:ta Z H λx H1=>tb Z H1 λy H2=>R x y H2) {f:Value->Value->Sem Value}
  (hf:∀v u s2 x y H2,Inv X pins Z H2 s2->RelV x v->RelV y u->R x y H2->wpAny (model X.prog X.w) X.A (f v u) Q X.xe s2):
  wpAny (model X.prog X.w) X.A (eval a X.env) (λv aaa=>wpAny (model X.prog X.w) X.A (eval b X.env) (λu aae=>wpAny (model X.prog X.w) X.A (f v u) Q X.xe aae) X.xe aaa) X.xe s:=by
 refine cU (ha pins s Z H _ I h) λv s1 x H1 I1 r1 q1=>?_;refine cU (hb pins s1 Z H1 _ I1 q1) λu s2 y H2 I2 r2 q2=>?_;exact hf v u s2 x y H2 I2 r1 r2 q2
def dh(ho:jT X (binaryOp op) r)(ha:PE X a ta)(hb:PE X b tb):PE X (.BinOp a op b pos) (TC r ta tb):=by intro pins s Z H Q I h;exact wpAny_BinOp (Td ha hb I h λv u s2 x y H2 I2 rx ry q=>ho pins s2 Z H2 x y v u Q I2 rx ry q)
def Oz{g:Int->Int->Int}
  (rule:∀(i j:Int)(t u:Tok)(s:Shared)(Q:Value->Shared->Prop)(E:Value->Shared->Prop),C i j->Q (.int (g i j) s.toks) {s with toks:=s.toks+1}->wpAny (model X.prog X.w) X.A (f (.int i t) (.int j u)) Q E s):
  jT X f (rI C λi j=>.int (g i j)):=by
 intro pins s Z H x y v u Q I rx ry h;obtain⟨i,j,rfl,rfl,hc,q⟩:=h;obtain⟨t,rfl⟩:=rx;obtain⟨t',rfl⟩:=ry;exact rule i j t t' s _ _ hc {.int (g i j),H,I.tok _,⟨_,rfl⟩,q}
def abS{g:Int->Int->Int}
  (rule:∀(i j:Int)(t u:Tok)(s:Shared)(Q:Value->Shared->Prop)(E:Value->Shared->Prop),Q (.int (g i j) s.toks) {s with toks:=s.toks+1}->wpAny (model X.prog X.w) X.A (f (.int i t) (.int j u)) Q E s):
  jT X f (KC λi j=>.int (g i j)):=by
 intro pins s Z H x y v u Q I rx ry h;obtain⟨i,j,rfl,rfl,q⟩:=h;obtain⟨t,rfl⟩:=rx;obtain⟨t',rfl⟩:=ry;exact rule i j t t' s _ _ {.int (g i j),H,I.tok _,⟨_,rfl⟩,q}
def RN{g:Int->Int->Bool}
  (rule:∀(i j:Int)(t u:Tok)(s:Shared)(Q:Value->Shared->Prop)(E:Value->Shared->Prop),Q (.bool (g i j)) s->wpAny (model X.prog X.w) X.A (f (.int i t) (.int j u)) Q E s):
  jT X f (KC λi j=>.bl (g i j)):=by
 intro pins s Z H x y v u Q I rx ry h;obtain⟨i,j,rfl,rfl,q⟩:=h;obtain⟨t,rfl⟩:=rx;obtain⟨t',rfl⟩:=ry;exact rule i j t t' s _ _ {.bl (g i j),H,I,rfl,q}
def adh(i j:Int):Prop:=0<j/\j<1073741824
def adg(i j:Int):Prop:=0<=j/\j<=1000000/\i.natAbs<2^64
def Th(i j:Int):Prop:=(-(2^64)<i/\i<2^64)\/(-(2^64)<j/\j<2^64)
def Th.ok(h:Th i j):IntMulOk i j:=by
 rcases h with⟨h1,h2⟩|⟨h1,h2⟩
 ·exact .of_left (intBits_le_64 h1 h2)
 ·exact .of_right (intBits_le_64 h1 h2)
def kB:jT X (binaryOp .Add) (KC λi j=>.int (i+j)):=abS λ_ _ _ _ _ _ _ q=>add_int q
def zP:jT X (binaryOp .Mult) (rI Th λi j=>.int (i*j)):=Oz λ_ _ _ _ _ _ _ hc q=>mul_int q hc.ok
def We:jT X (binaryOp .FloorDiv) (rI adh λi j=>.int (i/j)):=Oz λi j _ _ _ _ _ hc q=>by have h1:(0:Int)<j:=hc.1;have h2:j<1073741824:=hc.2;exact floordiv_int ∅ (by rw[sW i ∅];exact q) (.inl (PyProof.noPylong_small ∅))
def rX:jT X (binaryOp .Mod) (rI (λ_ j=>0<j) λi j=>.int (i % j)):=Oz λi j _ _ _ _ _ hc q=>by have h1:(0:Int)<j:=hc;exact mod_int' ∅ (by rw[Int.fmod_eq_emod_of_nonneg i ∅];exact q)
def Yb:jT X (binaryOp .Pow) (rI adg λi j=>.int (i^j.toNat)):=Oz λ_ _ _ _ _ _ _ hc q=>pow_int_small hc.1 hc.2.1 hc.2.2 q
def XJ:V->V->Bool
 | .cb,.cb=>true| .cb,.int _=>true| .int _,.cb=>true| .cb,.bl _=>true| .bl _,.cb=>true| .cb,.str _=>true| .str _,.cb=>true
 | .int _,.int _=>true| .bl _,.bl _=>true| .str _,.str _=>true| .tL _,.tL _=>true
 | .int _,.str _=>true| .str _,.int _=>true| .bl _,.str _=>true| .str _,.bl _=>true
 |_,_=>false
def rEq:R2:=λx y H Q=>XJ x y=true/\Q (.bl (decide (x=y))) H
def rNe:R2:=λx y H Q=>XJ x y=true/\Q (.bl (!decide (x=y))) H
def LC:decide (V.int i=V.int j)=(i==j):=by rw[gN];simp
def Qq:decide (V.bl i=V.bl j)=(i==j):=by rw[gN];simp
def LB:decide (V.str i=V.str j)=(i==j):=by rw[gN];simp
def LD:decide (V.tL i=V.tL j)=(i.toList==j.toList):=by rw[gN];cases i;cases j;simp
variable{c:Expr}{tc:TE}
def dm(I:Inv X pins Z H s)(q:Q (.bl k) H)(e:k=k'):EP X pins Z Q (.bool k') s:=by subst e;exact{.bl k,H,I,rfl,q}
def Ba:jT X (compareOp .Eq) rEq:=by
 intro pins s Z H x y v u Q I rx ry h;obtain⟨hs,q⟩:=h;cases x with
 |cb=>
  cases rx;cases y with
  |cb=>cases ry;exact PySem.EqNone.eq_none_none (dm I q (by simp))
  |bl j=>cases ry;exact PySem.EqNone.eq_none_bool (dm I q (by simp))
  |int j=>obtain⟨t',rfl⟩:=ry;exact PySem.EqNone.eq_none_int (dm I q (by simp))
  |str j=>obtain⟨t',rfl⟩:=ry;exact PySem.EqNone.eq_none_str (dm I q (by simp))
  |_=>exact absurd (show false=true from hs) aP
 |bl i=>
  cases rx;cases y with
  |cb=>cases ry;exact PySem.EqNone.eq_bool_none (dm I q (by simp))
  |bl j=>cases ry;exact eq_bool (dm I q Qq)
  |str j=>obtain⟨t',rfl⟩:=ry;exact PySem.EqMixed.eq_bool_str (dm I q (by simp))
  |_=>exact absurd (show false=true from hs) aP
 |int i=>
  obtain⟨t,rfl⟩:=rx;cases y with
  |cb=>cases ry;exact PySem.EqNone.eq_int_none (dm I q (by simp))
  |int j=>obtain⟨t',rfl⟩:=ry;exact eq_int (dm I q LC)
  |str j=>obtain⟨t',rfl⟩:=ry;exact PySem.EqMixed.eq_int_str (dm I q (by simp))
  |_=>exact absurd (show false=true from hs) aP
 |str i=>
  obtain⟨t,rfl⟩:=rx;cases y with
  |cb=>cases ry;exact PySem.EqNone.eq_str_none (dm I q (by simp))
  |bl j=>cases ry;exact PySem.EqMixed.eq_str_bool (dm I q (by simp))
  |int j=>obtain⟨t',rfl⟩:=ry;exact PySem.EqMixed.eq_str_int (dm I q (by simp))
  |str j=>obtain⟨t',rfl⟩:=ry;exact eq_str (dm I q LB)
  |_=>exact absurd (show false=true from hs) aP
 |tL i=>
  obtain⟨t,rfl⟩:=rx;cases y with
  |tL j=>obtain⟨t',rfl⟩:=ry;exact PySem.W.eq_bytes (dm I q LD)
  |_=>exact absurd (show false=true from hs) aP
 |_=>cases y<;>exact absurd (show false=true from hs) aP
def aaZ:jT X (compareOp .NotEq) rNe:=by
 intro pins s Z H x y v u Q I rx ry h;obtain⟨hs,q⟩:=h;cases x with
 |cb=>
  cases rx;cases y with
  |cb=>cases ry;exact PySem.EqNone.ne_none_none (dm I q (by simp))
  |bl j=>cases ry;exact PySem.EqNone.ne_none_bool (dm I q (by simp))
  |int j=>obtain⟨t',rfl⟩:=ry;exact PySem.EqNone.ne_none_int (dm I q (by simp))
  |str j=>obtain⟨t',rfl⟩:=ry;exact PySem.EqNone.ne_none_str (dm I q (by simp))
  |_=>exact absurd (show false=true from hs) aP
 |bl i=>
  cases rx;cases y with
  |cb=>cases ry;exact PySem.EqNone.ne_bool_none (dm I q (by simp))
  |bl j=>cases ry;exact ne_bool (dm I q (cu not Qq))
  |str j=>obtain⟨t',rfl⟩:=ry;exact PySem.EqMixed.ne_bool_str (dm I q (by simp))
  |_=>exact absurd (show false=true from hs) aP
 |int i=>
  obtain⟨t,rfl⟩:=rx;cases y with
  |cb=>cases ry;exact PySem.EqNone.ne_int_none (dm I q (by simp))
  |int j=>obtain⟨t',rfl⟩:=ry;exact ne_int (dm I q (cu not LC))
  |str j=>obtain⟨t',rfl⟩:=ry;exact PySem.EqMixed.ne_int_str (dm I q (by simp))
  |_=>exact absurd (show false=true from hs) aP
 |str i=>
  obtain⟨t,rfl⟩:=rx;cases y with
  |cb=>cases ry;exact PySem.EqNone.ne_str_none (dm I q (by simp))
  |bl j=>cases ry;exact PySem.EqMixed.ne_str_bool (dm I q (by simp))
  |int j=>obtain⟨t',rfl⟩:=ry;exact PySem.EqMixed.ne_str_int (dm I q (by simp))
  |str j=>obtain⟨t',rfl⟩:=ry;exact ne_str (dm I q (cu not LB))
  |_=>exact absurd (show false=true from hs) aP
 |tL i=>
  obtain⟨t,rfl⟩:=rx;cases y with
  |tL j=>obtain⟨t',rfl⟩:=ry;exact PySem.W.ne_bytes (dm I q (cu not LD))
  |_=>exact absurd (show false=true from hs) aP
 |_=>cases y<;>exact absurd (show false=true from hs) aP
def Uj:jT X (compareOp .Lt) (KC λi j=>.bl (decide (i<j))):=RN λ_ _ _ _ _ _ _ q=>lt_int q
def Mi:jT X (compareOp .LtE) (KC λi j=>.bl (decide (i<=j))):=RN λ_ _ _ _ _ _ _ q=>le_int q
def Gu:jT X (compareOp .Gt) (KC λi j=>.bl (decide (j<i))):=RN λ_ _ _ _ _ _ _ q=>gt_int q
def Ox:jT X (compareOp .In) (λx y H Q=>∃i j,x=.str i/\y=.str j/\Q (.bl (!(Builtin.Str.occurrences j i 0 j.length 1).isEmpty)) H):=by intro pins s Z H x y v u Q I rx ry h;obtain⟨i,j,rfl,rfl,q⟩:=h;obtain⟨t,rfl⟩:=rx;obtain⟨t',rfl⟩:=ry;exact in_str (dm I q rfl)
def Yc:jT X (compareOp .Is) (λx y H Q=>y=.cb/\Q (.bl (decide (x=.cb))) H):=by
 intro pins s Z H x y v u Q I rx ry h;obtain⟨rfl,q⟩:=h;cases ry;refine is_none_gen (dm I q ?_);cases x<;>first
  |(cases rx;rfl)
  |(obtain⟨t,rfl⟩:=rx;rfl)
def iu(b:Expr)(h:op≠ .In:=by decide)(h2:op≠ .NotIn:=by decide):behindInMarks op b=false:=by
 have e1:(op==CmpOp.In)=false:=by cases op<;>first|rfl|exact absurd rfl h
 have e2:(op==CmpOp.NotIn)=false:=by cases op<;>first|rfl|exact absurd rfl h2
 cases b<;>simp[behindInMarks,e1,e2]
def KQ(ho:jT X (compareOp op) r)(ha:PE X a ta)(hb:PE X b tb)(hm:behindInMarks op b=false):PE X (.Compare a [op] [b] pos) (TC r ta tb):=by intro pins s Z H Q I h;exact wpAny_Compare1 (Td ha hb I h λv u s2 x y H2 I2 rx ry q=>ho pins s2 Z H2 x y v u Q I2 rx ry q) hm
inductive Xu(Q:Bool->Hp->Prop)(x:V)(H':Hp):Prop
 |mk k (_:x=.bl k) (_:Q k H')
def aaI(t:TE):TT:=λZ H Q=>t Z H λx H'=>Xu Q x H'
def fH(ho:jT X (compareOp op) r)(ha:PE X a ta)(hb:PE X b tb)(hm:behindInMarks op b=false):PT X (.Compare a [op] [b] pos) (aaI (TC r ta tb)):=by intro pins s Z H Q I h;refine wD (cU (ha pins s Z H _ I h) λv s1 x H1 I1 r1 q1=>cU (hb pins s1 Z H1 _ I1 q1) λu s2 y H2 I2 r2 q2=>gR (ho pins s2 Z H2 x y v u _ I2 r1 r2 q2) λc s3 Pt=>?_) hm;obtain⟨z,H3,I3,r3,k,e,q3⟩:=Pt;subst e;cases r3;exact gO ⟨H3,I3,q3⟩
def XA(r r':R2)(ta tb tc:TE):TE:=λZ H Q=>ta Z H λx H1=>tb Z H1 λy H2=>r x y H2 λz H3=>∃k,z=.bl k/\
 (if k=true then tc Z H3 λw' H4=>r' y w' H4 Q else Q (.bl false) H3)
def RK(ho:jT X (compareOp op) r)(qL:jT X (compareOp op') r')(ha:PE X a ta)(hb:PE X b tb)(hc:PE X c tc)
  (hm:lastMarks [op,op'] [b,c]=false:=by with_unfolding_all rfl):PE X (.Compare a [op,op'] [b,c] pos) (XA r r' ta tb tc):=by
 intro pins s Z H Q I h;refine Compare_chain (cU (ha pins s Z H _ I h) λv s1 x H1 I1 r1 q1=>chain_link (cU (hb pins s1 Z H1 _ I1 q1) λu s2 y H2 I2 r2 q2=>gR (ho pins s2 Z H2 x y v u _ I2 r1 r2 q2) λd s3 yJ=>?_)) hm;obtain⟨z,H3,I3,r3,k,e,q3⟩:=yJ;subst e;cases r3;refine gO ?_;cases k with
 |false=>exact ite_ff {.bl false,H3,I3,rfl,q3}
 |true=>exact ite_tt (chain_last (gR (hc pins s3 Z H3 _ I3 q3) λw' s4 ⟨z',H4,I4,r4,q4⟩=>qL pins s4 Z H4 y z' u w' Q I4 r2 r4 q4))
def aat(K:Frag)(x:V)(H:Hp)(k:Bool):Prop:=
 match x with
 | .cb=>k=false
 | .bl b=>k=b
 | .int i=>k=(i !=0)
 | .str y=>y.length<=sizeLine/\k=((y.length:Int) !=0)
 | .tL y=>y.size<=sizeLine/\k=((y.size:Int) !=0)
 | .ref p=>(∃xs,bw K H p xs/\k=!xs.isEmpty)\/(∃xs,bq K H p xs/\k=!xs.isEmpty)\/∃kvs,H p=some (.dK kvs)/\k=!kvs.isEmpty
 |_=>False
def Mz(r:KV kvs vs):(!vs.isEmpty)=!kvs.isEmpty:=by cases r<;>rfl
def DF(r:Vals xs aT):(!aT.toArray.isEmpty)=!xs.isEmpty:=by cases r<;>simp
def wW:(sizeLine:Nat)<2^63:=by rw[bP];decide
def Xk:ade X (λx H Q=>∃k,aat X.K x H k/\Q k H):=by
 intro pins s Z H x v Q I rx h;obtain⟨k,e,q⟩:=h;have hl:=wW;have hs:sizeLine=16777216:=bP;cases x with
 |cb=>
  cases rx;have e':k=false:=e;subst e';exact truthy_none ⟨H,I,q⟩
 |bl b=>
  cases rx;have e':k=b:=e;subst e';exact gO ⟨H,I,q⟩
 |int i=>
  obtain⟨t,rfl⟩:=rx;have e':k=(i !=0):=e;subst e';exact PySem.P.truthy_int ⟨H,I,q⟩
 |str y=>
  obtain⟨t,rfl⟩:=rx;obtain⟨hy,e'⟩:y.length<=sizeLine/\k=((y.length:Int) !=0):=e;subst e';exact PySem.P.truthy_str ∅ {H,I.tok _,q}
 |tL y=>
  obtain⟨t,rfl⟩:=rx;obtain⟨hy,e'⟩:y.size<=sizeLine/\k=((y.size:Int) !=0):=e;subst e';exact PySem.W.truthy_bytes ∅ {H,I.tok _,q}
 |ref p=>
  cases rx;have e':(∃xs,bw X.K H p xs/\k=!xs.isEmpty)\/(∃xs,bq X.K H p xs/\k=!xs.isEmpty)\/∃kvs,H p=some (.dK kvs)/\k=!kvs.isEmpty:=e;rcases e' with⟨xs,hx,e'⟩|⟨xs,hx,e'⟩|⟨kvs,hx,e'⟩
  ·subst e';obtain⟨aT,r,pl,hz⟩:=I.list hx;have hlen:=r.length;exact wpAny_truthy_list pl.isList (by simp only[aL];lia) {H,I.tok _,by rw[DF r];exact q}
  ·subst e';obtain⟨aT,r,pl,hz⟩:=I.tuple hx;have hlen:=r.length;exact truthy_tuple pl (by simp only[aL];lia) {H,I.tok _,by rw[DF r];exact q}
  ·subst e';obtain⟨hz,hS,vs,r,m⟩:kvs.length<=sizeLine/\(p==sysModules)=false/\∃vs,KV kvs vs/\s.heap.DictOf (bG X.prog X.w) p vs:=I.br p _ hx;have hlen:kvs.length=vs.length:=bh r;exact wpAny_truthy_dict hS m ∅ {H,I.tok _,by rw[Mz r];exact q}
 |_=>exact(show False from e).elim
def RB(ha:PE X a ta)(he:∀whole,isTrue a X.env whole=(do let v<-whole;standAt a.pos;holding [v] (truthy v))):
  PT X a (λZ H Q=>ta Z H λx H'=>∃k,aat X.K x H' k/\Q k H'):=by
 intro pins s Z H Q I h;exact isTrue_plain (cU (ha pins s Z H _ I h) λv s1 x H1 I1 r1 q1=>Xk pins s1 Z H1 x v Q I1 r1 q1) (he _)
def Mj:jT X (binaryOp .Add) (λx y H Q=>∃i j,x=.str i/\y=.str j/\i.length+j.length<=sizeLine/\Q (.str (i++j)) H):=by intro pins s Z H x y v u Q I rx ry h;obtain⟨i,j,rfl,rfl,hz,q⟩:=h;obtain⟨t,rfl⟩:=rx;obtain⟨t',rfl⟩:=ry;exact add_str (λt' tk=>{.str (i++j),H,I.tok _,⟨_,rfl⟩,q}) hz
def l9(r:Vals [x] us):∃u,us=[u]/\RelV x u:=by
 cases r with
 |cons r1 r2=>cases r2;exact⟨_,rfl,r1⟩
def vals2(r:Vals [x,y] us):∃u w',us=[u,w']/\RelV x u/\RelV y w':=by
 cases r with
 |cons r1 r2=>
  cases r2 with
  |cons r3 r4=>cases r4;exact⟨_,_,rfl,r1,r3⟩
def Tc:j6 X (.builtin "abs") (λxs H Q=>∃i,xs=[.int i]/\Q (.int (if i<0 then -i else i)) H):=by intro pins s Z H xs us Q I r h;obtain⟨i,rfl,q⟩:=h;obtain⟨u,rfl,t,rfl⟩:=l9 r;exact call_abs_int λu tk=>{.int (if i<0 then -i else i),H,I.tok _,⟨_,rfl⟩,q}
def aax(K:Frag)(x:V)(H:Hp)(n:Nat):Prop:=
 match x with
 | .str y=>y.length<=sizeLine/\n=y.length
 | .tL y=>y.size<=sizeLine/\n=y.size
 | .ref p=>(∃xs,bw K H p xs/\n=xs.length)\/∃xs,bq K H p xs/\n=xs.length
 |_=>False
def gF:j6 X (.builtin "len") (λxs H Q=>∃x n,xs=[x]/\aax X.K x H n/\Q (.int n) H):=by
 intro pins s Z H xs us Q I r h;obtain⟨x,n,rfl,e,q⟩:=h;obtain⟨u,rfl,rx⟩:=l9 r;have hl:=wW;have hs:sizeLine=16777216:=bP;cases x with
 |str y=>
  obtain⟨t,rfl⟩:=rx;obtain⟨hy,e'⟩:y.length<=sizeLine/\n=y.length:=e;subst e';exact len_str ∅ {.int _,H,I.tok _,⟨_,rfl⟩,q}
 |tL y=>
  obtain⟨t,rfl⟩:=rx;obtain⟨hy,e'⟩:y.size<=sizeLine/\n=y.size:=e;subst e';exact PySem.W.len_bytes ∅ {.int _,H,I.tok _,⟨_,rfl⟩,q}
 |ref p=>
  cases rx;have e':(∃xs,bw X.K H p xs/\n=xs.length)\/∃xs,bq X.K H p xs/\n=xs.length:=e;rcases e' with⟨xs,hx,e'⟩|⟨xs,hx,e'⟩
  ·subst e';obtain⟨aT,r',pl,hz⟩:=I.list hx;have hlen:=r'.length;exact Calls.call_len_list pl.isList (by simp only[aL];lia) {.int xs.length,H,I.tok _,{_,by simp only[aL];rw[hlen]},q}
  ·subst e';obtain⟨aT,r',pl,hz⟩:=I.tuple hx;have hlen:=r'.length;exact len_tuple pl (by simp only[aL];lia) {.int xs.length,H,I.tok _,{_,by simp only[aL];rw[hlen]},q}
 |_=>exact(show False from e).elim
structure CV(h:Heap)(x dx C:Addr)(mA:Str->Option Value):Prop where
 obj:h.get? x=some (instObj C dx)
 ns:h.Ns1 dx mA
 ne:dx≠x
def O3{h:Heap}(n:h.Ns1 dx mA):∃od,h.get? dx=some od/\∀name,lookIn name od=some (mA name):=by
 obtain⟨o,es,ep,ho,hd,hk,_,hm⟩:=n;refine{o,ho,λname=>?_};have e:=hm name;unfold nsFind findBy at e;rw[<-Array.find?_toList]at e;unfold lookIn;rw[hd];dsimp only;split
 ·rename_i y q;rw[q]at e;exact cu some e
 ·rename_i q;rw[q]at e;have a:es.toList.any (·.refKey)=false:=by rw[List.any_eq_false];intro y hy;obtain⟨z,t,oq⟩:=hk y (lD.mp hy);simp[DictEntry.refKey,oq]
  have a':¬es.toList.any (·.refKey)=true:=by rw[a];exact aP
  rw[aq a'];exact cu some e
def CV.look(I:CV h x dx C mA):∃od,PySem.W.InstAt h x (instObj C dx) C (some od)/\∀name,lookIn name od=some (mA name):=
 let⟨od,ho,hl⟩:=O3 I.ns
 {od,{I.obj,rfl,rfl,ho},hl}
variable{prog:Program}{w:World}{A:Around}{E:Value->Shared->Prop}{s:Shared}{K:Frag}{x dx C f:Addr}{mA:Str->Option Value}{name:Str}{v:Value}
def get_map(X:K.In s.heap)(I:CV s.heap x dx C mA)(hg:plainGet K C name=true)(hh:hasDictIn K C=true)
  (ha:findIn K (.ref C) name=some none) (hv:mA name=some v) (DI:PySem.W.handedIn v=true) (h:Q v {s with toks:=s.toks+1}):
  wpAny (model prog w) A (getAttr (.ref x) name expr) Q E s:=by
 obtain⟨od,J,hl⟩:=I.look;exact PySem.W.get_value X J (qO hg).1 (PySem.W.findObj_own hh ha rfl (by rw[hl,hv])) DI h
def SI(X:K.In s.heap)(I:CV s.heap x dx C mA)(hg:plainGet K C name=true)
  (hf:findIn K (.ref C) name=some (some (.ref f))) (ht:isFn K (.ref f)=true) (hv:mA name=none) (h:Q (.ref f,[.ref x]) s):
  wpAny (model prog w) A (getMethod (.ref x) name pl) Q E s:=by
 obtain⟨od,J,hl⟩:=I.look;exact PySem.W.method_fn X J (qO hg).1 (qO hg).2 hf (qz.mp ht) (by show(lookIn name od).map (·.isSome)=some false;rw[hl,hv];rfl) h
def VN(X:K.In s.heap)(I:CV s.heap x dx C mA)
  (hs:findIn K (.ref C) "__setattr__"=some (some (.builtin "object.__setattr__"))) (hp:PySem.W.plainOver K C=true) (ht:PySem.W.takerIn K C name=some none) (hh:hasDictIn K C=true)
  (hw:PySem.Within mA ns) (hsz:ns.length<=sizeLine)
  (h:∀h',CV h' x dx C (λy=>if y=name then some v else mA y)->Heap.SameBut dx s.heap h'->Q () {s with heap:=h',toks:=s.toks+2}):
  wpAny (model prog w) A (setAttr (.ref x) name v) Q E s:=by
 obtain⟨od,J,hl⟩:=I.look;refine PySem.W.set_plain X J hs (PySem.W.osa_open X J hp ht λb=>?_);obtain⟨cd,hc,si⟩:=PySem.W.any_some hh;have hx:=I.obj;refine ae (af (ae (ae (wpAny_loadPart hx (ae (PySem.W.Looks.here (PySem.W.looks_clsIn X hc) ?_))))));rw[si];refine af (ae (af (ae ?_)));refine wpAny_nsSet1 I.ns λh' BP kP=>?_;obtain⟨oD,esD,epD,hoD,hdD,hcD⟩:=BP.count (PySem.Within.cons name v hw);refine ae (wpAny_lookBehind hoD (by rw[hdD];exact pastItsLine_dict (aF hcD (by rw[aZ];lia))) ?_);exact af (h _ {(kP.2 _ (bX I.ne)).trans I.obj,BP,I.ne} kP)
def RY(X:K.In s.heap)(hm:PySem.W.makesIn K C=true)
  (hi:findIn K (.ref C) "__init__"=some (some (.ref f))) (hf:PySem.W.typeIn K (.ref f)=some (.type "function"))
  (h:codeAny (model prog w) (A.under (.builtin "type.__call__" {.ref C::vs,kw})) (.call (.ref f) {.ref (s.heap.objs.size+1)::vs,kw}) (PySem.W.InitBack (s.heap.objs.size+1) R)
   {s with heap:=(s.heap.push emptyDict).push (instObj C s.heap.objs.size)}):
  codeAny (model prog w) A (.call (.ref C) ⟨vs,kw⟩) R s:=by
 obtain⟨hh,g,d,t,os⟩:=s;exact PySem.W.make_core (PySem.W.makes_of X hm) (PySem.W.looks_findIn X hi) (λself=>PySem.W.bind_fn X self hf) (.inl rfl) h
end
def eM(f:Str)(v:V):List (Str×V)->List (Str×V)
 |[]=>[(f,v)]
 |(g,x)::r=>if g=f then(g,v)::r else(g,x)::eM f v r
theorem BI(f g:Str)(v:V):∀fs:List (Str×V),(eM f v fs).lookup g=if g=f then some v else fs.lookup g
 |[]=>by
  show List.lookup g [(f,v)]=_;by_cases h:g=f
  ·have hb:(g==f)=true:=qz.mpr h;simp only[List.lookup,hb,ay h]
  ·have hb:=fS.mpr h;simp only[List.lookup,hb,aq h]
 |(k,x)::r=>by
  have ih:=BI f g v r;rw[show eM f v ((k,x)::r)=(if k=f then(k,v)::r else(k,x)::eM f v r)from rfl];by_cases hk:k=f
  ·rw[ay hk];by_cases h:g=k
   ·have hb:=qz.mpr h;simp only[List.lookup,hb,ay (h.trans hk)]
   ·have hb:=fS.mpr h;simp only[List.lookup,hb,aq (λe:g=f=>h (e.trans hk.symm))]
  ·rw[aq hk];by_cases h:g=k
   ·have hb:=qz.mpr h;simp only[List.lookup,hb,aq (λe:g=f=>hk (h.symm.trans e))]
   ·have hb:=fS.mpr h;simp only[List.lookup,hb];exact ih
theorem zZ(f:Str)(v:V):∀fs:List (Str×V),f∈(eM f v fs).map (·.1)/\∀g,g∈fs.map (·.1)->g∈(eM f v fs).map (·.1)
 |[]=>{by simp[eM],λg h=>by simp at h}
 |(k,x)::r=>by
  obtain⟨i1,i2⟩:=zZ f v r;rw[show eM f v ((k,x)::r)=(if k=f then(k,v)::r else(k,x)::eM f v r)from rfl];by_cases hk:k=f
  ·rw[ay hk];subst hk;exact{by simp,λg h=>by simpa using h}
  ·rw[aq hk];refine{?_,λg h=>?_}
   ·rw[aQ];exact az _ i1
   ·rw[aQ]at h⊢;rcases aE.mp h with e|e
    ·exact aE.mpr (.inl e)
    ·exact az _ (i2 g e)
theorem BJ(f:Str)(v:V):∀fs:List (Str×V),(eM f v fs).length<=fs.length+1
 |[]=>by simp[eM]
 |(k,x)::r=>by
  have ih:=BJ f v r;rw[show eM f v ((k,x)::r)=(if k=f then(k,v)::r else(k,x)::eM f v r)from rfl];by_cases hk:k=f
  ·rw[ay hk,aZ,aZ];lia
  ·rw[aq hk,aZ,aZ];lia
def kF.some_of(r:kF (some v) o):∃u,o=some u/\RelV v u:=by
 cases o with
 |none=>exact(show False from r).elim
 |some u=>exact⟨u,rfl,r⟩
def kF.none_of(r:kF none o):o=none:=by
 cases o with
 |none=>rfl
 |some u=>exact(show False from r).elim
def P8(r:RelV v u):PySem.W.handedIn u=true:=by
 cases v with
 |cb=>cases(show u=Value.none from r);rfl
 |bl b=>cases(show u=Value.bool b from r);rfl
 |int i=>obtain⟨t,e⟩:=(show∃t,u=Value.int i t from r);cases e;rfl
 |str x=>obtain⟨t,e⟩:=(show∃t,u=Value.str x t from r);cases e;rfl
 |tL b=>obtain⟨t,e⟩:=(show∃t,u=Value.bytes b t from r);cases e;rfl
 |IZ b=>obtain⟨t,e⟩:=(show∃t,u=Value.float b t from r);cases e;rfl
 |ref a=>cases(show u=Value.ref a from r);rfl
 |ty n=>cases(show u=Value.type n from r);rfl
section
variable{P:Program}{w:World}{H:Hp}{h:Heap}{a C dx:Addr}{fs:List (Str×V)}
def Bc(br:jo P w H h)(e:H a=some (.ins C dx fs)):∃mA,CV h a dx C mA/\(∀f,kF (fs.lookup f) (mA f))/\PySem.Within mA (fs.map (·.1))/\fs.length<=1000/\H dx=some (.own a):=by obtain⟨d,z,ne,ob,mA,n,r,q⟩:=(show du P w H h a (.ins C dx fs)from br a _ e);exact{mA,⟨ob,n,ne⟩,r,q,z,d}
end
structure A0(K:Frag)(C:Addr):Prop where
 pg:plainGet K C Str.empty=true
 hd:hasDictIn K C=true
 po:PySem.W.plainOver K C=true
 sa:findIn K (.ref C) "__setattr__"=some (some (.builtin "object.__setattr__"))
def A0.get{K:Frag}(c:A0 K C)(f:Str):plainGet K C f=true:=c.pg
def oO(K:Frag)(C:Addr)(f:Str):Prop:=findIn K (.ref C) f=some none
def oO.aaG{K:Frag}(n:oO K C f):PySem.W.takerIn K C f=some none:=by unfold PySem.W.takerIn;rw[show findIn K (.ref C) f=some none from n];rfl
structure Con(K:Frag)(C:Addr)(f:Str)(v:V)(u:Value):Prop where
 at_:findIn K (.ref C) f=some (some u)
 rel:RelV v u
 get:PySem.W.specialIn K u "__get__"=some none
 cp:PySem.W.copiedNames.contains f=false
structure Meth(K:Frag)(C:Addr)(m:Str)(f:Addr):Prop where
 at_:findIn K (.ref C) m=some (some (.ref f))
 fn:isFn K (.ref f)=true
 kp:keepIn K (.ref f)=true
section
variable{X:Cx}{pins:List (Addr×Obj)}{Z:St}{H:Hp}{s:Shared}{a C dx:Addr}{fs:List (Str×V)}{f:Str}{v:V}{A:Around}{E:Value->Shared->Prop}
def MW(I:Inv X pins Z H s)(e:H a=some (.ins C dx fs))(c:A0 X.K C)(n:oO X.K C f)(l:fs.lookup f=some v)
  (h:∀u s',Inv X pins Z H s'->RelV v u->Q u s'):wpAny (model X.prog X.w) A (getAttr (.ref a) f b) Q E s:=by
 obtain⟨mA,O,r,_,_,_⟩:=Bc I.br e;obtain⟨u,hu,ru⟩:=kF.some_of (by rw[<-l];exact r f);exact get_map I.mq O (c.get f) c.hd n hu (P8 ru) (h u _ (I.tok _) ru)
def MV(I:Inv X pins Z H s)(e:H a=some (.ins C dx fs))(c:A0 X.K C)(k:Meth X.K C m g)(l:fs.lookup m=none)
  (h:Q (.ref g,[.ref a]) s):wpAny (model X.prog X.w) A (getMethod (.ref a) m pl) Q E s:=by
 obtain⟨mA,O,r,_,_,_⟩:=Bc I.br e;have hn:=kF.none_of (by rw[<-l];exact r m);exact SI I.mq O (c.get m) k.at_ k.fn hn h
def L0(I:Inv X pins Z H s)(e:H a=some (.ins C dx fs))(c:A0 X.K C)(n:oO X.K C f)(hl:fs.length<1000)(ry:RelV y u)
  (h:∀s',Inv X pins Z (upd H a (.ins C dx (eM f y fs))) s'->Q () s'):wpAny (model X.prog X.w) A (setAttr (.ref a) f u) Q E s:=by
 obtain⟨mA,O,r,wi,_,ho⟩:=Bc I.br e;have hz:(fs.map (·.1)).length<=sizeLine:=by rw[ag,bP];lia
 refine VN I.mq O c.sa c.po n.aaG c.hd wi hz λh' O' sb=>h _ ?_;have hd:∃o,h'.get? dx=some o:=let⟨o,_,_,e',_⟩:=O'.ns;⟨o,e'⟩
 refine I.write (by rw[e];exact True.intro) (.inr ho) (λb q hb z=>(sb.2 b hb).trans z) hd ?_;refine{by rw[ax O.ne];exact ho,?_,O.ne,O'.obj,_,O'.ns,λg=>?_,λg hg=>?_}
 ·have:=BJ f y fs;lia
 ·show kF ((eM f y fs).lookup g) (if g=f then some u else mA g);rw[BI];by_cases q:g=f
  ·rw[ay q,ay q];exact ry
  ·rw[aq q,aq q];exact r g
 ·by_cases q:g=f
  ·rw[q];exact(zZ f y fs).1
  ·refine(zZ f y fs).2 g (wi g λz=>hg ?_);show(if g=f then some u else mA g)=none;rw[aq q];exact z
def Inv.made(I:Inv X pins Z H s):Inv X pins Z (upd (upd H s.heap.objs.size (.own (s.heap.objs.size+1))) (s.heap.objs.size+1) (.ins C s.heap.objs.size []))
  {s with heap:=(s.heap.push emptyDict).push (instObj C s.heap.objs.size)}:=by
 have e1:(s.heap.push emptyDict).get? s.heap.objs.size=some emptyDict:=aD s.heap rfl;have e2:((s.heap.push emptyDict).push (instObj C s.heap.objs.size)).get? (s.heap.objs.size+1)=some (instObj C s.heap.objs.size):=by have:=aD (s.heap.push emptyDict) (o:=instObj C s.heap.objs.size) rfl;rwa [b7]at this
 have e3:(s.heap.push emptyDict).Ns s.heap.objs.size (λ_=>none):={emptyDict,#[],_,e1,rfl,(λe he=>absurd he (by simp)),λ_=>rfl};have I1:=I.laid (o:=.own (s.heap.objs.size+1)) (t':=s.toks) (λb u q=>ah _ q) (ak _) ⟨_,e1⟩;refine I1.laid (λb u q=>ah _ q) (AO (b7 _ _)) ?_;have ne:s.heap.objs.size≠s.heap.objs.size+1:=aI (dv _);refine{by rw[ax ne,aw],aR _,ne,e2,λ_=>none,(Heap.Ns1.of_empty e3).at λo q=>ah _ q,λ_=>True.intro,λy hy=>absurd rfl hy}
def WT(hb:attributeBase e f env (eval e env)=eval e env)
  (h:wpAny (model prog w) A (eval e env) (λo aaa=>wpAny (model prog w) A (getAttr o f true) Q E aaa) E s):wpAny (model prog w) A (eval (.Attribute e f pos) env) Q E s:=
 Attribute_any_ h (by rw[arm_eval_Attribute,hb])
end
inductive aaM(K:Frag)(f:Str)(Q:VK)(x:V)(H1:Hp):Prop
 |mk a C dx fs v (_:x=.ref a) (_:H1 a=some (.ins C dx fs)) (_:A0 K C) (_:oO K C f) (_:fs.lookup f=some v) (_:Q v H1)
def Q9(K:Frag)(ta:TE)(f:Str):TE:=λZ H Q=>ta Z H λx H1=>aaM K f Q x H1
inductive aaU(K:Frag)(f:Str)(D:Ends)(Z:St)(y:V)(x:V)(H2:Hp):Prop
 |mk a C dx fs (_:x=.ref a) (_:H2 a=some (.ins C dx fs)) (_:A0 K C) (_:oO K C f) (_:fs.length<1000) (_:D.nx Z (upd H2 a (.ins C dx (eM f y fs))))
def abL(K:Frag)(ta tv:TE)(f:Str):TS:=λD Z H=>tv Z H λy H1=>ta Z H1 λx H2=>aaU K f D Z y x H2
section
variable{X:Cx}{o e value:Expr}{f:Str}{pos pos':Pos}{ta tv:TE}
def lM(he:PE X e ta)(hb:attributeBase e f X.env (eval e X.env)=eval e X.env):PE X (.Attribute e f pos) (Q9 X.K ta f):=by intro pins s Z H Q I h;refine WT hb (cU (he pins s Z H _ I h) λu s1 x H1 I1 rx MC=>?_);obtain⟨a,C,dx,fs,v,ex,ea,c,n,l,q⟩:=MC;subst ex;obtain rfl:u=Value.ref a:=rx;exact MW I1 ea c n l λu' s2 I2 ru=>⟨v,H1,I2,ru,q⟩
def wM(ha:PE X o ta)(hv:PE X value tv)(hs:swapsWith value (some (.Attribute o f pos')) pos.line X.env=pure false):PS X (.Assign [.Attribute o f pos'] value pos) (abL X.K ta tv f):=by intro pins s Z H D I h;refine plainObj_wpAny_Assign_Attribute (cU (hv pins s Z H _ I h) λu s1 y H1 I1 ry q=>cU (ha pins s1 Z H1 _ I1 q) λov s2 x H2 I2 rx acB=>?_) hs;obtain⟨a,C,dx,fs,ex,ea,c,n,l,q2⟩:=acB;subst ex;obtain rfl:ov=Value.ref a:=rx;exact L0 I2 ea c n l ry λs3 I3=>⟨Z,_,I3,q2⟩
end
section
variable{X:Cx}{pins:List (Addr×Obj)}{Z:St}{H:Hp}{s:Shared}{A:Around}{E Q:Value->Shared->Prop}{c:Value}{b:Bool}
inductive pf(K:Frag)(H:Hp):V->Value->Prop where
 |cb:pf K H .cb (.type "NoneType")
 |bl (x:Bool):pf K H (.bl x) (.type "bool")
 |int (i:Int):pf K H (.int i) (.type "int")
 |str (x:Str):pf K H (.str x) (.type "str")
 |IZ (x:UInt64):pf K H (.IZ x) (.type "float")
 |lst {a:Addr} {xs:List V} (e:H a=some (.lst xs)):pf K H (.ref a) (.type "list")
 |eO {a:Addr} {o:Obj} {xs:List V} (e:H a=some (.eO o (.lst xs))):pf K H (.ref a) (.type "list")
 |tup {a:Addr} {xs:List V} (e:H a=some (.tup xs)):pf K H (.ref a) (.type "tuple")
 |dK {a:Addr} {kvs:List (Key×V)} (e:H a=some (.dK kvs)):pf K H (.ref a) (.type "dict")
 |dT {a:Addr} {kvs:List (List Key×V)} (e:H a=some (.dT kvs)):pf K H (.ref a) (.type "dict")
 |ins {a C dx:Addr} {fs:List (Str×V)} (e:H a=some (.ins C dx fs)) (cl:A0 K C) (ha:findIn K (.ref C) "__class__"=some (some (.builtin "object.__class__")))
   (hn:PySem.W.specialIn K (.builtin "object.__class__") "__get__"=some (some (.builtin "getset_descriptor.__get__"))) (Pw:PySem.W.takesIn K (.builtin "object.__class__")=some true)
   (hm:PySem.W.mroIn K C (.type "object")=some true):pf K H (.ref a) (.ref C)
def Pe(I:Inv X pins Z H s)(rx:RelV x u)(ty:pf X.K H x t)(e:kitOne X.K t c=some b)(h:∀tk,Q (.bool b) {s with toks:=tk}):
  wpAny (model X.prog X.w) A (call (.builtin "isinstance") [u,c]) Q E s:=by
 cases ty with
 |cb=>cases(show u=Value.none from rx);exact eB PySem.W.kitx_none I.mq True.intro e (λz=>nomatch z) h
 |bl y=>cases(show u=Value.bool y from rx);exact eB PySem.W.kitx_bool I.mq True.intro e (λz=>nomatch z) h
 |int i=>obtain⟨t,q⟩:=(show∃t,u=Value.int i t from rx);cases q;exact eB PySem.W.kitx_int I.mq True.intro e (λz=>nomatch z) h
 |str y=>obtain⟨t,q⟩:=(show∃t,u=Value.str y t from rx);cases q;exact eB PySem.W.kitx_str I.mq True.intro e (λz=>nomatch z) h
 |IZ y=>obtain⟨t,q⟩:=(show∃t,u=Value.float y t from rx);cases q;exact eB PySem.W.kitx_float I.mq True.intro e (λz=>nomatch z) h
 |@lst a xs ea=>
  cases(show u=Value.ref a from rx);obtain⟨_,_,n,_,h1⟩:=(show du X.prog X.w H s.heap a (.lst xs)from I.br a _ ea);exact eB Bp I.mq ⟨_,h1,rfl⟩ e (λz=>nomatch z) h
 |@eO a ob xs ea=>
  cases(show u=Value.ref a from rx);obtain⟨_,_,_,n,_,h1⟩:=(show du X.prog X.w H s.heap a (.eO ob (.lst xs))from I.br a _ ea);exact eB Bp I.mq ⟨_,h1,rfl⟩ e (λz=>nomatch z) h
 |@tup a xs ea=>
  cases(show u=Value.ref a from rx);obtain⟨_,_,_,p,_⟩:=(show du X.prog X.w H s.heap a (.tup xs)from I.br a _ ea);obtain⟨o,h1,h2,_⟩:=p;exact eB PySem.W.kitx_tuple I.mq ⟨o,h1,h2⟩ e (λz=>nomatch z) h
 |@dK a kvs ea=>
  cases(show u=Value.ref a from rx);obtain⟨_,_,vs,_,p⟩:=(show du X.prog X.w H s.heap a (.dK kvs)from I.br a _ ea);obtain⟨o,es,ep,h1,h2,_⟩:=p;exact eB Bq I.mq {o,h1,h2.1} e (λz=>nomatch z) h
 |@dT a kvs ea=>
  cases(show u=Value.ref a from rx);obtain⟨_,_,xs,_,o,es,ep,h1,h2,_⟩:=(show du X.prog X.w H s.heap a (.dT kvs)from I.br a _ ea);exact eB Bq I.mq {o,h1,h2.1} e (λz=>nomatch z) h
 |@ins a C dx fs ea cl ha hn Pw hm=>
  cases(show u=Value.ref a from rx);obtain⟨mA,O,_⟩:=Bc I.br ea;obtain⟨od,J,_⟩:=O.look;exact eB (PySem.W.kitx_own (cl.get _) cl.hd ha hn Pw hm) I.mq J e (λz=>nomatch z) h
end
structure gJ(k:Nat)(A:Around):Prop where
 hd:A.handled=none
 dp:A.depth+3*k+5<recursionLimit
 un:A.units+16*k+200<cLine
def gJ.mono(r:gJ k A)(h:j<=k):gJ j A:={r.hd,by have:=r.dp;lia,by have:=r.un;lia}
def gJ.deeper(r:gJ (k+1) A)(env:Env):gJ k (A.deeper env):=
 {r.hd,by have:=r.dp;show A.depth+1+3*k+5<_;lia,by have:=r.un;show A.units+3+16*k+200<_;lia}
def Ms{A:Around}:(A.under (.builtin "type.__call__" {.ref C::us,kw})).depth=A.depth+1:=by
 first|rfl|simp[Around.under,Code.weight,Code.isCreation,Code.isGuard,Code.isCaller,Code.frames,Code.isFrame,guardIds]
def Mr{A:Around}:(A.under (.builtin "type.__call__" {.ref C::us,kw})).units=A.units+1:=by
 first|rfl|simp[Around.under,Code.cUnits,Code.frames,Code.isFrame]
def gJ.make(r:gJ (k+1) A)(C:Addr)(us:List Value)(kw:List (Str×Value)):gJ k (A.under (.builtin "type.__call__" {.ref C::us,kw})):=
 {r.hd,by have:=r.dp;rw[Ms];lia,by have:=r.un;rw[Mr];lia}
def gJ.depth(r:gJ k A):A.depth<recursionLimit:=by have:=r.dp;lia
def gJ.units(r:gJ k A):A.units+64<cLine:=by have:=r.un;lia
def B8:TA:=λ_ H Q=>Q [] H
def pV(ta:TE)(tr:TA):TA:=λZ H Q=>ta Z H λx H1=>tr Z H1 λxs H2=>Q (x::xs) H2
section
variable{X:Cx}{e:Expr}{es:List Expr}{te:TE}{t:TA}{pos:Pos}
def ju:PA X [] B8:=λ_ _ _ _ H Q I h=>km {[],H,I,.nil,h}
def fk(ha:PE X e te)(hr:PA X es t)(hs:starEach (e::es) X.env=(false,eval e X.env)::starEach es X.env:=by rfl):PA X (e::es) (pV te t):=by intro pos pins s Z H Q I h;rw[hs];refine fC (cU (ha pins s Z H _ I h) λu s1 x H1 I1 r1 q1=>?_);exact pU (hr pos pins s1 Z H1 _ I1 q1) λus s2 xs H2 I2 r2 q2=>{x::xs,H2,I2,.cons r1 r2,q2}
def cw{X:Cx}{e:Expr}{te:TE}(ha:PE X e te)(hs:starEach [e] X.env=(false,eval e X.env)::starEach [] X.env:=by rfl):PA X [e] (pV te B8):=fk ha ju hs
def eK{X:Cx}{e f:Expr}{te tf:TE}(ha:PE X e te)(hb:PE X f tf)(hs:starEach [e,f] X.env=(false,eval e X.env)::starEach [f] X.env:=by rfl)(ht:starEach [f] X.env=(false,eval f X.env)::starEach [] X.env:=by rfl):PA X [e,f] (pV te (pV tf B8)):=fk ha (cw hb ht) hs
def tE{X:Cx}{e f g:Expr}{te tf tg:TE}(ha:PE X e te)(hb:PE X f tf)(hc:PE X g tg)(hs:starEach [e,f,g] X.env=(false,eval e X.env)::starEach [f,g] X.env:=by rfl)(ht:starEach [f,g] X.env=(false,eval f X.env)::starEach [g] X.env:=by rfl)(hu:starEach [g] X.env=(false,eval g X.env)::starEach [] X.env:=by rfl):PA X [e,f,g] (pV te (pV tf (pV tg B8))):=fk ha (eK hb hc ht hu) hs
def Xq(t:TA):TE:=λZ H Q=>t Z H λxs H1=>xs.length<=sizeLine/\∀p,H1 p=none->Q (.ref p) (upd H1 p (.tup xs))
def abF(t:TA):TE:=λZ H Q=>t Z H λxs H1=>xs.length<=sizeLine/\∀p,H1 p=none->Q (.ref p) (upd H1 p (.lst xs))
def ir{x1}(h:PA X es t):PE X (.Tuple es x1 pos) (Xq t):=by intro pins s Z H Q I hq;refine wpAny_Tuple_spliced (pU (h pos pins s Z H _ I hq) λus s1 xs H1 I1 r ⟨z,q⟩=>{by rw[<-r.length];exact z,?_});have hf:=I1.br.fresh (ak _);refine{.ref s1.heap.objs.size,upd H1 s1.heap.objs.size (.tup xs),I1.laid (λb u e=>ah _ e) (ak _) ?_,rfl,q _ hf};exact{z,us,r,{_,aD _ rfl,rfl,_,rfl},_,aD _ rfl,rfl}
def hJ(h:PA X es t):PE X (.List es pos) (abF t):=by intro pins s Z H Q I hq;refine wpAny_List_spliced (pU (h pos pins s Z H _ I hq) λus s1 xs H1 I1 r ⟨z,q⟩=>{by rw[<-r.length];exact z,?_});have hf:=I1.br.fresh (ak _);refine{.ref s1.heap.objs.size,upd H1 s1.heap.objs.size (.lst xs),I1.laid (λb u e=>ah _ e) (ak _) ?_,rfl,q _ hf};exact{z,us,0,r,aD _ rfl}
abbrev Sp:=List V->Hp->VK->XK->Prop
abbrev Jq:=List Env->Hp->Shared->XK->Value->Shared->Prop
structure CY(P:Program)(w:World)(K:Frag)(mg:Str->Option Value)(base:Heap)(A:Around)(outer:List Env)(s:Shared)(H:Hp):Prop where
 frames:A.frames=some outer
 mod:Mod K mg base
 bs:∀b o,base.get? b=some o->s.heap.get? b=some o/\H b=none
 B2:base.objs.size<=s.heap.objs.size
 rg:s.heap.FunFrames base outer
 F0:∀b∈yR outer,H b=none
 br:jo P w H s.heap
 bare:AllBare s.gens
def CE(outer:List Env)(P:Program)(w:World)(H:Hp)(s:Shared)(Q:VK)(u:Value)(s':Shared):Prop:=
 ∃v H',s'.os=s.os/\AllBare s'.gens/\Un (yR outer) [] H H' s.heap s'.heap/\jo P w H' s'.heap/\RelV v u/\Q v H'
end
def CR(CX:Jq)(outer:List Env)(P:Program)(w:World)(H:Hp)(s:Shared)(Q:VK)(E:XK)(r:Result)(s':Shared):Prop:=
 match r with
 | .ok (.ret u)=>CE outer P w H s Q u s'
 | .ok _=>False
 | .error e=>CX outer H s E e s'
structure c6(P:Program)(w:World)(K:Frag)(mg:Str->Option Value)(base:Heap)(CX:Jq)(k:Nat)(f:Addr)(fd:FuncData)(ps:List Str)(sp:Sp):Prop where
 len:∀vs H Q E,sp vs H Q E->vs.length=ps.length
 run:∀(A:Around)(outer:List Env)(s:Shared)(H:Hp)(args:Args)(us:List Value)(vs:List V)(Q:VK)(E:XK),gJ k A->CY P w K mg base A outer s H->BindsTo s fd args (ps.zip us)->Vals vs us->sp vs H Q E->
  codeAny (model P w) A (.call (.ref f) args) (CR CX outer P w H s Q E) s
def CY.make{K:Frag}(e:CY P w K mg base A outer s H)(C:Addr)(us:List Value)(kw:List (Str×Value)):
  CY P w K mg base (A.under (.builtin "type.__call__" {.ref C::us,kw})) outer s H:={by first|exact e.frames|(simpa[Around.under,Code.envs,Code.isFrame,pushEnvs]using e.frames),e.mod,e.bs,e.B2,e.rg,e.F0,e.br,e.bare}
section
variable{X:Cx}{pins:List (Addr×Obj)}{Z:St}{H:Hp}{s s':Shared}
def Inv.env0(I:Inv X pins Z H s):CY X.prog X.w X.K X.mg X.base X.A X.stack s H:=
 {I.ok.frames,I.ok.mod,I.bs,aF I.ok.B2 I.sz,I.stack,I.Km,I.br,I.bare}
def Inv.after(I:Inv X pins Z H s)(h:CE X.stack X.prog X.w H s Q u s'):EP X pins Z Q u s':=by obtain⟨v,H',os,bare,un,br,r,q⟩:=h;obtain⟨hh,g,d,t,Ui⟩:=s';obtain rfl:Ui=s.os:=os;exact{v,H',I.call un br bare (λb z=>absurd z (by simp)),r,q}
end
def LX(sp:Sp)(pN:List V)(E:XK)(t:TA):TE:=λZ H Q=>t Z H λvs H1=>sp (vs++pN) H1 Q E
inductive Xw(C:Addr)(m:Str)(sp:Sp)(pN:List V)(E:XK)(t:TA)(Z:St)(Q:VK)(x:V)(H1:Hp):Prop
 |mk a dx fs (_:x=.ref a) (_:H1 a=some (.ins C dx fs)) (_:fs.lookup m=none) (_:t Z H1 λvs H2=>sp (x::(vs++pN)) H2 Q E)
def TF(C:Addr)(m:Str)(sp:Sp)(pN:List V)(E:XK)(ta:TE)(t:TA):TE:=λZ H Q=>ta Z H λx H1=>Xw C m sp pN E t Z Q x H1
def TH(C:Addr)(sp:Sp)(pN:List V)(E:XK)(t:TA):TE:=λZ H Q=>t Z H λvs H1=>∀x dx,H1 x=none->H1 dx=none->dx≠x->
 sp (.ref x::(vs++pN)) (upd (upd H1 dx (.own x)) x (.ins C dx [])) (λv H2=>v=.cb/\Q (.ref x) H2) E
def Binds(K:Frag)(fd:FuncData)(ps:List Str)(ds:List Value):Prop:=
 ∀(s:Shared)(us:List Value),K.In s.heap->(us++ds).length=ps.length->BindsTo s fd {us,[]} (ps.zip (us++ds))
def Binds.all{K:Frag}(h:∀us:List Value,us.length=ps.length->bindArgs fd {us,[]}=pure (ps.zip us)):Binds K fd ps []:=λs us _ hl=>by rw[cP]at hl⊢;exact .of_eq (h us hl)
def Passes(CX:Jq)(X:Cx)(E:XK):Prop:=∀(pins:List (Addr×Obj))(Z:St)(H:Hp)(s:Shared)(e:Value)(s':Shared),Inv X pins Z H s->CX X.stack H s E e s'->X.xe e s'
section
variable{X:Cx}{CX:Jq}{k:Nat}{f C:Addr}{fd:FuncData}{ps:List Str}{sp:Sp}{pN:List V}{ds:List Value}{E:XK}{x m:Str}{p pos apos:Pos}{e o:Expr}{es:List Expr}{ta:TE}{t:TA}
def N8(F:c6 X.prog X.w X.K X.mg X.base CX k f fd ps sp)(hr:gJ k X.A)(hb:Binds X.K fd ps ds)(hd:Vals pN ds)(hx:Passes CX X E)
  (I:Inv X pins Z H s) (r:Vals vs us) (h:sp (vs++pN) H Q E):wpAny (model X.prog X.w) X.A (call (.ref f) us) (EP X pins Z Q) X.xe s:=by
 have r2:=r.append hd;have hl:(us++ds).length=ps.length:=by rw[<-r2.length];exact F.len _ _ _ _ h
 refine C1 (kE (F.run X.A X.stack s H {us,[]} (us++ds) (vs++pN) Q E hr I.env0 (hb s us I.mq hl) r2 h) λr s' hq=>?_);cases r with
 |error e=>exact hx pins Z H s e s' I hq
 |ok fl=>
  cases fl with
  |ret u=>exact I.after hq
  |next=>exact False.elim hq
  |brk=>exact False.elim hq
  |cont=>exact False.elim hq
def Wc(F:c6 X.prog X.w X.K X.mg X.base CX k f fd ps sp)(hr:gJ k X.A)(hg:Gl X x)(hm:X.mg x=some (.ref f))(hk:keepIn X.K (.ref f)=true)(hb:Binds X.K fd ps ds)(hd:Vals pN ds)(hx:Passes CX X E)
  (ha:PA X (e::es) t) (Al:(x==("__debug__":Str))=false:=by decide) (he:starEach (e::es) X.env=(false,eval e X.env)::starEach es X.env:=by rfl) (qu:(backTo pos (starEach es X.env)).any (·.1)=false:=by rfl):
  PE X (.Call (.Name x p) (e::es) [] pos) (LX sp pN E t):=by
 intro pins s Z H Q I h;refine mJ (EF I hg hm ?_ Al);refine sC I.ok.mod.O8 hk (pU (ha pos pins s Z H _ I h) λus s1 vs H1 I1 r q=>{I1.mq,?_}) he qu;exact N8 F hr hb hd hx I1 r q
def V8(he:PE X o ta)(c:A0 X.K C)(hm:Meth X.K C m f)(F:c6 X.prog X.w X.K X.mg X.base CX k f fd ps sp)(hr:gJ k X.A)(hb:Binds X.K fd ps ds)(hd:Vals pN ds)(hx:Passes CX X E)(ha:PA X (e::es) t)
  (gD:starEach (e::es) X.env=(false,eval e X.env)::starEach es X.env:=by rfl) (qu:(backTo pos (starEach es X.env)).any (·.1)=false:=by rfl)
  (ht:eval (.Call (.Attribute o m apos) (e::es) [] pos) X.env=(do
   let ov<-eval o X.env
   standAt apos.atName
   let(f,first)<-holding [ov] (getMethod ov m pl)
   callWith pos f first (backTo pos (starEach (e::es) X.env)) (backToKw pos (keywordEach [] X.env))):=by rfl):
  PE X (.Call (.Attribute o m apos) (e::es) [] pos) (TF C m sp pN E ta t):=by
 intro pins s Z H Q I h;refine PySem.W.methodCall_KW (cU (he pins s Z H _ I h) λu s1 x H1 I1 rx Se=>?_) ht;obtain⟨a,dx,fs,ex,ea,l,q⟩:=Se;subst ex;obtain rfl:u=Value.ref a:=rx;refine MV I1 ea c hm l ?_;refine sC I.ok.mod.O8 hm.kp (pU (ha pos pins s1 Z H1 _ I1 q) λus s2 vs H2 I2 r q2=>{I2.mq,?_}) gD qu;exact N8 (vs:=.ref a::vs) F hr hb hd hx I2 (.cons rfl r) q2
structure Mk(K:Frag)(C f:Addr):Prop where
 makes:PySem.W.makesIn K C=true
 init:findIn K (.ref C) "__init__"=some (some (.ref f))
 fn:isFn K (.ref f)=true
 kp:keepIn K (.ref C)=true
def Rp(M:Mk X.K C f)(F:c6 X.prog X.w X.K X.mg X.base CX k f fd ps sp)(hr:gJ (k+1) X.A)(hb:Binds X.K fd ps ds)(hd:Vals pN ds)
  (hx:Passes CX X E) (I:Inv X pins Z H s) (r:Vals vs us)
  (h:∀x dx,H x=none->H dx=none->dx≠x->sp (.ref x::(vs++pN)) (upd (upd H dx (.own x)) x (.ins C dx [])) (λv H2=>v=.cb/\Q (.ref x) H2) E):
  wpAny (model X.prog X.w) X.A (call (.ref C) us) (EP X pins Z Q) X.xe s:=by
 have hq:=h (s.heap.objs.size+1) s.heap.objs.size (I.br.fresh (eT _)) (I.br.fresh (ak _)) (aI (dv _));have I2:=Inv.made (C:=C) I;have r2:Vals (V.ref (s.heap.objs.size+1)::(vs++pN)) (Value.ref (s.heap.objs.size+1)::(us++ds)):=.cons rfl (r.append hd);have hl:(Value.ref (s.heap.objs.size+1)::us++ds).length=ps.length:=by have e:=r2.length;rw[F.len _ _ _ _ hq]at e;exact e.symm
 refine C1 (RY I.mq M.makes M.init (qz.mp M.fn) (kE (F.run _ X.stack _ _ {Value.ref (s.heap.objs.size+1)::us,[]} (Value.ref (s.heap.objs.size+1)::(us++ds)) _ _ E (hr.make C us [])
  (I2.env0.make C us []) (hb _ (Value.ref (s.heap.objs.size+1)::us) I2.mq hl) r2 hq) λr s' Aj=>?_))
 cases r with
 |error e=>exact hx pins Z _ _ e s' I2 Aj
 |ok fl=>
  cases fl with
  |ret u=>
   obtain⟨v,H',I3,rv,ev,q3⟩:=I2.after Aj;subst ev;exact{rv,{V.ref (s.heap.objs.size+1),H',I3,rfl,q3}}
  |next=>exact False.elim Aj
  |brk=>exact False.elim Aj
  |cont=>exact False.elim Aj
def V9(M:Mk X.K C f)(F:c6 X.prog X.w X.K X.mg X.base CX k f fd ps sp)(hr:gJ (k+1) X.A)(hg:Gl X x)(hm:X.mg x=some (.ref C))(hb:Binds X.K fd ps ds)(hd:Vals pN ds)(hx:Passes CX X E)
  (ha:PA X (e::es) t) (Al:(x==("__debug__":Str))=false:=by decide) (he:starEach (e::es) X.env=(false,eval e X.env)::starEach es X.env:=by rfl) (qu:(backTo pos (starEach es X.env)).any (·.1)=false:=by rfl):
  PE X (.Call (.Name x p) (e::es) [] pos) (TH C sp pN E t):=by
 intro pins s Z H Q I h;refine mJ (EF I hg hm ?_ Al);refine sC I.ok.mod.O8 M.kp (pU (ha pos pins s Z H _ I h) λus s1 vs H1 I1 r q=>{I1.mq,?_}) he qu;exact Rp M F hr hb hd hx I1 r q
variable{ks:List Str}
structure adl(K:Frag)(fd:FuncData)(ps ks:List Str)(g:List Value->List Value->List Value)(gV:List V->List V->List V):Prop where
 to:∀(s:Shared)(us ws:List Value),K.In s.heap->(g us ws).length=ps.length->BindsTo s fd {us,ks.zip ws} (ps.zip (g us ws))
 rel:∀{vs:List V}{us:List Value}{zs:List V}{ws:List Value},Vals vs us->Vals zs ws->Vals (gV vs zs) (g us ws)
end
structure cv(N P:List Str)(sc:Scope):Prop where
 kind:sc.kind=.function
 co:sc.isCoroutine=false
 gen:sc.isGenerator=false
 nd:N.Nodup
 pre:N.take P.length=P
 par:∀x∈P,sc.names.lookup x=some .local\/sc.names.lookup x=some .cell
 Yl:∀y∈sc.names,y.2≠ .free
def jE{N P:List Str}{sc:Scope}(h:sc.kind=.function/\sc.isCoroutine=false/\sc.isGenerator=false/\N.Nodup/\N.take P.length=P/\(∀x∈P,sc.names.lookup x=some .local\/sc.names.lookup x=some .cell)/\∀y∈sc.names,y.2≠ .free):cv N P sc:={h.1,h.2.1,h.2.2.1,h.2.2.2.1,h.2.2.2.2.1,h.2.2.2.2.2.1,h.2.2.2.2.2.2}
def kA{X:Cx}{x:Str}{pos:Pos}{ps:List Str}{sc:Scope}(i:Nat)(S:cv X.N ps sc)(hi:X.N[i]?=some x:=by rfl)(hx:X.env.scope.names.lookup x=some .local:=by rfl):PG X (.Name x pos) (rQ i):=pD S.nd hi (Or.inl hx) (Or.inr hx)
def gk{X:Cx}{x:Str}{pos pos':Pos}{e:Expr}{te:TE}{ps:List Str}{sc:Scope}(i:Nat)(S:cv X.N ps sc)(he:PE X e te)(hi:X.N[i]?=some x:=by rfl)(hx:X.env.scope.names.lookup x=some .local:=by rfl)(hs:swapsWith e (some (.Name x pos')) pos.line X.env=pure false:=by rfl):PS X (.Assign [.Name x pos'] e pos) (Rb te (rQ i)):=uD S.nd hi (Or.inl hx) he hs (Or.inr hx)
theorem F8{kindOf:Str->Option NameKind}:∀{binds:List (Str×Value)}{m:Str->Option Value},(∀v,(x,v)∉binds)->bindL kindOf binds m x=m x
 |[],_,_=>rfl
 |(n,v)::r,m,h=>by
  unfold bindL;rw[F8 λw hw=>h w (az _ hw)];split
  ·have:x≠n:=by rintro rfl;exact h v aA
   simp[this]
  ·rfl
theorem Ga{kindOf:Str->Option NameKind}:∀{binds:List (Str×Value)}{m:Str->Option Value},(∀v,(x,v)∉binds)->bindC kindOf binds m x=m x
 |[],_,_=>rfl
 |(n,v)::r,m,h=>by
  unfold bindC;rw[Ga λw hw=>h w (az _ hw)];split
  ·rfl
  ·have:x≠n:=by rintro rfl;exact h v aA
   simp[this]
theorem F9{kindOf:Str->Option NameKind}:∀{P:List Str}{vs:List Value}{i:Nat}{m:Str->Option Value},P.Nodup->P[i]?=some x->vs[i]?=some v->kindOf x=some .local->
  bindL kindOf (P.zip vs) m x=some v
 |[],_,_,_,_,h,_,_=>by simp at h
 |_::_,[],_,_,_,_,h,_=>by simp at h
 |p::P,w::vs,0,m,nd,h1,h2,hk=>by simp at h1 h2;subst h1;subst h2;show bindL kindOf ((p,w)::P.zip vs) m p=_;unfold bindL;rw[F8 λv hv=>(cD.mp nd).1 (v5 hv).1,ay hk];simp
 |p::P,w::vs,i+1,m,nd,h1,h2,hk=>by show bindL kindOf ((p,w)::P.zip vs) m x=_;unfold bindL;exact F9 (i:=i) (cD.mp nd).2 (by simpa using h1) (by simpa using h2) hk
theorem Gb{kindOf:Str->Option NameKind}:∀{P:List Str}{vs:List Value}{i:Nat}{m:Str->Option Value},P.Nodup->P[i]?=some x->vs[i]?=some v->kindOf x≠some .local->
  bindC kindOf (P.zip vs) m x=some v
 |[],_,_,_,_,h,_,_=>by simp at h
 |_::_,[],_,_,_,_,h,_=>by simp at h
 |p::P,w::vs,0,m,nd,h1,h2,hk=>by simp at h1 h2;subst h1;subst h2;show bindC kindOf ((p,w)::P.zip vs) m p=_;unfold bindC;rw[Ga λv hv=>(cD.mp nd).1 (v5 hv).1,aq hk];simp
 |p::P,w::vs,i+1,m,nd,h1,h2,hk=>by show bindC kindOf ((p,w)::P.zip vs) m x=_;unfold bindC;exact Gb (i:=i) (cD.mp nd).2 (by simpa using h1) (by simpa using h2) hk
def start(N:List Str)(vs:List V):St:=vs.map some++List.replicate (N.length -vs.length) none
noncomputable def EN(CX:Jq)(P:Program)(w:World)(K:Frag)(mg:Str->Option Value)(base:Heap)(N:List Str)(qual:Str)(scope:Scope)(f:Addr)(cd:Value)(A:Around)(outer:List Env)(s:Shared)(H:Hp)(E:XK):Cx where
 prog:=P
 w:=w
 K:=K
 mg:=mg
 base:=base
 A:=A.deeper (envOfC qual scope s.heap.objs.size f cd)
 N:=N
 aab:=s
 aaf:=H
 env:=envOfC qual scope s.heap.objs.size f cd
 outer:=outer
 stack:=envOfC qual scope s.heap.objs.size f cd::outer
 ex:=[]
 calm:=true
 fn:=λ_=>true
 pn:=[]
 xe:=λe s'=>wpAny (model P w) (A.deeper (envOfC qual scope s.heap.objs.size f cd)) (leaving (envOfC qual scope s.heap.objs.size f cd) e) (λ_ XR=>CX outer H s E e XR) (λe' XR=>CX outer H s E e' XR) s'
def Jd{sc:Scope}(h:sc.names.lookup x=some .cell):∃c,(cellsFrom n sc.names []).lookup x=some c:=by have q:=wq sc.names n [] (.inl h);exact jw.mp q
def Pg{K:Frag}
  (S:cv N ps scope) (hd:A.handled=none) (e0:CY P w K mg base A outer s H) (hl:vs.length=ps.length) (r:Vals vs us)
  (x:InCallC s s.heap.objs.size (bindL (envOfC qual scope s.heap.objs.size f cd).kindOf (ps.zip us) λ_=>none) (cellsFrom (s.heap.objs.size+1) scope.names []) (bindC (envOfC qual scope s.heap.objs.size f cd).kindOf (ps.zip us) λ_=>none) s1):
  Inv (EN CX P w K mg base N qual scope f cd A outer s H E) [] (start N vs) H s1:=by
 have qu:ps.length<=N.length:=by have:=cu List.length S.pre;rw[aU]at this;lia
 obtain⟨h1,tk,rfl,hk⟩:=x.done;have ON:∀b:Addr,b∉(EN CX P w K mg base N qual scope f cd A outer s H E).ex:=λb z=>absurd (show b∈([]:List Addr)from z) (by simp);refine{{e0.mod,S.kind,rfl,rfl,ak _,λy z c h1 h2=>?_,λy hy=>?_,λy c _ h=>?_,λ_=>hd,Around.frames_deeper e0.frames,.inr ⟨rfl,rfl⟩,λb z=>absurd z (ON b),e0.bs,e0.B2,λb _ _=>ON b,λb z=>absurd z (ON b),e0.rg,e0.F0},
  rfl,e0.bare,Un.kept hk,{_,x.toInCall.ns,λi y v h1 h2 h3=>?_},λy c h=>{_,x.cell y c h},e0.br.fresh (ak _),λy c h=>?_,λp hp=>absurd (show p∈([]:List (Addr×Obj))from hp) (by simp),e0.br.kept hk,?_}
 ·exact name_of_addr x.apart (jD h1) (jD h2)
 ·have hy:=hy;rcases hy with hy|hy
  ·exact Jd hy
  ·exact absurd rfl (S.Yl _ (jD hy))
 ·exact bg (x.above y c (jD h))
 ·have hi:i<vs.length:=by
   unfold start at h2;by_cases hi:i<vs.length
   ·exact hi
   ·rw[cZ (by simpa using hi)]at h2;rw[vq]at h2;split at h2<;>cases h2
  have ha:vs[i]?=some v:=by
   unfold start at h2;rw[dk (by simpa using hi),aJ]at h2;cases e:vs[i]? with
   |none=>rw[e]at h2;cases h2
   |some a=>rw[e]at h2;cases h2;rfl
  obtain⟨u,hu,rv⟩:=r.get ha;have hp:ps[i]?=some y:=by rw[<-S.pre,nA ∅];exact h1
  have ndP:ps.Nodup:=by rw[<-S.pre];exact S.nd.sublist (Bs _ _)
  refine{u,rv,?_};rcases S.par y (aG hp)with k|k
  ·exact .inl {k,F9 ndP hp hu k}
  ·obtain⟨c,e⟩:=Jd k;refine .inr {.inl k,c,e,?_};have q:=x.cell y c e;rw[Gb ndP hp hu (by show scope.names.lookup y≠_;rw[k];decide)]at q;exact q
 ·exact e0.br.fresh (bg (x.above y c (jD h)))
 ·unfold start;show _=N.length;rw[aK,ag,iM];lia
def abo{K:Frag}{dV kV doc pm c7 ct oc:Value}
     (lk:K.lookup f=some {oc,od,.func (fnOf name qual params body scope dV kV doc pm an c7 ct),zO}) (Am:codeIn K c7 qual=true) (S:cv N ps scope)
  (len:∀vs H Q E,sp vs H Q E->vs.length=ps.length)
  (MQ:∀(A:Around)(outer:List Env)(s:Shared)(H:Hp)(vs:List V)(Q:VK)(E:XK),gJ k (A.deeper (envOfC qual scope s.heap.objs.size f c7))->sp vs H Q E->
   ∃t,j9 (EN CX P w K mg base N qual scope f c7 A outer s H E) body t/\t {nx:=λ_ H'=>Q .cb H',rt:=Q} (start N vs) H):
  c6 P w K mg base CX (k+1) f (fnOf name qual params body scope dV kV doc pm an c7 ct) ps sp:=by
 refine{len,λA outer s H args us vs Q E hr e0 hb r FQ=>?_};have hl:=len _ _ _ _ FQ;have KX:=e0.mod.O8.keeps λb o e=>(e0.bs b o e).1;have lim:=e0.mod.nolimit.keeps λb o e=>(e0.bs b o e).1;have abi:∀y∈ps.zip us,scope.names.lookup y.1=some .local\/(scope.names.lookup y.1=some .cell/\((cellsFrom (s.heap.objs.size+1) scope.names []).lookup y.1).isSome=true):=λ⟨n,v⟩ hy=>by
  rcases S.par n (v5 hy).1 with q|q
  ·exact .inl q
  ·exact .inr {q,wq _ _ _ (.inl q)}
 refine codeAny_call_function hr.depth (KX _ _ lk) rfl S.co S.gen rfl (PySem.W.codeRec_of KX Am) (hb _ _ _ _ ?_);refine wpAny_newFunctionEnv_cells S.kind abi λenv he s1 x=>?_;subst he;refine{lim.keeps x.toInCall.keep,codeAny_func ?_};obtain⟨t,ht,hq⟩:=MQ A outer s H vs Q E (hr.deeper _) FQ;have I:Inv (EN CX P w K mg base N qual scope f c7 A outer s H E) [] (start N vs) H s1:=Pg S hr.hd e0 hl r x;refine cR (ht [] s1 (start N vs) H _ I hq) (λfl s' hs=>?_) λe s' hs=>hs;have fin:∀{σ':St}{H':Hp}{v:V}{u:Value},Inv (EN CX P w K mg base N qual scope f c7 A outer s H E) [] σ' H' s'->RelV v u->Q v H'->CE outer P w H s Q u s':=
  λ{σ' H' v u} J rv q=>{v,H',J.os,J.bare,J.base,J.br,rv,q}
 cases fl with
 |ret u=>
  obtain⟨v,σ',H',J,rv,q⟩:=hs;exact fin J rv q
 |next=>
  obtain⟨σ',H',J,q⟩:=hs;exact fin (v:=V.cb) J rfl q
 |brk=>
  obtain⟨_,_,_,q⟩:=hs;exact False.elim q
 |cont=>
  obtain⟨_,_,_,q⟩:=hs;exact False.elim q
section
variable{X:Cx}{x:Str}{p pos:Pos}{e:Expr}{es:List Expr}{t:TA}{id T:String}{r:List V->Hp->VK->Prop}
def XB(r:List V->Hp->VK->Prop)(t:TA):TE:=λZ H Q=>t Z H λvs H1=>r vs H1 Q
def cQ(hc:j6 X (.builtin id) r)(hg:Gl X x)(hm:X.mg x=none)(hv:bootBuiltins x=some (.builtin id))(ha:PA X (e::es) t)(hn:x≠"__name__":=by decide)(Al:(x==("__debug__":Str))=false:=by decide)
  (he:starEach (e::es) X.env=(false,eval e X.env)::starEach es X.env:=by rfl) (qu:(backTo pos (starEach es X.env)).any (·.1)=false:=by rfl):PE X (.Call (.Name x p) (e::es) [] pos) (XB r t):=by
 intro pins s Z H Q I h;refine mJ (qg I hg hm hv ?_ hn Al);exact PyProof.Rows.callWith_builtin1 (pU (ha pos pins s Z H _ I h) λus s1 vs H1 I1 r1 q1=>hc pins s1 Z H1 vs us Q I1 r1 q1) he qu
def eU(hc:j6 X (.type T) r)(hg:Gl X x)(hm:X.mg x=none)(hv:bootBuiltins x=some (.type T))(ha:PA X (e::es) t)(hn:x≠"__name__":=by decide)(Al:(x==("__debug__":Str))=false:=by decide)
  (he:starEach (e::es) X.env=(false,eval e X.env)::starEach es X.env:=by rfl) (qu:(backTo pos (starEach es X.env)).any (·.1)=false:=by rfl):PE X (.Call (.Name x p) (e::es) [] pos) (XB r t):=by
 intro pins s Z H Q I h;refine mJ (qg I hg hm hv ?_ hn Al);exact dB (pU (ha pos pins s Z H _ I h) λus s1 vs H1 I1 r1 q1=>hc pins s1 Z H1 vs us Q I1 r1 q1) he qu
end
end L2
namespace HT
open PySem PyProof.Rows
section
open PySem.SeqAt
open PySem.AutoSeq1 (wpAny_loadPart')
open PySem.MeetsSeq PySem.MeetsSeq2 PySem.MeetsSeq3
end
section
variable{prog:Program}{w:World}{A:Around}{E:Value->Shared->Prop}{s:Shared}
def WQ(ht:IsTup s.heap t vs.toArray)(hb:IsTup s.heap b ws.toArray)(hv:vs≠[])
  (h1:ws=[]->Q (.ref t) s) (h2:ws≠[]->Q (.ref s.heap.objs.size) {s with heap:=s.heap.push {cls:=.type "tuple",data:=.seq (vs++ws).toArray}})
  (hsz:vs.length+ws.length<=sizeLine):wpAny (model prog w) A (binaryOp .Add (.ref t) (.ref b)) Q E s:=by
 obtain⟨⟨cls,dd,data,sl⟩,ho,hc,n,hd⟩:=id ht;obtain⟨⟨ac9,LG,data2,TR⟩,xc,pJ,n2,hd2⟩:=id hb;simp only at hc hd pJ hd2;subst hc hd pJ hd2;have e:vs.toArray++ws.toArray=(vs++ws).toArray:=by simp
 by_cases hw:ws=[]
 ·exact Ap ⟨_,ho,rfl⟩ ⟨_,xc,rfl⟩ uH yE oM nZ (ni _ _)
   (tuple_addW1 t b vs.toArray ws.toArray n n2 dd LG sl TR (by simpa using hv) (by simp[hw])) {ho,xc,h1 hw}
 ·refine Ap ⟨_,ho,rfl⟩ ⟨_,xc,rfl⟩ uH yE oM nZ (ni _ _)
   (tuple_addW2 t b vs.toArray ws.toArray n n2 dd LG sl TR (by simpa using hv) (by simpa using hw) (by rw[aL,aL];exact hsz)) {ho,xc,?_}
  rw[e];exact h2 hw
def dZ(n d:Nat):Option Int->Nat
 |none=>d
 |some v=>if v<0 then(v+(n:Int)).toNat else min v.toNat n
def Rm(n d:Nat):dZ n d none=d:=rfl
def Ku(n d k:Nat):dZ n d (some (k:Int))=min k n:=by show(if(k:Int)<0 then((k:Int)+(n:Int)).toNat else min (k:Int).toNat n)=min k n;rw[aq ∅,cI]
def XM(n d:Nat)(hd:d<=n)(o:Option Int):dZ n d o<=n:=by
 cases o with
 |none=>exact hd
 |some v=>
  show(if v<0 then(v+(n:Int)).toNat else min v.toNat n)<=n;by_cases hv:v<0
  ·rw[ay hv];lia
  ·rw[aq hv];exact Nat.min_le_right _ _
def LI(v:Int)(n d:Nat):(if v<0 then max (v+(n:Int)) 0 else min v (n:Int))=((dZ n d (some v):Nat):Int):=by
 show(if v<0 then max (v+(n:Int)) 0 else min v (n:Int))=(((if v<0 then(v+(n:Int)).toNat else min v.toNat n):Nat):Int);by_cases hv:v<0
 ·simp only[ay hv];lia
 ·simp only[aq hv];lia
def Nk(lo hi:Option Int)(n:Nat):Builtin.Slice.sliceAdjust lo hi 1 (n:Int)=(((dZ n 0 lo:Nat):Int),((dZ n n hi:Nat):Int)):=by
 have h1:¬((1:Int)<0):=by lia
 unfold Builtin.Slice.sliceAdjust;simp only[h1,dP];refine CS ?_ ?_
 ·cases lo with
  |none=>rfl
  |some v=>exact LI v n 0
 ·cases hi with
  |none=>rfl
  |some v=>exact LI v n n
def Mb(i j:Nat):Builtin.Slice.slicePlaces (i:Int) (j:Int) 1=j -i:=by
 unfold Builtin.Slice.slicePlaces;have h1:(1:Int)>0:=by lia
 simp only[h1,rf,Int.ediv_one];split<;>lia
def De{v:Value}{o:Option Int}{Q:Option Int->Shared->Prop}(p:IsPart v o)(h:Q o s):wpAny (model prog w) A (Builtin.Slice.slicePartIndex v) Q E s:=by
 cases p with
 |none=>exact slicePart_none h
 |int i t=>exact slicePart_int h
def uy{sl:Addr}{vl vu:Value}{lo hi:Option Int}{n:Nat}{Q:Int×Int×Nat->Shared->Prop}(hs:s.heap.IsSliceOf sl vl vu .none)(pl:IsPart vl lo)(pu:IsPart vu hi)
  (h:Q (((dZ n 0 lo:Nat):Int),1,dZ n n hi -dZ n 0 lo) s):wpAny (model prog w) A (Builtin.Slice.sliceApplied (.ref sl) (pure (n:Int))) Q E s:=by
 obtain⟨os,IF,U3,P0⟩:=id hs;unfold Builtin.Slice.sliceApplied Builtin.Slice.sliceFields;refine ae (ae (bF IF P0 (x:=vl) rfl (ae (bF IF P0 (x:=vu) rfl (ae (bF IF P0 (x:=.none) rfl (af ?_)))))));refine ae (slicePart_none ?_);show wpAny _ _ (if((1:Int)==0)=true then _ else _) _ _ s;rw[aq (by decide)];refine ae (De pl (ae (De pu (ae (af ?_)))));show wpAny _ _ (match Builtin.Slice.sliceAdjust lo hi 1 (n:Int)with|(lo,hi)=>pure (lo,(1:Int),Builtin.Slice.slicePlaces lo hi 1)) _ _ s;rw[Nk lo hi n];show wpAny _ _ (pure (((dZ n 0 lo:Nat):Int),(1:Int),Builtin.Slice.slicePlaces ((dZ n 0 lo:Nat):Int) ((dZ n n hi:Nat):Int) 1)) _ _ s;rw[Mb];exact af h
def RE(xs:Array Value)(i k:Nat):((List.range k).filterMap λ(m:Nat)=>xs[((i:Int)+(m:Int)*1).toNat]?).toArray=((xs.toList.drop i).take k).toArray:=by
 have e:(λ(m:Nat)=>xs[((i:Int)+(m:Int)*1).toNat]?)=λm=>xs[i+m]?:=by
  funext m;have:((i:Int)+(m:Int)*1).toNat=i+m:=by lia
  rw[this]
 rw[e];have:=pick_run xs i k;rw[sG]at this;have e2:((λx=>xs[x]?)∘λx=>i+x)=λm=>xs[i+m]?:=rfl;rw[e2]at this;rw[this]
def Bl{t sl:Addr}{items:Array Value}{vl vu:Value}{lo hi:Option Int}{Q:Value->Shared->Prop}(ht:IsTup s.heap t items)(hs:s.heap.IsSliceOf sl vl vu .none)(pl:IsPart vl lo)(pu:IsPart vu hi)
  (hw:¬(dZ items.size 0 lo=0/\dZ items.size items.size hi=items.size))
  (h:Q (.ref s.heap.objs.size) {s with heap:=s.heap.push {cls:=.type "tuple",data:=.seq ((items.toList.drop (dZ items.size 0 lo)).take (dZ items.size items.size hi -dZ items.size 0 lo)).toArray}})
  (hsz:items.size<=sizeLine):wpAny (model prog w) A (getItem (.ref t) (.ref sl)) Q E s:=by
 have Gw:sizeOk (.seq ((items.toList.drop (dZ items.size 0 lo)).take (dZ items.size items.size hi -dZ items.size 0 lo)).toArray):=by show((items.toList.drop (dZ items.size 0 lo)).take (dZ items.size items.size hi -dZ items.size 0 lo)).toArray.size<=sizeLine;rw[aL,aU,k8,aM];lia
 have hj:dZ items.size items.size hi<=items.size:=XM _ _ (ak _) hi;obtain⟨os,IF,U3,P0⟩:=id hs;have Z6:s.TypeIs (.ref sl) "slice":=⟨os,IF,U3⟩;unfold getItem
 try with_reducible refine bK ?_
 first|refine ae (af ?_)|skip
 refine ae (Bi ht.typeIs (by decide) ?_);refine ae (wpAny_callSpecial?_slot (name:=Str.ofString "__getitem__") ht.typeIs dE
  (ba dE ht.typeIs yX ?_ (AB _ _)))
 show wpAny _ _ (Builtin.Tuple.tupleItemsOf (.ref t)>>=_) _ _ s;refine ae (tupleItemsOf_ ht ?_);refine ae (gw Z6 ?_);rw[ay (by decide)];refine ae (uy hs pl pu ?_);have DK:¬((((dZ items.size 0 lo:Nat):Int)==0&&(1:Int)==1&&(dZ items.size items.size hi -dZ items.size 0 lo)==items.size)=true):=by intro q;rw[cE,cE]at q;have q1:((dZ items.size 0 lo:Nat):Int)=0:=gX q.1.1;have q2:dZ items.size items.size hi -dZ items.size 0 lo=items.size:=gX q.2;exact hw {by lia,by lia}
 show wpAny _ _ (if(((dZ items.size 0 lo:Nat):Int)==0&&(1:Int)==1&&(dZ items.size items.size hi -dZ items.size 0 lo)==items.size)=true then _ else _) _ _ s;rw[aq DK,RE]
 first
  |exact ae (m:=Builtin.Tuple.tupleExact _) (bV (af ⟨_,rfl,af h⟩) Gw)
  |exact ae (m:=Builtin.Tuple.tupleExact _) (bV (ae (af (af ⟨_,rfl,af h⟩))) Gw)
  |exact ae (ae (m:=Builtin.Tuple.tupleExact _) (bV (af (af ⟨_,rfl,af h⟩)) Gw))
  |exact ae (ae (m:=Builtin.Tuple.tupleExact _) (bV (af ⟨_,rfl,af h⟩) Gw))
end
end HT
namespace L2
open PySem PySem.Spec PyProof.Rows
abbrev TO:=St->Hp->(Option Int->Hp->Prop)->Prop
def PO(X:Cx)(e:Option Expr)(t:TO):Prop:=
 ∀(pins:List (Addr×Obj))(s:Shared)(Z:St)(H:Hp)(Q:Option Int->Hp->Prop),Inv X pins Z H s->t Z H Q->
  wpAny (model X.prog X.w) X.A (evalPart e X.env) (λu s'=>∃o H',Inv X pins Z H' s'/\IsPart u o/\Q o H') X.xe s
def Kg:TO:=λ_ H Q=>Q none H
inductive Xv(Q:Option Int->Hp->Prop)(x:V)(H1:Hp):Prop
 |mk i (_:x=.int i) (_:Q (some i) H1)
def aaJ(t:TE):TO:=λZ H Q=>t Z H λx H1=>Xv Q x H1
section
variable{X:Cx}{e:Expr}{te:TE}{lo hi:Option Expr}{tl th:TO}{pos p2:Pos}
def Ey:PO X none Kg:=by intro pins s Z H Q I h;rw[evalPart_none];exact af {none,H,I,.none,h}
def wN(h:PE X e te):PO X (some e) (aaJ te):=by intro pins s Z H Q I hw;rw[evalPart_some];refine cU (h pins s Z H _ I hw) λu s1 x H1 I1 r1 q1=>?_;obtain⟨i,rfl,q⟩:=q1;obtain⟨t,rfl⟩:=r1;exact{some i,H1,I1,.int i t,q}
def Vn(X:Cx)(r:V->Option Int->Option Int->Hp->VK->Prop):Prop:=
 ∀(pins:List (Addr×Obj))(s:Shared)(Z:St)(H:Hp)(x:V)(v vl vu:Value)(lo hi:Option Int)(sl:Addr)(Q:VK),Inv X pins Z H s->RelV x v->s.heap.IsSliceOf sl vl vu .none->IsPart vl lo->IsPart vu hi->r x lo hi H Q->
  ∃T id,typeLookup (.type T) "__getitem__"=pure (some (.builtin id))/\s.TypeIs v T/\wpAny (model X.prog X.w) X.A (getItem v (.ref sl)) (EP X pins Z Q) X.xe s
def tSl(r:V->Option Int->Option Int->Hp->VK->Prop)(te:TE)(tl th:TO):TE:=λZ H Q=>te Z H λx H1=>tl Z H1 λl H2=>th Z H2 λu H3=>r x l u H3 Q
def xN(hr:Vn X r)(he:PE X e te)(hl:PO X lo tl)(hu:PO X hi th):PE X (.Subscript e (.Slice lo hi none p2) pos) (tSl r te tl th):=by intro pins s Z H Q I h;refine Ed (cU (he pins s Z H _ I h) λv s1 x H1 I1 r1 q1=>?_);refine wpAny_Slice (gR (hl pins s1 Z H1 _ I1 q1) λvl s2 acA=>?_);obtain⟨l,H2,I2,pl,q2⟩:=acA;refine gR (hu pins s2 Z H2 _ I2 q2) λvu s3 acz=>?_;obtain⟨u,H3,I3,pu,q3⟩:=acz;rw[evalPart_none];refine af ?_;have I4:Inv X pins Z H3 {s3 with heap:=s3.heap.push {cls:=.type "slice",data:=.fields #[vl,vu,.none]}}:=I3.kept (t':=s3.toks) λb ob q=>ah _ q;obtain⟨T,id,hT,ht,hg⟩:=hr pins {s3 with heap:=s3.heap.push {cls:=.type "slice",data:=.fields #[vl,vu,.none]}} Z H3 x v vl vu l u s3.heap.objs.size Q I4 r1 (Heap.IsSliceOf.new ..) pl pu q3;show wpAny (model X.prog X.w) X.A (subscriptTail e (.Slice lo hi none p2) v (.ref s3.heap.objs.size)) (EP X pins Z Q) X.xe {s3 with heap:=s3.heap.push {cls:=.type "slice",data:=.fields #[vl,vu,.none]}};exact tail_any (ops:=[.ref s3.heap.objs.size,v]) ht hT hg (by with_unfolding_all rfl)
def CG(xs:List V)(lo hi:Option Int):List V:=(xs.drop (HT.dZ xs.length 0 lo)).take (HT.dZ xs.length xs.length hi -HT.dZ xs.length 0 lo)
def JL(xs:List V)(lo hi:Option Int):(CG xs lo hi).length<=xs.length:=by unfold CG;rw[aU,k8];lia
def abM(K:Frag):V->Option Int->Option Int->Hp->VK->Prop:=λx lo hi H Q=>∃a xs,x=.ref a/\bq K H a xs/\
 ¬(HT.dZ xs.length 0 lo=0/\HT.dZ xs.length xs.length hi=xs.length)/\∀p,H p=none->Q (.ref p) (upd H p (.tup (CG xs lo hi)))
def XH:Vn X (abM X.K):=by
 intro pins s Z H x v vl vu lo hi sl Q I rx hs pl pu h;obtain⟨a,xs,rfl,hx,hw,q⟩:=h;cases rx;obtain⟨aT,r,ht,hz⟩:=I.tuple hx;have hlen:aT.toArray.size=xs.length:=by rw[aL];exact r.length.symm
 refine{"tuple",_,dE.lookup,ht.typeIs,?_};refine HT.Bl ht hs pl pu (by rw[hlen];exact hw) ?_ (by rw[hlen];exact hz);rw[hlen];refine{.ref s.heap.objs.size,_,I.laid (t':=s.toks) (o:=.tup (CG xs lo hi)) (λb ob q=>ah _ q) (ak _) ?_,rfl,q _ (I.br.fresh (ak _))};exact{aF (JL xs lo hi) hz,_,(r.drop (HT.dZ xs.length 0 lo)).take (HT.dZ xs.length xs.length hi -HT.dZ xs.length 0 lo),AX _ _,_,aD _ rfl,rfl}
def Vals.wU(r:Vals xs us):us=[]↔xs=[]:=by
 cases r with
 |nil=>simp
 |cons _ _=>simp
def Il(n:Nat)(i:Int):Option Nat:=if 0<=i then(if i<n then some i.toNat else none)else if -(n:Int)<=i then some (i+n).toNat else none
def u4(xs:List α)(i:Int):Option α:=(Il xs.length i).bind λj=>xs[j]?
def La(h:Il n i=some j):seqIndex? i n=some j/\j<n/\-(n:Int)<=i/\i<n:=by
 unfold Il at h;by_cases h0:0<=i
 ·rw[ay h0]at h;by_cases h1:i<n
  ·rw[ay h1]at h;have e:=bL h;exact{by rw[BB h0 h1,e],by lia,by lia,h1}
  ·rw[aq h1]at h;cases h
 ·rw[aq h0]at h;by_cases h1:-(n:Int)<=i
  ·rw[ay h1]at h;have e:=bL h;exact{by rw[zv ∅ h1,e],by lia,h1,by lia}
  ·rw[aq h1]at h;cases h
def EZ(h:u4 xs i=some v):∃j,seqIndex? i xs.length=some j/\xs[j]?=some v/\j<xs.length/\-(xs.length:Int)<=i/\i<xs.length:=by
 unfold u4 at h;cases e:Il xs.length i with
 |none=>rw[e]at h;cases h
 |some j=>
  rw[e]at h;obtain⟨h1,h2,h3,h4⟩:=La e;exact⟨j,h1,h,h2,h3,h4⟩
def jN{xs:List α}{j:Nat}{v:α}(h:xs[j]?=some v):u4 xs (j:Int)=some v:=by
 have hj:=(ar.mp h).1;have e:Il xs.length (j:Int)=some j:=by unfold Il;rw[ay ∅,ay ∅];simp
 unfold u4;rw[e];exact h
def WW(b:Expr):Prop:=∀o i,subscripted b false o i=operate [o,i] (getItem o i)
end
def LN(X:Cx)(r:R2):Prop:=
 ∀(value slice:Expr)(pins:List (Addr×Obj))(s:Shared)(Z:St)(H:Hp)(x y:V)(v u:Value)(Q:VK),Inv X pins Z H s->RelV x v->RelV y u->r x y H Q->
  subscripted slice false v u=operate [v,u] (getItem v u)->wpAny (model X.prog X.w) X.A (subscriptTail value slice v u) (EP X pins Z Q) X.xe s
def QP(X:Cx)(id:String)(r:V->List V->Hp->VK->Prop):Prop:=
 ∀(pins:List (Addr×Obj))(s:Shared)(Z:St)(H:Hp)(x:V)(xs:List V)(v:Value)(us:List Value)(Q:VK),Inv X pins Z H s->RelV x v->Vals xs us->r x xs H Q->
  wpAny (model X.prog X.w) X.A (call (.builtin id) (v::us)) (EP X pins Z Q) X.xe s
section
variable{X:Cx}{a b:Expr}{ta tb:TE}{pos:Pos}
def cA(hr:LN X r)(ha:PE X a ta)(hb:PE X b tb)(hs:WW b):PE X (.Subscript a b pos) (TC r ta tb):=by intro pins s Z H Q I h;exact Ed (Td ha hb I h λv u s2 x y H2 I2 rx ry q=>hr a b pins s2 Z H2 x y v u Q I2 rx ry q (hs _ _))
inductive X3(K:Frag)(x:V)(y:V)(H:Hp)(Q:VK):Prop
 |mk p xs i v (_:x=.ref p) (_:y=.int i) (_:bw K H p xs) (_:u4 xs i=some v) (_:Q v H)
inductive X2(K:Frag)(x:V)(y:V)(H:Hp)(Q:VK):Prop
 |mk p xs i v (_:x=.ref p) (_:y=.int i) (_:bq K H p xs) (_:u4 xs i=some v) (_:Q v H)
inductive abO(x:V)(y:V)(H:Hp)(Q:VK):Prop
 |mk z i c (_:x=.str z) (_:y=.int i) (_:z.length<=sizeLine) (_:u4 z.cps.toList i=some c) (_:Q (.str ⟨#[c]⟩) H)
def fI:LN X (X3 X.K):=by
 intro value slice pins s Z H x y v u Q I rx ry h hs;obtain⟨p,xs,i,z,rfl,rfl,hq,he,q⟩:=h;cases rx;obtain⟨t,rfl⟩:=ry;obtain⟨aT,r,pl,hz⟩:=I.list hq;obtain⟨j,h1,h2,h3,h4,h5⟩:=EZ he;obtain⟨w,ew,oG⟩:=r.get h2;have hl:=r.length;have hn:=wW;have fin:EP X pins Z Q w s:=⟨z,H,I,oG,q⟩;by_cases h0:0<=i
 ·have hj:i.toNat=j:=by rw[BB h0 h5]at h1;exact bL h1
  exact item_listR pl.isList h0 ∅ (by rw[hj];simpa using ew) fin hs
 ·have hj:(i+(aT.toArray.size:Int)).toNat=j:=by rw[zv ∅ h4]at h1;rw[aL,<-hl];exact bL h1
  exact v9 pl.isList.typeIs slot_list_getitem.lookup
   (wpAny_getItem_list_neg pl.isList ∅ (by rw[aL]<;>lia) ∅ (by rw[hj];simpa using ew) ⟨rfl,fin⟩) hs
def fK:LN X (X2 X.K):=by
 intro value slice pins s Z H x y v u Q I rx ry h hs;obtain⟨p,xs,i,z,rfl,rfl,hq,he,q⟩:=h;cases rx;obtain⟨t,rfl⟩:=ry;obtain⟨aT,r,pl,hz⟩:=I.tuple hq;obtain⟨j,h1,h2,h3,h4,h5⟩:=EZ he;obtain⟨w,ew,oG⟩:=r.get h2;have hl:=r.length;have hn:=wW;have fin:EP X pins Z Q w s:=⟨z,H,I,oG,q⟩;exact v9 pl.typeIs slot_tuple_getitem.lookup
  (getItem_tuple pl ∅ ∅ (by rw[aL,<-hl];exact h1) (by simpa using ew) ⟨rfl,fin⟩) hs
def YO:LN X abO:=by
 intro value slice pins s Z H x y v u Q I rx ry h hs;obtain⟨z,i,c,rfl,rfl,hz,he,q⟩:=h;obtain⟨t,rfl⟩:=rx;obtain⟨t',rfl⟩:=ry;obtain⟨j,h1,h2,h3,h4,h5⟩:=EZ he;have hl:z.cps.toList.length=z.length:=by simp[Str.length]
 rw[hl]at h1 h4 h5;have hn:=wW;exact tail_any (nJ s z t) slot_str_getitem.lookup (getItem_str (by
  have e1:decide (i< -(2^63:Int))=false:=bj ∅;have e2:decide (i≥2^63)=false:=bj ∅;rw[e1,e2,yT]) (by rw[h1];simpa using h2) {.str ⟨#[c]⟩,H,I.tok _,⟨_,rfl⟩,q}) hs
def Mq(aT:List Value)(n j:Nat)(u:Value):Obj.mapSeq (·.setIfInBounds j u) {cls:=.type "list",data:=.seq aT.toArray n}={cls:=.type "list",data:=.seq (aT.set j u).toArray n}:=by simp[Obj.mapSeq]
def Inv.lst(I:Inv X pins Z H s)(h:H p=some (.lst xs)):
  ∃(aT:List Value)(n:Nat),Vals xs aT/\s.heap.get? p=some {cls:=.type "list",data:=.seq aT.toArray n}/\xs.length<=sizeLine:=by
 obtain⟨z,aT,n,r,e⟩:=I.br p _ h;exact⟨aT,n,r,e,z⟩
def Inv.Yz{aT its':List Value}(I:Inv X pins Z H s)(h:H p=some (.lst xs))
  (ho:s.heap.get? p=some {cls:=.type "list",data:=.seq aT.toArray n}) (hf:f {cls:=.type "list",data:=.seq aT.toArray n}={cls:=.type "list",data:=.seq its'.toArray n'}) (r:Vals ys its') (hz:ys.length<=sizeLine) (t:Nat):
  Inv X pins Z (upd H p (.lst ys)) {s with heap:=s.heap.update p f,toks:=t}:=by
 have e:(s.heap.update p f).get? p=some {cls:=.type "list",data:=.seq its'.toArray n'}:=by rw[b8 f ho (by rw[hf]<;>rfl),hf]
 refine I.write (by rw[h];trivial) (.inl rfl) (λb u hb q=>(bE _ _ (bX hb)).trans q) ⟨_,e⟩ ?_;exact⟨hz,its',n',r,e⟩
inductive aaX(o:V)(i:V)(v:V)(H:Hp)(Q:Hp->Prop):Prop
 |mk p xs k j (_:o=.ref p) (_:i=.int k) (_:H p=some (.lst xs)) (_:Il xs.length k=some j) (_:Q (upd H p (.lst (xs.set j v))))
def set_list:aav X aaX:=by
 intro pins s Z H o i v ov iv u Q I ro ri rv h;obtain⟨p,xs,k,j,rfl,rfl,hp,hj,q⟩:=h;cases ro;obtain⟨t,rfl⟩:=ri;obtain⟨aT,n,r,ho,hz⟩:=I.lst hp;obtain⟨h1,h2,h3,h4⟩:=La hj;have hl:=r.length;have hn:=wW;have I':Inv X pins Z (upd H p (.lst (xs.set j v))) {s with heap:=s.heap.update p (Obj.mapSeq (·.setIfInBounds j u))}:=
  I.Yz hp ho (Mq aT n j u) (r.set rv j) (by rw[List.length_set];exact hz) s.toks
 by_cases h0:0<=k
 ·have hk:k.toNat=j:=by rw[BB h0 h4]at h1;exact bL h1
  exact PySem.W.ki_setAt ho h0 ∅ (by rw[aL,<-hl];exact h4) (by rw[hk];exact⟨_,I',q⟩)
 ·have hk:(k+(aT.toArray.size:Int)).toNat=j:=by rw[zv ∅ h3]at h1;rw[aL,<-hl];exact bL h1
  exact PySem.W.ki_setBack ho ∅ (by rw[aL,<-hl];exact h3) ∅ (by rw[hk];exact⟨_,I',q⟩)
def ud:V->Bool
 | .cb=>true
 | .bl _=>true
 | .int _=>true
 | .str _=>true
 |_=>false
def F4:V->V->Bool
 | .cb,.cb=>true
 | .bl a,.bl b=>a==b
 | .bl a,.int b=>(if a then 1 else 0)==b
 | .int a,.bl b=>a==(if b then 1 else 0)
 | .int a,.int b=>a==b
 | .str a,.str b=>a==b
 |_,_=>false
def aal(ry:RelV y u)(rx:RelV x v)(fy:ud y=true)(fx:ud x=true):SeqAt.EqAt A s u v (F4 y x):=by
 cases y with
 |cb=>
  cases ry;cases x with
  |cb=>cases rx;exact SeqAt.EqAt.same _
  |bl b=>cases rx;exact SeqAt.EqAt.none_bool b
  |int b=>obtain⟨t,rfl⟩:=rx;exact SeqAt.EqAt.none_int b t
  |str b=>obtain⟨t,rfl⟩:=rx;exact SeqAt.EqAt.none_str b t
  |_=>exact absurd (show false=true from fx) aP
 |bl a=>
  cases ry;cases x with
  |cb=>cases rx;exact SeqAt.EqAt.bool_none a
  |bl b=>cases rx;exact SeqAt.EqAt.bool_bool a b
  |int b=>obtain⟨t,rfl⟩:=rx;exact SeqAt.EqAt.bool_int a b t
  |str b=>obtain⟨t,rfl⟩:=rx;exact SeqAt.EqAt.bool_str a b t
  |_=>exact absurd (show false=true from fx) aP
 |int a=>
  obtain⟨t',rfl⟩:=ry;cases x with
  |cb=>cases rx;exact SeqAt.EqAt.int_none a t'
  |bl b=>cases rx;exact SeqAt.EqAt.int_bool a t' b
  |int b=>obtain⟨t,rfl⟩:=rx;exact AI a t' b t
  |str b=>obtain⟨t,rfl⟩:=rx;exact AH a t' b t
  |_=>exact absurd (show false=true from fx) aP
 |str a=>
  obtain⟨t',rfl⟩:=ry;cases x with
  |cb=>cases rx;exact SeqAt.EqAt.str_none a t'
  |bl b=>cases rx;exact SeqAt.EqAt.str_bool a t' b
  |int b=>obtain⟨t,rfl⟩:=rx;exact AG a t' b t
  |str b=>obtain⟨t,rfl⟩:=rx;exact AF a t' b t
  |_=>exact absurd (show false=true from fx) aP
 |_=>exact absurd (show false=true from fy) aP
def DW(x:V)(u:Value):Bool:=match u with
 | .none=>F4 .cb x
 | .bool b=>F4 (.bl b) x
 | .int i _=>F4 (.int i) x
 | .str z _=>F4 (.str z) x
 |_=>false
def Qj(r:RelV y u)(f:ud y=true):DW x u=F4 y x:=by
 cases y with
 |cb=>cases r;rfl
 |bl b=>cases r;rfl
 |int i=>obtain⟨t,rfl⟩:=r;rfl
 |str z=>obtain⟨t,rfl⟩:=r;rfl
 |_=>exact absurd (show false=true from f) aP
theorem E2:∀{xs:List V}{us:List Value},Vals xs us->xs.all ud=true->us.any (DW x)=xs.any λy=>F4 y x
 |_,_,.nil,_=>rfl
 |y::xs,u::us,.cons r t,f=>by rw[List.all_cons,cE]at f;rw[oX,oX,Qj r f.1,E2 t f.2]
theorem Ck(rx:RelV x v)(fx:ud x=true):∀{xs:List V}{us:List Value},Vals xs us->xs.all ud=true->∀u∈us,SeqAt.EqAt A s u v (DW x u)
 |_,_,.nil,_=>λu hu=>by cases hu
 |y::xs,u::us,.cons r t,f=>λu' hu=>by
  rw[List.all_cons,cE]at f;rcases aE.mp hu with rfl|hu
  ·rw[Qj r f.1];exact aal r rx f.1 fx
  ·exact Ck rx fx t f.2 u' hu
def UE(x:V)(xs:List V):Bool:=xs.any λy=>F4 y x
inductive rIn(K:Frag)(neg:Bool)(x:V)(y:V)(H:Hp)(Q:VK):Prop
 |mk p xs (_:y=.ref p) (_:(bw K H p xs\/bq K H p xs)) (_:ud x=true) (_:xs.all ud=true) (_:Q (.bl (if neg then !UE x xs else UE x xs)) H)
def HH:jT X (compareOp .NotIn) (rIn X.K true):=by
 intro pins s Z H x y v u Q I rx ry h;obtain⟨p,xs,rfl,hq,fx,fs,q⟩:=h;cases ry;rcases hq with hq|hq
 ·obtain⟨aT,r,pl,hz⟩:=I.list hq;refine SeqAt.notIn_listAt (DW x) pl.isList (λw hw=>Ck rx fx r fs w (by simpa using hw)) {.bl _,H,I,rfl,?_};rw[show aT.toArray.any (DW x)=aT.any (DW x) by simp,E2 r fs];exact q
 ·obtain⟨aT,r,pl,hz⟩:=I.tuple hq;refine SeqAt.notIn_tupleAt (DW x) pl (λw hw=>Ck rx fx r fs w (by simpa using hw)) {.bl _,H,I,rfl,?_};rw[show aT.toArray.any (DW x)=aT.any (DW x) by simp,E2 r fs];exact q
def Jf:j6 X (.type "list") (λxs H Q=>∃p ys,xs=[.ref p]/\(bw X.K H p ys\/bq X.K H p ys)/\∀l,H l=none->Q (.ref l) (upd H l (.lst ys))):=by
 intro pins s Z H xs us Q I r h;obtain⟨p,ys,rfl,hq,q⟩:=h;obtain⟨u,rfl,rx⟩:=l9 r;cases rx;have fin:∀(aT:List Value),Vals ys aT->ys.length<=sizeLine->∀(h':Heap)(c':Nat),(∀b o',s.heap.get? b=some o'->h'.get? b=some o')->
   h'.get? s.heap.objs.size=some {cls:=.type "list",dict:=none,data:=.seq aT.toArray c',slots:=#[]}->EP X pins Z Q (.ref s.heap.objs.size) {s with heap:=h'}:=λaT r' hz h' c' kp e=>
  {.ref s.heap.objs.size,_,I.laid kp (ak _) (show du X.prog X.w _ h' _ (.lst ys)from⟨hz,aT,c',r',e⟩),rfl,q _ (I.br.fresh (ak _))}
 rcases hq with hq|hq
 ·obtain⟨aT,r',pl,hz⟩:=I.list hq;have hlen:=r'.length;obtain⟨o,ho,hc,n,hd⟩:=pl.isList;exact call_list_seq p (.inl rfl) ho hc hd (λh' c' kp e=>fin aT r' hz h' c' kp e) (by simp only[aL]<;>lia)
 ·obtain⟨aT,r',pl,hz⟩:=I.tuple hq;have hlen:=r'.length;obtain⟨o,ho,hc,n,hd⟩:=pl;exact call_list_seq p (.inr rfl) ho hc hd (λh' c' kp e=>fin aT r' hz h' c' kp e) (by simp only[aL]<;>lia)
def dW:j6 X (.type "tuple") (λxs H Q=>∃p ys,xs=[.ref p]/\((bw X.K H p ys/\∀l,H l=none->Q (.ref l) (upd H l (.tup ys)))\/(bq X.K H p ys/\Q (.ref p) H))):=by
 intro pins s Z H xs us Q I r h;obtain⟨p,ys,rfl,h⟩:=h;obtain⟨u,rfl,rx⟩:=l9 r;cases rx;rcases h with⟨hq,q⟩|⟨hq,q⟩
 ·obtain⟨aT,r',pl,hz⟩:=I.list hq;have hlen:=r'.length;refine call_tuple_list pl.isList (λh' kp=>?_) (by simp only[aL]<;>lia);have I1:=I.kept (t':=s.toks) kp;have I2:Inv X pins Z (upd H h'.objs.size (.tup ys)) {s with heap:=h'.push {cls:=.type "tuple",data:=.seq aT.toArray}}:=
   I1.laid (λb o e=>ah _ e) (ak _) (show du X.prog X.w _ _ _ (.tup ys)from{hz,aT,r',AX _ _,_,aD _ rfl,rfl})
  exact{.ref h'.objs.size,_,I2,rfl,q _ (I1.br.fresh (ak _))}
 ·obtain⟨aT,r',pl,hz⟩:=I.tuple hq;exact call_tuple_same pl {.ref p,H,I,rfl,q}
noncomputable def tyV(K:Frag)(T:String)(x:V)(H:Hp):Prop:=match x with
 | .str _=>T="str"
 | .int _=>T="int"
 | .ref p=>(T="list"/\∃xs,bw K H p xs)\/(T="tuple"/\((∃xs,H p=some (.tup xs))\/∃o,K.lookup p=some o/\o.cls=.type "tuple"/\o.dict=none))\/
   (T="dict"/\((∃kvs,H p=some (.dK kvs))\/∃kvs,H p=some (.dT kvs)))\/(T="set"/\∃S n,H p=some (.set S n))
 |_=>False
def Xg(I:Inv X pins Z H s)(r:RelV x v)(ty:tyV X.K T x H):
  s.TypeIs v T/\∀a,v=.ref a->∃ob,s.heap.get? a=some ob/\ob.dict=none:=by
 cases x with
 |str z=>
  obtain⟨t,rfl⟩:=r;cases(show T="str"from ty);exact{nJ s z t,λ_ e=>nomatch e}
 |int i=>
  obtain⟨t,rfl⟩:=r;cases(show T="int"from ty);exact{typeIs_int s i t,λ_ e=>nomatch e}
 |ref p=>
  cases r;rcases ty with⟨rfl,xs,hq⟩|⟨rfl,⟨xs,hq⟩|⟨o,hk,hc,hd⟩⟩|⟨rfl,hk⟩|⟨rfl,S,n,hk⟩
  ·obtain⟨aT,_,pl,_⟩:=I.list hq;refine{pl.isList.typeIs,λa e=>?_};cases e;obtain⟨o,n,e,c,hd,_⟩:=pl;exact⟨o,e,hd⟩
  ·obtain⟨_,_,_,⟨o1,e1,c1,_⟩,o,e,hd⟩:=I.br p _ hq;refine{⟨o1,e1,c1⟩,λa e2=>?_};cases e2;exact⟨o,e,hd⟩
  ·refine{{o,I.mq p o hk,hc},λa e=>?_};cases e;exact{o,I.mq _ o hk,hd}
  ·have z:∃o,s.heap.get? p=some o/\o.ExactDict:=by
    rcases hk with⟨kvs,hk⟩|⟨kvs,hk⟩
    ·obtain⟨_,_,_,_,o,_,_,e,ex,_⟩:=I.br p _ hk;exact⟨o,e,ex⟩
    ·obtain⟨_,_,_,_,o,_,_,e,ex,_⟩:=I.br p _ hk;exact⟨o,e,ex⟩
   obtain⟨o,e,ex⟩:=z;refine{{o,e,ex.1},λa e2=>?_};cases e2;exact{o,e,ex.2.1}
  ·obtain⟨o,_,_,_,e,ex,_⟩:=I.br p _ hk;refine{{o,e,ex.1},λa e2=>?_};cases e2;exact{o,e,ex.2.1}
 |_=>exact False.elim ty
def tBM(K:Frag)(T:String)(r:V->List V->Hp->VK->Prop)(to:TE)(t:TA):TE:=λZ H Q=>to Z H λx H1=>tyV K T x H1/\t Z H1 λxs H2=>r x xs H2 Q
variable{o e:Expr}{es:List Expr}{to:TE}{t:TA}{name:Str}{apos d0:Pos}{T id:String}{r:V->List V->Hp->VK->Prop}
def mn(pa:PlainAttrs T)(slot:Slot T name id)(Za:typeOf (.builtin id)=pure (.type "method_descriptor"))(hm:QP X id r)(ho:PE X o to)(ha:PA X (e::es) t)
  (DP:attributeBase o name X.env (eval o X.env)=eval o X.env:=by rfl)
  (Sz:((backTo d0 (starEach (e::es) X.env)).all (λx=>!x.1)&&(backToKw d0 (keywordEach [] X.env)).all (λx=>x.1.isSome)
   &&decide ((e::es).length+([]:List Keyword).length+(if([]:List Keyword).isEmpty then 0 else 1)<30))=true:=by rfl)
  (DM:(apos.endLine==d0.line)=true:=by rfl) (hs:starEach (e::es) X.env=(false,eval e X.env)::starEach es X.env:=by rfl) (IC:(backTo d0 (starEach es X.env)).any (·.1)=false:=by rfl):
  PE X (.Call (.Attribute o name apos) (e::es) [] d0) (tBM X.K T r to t):=by
 intro pins s Z H Q I h;refine wpAny_Call_method_late DP Sz DM rfl (cU (ho pins s Z H _ I h) λv s1 x H1 I1 r1 acy=>?_);obtain⟨ty,q1⟩:=acy;obtain⟨h1,h2⟩:=Xg I1 r1 ty;refine{T,id,pa,slot,Za,h1,h2,?_};have hA:=ha d0 pins s1 Z H1 _ I1 q1;rw[hs]at hA⊢;refine iq (by show(false||(backTo d0 (starEach es X.env)).any (·.1))=false;rw[IC]<;>rfl) (lC ?_);exact gR hA λus s2 ⟨vs,H2,I2,r2,q2⟩=>hm pins s2 Z H2 x vs v us Q I2 r1 r2 q2
end
def QQ(X:Cx)(id:String)(r:V->List V->Hp->VK->Prop):Prop:=
 ∀(pins:List (Addr×Obj))(s:Shared)(Z:St)(H:Hp)(x:V)(xs:List V)(v:Value)(us:List Value)(Q:VK),Inv X pins Z H s->RelV x v->Vals xs us->r x xs H Q->
  wpAny (model X.prog X.w) X.A (call (.builtin id) (v::us)) (EP X pins Z Q) X.xe s
theorem Vals.one:∀{x:V}{us:List Value},Vals [x] us->∃u,us=[u]/\RelV x u
 |_,_,.cons r .nil=>⟨_,rfl,r⟩
theorem Vals.eraseIdx:∀{xs:List V}{us:List Value}(i:Nat),Vals xs us->Vals (xs.eraseIdx i) (us.eraseIdx i)
 |_,_,_,.nil=>.nil
 |_,_,0,.cons _ t=>t
 |_,_,i+1,.cons r t=>.cons r (Vals.eraseIdx i t)
theorem FG{α:Type}:∀(l:List α)(i:Nat),(l.eraseIdx i).length<=l.length
 |[],_=>ak _
 |_::_,0=>eT _
 |_::r,i+1=>Nat.succ_le_succ (FG r i)
section
variable{X:Cx}{pins:List (Addr×Obj)}{Z:St}{H:Hp}{s:Shared}{l:Addr}{xs ys:List V}
def Inv.Mu{aT its':List Value}(I:Inv X pins Z H s)(hH:H l=some (.lst xs))
  (e:s.heap.get? l=some {cls:=.type "list",data:=.seq aT.toArray n}) (hf:f aT.toArray=its'.toArray) (hv:Vals ys its') (hz:ys.length<=sizeLine):
  Inv X pins Z (upd H l (.lst ys)) {s with heap:=s.heap.update l (Obj.mapSeq f),toks:=t'}:=by
 have q:=PySem.IsL.update e f;rw[hf]at q;refine I.write (by rw[hH];exact trivial) (.inl rfl) (λb' u hb hu=>(bE s.heap (Obj.mapSeq f) (bX hb)).trans hu) ⟨_,q⟩ ?_;exact⟨hz,its',_,hv,q⟩
def Inv.ab0(I:Inv X pins Z H s)(hv:Vals ys aT)(hz:ys.length<=sizeLine):
  Inv X pins Z (upd H s.heap.objs.size (.lst ys)) {s with heap:=s.heap.push {cls:=.type "list",data:=.seq aT.toArray},toks:=t'}:=
 I.laid (λ_ _ q=>ah _ q) (ak _) {hz,aT,0,hv,aD _ rfl}
def Inv.fresh(I:Inv X pins Z H s):H s.heap.objs.size=none:=I.br.fresh (ak _)
def Inv.Cn(I:Inv X pins Z H s)(hH:H l=some (.lst xs)):xs.length<=sizeLine/\∃(aT:List Value)(n:Nat),Vals xs aT/\xs.length=aT.length/\s.heap.get? l=some {cls:=.type "list",data:=.seq aT.toArray n}:=by obtain⟨z,aT,n,r,e⟩:=I.br l _ hH;exact{z,aT,n,r,r.length,e}
def HP(h:n<=sizeLine):Builtin.List.listTooLong n=false:=by unfold Builtin.List.listTooLong;exact bj ∅
end
section
variable{X:Cx}
inductive V1(x:V)(vs:List V)(H:Hp)(Q:VK):Prop
 |mk l xs y (_:x=.ref l) (_:vs=[y]) (_:H l=some (.lst xs)) (_:xs.length<sizeLine) (_:Q .cb (upd H l (.lst (xs++[y]))))
def mU:QQ X "list.append" V1:=by intro pins s Z H x vs v us Q I rx rv h;obtain⟨l,xs,y,rfl,rfl,hH,hz,q⟩:=h;cases rx;obtain⟨u,rfl,ru⟩:=rv.one;obtain⟨z,aT,n,r,hl,e⟩:=I.Cn hH;refine ue AZ ⟨_,e,rfl⟩ za (yz _ _) (Bo l aT.toArray n u (by rw[aL];lia)) {e,?_};refine{.cb,_,I.Mu hH e (by simp) (r.append (.cons ru .nil)) ?_,rfl,q};rw[aK,d9];lia
inductive V0(x:V)(vs:List V)(H:Hp)(Q:VK):Prop
 |mk l b xs zs (_:x=.ref l) (_:vs=[.ref b]) (_:H l=some (.lst xs)) (_:H b=some (.lst zs)) (_:xs.length+zs.length<=sizeLine) (_:Q .cb (upd H l (.lst (xs++zs))))
def FA:QQ X "list.extend" V0:=by
 intro pins s Z H x vs v us Q I rx rv h;obtain⟨l,b,xs,zs,rfl,rfl,hH,hB,hz,q⟩:=h;cases rx;obtain⟨u,rfl,ru⟩:=rv.one;cases ru;obtain⟨z,aT,n,r,hl,e⟩:=I.Cn hH;obtain⟨z2,sP,n2,r2,jF,e2⟩:=I.Cn hB;have hsz:aT.toArray.size+sP.toArray.size<=sizeLine:=by rw[aL,aL];lia
 have MK:¬(!aT.toArray.isEmpty&&Builtin.List.listTooLong (aT.toArray.size+sP.toArray.size))=true:=by rw[HP hsz,rJ];exact aP
 refine ue AY ⟨_,e,rfl⟩ y8 (yy _ _)
  (AutoSeq1.list_extend_list_list_0 l aT.toArray n b sP.toArray n2 MK (by rw[aL];lia) ∅) {e,e2,?_}
 refine{.cb,_,I.Mu hH e (by simp) (r.append r2) ?_,rfl,q};rw[aK];lia
inductive X1(x:V)(vs:List V)(H:Hp)(Q:VK):Prop
 |mk l xs i k y (_:x=.ref l) (_:vs=[.int i]) (_:H l=some (.lst xs)) (_:-(2^63)<=i) (_:i<2^63) (_:seqIndex? i xs.length=some k) (_:xs[k]?=some y) (_:Q y (upd H l (.lst (xs.eraseIdx k))))
def RW:QQ X "list.pop" X1:=by
 intro pins s Z H x vs v us Q I rx rv h;obtain⟨l,xs,i,k,y,rfl,rfl,hH,h1,h2,hk,hy,q⟩:=h;cases rx;obtain⟨u,rfl,ru⟩:=rv.one;obtain⟨t,rfl⟩:=ru;obtain⟨z,aT,n,r,hl,e⟩:=I.Cn hH;obtain⟨w,hw,oG⟩:=r.get hy;refine ue F.slot_list_pop ⟨_,e,rfl⟩ F.entry_list_pop (F.args_list_pop_2 _ _)
  (MeetsSeq.list_pop_at l aT.toArray n i t k w (fitsIndex_both h1 h2) (by rw[aL,<-hl];exact hk) (by rw[<-bB];exact hw) (by rw[aL];lia)) {e,?_}
 refine{y,_,I.Mu hH e ?_ (r.eraseIdx k) ?_,oG,q}
 ·show aT.toArray.eraseIdxIfInBounds k=(aT.eraseIdx k).toArray;rw[List.eraseIdxIfInBounds_toArray]
 ·have:=FG xs k;lia
inductive abR(x:V)(y:V)(H:Hp)(Q:VK):Prop
 |mk l b xs zs (_:x=.ref l) (_:y=.ref b) (_:H l=some (.lst xs)) (_:H b=some (.lst zs)) (_:xs.length+zs.length<=sizeLine) (_:∀p,H p=none->Q (.ref p) (upd H p (.lst (xs++zs))))
def Oy:jT X (binaryOp .Add) abR:=by
 intro pins s Z H x y v u Q I rx ry h;obtain⟨l,b,xs,zs,rfl,rfl,hH,hB,hz,q⟩:=h;cases rx;cases ry;obtain⟨z,aT,n,r,hl,e⟩:=I.Cn hH;obtain⟨z2,sP,n2,r2,jF,e2⟩:=I.Cn hB;refine PySem.P.add_list e e2 ?_ (by rw[aL,aL];lia);have ea:aT.toArray++sP.toArray=(aT++sP).toArray:=by simp
 rw[ea];exact{.ref _,_,I.ab0 (r.append r2) (by rw[aK];lia),rfl,q _ I.fresh}
end
section
variable{κ:Type}[DecidableEq κ]
def eX(kvs:List (κ×V))(k:κ):Option V:=(kvs.find? λkv=>decide (kv.1=k)).map (·.2)
def putK(kvs:List (κ×V))(k:κ)(v:V):List (κ×V):=
 if(kvs.any λkv=>decide (kv.1=k))=true then kvs.map (λkv=>if kv.1=k then(kv.1,v)else kv)else kvs++[(k,v)]
def hX{p:κ×V}{k:κ}(e:p.1=k):eX (p::r) k=some p.2:=by simp[eX,jW,e]
def gA{p:κ×V}{k:κ}(e:¬p.1=k):eX (p::r) k=eX r k:=by simp[eX,jW,e]
theorem oY(k:κ):∀kvs:List (κ×V),(kvs.any λkv=>decide (kv.1=k))=(eX kvs k).isSome
 |[]=>rfl
 |p::r=>by
  rw[oX];by_cases e:p.1=k
  ·simp only[hX e,aY e,Bool.true_or,Option.isSome_some]
  ·rw[gA e,bj e,Bool.false_or];exact oY k r
theorem GG(k j:κ)(y:V):∀kvs:List (κ×V),eX (kvs.map λkv=>if kv.1=k then(kv.1,y)else kv) j=(eX kvs j).map λx=>if j=k then y else x
 |[]=>rfl
 |p::r=>by
  have ih:=GG k j y r;rw[aQ];by_cases h:p.1=k
  ·rw[ay h];by_cases e:p.1=j
   ·rw[hX (p:=(p.1,y)) e,hX e,dM,ay (e.symm.trans h)]
   ·rw[gA (p:=(p.1,y)) e,gA e,ih]
  ·rw[aq h];by_cases e:p.1=j
   ·rw[hX (p:=p) e,hX e,dM,aq (λz=>h (e.trans z))]
   ·rw[gA (p:=p) e,gA e,ih]
theorem E7(k j:κ)(y:V):∀kvs:List (κ×V),eX kvs k=none->eX (kvs++[(k,y)]) j=if j=k then some y else eX kvs j
 |[],_=>by
  by_cases e:k=j
  ·rw[ay e.symm];exact hX (p:=(k,y)) e
  ·rw[aq (λz=>e z.symm)];exact gA (p:=(k,y)) e
 |p::r,hn=>by
  rw[ie];have hk:¬p.1=k:=λz=>by rw[hX z]at hn;cases hn
  rw[gA hk]at hn;have ih:=E7 k j y r hn;by_cases e:p.1=j
  ·rw[hX e,hX e,aq (λz=>hk (e.trans z))]
  ·rw[gA e,gA e,ih]
def QW(kvs:List (κ×V))(k j:κ)(y:V):eX (putK kvs k y) j=if j=k then some y else eX kvs j:=by
 unfold putK;by_cases a:(kvs.any λkv=>decide (kv.1=k))=true
 ·rw[ay a,GG];rw[oY]at a;by_cases e:j=k
  ·obtain⟨x,hx⟩:=jw.mp a;rw[ay e,e,hx,dM,ay rfl]
  ·rw[aq e];cases eX kvs j with
   |none=>rfl
   |some x=>rw[dM,aq e]
 ·rw[aq a];refine E7 k j y kvs ?_;rw[oY]at a;cases q:eX kvs k with
  |none=>rfl
  |some x=>rw[q]at a;exact(a rfl).elim
def wj(kvs:List (κ×V))(k:κ)(v:V):(putK kvs k v).length<=kvs.length+1:=by
 unfold putK;split
 ·rw[ag];lia
 ·rw[aK,aZ,cN];lia
def Ry{k:κ}(v:V)(h:eX kvs k=none):putK kvs k v=kvs++[(k,v)]:=by unfold putK;rw[oY,h];exact aq (by decide)
def kF.sd(r:kF o u):o.isSome=u.isSome:=by
 cases o with
 |none=>cases u with
  |none=>rfl
  |some _=>exact(show False from r).elim
 |some _=>cases u with
  |none=>exact(show False from r).elim
  |some _=>rfl
def kF.getD(r:kF o u)(rd:RelV d d'):RelV (o.getD d) (u.getD d'):=by
 cases o with
 |none=>cases u with
  |none=>exact rd
  |some _=>exact(show False from r).elim
 |some _=>cases u with
  |none=>exact(show False from r).elim
  |some _=>exact r
def KV.val(r:KV kvs vs)(k:κ):kF (eX kvs k) (valueAt vs k):=by
 unfold KV at r
 induction r with
 |nil=>exact True.intro
 |@cons p q ps qs h t ih=>
  obtain⟨h1,h2⟩:=h;by_cases e:p.1=k
  ·have e':q.1=k:=h1.symm.trans e;have b:valueAt (q::qs) k=some q.2:=by simp[valueAt,jW,e']
   rw[hX e,b];exact h2
  ·have e':¬q.1=k:=λz=>e (h1.trans z);have b:valueAt (q::qs) k=valueAt qs k:=by simp[valueAt,jW,e']
   rw[gA e,b];exact ih
def KV.any(r:KV kvs vs)(k:κ):(kvs.any λkv=>decide (kv.1=k))=vs.any λkv=>decide (kv.1=k):=by
 unfold KV at r
 induction r with
 |nil=>rfl
 |cons h t ih=>rw[oX,oX,ih,h.1]
def KV.Rt(r:KV kvs vs)(k:κ)(ry:RelV y u):
  KV (kvs.map λkv=>if kv.1=k then(kv.1,y)else kv) (vs.map λkv=>if kv.1=k then(kv.1,u)else kv):=by
 unfold KV at r⊢
 induction r with
 |nil=>exact .nil
 |@cons p q ps qs h t ih=>
  rw[aQ,aQ];refine .cons ?_ ih;obtain⟨h1,h2⟩:=h;by_cases e:p.1=k
  ·rw[ay e,ay (h1.symm.trans e)];exact⟨h1,ry⟩
  ·rw[aq e,aq (λz=>e (h1.trans z))];exact⟨h1,h2⟩
def KV.put(r:KV kvs vs)(k:κ)(ry:RelV y u):KV (putK kvs k y) (stored vs k u):=by
 unfold putK stored;rw[r.any k];by_cases e:(vs.any λkv=>decide (kv.1=k))=true
 ·rw[ay e,ay e];exact r.Rt k ry
 ·rw[aq e,aq e];exact wu r ⟨rfl,ry⟩
def KV.keys{kvs:List (κ×V)}(r:KV kvs vs):kvs.map (·.1)=vs.map (·.1):=by
 unfold KV at r
 induction r with
 |nil=>rfl
 |cons h t ih=>rw[aQ,aQ,ih,h.1]
def KV.length{kvs:List (κ×V)}(r:KV kvs vs):kvs.length=vs.length:=bh r
end
def vJ(r:RelV (kV k) u):(bG P w).is k u=true:=by
 cases k with
 |inl i=>obtain⟨t,e⟩:=(show∃t,u=Value.int i t from r);subst e;exact JE P w i t
 |inr x=>obtain⟨t,e⟩:=(show∃t,u=Value.str x t from r);subst e;exact BH P w x t
theorem FK:∀{ks:List Key}{us:List Value},Vals (ks.map kV) us->ItemsAre (bG P w) ks us
 |[],_,r=>by rw[gM]at r;cases r;exact .nil
 |k::ks,_,r=>by
  rw[aQ]at r;cases r with
  |cons h t=>exact .cons (vJ h) (FK t)
abbrev KT(H:Hp):List (List Key×V)->List (List Key×Addr×Value)->Prop:=Paired λp q=>p.1=q.1/\H q.2.1=some (.tup (p.1.map kV))/\RelV p.2 q.2.2
def KT.val(r:KT H kvs xs)(k:List Key):kF (eX kvs k) ((atKey xs k).map (·.2)):=by
 induction r with
 |nil=>exact True.intro
 |@cons p q ps qs h t ih=>
  obtain⟨h1,_,h2⟩:=h;by_cases e:p.1=k
  ·have e':q.1=k:=h1.symm.trans e;have b:atKey (q::qs) k=some q.2:=by simp[atKey,jW,e']
   rw[hX e,b];exact h2
  ·have e':¬q.1=k:=λz=>e (h1.trans z);have b:atKey (q::qs) k=atKey qs k:=by simp[atKey,jW,e']
   rw[gA e,b];exact ih
def KT.Rt(r:KT H kvs xs)(k:List Key)(ry:RelV y u):
  KT H (kvs.map λkv=>if kv.1=k then(kv.1,y)else kv) (xs.map (putAt k u)):=by
 induction r with
 |nil=>exact .nil
 |@cons p q ps qs h t ih=>
  rw[aQ,aQ];refine .cons ?_ ih;obtain⟨h1,h2,h3⟩:=h;unfold putAt;by_cases e:p.1=k
  ·rw[ay e,ay (h1.symm.trans e)];exact⟨h1,h2,ry⟩
  ·rw[aq e,aq (λz=>e (h1.trans z))];exact⟨h1,h2,h3⟩
def KT.put(r:KT H kvs xs)(k:List Key)(hb:H b=some (.tup (k.map kV)))(ry:RelV y u):
  KT H (putK kvs k y) (storedH xs k b u):=by
 have e:(kvs.any λkv=>decide (kv.1=k))=(atKey xs k).isSome:=by rw[oY,(r.val k).sd,iY]
 unfold putK storedH;rw[e];by_cases q:(atKey xs k).isSome=true
 ·rw[ay q,ay q];exact r.Rt k ry
 ·rw[aq q,aq q];exact wu r ⟨rfl,hb,ry⟩
def KT.keeps(r:KT H kvs xs)(ht:∀b ys,H b=some (.tup ys)->H' b=some (.tup ys)):KT H' kvs xs:=
 Paired.sN r λ_ _ z=>{z.1,ht _ _ z.2.1,z.2.2}
section
variable{P:Program}{w:World}{H:Hp}{h:Heap}{a:Addr}
def Ud(ok:jo P w H h)(e:Rd H a u):du P w H h a u:=e.ok ok
def Bf(ok:jo P w H h)(e:Rd H a (.dK kvs)):kvs.length<=sizeLine/\(a==sysModules)=false/\∃vs,KV kvs vs/\h.DictOf (bG P w) a vs:=
 show du P w H h a (.dK kvs)from Ud ok e
def Bg(ok:jo P w H h)(e:H a=some (.dK kvs)):kvs.length<=sizeLine/\(a==sysModules)=false/\∃vs,KV kvs vs/\h.DictOf (bG P w) a vs:=Bf ok (.inl e)
def Aa(ok:jo P w H h)(e:H a=some (.tup (ks.map kV))):(tupleKind (bG P w)).is h ks a:=by obtain⟨_,aT,r,⟨o,h1,h2,n,h3⟩,_⟩:=(show du P w H h a (.tup (ks.map kV))from ok a _ e);exact{o,aT.toArray,n,h1,h2,h3,by simpa using FK r}
def Be(ok:jo P w H h)(e:Rd H a (.dT kvs)):kvs.length<=sizeLine/\(a==sysModules)=false/\
  ∃xs,KT H kvs xs/\h.DictOfH (tupleKind (bG P w)) a xs:=by
 obtain⟨z,y,xs,r,o,es,ep,h1,h2,h3,h4,h5⟩:=(show du P w H h a (.dT kvs)from Ud ok e);refine{z,y,xs,r,o,es,ep,h1,h2,h3,h4,λx hx=>?_,h5};have all:∀{l:List (List Key×V)}{m:List (List Key×Addr×Value)},KT H l m->∀x∈m,(tupleKind (bG P w)).is h x.1 x.2.1:=by
  intro l m q
  induction q with
  |nil=>intro x hx;exact nomatch hx
  |@cons p q ps qs hq t ih=>
   intro x hx;rcases aE.mp hx with e|hx
   ·subst e;exact Aa ok (by rw[<-hq.1];exact hq.2.1)
   ·exact ih x hx
 exact all r x hx
def abu(ok:jo P w H h)(e:H a=some (.dT kvs)):kvs.length<=sizeLine/\(a==sysModules)=false/\
  ∃xs,KT H kvs xs/\h.DictOfH (tupleKind (bG P w)) a xs:=Be ok (.inl e)
end
def oA(H:Hp)(a:Addr)(y:V)(r:Option V):Prop:=
 (∃kvs k,Rd H a (.dK kvs)/\y=kV k/\r=eX kvs k)\/∃kvs k b,Rd H a (.dT kvs)/\y=.ref b/\H b=some (.tup (k.map kV))/\r=eX kvs k
def E4(H:Hp)(a:Addr)(y v:V)(H':Hp):Prop:=
 (∃kvs k,H a=some (.dK kvs)/\y=kV k/\kvs.length<sizeLine/\H'=upd H a (.dK (putK kvs k v)))\/
 ∃kvs k b,H a=some (.dT kvs)/\y=.ref b/\H b=some (.tup (k.map kV))/\kvs.length<sizeLine/\H'=upd H a (.dT (putK kvs k v))
theorem oA.k{H:Hp}{a:Addr}{kvs:List (Key×V)}{k:Key}(e:H a=some (.dK kvs)):oA H a (kV k) (eX kvs k):=.inl {kvs,k,.inl e,rfl,rfl}
theorem E4.k{H:Hp}{a:Addr}{kvs:List (Key×V)}{k:Key}{v:V}(e:H a=some (.dK kvs))(hl:kvs.length<sizeLine):E4 H a (kV k) v (upd H a (.dK (putK kvs k v))):=.inl ⟨kvs,k,e,rfl,hl,rfl⟩
section
variable{X:Cx}{pins:List (Addr×Obj)}{Z:St}{H:Hp}{s:Shared}{a:Addr}{y v:V}{u r:Value}{o:Option V}{A:Around}{E:Value->Shared->Prop}
def Inv.big(I:Inv X pins Z H s):sysModules<s.heap.objs.size:=by have h:mainGlobals<s.heap.objs.size:=(I.mod.glob.keeps I.bk).lt;exact jy (by decide) h
def Qx(hu:A.units+1<cLine)(I:Inv X pins Z H s)(g:oA H a y (some v))(ry:RelV y u)(h:∀w' s',Inv X pins Z H s'->RelV v w'->Q w' s'):
  wpAny (model X.prog X.w) A (getItem (.ref a) u) Q E s:=by
 rcases g with⟨kvs,k,e,ey,l⟩|⟨kvs,k,b,e,ey,eb,l⟩
 ·subst ey;obtain⟨z,hd,vs,rel,dd⟩:=Bf I.br e;obtain⟨w',hw,oG⟩:=kF.some_of (v:=v) (o:=valueAt vs k) (by rw[l];exact rel.val k);exact wpAny_getItem_of (vJ ry) dd.mapOf hw (h w' _ (I.tok _) oG)
 ·subst ey;cases(show u=Value.ref b from ry);obtain⟨z,hd,xs,rel,dd⟩:=Be I.br e;obtain⟨w',hw,oG⟩:=kF.some_of (v:=v) (o:=(atKey xs k).map (·.2)) (by rw[l];exact rel.val k);obtain⟨p,hp,tG⟩:=a9.mp hw;refine ze (mK hu) (Aa I.br eb) dd hp ?_;rw[tG];exact h w' _ (I.tok _) oG
def ac7(hu:A.units+1<cLine)(I:Inv X pins Z H s)(g:oA H a y o)(ry:RelV y u)(h:∀s',Inv X pins Z H s'->Q (.bool o.isSome) s'):
  wpAny (model X.prog X.w) A (compareOp .In u (.ref a)) Q E s:=by
 rcases g with⟨kvs,k,e,ey,l⟩|⟨kvs,k,b,e,ey,eb,l⟩
 ·subst ey;obtain⟨z,hd,vs,rel,dd⟩:=Bf I.br e;refine wpAny_in_of (vJ ry) hd dd.mapOf ?_;rw[<-(rel.val k).sd,<-l];exact h _ (I.tok _)
 ·subst ey;cases(show u=Value.ref b from ry);obtain⟨z,hd,xs,rel,dd⟩:=Be I.br e;refine wpAny_in_heap (mK hu) (Aa I.br eb) hd dd ?_;have q:=(rel.val k).sd;rw[iY]at q;rw[<-q,<-l];exact h _ (I.tok _)
def rp(I:Inv X pins Z H s)(mu:QO (H a))(hs:Heap.SameBut a s.heap h')(he:∃q,h'.get? a=some q)(new:du X.prog X.w (upd H a ob) h' a ob):
  Inv X pins Z (upd H a ob) {s with heap:=h',toks:=t'}:=
 I.write (x:=a) (e:=a) mu (.inl rfl) (λb q hb z=>(hs.2 b hb).trans z) he new
def D1(z:kvs.length<=sizeLine)(hd:(a==sysModules)=false)(rel:KV kvs vs)(dd:h'.DictOf (bG P w) a vs):
  du P w H' h' a (.dK kvs):=⟨z,hd,vs,rel,dd⟩
def Qr(hu:A.units+1<cLine)(I:Inv X pins Z H s)(g:E4 H a y v H')(ry:RelV y u)(rv:RelV v r)(h:∀s',Inv X pins Z H' s'->Q () s'):
  wpAny (model X.prog X.w) A (setItem (.ref a) u r) Q E s:=by
 rcases g with⟨kvs,k,e,ey,l,eH⟩|⟨kvs,k,b,e,ey,eb,l,eH⟩
 ·subst ey eH;obtain⟨z,hd,vs,rel,dd⟩:=Bg I.br e;have hz:vs.length<=sizeLine:=by rw[<-rel.length];exact z
  have hl:(putK kvs k v).length<=sizeLine:=by have:=wj kvs k v;lia
  refine wpAny_setItem_pairs (hsz:=hz) (vJ ry) dd λh' tK hs=>h _ ?_;have he:∃q,h'.get? a=some q:=let⟨q,_,_,hq,_⟩:=tK;⟨q,hq⟩
  exact rp I (by rw[e];exact True.intro) hs he (D1 hl hd (rel.put k rv) tK)
 ·subst ey eH;cases(show u=Value.ref b from ry);obtain⟨z,hd,xs,rel,dd⟩:=abu I.br e;have hz:xs.length<=sizeLine:=by rw[<-bh rel];exact z
  have hl:(putK kvs k v).length<=sizeLine:=by have:=wj kvs k v;lia
  refine zd (hsz:=hz) (mK hu) (Aa I.br eb) dd λh' tK hs=>h _ ?_;obtain⟨q,es,ep,hq,h2,h3,h4,_,h5⟩:=tK;refine rp I (by rw[e];exact True.intro) hs ⟨q,hq⟩ {hl,hd,_,(rel.put k eb rv).keeps λc ys ec=>?_,q,es,ep,hq,h2,h3,h4,h5};rw[ax (rM ec e (λz=>nomatch z))];exact ec
def Nm(i:Expr):Prop:=∀ov iv,subscripted i false ov iv=operate [ov,iv] (getItem ov iv)
end
def Kk{T id:String}
  (hl:typeLookup (.type T) "__getitem__"=pure (some (.builtin id))) (hs:Nm slice)
  (h:wpAny (model prog w) A (eval value env) (λo aaa=>wpAny (model prog w) A (eval slice env) (λi aae=>aae.TypeIs o T/\wpAny (model prog w) A (getItem o i) Q E aae) E aaa) E s):
  wpAny (model prog w) A (eval (.Subscript value slice pos) env) Q E s:=by
 refine Ed (cR h (λo aaa aca=>cR aca (λi aae aag=>?_) λ_ _ x=>x) λ_ _ x=>x);obtain⟨hT,aag⟩:=aag;unfold subscriptTail;refine ae ?_;rw[getitemInPython_of_ne hT.not_modules];refine ae (gz hT hl ?_);have fin:wpAny (model prog w) A (subscripted slice false o i) (λr aah=>wpAny (model prog w) A (letTemporaryGo value o r>>=λ_=>pure r) Q E aah) E aae:=by rw[hs o i];exact wpAny_operating (cR aag (λr aah ab9=>ae (wpAny_letTemporaryGo (af ab9))) λ_ _ x=>x)
 first
  |exact af (ae fin)
  |exact ae (af (ae fin))
  |exact ae fin
def JK(I:Inv X pins Z H s)(g:oA H a y o):s.TypeIs (.ref a) "dict":=by
 rcases g with⟨kvs,k,e,_,_⟩|⟨kvs,k,b,e,_,_,_⟩
 ·obtain⟨_,_,vs,_,dd⟩:=Bf I.br e;exact dd.typeIs
 ·obtain⟨_,_,xs,_,dd⟩:=Be I.br e;exact dd.typeIs
inductive Xz(Q:VK)(x:V)(y:V)(H2:Hp):Prop
 |mk a v (_:x=.ref a) (_:oA H2 a y (some v)) (_:Q v H2)
def aaQ(td ty:TE):TE:=λZ H Q=>td Z H λx H1=>ty Z H1 λy H2=>Xz Q x y H2
inductive aaP(Q:VK)(y:V)(x:V)(H2:Hp):Prop
 |mk a o (_:x=.ref a) (_:oA H2 a y o) (_:Q (.bl o.isSome) H2)
def abJ(ty td:TE):TE:=λZ H Q=>ty Z H λy H1=>td Z H1 λx H2=>aaP Q y x H2
inductive XO(D:Ends)(Z:St)(v:V)(x:V)(y:V)(H3:Hp):Prop
 |mk a H4 (_:x=.ref a) (_:E4 H3 a y v H4) (_:D.nx Z H4)
def aaV(td ty tv:TE):TS:=λD Z H=>tv Z H λv H1=>td Z H1 λx H2=>ty Z H2 λy H3=>XO D Z v x y H3
section
variable{X:Cx}{o i value:Expr}{pos pos':Pos}{td ty tv:TE}
def KP(hu:X.A.units+1<cLine)(ho:PE X o td)(hi:PE X i ty)(hs:Nm i):PE X (.Subscript o i pos) (aaQ td ty):=by intro pins s Z H Q I h;refine Kk PySem.F.slot_dict_getitem.lookup hs (cU (ho pins s Z H _ I h) λu s1 x H1 I1 rx q1=>cU (hi pins s1 Z H1 _ I1 q1) λiv s2 y H2 I2 ry acx=>?_);obtain⟨a,v,ex,g,q2⟩:=acx;subst ex;obtain rfl:u=Value.ref a:=rx;exact{JK I2 g,Qx hu I2 g ry λw' s3 I3 oG=>⟨v,H2,I3,oG,q2⟩}
def HC(hu:X.A.units+1<cLine)(hi:PE X i ty)(ho:PE X o td):PC X .In i o (abJ ty td):=by intro pins s Z H Q I h;refine cU (hi pins s Z H _ I h) λiv s1 y H1 I1 ry q1=>cU (ho pins s1 Z H1 _ I1 q1) λu s2 x H2 I2 rx acw=>?_;obtain⟨a,ov,ex,g,q2⟩:=acw;subst ex;obtain rfl:u=Value.ref a:=rx;exact ac7 hu I2 g ry λs3 I3=>{.bl ov.isSome,H2,I3,rfl,q2}
def Ew(hu:X.A.units+1<cLine)(ho:PE X o td)(hi:PE X i ty)(hv:PE X value tv)(hs:swapsWith value (some (.Subscript o i pos')) pos.line X.env=pure false):
  PS X (.Assign [.Subscript o i pos'] value pos) (aaV td ty tv):=by
 intro pins s Z H D I h;refine v7 (cU (hv pins s Z H _ I h) λr s1 v H1 I1 rv q1=>cU (ho pins s1 Z H1 _ I1 q1) λu s2 x H2 I2 rx q2=>cU (hi pins s2 Z H2 _ I2 q2) λiv s3 y H3 I3 ry acv=>?_) hs;obtain⟨a,H4,ex,g,q3⟩:=acv;subst ex;obtain rfl:u=Value.ref a:=rx;exact Qr hu I3 g ry rv λs4 I4=>⟨Z,H4,I4,q3⟩
def CD(h:Heap)(hb:sysModules<h.objs.size):du P w H (h.push {cls:=.type "dict",data:=.dict #[]}) h.objs.size (.dK []):=
 {aR _,fS.mpr (bX (aI hb)),[],.nil,Heap.DictOf.new h}
def Xy:TE:=λ_ H Q=>∀p,H p=none->Q (.ref p) (upd H p (.dK []))
def qY:PE X (.Dict [] [] pos) Xy:=λpins s Z H Q I h=>
 wpAny_Dict_empty {.ref s.heap.objs.size,_,I.laid (a:=s.heap.objs.size) (o:=.dK []) (t':=s.toks) (λ_ _ q=>ah _ q) (ak _) (CD s.heap I.big),rfl,h _ (I.br.fresh (ak _))}
end
def C5:List (TE×TE)->St->Hp->(List (V×V)->Hp->Prop)->Prop
 |[],_,H,Q=>Q [] H
 |(tk,tv)::r,Z,H,Q=>tk Z H λx H1=>tv Z H1 λy H2=>C5 r Z H2 λps H3=>Q ((x,y)::ps) H3
abbrev VV:List (V×V)->List (Value×Value)->Prop:=Paired λp q=>RelV p.1 q.1/\RelV p.2 q.2
def AK(X:Cx)(pos:Pos)(keys:List (Option Expr))(values:List Expr)(zi:List (TE×TE)):Prop:=
 ∀(pins:List (Addr×Obj))(s:Shared)(Z:St)(H:Hp)(Q:List (V×V)->Hp->Prop),Inv X pins Z H s->C5 zi Z H Q->
  wpAny (model X.prog X.w) X.A (evalPairs (pairTrees keys values X.env pos)) (λvs s'=>∃ps H',Inv X pins Z H' s'/\VV ps vs/\Q ps H') X.xe s
def KH:AK X pos [] [] []:=λpins s Z H Q I h=>pairTrees_nil_walk {[],H,I,.nil,h}
def qW(hk:PE X k tk)(hv:PE X v tv)(hr:AK X pos ks vs zi):
  AK X pos (some k::ks) (v::vs) ((tk,tv)::zi):=λpins s Z H Q I h=>
 pairTrees_cons_walk (cU (hk pins s Z H _ I h) λu s1 x H1 I1 rx q1=>cU (hv pins s1 Z H1 _ I1 q1) λw2 s2 y H2 I2 ry q2=>
  gR (hr pins s2 Z H2 _ I2 q2) λws s3 ⟨ps,H3,I3,rel,q3⟩=>{(x,y)::ps,H3,I3,.cons ⟨rx,ry⟩ rel,q3})
def fV(kvs more:List (Key×V)):List (Key×V):=more.foldl (λacc kv=>putK acc kv.1 kv.2) kvs
def KV.merge:∀{more:List (Key×V)}{rs:List (Key×Value)}{kvs:List (Key×V)}{vs:List (Key×Value)},KV more rs->KV kvs vs->KV (fV kvs more) (merged vs rs):=by
 intro more rs kvs vs r;unfold KV at r
 induction r generalizing kvs vs with
 |nil=>intro q;exact q
 |@cons p q ps qs h t ih=>
  intro r0;have e:KV (putK kvs p.1 p.2) (stored vs q.1 q.2):=by have:=r0.put p.1 h.2;rw[<-h.1];exact this
  exact ih e
theorem jK:∀(more kvs:List (Key×V)),(fV kvs more).length<=kvs.length+more.length
 |[],kvs=>by show kvs.length<=kvs.length+0;lia
 |p::r,kvs=>by have h1:=jK r (putK kvs p.1 p.2);have h2:=wj kvs p.1 p.2;show(fV (putK kvs p.1 p.2) r).length<=_;rw[aZ];lia
theorem D8:∀{kvs:List (Key×V)}{ws:List (Value×Value)},VV (kvs.map λkv=>(kV kv.1,kv.2)) ws->∃rs,Carries (bG P w) ws rs/\KV kvs rs
 |[],_,r=>by rw[gM]at r;cases r;exact{[],True.intro,.nil}
 |p::kvs,_,r=>by
  rw[aQ]at r;cases r with
  |@cons a b as bs h t=>
   obtain⟨rs,c,q⟩:=D8 (P:=P) (w:=w) t;obtain⟨b1,b2⟩:=b;exact{(p.1,b2)::rs,{vJ h.1,rfl,c},.cons {rfl,h.2} q}
def TJ(zi:List (TE×TE)):TE:=λZ H Q=>∀p,H p=none->C5 zi Z (upd H p (.dK [])) λps H2=>H2 p=some (.dK [])/\∃kvs:List (Key×V),ps=kvs.map (λkv=>(kV kv.1,kv.2))/\kvs.length<=15/\Q (.ref p) (upd H2 p (.dK (fV [] kvs)))
def Wb(h:AK X pos keys values zi)(o7:keys.all (·.isSome)=true)(hl:keys.length=values.length)(h0:keys≠[])
  (h15:keys.length<=15):PE X (.Dict keys values pos) (TJ zi):=by
 intro pins s Z H Q I q;have hn:=I.br.fresh (ak s.heap.objs.size);have I1:=I.laid (a:=s.heap.objs.size) (o:=.dK []) (h':=s.heap.push {cls:=.type "dict",data:=.dict #[]}) (t':=s.toks) (λ_ _ q=>ah _ q) (ak _) (CD s.heap I.big);refine wpAny_Dict_walk (knd:=bG X.prog X.w) o7 hl h0 h15 (gR (h pins _ Z _ _ I1 (q _ hn)) λws s2 acu=>?_);obtain⟨ps,H2,I2,rel,e,kvs,ep,lk,q2⟩:=acu;subst ep;obtain⟨rs,c,rk⟩:=D8 (P:=X.prog) (w:=X.w) rel;obtain⟨z,hd,vs0,r0,dd⟩:=Bg I2.br e;cases r0;refine{rs,c,dd,λh' tK hs=>{.ref s.heap.objs.size,_,?_,rfl,q2}};have hz:(fV [] kvs).length<=sizeLine:=by have h1:=jK kvs [];rw[cN]at h1;rw[bP];lia
 have he:∃q,h'.get? s.heap.objs.size=some q:=let⟨q,_,_,hq,_⟩:=tK;⟨q,hq⟩
 exact rp I2 (by rw[e];exact True.intro) hs he (D1 hz hd (rk.merge .nil) tK)
structure M1(X:Cx)(o:Expr)(m:Str)(apos:Pos)(e:Expr)(d0:Pos):Prop where
 base:attributeBase o m X.env (eval o X.env)=eval o X.env
 fL:((backTo d0 (starEach [e] X.env)).all (λx=>!x.1)&&(backToKw d0 (keywordEach [] X.env)).all (λx=>x.1.isSome)
  &&decide (([e]:List Expr).length+([]:List Keyword).length+(if([]:List Keyword).isEmpty then 0 else 1)<30))=true
 line:(apos.endLine==d0.line)=true
 trees:backTo d0 (starEach [e] X.env)=[(false,eval e X.env)]
structure M2(X:Cx)(o:Expr)(m:Str)(apos:Pos)(e f:Expr)(d0:Pos):Prop where
 base:attributeBase o m X.env (eval o X.env)=eval o X.env
 fL:((backTo d0 (starEach [e,f] X.env)).all (λx=>!x.1)&&(backToKw d0 (keywordEach [] X.env)).all (λx=>x.1.isSome)
  &&decide (([e,f]:List Expr).length+([]:List Keyword).length+(if([]:List Keyword).isEmpty then 0 else 1)<30))=true
 line:(apos.endLine==d0.line)=true
 trees:backTo d0 (starEach [e,f] X.env)=[(false,eval e X.env),(false,eval f X.env)]
def IsD(H:Hp)(a:Addr):Prop:=(∃kvs,Rd H a (.dK kvs))\/∃kvs,Rd H a (.dT kvs)
def YS(I:Inv X pins Z H s)(d:IsD H a):
  s.TypeIs (.ref a) "dict"/\(∀b,Value.ref a=.ref b->∃ob,s.heap.get? b=some ob/\ob.dict=none)/\(a==sysModules)=false:=by
 rcases d with⟨kvs,e⟩|⟨kvs,e⟩
 ·obtain⟨_,hd,vs,_,dd⟩:=Bf I.br e;refine{dd.typeIs,λb q=>?_,hd};cases q;obtain⟨ob,_,_,h1,h2,_⟩:=dd;exact{ob,h1,h2.2.1}
 ·obtain⟨_,hd,xs,_,dd⟩:=Be I.br e;refine{dd.typeIs,λb q=>?_,hd};cases q;obtain⟨ob,_,_,h1,h2,_⟩:=dd;exact{ob,h1,h2.2.1}
section
variable{X:Cx}{pins:List (Addr×Obj)}{Z:St}{H:Hp}{s:Shared}{a:Addr}{y d:V}{u r:Value}{o:Option V}{A:Around}{E:Value->Shared->Prop}
def aaq(hu:A.units+1<cLine)(I:Inv X pins Z H s)(g:oA H a y o)(ry:RelV y u)(rd:RelV d r)(h:∀w' s',Inv X pins Z H s'->RelV (o.getD d) w'->Q w' s'):
  wpAny (model X.prog X.w) A (call (.builtin "dict.get") [.ref a,u,r]) Q E s:=by
 rcases g with⟨kvs,k,e,ey,l⟩|⟨kvs,k,b,e,ey,eb,l⟩
 ·subst ey;obtain⟨z,hd,vs,rel,dd⟩:=Bf I.br e;refine qy iJ dd.typeIs oN (og _ _ _) (meets_dict_get_default (bG X.prog X.w) a (vJ ry) hd r) {_,dd.mapOf,h _ _ (I.tok _) ?_};rw[l];exact(rel.val k).getD rd
 ·subst ey;cases(show u=Value.ref b from ry);obtain⟨z,hd,xs,rel,dd⟩:=Be I.br e;refine qy iJ dd.typeIs oN (og _ _ _) (vm (tupleKind (bG X.prog X.w)) a b hd r) {mK hu,k,xs,Aa I.br eb,dd,h _ _ (I.tok _) ?_};rw[l];exact(rel.val k).getD rd
end
inductive VL(ty:TE)(tx:TE)(Z:St)(Q:VK)(x:V)(H1:Hp):Prop
 |mk a (_:x=.ref a) (_:IsD H1 a) (_:ty Z H1 λy H2=>tx Z H2 λz H3=>∃o,oA H3 a y o/\Q (o.getD z) H3)
def NG(td ty tx:TE):TE:=λZ H Q=>td Z H λx H1=>VL ty tx Z Q x H1
section
variable{X:Cx}{o e f:Expr}{apos d0:Pos}{td ty tx:TE}
def Hy(hu:X.A.units+1<cLine)(ho:PE X o td)(he:PE X e ty)(hf:PE X f tx)(m:M2 X o "get" apos e f d0):PE X (.Call (.Attribute o "get" apos) [e,f] [] d0) (NG td ty tx):=by intro pins s Z H Q I h;refine tm m.base m.fL m.line g9 iJ xp (cU (ho pins s Z H _ I h) λu s1 x H1 I1 rx acs=>?_);obtain⟨a,ex,d,q1⟩:=acs;subst ex;obtain rfl:u=Value.ref a:=rx;obtain⟨t1,t2,_⟩:=YS I1 d;refine{t1,t2,?_};rw[m.trees];refine iq rfl (lC (fC (cU (he pins s1 Z H1 _ I1 q1) λiv s2 y H2 I2 ry q2=>fC (cU (hf pins s2 Z H2 _ I2 q2) λfv s3 z H3 I3 rz ⟨ov,g,q3⟩=>km ?_))));exact aaq hu I3 g ry rz λw' s4 I4 oG=>⟨_,H3,I4,oG,q3⟩
end
end L2
namespace Att
open PySem PySem.W PySem.Calls PyProof.Rows
def DH:∀(ns:List Int)(vs:List Value),WellAll P h vs (ns.map WData.int)->IntsAre vs ns:=by
 intro ns
 induction ns with
 |nil=>
  intro vs w;rw[gM]at w;cases w;exact .nil
 |cons n ns ih=>
  intro vs w;rw[aQ]at w;cases w with
  |cons a b=>
   cases a;exact .cons _ _ (ih _ b)
def N0{l:OpenLaw}(hn:l.most=some n)
  (MF:l.row.toRowW.claim.pre args=true) (Y6:WellAll P h vals args):
  ∃a vs ns,vals=[Value.ref a]/\args=[WData.list (ns.map WData.int)]/\h.get? a=some {cls:=.type "list",data:=.seq vs.toArray}/\IntsAre vs ns/\ns.length<=n:=by
 have hsh:WShape.hasAll [] args [.list .int]=true:=(pre_splitW MF).1;have hc:l.pre.holds [] {args:=args}=true:=(pre_splitW MF).2;obtain⟨d,r,rfl,h1,h2⟩:=hasAllW_cons hsh;obtain rfl:=hasAllW_nil h2;obtain⟨xs,rfl,h3⟩:=hasW_list h1;obtain⟨ns,rfl⟩:=items_int h3;have hlen:ns.length<=n:=by
  unfold OpenLaw.pre at hc;have h4:(WTm.not (.lt (.lit (.int (n:Int))) (.len (.arg 0)))).holds [] {args:=[.list (ns.map .int)]}=true:=by have h4:=(holds_andW hc).1;rw[hn]at h4;exact h4
  have h5:=condW_of h4 (w_not (w_lt w_lit (w_len_list (w_arg rfl))));rw[ag]at h5;refine jz λq=>?_;have q':(n:Int)<((ns.length:Nat):Int):=by lia
  first
   |(rw[aY q']at h5;exact absurd h5 (by decide))
   |(simp at h5;lia)
 cases Y6 with
 |cons w1 w2=>
  cases w2;cases w1 with
  |list ho o7=>exact{_,_,ns,rfl,rfl,ho,DH ns _ o7,hlen}
def Oh(l:OpenLaw)(args:List WData):l.row.toRowW.claim.post args (.bool true) args=true:=
 postW_of (r:=l.row.toRowW) (X:=(true==true))
  (show WShape.has [] (.bool true) .bool=true by first|rfl|decide|simp[WShape.has,WShape.arms,WShape.armsAll])
  (show(WTm.eq .res (.lit (.bool true))).value [] {args:=args,res:=some (.bool true),after:=args}=some (.bool (true==true))from w_eq_bool (w_res rfl) w_lit) rfl
def JO{l:OpenLaw}
  (hn:l.most=some n) (P1:d.params.defaults=[])
  (call:∀(w:World)(aab aaa:Shared)(mg mb:Str->Option Value)(fa:Addr)(o:Obj)(pm cd doc:Value)(a:Addr)(vs:List Value)(ns:List Int),
   Ground q loose [] XP w aab mg mb aaa.heap->YP w aaa.heap->
   aaa.heap.get? fa=some o->o.data=.func (docDef d.name d.params d.body d.scope pm cd doc)->aaa.heap.CodeRec cd d.name->mg d.name=some (.ref fa)->
   aaa.heap.get? a=some {cls:=.type "list",data:=.seq vs.toArray}->IntsAre vs ns->ns.length<=n->aaa.gens=#[]->
   codeAny (model l.prog w) callerA (.call (.ref fa) {[.ref a],[]}) (λr s'=>r=.ok (.ret (.bool true))/\OldK aaa.heap s'.heap/\s'.os=aaa.os/\AllBare s'.gens) aaa):
  WalkO q loose XP YP l.row.toRowW d [] (λf vs=>PySem.call f vs):=by
 intro w aab aaa mg mb G Y fa o pm cd doc dV kV ho hd Am hD PL hg args vals as MF ady hrd Y6 hlo;obtain rfl:dV=.none:=Dflts.none hD P1;obtain rfl:kV=.none:=Dflts.noKw hD;obtain⟨a,vs,ns,rfl,rfl,Sr,hints,hlen⟩:=N0 hn MF Y6;refine enter_call (kE (call w aab aaa mg mb fa o pm cd doc a vs ns G Y ho (fd_plain hd) Am PL Sr hints hlen hg) λr s' hq=>?_);obtain⟨rfl,h2,h3,h4⟩:=hq;exact{.inl {.bool true,.bool true,[],rfl,λ_=>rfl,.bool true,Oh l _,λ_=>{List.Pairwise.nil,λ_ hm=>(nomatch hm)}},h2,h3,h4}
section
def ledger(h:Heap)(L d:Addr):List (Addr×Obj):=(List.range h.objs.size).filterMap λa=>if a=L\/a=d then none else(h.get? a).map λo=>(a,o)
end
end Att
namespace L2
open PySem PySem.Spec PyProof.Rows
theorem E6:∀{vs:List Value}{ns:List Int},IntsAre vs ns->Vals (ns.map V.int) vs
 |_,_,.nil=>.nil
 |_,_,.cons n t h=>.cons ⟨t,rfl⟩ (E6 h)
def Nl(H:Hp):Prop:=∀b,H b=none\/∃o xs,H b=some (.eO o (.lst xs))
def R5{K:Frag}
  (KX:K.In aaa.heap) (hns:aaa.heap.Ns mainGlobals mg) (hb:aaa.heap.Ns builtinsNs mb) (hbb:∀x:Str,x≠"__name__"->mb x=bootBuiltins x) (acS:aaa.heap.NoLimit) (hg:aaa.gens=#[])
  (ha:aaa.heap.get? a=some {cls:=.type "list",data:=.seq vs.toArray}) (hi:IntsAre vs ns) (hl:ns.length<=sizeLine) (hr:gJ k callerA)
  (F:∀base:Heap,K.In base->base.Ns mainGlobals mg->c6 P w K mg base CX k fa fd [x] sp) (abl:∀(s:Shared)(u:Value),BindsTo s fd {[u],[]} [(x,u)])
  (FQ:∀H:Hp,Nl H->bw K H a (ns.map V.int)->sp [.ref a] H (λv _=>v=.bl true) λ_ _ _=>False)
  (hCX:∀H e s',CX [] H aaa (λ_ _ _=>False) e s'->False):
  codeAny (model P w) callerA (.call (.ref fa) {[.ref a],[]}) (λr s'=>r=.ok (.ret (.bool true))/\OldK aaa.heap s'.heap/\s'.os=aaa.os/\AllBare s'.gens) aaa:=by
 have rv:=E6 hi;have ab1:=hi.length;have core:∀H:Hp,Nl H->bw K H a (ns.map V.int)->jo P w H aaa.heap->(∀b,H b≠none->b=a)->(H a≠none->K.lookup a=none)->
   codeAny (model P w) callerA (.call (.ref fa) {[.ref a],[]}) (λr s'=>r=.ok (.ret (.bool true))/\OldK aaa.heap s'.heap/\s'.os=aaa.os/\AllBare s'.gens) aaa:=by
  intro H hO hS br hA hK;have LK:∀{b:Addr}{o:Obj},aaa.heap.get? b=some o->H b=none->(xY aaa.heap H).get? b=some o:=λe n=>Sy e n;have ON:∀{b:Addr}{o:Obj}{es:Array DictEntry}{ep:Nat},aaa.heap.get? b=some o->o.data=.dict es ep->H b=none:=λ{b o es ep} e d=>by
   cases q:H b with
   |none=>rfl
   |some u=>
    have e':b=a:=hA b (by rw[q];simp);subst e';rw[ha]at e;cases e;have d':Data.seq vs.toArray _=Data.dict es ep:=d;cases d'
  have Um:∀{b:Addr}{m:Str->Option Value},aaa.heap.Ns b m->(xY aaa.heap H).Ns b m:=λ{b m} ⟨o,es,ep,e,d,r⟩=>{o,es,ep,LK e (ON e d),d,r};have hKb:K.In (xY aaa.heap H):=λb o e=>LK (KX b o e) (by
   cases q:H b with
   |none=>rfl
   |some u=>
    have e':b=a:=hA b (by rw[q];simp);subst e';rw[hK (by rw[q];simp)]at e;cases e)
  have hM:Mod K mg (xY aaa.heap H):={hKb,Um hns,{mb,Um hb,hbb},let⟨mc,h1,h2⟩:=acS;{mc,Um h1,h2}};have e0:CY P w K mg (xY aaa.heap H) callerA [] aaa H:={rfl,hM,λb o e=>Wk e,AO (PZ _ _),trivial,λb hb=>absurd (show b∈([]:List Addr)from hb) (by simp),br,.of_eq hg};refine kE ((F _ hKb (Um hns)).run callerA [] aaa H {[.ref a],[]} [.ref a] [.ref a] _ _ hr e0 (abl aaa (.ref a)) (.cons rfl .nil) (FQ H hO hS)) λr s' h=>?_;cases r with
  |error e=>exact(hCX H e s' h).elim
  |ok fl=>
   cases fl with
   |next=>exact False.elim h
   |brk=>exact False.elim h
   |cont=>exact False.elim h
   |ret u=>
    obtain⟨v,H',os,bare,un,acN,r',q⟩:=h;have q':v=.bl true:=q;subst q';obtain rfl:u=Value.bool true:=r';refine{rfl,OldK.of_keep λb o e=>?_,os,bare};cases q:H b with
    |none=>exact un.keep b o e q (by intro z;exact absurd (show b∈([]:List Addr)from z) (by simp)) (by simp)
    |some u=>
     rcases hO b with z|⟨ob,xs,z⟩
     ·rw[q]at z;cases z
     ·have z2:=un.sR b ob _ z;obtain⟨e1,_⟩:=br b _ z;obtain⟨e2,_⟩:=acN b _ z2;rw[e]at e1;cases e1;exact e2
 cases hk:K.lookup a with
 |some o=>
  have e:=KX a o hk;rw[ha]at e;cases e;refine core (λ_=>none) (λ_=>.inl rfl) (.inr {_,vs.toArray,_,hk,rfl,rfl,rfl,by rw[aL,ab1];exact hl,by simpa using rv}) (λb u z=>by have z':(none:Option HO)=some u:=z;cases z') (λb z=>absurd rfl z) λz=>absurd rfl z
 |none=>
  refine core (λb=>if b=a then some (.eO {cls:=.type "list",data:=.seq vs.toArray} (.lst (ns.map V.int)))else none) (λb=>?_) (.inl (.inr ⟨{cls:=.type "list",data:=.seq vs.toArray},ay rfl⟩)) (λb u z=>?_) (λb z=>?_) λ_=>hk
  ·by_cases hb:b=a
   ·exact .inr {_,_,ay hb}
   ·exact .inl (aq hb)
  ·by_cases hb:b=a
   ·have z':=(ay hb).symm.trans z;cases z';subst hb;exact{ha,by rw[ag];exact hl,vs,_,rv,ha}
   ·have z':=(aq hb).symm.trans z;cases z'
  ·by_cases hb:b=a
   ·exact hb
   ·exact absurd (aq hb) z
abbrev KOf{K:Frag}{h:Heap}(_:K.In h):Frag:=K
def VC{l:PySem.W.OpenLaw}{K:Params->Frag}{CX:World->Jq}{sp:World->Sp}
  (hn:l.most=some n) (BP:n<=sizeLine) (P1:d.params.defaults=[]) (hr:gJ k callerA)
  (hY:∀(w:World)(h:Heap),YP w h->(K w.params).In h)
  (F:∀(w:World)(mg:Str->Option Value)(fa:Addr)(h:Heap),(K w.params).In h->h.Ns mainGlobals mg->mg d.name=some (.ref fa)->
   ∃fd:FuncData,(∀(s:Shared)(u:Value),BindsTo s fd {[u],[]} [(x,u)])/\
    ∀base:Heap,(K w.params).In base->base.Ns mainGlobals mg->c6 l.prog w (K w.params) mg base (CX w) k fa fd [x] (sp w))
  (FQ:∀(w:World)(H:Hp)(a:Addr)(ns:List Int),ns.length<=n->Nl H->bw (K w.params) H a (ns.map V.int)->sp w [.ref a] H (λv _=>v=.bl true) λ_ _ _=>False)
  (hCX:∀(w:World)(H:Hp)(s:Shared)(e:Value)(s':Shared),CX w [] H s (λ_ _ _=>False) e s'->False):
  PySem.W.WalkO q loose XP YP l.row.toRowW d [] (λf vs=>PySem.call f vs):=by
 refine Att.JO hn P1 λw aab aaa mg mb fa o pm cd doc a vs ns G Y ho hd Am PL Sr hints hlen hg=>?_;have KX:=hY w _ Y;obtain⟨fd,hb,hF⟩:=F w mg fa _ KX G.T.g PL;exact R5 KX G.T.g G.T.b G.T.builtins G.T.nolimit hg Sr hints (aF hlen BP) hr hF hb (λH hO hS=>FQ w H a ns hlen hO hS) λH e s'=>hCX w H aaa e s'
end L2
namespace L2
open PySem PySem.Spec PyProof.Rows
def inClass(s:Stmt)(j:Nat):Stmt:=match s with
 | .ClassDef _ _ _ body _ _ _ _ _ _ _=>body.getD j (.Pass {0,0,0,0})
 |_=>.Pass {0,0,0,0}
def kD(s:Stmt):Arguments:=match s with
 | .FunctionDef _ a _ _ _ _ _ _ _ _=>a
 |_=>{posonlyargs:=[],args:=[],vararg:=none,kwonlyargs:=[],kw_defaults:=[],kwarg:=none,defaults:=[]}
def jL(s:Stmt):List Stmt:=match s with
 | .FunctionDef _ _ b _ _ _ _ _ _ _=>b
 |_=>[]
def bI(s:Stmt):Scope:=match s with
 | .FunctionDef _ _ _ _ _ _ sc _ _ _=>sc
 |_=>{kind:=.function,names:=[],isGenerator:=false,isCoroutine:=false}
abbrev fD:Jq:=λ_ _ _ _ _ _=>False
abbrev E0:XK:=λ_ _ _=>False
def Me:Passes fD X E0:=λ_ _ _ _ _ _ _ h=>h.elim
structure fb(K:Frag)(x qual:Str)(st:Stmt)(f:Addr)(fd:FuncData):Prop where
 ex:∃(oc:Value)(od:Option Addr)(kV doc pm:Value)(an:Option Addr)(c7 ct:Value)(zO:Array (Option Value)),
  fd=fnOf x qual (kD st) (jL st) (bI st) .none kV doc pm an c7 ct/\K.lookup f=some {oc,od,.func fd,zO}/\codeIn K c7 qual=true
 kp:keepIn K (.ref f)=true
section
variable{P:Program}{w:World}{K:Frag}{mg:Str->Option Value}{base:Heap}
def fb.ok{st:Stmt}(F:fb K x qual st f fd)(S:cv N ps (bI st))(len:∀vs H Q E,sp vs H Q E->vs.length=ps.length)
  (MQ:∀(c7:Value)(A:Around)(outer:List Env)(s:Shared)(H:Hp)(vs:List V)(Q:VK)(E:XK),gJ k (A.deeper (envOfC qual (bI st) s.heap.objs.size f c7))->sp vs H Q E->
   ∃t,j9 (EN fD P w K mg base N qual (bI st) f c7 A outer s H E).Uo (jL st) t/\t {nx:=λ_ H'=>Q .cb H',rt:=Q} (start N vs) H):c6 P w K mg base fD (k+1) f fd ps sp:=by
 obtain⟨oc,od,kV,doc,pm,an,c7,ct,zO,rfl,lk,Am⟩:=F.ex;refine abo lk Am S len λA outer s H vs Q E hr FQ=>?_;obtain⟨t,h,q⟩:=MQ c7 A outer s H vs Q E hr FQ;exact{t,h.Uo,q}
def fb.binds{st:Stmt}(F:fb K x qual st f fd)
  (h:∀(kV doc pm:Value)(an:Option Addr)(c7 ct:Value)(us:List Value),us.length=ps.length->bindArgs (fnOf x qual (kD st) (jL st) (bI st) .none kV doc pm an c7 ct) {us,[]}=pure (ps.zip us)):Binds K fd ps []:=by
 obtain⟨oc,od,kV,doc,pm,an,c7,ct,zO,rfl,lk,Am⟩:=F.ex;exact .all (h kV doc pm an c7 ct)
def Qe{st:Stmt}{kV doc pm c7 ct:Value}(l:K.lookup f=some {oc,od,.func (fnOf x qual (kD st) (jL st) (bI st) .none kV doc pm an c7 ct),zO})
  (c:codeIn K c7 qual=true) (k:keepIn K (.ref f)=true):fb K x qual st f (fnOf x qual (kD st) (jL st) (bI st) .none kV doc pm an c7 ct):={⟨oc,od,kV,doc,pm,an,c7,ct,zO,rfl,l,c⟩,k}
def my(hr:gJ k A):A.units+1<cLine:=cS (yZ (by decide:1<=64) _) hr.units
def bH(h:n<=1000):n<sizeLine:=cS h (by decide)
variable{X:Cx}
def pv(i:Nat)(hN:X.N[i]?=some x:=by rfl)(hv:Vis X.env.scope x:=by first|exact Or.inl rfl|exact Or.inr (Or.inl rfl)|exact Or.inr (Or.inr rfl))(hd:(x==("__debug__":Str))=false:=by decide)
  (Am:(x==("__classdict__":Str))=false:=by decide):PE X (.Name x pos) (B7 i):=X9 hN hv hd Am
def Cw{A B:Prop}(h:B):if false=true then A else B:=by rw[aq aP];exact h
def Im{A B:Prop}(h:A):if true=true then A else B:=by rw[ay rfl];exact h
def gZ{c A B:Prop}[Decidable c](h1:c->A)(h2:¬c->B):if c then A else B:=by
 by_cases h:c
 ·rw[ay h];exact h1 h
 ·rw[aq h];exact h2 h
def bD(H H':Hp):Prop:=∀b o,H b=some o->H' b=some o
def bD.refl(H:Hp):bD H H:=λ_ _ h=>h
def bD.trans(a:bD H H1)(b:bD H1 H2):bD H H2:=λc o h=>b c o (a c o h)
def bD.free(e:bD H H')(h:H' l=Option.none):H l=Option.none:=by
 cases q:H l with
 |none=>rfl
 |some o=>
  rw[e l o q]at h;cases h
end
section
variable{κ:Type}[DecidableEq κ]
def QX{k:κ}(h:eX kvs k=none):¬k∈kvs.map (·.1):=by intro m;obtain⟨p,hp,e⟩:=au.mp m;have q:(kvs.any λkv=>decide (kv.1=k))=true:=lA.mpr {p,hp,aY e};rw[oY,h]at q;exact absurd q (by simp)
def VE{k:κ}{v:V}(h:eX kvs k=some v):k∈kvs.map (·.1):=by
 have q:(kvs.any λkv=>decide (kv.1=k))=true:=by rw[oY,h];all_goals rfl
 obtain⟨p,hp,e⟩:=lA.mp q;exact au.mpr {p,hp,bA e}
end
def Its(z:Str):It:={λi _=>i<z.cps.size,λi H x H'=>H'=H/\∃c,z.cps[i]?=some c/\x=.str ⟨#[c]⟩,λi _=>i=z.cps.size}
def E5(hh:A.handled=none)(I:Addr)(x:Str)(t:Tok):
  Walks prog w A I [I] [I] x.cps.size (SignAt x) (λi h=>h.IsStrIter I (strIterType x) x t i):=by
 unfold strIterType;cases x.cps.all (·<128)with
 |true=>exact Walks.strAscii hh I x t
 |false=>exact Walks.strWide hh I x t
def Gf(x:Str):["enumerate","zip","dict_itemiterator","dict_reverseitemiterator","odict_iterator","itertools.zip_longest","itertools.pairwise"].contains (strIterType x)=false:=by
 unfold strIterType;cases x.cps.all (·<128)with
 |true=>decide
 |false=>decide
def Q0{K:Frag}(it:Addr)(z:Str)(t:Tok):Turn P w K tg (Its z) [it] it (λi h=>h.IsStrIter it (strIterType z) z t i) where
 mem:=by simp
 obj:=λi h st b hb=>by
  have e:b=it:=by simpa using hb
  subst e;obtain⟨o,e,c,d⟩:=st;exact{o,e,λv z=>by rw[d]at z;cases z}
 keep:=λi h h' st k=>by obtain⟨o,e,r⟩:=st;exact{o,k it (by simp) o e,r}
 item:=by intro X hP hw hK hc i pins s Z H E I hf st hg;subst hP hw hK;obtain⟨f0,f1,f2,f3,f4,f5⟩:=hf it (by simp);have W:=E5 (prog:=X.prog) (w:=X.w) (I.ok.hd hc) it z t;refine W.item i s _ _ hg st λv h' tk hv ig kk=>?_;obtain⟨c,u,kQ,rfl⟩:=hv;have I1:Inv X pins Z H {s with heap:=h',toks:=tk}:=I.turned (λb o hb e=>kk b o (by simpa using hb) e) f0 f1 f3 f4 f5;obtain⟨o,e,c1,d1⟩:=id ig;exact{_,rfl,DQ (s:={s with heap:=h',toks:=tk}) e c1 d1 (Gf z) {.str ⟨#[c]⟩,H,I1,⟨u,rfl⟩,⟨rfl,c,kQ,rfl⟩,ig,λb hb=>(hf b hb).1}}
 done:=by intro X hP hw hK hc i pins s Z H E I hf st hg;subst hP hw hK;obtain⟨f0,f1,f2,f3,f4,f5⟩:=hf it (by simp);have W:=E5 (prog:=X.prog) (w:=X.w) (I.ok.hd hc) it z t;have e:i=z.cps.size:=hg;subst e;exact W.done s _ _ st λh' tk kk=>{rfl,I.turned (λb o hb e=>kk b o (by simpa using hb) e) f0 f1 f3 f4 f5}
 self:=λA i s Q E st h=>by
  unfold strIterType at st;cases hx:z.cps.all (·<128)with
  |true=>rw[hx]at st;exact wpAny_pyIter_striter_ascii st h
  |false=>rw[hx]at st;exact wpAny_pyIter_striter_wide st h
section
variable{X:Cx}{tg:Expr}
inductive abc(R:It->Hp->Prop)(x:V)(H1:Hp):Prop
 |mk z (_:x=.str z) (_:R (Its z) H1)
def ab8(tl:TE):TI:=λZ H R=>tl Z H λx H1=>abc R x H1
def X8(hl:PE X l tl):PI X tg l (ab8 tl):=by
 intro pins s Z H R I h;refine cU (hl pins s Z H _ I h) λv s1 x H1 I1 r1 q1=>?_;obtain⟨z,e,q⟩:=q1;subst e;obtain⟨t,rfl⟩:=r1;refine wpAny_pyIter_strU ?_;have I2:Inv X pins Z H1 {s1 with heap:=s1.heap.push {cls:=.type (strIterType z),data:=.fields #[.str z t,.int 0 0]}}:=I1.kept (t':=s1.toks) λb o e=>ah _ e;refine{s1.heap.objs.size,[s1.heap.objs.size],_,Its z,H1,rfl,I2,Q0 s1.heap.objs.size z t,{_,aD _ rfl,rfl,rfl},λb hb=>?_,q};have e:b=s1.heap.objs.size:=by simpa using hb
 subst e;exact I1.uV (ak _) (I1.br.fresh (ak _))
def frees(scope:Scope):List Str:=(scope.names.filter λp=>p.2==.free).map (·.1)
def CJ(scope:Scope)(env:Env):List (Str×Addr):=(frees scope).reverse.map λn=>(n,(env.cells.lookup n).getD 0)
theorem ET(env:Env):∀(names:List (Str×NameKind))(cs:List (Str×Addr)),(∀n∈(names.filter λp=>p.2==.free).map (·.1),∃c,env.cells.lookup n=some c)->
  (forIn names cs λ(x:Str×NameKind)(r:List (Str×Addr))=>(if x.2==.free then do let c<-cellOf env x.1;pure (ForInStep.yield ((x.1,c)::r))else pure (ForInStep.yield r):Sem (ForInStep (List (Str×Addr)))))=
   pure ((((names.filter λp=>p.2==.free).map (·.1)).reverse.map λn=>(n,(env.cells.lookup n).getD 0))++cs)
 |[],cs,_=>rfl
 |(n,k)::r,cs,h=>by
  rw[mF];cases hk:(k==NameKind.free)with
  |false=>
   have h':∀m∈(r.filter λp=>p.2==.free).map (·.1),∃c,env.cells.lookup m=some c:=λm hm=>h m (by simpa[lq,hk]using hm);have ih:=ET env r cs h';simp only[hk,bT,dP,lq,pure_bind];exact ih
  |true=>
   obtain⟨c,hc⟩:=h n (by simp[lq,hk]);have h':∀m∈(r.filter λp=>p.2==.free).map (·.1),∃c,env.cells.lookup m=some c:=λm hm=>h m (by
    simp only[lq,hk,rf,aQ];exact az _ hm)
   have ih:=ET env r ((n,c)::cs) h';have ec:cellOf env n=pure c:=by unfold cellOf;rw[hc]
   simp only[hk,rf,lq,aQ,List.reverse_cons,aH,gM,da,ie,iL,ec,pure_bind,hc,Option.getD_some];exact ih
def D7(h:∀n∈frees scope,∃c,env.cells.lookup n=some c):closureFor scope env=pure (CJ scope env):=by have e:=ET env scope.names [] h;rw[cP]at e;have q:closureFor scope env=((forIn scope.names ([]:List (Str×Addr)) λ(x:Str×NameKind)(r:List (Str×Addr))=>(if x.2==.free then do let c<-cellOf env x.1;pure (ForInStep.yield ((x.1,c)::r))else pure (ForInStep.yield r):Sem (ForInStep (List (Str×Addr)))))>>=λr=>pure r):=rfl;rw[q,bind_pure];exact e
theorem zW{β:Type}(g:Str->β)(y:Str):∀l:List Str,(l.map λn=>(n,g n)).lookup y=if y∈l then some (g y)else none
 |[]=>by simp
 |n::r=>by
  have ih:=zW g y r;rw[aQ,vc];cases e:(y==n)with
  |true=>
   have e':y=n:=gX e;subst e';simp
  |false=>
   have e':y≠n:=λq=>by rw[q]at e;simp at e
   show(r.map λn=>(n,g n)).lookup y=_;rw[ih];simp[e']
def rR(h:∀n∈frees scope,∃c,env.cells.lookup n=some c):(CJ scope env).lookup y=some c↔y∈frees scope/\env.cells.lookup y=some c:=by
 unfold CJ;rw[zW (λn=>(env.cells.lookup n).getD 0)];by_cases hy:y∈frees scope
 ·obtain⟨d,hd⟩:=h y hy;rw[ay (jB.mpr hy),hd];simp[hy]
 ·rw[aq λq=>hy (jB.mp q)];simp[hy]
theorem zX(f:Str->NameKind->NameKind)(y:Str):∀names:List (Str×NameKind),(names.map λp=>(p.1,f p.1 p.2)).lookup y=(names.lookup y).map (f y)
 |[]=>rfl
 |(n,k)::r=>by
  have ih:=zX f y r;rw[aQ,vc,vc];cases e:(y==n)with
  |true=>
   have e':y=n:=gX e;subst e';rfl
  |false=>exact ih
def wK(scope:Scope)(env:Env)(y:Str):(relabel scope env).names.lookup y=(scope.names.lookup y).map λk=>if(k==.free&&env.scope.kind==.function&&env.kindOf y==some .cell)=true then NameKind.cell else k:=by
 have e:(relabel scope env).names=scope.names.map λp=>(p.1,(λ(n:Str)(k:NameKind)=>if(k==.free&&env.scope.kind==.function&&env.kindOf n==some .cell)=true then NameKind.cell else k) p.1 p.2):=by unfold relabel;refine bz λp _=>?_;obtain⟨n,k⟩:=p;show(if(k==.free&&env.scope.kind==.function&&env.kindOf n==some .cell)=true then(n,NameKind.cell)else(n,k))=_;split<;>simp_all
 rw[e];exact zX (λ(n:Str)(k:NameKind)=>if(k==.free&&env.scope.kind==.function&&env.kindOf n==some .cell)=true then NameKind.cell else k) y scope.names
end
structure vi(X:Cx)(scope:Scope)(x:Str)(fs:List Str)(fr:List Nat):Prop where
 kind:scope.kind=.function
 loc:scope.names.lookup x=some .local
 names:∀y∈scope.names,y.2=.local->scope.names.lookup y.1=some .local
 OK:∀y∈scope.names,y.2≠ .cell
 free:∀n∈frees scope,X.env.kindOf n=some .cell/\scope.names.lookup n=some .free
 nd:(x::fs).Nodup
 len:fr.length=fs.length
 slots:∀(j:Nat)(y:Str)(k:Nat),fs[j]?=some y->fr[j]?=some k->X.N[k]?=some y/\y∈frees scope
abbrev eY(X:Cx)(N':List Str)(scope:Scope)(C:Addr)(s:Shared)(H:Hp)(ex:List Addr):Cx:=
 {X with N:=N',aab:=s,aaf:=H,env:=compEnvC scope (CJ scope X.env) C X.env,outer:=X.stack,stack:=X.stack,ex:=ex,fn:=λ_=>false,pn:=[],xe:=λ_ _=>False}
def CT(X:Cx)(ifs:List Expr)(tt:TT):Prop:=
 ∀(pins:List (Addr×Obj))(s:Shared)(Z:St)(H:Hp)(Q:Bool->Hp->Prop),Inv X pins Z H s->tt Z H Q->
  wpAny (model X.prog X.w) X.A (forIn ifs true λc r=>if r=true then do let ok<-isTrue c X.env (eval c X.env);pure (ForInStep.yield ok)else pure (ForInStep.yield r)) (TP X pins Z Q) X.xe s
def A4:TT:=λ_ H Q=>Q true H
def QA:CT X [] A4:=λ_ _ _ H _ I h=>wpAny_tests_nil ⟨H,I,h⟩
def aas(h:PT X c tc):CT X [c] tc:=λpins s Z H Q I hq=>wpAny_tests_one (h pins s Z H Q I hq)
def slotsOf(fr:List Nat)(Z:St):St:=fr.map λk=>(Z[k]?).getD none
def A5(wi:TI)(fr:List Nat)(tt:TT)(te:TE):TE:=λZ H Q=>wi Z H λJ H1=>∃W:Nat->Nat->List V->Hp->Prop,(∃m,W 0 m [] H1)/\∀i m ys H2,W i m ys H2->
 (J.stop i H2/\ys.length<=sizeLine/\∀l,H2 l=none->Q (.ref l) (upd H2 l (.lst ys)))\/
 (J.go i H2/\ys.length<sizeLine/\∀v H3,J.zb i H2 v H3->tt (some v::slotsOf fr Z) H3 λb H4=>
  if b=true then te (some v::slotsOf fr Z) H4 (λy H5=>∃m',m'<m/\W (i+1) m' (ys++[y]) H5)else∃m',m'<m/\W (i+1) m' ys H4)
section
variable{X:Cx}
def BO{h h':Heap}(k:∀b o,h.get? b=some o->h'.get? b=some o)(z:h.IsCell c v):h'.IsCell c v:=by obtain⟨o,e,d⟩:=z;exact{o,k _ _ e,d}
def Inv.adopt(I:Inv X pins Z H s)(hn:H D=none)(e:s.heap.get? D=some {cls:=.type "list",data:=.seq vs.toArray k})(r:Vals ys vs)(hz:ys.length<=sizeLine)
  (h1:X.aab.heap.objs.size<=D) (hL:D≠X.env.locals) (h2:∀x c,X.env.cells.lookup x=some c->c≠D) (h3:∀p∈X.pn++pins,p.1≠D):Inv X pins Z (upd H D (.lst ys)) s:=by
 have nD:∀b u,H b=some u->b≠D:=λb u q z=>by rw[z,hn]at q;cases q
 have br:jo X.prog X.w (upd H D (.lst ys)) s.heap:=λb u q=>by
  by_cases hb:b=D
  ·subst hb;rw[aw]at q;cases q;exact⟨hz,vs,k,r,e⟩
  ·rw[ax hb]at q;exact(I.br b u q).iQ (λ_ _ _ z=>z) (λc z=>by rw[ax (nD c _ z)];exact z) λc xs z=>by rw[ax (nD c _ z)];exact z
 have J:=I.step (H':=upd H D (.lst ys)) (h':=s.heap) (g':=s.gens) (t':=s.toks) (d':=s.drawn) (ch:=[D])
  (λb hb=>by
   have e':b=D:=by simpa using hb
   subst e';exact{.inr h1,hL,h2,h3})
  (λb o _ _ _ q _=>q) (λb o _ _ _ q _=>{o.slots,q}) (λb o hc _ n=>by rw[ax λz=>hc (by simp[z])];exact n) (λb o _ q=>⟨o,q⟩)
  (λb xs q=>by rw[ax (nD b _ q)];exact q) (λb o u q=>by rw[ax (nD b _ q)];exact q) (λb ps q=>{#[],by rw[ax (nD b _ q),q];simp}) (λm hm=>hm) br I.bare
 exact J
def WN(S:vi X scope x fs fr)(I2:Inv X pins Z H s2)(I3:Inv X pins Z H s)
  (hD:D=s2.heap.objs.size) (hs:s.heap.objs.size=D+1) (bR:∀b∈fp,b<D) (f2:∀b∈fp,pq X pins H b):(eY X (x::fs) scope s.heap.objs.size s H (D::fp)).Ok:=by
 have yN:∀n∈frees scope,∃c,X.env.cells.lookup n=some c:=λn hn=>I3.ok.has n (.inl (S.free n hn).1);have sub:∀{y:Str}{c:Addr},(CJ scope X.env).lookup y=some c->X.env.cells.lookup y=some c:=λh=>((rR yN).mp h).2;refine{I3.ok.mod,S.kind,I3.ok.glob,I3.ok.blt,ak _,λa b c h1 h2=>I3.ok.inj a b c (sub h1) (sub h2),λy hy=>?_,(λ_ _ h=>by cases h),I3.ok.hd,I3.ok.frames,.inl rfl,λb hb=>?_,I3.bs,aF I3.ok.B2 I3.sz,λb o e hb=>?_,λb hb hf=>?_,I3.stack,I3.Km}
 ·have q:(relabel scope X.env).names.lookup y=some .cell\/(relabel scope X.env).names.lookup y=some .free:=hy;have nf:scope.names.lookup y=some .free:=by
   rw[wK]at q;cases e:scope.names.lookup y with
   |none=>rw[e]at q;simp at q
   |some k=>
    rw[e]at q;cases k with
    |free=>rfl
    |cell=>
     have hm:(y,NameKind.cell)∈scope.names:=by have:=vp.mp e;obtain⟨l1,l2,z,_⟩:=this;rw[z];simp
     exact absurd rfl (S.OK _ hm)
    |_=>simp at q
  have hm:y∈frees scope:=by obtain⟨l1,l2,z,_⟩:=vp.mp nf;unfold frees;rw[z];simp
  obtain⟨c,hc⟩:=yN y hm;exact{c,(rR yN).mpr ⟨hm,hc⟩}
 ·rcases aE.mp hb with rfl|hb
  ·refine{λz=>?_,λy c h z=>?_}
   ·exact absurd (hs.symm.trans z.symm:b+1=b) (Nat.succ_ne_self b)
   ·obtain⟨v,q⟩:=I2.cell y c (sub h);have:=q.lt;rw[z,hD]at this;exact absurd this (cY _)
  ·refine{λz=>?_,λy c h=>(f2 b hb).2.2.2.2.1 y c (sub h)};have q:b<D+1:=dD (bR b hb);rw[z]at q;exact absurd q (by show ¬s.heap.objs.size<D+1;rw[hs];exact cY _)
 ·have iW:b<X.base.objs.size:=aB e;have h1:=I2.ok.B2;have h2:=I2.sz;rcases aE.mp hb with rfl|hb
  ·rw[hD]at iW;exact absurd (aW iW (aF h1 h2)) (cY _)
  ·rcases(f2 b hb).2.2.2.1 with z|z
   ·exact I2.ok.EC b o e z
   ·exact absurd (aW iW (aF h1 z)) (cY _)
 ·have uT:b∈yR X.stack:=hf;rcases aE.mp (I2.GY b uT)with z|z
  ·rcases aE.mp hb with rfl|hb
   ·have:=I2.lt;rw[<-z,hD]at this;exact absurd this (cY _)
   ·exact(f2 b hb).2.1 z
  ·rcases aE.mp hb with rfl|hb
   ·exact I2.Yk (AO hD.symm) z
   ·exact(f2 b hb).2.2.1 z
def S5(S:vi X scope x fs fr)(I3:Inv X pins Z H s)
  (ok:(eY X (x::fs) scope s.heap.objs.size s H ex).Ok) (hn:h4.Ns s.heap.objs.size m) (old:∀b o,s.heap.get? b=some o->h4.get? b=some o):
  Inv (eY X (x::fs) scope s.heap.objs.size s H ex) [] (none::slotsOf fr Z) H {s with heap:=h4,toks:=t}:=by
 have yN:∀n∈frees scope,∃c,X.env.cells.lookup n=some c:=λn hn=>I3.ok.has n (.inl (S.free n hn).1);have sub:∀{y:Str}{c:Addr},(CJ scope X.env).lookup y=some c->X.env.cells.lookup y=some c:=λh=>((rR yN).mp h).2;refine{ok,rfl,I3.bare,Un.kept old,{m,hn,λi y v e1 e2 e3=>?_},λy c h=>?_,I3.br.fresh (ak _),λy c h=>I3.nN y c (sub h),λp hp=>absurd hp (by simp),I3.br.kept old,?_}
 ·cases i with
  |zero=>
   have F5:(none:Option V)=some v:=by simpa using e2
   cases F5
  |succ j=>
   have e1':fs[j]?=some y:=by simpa using e1
   have F5:(slotsOf fr Z)[j]?=some (some v):=by simpa using e2
   unfold slotsOf at F5;rw[aJ]at F5;cases hk:fr[j]? with
   |none=>rw[hk]at F5;cases F5
   |some k=>
    rw[hk]at F5;have e4:(Z[k]?).getD none=some v:=by simpa using F5
    have e5:Z[k]?=some (some v):=by
     cases q:Z[k]? with
     |none=>rw[q]at e4;cases e4
     |some z=>rw[q]at e4;exact cu some e4
    obtain⟨n1,n2⟩:=S.slots j y k e1' hk;obtain⟨m0,_,hl⟩:=I3.loc;obtain⟨u,ru,l⟩:=hl k y v n1 e5 (.inr (.inl (S.free y n2).1));have kc:=(S.free y n2).1;rcases l with⟨l,_⟩|⟨_,c,hc,cl⟩
    ·rw[kc]at l;cases l
    ·refine{u,ru,.inr {.inl ?_,c,(rR yN).mpr ⟨n2,hc⟩,BO old cl}};show(relabel scope X.env).names.lookup y=some .cell;have kf:X.env.scope.kind=.function:=I3.ok.kind;rw[wK,(S.free y n2).2,kf,kc];rfl
 ·obtain⟨v,z⟩:=I3.cell y c (sub h);exact{v,BO old z}
 ·show(none::slotsOf fr Z).length=(x::fs).length;simp[slotsOf,S.len]
abbrev lobj(vs:List Value)(k:Nat):Obj:={cls:=.type "list",data:=.seq vs.toArray k}
theorem JZ:∀(xs:List V)(us:List Value),xs.length=us.length->(∀(j:Nat)(x:V)(u:Value),xs[j]?=some x->us[j]?=some u->RelV x u)->Vals xs us
 |[],[],_,_=>.nil
 |[],_::_,h,_=>by cases h
 |_::_,[],h,_=>by cases h
 |x::xs,u::us,h,f=>.cons (f 0 x u rfl rfl) (JZ xs us (by simpa using h) λj a b e1 e2=>f (j+1) a b (by simpa using e1) (by simpa using e2))
def A8(h:xW k v=true):RelV (kV k) v:=by
 rcases gu h with⟨i,t,rfl,rfl⟩|⟨x,t,rfl,rfl⟩
 ·exact⟨t,rfl⟩
 ·exact⟨t,rfl⟩
def range_all(bs:List Bool):((List.range bs.length).all λi=>(bs[i]?).getD true)=bs.all id:=by
 rw[gN,dA,dA];constructor
 ·intro h b hb;obtain⟨i,hi⟩:=fm.mp hb;have:=h i (cX.mpr (ar.mp hi).1);rw[hi]at this;exact this
 ·intro h i hi;have bR:=cX.mp hi;rw[ao bR];exact h _ (gg bR)
def EV(hc:X.calm=true):j6 X (.type "list") (λxs H Q=>∃a kvs,xs=[.ref a]/\H a=some (.dK kvs)/\∀l,H l=none->Q (.ref l) (upd H l (.lst (kvs.map λkv=>kV kv.1)))):=by
 intro pins s Z H xs us Q I r h;obtain⟨a,kvs,rfl,ha,q⟩:=h;obtain⟨u,rfl,ru⟩:=l9 r;cases ru;obtain⟨hz,lo,vs,rel,o,es,ep,m⟩:=Bg I.br ha;have at':s.heap.DictAt (bG X.prog X.w) a vs ep:=⟨o,es,m⟩;have hl:kvs.length=vs.length:=rel.length;have hk:kvs.map (·.1)=vs.map (·.1):=rel.keys;refine PySem.W.kdl_call (PySem.W.kdl_dict lo) (I.ok.hd hc) at' (by rw[<-hl];exact hz) λh' tk sU c' kp e it=>?_;have rv:Vals (kvs.map λkv=>kV kv.1) sU.toList:=by
  refine JZ _ _ (by simp[it.1,hl]) λj x v e1 e2=>?_;obtain⟨k,y,e3,e4⟩:=it.2 j v (by rw[<-bB];exact e2);have e5:(kvs.map (·.1))[j]?=some k:=by rw[hk,aJ,e3];rfl
  rw[aJ]at e1 e5;cases e6:kvs[j]? with
  |none=>rw[e6]at e1;cases e1
  |some p=>
   rw[e6]at e1 e5;obtain rfl:kV p.1=x:=bL e1;obtain rfl:p.1=k:=bL e5;exact A8 e4
 exact{.ref s.heap.objs.size,_,I.laid (t':=tk) kp (ak _) (show du X.prog X.w _ h' _ (.lst _)from{by rw[ag];exact hz,sU.toList,c',rv,by simpa using e}),rfl,q _ I.fresh}
def xo(hc:X.calm=true):j6 X (.builtin "all") (λxs H Q=>∃(a:Addr)(bs:List Bool),xs=[.ref a]/\bw X.K H a (bs.map V.bl)/\Q (.bl (bs.all id)) H):=by
 intro pins s Z H xs us Q I r h;obtain⟨a,bs,rfl,ha,q⟩:=h;obtain⟨u,rfl,ru⟩:=l9 r;cases ru;obtain⟨aT,rv,p,hz⟩:=I.list ha;have hl:aT.length=bs.length:=by have:=rv.length;simpa using this.symm
 have gE:a≠s.heap.objs.size:=by obtain⟨o,n,e,_⟩:=id p;exact aI (aB e)
 refine call_all_walk (om p.isList ?_);refine{s.heap.objs.size,_,_,aT.toArray.size,_,_,λi=>(bs[i]?).getD true,rfl,Walks.list (A:=X.A.in1) (show X.A.in1.handled=none from I.ok.hd hc) s.heap.objs.size a gE aT.toArray,{{_,aD _ rfl,rfl,rfl},p.isList.at λo e=>ah _ e},?_,λh' tk kp=>?_}
 ·intro i v s' Q' E' hP hQ;have hP':aT[i]?=some v:=by simpa using hP
  have hi:i<bs.length:=by rw[<-hl];exact(ar.mp hP').1
  have e1:(bs.map V.bl)[i]?=some (.bl bs[i]):=by rw[aJ,ao hi];rfl
  obtain⟨u,hu,ru⟩:=rv.get e1;rw[hP']at hu;cases hu;cases ru;refine gO ?_;have e2:(bs[i]?).getD true=bs[i]:=by rw[ao hi];rfl
  rw[<-e2];exact hQ
 ·refine{.bl (bs.all id),H,I.kept (t':=tk) λb o e=>kp b o (by simpa using aI (aB e)) (ah _ e),?_,q};show Value.bool _=Value.bool _;rw[aL,hl,range_all]
def B1:j6 X (.builtin "isinstance") (λxs H Q=>∃x n t b,xs=[x,.ty n]/\pf X.K H x t/\kitOne X.K t (.type n)=some b/\Q (.bl b) H):=by intro pins s Z H xs us Q I r h;obtain⟨x,n,t,b,rfl,ty,e,q⟩:=h;obtain⟨u,w',rfl,ru,oG⟩:=vals2 r;cases oG;exact Pe I ru ty e λtk=>{.bl b,H,I.tok tk,rfl,q}
inductive VZ(x:V)(vs:List V)(H:Hp)(Q:VK):Prop
 |mk a b (_:x=.str a) (_:vs=[.str b]) (_:Q (.bl (Txt.startswith a b)) H)
def Gj:QP X "str.startswith" VZ:=by intro pins s Z H x vs v us Q I rx rv h;obtain⟨a,b,rfl,rfl,q⟩:=h;obtain⟨t,rfl⟩:=rx;obtain⟨u,rfl,ru⟩:=rv.one;obtain⟨t',rfl⟩:=ru;exact call_gives F.slot_str_startswith (nJ s a t) F.entry_str_startswith (F.args_str_startswith_2 _ _) (gives_str_startswith a b t t') {.bl _,H,I,rfl,q}
inductive abN(x:V)(lo:Option Int)(hi:Option Int)(H:Hp)(Q:VK):Prop
 |mk z (_:x=.str z) (_:z.length<=sizeLine) (_:Q (.str (Txt.slice z lo hi)) H)
def NY:Vn X abN:=by
 intro pins s Z H x v vl vu lo hi sl Q I rx hs pl pu h;obtain⟨z,rfl,hz,q⟩:=h;obtain⟨t,rfl⟩:=rx;cases pl with
 |none=>
  cases pu with
  |none=>exact{"str",_,F.slot_str_getitem.lookup,nJ _ _ _,jG (l:=none) (u:=none) (st:=none) hs rfl (pY {aF (qB z _ _) hz,λt' k=>{.str _,H,I.tok k,⟨_,rfl⟩,q}})}
  |int j tj=>exact{"str",_,F.slot_str_getitem.lookup,nJ _ _ _,jG (l:=none) (u:=some (j,tj)) (st:=none) hs rfl (pY {aF (qB z _ _) hz,λt' k=>{.str _,H,I.tok k,⟨_,rfl⟩,q}})}
 |int i ti=>
  cases pu with
  |none=>exact{"str",_,F.slot_str_getitem.lookup,nJ _ _ _,jG (l:=some (i,ti)) (u:=none) (st:=none) hs rfl (pY {aF (qB z _ _) hz,λt' k=>{.str _,H,I.tok k,⟨_,rfl⟩,q}})}
  |int j tj=>exact{"str",_,F.slot_str_getitem.lookup,nJ _ _ _,jG (l:=some (i,ti)) (u:=some (j,tj)) (st:=none) hs rfl (pY {aF (qB z _ _) hz,λt' k=>{.str _,H,I.tok k,⟨_,rfl⟩,q}})}
def abx(_i j:Int):Prop:=0<j/\j.natAbs.log2<9000
def RM:jT X (binaryOp .FloorDiv) (rI abx λi j=>.int (i/j)):=Oz λi j _ _ _ _ _ hc q=>by have h1:(0:Int)<j:=hc.1;exact floordiv_int ∅ (by rw[sW i ∅];exact q) (.inl (PyProof.noPylong_of_log2 hc.2))
mutual
def Dt(K:Frag)(H:Hp):PyData->V->Prop
 | .none,x=>x=.cb
 | .bool b,x=>x=.bl b
 | .int i,x=>x=.int i
 | .str z,x=>x=.str z
 | .list ds,x=>∃a xs,x=.ref a/\bw K H a xs/\jZ K H ds xs
 | .tuple ds,x=>∃a xs,x=.ref a/\bq K H a xs/\jZ K H ds xs
 | .dict _,_=>False
def jZ(K:Frag)(H:Hp):List PyData->List V->Prop
 |[],xs=>xs=[]
 |d::ds,xs=>∃x r,xs=x::r/\Dt K H d x/\jZ K H ds r
end
mutual
theorem Cg(I:Inv X pins Z H s):∀(d:PyData)(x:V)(v:Value),Dt X.K H d x->RelV x v->∃as,Reads s.heap v d as
 | .none,x,v,h,r=>by rw[Dt]at h;subst h;cases r;exact{_,.none}
 | .bool b,x,v,h,r=>by rw[Dt]at h;subst h;cases r;exact{_,.bool b}
 | .int i,x,v,h,r=>by rw[Dt]at h;subst h;obtain⟨t,rfl⟩:=r;exact{_,.int i t}
 | .str z,x,v,h,r=>by rw[Dt]at h;subst h;obtain⟨t,rfl⟩:=r;exact{_,.str z t}
 | .list ds,x,v,h,r=>by rw[Dt]at h;obtain⟨a,xs,rfl,hq,ha⟩:=h;cases r;obtain⟨aT,rv,⟨o,n,e,c,_,d⟩,_⟩:=I.list hq;obtain⟨as,ra⟩:=wg I ds xs aT ha rv;exact{_,.list e c d (by simpa using ra)}
 | .tuple ds,x,v,h,r=>by rw[Dt]at h;obtain⟨a,xs,rfl,hq,ha⟩:=h;cases r;obtain⟨aT,rv,⟨o,e,c,n,d⟩,_⟩:=I.tuple hq;obtain⟨as,ra⟩:=wg I ds xs aT ha rv;exact{_,.tuple e c d (by simpa using ra)}
 | .dict _,x,v,h,r=>by rw[Dt]at h;exact h.elim
theorem wg(I:Inv X pins Z H s):∀(ds:List PyData)(xs:List V)(vs:List Value),jZ X.K H ds xs->Vals xs vs->∃as,ReadsAll s.heap vs ds as
 |[],xs,vs,h,r=>by rw[jZ]at h;subst h;cases r;exact{_,.nil}
 |d::ds,xs,vs,h,r=>by
  rw[jZ]at h;obtain⟨x,r',rfl,h1,h2⟩:=h;cases r with
  |cons r1 r2=>
   obtain⟨as,q1⟩:=Cg I d x _ h1 r1;obtain⟨bs,q2⟩:=wg I ds r' _ h2 r2;exact{_,.cons q1 q2}
end
inductive abQ(K:Frag)(neg:Bool)(x:V)(y:V)(H:Hp)(Q:VK):Prop
 |mk d e (_:Dt K H d x) (_:Dt K H e y) (_:SeqAt.shaped d=true) (_:SeqAt.shaped e=true) (_:Q (.bl (if neg then !PyData.eqv d e else PyData.eqv d e)) H)
def Ow(hu:X.A.units+64<cLine):jT X (compareOp .NotEq) (abQ X.K true):=by intro pins s Z H x y v u Q I rx ry h;obtain⟨d,e,h1,h2,h3,h4,q⟩:=h;obtain⟨as,r1⟩:=Cg I d x v h1 rx;obtain⟨bs,r2⟩:=Cg I e y u h2 ry;exact ne_dataH r1 r2 h3 h4 hu {.bl _,H,I,rfl,q}
theorem DZ{K:Frag}:∀zs:List Str,jZ K H (zs.map PyData.str) (zs.map V.str)
 |[]=>by rw[gM,jZ];rfl
 |z::r=>by rw[aQ,aQ,jZ];exact{_,_,rfl,by rw[Dt],DZ r}
theorem BW:∀xs ys:List Str,PyData.eqvAll (xs.map PyData.str) (ys.map PyData.str)=decide (xs=ys)
 |[],[]=>by simp[PyData.eqvAll]
 |[],_::_=>by simp[PyData.eqvAll]
 |_::_,[]=>by simp[PyData.eqvAll]
 |a::r,b::t=>by simp only[aQ,PyData.eqvAll,PyData.eqv,BW r t];by_cases h:a=b<;>by_cases h':r=t<;>simp[h,h']
theorem Cr:∀zs:List Str,(∀z∈zs,PyData.strOk z=true)->PyData.canLayAll0 (zs.map PyData.str)=true
 |[],_=>rfl
 |z::r,h=>by have h1:=h z aA;have h2:=Cr r λy hy=>h y (az _ hy);simp[PyData.canLayAll0,PyData.canLay0,h1,h2]
theorem yc:∀zs:List Str,PyData.depthAll (zs.map PyData.str)=0
 |[]=>rfl
 |_::r=>by simp[PyData.depthAll,PyData.depth,yc r]
def Nf(osc:Scope)(N:List Str)(scope:Scope)(x:Str)(fs:List Str)(fr:List Nat):Bool:=
 scope.kind==.function&&scope.names.lookup x==some .local&&scope.names.all (λy=>!(y.2==.local)||scope.names.lookup y.1==some .local)&&scope.names.all (λy=>!(y.2==.cell))&&
  (frees scope).all (λn=>osc.names.lookup n==some .cell&&scope.names.lookup n==some .free)&&decide ((x::fs).Nodup)&&fr.length==fs.length&&
  (List.range fs.length).all (λj=>match fs[j]?,fr[j]? with|some y,some k=>N[k]?==some y&&decide (y∈frees scope)|_,_=>false)
end
def eG(h:Nf X.env.scope X.N scope x fs fr=true:=by kernel_rfl):vi X scope x fs fr:=by
 unfold Nf at h;simp only[cE]at h;obtain⟨⟨⟨⟨⟨⟨⟨h1,h2⟩,h3⟩,h4⟩,h5⟩,h6⟩,h7⟩,h8⟩:=h;refine{gX h1,gX h2,λy hy e=>?_,λy hy e=>?_,λn hn=>?_,bA h6,gX h7,λj y k e1 e2=>?_}
 ·have:=dA.mp h3 y hy;rw[e]at this;simpa using this
 ·have:=dA.mp h4 y hy;rw[e]at this;simp at this
 ·have:=dA.mp h5 n hn;rw[cE]at this;exact{gX this.1,gX this.2}
 ·have:=dA.mp h8 j (cX.mpr (ar.mp e1).1);rw[e1,e2]at this;simp only[cE]at this;exact{gX this.1,bA this.2}
def eC(P:Program)(w:World)(K:Frag)(mg:Str->Option Value)(base:Heap)(k:Nat)(x:Str)(ps:List Str)(sp:Sp):Prop:=
 ∃f fd,c6 P w K mg base fD k f fd ps sp/\mg x=some (.ref f)/\keepIn K (.ref f)=true/\Binds K fd ps []
def cl(D:eC X.prog X.w X.K X.mg X.base k x ps sp)(hr:gJ j X.A)(ha:PA X (e::es) t)(hk:k<=j:=by decide)(hg:Gl X x:=by rfl)
  (Al:(x==("__debug__":Str))=false:=by decide) (he:starEach (e::es) X.env=(false,eval e X.env)::starEach es X.env:=by rfl) (qu:(backTo pos (starEach es X.env)).any (·.1)=false:=by rfl):
  PE X (.Call (.Name x p) (e::es) [] pos) (LX sp [] E0 t):=by
 obtain⟨f,fd,F,m,kp,b⟩:=D;exact Wc F (hr.mono hk) hg m kp b .nil Me ha Al he qu
def DD(l:Addr)(items:Array Value)(n:Nat)(b:Addr)(dd:Option Addr)(sl:Array (Option Value))(w5:Array Value)(n2:Nat)(hs0:¬(!items.isEmpty&&Builtin.List.listTooLong (items.size+w5.size))=true)(Ag:items.size<=sizeLine)(kP:items.size+w5.size<=sizeLine+1):
  Meets (Builtin.«list.extend» {[.ref l,.ref b],[]}) (λ_ R s=>s.heap.get? l=some {cls:=.type "list",dict:=none,data:=.seq items n,slots:=#[]}/\s.heap.get? b=some {cls:=.type "tuple",dict:=dd,data:=.seq w5 n2,slots:=sl}/\R (.ok (.ret Value.none)) {s with heap:=s.heap.update l (Obj.mapSeq λx=>x++w5),toks:=s.toks}):=
 .of_wp λprog w A R s h=>by
  obtain⟨hp,g,d,tk,os⟩:=s;obtain⟨hl,hb,h⟩:=h;have uP:(items++w5).size<=sizeLine+1:=by rw[Array.size_append];exact kP
  wp_walk using(iB hl rfl (hz:=Ag) (_hz':=uP)),wpAny_loadPart' hl,wpAny_loadPart' hb
  exact⟨_,rfl,h⟩
section
variable{X:Cx}
inductive Rv(K:Frag)(x:V)(vs:List V)(H:Hp)(Q:VK):Prop
 |mk l b xs zs (_:x=.ref l) (_:vs=[.ref b]) (_:H l=some (.lst xs)) (_:bq K H b zs) (_:xs.length+zs.length<=sizeLine) (_:Q .cb (upd H l (.lst (xs++zs))))
def Mp:QQ X "list.extend" (Rv X.K):=by
 intro pins s Z H x vs v us Q I rx rv h;obtain⟨l,b,xs,zs,rfl,rfl,hH,hB,hz,q⟩:=h;cases rx;obtain⟨u,rfl,ru⟩:=rv.one;cases ru;obtain⟨z,aT,n,r,hl,e⟩:=I.Cn hH;obtain⟨sP,r2,⟨⟨cls,dd,data,sl⟩,e2,pJ,n2,hd2⟩,z2⟩:=I.tuple hB;simp only at pJ hd2;subst pJ hd2;have jF:=r2.length;have hsz:aT.toArray.size+sP.toArray.size<=sizeLine:=by rw[aL,aL];lia
 have MK:¬(!aT.toArray.isEmpty&&Builtin.List.listTooLong (aT.toArray.size+sP.toArray.size))=true:=by rw[HP hsz,rJ];exact aP
 refine ue AY ⟨_,e,rfl⟩ y8 (yy _ _)
  (DD l aT.toArray n b dd sl sP.toArray n2 MK (by rw[aL];lia) ∅) {e,e2,?_}
 refine{.cb,_,I.Mu (its':=aT++sP) hH e (by simp) (r.append r2) ?_,rfl,q};rw[aK];lia
end
def cut(n:Nat)(C:St->Hp->Prop)(ht:∃t2,j9 X (body.drop n) t2/\∀Z H,C Z H->t2 D Z H)
  (hh:∀t2,j9 X (body.drop n) t2->∃t,j9 X body t/\((∀Z H,C Z H->t2 D Z H)->t D σ0 H0)):∃t,j9 X body t/\t D σ0 H0:=by
 obtain⟨t2,p,q⟩:=ht;obtain⟨t,p',q'⟩:=hh t2 p;exact{t,p',q' q}
def ac8{B:St->Hp->Prop}(n:Nat)(C:St->Hp->Prop)(ht:∃t2,j9 X (body.drop n) t2/\∀Z H,C Z H->t2 D Z H)
  (hh:∀t2,j9 X (body.drop n) t2->∃t,j9 X body t/\((∀Z H,C Z H->t2 D Z H)->∀Z H,B Z H->t D Z H)):∃t,j9 X body t/\∀Z H,B Z H->t D Z H:=by
 obtain⟨t2,p,q⟩:=ht;obtain⟨t,p',q'⟩:=hh t2 p;exact{t,p',q' q}
def RJ(hg:Gl X x)(hm:∃t,X.mg x=some (.int i t))(hd:(x==("__debug__":Str))=false:=by decide):PE X (.Name x pos) (tC (.int i)):=by obtain⟨t,hm⟩:=hm;exact KN hg hm ⟨t,rfl⟩ hd
def RH(hg:Gl X x)(hm:∃t,X.mg x=some (.str z t))(hd:(x==("__debug__":Str))=false:=by decide):PE X (.Name x pos) (tC (.str z)):=by obtain⟨t,hm⟩:=hm;exact KN hg hm ⟨t,rfl⟩ hd
section
variable{X:Cx}{K:Frag}
def Ik(h:X.K=K:=by rfl):LN X (X3 K):=h▸fI
def w4(h:X.K=K:=by rfl):LN X (X2 K):=h▸fK
def As(h:X.K=K:=by rfl):j6 X (.builtin "len") (λxs H Q=>∃x n,xs=[x]/\aax K x H n/\Q (.int n) H):=h▸gF
def yF(h:X.K=K:=by rfl):jT X (compareOp .NotIn) (rIn K true):=h▸HH
def h9{A B:Hp->Prop}(h:A H):A4 Z H (λb H4=>if b=true then A H4 else B H4):=by show(if true=true then A H else B H);rw[ay rfl];exact h
end
end L2
namespace HT
open PySem PySem.Spec PyProof.Rows
section
variable{prog:Program}{w:World}{A:Around}{E:Value->Shared->Prop}{s:Shared}
def yW{t sl:Addr}{items:Array Value}{vl vu:Value}{lo hi:Option Int}{Q:Value->Shared->Prop}(ht:IsTup s.heap t items)(hs:s.heap.IsSliceOf sl vl vu .none)(pl:IsPart vl lo)(pu:IsPart vu hi)
  (hw:dZ items.size 0 lo=0/\dZ items.size items.size hi=items.size) (h:Q (.ref t) s):wpAny (model prog w) A (getItem (.ref t) (.ref sl)) Q E s:=by
 obtain⟨os,IF,U3,P0⟩:=id hs;have Z6:s.TypeIs (.ref sl) "slice":=⟨os,IF,U3⟩;unfold getItem
 try with_reducible refine bK ?_
 first|refine ae (af ?_)|skip
 refine ae (Bi ht.typeIs (by decide) ?_);refine ae (wpAny_callSpecial?_slot (name:=Str.ofString "__getitem__") ht.typeIs dE
  (ba dE ht.typeIs yX ?_ (AB _ _)))
 show wpAny _ _ (Builtin.Tuple.tupleItemsOf (.ref t)>>=_) _ _ s;refine ae (tupleItemsOf_ ht ?_);refine ae (gw Z6 ?_);rw[ay (by decide)];refine ae (uy hs pl pu ?_);have acD:(((dZ items.size 0 lo:Nat):Int)==0&&(1:Int)==1&&(dZ items.size items.size hi -dZ items.size 0 lo)==items.size)=true:=by rw[hw.1,hw.2];simp
 show wpAny _ _ (if(((dZ items.size 0 lo:Nat):Int)==0&&(1:Int)==1&&(dZ items.size items.size hi -dZ items.size 0 lo)==items.size)=true then _ else _) _ _ s;rw[ay acD];unfold Builtin.Tuple.tupleIsExact;refine ae (ae (gw ht.typeIs ?_));refine af ?_;rw[ay (by decide)]
 wp_walk
 exact{_,rfl,af h}
def S9(ht:IsTup s.heap t vs.toArray)(hb:IsTup s.heap b ws.toArray)(h0:vs=[]->Q (.ref b) s)
  (h1:vs≠[]->ws=[]->Q (.ref t) s) (h2:vs≠[]->ws≠[]->Q (.ref s.heap.objs.size) {s with heap:=s.heap.push {cls:=.type "tuple",data:=.seq (vs++ws).toArray}})
  (hsz:vs.length+ws.length<=sizeLine):wpAny (model prog w) A (binaryOp .Add (.ref t) (.ref b)) Q E s:=by
 by_cases hv:vs=[]
 ·obtain⟨⟨cls,dd,data,sl⟩,ho,hc,n,hd⟩:=id ht;obtain⟨⟨ac9,LG,data2,TR⟩,xc,pJ,n2,hd2⟩:=id hb;simp only at hc hd pJ hd2;subst hc hd pJ hd2;exact Ap ⟨_,ho,rfl⟩ ⟨_,xc,rfl⟩ uH yE oM nZ (ni _ _)
   (tuple_addW0 t b vs.toArray ws.toArray n n2 dd LG sl TR (by simp[hv])) {ho,xc,h0 hv}
 ·exact WQ ht hb hv (h1 hv) (h2 hv) hsz
end
end HT
namespace L2
open PySem PySem.Spec PyProof.Rows
section
variable{X:Cx}
inductive X0(K:Frag)(x:V)(lo:Option Int)(hi:Option Int)(H:Hp)(Q:VK):Prop
 |mk a xs (_:x=.ref a) (_:bq K H a xs) (_:((HT.dZ xs.length 0 lo=0/\HT.dZ xs.length xs.length hi=xs.length)->Q (.ref a) H)) (_:(¬(HT.dZ xs.length 0 lo=0/\HT.dZ xs.length xs.length hi=xs.length)->∀p,H p=none->Q (.ref p) (upd H p (.tup (CG xs lo hi)))))
def Kt:Vn X (X0 X.K):=by
 intro pins s Z H x v vl vu lo hi sl Q I rx hs pl pu h;obtain⟨a,xs,rfl,hx,q1,q2⟩:=h;by_cases hw:HT.dZ xs.length 0 lo=0/\HT.dZ xs.length xs.length hi=xs.length
 ·cases rx;obtain⟨aT,r,ht,hz⟩:=I.tuple hx;have hlen:aT.toArray.size=xs.length:=by rw[aL];exact r.length.symm
  refine{"tuple",_,dE.lookup,ht.typeIs,?_};exact HT.yW ht hs pl pu (by rw[hlen];exact hw) {.ref a,H,I,rfl,q1 hw}
 ·exact XH pins s Z H (.ref a) v vl vu lo hi sl Q I rx hs pl pu {a,xs,rfl,hx,hw,q2 hw}
inductive Gr(K:Frag)(x:V)(y:V)(H:Hp)(Q:VK):Prop
 |mk a b xs ys (_:x=.ref a) (_:y=.ref b) (_:bq K H a xs) (_:bq K H b ys) (_:xs.length+ys.length<=sizeLine) (_:(xs=[]->Q (.ref b) H)) (_:(xs≠[]->ys=[]->Q (.ref a) H)) (_:(xs≠[]->ys≠[]->∀p,H p=none->Q (.ref p) (upd H p (.tup (xs++ys)))))
def uq:jT X (binaryOp .Add) (Gr X.K):=by intro pins s Z H x y v u Q I rx ry h;obtain⟨a,b,xs,ys,rfl,rfl,ha,hb,hz,q0,q1,q2⟩:=h;cases rx;cases ry;obtain⟨aT,r1,p1,_⟩:=I.tuple ha;obtain⟨sP,r2,p2,_⟩:=I.tuple hb;refine HT.S9 p1 p2 (λz=>{.ref b,H,I,rfl,q0 (r1.wU.mp z)}) (λn z=>{.ref a,H,I,rfl,q1 (λz=>n (r1.wU.mpr z)) (r2.wU.mp z)}) (λn z=>?_) (by rw[<-r1.length,<-r2.length];exact hz);refine{.ref s.heap.objs.size,_,I.laid (t':=s.toks) (o:=.tup (xs++ys)) (λb ob q=>ah _ q) (ak _) ?_,rfl,q2 (λz=>n (r1.wU.mpr z)) (λw=>z (r2.wU.mpr w)) _ (I.br.fresh (ak _))};exact{by rw[aK];exact hz,_,r1.append r2,AX _ _,_,aD _ rfl,rfl}
variable{K:Frag}{a:Addr}{xs:List V}{fr:List Nat}{tt:TT}{te:TE}{Z:St}{H1:Hp}{R:Addr->List V->Hp->Prop}
abbrev yA(J:It)(fr:List Nat)(tt:TT)(te:TE)(Z:St)(H1:Hp)(R:Addr->List V->Hp->Prop):Prop:=
 ∃W:Nat->Nat->List V->Hp->Prop,(∃m,W 0 m [] H1)/\∀i m ys H2,W i m ys H2->
 (J.stop i H2/\ys.length<=sizeLine/\∀l,H2 l=none->R l ys H2)\/
 (J.go i H2/\ys.length<sizeLine/\∀v H3,J.zb i H2 v H3->tt (some v::slotsOf fr Z) H3 λb H4=>
  if b=true then te (some v::slotsOf fr Z) H4 (λy H5=>∃m',m'<m/\W (i+1) m' (ys++[y]) H5)else∃m',m'<m/\W (i+1) m' ys H4)
def CH(Pv:Nat->List V->Hp->Prop)(hx:xs.length<sizeLine)(h0:Pv 0 [] H1)(hl:∀i ys H,i<=xs.length->Pv i ys H->bq K H a xs/\ys.length<=i)
  (hs:∀(i:Nat)(x:V)(ys:List V)(H:Hp)(N:List V->Hp->Prop),xs[i]?=some x->Pv i ys H->(∀gQ H',Pv (i+1) gQ H'->N gQ H')->
   tt (some x::slotsOf fr Z) H λb H4=>if b=true then te (some x::slotsOf fr Z) H4 (λy H5=>N (ys++[y]) H5)else N ys H4)
  (hd:∀ys H,Pv xs.length ys H->∀l,H l=none->R l ys H):yA (Jm K a) fr tt te Z H1 R:=by
 refine{λi m ys H=>m=xs.length -i/\i<=xs.length/\Pv i ys H,{xs.length,by simp,aR _,h0},?_};rintro i m ys H ⟨rfl,hi,p⟩;obtain⟨q,hy⟩:=hl i ys H hi p;by_cases bR:i<xs.length
 ·refine .inr {{xs,_,q,ao bR},by lia,?_};rintro v H3 ⟨rfl,hv⟩;exact hs i v ys H3 (λgQ H'=>∃m',m'<xs.length -i/\m'=xs.length -(i+1)/\i+1<=xs.length/\Pv (i+1) gQ H') (hv xs q) p λgQ H' p'=>{_,by lia,rfl,bR,p'}
 ·have e:i=xs.length:=by lia
  subst e;exact .inl {{xs,q,ak _},by lia,hd ys H p}
def kR(Pv:Nat->List V->Hp->Prop)(hx:xs.length<sizeLine)(h0:Pv 0 [] H1)(hl:∀i ys H,i<=xs.length->Pv i ys H->bw K H a xs/\ys.length<=i)
  (hs:∀(i:Nat)(x:V)(ys:List V)(H:Hp)(N:List V->Hp->Prop),xs[i]?=some x->Pv i ys H->(∀gQ H',Pv (i+1) gQ H'->N gQ H')->
   tt (some x::slotsOf fr Z) H λb H4=>if b=true then te (some x::slotsOf fr Z) H4 (λy H5=>N (ys++[y]) H5)else N ys H4)
  (hd:∀ys H,Pv xs.length ys H->∀l,H l=none->R l ys H):yA (Jn K a) fr tt te Z H1 R:=by
 refine{λi m ys H=>m=xs.length -i/\i<=xs.length/\Pv i ys H,{xs.length,by simp,aR _,h0},?_};rintro i m ys H ⟨rfl,hi,p⟩;obtain⟨q,hy⟩:=hl i ys H hi p;by_cases bR:i<xs.length
 ·refine .inr {{xs,_,q,ao bR},by lia,?_};rintro v H3 ⟨rfl,hv⟩;exact hs i v ys H3 (λgQ H'=>∃m',m'<xs.length -i/\m'=xs.length -(i+1)/\i+1<=xs.length/\Pv (i+1) gQ H') (hv xs q) p λgQ H' p'=>{_,by lia,rfl,bR,p'}
 ·have e:i=xs.length:=by lia
  subst e;exact .inl {{xs,q,ak _},by lia,hd ys H p}
variable{P:Program}{w:World}{A:Around}{E:Value->Shared->Prop}{z:Shared}
def t7(g:z.heap.IsTupleIter j p k)(gp:z.heap.IsTuple p aT)(gy:aT[k]?=some y)
  (q:∀h',h'.IsTupleIter j p (k+1)->Heap.SameBut j z.heap h'->Q y {z with heap:=h'}):wpAny (model P w) A (Builtin.SmallTypes.nextOf (.ref j)) Q E z:=by
 obtain⟨ob,g0,g1,g2⟩:=id g;obtain⟨op,p0,_,np,p2⟩:=gp;unfold Builtin.SmallTypes.nextOf;refine ae (wpAny_callSpecial?_slot g.typeIs iT (ba iT g.typeIs sH ?_ (rH _)));show wpAny _ _ (field (.ref j) 0>>=_) _ _ z;refine ae (bF g0 g2 rfl ?_);show wpAny _ _ (if(Value.ref p==Value.none)=true then _ else _) _ _ z;rw[aq (show ¬((Value.ref p==Value.none)=true)from aP)];refine ae (bF g0 g2 rfl ?_);refine ae (bO p0 p2 ?_);simp only[cI,gy];refine ae (eR g0 g2 (by simp) (af {y,rfl,af (q _ ?_ (bM ..))}));exact{_,b8 _ g0 (xr (ny g2 _)),(Br ..).trans g1,by rw[ny g2];simp[rawInt]}
def wV(hd:A.handled=none)(g:z.heap.IsTupleIter j p k)(gp:z.heap.IsTuple p aT)(gy:aT[k]?=none)
  (q:∀h' e,Heap.ExtBut j z.heap h'->(∃o,h'.get? e=some o/\o.cls=.type "StopIteration")->E (.ref e) {z with heap:=h'}):wpAny (model P w) A (Builtin.SmallTypes.nextOf (.ref j)) Q E z:=by
 obtain⟨ob,g0,g1,g2⟩:=id g;obtain⟨op,p0,_,np,p2⟩:=gp;unfold Builtin.SmallTypes.nextOf;refine ae (wpAny_callSpecial?_slot g.typeIs iT (ba iT g.typeIs sH ?_ (rH _)));show wpAny _ _ (field (.ref j) 0>>=_) _ _ z;refine ae (bF g0 g2 rfl ?_);show wpAny _ _ (if(Value.ref p==Value.none)=true then _ else _) _ _ z;rw[aq (show ¬((Value.ref p==Value.none)=true)from aP)];refine ae (bF g0 g2 rfl ?_);refine ae (bO p0 p2 ?_);simp only[cI,gy];refine ae (fE (ae (eR g0 g2 (by simp) ?_)));refine ae ?_;refine ae (bV ?_ (by size_fits));refine ae (Bw (by first|rfl|(simp only[firstArgMember];rfl)) ?_);refine bV ?_ (by size_fits);refine ae (wpAny_handled ?_)
 first|rw[show A.in1.handled=none from hd]|rw[hd]
 refine ae (af (wpAny_throw ?_));exact q _ _ (((bM ..).extBut.push _).push _) {_,aD _ rfl,rfl}
end
section
variable{X:Cx}{pins:List (Addr×Obj)}{Z:St}{H:Hp}{s:Shared}{h':Heap}
def Inv.VF(I:Inv X pins Z H s)(k:∀b o,b≠e->b≠j->s.heap.get? b=some o->h'.get? b=some o)(fe:pq X pins H e)(fj:pq X pins H j)
  (hp:s.heap.objs.size<=p) (ht:IsTup h' p us.toArray/\∃o,h'.get? p=some o/\o.dict=none) (r:Vals xs us) (hz:xs.length<=sizeLine):Inv X pins Z (upd H p (.tup xs)) {s with heap:=h',toks:=t'}:=by
 have hn:=I.br.fresh hp;have fp:=I.uV hp hn;have nH:∀b u,H b=some u->b≠e/\b≠j/\b≠p:=λb u g=>{(λz=>by rw[z,fe.1]at g;cases g),(λz=>by rw[z,fj.1]at g;cases g),λz=>by rw[z,hn]at g;cases g};refine I.step (ch:=[e,j,p]) (λb hb=>?_) (λb o _ _ hc g _=>k b o (λz=>hc (by simp[z])) (λz=>hc (by simp[z])) g) (λb o _ _ hc g _=>{o.slots,k b o (λz=>hc (by simp[z])) (λz=>hc (by simp[z])) g})
  (λb o hc g n=>by rw[ax λz=>hc (by simp[z])];exact n) (λb o hc g=>{o,k b o (λz=>hc (by simp[z])) (λz=>hc (by simp[z])) g})
  (λb ys g=>by rw[ax (nH b _ g).2.2];exact g) (λb o u g=>by rw[ax (nH b _ g).2.2];exact g) (λb ps g=>{#[],by rw[ax (nH b _ g).2.2,g];simp}) (λm hm=>?_) (λb u g=>?_) I.bare
 ·have iW:b=e\/b=j\/b=p:=by simpa using hb
  rcases iW with rfl|rfl|rfl
  ·exact{fe.2.2.2.1,fe.2.1,fe.2.2.2.2.1,fe.2.2.2.2.2}
  ·exact{fj.2.2.2.1,fj.2.1,fj.2.2.2.2.1,fj.2.2.2.2.2}
  ·exact{fp.2.2.2.1,fp.2.1,fp.2.2.2.2.1,fp.2.2.2.2.2}
 ·obtain⟨o,es,ep,ho,r'⟩:=hm;exact{o,es,ep,k _ o (bX fe.2.1) (bX fj.2.1) ho,r'}
 ·by_cases hb:b=p
  ·subst hb;rw[aw]at g;cases g;exact⟨hz,us,r,ht⟩
  ·rw[ax hb]at g;refine(I.br b u g).iQ (λc v hc q=>?_) (λc q=>?_) λc ys q=>?_
   ·rcases hc with z|z
    ·rw[z];rw[z]at q;exact k b v (nH b _ g).1 (nH b _ g).2.1 q
    ·exact k c v (nH c _ z).1 (nH c _ z).2.1 q
   ·rw[ax (nH c _ q).2.2];exact q
   ·rw[ax (nH c _ q).2.2];exact q
def Qk{D:Addr->Prop}{E:Value->Shared->Prop}{e j:Addr}{fp:List Addr}{n i:Nat}{Pv:Nat->Value->Prop}{St':Nat->Heap->Prop}{old:Value}{elts:List Expr}{kk:Nat}{ps:Pos}{y:V}
  (W:Draws X.prog X.w X.A.in1 j fp n Pv St') (he:IsEnum s.heap e j i old) (st:St' i s.heap) (hi:i<n) (gE:e≠j) (hef:e∉fp) (I:Inv X pins Z H s) (fe:pq X pins H e) (fj:pq X pins H j) (hP:∀u,Pv i u->RelV y u):
  wpAny (model X.prog X.w) X.A (pyNext (.ref e)) (λr s1=>∃u,r=some u/\
   wpAny (model X.prog X.w) X.A (letOwnedTupleGo (.Tuple elts kk ps) (.ref e) u) (λ_ s2=>∃p,u=.ref p/\H p=none/\Inv X pins Z (upd H p (.tup [.int i,y])) s2/\(∃abT,IsEnum s2.heap e j ((i:Int)+1) abT)/\St' (i+1) s2.heap/\e≠p/\j≠p) E s1) E s:=by
 refine wpAny_pyNext_enum_itemD W he st hi gE hef λx h1 tk hx ho st1 hT hsz hk=>?_;refine{_,rfl,wpAny_letOwnedTupleGo_enum ho λh2 DO kP=>?_};have ZV:=aB he;have oI:j<s.heap.objs.size:=by obtain⟨o,z⟩:=W.live _ _ st;exact aB z
 have MD:=kP;have hT2:IsTup h2 s.heap.objs.size ([.int (i:Int) tk,x]:List Value).toArray/\∃o,h2.get? s.heap.objs.size=some o/\o.dict=none:={{_,MD.extBut _ _ (bC ZV) hT,rfl,_,rfl},_,MD.extBut _ _ (bC ZV) hT,rfl};refine{s.heap.objs.size,rfl,I.br.fresh (ak _),I.VF (λb o n1 n2 g=>MD.extBut b o n1 (hk b o n1 n2 g)) fe fj (ak _) hT2 (.cons ⟨tk,rfl⟩ (.cons (hP x hx) .nil)) (by show 2<=sizeLine;decide),⟨_,DO⟩,?_,aI ZV,aI oI};exact W.frame _ _ _ st1 λb hb o g=>MD.extBut b o (λz=>hef (z▸hb)) g
end
def QR(K:Frag)(a:Addr):It:=
 {λi H=>∃xs x,bw K H a xs/\xs[i]?=some x,λi H x H'=>∃p y,x=.ref p/\H p=none/\H'=upd H p (.tup [.int i,y])/\∀xs,bw K H a xs->xs[i]?=some y,λi H=>∃xs,bw K H a xs/\xs.length=i}
def QE{h:Heap}(e:h.get? a=some o)(e':h.get? b=some o')(n:o.cls≠o'.cls):a≠b:=λz=>by rw[z,e']at e;cases e;exact n rfl
def NB{K:Frag}(a e j:Addr):Turn P w K (.Tuple elts kk ps) (QR K a) [e,j] e (λi h=>(∃old,IsEnum h e j i old)/\h.IsListIter j a i/\e≠j) where
 mem:=by simp
 obj:=λi h st b hb=>by
  obtain⟨⟨old,he⟩,⟨o,g,c,d⟩,_⟩:=st;have iW:b=e\/b=j:=by simpa using hb
  rcases iW with rfl|rfl
  ·exact{_,he,λv z=>by cases z}
  ·exact{o,g,λv z=>by rw[d]at z;cases z}
 keep:=λi h h' st k=>by obtain⟨⟨old,he⟩,⟨o,g,r⟩,n⟩:=st;exact{{old,k e (by simp) _ he},{o,k j (by simp) o g,r},n}
 item:=by
  intro X hP hw hK hc i pins s Z H E I hf st hg;subst hP hw hK;obtain⟨xs,x,hq,hx⟩:=hg;obtain⟨aT,rv,pl,hz⟩:=I.list hq;obtain⟨⟨old,he⟩,hj,gE⟩:=st;have hl:=rv.length;have hil:=(ar.mp hx).1;obtain⟨o0,g0,c0,_⟩:=id pl.isList;obtain⟨o1,g1,c1,_⟩:=id hj;have nae:=QE g0 he (by rw[c0];show Value.type "list"≠Value.type "enumerate";decide);have naj:=QE g0 g1 (by rw[c0,c1];decide);have W:=Draws.list (prog:=X.prog) (w:=X.w) (show X.A.in1.handled=none from I.ok.hd hc) j a naj aT.toArray;refine gR (Qk (D:=λ_=>True) (y:=x) W he {hj,pl.isList} (by rw[aL];lia) gE (by simp[gE,nae.symm]) I (hf e (by simp)) (hf j (by simp)) λu hu=>?_) λr s1 ⟨u,er,h1⟩=>{u,er,gR h1 λ_ s2 ⟨p,eu,hp,I2,DO,pB,n1,n2⟩=>?_}
  ·obtain⟨u',se,ru⟩:=rv.get hx;have qt:aT[i]?=some u:=by simpa using hu
   rw[qt]at se;cases se;exact ru
  ·subst eu;refine{.ref p,_,I2,rfl,{p,x,rfl,hp,rfl,λys hy=>by rw[I.Co hy hq];exact hx},{DO,pB.1,gE},λb hb=>?_};have iW:b=e\/b=j:=by simpa using hb
   rcases iW with rfl|rfl
   ·rw[ax n1];exact(hf b (by simp)).1
   ·rw[ax n2];exact(hf b (by simp)).1
 done:=by intro X hP hw hK hc i pins s Z H E I hf st hg;subst hP hw hK;obtain⟨xs,hq,hx⟩:=hg;obtain⟨aT,rv,pl,hz⟩:=I.list hq;obtain⟨⟨old,he⟩,hj,gE⟩:=st;have hl:=rv.length;obtain⟨f0,f1,f2,f3,f4,f5⟩:=hf j (by simp);exact wpAny_pyNext_enum_end (I.ok.hd hc) he hj pl.isList (by simp;lia) λh' eb=>{rfl,I.turned (λb o hb g=>eb b o hb g) f0 f1 f3 f4 f5}
 self:=λ_ _ _ _ _ st h=>by obtain⟨⟨old,he⟩,_⟩:=st;exact Bj he h
section
variable{X:Cx}{elts:List Expr}{kk:Nat}{ps:Pos}
inductive Y0(K:Frag)(R:It->Hp->Prop)(vs:List V)(H1:Hp):Prop
 |mk a (_:vs=[.ref a]) (_:(∃xs,bw K H1 a xs)) (_:R (QR K a) H1)
def abe(K:Frag)(ta:TA):TI:=λZ H R=>ta Z H λvs H1=>Y0 K R vs H1
def WE(I:Inv X pins Z H s):∀b∈[s.heap.objs.size+1,s.heap.objs.size],pq X pins H b:=λb hb=>by
 have iW:b=s.heap.objs.size+1\/b=s.heap.objs.size:=by simpa using hb
 rcases iW with rfl|rfl
 ·exact I.uV (eT _) (I.br.fresh (eT _))
 ·exact I.uV (ak _) (I.br.fresh (ak _))
def KJ(hg:Gl X "enumerate")(hm:X.mg "enumerate"=none)(ha:PA X [a] ta)(hs:starEach [a] X.env=[(false,eval a X.env)]:=by rfl):PI X (.Tuple elts kk ps) (.Call (.Name "enumerate" p) [a] [] pos) (abe X.K ta):=by intro pins s Z H R I h;refine Ei (qg I hg hm boot_enumerate (dB (pU (ha pos pins s Z H _ I h) λus s1 vs H1 I1 r1 q1=>?_) hs rfl));obtain⟨l,e,⟨xs,hq⟩,q⟩:=q1;subst e;obtain⟨u,rfl,ru⟩:=l9 r1;cases ru;obtain⟨aT,rv,pl,hz⟩:=I1.list hq;refine call_enumerate_list pl.isList λh' he hj _ hk=>?_;have I2:=I1.kept (t':=s1.toks) hk;refine Bj he ?_;exact{_,_,_,_,H1,rfl,I2,NB l _ s1.heap.objs.size,{⟨_,he⟩,hj,Nat.succ_ne_self _},WE I1,q}
def IY{K:Frag}{g:TG}{tb:TS}{D:Ends}(Pv:Nat->St->Hp->Prop)(h0:Pv 0 Z H)(hl:∀i Z H,i<=xs.length->Pv i Z H->bw K H a xs)
  (hs:∀i x p Z H,xs[i]?=some x->Pv i Z H->H p=none->g (.ref p) Z (upd H p (.tup [.int i,x])) λσ2 H2=>tb {D with nx:=Pv (i+1),ct:=Pv (i+1),bk:=D.nx} σ2 H2) (hd:∀Z H,Pv xs.length Z H->D.nx Z H):
  ∃W:Nat->Nat->St->Hp->Prop,(∃m,W 0 m Z H)/\∀i m Z H,W i m Z H->
   ((QR K a).stop i H/\D.nx Z H)\/((QR K a).go i H/\∃N:St->Hp->Prop,(∀σ' H',N σ' H'->∃m',m'<m/\W (i+1) m' σ' H')/\∀x H',(QR K a).zb i H x H'->g x Z H' λσ2 H2=>tb {D with nx:=N,ct:=N,bk:=D.nx} σ2 H2):=by
 refine{λi m Z H=>m=xs.length -i/\i<=xs.length/\Pv i Z H,{xs.length,by simp,aR _,h0},?_};rintro i m Z H ⟨rfl,hi,p⟩;have q:=hl i Z H hi p;by_cases bR:i<xs.length
 ·refine .inr {{xs,xs[i],q,by simp[bR]},Pv (i+1),λσ' H' p'=>{xs.length -(i+1),by lia,rfl,bR,p'},λx H' y=>?_};obtain⟨r,z,rfl,hr,rfl,y⟩:=y;exact hs i z r Z H (y xs q) p hr
 ·have e:i=xs.length:=by lia
  subst e;exact .inl {⟨xs,q,rfl⟩,hd Z H p}
theorem Paired.at':∀{aad:List α}{aac:List β}{i:Nat}{x:α},Paired F aad aac->aad[i]?=some x->∃y,aac[i]?=some y/\F x y
 |_,_,_,_,.nil,e=>by simp at e
 |_,_,0,_,.cons r _,e=>by simp at e;subst e;exact⟨_,rfl,r⟩
 |_,_,i+1,x,.cons _ t,e=>by obtain⟨y,h1,h2⟩:=Paired.at' (i:=i) (x:=x) t (by simpa using e);exact{y,by simpa using h1,h2}
def yb:entryFor table "dict.update.loop"=some Builtin.«dict.update.loop»:=entryFor_of_tree (by kernel_rfl)
variable{prog:Program}{w:World}{A:Around}{s:Shared}{R:Result->Shared->Prop}
theorem Ng(Iv:Nat->Shared->Prop)
  (turn:∀n z,Iv n z->wpAny (model prog w) A (pyNext it) (λr z1=>match r with
   |none=>R (.ok .next) z1
   |some v=>wpAny (model prog w) A (letOwnedTupleGo tg it v) (λ_ y2=>wpAny (model prog w) A (assign tg env v) (λ_ z2=>
     wpAny (model prog w) A (forIn ifs true λc r=>if r=true then do let ok<-isTrue c env (eval c env);pure (ForInStep.yield ok)else pure (ForInStep.yield r)) (λok z3=>
      if ok=true then wpAny (model prog w) A (eval elt env) (λx z4=>
       wpAny (model prog w) A (call (.builtin "list.append") [acc,x]) (λ_ z5=>∃m,m<n/\Iv m z5) (notedBy (model prog w) A env λe z'=>R (.error e) z') z4) (notedBy (model prog w) A env λe z'=>R (.error e) z') z3
      else∃m,m<n/\Iv m z3) (notedBy (model prog w) A env λe z'=>R (.error e) z') z2) (notedBy (model prog w) A env λe z'=>R (.error e) z') y2) (notedBy (model prog w) A env λe z'=>R (.error e) z') z1) (notedBy (model prog w) A env λe z'=>R (.error e) z') z)
  (n:Nat) (h:Iv n s):codeAny (model prog w) A (.compLoop (.ListComp elt [{tg,iter,ifs,0}] scope pos) 0 it acc env) R s:=by
 refine codeAny_loop rfl Iv (λn z hI=>?_) n h;show wpAny (model prog w) A ((compTurn (.ListComp elt [{tg,iter,ifs,0}] scope pos) 0 it acc env).onRaise (λx=>do noteFrame x env;theTreesLotGoes x)) _ _ z;refine wpAny_noted ?_;rw[compTurn_list];refine ae (yC (ae (cR (turn n z hI) (λr z1 q1=>?_) λ_ _ q=>q)));cases r with
 |none=>exact af q1
 |some v=>
  refine ae (cR q1 (λ_ z2 q3=>ae (cR q3 (λ_ z3 q4=>ae (cR q4 (λok z4 q5=>?_) λ_ _ q=>q)) λ_ _ q=>q)) λ_ _ q=>q);cases ok with
  |false=>exact af ⟨rfl,q5⟩
  |true=>exact ae (ae (cR q5 (λx z5 q6=>ae (cR q6 (λ_ z6 q7=>af (af ⟨rfl,q7⟩)) λ_ _ q=>q)) λ_ _ q=>q))
end
structure xu(X:Cx)(scope:Scope)(x:Str)(more fs:List Str)(fr:List Nat):Prop where
 one:vi X scope x fs fr
 DC:(x::more++fs).Nodup
def zl(wi:TI)(k:Nat)(fr:List Nat)(g:TG)(tt:TT)(te:TE):TE:=λZ H Q=>wi Z H λJ H1=>∃W:Nat->Nat->List V->Hp->Prop,(∃m,W 0 m [] H1)/\∀i m ys H2,W i m ys H2->
 (J.stop i H2/\ys.length<=sizeLine/\∀l,H2 l=none->Q (.ref l) (upd H2 l (.lst ys)))\/
 (J.go i H2/\ys.length<sizeLine/\∀v H3,J.zb i H2 v H3->∀own:St,own.length=k->g v (own++slotsOf fr Z) H3 λσ4 H4=>∃HG,σ4=HG++slotsOf fr Z/\HG.length=k/\tt σ4 H4 λb H5=>
  if b=true then te σ4 H5 (λy H6=>∃m',m'<m/\W (i+1) m' (ys++[y]) H6)else∃m',m'<m/\W (i+1) m' ys H5)
section
variable{X:Cx}
def xR(N2:List Str)(h:(eY X N1 scope C s H ex).Ok):(eY X N2 scope C s H ex).Ok:=
 {h.mod,h.kind,h.glob,h.blt,h.above,h.inj,h.has,h.LJ,h.hd,h.frames,h.NL,h.Qg,h.bs,h.B2,h.EC,h.CB,h.rg,h.F0}
def QB(S:xu X scope x more fs fr)(I3:Inv X pins Z H s)
  (ok:(eY X (x::fs) scope s.heap.objs.size s H ex).Ok) (hn:h4.Ns s.heap.objs.size m) (old:∀b o,s.heap.get? b=some o->h4.get? b=some o):
  Inv (eY X (x::more++fs) scope s.heap.objs.size s H ex) [] (List.replicate (more.length+1) none++slotsOf fr Z) H {s with heap:=h4,toks:=t}:=by
 have J:=S5 (t:=t) S.one I3 ok hn old;refine{xR _ J.ok,J.os,J.bare,J.base,?_,J.cell,J.free,J.nN,J.pin,J.br,?_}
 ·obtain⟨m1,PK,hl⟩:=J.loc;refine{m1,PK,λi y v e1 e2 e3=>?_};by_cases hi:i<more.length+1
  ·have e2:(List.replicate (more.length+1) (none:Option V)++slotsOf fr Z)[i]?=some (some v):=e2;rw[dk (by rw[iM];exact hi),vq,ay hi]at e2;cases e2
  ·obtain⟨j,rfl⟩:∃j,i=more.length+1+j:={i -(more.length+1),by lia};have e2:(List.replicate (more.length+1) (none:Option V)++slotsOf fr Z)[more.length+1+j]?=some (some v):=e2;have e1:((x::more)++fs)[more.length+1+j]?=some y:=e1;rw[cZ (by rw[iM];lia),iM,vo]at e2;rw[cZ (by rw[aZ];lia),aZ,vo]at e1;exact hl (j+1) y v (by simpa using e1) (by simpa using e2) e3
 ·show(List.replicate (more.length+1) none++slotsOf fr Z).length=((x::more)++fs).length;have h1:=S.one.len;simp[slotsOf,h1];lia
def QC{elt iter tg:Expr}{x:Str}{more:List Str}{g:TG}{ifs:List Expr}{scope:Scope}{pos:Pos}{wi:TI}{fs:List Str}{fr:List Nat}{tt:TT}{te:TE}{use:Option (Value->Sem Unit)}{R:Value->Shared->Prop}{pins:List (Addr×Obj)}{s:Shared}{Z:St}{H:Hp}{Q:VK}{Hs:Pos}(hc:X.calm=true)(ST:xu X scope x more fs fr)(hi:PI X tg iter wi)(hg:∀C s H ex,PG (eY X (x::more++fs) scope C s H ex) tg g)
  (ht:∀C s H ex,CT (eY X (x::more++fs) scope C s H ex) ifs tt) (he:∀C s H ex,PE (eY X (x::more++fs) scope C s H ex) elt te) (hs:∀z,foldedSetIterable iter X.env z=pure z)
  (I:Inv X pins Z H s) (h:zl wi (more.length+1) fr g tt te Z H Q)
  (acV:∀(D C:Addr)(s':Shared)(H':Hp)(ys:List V)(vs:List Value)(k:Nat)(m:Str->Option Value),Inv X pins Z H' s'->D<C->X.aab.heap.objs.size<=D->X.env.locals<D->(∀y c,X.env.cells.lookup y=some c->c<D)->(∀p∈X.pn++pins,p.1<D)->
   s'.heap.get? D=some (lobj vs k)->H' D=none->H' C=none->s'.heap.Ns C m->Vals ys vs->ys.length<=sizeLine->(∀l,H' l=none->Q (.ref l) (upd H' l (.lst ys)))->compPost (model X.prog X.w) X.A X.xe use R (.ref D) C (.ok .next) s'):
  wpAny (model X.prog X.w) X.A (comprehension (.ListComp elt [{tg,iter,ifs,0}] scope pos) scope X.env Hs (newList []) false (eval iter X.env) use) R X.xe s:=by
 have S:=ST.one;refine wpAny_comprehension_free (use:=use) rfl hs (D7 λn hn=>I.ok.has n (.inl (S.free n hn).1)) S.kind S.names ?_;refine gR (hi pins s Z H _ I h) λv s1 h1=>gR h1 λYR s2 h2=>?_;obtain⟨it,fp,tn,J,H2,e,I2,T,pB,f2,W,⟨m0,w0⟩,turn⟩:=h2;subst e;have bR:∀b∈fp,b<s2.heap.objs.size:=λb hb=>by obtain⟨o,e,_⟩:=T.obj 0 _ pB b hb;exact aB e
 refine bV (wpAny_newFunctionEnv S.OK (by intro y hy;simp at hy) (λh4 Ss Sk=>?_) S.kind);dsimp only at Ss Sk⊢;generalize hH3:s2.heap.push {cls:=.type "list",dict:=none,data:=.seq ([]:List Value).toArray}=g3 at Ss Sk⊢;have hC:g3.objs.size=s2.heap.objs.size+1:=by rw[<-hH3,b7]
 have EA:∀b o,s2.heap.get? b=some o->g3.get? b=some o:=λb o e=>hH3▸ah _ e;have I3:Inv X pins Z H2 {s2 with heap:=g3}:=I2.kept (t':=s2.toks) EA;have ada:g3.get? s2.heap.objs.size=some (lobj [] 0):=hH3▸aD _ rfl;have RO:∀b o,g3.get? b=some o->h4.get? b=some o:=λb o e=>Sk.extBut b o (aI (aB e)) (ah _ e);have ok1:=WN (s:={s2 with heap:=g3}) (D:=s2.heap.objs.size) (fp:=fp) S I2 I3 rfl hC bR f2;have ok:=xR (x::more++fs) ok1;have I4:=QB (t:=s2.toks+([]:List (Str×Value)).length) ST I3 ok1 Ss RO;have Vh:=ok.Qg s2.heap.objs.size aA;have dnf:=ok.CB s2.heap.objs.size aA;have SM:∀{H':Hp}{vs:List Value}{k:Nat},(∀b∈fp,H' b=none)->∀b∈fp,pq (eY X (x::more++fs) scope g3.objs.size {s2 with heap:=g3} H2 (s2.heap.objs.size::fp)) [(s2.heap.objs.size,lobj vs k)] H' b:=λ{H' vs k} hn b hb=>by
  have q:=ok.Qg b (az _ hb);refine{hn b hb,q.1,ok.CB b (az _ hb),.inl (az _ hb),q.2,λp hp=>?_};have e:p=(s2.heap.objs.size,lobj vs k):=by simpa using hp
  rw[e];exact bC (bR b hb)
 have start:Inv (eY X (x::more++fs) scope g3.objs.size {s2 with heap:=g3} H2 (s2.heap.objs.size::fp)) [(s2.heap.objs.size,lobj [] 0)] (List.replicate (more.length+1) none++slotsOf fr Z) H2 {s2 with heap:=h4,toks:=s2.toks+([]:List (Str×Value)).length}:=
  I4.wO λp hp=>by
   have e:p=(s2.heap.objs.size,lobj [] 0):=by simpa using hp
   subst e;exact{RO _ _ ada,I2.br.fresh (ak _),Vh.1,dnf,λv z=>by cases z}
 have stn:tn 0 h4:=T.keep 0 _ _ pB λb _ o e=>RO b o (EA b o e);have fin:∀{i:Nat}{σ0:St}{H':Hp}{ys:List V}{vs:List Value}{k:Nat}{s':Shared},Inv (eY X (x::more++fs) scope g3.objs.size {s2 with heap:=g3} H2 (s2.heap.objs.size::fp)) [(s2.heap.objs.size,lobj vs k)] (σ0++slotsOf fr Z) H' s'->Vals ys vs->ys.length<=sizeLine->
   (∀l,H' l=none->Q (.ref l) (upd H' l (.lst ys)))->compPost (model X.prog X.w) X.A X.xe use R (.ref s2.heap.objs.size) g3.objs.size (.ok .next) s':=by
  intro i σ0 H' ys vs k s' J1 rv hz q;obtain⟨m,hn,_⟩:=id J1.loc;have below:∀y c,X.env.cells.lookup y=some c->c<s2.heap.objs.size:=λy c z=>by obtain⟨v,q⟩:=I2.cell y c z;exact q.lt
  have zM:∀p∈X.pn++pins,p.1<s2.heap.objs.size:=λp hp=>aB (I2.pin p hp).1;have I5:Inv X pins Z H' s':=I3.abv (ch:=s2.heap.objs.size::fp) J1.os J1.base J1.br J1.bare λb hb=>by
   rcases aE.mp hb with e|hb
   ·rw[e];exact{.inr I2.sz,bC I2.lt,λy c z=>aI (below y c z),λp hp=>aI (zM p hp)}
   ·exact{(f2 b hb).2.2.2.1,(f2 b hb).2.1,(f2 b hb).2.2.2.2.1,(f2 b hb).2.2.2.2.2}
  have GW:s2.heap.objs.size<g3.objs.size:=by(first|lia|omega)
  obtain⟨eD,nD,_⟩:=J1.pin (s2.heap.objs.size,lobj vs k) (by simp);exact acV _ _ s' H' ys vs k m I5 GW I2.sz I2.lt below zM eD nD J1.free hn rv hz q
 have loop:∀s4:Shared,s4={s2 with heap:=h4,toks:=s2.toks+([]:List (Str×Value)).length}->
   codeAny (model X.prog X.w) X.A (.compLoop (.ListComp elt [{tg,iter,ifs,0}] scope pos) 0 (.ref it) (.ref s2.heap.objs.size) (compEnvC scope (CJ scope X.env) g3.objs.size X.env))
    (compPost (model X.prog X.w) X.A X.xe use R (.ref s2.heap.objs.size) g3.objs.size) s4:=by
  rintro s4 rfl;refine Ng (λn s'=>∃i σ0 H' ys vs k,σ0.length=more.length+1/\Inv (eY X (x::more++fs) scope g3.objs.size {s2 with heap:=g3} H2 (s2.heap.objs.size::fp)) [(s2.heap.objs.size,lobj vs k)] (σ0++slotsOf fr Z) H' s'/\tn i s'.heap/\(∀b∈fp,H' b=none)/\Vals ys vs/\W i n ys H') ?_ m0
   {0,List.replicate (more.length+1) none,H2,[],[],0,iM,start,stn,λb hb=>(f2 b hb).1,.nil,w0}
  rintro n s' ⟨i,σ0,H',ys,vs,k,h0,J1,st,fr1,rv,w1⟩;rcases turn i n ys H' w1 with⟨stop,hz,q⟩|⟨go,hz,step⟩
  ·refine gR (T.done (eY X (x::more++fs) scope g3.objs.size {s2 with heap:=g3} H2 (s2.heap.objs.size::fp)) rfl rfl rfl hc i _ s' _ H' _ J1 (SM fr1) st stop) λr s5 acr=>?_;obtain⟨hr,J2⟩:=acr;subst hr;exact fin (i:=i) J2 rv hz q
  ·refine gR (T.item (eY X (x::more++fs) scope g3.objs.size {s2 with heap:=g3} H2 (s2.heap.objs.size::fp)) rfl rfl rfl hc i _ s' _ H' _ J1 (SM fr1) st go) λr s5 acq=>?_;obtain⟨u,hr,h5⟩:=acq;subst hr;refine gR h5 λ_ s6 acp=>?_;obtain⟨v,H6,J6,r6,y6,lH,fr6⟩:=acp;have J6':=J6.pinned (fp:=fp) (SM fr6) (T.obj _ _ lH);refine cR (hg _ _ _ _ _ s6 _ H6 v u _ J6' r6 (step v H6 y6 σ0 h0)) (λ_ s7 aco=>?_) (λ_ _ z=>z.elim);obtain⟨σ7,H7,J7,own,e7,l7,q7⟩:=aco;subst e7;have pfp:∀{σ8:St}{H8:Hp}{s8:Shared},Inv (eY X (x::more++fs) scope g3.objs.size {s2 with heap:=g3} H2 (s2.heap.objs.size::fp)) ([(s2.heap.objs.size,lobj vs k)]++zK fp s6.heap) σ8 H8 s8->
     tn (i+1) s8.heap/\∀b∈fp,H8 b=none:=λ{σ8 H8 s8} J8=>by
    refine{T.keep _ _ _ lH λb hb o e=>(J8.pin (b,o) (bN _ (bN _ (uc hb e)))).1,λb hb=>?_};obtain⟨o,e,d⟩:=T.obj _ _ lH b hb;exact(J8.pin (b,o) (bN _ (bN _ (uc hb e)))).2.1
   refine cR (ht _ _ _ _ _ s7 _ H7 _ J7 q7) (λok8 s8 acn=>?_) (λ_ _ z=>z.elim);obtain⟨H8,J8,q8⟩:=acn;cases ok8 with
   |false=>
    rw[aq aP]at q8;rw[aq aP];obtain⟨m',hm,w8⟩:=q8;obtain⟨t8,n8⟩:=pfp J8;exact{m',hm,i+1,own,H8,ys,vs,k,l7,J8.xA,t8,n8,rv,w8}
   |true=>
    rw[ay rfl]at q8;rw[ay rfl];refine cR (he _ _ _ _ _ s8 _ H8 _ J8 q8) (λy s9 acm=>?_) (λ_ _ z=>z.elim);obtain⟨yv,H9,J9,r9,m',hm,w9⟩:=acm;obtain⟨t9,n9⟩:=pfp J9;obtain⟨eD,nD,_⟩:=J9.pin (s2.heap.objs.size,lobj vs k) (by simp);have hl:=rv.length;refine ue AZ ⟨_,eD,rfl⟩ za (yz _ _) (Bo s2.heap.objs.size vs.toArray k y (by rw[aL];(first|lia|omega))) {eD,?_};have eN:=PySem.IsL.update (h:=s9.heap) (l:=s2.heap.objs.size) (items:=vs.toArray) (n:=k) eD (·.push y);have eV:vs.toArray.push y=(vs++[y]).toArray:=by simp
    rw[eV]at eN;obtain⟨k',eN⟩:∃k',(s9.heap.update s2.heap.objs.size (Obj.mapSeq (·.push y))).get? s2.heap.objs.size=some (lobj (vs++[y]) k'):=⟨_,eN⟩;have K9:Inv (eY X (x::more++fs) scope g3.objs.size {s2 with heap:=g3} H2 (s2.heap.objs.size::fp)) [] (own++slotsOf fr Z) H9 s9:=J9.wO λp hp=>absurd hp (by simp);have jn:Inv (eY X (x::more++fs) scope g3.objs.size {s2 with heap:=g3} H2 (s2.heap.objs.size::fp)) [] (own++slotsOf fr Z) H9 {s9 with heap:=s9.heap.update s2.heap.objs.size (Obj.mapSeq (·.push y))}:=
     K9.turned (t':=s9.toks) (it:=s2.heap.objs.size) (λb o hb e=>(bE s9.heap (Obj.mapSeq (·.push y)) (bX hb)).trans e) nD Vh.1 (.inl aA) Vh.2 (λp hp=>absurd hp (by simp))
    refine{m',hm,i+1,own,H9,ys++[yv],vs++[y],k',l7,jn.wO λp hp=>?_,T.keep _ _ _ t9 λb hb o e=>(bE s9.heap (Obj.mapSeq (·.push y)) (bC (bR b hb))).trans e,n9,rv.append (.cons r9 .nil),w9};have e:p=(s2.heap.objs.size,lobj (vs++[y]) k'):=aC.mp hp;rw[e];exact{eN,nD,Vh.1,dnf,λv z=>by cases z}
 exact codeAny_compStart_list (loop _ rfl) (T.self X.A 0 _ _ _ stn (loop _ rfl))
def Fv(hc:X.calm=true)(ST:xu X scope x more fs fr)(hi:PI X tg iter wi)(hg:∀C s H ex,PG (eY X (x::more++fs) scope C s H ex) tg g)
  (ht:∀C s H ex,CT (eY X (x::more++fs) scope C s H ex) ifs tt) (he:∀C s H ex,PE (eY X (x::more++fs) scope C s H ex) elt te) (hs:∀z,foldedSetIterable iter X.env z=pure z:=by intro _;rfl):
  PE X (.ListComp elt [{tg,iter,ifs,0}] scope pos) (zl wi (more.length+1) fr g tt te):=by
 intro pins s Z H Q I h;rw[eval_ListComp];refine QC hc ST hi hg ht he hs I h ?_;intro D C s' H' ys vs k m I5 GW lo lt below zM eD nD nC hn rv hz q;refine{m,hn,λh' sb=>?_};have I6:Inv X pins Z H' {s' with heap:=h'}:=I5.turned (t':=s'.toks) (it:=C) (λb o hb e=>sb.extBut b o hb e) nC (bC (jy lt GW)) (.inr (bg (cS lo GW))) (λy c z=>aI (jy (below y c z) GW)) (λp hp=>aI (jy (zM p hp) GW));have eD':h'.get? D=some (lobj vs k):=sb.extBut _ _ (aI GW) eD;exact{.ref D,_,I6.adopt nD eD' rv hz lo (bC lt) (λy c z=>aI (below y c z)) (λp hp=>aI (zM p hp)),rfl,q _ nD}
def NH(wi:TI)(fr:List Nat)(tt:TT)(te:TE):A5 wi fr tt te=zl wi 1 fr (rQ 0) tt te:=by
 funext Z H Q;unfold A5 zl;congr 1;funext J H1;refine propext (uW λW=>qA λ_=>?_);refine eP λi=>eP λm=>eP λys=>eP λH2=>eP λ_=>?_;refine or_congr rG (qA λ_=>qA λ_=>eP λv=>eP λH3=>eP λ_=>?_);constructor
 ·intro h own ho
  match own,ho with
  |[o],_=>exact{[some v],rfl,rfl,h}
 ·intro h;obtain⟨o4,e,l,q⟩:=h [none] rfl;exact q
def Hz(hc:X.calm=true)(S:vi X scope x fs fr)(hi:PI X (.Name x px) iter wi)
  (ht:∀C s H ex,CT (eY X (x::fs) scope C s H ex) ifs tt) (he:∀C s H ex,PE (eY X (x::fs) scope C s H ex) elt te) (hs:∀z,foldedSetIterable iter X.env z=pure z:=by intro _;rfl):
  PE X (.ListComp elt [{.Name x px,iter,ifs,0}] scope pos) (A5 wi fr tt te):=by
 rw[NH];exact Fv (more:=[]) hc {S,S.nd} hi (λC s H ex=>pD (i:=0) S.nd rfl (Or.inl (qe S.loc)) (.inr (qe S.loc))) ht he hs
def jq(hc:X.calm=true)(S:vi X scope x fs fr)(hi:PI X (.Name x px) iter wi)
  (he:∀C s H ex,PE (eY X (x::fs) scope C s H ex) elt te) (hs:∀z,foldedSetIterable iter X.env z=pure z:=by intro _;rfl):
  PE X (.ListComp elt [{.Name x px,iter,[],0}] scope pos) (A5 wi fr A4 te):=Hz hc S hi (λ_ _ _ _=>QA) he hs
def zL(hc:X.calm=true)(S:vi X scope x fs fr)(hi:PI X (.Name x px) iter wi)
  (ht:∀C s H ex,PT (eY X (x::fs) scope C s H ex) c tc) (he:∀C s H ex,PE (eY X (x::fs) scope C s H ex) elt te) (hs:∀z,foldedSetIterable iter X.env z=pure z:=by intro _;rfl):
  PE X (.ListComp elt [{.Name x px,iter,[c],0}] scope pos) (A5 wi fr tc te):=Hz hc S hi (λC s H ex=>aas (ht C s H ex)) he hs
def Cj(hc:X.calm=true)(S:xu X scope x more fs fr)(hi:PI X tg iter wi)(hg:∀C s H ex,PG (eY X (x::more++fs) scope C s H ex) tg g)
  (he:∀C s H ex,PE (eY X (x::more++fs) scope C s H ex) elt te) (hs:∀z,foldedSetIterable iter X.env z=pure z:=by intro _;rfl):
  PE X (.ListComp elt [{tg,iter,[],0}] scope pos) (zl wi (more.length+1) fr g A4 te):=Fv hc S hi hg (λ_ _ _ _=>QA) he hs
def yf(h:Nf X.env.scope X.N scope x fs fr=true:=by kernel_rfl)(h2:decide (x::more++fs).Nodup=true:=by kernel_rfl):xu X scope x more fs fr:={eG h,bA h2}
def Ez{K:Frag}(hc:X.calm=true)(h:AL X es t)(hK:X.K=K:=by rfl)
  (hn:(assignEach es X.env).length=n:=by rfl) (gD:(assignEach es X.env).findIdx? (·.1)=none:=by rfl):PG X (.Tuple es k pos) (SK K n t):=hK▸lL hc h hn gD
def qX(hN:decide X.N.Nodup=true:=by kernel_rfl)(hi:X.N[i]?=some x:=by rfl)(hl:X.env.scope.names.lookup x=some .local:=by first|rfl|exact qe rfl):PG X (.Name x pos) (rQ i):=
 pD (bA hN) hi (.inl hl) (.inr hl)
variable{K:Frag}{a:Addr}{xs:List V}{fr:List Nat}{tt:TT}{te:TE}{Z:St}{H1:Hp}{R:Addr->List V->Hp->Prop}
abbrev MX(K:Frag):TG:=SK K 2 (MY (rQ 0) (MY (rQ 1) aai))
abbrev Ge(J:It)(k:Nat)(fr:List Nat)(g:TG)(tt:TT)(te:TE)(Z:St)(H1:Hp)(R:Addr->List V->Hp->Prop):Prop:=
 ∃W:Nat->Nat->List V->Hp->Prop,(∃m,W 0 m [] H1)/\∀i m ys H2,W i m ys H2->
 (J.stop i H2/\ys.length<=sizeLine/\∀l,H2 l=none->R l ys H2)\/
 (J.go i H2/\ys.length<sizeLine/\∀v H3,J.zb i H2 v H3->∀own:St,own.length=k->g v (own++slotsOf fr Z) H3 λσ4 H4=>∃HG,σ4=HG++slotsOf fr Z/\HG.length=k/\tt σ4 H4 λb H5=>
  if b=true then te σ4 H5 (λy H6=>∃m',m'<m/\W (i+1) m' (ys++[y]) H6)else∃m',m'<m/\W (i+1) m' ys H5)
def KR{v a b:V}{own rest:St}(ho:own.length=2)(ev:v=.ref p)(hp:bq K H p [a,b])(h:Q (some a::some b::rest) H):MX K v (own++rest) H Q:=by
 match own,ho with
 |[o1,o2],_=>exact⟨p,_,ev,hp,rfl,_,_,rfl,_,_,rfl,rfl,h⟩
def D6(Pv:Nat->List V->Hp->Prop)(hx:xs.length<sizeLine)(h0:Pv 0 [] H1)(hl:∀i ys H,i<=xs.length->Pv i ys H->bw K H a xs/\ys.length<=i)
  (hs:∀(i:Nat)(x:V)(ys:List V)(H:Hp)(N:List V->Hp->Prop),xs[i]?=some x->Pv i ys H->(∀gQ H',Pv (i+1) gQ H'->N gQ H')->
   ∃p b c,x=.ref p/\bq K H p [b,c]/\tt (some b::some c::slotsOf fr Z) H λt H4=>if t=true then te (some b::some c::slotsOf fr Z) H4 (λy H5=>N (ys++[y]) H5)else N ys H4)
  (hd:∀ys H,Pv xs.length ys H->∀l,H l=none->R l ys H):Ge (Jn K a) 2 fr (MX K) tt te Z H1 R:=by
 refine{λi m ys H=>m=xs.length -i/\i<=xs.length/\Pv i ys H,{xs.length,by simp,aR _,h0},?_};rintro i m ys H ⟨rfl,hi,p⟩;obtain⟨q,hy⟩:=hl i ys H hi p;by_cases bR:i<xs.length
 ·refine .inr {{xs,_,q,ao bR},by lia,?_};rintro v H3 ⟨rfl,hv⟩ own ho;obtain⟨pp,b,c,ev,hp,h⟩:=hs i v ys H3 (λgQ H'=>∃m',m'<xs.length -i/\m'=xs.length -(i+1)/\i+1<=xs.length/\Pv (i+1) gQ H') (hv xs q) p λgQ H' p'=>{_,by lia,rfl,bR,p'};exact KR ho ev hp {[some b,some c],rfl,rfl,h}
 ·have e:i=xs.length:=by lia
  subst e;exact .inl {{xs,q,ak _},by lia,hd ys H p}
end
end L2
namespace L2
open PySem PySem.Spec PyProof.Rows PySem.W Builtin Builtin.ObjectAttr
noncomputable def Qh:List Value->Bool
 | .ref _::r=>Qh r
 |l=>l==[.type "ValueError",.type "Exception",.type "BaseException",.type "object"]
structure adA(K:Frag)(C:Addr):Prop where
 ga:findIn K (.ref C) "__getattribute__"=some (some (.builtin "BaseException.__getattribute__"))
 gt:findIn K (.ref C) "__getattr__"=some none
 sa:findIn K (.ref C) "__setattr__"=some (some (.builtin "object.__setattr__"))
 be:mroIn K C (.type "BaseException")=some true
 ob:mroIn K C (.type "object")=some true
 hd:hasDictIn K C=true
 tl:(clsIn K C).any (λcd=>Qh cd.mro)=true
 cl:findIn K (.ref C) "__class__"=some (some (.builtin "object.__class__"))
 cg:specialIn K (.builtin "object.__class__") "__get__"=some (some (.builtin "getset_descriptor.__get__"))
 ct:takesIn K (.builtin "object.__class__")=some true
end L2
namespace L2
open PySem PySem.Spec PyProof.Rows PySem.W
abbrev ac4(C:Addr)(dd:Option Addr)(t:Addr)(tb:Value):Obj:={cls:=.ref C,dict:=dd,data:=.fields #[.ref t,tb,.none,.none,.bool false,.none]}
def adf(e C:Addr)(dd:Option Addr):Heap->Prop:=λh=>∃t tb,h.get? e=some (ac4 C dd t tb)
def gone(H:Hp)(e C:Addr)(dd:Option Addr):Hp:=upd H e (.ext (adf e C dd))
abbrev Cx.held(X:Cx)(q:List (Addr×Obj))(E:Value->Shared->Prop):Cx:={X with pn:=q,xe:=E}
section
variable{X:Cx}{K:Frag}
def HA{T id:String}(pa:PlainAttrs T)(slot:Slot T name id)(Za:typeOf (.builtin id)=pure (.type "method_descriptor"))(hm:QP X id r)(ho:PE X o to)(ha:PA X (e::es) t)
  (DP:attributeBase o name X.env (eval o X.env)=eval o X.env:=by rfl)
  (Sz:((backTo d0 (starEach (e::es) X.env)).all (λx=>!x.1)&&(backToKw d0 (keywordEach [] X.env)).all (λx=>x.1.isSome)&&decide ((e::es).length+([]:List Keyword).length+(if([]:List Keyword).isEmpty then 0 else 1)<30))=true:=by rfl)
  (DM:(apos.endLine==d0.line)=true:=by rfl) (hs:starEach (e::es) X.env=(false,eval e X.env)::starEach es X.env:=by rfl) (IC:(backTo d0 (starEach es X.env)).any (·.1)=false:=by rfl) (h:X.K=K:=by rfl):
  PE X (.Call (.Attribute o name apos) (e::es) [] d0) (tBM K T r to t):=h▸mn pa slot Za hm ho ha DP Sz DM hs IC
end
end L2
namespace L2
open PySem PySem.Spec PyProof.Rows
section
variable{P:Program}{w:World}{A:Around}{E:Value->Shared->Prop}{v:Shared}
structure Zt(h:Heap)(z ti to i1 i2 l1 l2:Addr)(f:Value)(k:Nat):Prop where
 self:IsZip h z ti to f
 ins:IsPair h ti (.ref i1) (.ref i2)
 outs:∃a b,IsPair h to a b
 w1:h.IsTupleIter i1 l1 k
 w2:h.IsTupleIter i2 l2 k
structure QM(z ti to i1 i2 l1 l2:Addr):Prop where
 BE:ti≠to
 KW:i1≠i2
 nl1:l1≠to
 nl2:l2≠to
def cy{h:Heap}(e:h.get? a=some o)(e':h.get? b=some o')(c:o.cls=.type m)(c':o'.cls=.type n)(d:m≠n):a≠b:=λg=>by rw[g,e']at e;cases e;rw[c]at c';cases c';exact d rfl
def Zt.ne(g:Zt h z ti to i1 i2 l1 l2 f k):(ti≠z/\to≠z/\i1≠z/\i2≠z)/\(ti≠i1/\ti≠i2/\to≠i1/\to≠i2):=by
 obtain⟨gs,gi,⟨a,b,go⟩,⟨o1,q1,c1,_⟩,⟨o2,q2,c2,_⟩⟩:=g;exact{{cy gi gs rfl rfl (by decide),cy go gs rfl rfl (by decide),cy q1 gs c1 rfl (by decide),cy q2 gs c2 rfl (by decide)},
  cy gi q1 rfl c1 (by decide),cy gi q2 rfl c2 (by decide),cy go q1 rfl c1 (by decide),cy go q2 rfl c2 (by decide)}
def tup_ne(g:Zt h z ti to i1 i2 l1 l2 f k)(t:h.IsTuple l xs):l≠z/\l≠i1/\l≠i2:=by obtain⟨gs,_,_,⟨o1,q1,c1,_⟩,⟨o2,q2,c2,_⟩⟩:=g;obtain⟨o,q,c,_⟩:=t;exact{cy q gs c rfl (by decide),cy q q1 c c1 (by decide),cy q q2 c c2 (by decide)}
def iG(g:h.IsTupleIter j p k)(s:Heap.SameBut b h h')(n:j≠b):h'.IsTupleIter j p k:=by obtain⟨o,q,r⟩:=g;exact{o,s.extBut _ _ n q,r}
def nK(g:h.IsTuple l xs)(s:Heap.SameBut b h h')(n:l≠b):h'.IsTuple l xs:=by obtain⟨o,q,r⟩:=g;exact{o,s.extBut _ _ n q,r}
def xO(g:IsPair v.heap t a b)
  (q:∀h',h'.get? t=some {cls:=.type "tuple",data:=.seq ((#[a,b]:Array Value).setIfInBounds k x)}->Heap.SameBut t v.heap h'->Q () {v with heap:=h'}):
  wpAny (model P w) A (updateSeq t (·.setIfInBounds k x)) Q E v:=wpAny_updateSeq_pair g q
def Vv{Q:Value->Shared->Prop}(d:QM z ti to i1 i2 l1 l2)(g:Zt v.heap z ti to i1 i2 l1 l2 .none k)
  (t1:v.heap.IsTuple l1 xs) (t2:v.heap.IsTuple l2 ys) (ex:xs[k]?=some x) (ey:ys[k]?=some y)
  (q:∀h',Zt h' z ti to i1 i2 l1 l2 (rawInt v.heap.objs.size) (k+1)->IsPair h' v.heap.objs.size x y->(∀c o,c≠z->c≠to->c≠i1->c≠i2->v.heap.get? c=some o->h'.get? c=some o)->Q (.ref v.heap.objs.size) {v with heap:=h'}):
  wpAny (model P w) A (Builtin.«zip.__next__» {[.ref z],[]}) (λfin s'=>∃u,fin=.done (.ret u)/\Q u s') E v:=by
 obtain⟨⟨a1,a2,a3,a4⟩,a5,a6,a7,a8⟩:=g.ne;obtain⟨b1,b2,b3⟩:=tup_ne g t1;obtain⟨c1,c2,c3⟩:=tup_ne g t2;obtain⟨gs,gi,⟨a,b,go⟩,g1,g2⟩:=g;show wpAny _ _ (field (.ref z) 2>>=_) _ _ _;refine ae (bF gs rfl (x:=.bool false) rfl ?_);show wpAny _ _ (field (.ref z) 3>>=_) _ _ _;refine ae (bF gs rfl (x:=.ref ti) rfl ?_);refine ae (bO gi rfl ?_);show wpAny _ _ (Builtin.SmallTypes.ownedTupleIsFree (.ref z)>>=_) _ _ _;refine ae ?_;unfold Builtin.SmallTypes.ownedTupleIsFree;refine ae (bF gs rfl (x:=.none) rfl (af ?_));simp only[rf];refine ae (fE ?_);refine ae (bF gs rfl (x:=.ref to) rfl ?_);refine ae (bS gs (by simp) λp1 k1 r1=>?_)
 replace k1:IsZip p1 z ti to .ellipsis:=k1
 refine ae ?_;simp only[ph,List.zipIdx_nil,mF,xt];refine ae (ae (lF ?_));show wpAny _ _ (Builtin.SmallTypes.nextOf (.ref i1)>>=_) _ _ _;refine ae (t7 (iG g1 r1 a3) (nK t1 r1 b1) ex λp2 k2 r2=>af ?_);have o2:IsPair p2 to a b:=r2.extBut _ _ a7 (r1.extBut _ _ a2 go);refine ae (bO o2 rfl ?_);refine ae (xO o2 λp3 o3 r3=>?_)
 replace o3:IsPair p3 to x b:=o3
 refine ae (lR (af ?_));refine ae (ae (lF ?_));show wpAny _ _ (Builtin.SmallTypes.nextOf (.ref i2)>>=_) _ _ _;refine ae (t7 (iG (iG (iG g2 r1 a4) r2 d.KW.symm) r3 a8.symm) (nK (nK (nK t2 r1 c1) r2 c2) r3 d.nl2) ey λp4 k4 r4=>af ?_);have o4:IsPair p4 to x b:=r4.extBut _ _ a8 o3;refine ae (bO o4 rfl ?_);refine ae (xO o4 λp5 o5 r5=>?_)
 replace o5:IsPair p5 to x y:=o5
 refine ae (lR (af (af ?_)));refine ae (bO o5 rfl ?_);refine ae (kr ?_);have sz:p5.objs.size=v.heap.objs.size:=by rw[r5.1,r4.1,r3.1,r2.1,r1.1]
 have z5:IsZip p5 z ti to .ellipsis:=r5.extBut _ _ a2.symm (r4.extBut _ _ a4.symm (r3.extBut _ _ a2.symm (r2.extBut _ _ a3.symm k1)));have st:∀c o,c≠z->c≠to->c≠i1->c≠i2->v.heap.get? c=some o->p5.get? c=some o:=λc o m1 m2 m3 m4 e=>
  r5.extBut _ _ m2 (r4.extBut _ _ m4 (r3.extBut _ _ m2 (r2.extBut _ _ m3 (r1.extBut _ _ m1 e))))
 have j1:p5.IsTupleIter i1 l1 (k+1):=iG (iG (iG k2 r3 a7.symm) r4 d.KW) r5 a7.symm;have j2:p5.IsTupleIter i2 l2 (k+1):=iG k4 r5 a8.symm;have lz:z<p5.objs.size:=aB z5;show wpAny _ _ (Builtin.SmallTypes.ownedTupleHandOut (.ref z) (.ref p5.objs.size)>>=_) _ _ _;refine ae ?_;unfold Builtin.SmallTypes.ownedTupleHandOut;have z6:IsZip (p5.push {cls:=.type "tuple",data:=.seq #[x,y]}) z ti to .ellipsis:=ah _ z5;refine ae (bS z6 (by simp) λp7 z7 r7=>?_)
 replace z7:IsZip p7 z ti to (rawInt p5.objs.size):=z7
 refine bS z7 (by simp) λp8 z8 r8=>?_
 replace z8:IsZip p8 z ti to (rawInt p5.objs.size):=z8
 have up:∀c o,c≠z->p5.get? c=some o->p8.get? c=some o:=λc o m e=>r8.extBut _ _ m (r7.extBut _ _ m (ah _ e));have n8:IsPair p8 p5.objs.size x y:=r8.extBut _ _ (bC lz) (r7.extBut _ _ (bC lz) (aD _ rfl));rw[sz]at z8 n8;refine af {_,rfl,?_};show Q (.ref p5.objs.size) _;rw[sz];obtain⟨oa,ja,ra⟩:=j1;obtain⟨ob,jb,rb⟩:=j2;refine q p8 {z8,?_,{x,y,up _ _ a2 o5},{oa,up _ _ a3 ja,ra},{ob,up _ _ a4 jb,rb}} n8 λc o m1 m2 m3 m4 e=>up c o m1 (st c o m1 m2 m3 m4 e);exact up _ _ a1 (st _ _ a1 d.BE a5 a6 gi)
def WZ{z ti to i1 i2 l1 l2:Addr}{k:Nat}{xs ys:Array Value}{Q:Fin->Shared->Prop}(hh:A.handled=none)(d:QM z ti to i1 i2 l1 l2)(g:Zt v.heap z ti to i1 i2 l1 l2 .none k)
  (t1:v.heap.IsTuple l1 xs) (ex:xs[k]?=none)
  (q:∀h' e,(∀c o,c≠z->c≠to->c≠i1->c≠i2->v.heap.get? c=some o->h'.get? c=some o)->(∃o,h'.get? e=some o/\o.cls=.type "StopIteration")->E (.ref e) {v with heap:=h'}):
  wpAny (model P w) A (Builtin.«zip.__next__» {[.ref z],[]}) Q E v:=by
 obtain⟨⟨a1,a2,a3,a4⟩,a5,a6,a7,a8⟩:=g.ne;obtain⟨b1,b2,b3⟩:=tup_ne g t1;obtain⟨gs,gi,⟨a,b,go⟩,g1,g2⟩:=g;show wpAny _ _ (field (.ref z) 2>>=_) _ _ _;refine ae (bF gs rfl (x:=.bool false) rfl ?_);show wpAny _ _ (field (.ref z) 3>>=_) _ _ _;refine ae (bF gs rfl (x:=.ref ti) rfl ?_);refine ae (bO gi rfl ?_);show wpAny _ _ (Builtin.SmallTypes.ownedTupleIsFree (.ref z)>>=_) _ _ _;refine ae ?_;unfold Builtin.SmallTypes.ownedTupleIsFree;refine ae (bF gs rfl (x:=.none) rfl (af ?_));simp only[rf];refine ae (fE ?_);refine ae (bF gs rfl (x:=.ref to) rfl ?_);refine ae (bS gs (by simp) λp1 k1 r1=>?_)
 replace k1:IsZip p1 z ti to .ellipsis:=k1
 refine ae ?_;simp only[ph,List.zipIdx_nil,mF,xt];refine ae (ae (lF ?_));show wpAny _ _ (Builtin.SmallTypes.nextOf (.ref i1)>>=_) _ _ _;refine ae (wV hh (iG g1 r1 a3) (nK t1 r1 b1) ex λp2 e r2 he=>?_);obtain⟨oe,ge,ce⟩:=he;have z2:IsZip p2 z ti to .ellipsis:=r2 _ _ a3.symm k1;have Yp:e≠z:=cy ge z2 ce rfl (by decide);refine bS z2 (by simp) λp3 _ r3=>q p3 e (λc o m1 _ m3 _ e=>r3.extBut _ _ m1 (r2 _ _ m3 (r1.extBut _ _ m1 e))) {oe,r3.extBut _ _ Yp ge,ce}
variable{X:Cx}{pins:List (Addr×Obj)}{Z:St}{H:Hp}{s:Shared}
def Inv.freeze(I:Inv X pins Z H s)(hd:H d=some (.dK kvs))(ho:s.heap.get? d=some o):Inv X pins Z (upd H d (.eO o (.dK kvs))) s:=by
 have nd:∀b u,H b=some u->(∀l,u≠ .dK l)->b≠d:=λb u q n z=>by rw[z,hd]at q;exact n kvs (bL q).symm
 have gE:∀b,H b=none->b≠d:=λb q z=>by rw[z,hd]at q;cases q
 refine I.un (h':=s.heap) (t':=s.toks) {λb u e _ _ _=>e,λb u e _ _ _=>{u.slots,e},λb u e n _=>by rw[ax (gE b n)];exact n,λb u e _=>⟨u,e⟩,λb xs q=>by rw[ax (nd b _ q λl z=>by cases z)];exact q,λb u v q=>by rw[ax (nd b _ q λl z=>by cases z)];exact q,λb ps q=>{#[],by rw[ax (nd b _ q λl z=>by cases z),q];simp}} λb u g=>?_;by_cases hb:b=d
 ·subst hb;rw[aw]at g;cases g;exact{ho,I.br b _ hd}
 ·rw[ax hb]at g;exact(I.br b u g).iQ (λc v hc q=>q) (λc q=>by rw[ax (nd c _ q λl z=>by cases z)];exact q) λc ys q=>by rw[ax (nd c _ q λl z=>by cases z)];exact q
end
section
variable{X:Cx}
theorem ints_of:∀{ns:List Int}{us:List Value},Vals (ns.map V.int) us->IntsAre us ns
 |[],_,.nil=>.nil
 |n::ns,_,.cons ⟨t,r⟩ q=>by subst r;exact .cons _ _ (ints_of q)
def Ta(hc:X.calm=true):j6 X (.builtin "sum") (λxs H Q=>∃(a:Addr)(ns:List Int),xs=[.ref a]/\bw X.K H a (ns.map V.int)/\Q (.int ns.sum) H):=by
 intro pins s Z H xs us Q I r h;obtain⟨a,ns,rfl,hq,q⟩:=h;obtain⟨u,rfl,ru⟩:=l9 r;cases ru;obtain⟨aT,rv,pl,hz⟩:=I.list hq;have ia:=ints_of rv;obtain⟨ws,ex⟩:=ia.allInts.items;have en:ws.toList.map (·.1)=ns:=by rw[<-nums_intItems,<-ex];exact ia.numsOf
 refine sum_intListG (xs:=ws) (I.ok.hd hc) (by rw[<-ex];exact pl.isList) λh' tk t' hk=>?_;have e:preSum (numAt ws) ws.size=ns.sum:=by rw[preSum_eq,dn (by simp),en]
 rw[e];exact{.int ns.sum,H,I.kept (t':=tk) hk,⟨_,rfl⟩,q}
variable{pins:List (Addr×Obj)}{Z:St}{H:Hp}{s:Shared}{h':Heap}
def Inv.J5{ch:List Addr}(I:Inv X pins Z H s)(k:∀b o,b∉ch->s.heap.get? b=some o->h'.get? b=some o)(fc:∀b∈ch,pq X pins H b)
  (hp:s.heap.objs.size<=p) (ht:IsTup h' p us.toArray/\∃o,h'.get? p=some o/\o.dict=none) (r:Vals xs us) (hz:xs.length<=sizeLine):Inv X pins Z (upd H p (.tup xs)) {s with heap:=h',toks:=t'}:=by
 have hn:=I.br.fresh hp;have fp:=I.uV hp hn;have nH:∀b u,H b=some u->b∉ch/\b≠p:=λb u g=>{(λz=>by rw[(fc b z).1]at g;cases g),λz=>by rw[z,hn]at g;cases g};refine I.step (g':=s.gens) (d':=s.drawn) (ch:=p::ch) (λb hb=>?_) (λb o _ _ hc g _=>k b o (λz=>hc (az _ z)) g) (λb o _ _ hc g _=>{o.slots,k b o (λz=>hc (az _ z)) g})
  (λb o hc g n=>by rw[ax λz=>hc (by rw[z];exact aA)];exact n) (λb o hc g=>{o,k b o (λz=>hc (az _ z)) g})
  (λb ys g=>by rw[ax (nH b _ g).2];exact g) (λb o u g=>by rw[ax (nH b _ g).2];exact g) (λb ps g=>{#[],by rw[ax (nH b _ g).2,g];simp}) (λm hm=>?_) (λb u g=>?_) I.bare
 ·rcases aE.mp hb with rfl|z
  ·exact{fp.2.2.2.1,fp.2.1,fp.2.2.2.2.1,fp.2.2.2.2.2}
  ·have f:=fc b z;exact{f.2.2.2.1,f.2.1,f.2.2.2.2.1,f.2.2.2.2.2}
 ·obtain⟨o,es,ep,ho,r'⟩:=hm;exact{o,es,ep,k _ o (λz=>(fc _ z).2.1 rfl) ho,r'}
 ·by_cases hb:b=p
  ·subst hb;rw[aw]at g;cases g;exact⟨hz,us,r,ht⟩
  ·rw[ax hb]at g;refine(I.br b u g).iQ (λc v hc q=>?_) (λc q=>?_) λc ys q=>?_
   ·rcases hc with z|z
    ·rw[z];rw[z]at q;exact k b v (nH b _ g).1 q
    ·exact k c v (nH c _ z).1 q
   ·rw[ax (nH c _ q).2];exact q
   ·rw[ax (nH c _ q).2];exact q
def Inv.Ka{ch:List Addr}(I:Inv X pins Z H s)(k:∀b o,b∉ch->s.heap.get? b=some o->h'.get? b=some o)(fc:∀b∈ch,pq X pins H b):Inv X pins Z H {s with heap:=h',toks:=t'}:=by
 have nH:∀b u,H b=some u->b∉ch:=λb u g z=>by rw[(fc b z).1]at g;cases g
 refine I.step (g':=s.gens) (d':=s.drawn) (ch:=ch) (λb z=>?_) (λb o _ _ hc g _=>k b o hc g) (λb o _ _ hc g _=>{o.slots,k b o hc g}) (λ_ _ _ _ n=>n) (λb o hc g=>{o,k b o hc g})
  (λ_ _ g=>g) (λ_ _ _ g=>g) (λb ps g=>{#[],by rw[g];simp}) (λm hm=>?_) (λb u g=>?_) I.bare
 ·have f:=fc b z;exact{f.2.2.2.1,f.2.1,f.2.2.2.2.1,f.2.2.2.2.2}
 ·obtain⟨o,es,ep,ho,r'⟩:=hm;exact{o,es,ep,k _ o (λz=>(fc _ z).2.1 rfl) ho,r'}
 ·refine(I.br b u g).iQ (λc v hc q=>k c v ?_ q) (λ_ q=>q) λ_ _ q=>q;rcases hc with z|z
  ·rw[z];exact nH b _ g
  ·exact nH c _ z
end
section
variable{P:Program}{w:World}{A:Around}{E:Value->Shared->Prop}{v:Shared}
def JQ(d:QM z ti to i1 i2 l1 l2)(g:Zt v.heap z ti to i1 i2 l1 l2 .none k)
  (t1:v.heap.IsTuple l1 xs) (t2:v.heap.IsTuple l2 ys) (ex:xs[k]?=some x) (ey:ys[k]?=some y)
  (q:∀h',Zt h' z ti to i1 i2 l1 l2 (rawInt v.heap.objs.size) (k+1)->IsPair h' v.heap.objs.size x y->(∀c o,c≠z->c≠to->c≠i1->c≠i2->v.heap.get? c=some o->h'.get? c=some o)->Q (some (.ref v.heap.objs.size)) {v with heap:=h'}):
  wpAny (model P w) A (pyNext (.ref z)) Q E v:=by
 have ty:v.TypeIs (.ref z) "zip":={_,g.self,rfl};unfold pyNext;exact ae (dq (wpAny_callSpecial?_slot (name:=Str.ofString "__next__") ty dO (ba dO ty jC (Vv d g t1 t2 ex ey λh' b1 b2 b3=>af (q h' b1 b2 b3)) (je _))))
def JP(hh:A.handled=none)(d:QM z ti to i1 i2 l1 l2)(g:Zt v.heap z ti to i1 i2 l1 l2 .none k)
  (t1:v.heap.IsTuple l1 xs) (ex:xs[k]?=none)
  (q:∀h',(∀c o,c≠z->c≠to->c≠i1->c≠i2->v.heap.get? c=some o->h'.get? c=some o)->Q none {v with heap:=h'}):
  wpAny (model P w) A (pyNext (.ref z)) Q E v:=by
 have ty:v.TypeIs (.ref z) "zip":={_,g.self,rfl};unfold pyNext;refine ae (dq (wpAny_callSpecial?_slot (name:=Str.ofString "__next__") ty dO (ba dO ty jC (WZ (ys:=#[]) hh d g t1 ex λh' e hk he=>?_) (je _))));obtain⟨o,ho,hc⟩:=he;exact ae (fq (T:="StopIteration") (b:=true) ⟨o,ho,hc⟩ jr (af (q _ hk)))
abbrev Tq(h:Heap)(l1:Addr):Heap:=h.push {cls:=.type "tuple_iterator",data:=.fields #[.ref l1,.int 0 0]}
abbrev Tp(h:Heap)(l1 l2:Addr):Heap:=(Tq h l1).push {cls:=.type "tuple_iterator",data:=.fields #[.ref l2,.int 0 0]}
abbrev To(h:Heap)(l1 l2:Addr):Heap:=(Tp h l1 l2).push {cls:=.type "tuple",data:=.seq #[.ref h.objs.size,.ref (Tq h l1).objs.size]}
abbrev Tj(h:Heap)(l1 l2:Addr):Heap:=(To h l1 l2).push {cls:=.type "tuple",data:=.seq #[.none,.none]}
abbrev JU(h:Heap)(l1 l2:Addr):Heap:=(Tj h l1 l2).push {cls:=.type "zip",data:=.fields #[.none,.bool false,.bool false,.ref (Tp h l1 l2).objs.size,.ref (To h l1 l2).objs.size]}
def W0(l1 l2:Addr)(xs ys:Array Value):
  Meets (Builtin.«zip.__new__» {[.type "zip",.ref l1,.ref l2],[]}) (λ_ R s=>s.heap.IsTuple l1 xs/\s.heap.IsTuple l2 ys/\R (.ok (.ret (.ref (Tj s.heap l1 l2).objs.size))) {s with heap:=JU s.heap l1 l2}):=
 .of_wp λprog w A R s h=>by
  obtain⟨hp,g,d,tk,os⟩:=s;obtain⟨mB,jF,h⟩:=h;have Sj:=sub_zip;have hL1:Heap.IsTuple (Shared.heap ⟨hp,g,d,tk,os⟩) l1 xs:=mB;have hL2:Heap.IsTuple (Shared.heap ⟨hp.push {cls:=.type "tuple_iterator",data:=.fields #[.ref l1,.int 0 0]},g,d,tk,os⟩) l2 ys:=by obtain⟨o,e,r⟩:=jF;exact{o,ah _ e,r}
  wp_walk using rU hL1,rU hL2
  exact⟨_,rfl,h⟩
def JT(h1:v.heap.IsTuple l1 xs)(h2:v.heap.IsTuple l2 ys)
  (q:∀h' n,n=v.heap.objs.size->Zt h' (n+4) (n+2) (n+3) n (n+1) l1 l2 .none 0->(∀c o,v.heap.get? c=some o->h'.get? c=some o)->Q (.ref (n+4)) {v with heap:=h'}):
  wpAny (model P w) A (call (.type "zip") [.ref l1,.ref l2]) Q E v:=by
 refine callType_new F.called_zip (by decide) (F.typeCall_zip_2 _ _) (F.newCall_zip_2 _ _) (λobj=>yx obj _ _) F.entry_zip_new (W0 l1 l2 xs ys) {h1,h2,?_};have e1:(Tq v.heap l1).objs.size=v.heap.objs.size+1:=b7 ..;have e2:(Tp v.heap l1 l2).objs.size=v.heap.objs.size+2:=by rw[b7,e1]
 have e3:(To v.heap l1 l2).objs.size=v.heap.objs.size+3:=by rw[b7,e2]
 have e4:(Tj v.heap l1 l2).objs.size=v.heap.objs.size+4:=by rw[b7,e3]
 have g5:(JU v.heap l1 l2).get? (Tj v.heap l1 l2).objs.size=some _:=aD _ rfl;have g4:(JU v.heap l1 l2).get? (To v.heap l1 l2).objs.size=some _:=ah _ (aD _ rfl);have g3:(JU v.heap l1 l2).get? (Tp v.heap l1 l2).objs.size=some _:=ah _ (ah _ (aD _ rfl));have g2:(JU v.heap l1 l2).get? (Tq v.heap l1).objs.size=some _:=ah _ (ah _ (ah _ (aD _ rfl)));have g1:(JU v.heap l1 l2).get? v.heap.objs.size=some _:=ah _ (ah _ (ah _ (ah _ (aD _ rfl))));show _/\_;rw[e2,e3,e4]at g5;rw[e1,e2]at g3;rw[e3]at g4;rw[e1]at g2;rw[e4];exact{⟨_,g5,rfl⟩,q _ _ rfl {g5,g3,⟨_,_,g4⟩,⟨_,g1,rfl,rfl⟩,⟨_,g2,rfl,rfl⟩} λc o x=>ah _ (ah _ (ah _ (ah _ (ah _ x))))}
def Itz(K:Frag)(a b:Addr):It:=
 {λi H=>∃xs ys x y,bq K H a xs/\bq K H b ys/\xs[i]?=some x/\ys[i]?=some y,
  λi H u H'=>∃p x y,u=.ref p/\H p=none/\H'=upd H p (.tup [x,y])/\(∀xs,bq K H a xs->xs[i]?=some x)/\∀ys,bq K H b ys->ys[i]?=some y,
  λi H=>∃xs,bq K H a xs/\xs.length=i}
def f7(z ti to i1 i2:Addr):List Addr:=[z,ti,to,i1,i2]
end
def QZ{K:Frag}(a b z ti to i1 i2:Addr)(dd:QM z ti to i1 i2 a b):Turn P w K (.Tuple elts kk ps) (Itz K a b) (f7 z ti to i1 i2) z (λi h=>Zt h z ti to i1 i2 a b .none i) where
 mem:=aA
 obj:=λi h st c hc=>by
  obtain⟨gs,gi,⟨u,v,go⟩,⟨o1,q1,c1,d1⟩,⟨o2,q2,c2,d2⟩⟩:=st;have kQ:c=z\/c=ti\/c=to\/c=i1\/c=i2:=by simpa[f7]using hc
  rcases kQ with rfl|rfl|rfl|rfl|rfl
  ·exact{_,gs,λv z=>by cases z}
  ·exact{_,gi,λv z=>by cases z}
  ·exact{_,go,λv z=>by cases z}
  ·exact{_,q1,λv z=>by rw[d1]at z;cases z}
  ·exact{_,q2,λv z=>by rw[d2]at z;cases z}
 keep:=λi h h' st k=>by obtain⟨gs,gi,⟨u,v,go⟩,⟨o1,q1,r1⟩,⟨o2,q2,r2⟩⟩:=st;exact{k z (by simp[f7]) _ gs,k ti (by simp[f7]) _ gi,{u,v,k to (by simp[f7]) _ go},{o1,k i1 (by simp[f7]) _ q1,r1},{o2,k i2 (by simp[f7]) _ q2,r2}}
 item:=by
  intro X hP hw hK hc i pins s Z H E I hf st hg;subst hP hw hK;obtain⟨xs,ys,x,y,ha,hb,hx,hy⟩:=hg;obtain⟨DG,Hc,Du,vN⟩:=I.tuple ha;obtain⟨Ac,Hb,zJ,qr⟩:=I.tuple hb;obtain⟨u1,vO,He⟩:=Hc.get hx;obtain⟨u2,qt,Dm⟩:=Hb.get hy;refine JQ dd st (show s.heap.IsTuple a DG.toArray from Du) (show s.heap.IsTuple b Ac.toArray from zJ) (x:=u1) (y:=u2) (by simpa using vO) (by simpa using qt) λh1 g1 pr kp=>{_,rfl,?_};refine tU g1.self λh2 z2 sb=>?_;have rW:Heap.SameBut z h1 h2:=sb;have lz:z<s.heap.objs.size:=aB st.self;have al:∀c∈f7 z ti to i1 i2,c<s.heap.objs.size:=λc hc=>by
   obtain⟨gs,gi,⟨u,v,go⟩,⟨o1,q1,r1⟩,⟨o2,q2,r2⟩⟩:=id st;have kQ:c=z\/c=ti\/c=to\/c=i1\/c=i2:=by simpa[f7]using hc
   rcases kQ with rfl|rfl|rfl|rfl|rfl
   ·exact aB gs
   ·exact aB gi
   ·exact aB go
   ·exact aB q1
   ·exact aB q2
  have uN:∀c o,c∉f7 z ti to i1 i2->s.heap.get? c=some o->h2.get? c=some o:=λc o hc e=>
   rW.extBut c o (λt=>hc (by simp[f7,t])) (kp c o (λt=>hc (by simp[f7,t])) (λt=>hc (by simp[f7,t])) (λt=>hc (by simp[f7,t])) (λt=>hc (by simp[f7,t])) e)
  have tp:IsTup h2 s.heap.objs.size ([u1,u2]:List Value).toArray/\∃o,h2.get? s.heap.objs.size=some o/\o.dict=none:={{_,rW.extBut _ _ (bC lz) pr,rfl,_,rfl},_,rW.extBut _ _ (bC lz) pr,rfl};have I2:=I.J5 (t':=s.toks) (xs:=[x,y]) uN hf (ak _) tp (.cons He (.cons Dm .nil)) (by show 2<=sizeLine;decide);obtain⟨⟨n1,n2,n3,n4⟩,n5,n6,n7,n8⟩:=g1.ne;obtain⟨gs,gi,⟨u,v,go⟩,⟨o1,q1,r1⟩,⟨o2,q2,r2⟩⟩:=g1;refine{.ref s.heap.objs.size,_,I2,rfl,{_,x,y,rfl,I.br.fresh (ak _),rfl,λzs hz=>by rw[I.zg hz ha];exact hx,λzs hz=>by rw[I.zg hz hb];exact hy},{z2,rW.extBut _ _ n1 gi,{u,v,rW.extBut _ _ n2 go},{o1,rW.extBut _ _ n3 q1,r1},{o2,rW.extBut _ _ n4 q2,r2}},λc hc=>?_};rw[ax (aI (al c hc))];exact(hf c hc).1
 done:=by intro X hP hw hK hc i pins s Z H E I hf st hg;subst hP hw hK;obtain⟨xs,ha,hx⟩:=hg;obtain⟨DG,Hc,Du,vN⟩:=I.tuple ha;have hl:=Hc.length;refine JP (I.ok.hd hc) dd st (show s.heap.IsTuple a DG.toArray from Du) (by simp;lia) λh1 kp=>{rfl,I.Ka (t':=s.toks) (ch:=f7 z ti to i1 i2) (λc o hc e=>kp c o (λt=>hc (by simp[f7,t])) (λt=>hc (by simp[f7,t])) (λt=>hc (by simp[f7,t])) (λt=>hc (by simp[f7,t])) e) hf}
 self:=λ_ _ _ _ _ st h=>kT st.self h
inductive YV(K:Frag)(R:It->Hp->Prop)(vs:List V)(H1:Hp):Prop
 |mk a b (_:vs=[.ref a,.ref b]) (_:(∃xs,bq K H1 a xs)) (_:(∃ys,bq K H1 b ys)) (_:R (Itz K a b) H1)
def aa9(K:Frag)(ta:TA):TI:=λZ H R=>ta Z H λvs H1=>YV K R vs H1
def V5(hg:Gl X "zip")(hm:X.mg "zip"=none)(ha:PA X [a,b] ta)(hs:starEach [a,b] X.env=[(false,eval a X.env),(false,eval b X.env)]:=by rfl)(kP:starEach [b] X.env=[(false,eval b X.env)]:=by rfl):
  PI X (.Tuple elts kk ps) (.Call (.Name "zip" p) [a,b] [] pos) (aa9 X.K ta):=by
 intro pins s Z H R I h;refine Ei (qg I hg hm boot_zip (dB (pU (ha pos pins s Z H _ I h) λus s1 vs H1 I1 r1 q1=>?_) (by rw[hs,kP]) (by rw[kP];rfl)));obtain⟨l1,l2,e,⟨xs,ha⟩,⟨ys,hb⟩,q⟩:=q1;subst e;obtain⟨u1,u2,rfl,He,Dm⟩:=vals2 r1;cases He;cases Dm;obtain⟨DG,Hc,Du,vN⟩:=I1.tuple ha;obtain⟨Ac,Hb,zJ,qr⟩:=I1.tuple hb;have t1:s1.heap.IsTuple l1 DG.toArray:=Du;have t2:s1.heap.IsTuple l2 Ac.toArray:=zJ;have b1:l1<s1.heap.objs.size:=by obtain⟨o,e,_⟩:=t1;exact aB e
 have b2:l2<s1.heap.objs.size:=by obtain⟨o,e,_⟩:=t2;exact aB e
 refine JT t1 t2 λh' n en g kp=>?_;subst en;have I2:Inv X pins Z H1 {s1 with heap:=h'}:=I1.kept (t':=s1.toks) kp;refine kT g.self ?_;refine{_,_,_,_,H1,rfl,I2,QZ l1 l2 _ _ _ _ _ {?_,?_,?_,?_},g,λc hc=>?_,q}
 ·exactλt=>absurd t (aI (dv _))
 ·exactλt=>absurd t (aI (dv _))
 ·exact aI (aW b1 (dw _ _))
 ·exact aI (aW b2 (dw _ _))
 ·have kQ:c=s1.heap.objs.size+4\/c=s1.heap.objs.size+2\/c=s1.heap.objs.size+3\/c=s1.heap.objs.size\/c=s1.heap.objs.size+1:=by simpa[f7]using hc
  have lc:s1.heap.objs.size<=c:=by rcases kQ with e|e|e|e|e<;>rw[e]<;>first|exact ak _|exact dw _ _
  exact I1.uV lc (I1.br.fresh lc)
section
variable{P:Program}{w:World}{A:Around}{E:Value->Shared->Prop}{v:Shared}
def By(h:Q (v.heap.get? a) v):wpAny M A (loadIfAlive a) Q E v:=λΓ p _=>by show Sem.wp M Γ (Sem.loadIfAlive a Sem.pure) _ _ p v;rw[Sem.wp_loadIfAlive];exact h
abbrev xw(f0:Value)(b:Bool)(ti to:Addr):Obj:={cls:=.type "zip",dict:=none,data:=.fields #[f0,.bool b,.bool false,.ref ti,.ref to],slots:=#[]}
structure Zs(h:Heap)(z ti to i1 i2 l1 l2 T:Addr)(k:Nat):Prop where
 self:∃b,h.get? z=some (xw (rawInt T) b ti to)
 live:∃o,h.get? T=some o
 ins:IsPair h ti (.ref i1) (.ref i2)
 w1:h.IsListIter i1 l1 k
 w2:h.IsListIter i2 l2 k
def JR{z ti to T:Addr}(g:v.heap.get? z=some (xw (rawInt T) b ti to))(l:∃o,v.heap.get? T=some o)
  (q:∀h',h'.get? z=some (xw (rawInt T) true ti to)->Heap.SameBut z v.heap h'->Q false {v with heap:=h'}):wpAny (model P w) A (Builtin.SmallTypes.ownedTupleIsFree (.ref z)) Q E v:=by
 obtain⟨o,l⟩:=l;unfold Builtin.SmallTypes.ownedTupleIsFree;refine ae (bF g rfl rfl ?_);refine ae (By ?_);rw[cI,l];refine ae (bF g rfl rfl ?_);cases b with
 |true=>
  exact af (q v.heap g (Bu _ _))
 |false=>
  refine ae (bS g (by simp) λh1 g1 s1=>af (q h1 g1 s1))
variable{prog:Program}
def M7:typeLookup (.type "zip") "__getattr__"=pure none:=by rw[ma,iH];kernel_rfl
def WH:typeLookup (.type "zip") "keys"=pure none:=by rw[ma,iH];kernel_rfl
def abr:entryFor table "zip.__getattribute__"=some Builtin.«object.__getattribute__»:=xm (id':="object.__getattribute__") (by kernel_rfl) (by decide+kernel) (by decide+kernel) (by kernel_rfl)
def WG{os:OsState}(hx:h.get? a=some (xw f0 b ti to))(hA:A.handled=none)
  (k:∀h' tk e,Heap.NewAttrErr h h' e (.ref a) "keys"->E (.ref e) ⟨h',g,d,tk,os⟩):
  wpAny (model prog w) A (Builtin.«object.__getattribute__» {[.ref a,.str "keys" u],[]}) Q E ⟨h,g,d,t,os⟩:=by
 have f4:=WH;unfold Builtin.«object.__getattribute__»
 repeat (any_goals (first|(assumption)|(wp_step)))
 refine wpAny_raiseAttrError hA k ?_;exact attrMsg_fits (by decide+kernel) (by size_fits)
def WI{os:OsState}(hx:h.get? a=some (xw f0 b ti to))(hA:A.handled=none)
  (k:∀h' tk e,Heap.NewAttrErr h h' e (.ref a) "keys"->R (.error (.ref e)) ⟨h',g,d,tk,os⟩):
  codeAny (model prog w) A (.call (.builtin "zip.__getattribute__") {[.ref a,.str "keys" u],[]}) R ⟨h,g,d,t,os⟩:=
 yg F.slot_zip_getattribute.plain abr (F.slot_zip_getattribute.check _ _ _ _ _ _ _ _ (show(⟨h,g,d,t,os⟩:Shared).TypeIs (.ref a) "zip"from⟨_,hx,rfl⟩) (F.args_zip_getattribute_2 _ _) (WG hx hA k))
def abt{os:OsState}(hx:h.get? a=some (xw f0 b ti to))(hA:A.handled=none)
  (k:∀h' tk e,Heap.NewAttrErr h h' e (.ref a) "keys"->E (.ref e) ⟨h',g,d,tk,os⟩):
  wpAny (model prog w) A (getAttrBy (.ref a) (.str "keys" u) false) Q E ⟨h,g,d,t,os⟩:=by
 have g2:=F.slot_zip_getattribute.lookup;have g3:=F.slot_zip_getattribute.bind (.ref a);have f5:=M7;have f1:=zo
 repeat (any_goals (first|(assumption)|(wp_step)))
 refine WI hx hA λh' tk e ne=>?_;obtain⟨t',u',he⟩:=ne.there;unfold getattributeRaised
 repeat (any_goals (first|(assumption)|(wp_step)))
 exact k _ _ _ ne
def WJ{os:OsState}(hx:h.get? a=some (xw f0 b ti to))(hA:A.handled=none)
  (k:∀h' tk e,Heap.NewAttrErr h h' e (.ref a) "keys"->Q none ⟨h',g,d,tk,os⟩):
  wpAny (model prog w) A (getAttr? (.ref a) "keys") Q E ⟨h,g,d,t,os⟩:=by
 have f1:=zo;unfold getAttr? getAttrBy?
 repeat (any_goals (first|assumption|(with_reducible refine abt hx hA λh' tk e ne=>?_)|wp_step))
 obtain⟨t',u',he⟩:=ne.there
 repeat (any_goals (first|(assumption)|(wp_step)))
 exact k _ _ _ ne
end
section
theorem JV:∀{ks:List Key}{ys:List V}{us vs:List Value},Vals (ks.map kV) us->Vals ys vs->ks.length=ys.length->∃pairs:List (Key×Value),Paired (λ(u:Value)(p:Key×Value)=>(bG P w).is p.1 u=true) us pairs/\vs=pairs.map (·.2)/\KV (ks.zip ys) pairs/\pairs.length=ks.length
 |[],[],_,_,.nil,.nil,_=>{[],.nil,rfl,.nil,rfl}
 |k::ks,y::ys,_,_,.cons (b:=u) r1 t1,.cons (b:=v) r2 t2,h=>by obtain⟨ps,h1,h2,h3,h4⟩:=JV t1 t2 (Nat.succ.inj h);exact{(k,v)::ps,.cons (vJ r1) h1,by rw[aQ,<-h2],.cons ⟨rfl,r2⟩ h3,cu Nat.succ h4}
end
end L2
namespace Tb
open PySem PySem.SetTable
def S:Nat->Nat
 |0=>0
 |n+1=>5*S n+1
def F:Nat->Nat->Nat
 |0,i=>i
 |n+1,i=>5*F n i+1
theorem Jp:∀n i,F n i=i+S n*(4*i+1)
 |0,i=>by simp[F,S]
 |n+1,i=>by show 5*F n i+1=i+(5*S n+1)*(4*i+1);rw[Jp n i,B4,jO,oP];generalize S n*(4*i+1)=z;lia
def Vr(m:Nat):∀n i,F (m+n) i=F m (F n i):=by
 intro n i
 induction m with
 |zero=>simp[F]
 |succ m ih=>
  rw[show m+1+n=(m+n)+1 by lia];show 5*F (m+n) i+1=5*F m (F n i)+1;rw[ih]
def abw(n:Nat):S (n+n)=2*S n*(2*S n+1):=by have h:=Vr n n 0;rw[Jp,Jp n (F n 0),Jp n 0]at h;simp only[Nat.mul_zero,vb,Nat.mul_one]at h;rw[h];generalize S n=x;rw[oP,oP,show x*(4*x)=2*x*(2*x) by rw[tM,show(4:Nat)=2*2 from rfl,jO,jO,tM x 2 x]];lia
theorem Vo:∀k,∃c,S (2^k)=2^k*(2*c+1)
 |0=>{0,rfl}
 |k+1=>by
  obtain⟨c,hc⟩:=Vo k;refine{2*c*S (2^k)+c+S (2^k),?_};rw[show 2^(k+1)=2^k+2^k by rw[jx];lia,abw];generalize hs:S (2^k)=s at hc;have e:2*s*(2*s+1)=2*(2^k*(2*c+1))*(2*s+1):=by rw[<-hc]
  rw[e,<-Nat.two_mul,<-jO,jO (2*2^k)];congr 1;rw[B4,oP,oP,oP];have:2*c*(2*s)=2*(2*c*s):=by rw[tM]
  lia
theorem cover:∀(k i j:Nat),∃n,n<2^k/\F n i % 2^k=j % 2^k
 |0,i,j=>{0,by decide,by simp[Nat.mod_one]}
 |k+1,i,j=>by
  obtain⟨n,hn,e⟩:=cover k i j;have hm:=Nat.two_pow_pos k;rw[jx];by_cases c:F n i/2^k % 2=j/2^k % 2
  ·exact{n,by lia,by rw[wx,wx,e,c]}
  ·obtain⟨z,hz⟩:=Vo k;refine{2^k+n,by lia,?_};have e2:F (2^k+n) i=F n i+2^k*(2*(z*(4*F n i+1)+2*F n i)+1):=by rw[Vr,Jp (2^k),hz,jO];congr 2;rw[B4,Nat.one_mul,jO];generalize z*(4*F n i+1)=w;lia
   rw[e2,wx,wx,Nat.add_mul_mod_self_left,Nat.add_mul_div_left _ _ hm,e];congr 2;generalize z*(4*F n i+1)+2*F n i=y;lia
def B3(mask:Nat)(p:Probe):Probe:=
 if p.more>0 then{p with j:=p.j+1,more:=p.more -1}else
 {p with j:=(leap mask p.i p.perturb).1,more:=runEnd mask (leap mask p.i p.perturb).1 -(leap mask p.i p.perturb).1,i:=(leap mask p.i p.perturb).1,perturb:=(leap mask p.i p.perturb).2}
abbrev Kl(mask i q:Nat):Probe:={j:=i,more:=runEnd mask i -i,i:=i,perturb:=q,dummy:=none}
def pr(mask:Nat)(h:Int):Nat->Probe
 |0=>Kl mask (bits h %(mask+1)) (bits h)
 |d+1=>B3 mask (pr mask h d)
def Ri(t:SetTable)(h:Int):t.probeStart h=pr t.mask h 0:=rfl
def ps(mask:Nat)(h:Int)(d:Nat):Nat:=(pr mask h d).j
def lp(mask:Nat)(h:Int):Nat->Nat×Nat
 |0=>(bits h %(mask+1),bits h)
 |n+1=>leap mask (lp mask h n).1 (lp mask h n).2
def run(mask i:Nat):Nat:=runEnd mask i -i
def Tn(mask:Nat)(h:Int):Nat->Nat
 |0=>0
 |n+1=>Tn mask h n+run mask (lp mask h n).1+1
def XS(mask i:Nat):run mask i<=9:=by unfold run runEnd;split<;>lia
theorem Vl(mask:Nat)(h:Int):∀n,Tn mask h n<=10*n
 |0=>ak _
 |n+1=>by have:=Vl mask h n;have:=XS mask (lp mask h n).1;show Tn mask h n+run mask (lp mask h n).1+1<=_;lia
def V4(mask:Nat)(h:Int):∀n,pr mask h (Tn mask h n)=Kl mask (lp mask h n).1 (lp mask h n).2/\∀e,e<=run mask (lp mask h n).1->pr mask h (Tn mask h n+e)={j:=(lp mask h n).1+e,more:=run mask (lp mask h n).1 -e,i:=(lp mask h n).1,perturb:=(lp mask h n).2,dummy:=none}:=by
 have N7:∀n,pr mask h (Tn mask h n)=Kl mask (lp mask h n).1 (lp mask h n).2->∀e,e<=run mask (lp mask h n).1->pr mask h (Tn mask h n+e)={j:=(lp mask h n).1+e,more:=run mask (lp mask h n).1 -e,i:=(lp mask h n).1,perturb:=(lp mask h n).2,dummy:=none}:=by
  intro n h0 e
  induction e with
  |zero=>intro _;rw[jA,h0];rfl
  |succ e ih=>
   intro he;rw[<-oW];show B3 mask (pr mask h (Tn mask h n+e))=_;rw[ih ∅];unfold B3;rw[ay (show run mask (lp mask h n).1 -e>0 by lia)];congr 1
 intro n
 induction n with
 |zero=>exact{rfl,N7 0 rfl}
 |succ n ih=>
  have h1:pr mask h (Tn mask h (n+1))=Kl mask (lp mask h (n+1)).1 (lp mask h (n+1)).2:=by show B3 mask (pr mask h (Tn mask h n+run mask (lp mask h n).1))=_;rw[ih.2 _ (ak _)];unfold B3;rw[aq (by simp)];rfl
  exact{h1,N7 _ h1}
def Ds{mask:Nat}(he:e<=run mask (lp mask h n).1):ps mask h (Tn mask h n+e)=(lp mask h n).1+e:=by unfold ps;rw[(V4 mask h n).2 e he]
theorem aa5(mask:Nat)(h:Int):∀n,(lp mask h n).1<mask+1
 |0=>qD _ (qC _)
 |n+1=>qD _ (qC _)
theorem YA(mask:Nat)(h:Int):∀n,(lp mask h n).2=bits h/32^n
 |0=>by simp[lp]
 |n+1=>by show(lp mask h n).2/32=_;rw[YA mask h n,Nat.div_div_eq_div_mul,jx]
def WS(h:Int):bits h<2^64:=by unfold bits;lia
theorem K1{mask k:Nat}(hk:mask+1=2^k)(h:Int):∀n,(lp mask h (13+n)).1=F n (lp mask h 13).1 % 2^k
 |0=>by have:=aa5 mask h 13;show(lp mask h 13).1=(lp mask h 13).1 % 2^k;rw[Nat.mod_eq_of_lt ∅]
 |n+1=>by
  show((lp mask h (13+n)).1*5+1+(lp mask h (13+n)).2/32) %(mask+1)=(5*F n (lp mask h 13).1+1) % 2^k;have q0:(lp mask h (13+n)).2/32=0:=by rw[YA];have h1:=WS h;have h2:32^13<=32^(13+n):=jg (by decide) ∅;rw[Nat.div_eq_of_lt (show bits h<32^(13+n)from aW (jy h1 (by decide)) h2)]
  rw[q0,K1 hk h n,hk,jA,Nat.add_mod,Nat.mul_mod,Nat.mod_mod,<-Nat.mul_mod,<-Nat.add_mod,Nat.mul_comm]
def hits{mask k:Nat}(hk:mask+1=2^k)(h:Int)(hj:j<=mask):∃n,n<=13+mask/\(lp mask h n).1=j/\ps mask h (Tn mask h n)=j:=by obtain⟨n,hn,e⟩:=cover k (lp mask h 13).1 j;have e2:=K1 hk h n;rw[e,Nat.mod_eq_of_lt ∅]at e2;refine{13+n,by lia,e2,?_};have:=Ds (mask:=mask) (h:=h) (n:=13+n) (aR _);rw[jA,jA]at this;rw[this,e2]
def Ma{mask:Nat}:ps mask h d<=mask:=by
 have key:∀d,(pr mask h d).j+(pr mask h d).more<=mask:=by
  have base:∀i q,i<mask+1->(Kl mask i q).j+(Kl mask i q).more<=mask:=λi q hi=>by show i+(runEnd mask i -i)<=mask;unfold runEnd;split<;>lia
  intro d
  induction d with
  |zero=>exact base _ _ (qD _ (qC _))
  |succ d ih=>
   show(B3 mask (pr mask h d)).j+(B3 mask (pr mask h d)).more<=mask;unfold B3;split
   ·show(pr mask h d).j+1+((pr mask h d).more -1)<=mask;lia
   ·exact base _ 0 (qD _ (qC _))
 have:=key d;unfold ps;lia
def least{p:Nat->Prop}:∀{n},p n->∃m,m<=n/\p m/\∀e,e<m->¬p e:=by
 intro n
 induction n using Nat.strongRecOn with
 |ind n ih=>
  intro hn;by_cases c:∃e,e<n/\p e
  ·obtain⟨e,he,pe⟩:=c;obtain⟨m,h1,h2,h3⟩:=ih e he pe;exact{m,by lia,h2,h3}
  ·exact{n,ak _,hn,λe he pe=>c ⟨e,he,pe⟩}
def m6(xs:Array Nat):Prop:=∀i k,i<k->k<xs.size->xs.getD i 0<xs.getD k 0
def SJ{xs:Array Nat}(h:i<xs.size):xs.getD i a=xs.getD i b:=by simp[Array.getD,h]
def getD_some{xs:Array Nat}:xs[i]?=some j↔i<xs.size/\xs.getD i 0=j:=by
 constructor
 ·intro e;obtain⟨h,e⟩:=f6.mp e;exact{h,by simp[Array.getD,h,e]}
 ·rintro⟨h,e⟩;rw[bo h];simpa[Array.getD,h]using e
theorem CK(hr:m6 xs)(j:Nat):∀(f lo hi:Nat),lo<=hi->hi<=xs.size->hi -lo<=f->(∀i,i<lo->xs.getD i 0<j)->(∀i,hi<=i->i<xs.size->j<=xs.getD i 0)->
  below.go xs j f lo hi<=xs.size/\(∀i,i<below.go xs j f lo hi->xs.getD i 0<j)/\∀i,below.go xs j f lo hi<=i->i<xs.size->j<=xs.getD i 0
 |0,lo,hi,h1,h2,h3,h4,h5=>by show lo<=xs.size/\(∀i,i<lo->xs.getD i 0<j)/\∀i,lo<=i->i<xs.size->j<=xs.getD i 0;exact{by lia,h4,λi a b=>h5 i ∅ b}
 |f+1,lo,hi,h1,h2,h3,h4,h5=>by
  unfold below.go;by_cases c:lo<hi
  ·simp only[ay c];have hm:(lo+hi)/2<xs.size:=by lia
   rw[SJ (b:=0) hm];by_cases d:xs.getD ((lo+hi)/2) 0<j
   ·simp only[ay d];refine CK hr j f _ _ ∅ h2 ∅ (λi ZS=>?_) h5;by_cases e:i=(lo+hi)/2
    ·rw[e];exact d
    ·exact jy (hr i _ ∅ hm) d
   ·simp only[aq d];refine CK hr j f _ _ ∅ ∅ ∅ h4 λi a b=>?_;by_cases e:i=(lo+hi)/2
    ·rw[e];lia
    ·have:=hr ((lo+hi)/2) i ∅ b;lia
  ·simp only[aq c];exact{by lia,h4,λi a b=>h5 i ∅ b}
def uf(hr:m6 xs)(j:Nat):below xs j<=xs.size/\(∀i,i<below xs j->xs.getD i 0<j)/\∀i,below xs j<=i->i<xs.size->j<=xs.getD i 0:=
 CK hr j xs.size 0 xs.size (aR _) (ak _) ∅ (λi h=>absurd h (jU _)) λi a b=>by lia
def below_at(hr:m6 xs)(e:xs[i]?=some j):below xs j=i:=by
 obtain⟨h1,h2,h3⟩:=uf hr j;obtain⟨hi,e⟩:=getD_some.mp e;rcases kh (below xs j) i with c|c|c
 ·have:=h3 _ (ak _) ∅;have:=hr _ _ c hi;lia
 ·exact c
 ·have:=h2 i c;lia
def Ff{t:SetTable}(hr:m6 t.place)(e:t.place[i]?=some j):t.slot j=.live i:=by unfold SetTable.slot;rw[below_at hr e];simp[e]
def NW{t:SetTable}(hd:t.dummies=#[])(e:∀i:Nat,t.place[i]?≠some j):t.slot j=.empty:=by unfold SetTable.slot;have h1:¬(t.place[below t.place j]?==some j)=true:=λh=>e _ (gX h);rw[aq h1,hd];rw[aq (by simp[has])]
def MZ{mask:Nat}(hr:m6 xs)(hs:xs.size<=mask):∃j:Nat,j<=mask/\∀i:Nat,xs[i]?≠some j:=by
 by_cases c:∃j:Nat,j<=mask/\∀i:Nat,xs[i]?≠some j
 ·exact c
 ·exfalso;have all:∀j:Nat,j<=mask->∃i:Nat,xs[i]?=some j:=λj hj=>mI λn=>c {j,hj,λi e=>n ⟨i,e⟩};have key:∀m:Nat,m<=mask->xs[m]?=some m:=by
   intro m
   induction m using Nat.strongRecOn with
   |ind m ih=>
    intro hm;obtain⟨i,e⟩:=all m hm;rcases kh i m with q|q|q
    ·have:=ih i q ∅;rw[this]at e;cases e;lia
    ·rw[<-q];rw[q]at e⊢;exact e
    ·obtain⟨hi,ei⟩:=getD_some.mp e;have h1:=hr m i q hi;have h2:m<=xs.getD m 0:=by
      cases m with
      |zero=>exact aR _
      |succ m=>
       obtain⟨_,e3⟩:=getD_some.mp (ih m ∅ ∅);have:=hr m (m+1) ∅ ∅;lia
     lia
  obtain⟨h,_⟩:=getD_some.mp (key mask (ak _));lia
structure Tab(t:SetTable)(hs:List Int):Prop where
 pow:∃k,t.mask+1=2^k
 big:7<=t.mask
 Qn:t.dummies=#[]
 rise:m6 t.place
 sz:t.place.size=hs.length
 fL:hs.length<=t.mask
 le:∀i j:Nat,t.place[i]?=some j->j<=t.mask
 reach:∀(i:Nat)(h:Int),hs[i]?=some h->∃d,t.place[i]?=some (ps t.mask h d)/\∀e,e<d->∃i':Nat,t.place[i']?=some (ps t.mask h e)
def Tab.fits(T:Tab t hs):t.fits hs.length=true:=by unfold SetTable.fits SetTable.fill;have h1:=T.sz;have h2:=T.fL;rw[T.Qn,h1];simp[h2]
def Tab.way(T:Tab t hs):t.gaveWay=false:=by
 obtain⟨k,hk⟩:=T.pow;have:=T.big;unfold SetTable.gaveWay;cases k with
 |zero=>rw[Nat.pow_zero]at hk;lia
 |succ k=>rw[jx]at hk;simp;lia
def Tab.fresh(finger moves:Nat)(led:Bool):Tab (.fresh finger moves led) [] where
 pow:={3,rfl}
 big:=ak 7
 Qn:=rfl
 rise:=λi k _ h=>absurd h (jU _)
 sz:=rfl
 fL:=aR _
 le:=λi j e=>by simp[SetTable.fresh]at e
 reach:=λi h e=>by simp at e
structure Nn(t:SetTable)(h:Int)(D:Nat):Prop where
 lt:D<10*turns t.mask
 no:∀i:Nat,t.place[i]?≠some (ps t.mask h D)
 ahead:∀e,e<D->∃i:Nat,t.place[i]?=some (ps t.mask h e)
def Tab.free(T:Tab t hs)(h:Int):∃D,Nn t h D:=by obtain⟨k,hk⟩:=T.pow;obtain⟨j,hj,hn⟩:=MZ T.rise (show t.place.size<=t.mask by rw[T.sz];exact T.fL);obtain⟨n,PK,_,e⟩:=hits hk h hj;obtain⟨D,h1,h2,h3⟩:=least (p:=λd=>∀i:Nat,t.place[i]?≠some (ps t.mask h d)) (n:=Tn t.mask h n) (by rw[e];exact hn);have:=Vl t.mask h n;refine{D,by unfold turns;lia,h2,λe he=>mI λq=>h3 e he λi z=>q ⟨i,z⟩}
theorem Hq(mask:Nat)(h:Int):∀d,(pr mask h d).dummy=none
 |0=>rfl
 |d+1=>by show(B3 mask (pr mask h d)).dummy=none;unfold B3;split<;>exact Hq mask h d
def Tab.live(T:Tab t hs){i j:Nat}(e:t.place[i]?=some j):∃h,hs[i]?=some h:=by obtain⟨hi,_⟩:=getD_some.mp e;rw[T.sz]at hi;exact{_,ao hi}
theorem Ho(T:Tab t hs)(fr:Nn t h D)(ha:∀(i:Nat)(g:Int),hs[i]?=some g->hashAt i=g):∀(f d:Nat),d<=D->D -d<f->
  (probe.go t hashAt h f (pr t.mask h d)=some (.empty (ps t.mask h D) none)/\∀e,d<=e->e<D->∀i:Nat,t.place[i]?=some (ps t.mask h e)->hs[i]?≠some h)\/
  ∃e i,d<=e/\e<D/\t.place[i]?=some (ps t.mask h e)/\hs[i]?=some h/\probe.go t hashAt h f (pr t.mask h d)=some (.candidate (ps t.mask h e) i (pr t.mask h (e+1)))/\∀e',d<=e'->e'<e->∀i':Nat,t.place[i']?=some (ps t.mask h e')->hs[i']?≠some h
 |0,d,_,hf=>absurd hf (jU _)
 |f+1,d,hd,hf=>by
  unfold probe.go;by_cases c:d=D
  ·subst c;have e:t.slot (pr t.mask h d).j=.empty:=NW T.Qn fr.no;rw[e];refine .inl {?_,λe a b=>by lia};show some (Met.empty (ps t.mask h d) (pr t.mask h d).dummy)=_;rw[Hq]
  ·obtain⟨i,hi⟩:=fr.ahead d ∅;have e:t.slot (pr t.mask h d).j=.live i:=Ff T.rise hi;rw[e];obtain⟨g,hg⟩:=T.live hi;have hu:∀i':Nat,t.place[i']?=some (ps t.mask h d)->i'=i:=λi' q=>by rw[<-below_at T.rise q,<-below_at T.rise hi]
   by_cases c2:hashAt i=h
   ·refine .inr {d,i,ak _,by lia,hi,?_,?_,λe' a b=>by lia}
    ·rw[ha i g hg]at c2;rw[hg,c2]
    ·show(if(hashAt i==h)=true then some (Met.candidate (ps t.mask h d) i (t.advance (pr t.mask h d)))else probe.go t hashAt h f (t.advance (pr t.mask h d)))=_;rw[ay (by rw[c2];exact BEq.rfl)];rfl
   ·have no:∀i':Nat,t.place[i']?=some (ps t.mask h d)->hs[i']?≠some h:=λi' q z=>by rw[hu i' q]at z;exact c2 (ha i h z)
    have ih:=Ho T fr ha f (d+1) ∅ ∅;have eq:(if(hashAt i==h)=true then some (Met.candidate (ps t.mask h d) i (t.advance (pr t.mask h d)))else probe.go t hashAt h f (t.advance (pr t.mask h d)))=probe.go t hashAt h f (pr t.mask h (d+1)):=by rw[aq (by simpa using c2)];rfl
    rcases ih with⟨h1,h2⟩|⟨e,i2,h1,h2,h3,h4,h5,h6⟩
    ·refine .inl {eq.trans h1,λe a b i' q=>?_};by_cases z:e=d
     ·rw[z]at q;exact no i' q
     ·exact h2 e ∅ b i' q
    ·refine .inr {e,i2,by lia,h2,h3,h4,eq.trans h5,λe' a b i' q=>?_};by_cases z:e'=d
     ·rw[z]at q;exact no i' q
     ·exact h6 e' ∅ b i' q
def iy(l:List α)(p:Nat)(x:α):List α:=l.take p++x::l.drop p
def Ip(l:List α)(x:α)(hp:p<=l.length)(i:Nat):(iy l p x)[i]?=if i<p then l[i]? else if i=p then some x else l[i -1]?:=by
 unfold iy;by_cases c:i<p
 ·rw[ay c,dk (by rw[aU];lia),nA c]
 ·rw[aq c,cZ (by rw[aU];lia),aU,gL hp];by_cases c2:i=p
  ·rw[ay c2,c2,AN];rfl
  ·rw[aq c2,show i -p=(i -p -1)+1 by lia,oh,AU];congr 1;lia
def wk(l:List α)(x:α)(hp:p<=l.length):(iy l p x).length=l.length+1:=by unfold iy;rw[aK,aZ,aU,k8];lia
def Ph(l:List α)(p:Nat)(x:α):(iy l p x).Perm (x::l):=by unfold iy;refine List.perm_middle.trans ?_;rw[cW]
def Io(f:α->β)(l:List α)(p:Nat)(x:α):(iy l p x).map f=iy (l.map f) p (f x):=by unfold iy;simp
def qj(xs:Array α)(p:Nat)(x:α):(insertAt xs p x).toList=iy xs.toList p x:=by unfold insertAt iy;simp[dn]
def m6.of_get(h:∀i k a b:Nat,i<k->xs[i]?=some a->xs[k]?=some b->a<b):m6 xs:=λi k IL hk=>
 h i k _ _ IL (getD_some.mpr {by lia,rfl}) (getD_some.mpr ⟨hk,rfl⟩)
def m6.get(h:m6 xs){i k a b:Nat}(IL:i<k)(ha:xs[i]?=some a)(hb:xs[k]?=some b):a<b:=by obtain⟨h1,e1⟩:=getD_some.mp ha;obtain⟨h2,e2⟩:=getD_some.mp hb;have:=h i k IL h2;lia
def zG{t:SetTable}(hr:m6 t.place)(j i:Nat):(t.put j).1.place[i]?=if i<below t.place j then t.place[i]? else if i=below t.place j then some j else t.place[i -1]?:=by show(insertAt t.place (below t.place j) j)[i]?=_;rw[<-bB,qj,Ip _ _ (by rw[aM];exact(uf hr j).1)];simp only[bB]
def Eu{t:SetTable}(hr:m6 t.place){i v:Nat}(e:t.place[i]?=some v):∃i':Nat,(t.put j).1.place[i']?=some v:=by
 by_cases c:i<below t.place j
 ·exact{i,by rw[zG hr,ay c,e]}
 ·exact{i+1,by rw[zG hr,aq ∅,aq ∅,Nat.add_sub_cancel,e]}
def Tab.put(T:Tab t hs)(fr:Nn t h D)(room:hs.length+1<=t.mask):Tab (t.put (ps t.mask h D)).1 (iy hs (t.put (ps t.mask h D)).2 h):=by
 have hb:=uf T.rise (ps t.mask h D);have hp:(t.put (ps t.mask h D)).2=below t.place (ps t.mask h D):=rfl;have Ak:below t.place (ps t.mask h D)<=hs.length:=by rw[<-T.sz];exact hb.1
 rw[hp];have pl:=λi=>zG T.rise (ps t.mask h D) i;have hl:=Ip hs h Ak;have at_:(t.put (ps t.mask h D)).1.place[below t.place (ps t.mask h D)]?=some (ps t.mask h D):=by rw[pl,aq (cY _),ay rfl]
 have lo:∀i a:Nat,i<below t.place (ps t.mask h D)->t.place[i]?=some a->a<ps t.mask h D:=λi a c e=>by obtain⟨_,e⟩:=getD_some.mp e;have:=hb.2.1 i c;lia
 have hi:∀i a:Nat,below t.place (ps t.mask h D)<=i->t.place[i]?=some a->ps t.mask h D<a:=λi a c e=>by obtain⟨l,e'⟩:=getD_some.mp e;have:=hb.2.2 i c l;have ne:a≠ps t.mask h D:=λz=>fr.no i (by rw[e,z]);lia
 refine{T.pow,T.big,?_,?_,?_,?_,λi j e=>?_,λi g e=>?_}
 ·show(if has t.dummies (ps t.mask h D)=true then _ else t.dummies)=_;rw[T.Qn];simp[has]
 ·refine m6.of_get λi k a b IL ha iW=>?_;rw[pl]at ha iW;by_cases c1:i<below t.place (ps t.mask h D)
  ·rw[ay c1]at ha;by_cases c2:k<below t.place (ps t.mask h D)
   ·rw[ay c2]at iW;exact T.rise.get IL ha iW
   ·rw[aq c2]at iW;by_cases c3:k=below t.place (ps t.mask h D)
    ·rw[ay c3]at iW;cases iW;exact lo i a c1 ha
    ·rw[aq c3]at iW;exact jy (lo i a c1 ha) (hi _ b ∅ iW)
  ·rw[aq c1]at ha;rw[aq ∅,aq ∅]at iW;by_cases c3:i=below t.place (ps t.mask h D)
   ·rw[ay c3]at ha;cases ha;exact hi _ b ∅ iW
   ·rw[aq c3]at ha;exact T.rise.get ∅ ha iW
 ·rw[wk _ _ Ak,<-T.sz,<-aM];show(insertAt t.place (below t.place (ps t.mask h D)) (ps t.mask h D)).toList.length=_;rw[qj,wk _ _ (by rw[aM];exact hb.1),aM]
 ·rw[wk _ _ Ak];exact room
 ·rw[pl]at e;by_cases c1:i<below t.place (ps t.mask h D)
  ·rw[ay c1]at e;exact T.le i j e
  ·rw[aq c1]at e;by_cases c3:i=below t.place (ps t.mask h D)
   ·rw[ay c3]at e;cases e;exact Ma
   ·rw[aq c3]at e;exact T.le _ j e
 ·have mk:(t.put (ps t.mask h D)).1.mask=t.mask:=rfl;rw[mk];rw[hl]at e;by_cases c1:i<below t.place (ps t.mask h D)
  ·rw[ay c1]at e;obtain⟨d,h1,h2⟩:=T.reach i g e;exact{d,by rw[pl,ay c1];exact h1,λx hx=>let⟨_,q⟩:=h2 x hx;Eu T.rise q}
  ·rw[aq c1]at e;by_cases c3:i=below t.place (ps t.mask h D)
   ·rw[ay c3]at e;cases e;exact{D,by rw[c3];exact at_,λx hx=>let⟨_,q⟩:=fr.ahead x hx;Eu T.rise q}
   ·rw[aq c3]at e;obtain⟨d,h1,h2⟩:=T.reach _ g e;exact{d,by rw[pl,aq c1,aq c3];exact h1,λx hx=>let⟨_,q⟩:=h2 x hx;Eu T.rise q}
def Tab.of_eq(T:Tab t hs)(h1:t'.mask=t.mask)(h2:t'.place=t.place)(h3:t'.dummies=t.dummies):Tab t' hs:=by obtain⟨a1,a2,a3,a4,a5,a6,a7,a8⟩:=T;rw[<-h1]at a1 a2 a6 a7 a8;rw[<-h2]at a4 a5 a7 a8;rw[<-h3]at a3;exact⟨a1,a2,a3,a4,a5,a6,a7,a8⟩
structure Own(mask:Nat)(ow:Array (Option Nat))(hs:List Int):Prop where
 sz:ow.size=mask+1
 lt:∀j i:Nat,ow[j]?=some (some i)->i<hs.length
 inj:∀j j' i:Nat,ow[j]?=some (some i)->ow[j']?=some (some i)->j=j'
 at_:∀(i:Nat)(h:Int),hs[i]?=some h->∃d,ow[ps mask h d]?=some (some i)/\∀e,e<d->∃i':Nat,ow[ps mask h e]?=some (some i')
def Own.empty{mask:Nat}(O:Own mask ow hs)(fL:hs.length<=mask):∃j:Nat,j<=mask/\ow[j]?=some none:=by
 by_cases c:∃j:Nat,j<=mask/\ow[j]?=some none
 ·exact c
 ·exfalso;have all:∀j:Nat,j<=mask->ow[j]?=some (some ((ow.getD j none).getD 0)):=λj hj=>by
   have hl:j<ow.size:=by rw[O.sz];lia
   have e:ow[j]?=some (ow.getD j none):=by rw[bo hl];simp[Array.getD,hl]
   cases q:ow.getD j none with
   |none=>exact(c {j,hj,by rw[e,q]}).elim
   |some i=>rw[e,q];rfl
  have nd:((List.range (mask+1)).map λj=>(ow.getD j none).getD 0).Nodup:=by
   refine c8.mpr (fB (λ{a b} ha hb ne e=>ne (O.inj a b _ (all a ?_) (e▸all b ?_))) List.nodup_range)
   ·have:=cX.mp ha;lia
   ·have:=cX.mp hb;lia
  have sub:((List.range (mask+1)).map λj=>(ow.getD j none).getD 0)⊆List.range hs.length:=λx hx=>by obtain⟨j,hj,rfl⟩:=au.mp hx;have:=cX.mp hj;exact cX.mpr (O.lt j _ (all j ∅))
  have:=List.Nodup.length_le_of_subset nd sub;rw[ag,iZ,iZ]at this;lia
def WV(mask:Nat)(h:Int)(hmn:m<=n):Tn mask h m<=Tn mask h n:=by
 induction n with
 |zero=>rw[Nat.le_zero.mp hmn];exact ak _
 |succ n ih=>
  by_cases c:m=n+1
  ·rw[c];exact ak _
  ·have:=ih ∅;show _<=Tn mask h n+run mask (lp mask h n).1+1;lia
def VR(mask i:Nat):runEnd mask i+1 -i=run mask i+1:=by unfold run runEnd;split<;>lia
theorem Lz{mask:Nat}(hD:ow[ps mask h D]?=some none)(hb:∀e,e<D->∃i':Nat,ow[ps mask h e]?=some (some i'))(hn0:D<=Tn mask h n0):∀(f n:Nat),Tn mask h n<=D->n0 -n<f->layClean.free mask ow f (lp mask h n).1 (lp mask h n).2=some (ps mask h D)
 |0,n,_,hf=>absurd hf (jU _)
 |f+1,n,hn,hf=>by
  have own:∀e,e<=run mask (lp mask h n).1->Tn mask h n+e<D->(ow.getD ((lp mask h n).1+e) (some 0)).isNone=false:=λe he bR=>by obtain⟨i',q⟩:=hb _ bR;rw[Ds he]at q;obtain⟨l,q⟩:=f6.mp q;simp[Array.getD,l,q]
  unfold layClean.free;rw[VR];by_cases c:D<=Tn mask h n+run mask (lp mask h n).1
  ·have e1:(List.range (run mask (lp mask h n).1+1)).find? (λk=>(ow.getD ((lp mask h n).1+k) (some 0)).isNone)=some (D -Tn mask h n):=by
    refine List.find?_range_eq_some.mpr {?_,cX.mpr ∅,λj hj=>?_}
    ·have q:=hD;rw[show D=Tn mask h n+(D -Tn mask h n) by lia,Ds ∅]at q;obtain⟨l,q⟩:=f6.mp q;simp[Array.getD,l,q]
    ·rw[own j ∅ ∅];rfl
   simp only[e1];rw[<-Ds ∅,show Tn mask h n+(D -Tn mask h n)=D by lia]
  ·have e1:(List.range (run mask (lp mask h n).1+1)).find? (λk=>(ow.getD ((lp mask h n).1+k) (some 0)).isNone)=none:=by refine List.find?_range_eq_none.mpr λj hj=>?_;rw[own j ∅ ∅];rfl
   simp only[e1];have lt:n<n0:=by
    rcases Nat.lt_or_ge n n0 with q|q
    ·exact q
    ·have:=WV mask h q;lia
   exact Lz hD hb hn0 f (n+1) (by show Tn mask h n+run mask (lp mask h n).1+1<=D;lia) ∅
abbrev wX(mask:Nat)(acc:Option (Array (Option Nat)×Nat))(h:Int):Option (Array (Option Nat)×Nat):=do
  let(owner,k)<-acc
  let j<-layClean.free mask owner (turns mask) (bits h %(mask+1)) (bits h)
  pure (owner.setIfInBounds j (some k),k+1)
def JH(mask:Nat)(hashes:Array Int):layClean mask hashes=(hashes.toList.foldl (wX mask) (some (Array.replicate (mask+1) none,0))).map (·.1):=by rw[Array.foldl_toList];rfl
def Own.step{mask k:Nat}(hk:mask+1=2^k)(O:Own mask ow hs)(fL:hs.length<mask)(h:Int):∃Ou,wX mask (some (ow,hs.length)) h=some (Ou,hs.length+1)/\Own mask Ou (hs++[h]):=by
 obtain⟨j,hj,ej⟩:=O.empty (bg fL);obtain⟨n0,hn0,_,e0⟩:=hits hk h hj;obtain⟨D,h1,h2,h3⟩:=least (p:=λd=>ow[ps mask h d]?=some none) (by rw[e0];exact ej);have hb:∀e,e<D->∃i':Nat,ow[ps mask h e]?=some (some i'):=λe he=>by
  have l:ps mask h e<ow.size:=by rw[O.sz];have:=Ma (mask:=mask) (h:=h) (d:=e);lia
  cases q:ow[ps mask h e]with
  |none=>exact(h3 e he (by rw[bo l,q])).elim
  |some i=>exact{i,by rw[bo l,q]}
 have ef:=Lz h2 hb h1 (turns mask) 0 (aR _) (by unfold turns;lia);have ef':layClean.free mask ow (turns mask) (bits h %(mask+1)) (bits h)=some (ps mask h D):=ef;refine{ow.setIfInBounds (ps mask h D) (some hs.length),by simp[wX,ef'],?_};have l:ps mask h D<ow.size:=by rw[O.sz];have:=Ma (mask:=mask) (h:=h) (d:=D);lia
 have get:∀x:Nat,(ow.setIfInBounds (ps mask h D) (some hs.length))[x]?=if x=ps mask h D then some (some hs.length)else ow[x]?:=λx=>by
  rw[Array.getElem?_setIfInBounds];by_cases c:x=ps mask h D
  ·rw[ay c,ay c.symm,ay l]
  ·rw[aq c,aq (bX c)]
 have keep:∀x i:Nat,ow[x]?=some (some i)->(ow.setIfInBounds (ps mask h D) (some hs.length))[x]?=some (some i):=λx i e=>by rw[get,aq λz=>by rw[z,h2]at e;cases e];exact e
 refine{by simp[O.sz],λx i e=>?_,λx y i ex ey=>?_,λi g e=>?_}
 ·rw[get]at e;rw[aK,d9];by_cases c:x=ps mask h D
  ·rw[ay c]at e;cases e;lia
  ·rw[aq c]at e;have:=O.lt x i e;lia
 ·rw[get]at ex ey;by_cases c:x=ps mask h D
  ·rw[ay c]at ex;cases ex;by_cases c2:y=ps mask h D
   ·rw[c,c2]
   ·rw[aq c2]at ey;exact absurd (O.lt y _ ey) (cY _)
  ·rw[aq c]at ex;by_cases c2:y=ps mask h D
   ·rw[ay c2]at ey;cases ey;exact absurd (O.lt x _ ex) (cY _)
   ·rw[aq c2]at ey;exact O.inj x y i ex ey
 ·by_cases c:i<hs.length
  ·rw[dk c]at e;obtain⟨d,q1,q2⟩:=O.at_ i g e;exact{d,keep _ _ q1,λx hx=>let⟨i',q⟩:=q2 x hx;{i',keep _ _ q}}
  ·rw[cZ ∅]at e;have ei:i=hs.length:=by
    rcases kh i hs.length with q|q|q
    ·lia
    ·exact q
    ·rw[iN (by rw[d9];lia)]at e;cases e
   subst ei;rw[AN]at e;cases e;exact{D,by rw[get,ay rfl],λx hx=>let⟨i',q⟩:=hb x hx;{i',keep _ _ q}}
theorem HE{mask k:Nat}(hk:mask+1=2^k):∀(rest:List Int)(ow:Array (Option Nat))(hs:List Int),Own mask ow hs->(hs++rest).length<=mask->∃Ou,rest.foldl (wX mask) (some (ow,hs.length))=some (Ou,(hs++rest).length)/\Own mask Ou (hs++rest)
 |[],ow,hs,O,_=>{ow,by simp,by simpa using O}
 |h::rest,ow,hs,O,fL=>by rw[aK,aZ]at fL;obtain⟨ow1,e1,O1⟩:=O.step hk ∅ h;obtain⟨ow2,e2,O2⟩:=HE hk rest ow1 (hs++[h]) O1 (by rw[aK,aK,d9];lia);rw[da]at e2 O2;refine{ow2,?_,O2};rw[iO,e1];rw[aK,d9]at e2;exact e2
def Ww{mask k:Nat}(hk:mask+1=2^k)(big:7<=mask)(finger moves:Nat)(led plain:Bool)(hs:List Int)(fL:hs.length<=mask):
  ∃t order,laid mask finger moves led plain hs.toArray=some (t,order)/\t.mask=mask/\t.finger=finger/\t.led=led/\t.moves=moves/\t.plain=plain/\order.toList.Perm (List.range hs.length)/\Tab t (order.toList.map λi=>hs.getD i 0):=by
 have O0:Own mask (Array.replicate (mask+1) none) []:={by simp,λj i e=>by simp[vk]at e,λj j' i e=>by simp[vk]at e,λi h e=>by simp at e};obtain⟨ow,e,O⟩:=HE hk hs _ _ O0 (by simpa using fL);rw[iL]at e O;have el:layClean mask hs.toArray=some ow:=by rw[JH];have e':(hs.toArray.toList.foldl (wX mask) (some (Array.replicate (mask+1) none,0)))=some (ow,hs.length):=e;rw[e'];rfl
 obtain⟨live,UW⟩:∃live,live=(List.range (mask+1)).filterMap λj=>(ow.getD j none).map (j,·):=⟨_,rfl⟩;have mem:∀p:Nat×Nat,p∈live↔ow[p.1]?=some (some p.2):=λp=>by
  rw[UW,sD];constructor
  ·rintro⟨j,hj,q⟩;have lj:j<ow.size:=by rw[O.sz];exact cX.mp hj
   obtain⟨i,q1,q2⟩:=a9.mp q;subst q2;rw[bo lj];have q3:ow[j]=some i:=by simpa[Array.getD,lj]using q1
   rw[q3]
  ·intro q;obtain⟨l,q'⟩:=f6.mp q;refine{p.1,cX.mpr (by rw[<-O.sz];exact l),?_};have q3:ow.getD p.1 none=some p.2:=by simp[Array.getD,l,q']
   rw[q3];rfl
 have sub:∀(j:Nat)(b:Nat×Nat),(ow.getD j none).map (j,·)=some b->b.1=j/\ow[j]?=some (some b.2):=λj b q=>by
  obtain⟨i,q1,q2⟩:=a9.mp q;subst q2;refine{rfl,?_};by_cases l:j<ow.size
  ·rw[bo l];have q3:ow[j]=some i:=by simpa[Array.getD,l]using q1
   rw[q3]
  ·simp[Array.getD,l]at q1
 have p1:live.Pairwise (λa b=>a.1<b.1):=by rw[UW];refine vv _ (λa a' bR b hb b' iW=>?_) wz;rw[(sub a b hb).1,(sub a' b' iW).1];exact bR
 have p2:live.Pairwise (λa b=>a.2≠b.2):=by rw[UW];refine vv _ (λa a' bR b hb b' iW ne=>?_) wz;have q1:=(sub a b hb).2;have q2:=(sub a' b' iW).2;rw[<-ne]at q2;have:=O.inj a a' _ q1 q2;lia
 have perm:(live.map (·.2)).Perm (List.range hs.length):=by
  refine(lP (c8.mpr p2) List.nodup_range).mpr λi=>?_;rw[cX,au];constructor
  ·rintro⟨p,hp,rfl⟩;exact O.lt _ _ ((mem p).mp hp)
  ·intro hi;obtain⟨d,q,_⟩:=O.at_ i _ (ao hi);exact{(_,i),(mem (_,i)).mpr q,rfl}
 have ll:live.length=hs.length:=by have:=perm.length_eq;rwa [ag,iZ]at this
 have pl:∀m:Nat,((live.map (·.1)).toArray)[m]?=live[m]?.map (·.1):=λm=>by simp
 refine⟨{mask,place:=(live.map (·.1)).toArray,dummies:=#[],finger,led,moves,plain},(live.map (·.2)).toArray,?_,rfl,rfl,rfl,rfl,rfl,by simpa using perm,?_⟩
 ·unfold laid;rw[el,UW];rfl
 ·refine{⟨k,hk⟩,big,rfl,?_,?_,?_,λi j q=>?_,λm h q=>?_}
  ·refine m6.of_get λi k a b IL ha hb=>?_;rw[pl]at ha hb;obtain⟨x,hx,rfl⟩:=a9.mp ha;obtain⟨y,hy,rfl⟩:=a9.mp hb;obtain⟨lx,ex⟩:=ar.mp hx;obtain⟨ly,ey⟩:=ar.mp hy;subst ex ey;exact eZ.mp p1 i k lx ly IL
  ·simp
  ·simp[ll,fL]
  ·rw[pl]at q;obtain⟨x,hx,rfl⟩:=a9.mp q;have:=(mem x).mp (aG hx);obtain⟨l,_⟩:=f6.mp this;rw[O.sz]at l;show x.1<=mask;lia
  ·have q':(live.map λp=>hs.getD p.2 0)[m]?=some h:=by
    have e3:(live.map (·.2)).toArray.toList.map (λi=>hs.getD i 0)=live.map λp=>hs.getD p.2 0:=by simp
    rw[<-e3];exact q
   rw[aJ]at q';obtain⟨x,hx,rfl⟩:=a9.mp q';have hw:=(mem x).mp (aG hx);have hl:=O.lt _ _ hw;have eh:hs[x.2]?=some (hs.getD x.2 0):=by rw[ao hl];simp[hl]
   obtain⟨d,d1,d2⟩:=O.at_ x.2 _ eh;have ej:=O.inj _ _ _ d1 hw;refine{d,?_,λe he=>?_}
   ·show((live.map (·.1)).toArray)[m]?=some (ps mask (hs.getD x.2 0) d);rw[pl,hx,ej];rfl
   ·obtain⟨i',q3⟩:=d2 e he;obtain⟨m',hm'⟩:=fm.mp ((mem (_,i')).mpr q3);refine{m',?_};rw[pl,hm'];rfl
theorem zu(n:Nat):∀(f j:Nat),n<2^(j+f)->∃k,j<=k/\sizeAbove.go n f (2^j)=2^k/\n<2^k/\(k=j\/2^k<=2*n)
 |0,j,h=>{j,ak _,rfl,h,.inl rfl}
 |f+1,j,h=>by
  unfold sizeAbove.go;by_cases c:2^j<=n
  ·rw[ay c,<-jx];obtain⟨k,h1,h2,h3,h4⟩:=zu n f (j+1) (by rw[show j+1+f=j+(f+1) by lia];exact h);refine{k,by lia,h2,h3,.inr ?_};rcases h4 with h4|h4
   ·rw[h4,jx];lia
   ·exact h4
  ·rw[aq c];exact{j,ak _,rfl,by lia,.inl rfl}
def zr(h:n<2^64):∃k,sizeAbove n=2^k/\8<=2^k/\n<2^k/\2^k<=2*n+8:=by
 obtain⟨k,h1,h2,h3,h4⟩:=zu n 64 3 (aW h (by decide));have:2^3<=2^k:=jg (by decide) h1;refine{k,h2,this,h3,?_};rcases h4 with h4|h4
 ·rw[h4];lia
 ·lia
def Oe(t:SetTable)(hs:List Int)(h:n<2^64)(fL:hs.length<n):∃t' order,t.relaid hs.toArray n=some (t',order)/\n<=t'.mask/\t'.mask<=2*n+7/\t'.finger=t.finger/\t'.led=t.led/\t'.plain=t.plain/\order.toList.Perm (List.range hs.length)/\Tab t' (order.toList.map λi=>hs.getD i 0):=by obtain⟨k,e,h1,h2,h3⟩:=zr h;obtain⟨t',order,q1,q2,q3,q4,_,q5,q6,q7⟩:=Ww (mask:=sizeAbove n -1) (k:=k) (by rw[e];lia) (by rw[e];lia) t.finger (t.movedTo (sizeAbove n -1)) t.led t.plain hs (by rw[e];lia);exact{t',order,q1,by rw[q2,e];lia,by rw[q2,e];lia,q3,q4,q5,q6,q7}
theorem zF{α:Type}:∀l:List α,(List.range l.length).filterMap (λi=>l[i]?)=l
 |[]=>rfl
 |x::l=>by rw[aZ,wy,fU];show x::_=_;rw[sG];congr 1;exact zF l
def Mh{α:Type}{es:Array α}{order:Array Nat}(hp:order.toList.Perm (List.range es.size)):(order.filterMap (es[·]?)).toList.Perm es.toList/\∀(g:α->Int),(order.filterMap (es[·]?)).toList.map g=order.toList.map λi=>(es.toList.map g).getD i 0:=by
 have e1:(order.filterMap (es[·]?)).toList=order.toList.filterMap (es.toList[·]?):=by simp
 rw[e1];constructor
 ·have:=hp.filterMap (es.toList[·]?);rw[<-aM]at this;rwa [zF]at this
 ·intro g;have lt:∀i∈order.toList,i<es.toList.length:=λi hi=>by rw[aM];exact cX.mp (hp.mem_iff.mp hi)
  generalize order.toList=l at lt
  induction l with
  |nil=>rfl
  |cons i l ih=>
   have li:=lt i (aA ..);rw[fU,ao li];show g _::_=_;rw[aQ,ih λj hj=>lt j (az _ hj)];congr 1;rw[bY,aJ,ao li];rfl
section
variable{prog:Program}{w:World}{K:Type}[DecidableEq K]{knd:KeyKind prog w K}{A:Around}{E:Value->Shared->Prop}{s:Shared}
abbrev ent(knd:KeyKind prog w K)(x:List K×Addr):Int×Value:=(tupleKeyHash knd x.1,Value.ref x.2)
structure mZ(knd:KeyKind prog w K)(h:Heap)(a:Addr)(o:Obj)(ep:Nat)(t:SetTable)(xs:List (List K×Addr)):Prop where
 ob:h.get? a=some o
 ex:o.ExactSet
 data:o.data=.set (xs.map (ent knd)).toArray ep t
 tab:Tab t (xs.map λx=>tupleKeyHash knd x.1)
 fL:xs.length*5<t.mask*3
 cap:t.mask<=8*xs.length+15
 nd:(xs.map (·.1)).Nodup
 is:∀x∈xs,IsTupleKey knd h x.1 x.2
def mZ.fits(S:mZ knd h a o ep t xs):t.fits ((xs.map (ent knd)).toArray).size=true:=by have:=S.tab.fits;rw[ag]at this;simpa using this
def mZ.state(S:mZ knd s.heap a o ep t xs)(h:Q ((xs.map (ent knd)).toArray,ep,t) s):wpAny (model prog w) A (setState a) Q E s:=
 sZ S.ob S.data S.fits h
def mZ.ne(S:mZ knd h a o ep t xs)(hk:IsTupleKey knd h ks b):b≠a:=by rintro rfl;obtain⟨o',items,n,qL,_,si,_⟩:=hk;obtain rfl:o'=o:=bL (qL.symm.trans S.ob);rw[S.data]at si;cases si
def GD(hx:IsTupleKey knd s.heap ks b)(h:Q false s):wpAny (model prog w) A (ofAClassStatement 8 (.ref b)) Q E s:=by
 have hT:=hx.typeIs;obtain⟨o,items,n,ho,_,hd,hi⟩:=hx;unfold ofAClassStatement;refine ae (gw hT ?_);dsimp only;rw[ay (by decide)];refine ae (af ?_);refine ae (bO ho hd ?_);refine ae ?_;rw[<-nF];refine hU _ (λrest r s'=>r.1=none/\s'=s/\∀v∈rest,carriedByValue v=true) _ ?_ ?_ _ _ {rfl,rfl,hi.byValue}
 ·rintro v rest r s' ⟨hr,rfl,o7⟩;have hv:=o7 v aA;have e:ofAClassStatement 7 v=pure false:=by
   cases v with
   |ref a=>simp[carriedByValue]at hv
   |_=>first|rfl|(unfold ofAClassStatement;rfl)
  rw[e];refine ae (af ?_);exact af {rfl,rfl,λu se=>o7 u (az _ se)}
 ·rintro⟨r1,r2⟩ s' ⟨hr,rfl,_⟩;simp only at hr;subst hr;exact af h
def VA(hx:IsTupleKey knd s.heap x b)(l:List Value)(hl:∀v∈l,∃ks c,v=Value.ref c/\IsTupleKey knd s.heap ks c)(h:Q false s):wpAny (model prog w) A (searchCouldBeSeen (.ref b) l) Q E s:=by
 unfold searchCouldBeSeen;refine ae ?_;refine hU _ (λrest r s'=>r.1=none/\s'=s/\∀v∈rest,∃ks c,v=Value.ref c/\IsTupleKey knd s.heap ks c) _ ?_ ?_ _ _ ⟨rfl,rfl,hl⟩
 ·rintro v rest r s' ⟨hr,rfl,o7⟩;obtain⟨ks,c,rfl,hk⟩:=o7 v aA;have Uc:=λu se=>o7 u (az _ se);by_cases e:(b==c||(carriedByValue (.ref b)&&carriedByValue (.ref c)))=true
  ·rw[ay e];exact af ⟨rfl,rfl,Uc⟩
  ·rw[aq e];refine ae (wG hx ?_);refine ae (wG hk ?_);refine ae (GD hx ?_);refine ae (GD hk ?_);exact af ⟨rfl,rfl,Uc⟩
 ·rintro⟨r1,r2⟩ s' ⟨hr,rfl,_⟩;simp only at hr;subst hr;exact af h
def Nt(hu:A.units<cLine)(S:mZ knd s.heap a o ep t xs)(hk:IsTupleKey knd s.heap k b)(fr:Nn t (tupleKeyHash knd k) D)
  (h1:(∃x∈xs,x.1=k)->Q (.there none) s) (h2:(∀x∈xs,x.1≠k)->Q (.free (ps t.mask (tupleKeyHash knd k) D) false) s):
  ∀(m fuel d:Nat)(st:Option Probe),D -d=m->d<=D->m<fuel->st.getD (t.probeStart (tupleKeyHash knd k))=pr t.mask (tupleKeyHash knd k) d->(∀e,e<d->∀(i:Nat)(x:List K×Addr),t.place[i]?=some (ps t.mask (tupleKeyHash knd k) e)->xs[i]?=some x->x.1≠k)->
   wpAny (model prog w) A (setSearchFrom a (.ref b) (tupleKeyHash knd k) true fuel st) Q E s:=by
 intro m
 induction m using Nat.strongRecOn with
 |ind m ih=>
  intro fuel d st hm hd hf gD DK;cases fuel with
  |zero=>exact absurd hf (jU _)
  |succ fuel=>
   unfold setSearchFrom;refine ae (S.state ?_);dsimp only;rw[S.tab.way];rw[gD];have Zl:∀(i:Nat)(x:List K×Addr),xs[i]?=some x->(xs.map λx=>tupleKeyHash knd x.1)[i]?=some (tupleKeyHash knd x.1):=λi x e=>by rw[aJ,e];rfl
   have hsR:∀(i:Nat)(g:Int),(xs.map λx=>tupleKeyHash knd x.1)[i]?=some g->∃x,xs[i]?=some x/\tupleKeyHash knd x.1=g:=λi g e=>by rw[aJ]at e;exact a9.mp e
   rcases Ho S.tab fr (hashAt:=λi=>((((xs.map (ent knd)).toArray)[i]?).map (·.1)).getD 0) (λi g e=>by obtain⟨x,hx,rfl⟩:=hsR i g e;simp[hx]) (10*turns t.mask) d hd (by have:=fr.lt;lia)with⟨e1,e2⟩|⟨e,i,a1,a2,a3,a4,a5,a6⟩
   ·have e1':t.probe (λi=>((((xs.map (ent knd)).toArray)[i]?).map (·.1)).getD 0) (tupleKeyHash knd k) (pr t.mask (tupleKeyHash knd k) d)=some (.empty (ps t.mask (tupleKeyHash knd k) D) none):=e1;show wpAny (model prog w) A (match t.probe (λi=>((((xs.map (ent knd)).toArray)[i]?).map (·.1)).getD 0) (tupleKeyHash knd k) (pr t.mask (tupleKeyHash knd k) d)with|some met=>_|_=>_) Q E s;rw[e1'];refine af (h2 λx hx ex=>?_);obtain⟨i,hi⟩:=fm.mp hx;obtain⟨d',q1,q2⟩:=S.tab.reach i _ (Zl i x hi);rw[ex]at q1 q2;have lt:d'<D:=by
     rcases kh d' D with q|q|q
     ·exact q
     ·rw[q]at q1;exact(fr.no i q1).elim
     ·obtain⟨i',z⟩:=q2 D q;exact(fr.no i' z).elim
    by_cases c:d'<d
    ·exact DK d' c i x q1 hi ex
    ·exact e2 d' ∅ lt i q1 (by rw[Zl i x hi,ex])
   ·obtain⟨y,hy,ey⟩:=hsR i _ a4;have a5':t.probe (λi=>((((xs.map (ent knd)).toArray)[i]?).map (·.1)).getD 0) (tupleKeyHash knd k) (pr t.mask (tupleKeyHash knd k) d)=some (.candidate (ps t.mask (tupleKeyHash knd k) e) i (pr t.mask (tupleKeyHash knd k) (e+1))):=a5;show wpAny (model prog w) A (match t.probe (λi=>((((xs.map (ent knd)).toArray)[i]?).map (·.1)).getD 0) (tupleKeyHash knd k) (pr t.mask (tupleKeyHash knd k) d)with|some met=>_|_=>_) Q E s;rw[a5'];have ym:=aG hy;have yk:=S.is y ym;have eL:((xs.map (ent knd)).toArray)[i]?=some (ent knd y):=by simp[hy]
    have cont:wpAny (model prog w) A (do
      let some (_,y):=((xs.map (ent knd)).toArray)[i]?|unsupported "internal:set-entry"
      let equal<-holding [y] (eqBool y (.ref b))
      let(xl,_,t')<-setState a
      if true&&equal then return .there none
      let some same:=t'.sameMemory t.moves t.mask|unsupported "set.changed-during-lookup:is-the-new-block-at-the-old-address"
      let aaS<-match(if same then t'.slot (ps t.mask (tupleKeyHash knd k) e)else .empty)with
       | .live i'=>match xl[i']? with
        |some (_,y')=>do pure (if<-isSame y' y then some i' else none)
        |none=>pure none
       |_=>pure none
      match aaS with
      |none=>rule "set.search.anew";setSearchFrom a (.ref b) (tupleKeyHash knd k) true fuel none
      |some i'=>if equal then return .there (some i')else setSearchFrom a (.ref b) (tupleKeyHash knd k) true fuel (some (pr t.mask (tupleKeyHash knd k) (e+1)))) Q E s:=by
     rw[eL];refine ae (bK (zf hu yk hk ?_));refine ae (S.state ?_);by_cases c:y.1=k
     ·rw[aY c];exact af (h1 ⟨y,ym,c⟩)
     ·rw[bj c];simp only[rJ,bT,dP];have sm:t.sameMemory t.moves t.mask=some true:=by simp[SetTable.sameMemory]
      rw[sm];simp only[rf];rw[Ff S.tab.rise a3];dsimp only;rw[eL];dsimp only;have iss:isSame (Value.ref y.2) (Value.ref y.2)=pure true:=ay (uX _);rw[iss];refine ae (af ?_);refine ae (af ?_);refine ih (D -(e+1)) ∅ fuel (e+1) _ rfl ∅ ∅ rfl λe' he' i' x q1 q2 qk=>?_;by_cases c2:e'<d
      ·exact DK e' c2 i' x q1 q2 qk
      ·by_cases c3:e'=e
       ·rw[c3]at q1;have:i'=i:=by rw[<-below_at S.tab.rise q1,<-below_at S.tab.rise a3]
        rw[this,hy]at q2;cases q2;exact c qk
       ·exact a6 e' ∅ ∅ i' q1 (by rw[Zl i' x q2,qk])
    by_cases led:t.led=true
    ·rw[led];exact cont
    ·have lf:t.led=false:=by cases q:t.led with|false=>rfl|true=>exact(led q).elim
     rw[lf];refine ae (VA hk _ (λv hv=>?_) ?_)
     ·obtain⟨p,hp,rfl⟩:=au.mp hv;have IE:p∈xs.map (ent knd):=by have:=(Array.mem_filter.mp (lD.mp hp)).1;simpa using this
      obtain⟨x,hx,rfl⟩:=au.mp IE;exact{x.1,x.2,rfl,S.is x hx}
     ·simp only[bT,dP];exact cont
end
section
variable{prog:Program}{w:World}{K:Type}[DecidableEq K]{knd:KeyKind prog w K}{A:Around}{E:Value->Shared->Prop}{s:Shared}
def JI(n:Nat)(h:carriedByValue v=true):∃b,hashByValue n v=pure b:=by
 cases v with
 |ref a=>simp[carriedByValue]at h
 |_=>cases n<;>exact⟨_,rfl⟩
def Xc(hx:IsTupleKey knd s.heap ks b)(h:∀c,Q c s):wpAny (model prog w) A (hashByValue 8 (.ref b)) Q E s:=by
 have hT:=hx.typeIs;obtain⟨o,items,n,ho,_,hd,hi⟩:=hx;unfold hashByValue;refine ae (gz hT kj.lookup ?_);refine ae (bO ho hd ?_);refine ae ?_;rw[<-nF];refine hU _ (λrest r s'=>r.1=none/\s'=s/\∀v∈rest,carriedByValue v=true) _ ?_ ?_ _ _ {rfl,rfl,hi.byValue}
 ·rintro v rest r s' ⟨hr,rfl,o7⟩;obtain⟨c,e⟩:=JI 7 (o7 v aA);rw[e];refine ae (af ?_);cases c with
  |false=>
   exact af (af (h false))
  |true=>
   exact af {rfl,rfl,λu se=>o7 u (az _ se)}
 ·rintro⟨r1,r2⟩ s' ⟨hr,rfl,_⟩;simp only at hr;subst hr;exact af (h true)
def QT(ob:s.heap.get? a=some o)(ex:o.ExactSet)(hd:o.data=.set (xs.map (ent knd)).toArray ep t)(tab:Tab t (xs.map λx=>tupleKeyHash knd x.1))(nd:(xs.map (·.1)).Nodup)(is:∀x∈xs,IsTupleKey knd s.heap x.1 x.2)
  (hn:xs.length*2<=n) (UU:n<=xs.length*4) (h0:0<n) (hx:xs.length<=100000) (BP:n<=100000) (h:∀h' ys o' An t',Heap.SameBut a s.heap h'->mZ knd h' a o' An t' ys->t'.led=t.led->ys.Perm xs->Q () {s with heap:=h'}):wpAny (model prog w) A (setRelay a n) Q E s:=by
 have fits:t.fits ((xs.map (ent knd)).toArray).size=true:=by have:=tab.fits;rw[ag]at this;simpa using this
 unfold setRelay;refine ae (sZ ob hd fits ?_);dsimp only;obtain⟨k,e1,e2,e3,e4⟩:=zr (n:=n) ∅;rw[aq (by rw[e1,bP];lia)];have hm:((xs.map (ent knd)).toArray).map (·.1)=(xs.map λx=>tupleKeyHash knd x.1).toArray:=by simp[tT]
 obtain⟨t',order,q1,q2,qc,q3,q4,q5,q6,q7⟩:=Oe t (xs.map λx=>tupleKeyHash knd x.1) (n:=n) ∅ (by rw[ag];lia);rw[hm,q1];rw[ag]at q6;have oz:order.toList.Perm (List.range ((xs.map (ent knd)).toArray).size):=by simpa using q6
 obtain⟨o1,o2⟩:=Mh oz;have oH:(order.filterMap (((xs.map (ent knd)).toArray)[·]?))=((order.toList.filterMap (xs[·]?)).map (ent knd)).toArray:=by apply vj.mp;simp[List.map_filterMap]
 have py:(order.toList.filterMap (xs[·]?)).Perm xs:=by have:=q6.filterMap (xs[·]?);rwa [zF]at this
 have ly:=py.length_eq;have hh:(order.toList.filterMap (xs[·]?)).map (λx=>tupleKeyHash knd x.1)=order.toList.map λi=>(xs.map λx=>tupleKeyHash knd x.1).getD i 0:=by have:=o2 (·.1);rw[oH]at this;simpa[tT]using this
 rw[<-hh]at q7;generalize order.toList.filterMap (xs[·]?)=ys at*;refine ae ?_;show wpAny (model prog w) A (if((order.filterMap (((xs.map (ent knd)).toArray)[·]?)).size !=((xs.map (ent knd)).toArray).size)=true then unsupported _ else pure (order.filterMap (((xs.map (ent knd)).toArray)[·]?),t')) _ E s;rw[oH,aq (by simp[ly])];refine af ?_;refine Bh ob hd ?_ (by rw[aL,ag,ly,bP];lia);have S2:mZ knd (s.heap.update a (Obj.putSet (ys.map (ent knd)).toArray t')) a {o with data:=.set (ys.map (ent knd)).toArray (ep+1) t'} (ep+1) t' ys:=by
  have sb:=bM s.heap a (Obj.putSet (ys.map (ent knd)).toArray t');refine{?_,ex,rfl,q7,by lia,by lia,(py.map _).nodup_iff.mpr nd,λx hx=>?_}
  ·have:=b8 (Obj.putSet (ys.map (ent knd)).toArray t') ob (by rw[zH _ t' hd];rfl);rw[zH _ t' hd]at this;exact this
  ·have xa:=is x (py.mem_iff.mp hx);have ne:x.2≠a:=by intro z;obtain⟨o',items,n,qL,_,si,_⟩:=xa;rw[z]at qL;obtain rfl:o'=o:=bL (qL.symm.trans ob);rw[hd]at si;cases si
   obtain⟨o',items,n,qL,hc,si,hi⟩:=xa;exact{o',items,n,(sb.2 _ ne).trans qL,hc,si,hi}
 exact h _ ys _ _ _ (bM s.heap a _) S2 q4 py
def Xd(hu:A.units<cLine)(S:mZ knd s.heap a o ep t xs)(hk:IsTupleKey knd s.heap k b)(hx:xs.length<=1000)
  (h1:(∃x∈xs,x.1=k)->Q false s) (h2:(∀x∈xs,x.1≠k)->∀h' ys o' An t',Heap.SameBut a s.heap h'->mZ knd h' a o' An t' ys->t'.led=t.led->ys.Perm ((k,b)::xs)->Q true {s with heap:=h'}):
  wpAny (model prog w) A (setAddHashed a (.ref b) (tupleKeyHash knd k)) Q E s:=by
 unfold setAddHashed setAddHashedIn;refine bK (ae (S.state ?_));dsimp only;have nb:byScan (.ref b) (xs.map (ent knd)).toArray=false:=by simp[byScan,Value.scannable]
 rw[nb];obtain⟨D,fr⟩:=S.tab.free (tupleKeyHash knd k);unfold setSearch;have bound:=fr.lt;have hm:=S.cap;unfold turns at bound;refine ae (Nt hu S hk fr (λq=>af (h1 q)) (λq=>?_) D 100000 0 none rfl (aR _) ∅ (Ri t _) λe he=>absurd he (jU _));refine ae (S.state ?_);have fL:=S.fL;have room:(xs.map λx=>tupleKeyHash knd x.1).length+1<=t.mask:=by rw[ag];lia
 have tb:=S.tab.put fr room;generalize ep1:t.put (ps t.mask (tupleKeyHash knd k) D)=tp at tb;obtain⟨t1,p⟩:=tp;have Yu:t1.mask=t.mask:=by have:(t.put (ps t.mask (tupleKeyHash knd k) D)).1.mask=t.mask:=rfl;rw[ep1]at this;exact this
 have ld1:t1.led=t.led:=by have:(t.put (ps t.mask (tupleKeyHash knd k) D)).1.led=t.led:=rfl;rw[ep1]at this;exact this
 have esz:((xs.map (ent knd)).toArray).size=xs.length:=by simp
 have ins:insertAt (xs.map (ent knd)).toArray p (tupleKeyHash knd k,Value.ref b)=((iy xs p (k,b)).map (ent knd)).toArray:=by apply vj.mp;rw[qj,Io]
 have hsI:(iy xs p (k,b)).map (λx=>tupleKeyHash knd x.1)=iy (xs.map λx=>tupleKeyHash knd x.1) p (tupleKeyHash knd k):=Io _ _ _ _;have pI:=Ph xs p (k,b);have nI:((iy xs p (k,b)).map (·.1)).Nodup:=by refine(pI.map _).nodup_iff.mpr ?_;rw[aQ];refine cD.mpr {λz=>?_,S.nd};obtain⟨x,hx,e⟩:=au.mp z;exact q x hx e
 have isI:∀x∈iy xs p (k,b),IsTupleKey knd s.heap x.1 x.2:=λx hx=>by
  rcases aE.mp (pI.mem_iff.mp hx)with rfl|hx
  ·exact hk
  ·exact S.is x hx
 have lI:(iy xs p (k,b)).length=xs.length+1:=by rw[pI.length_eq];rfl
 have fin:∀t2:SetTable,t2.mask=t1.mask->t2.place=t1.place->t2.dummies=t1.dummies->t2.led=t1.led->wpAny (model prog w) A (do
   storeSet a (insertAt (xs.map (ent knd)).toArray p (tupleKeyHash knd k,Value.ref b)) t2
   if(!false&&t2.tooFull)=true then
    setRelay a (SetTable.grown (((xs.map (ent knd)).toArray).size+1))
    pure true
   else pure true) Q E s:=λt2 e1 e2 e3 e4=>by
  have TB:Tab t2 ((iy xs p (k,b)).map λx=>tupleKeyHash knd x.1):=by rw[hsI];exact tb.of_eq e1 e2 e3
  rw[ins];refine ae (Bh S.ob S.data ?_ (by rw[aL,ag,lI,bP];lia));have sb:=bM s.heap a (Obj.putSet ((iy xs p (k,b)).map (ent knd)).toArray t2);have ob2:(s.heap.update a (Obj.putSet ((iy xs p (k,b)).map (ent knd)).toArray t2)).get? a=some {o with data:=.set ((iy xs p (k,b)).map (ent knd)).toArray (ep+1) t2}:=by have:=b8 (Obj.putSet ((iy xs p (k,b)).map (ent knd)).toArray t2) S.ob (by rw[zH _ t2 S.data];rfl);rw[zH _ t2 S.data]at this;exact this
  have fl:t2.tooFull=decide ((xs.length+1)*5≥t.mask*3):=by unfold SetTable.tooFull SetTable.fill;rw[TB.Qn,TB.sz,ag,lI,e1,Yu];rfl
  have Ac:∀x∈iy xs p (k,b),IsTupleKey knd (s.heap.update a (Obj.putSet ((iy xs p (k,b)).map (ent knd)).toArray t2)) x.1 x.2:=λx hx=>by have ne:=S.ne (isI x hx);obtain⟨o',items,n,qL,hc,si,hi⟩:=isI x hx;exact{o',items,n,(sb.2 _ ne).trans qL,hc,si,hi}
  by_cases c:t2.tooFull=true
  ·rw[c];have g:SetTable.grown (((xs.map (ent knd)).toArray).size+1)=(xs.length+1)*4:=by unfold SetTable.grown;rw[esz,aq ∅]
   rw[g];refine ae (QT ob2 S.ex rfl TB nI Ac ∅ ∅ ∅ ∅ ∅ λh' ys o' An t' rW S' l' py=>?_);exact af (h2 q h' ys o' An t' (sb.trans rW) S' (l'.trans (e4.trans ld1)) (py.trans pI))
  ·rw[jf.mpr c];rw[fl]at c;have c':¬(xs.length+1)*5≥t.mask*3:=λz=>c (aY z);exact af (h2 q _ (iy xs p (k,b)) _ _ _ sb {ob2,S.ex,rfl,TB,by rw[lI,e1,Yu];lia,by rw[lI,e1,Yu];lia,nI,Ac} (e4.trans ld1) pI)
 by_cases c:t1.plain=true
 ·rw[ay c];refine ae (Xc hk λbv=>?_);cases bv with
  |true=>exact fin t1 rfl rfl rfl rfl
  |false=>exact fin {t1 with plain:=false} rfl rfl rfl rfl
 ·rw[aq c];refine ae (af ?_);exact fin t1 rfl rfl rfl rfl
end
end Tb
namespace Tb
open PySem
def DV{α:Type}{l:List α}(h:i<l.length):(l[i]::l.eraseIdx i).Perm l:=by rw[pS];refine List.perm_middle.symm.trans ?_;rw[List.getElem_cons_drop,cW]
theorem KI(next:Nat->Nat):∀(f k:Nat)(left:List α)(out:Array α),f=left.length->(pickOrder.go next f k left out).toList.Perm (out.toList++left)
 |0,k,left,out,h=>by rw[fN.mp h.symm,cP];exact .refl _
 |f+1,k,left,out,h=>by
  have hl:next k % left.length<left.length:=qD _ ∅
  unfold pickOrder.go;rw[ao hl];refine(KI next f (k+1) (left.eraseIdx (next k % left.length)) (out.push left[next k % left.length]) (by rw[lQ hl];lia)).trans ?_;rw[oB,da];exact(DV hl).append_left _
def Oj(next:Nat->Nat)(xs:Array α):(pickOrder next xs).toList.Perm xs.toList:=by
 have:=KI next xs.size 0 xs.toList #[] (by simp)
 rw[iL]at this;exact this
section
variable{M:Model}{A:Around}{E:Value->Shared->Prop}
theorem JY:∀(n:Nat)(xs:List α)(s:Shared){Q:List α->Shared->Prop},n=xs.length->(∀ys d,ys.Perm xs->Q ys {s with drawn:=d})->wpAny M A (drawOrder n xs) Q E s
 |0,xs,s,Q,hn,h=>by have e:xs=[]:=fN.mp hn.symm;subst e;unfold drawOrder;exact af (h [] s.drawn (.refl _))
 |n+1,[],s,Q,hn,h=>by simp at hn
 |n+1,x::xs,s,Q,hn,h=>by
  unfold drawOrder;refine ae (λΓ p hΓ=>?_);refine{by simp,?_};have hl:M.w.draws .order (s.drawn.get .order) %(x::xs).length<(x::xs).length:=qD _ (by simp);generalize M.w.draws .order (s.drawn.get .order) %(x::xs).length=i at hl;have key:wpAny M A (match(x::xs)[i]? with
   |some y=>do return y::(<-drawOrder n ((x::xs).eraseIdx i))
   |none=>unsupported "internal:drawOrder") Q E {s with drawn:=s.drawn.bump .order}:=by
   rw[ao hl];dsimp only;refine ae (JY n _ _ (by rw[lQ hl];lia) λys d hp=>af ?_);exact h _ d ((hp.cons _).trans (DV hl))
  exact key
end
end Tb
namespace Tb
open PySem PySem.SetTable PyProof.Rows
section
variable{prog:Program}{w:World}{K:Type}[DecidableEq K]{knd:KeyKind prog w K}
def Ke(x:IsTupleKey knd h k b)(kp:∀b o,h.get? b=some o->h'.get? b=some o):IsTupleKey knd h' k b:=by obtain⟨o,aT,n,ho,r⟩:=x;exact{o,aT,n,kp _ _ ho,r}
structure CW(knd:KeyKind prog w K)(ks:List (List K))(bs:List Addr)(i:Nat)(xs:List (List K×Addr)):Prop where
 len:xs.length<=i
 mem:∀k,k∈xs.map (·.1)↔k∈ks.take i
 Gz:∀x∈xs,∃j:Nat,ks[j]?=some x.1/\bs[j]?=some x.2
section
variable{A:Around}{R:Result->Shared->Prop}{I:Addr}{fp wr:List Addr}{G:Array GenState->Array GenState->Prop}{n:Nat}{P:Nat->Value->Prop}{St:Nat->Shared->Prop}
def aa6(W:WalksS prog w A.in1 I fp wr G n P St)(S:Addr)(nS:S∉fp)(hS0:h0.get? S=none)(hw0:∀b∈wr,h0.get? b=none)(ks:List (List K))(bs:List Addr)(lk:ks.length=n)(lb:bs.length=n)(hv:∀(i:Nat) v,P i v->∃b,bs[i]?=some b/\v=.ref b)
  (hk:∀(i:Nat) k b,ks[i]?=some k->bs[i]?=some b->IsTupleKey knd h0 k b) (hu:A.in1.units<cLine) (hn:n<=1000) (led:Bool) (m:Nat):
  ∀(i:Nat)(s:Shared)(o:Obj)(ep:Nat)(t:SetTable)(xs:List (List K×Addr)),n -i=m->i<=n->St i s->(∀b o,h0.get? b=some o->s.heap.get? b=some o)->mZ knd s.heap S o ep t xs->t.led=led->CW knd ks bs i xs->
   (∀s' o ep t xs,Moved (S::wr) G s s'->mZ knd s'.heap S o ep t xs->t.led=led->CW knd ks bs n xs->R (.ok (.ret .none)) s')->
   codeAny (model prog w) A (.builtin "set.update.loop" {[.ref S,.ref I],[]}) R s:=by
 have nw:S∉wr:=λh=>nS (W.sub _ h);have sub:∀b∈wr,b∈S::wr:=λb q=>az _ q;have iQ:∀{s s':Shared}{o:Obj}{ep:Nat}{t:SetTable}{xs:List (List K×Addr)}{i:Nat},Moved wr G s s'->(∀b o,h0.get? b=some o->s.heap.get? b=some o)->mZ knd s.heap S o ep t xs->CW knd ks bs i xs->mZ knd s'.heap S o ep t xs/\∀b o,h0.get? b=some o->s'.heap.get? b=some o:=λ{s s' o ep t xs i} hm kp hS hH=>by have FJ:∀b o,h0.get? b=some o->s'.heap.get? b=some o:=λb o e=>hm.heap b o (λz=>by rw[hw0 b z]at e;cases e) (kp b o e);refine{{hm.heap S _ nw hS.ob,hS.ex,hS.data,hS.tab,hS.fL,hS.cap,hS.nd,λx hx=>?_},FJ};obtain⟨j,j1,j2⟩:=hH.Gz x hx;exact Ke (hk j _ _ j1 j2) FJ
 induction m with
 |zero=>
  intro i s o ep t xs hm hi st kp hS hl hH hR;have e:i=n:=by lia
  subst e;refine dJ nq ?_;rw[fJ fA _];refine ae (m:=pyNext (.ref I)) (W.done s _ _ st λs' hm=>af (hR s' o ep t xs (hm.mono sub) (iQ hm kp hS hH).1 hl hH))
 |succ m ih=>
  intro i s o ep t xs hm hi st kp hS hl hH hR;have bR:i<n:=by lia
  refine dJ nq ?_;rw[fJ fA _];refine ae (m:=pyNext (.ref I)) (W.item i s _ _ bR st λv s' hP ig hm=>?_);obtain⟨b,hb,rfl⟩:=hv i v hP;obtain⟨k,IJ⟩:∃k,ks[i]?=some k:={_,ao ∅};obtain⟨oJ,FJ⟩:=iQ hm kp hS hH;have kb:IsTupleKey knd s'.heap k b:=Ke (hk i k b IJ hb) FJ;have et:ks.take (i+1)=ks.take i++[k]:=by rw[bx,IJ];rfl
  have mB:=hH.len;refine ae (m:=holding [Value.ref b] (setAdd S (.ref b))) (bK ?_);unfold setAdd;refine bK (ae (wpAny_pyHash_tuple hu kb ?_));refine Xd (s:={s' with toks:=s'.toks+(k.length+1)}) hu oJ kb ∅ (λq=>?_) λq h' ys o' An t' sb S2 ab3 py=>?_
  ·have hH2:CW knd ks bs (i+1) xs:={by lia,λz=>by
    rw[et,aS,<-hH.mem,aC];exact{.inl,λc=>c.elim id λe=>by obtain⟨x,hx,ex⟩:=q;rw[e,<-ex];exact au.mpr ⟨x,hx,rfl⟩},hH.Gz}
   refine af {fZ fA _,ih (i+1) _ o ep t xs ∅ bR (W.frame _ s' s'.heap _ ig (dw _ _) λb q o e=>e) FJ oJ hl hH2 λs2 o2 ep2 t2 Xb m2 a1 a2 a3=>hR s2 o2 ep2 t2 Xb (Moved.trans W.gtrans ((hm.mono sub).then_heap (h':=s'.heap) (dw _ _) λb o _ e=>e) m2) a1 a2 a3}
  ·have hH2:CW knd ks bs (i+1) ys:={by rw[py.length_eq,aZ];lia,λz=>by
    rw[et,aS,<-hH.mem,aC,(py.map (·.1)).mem_iff,aQ,aE];exact E3,λx hx=>by
    rcases aE.mp (py.mem_iff.mp hx)with rfl|hx
    ·exact⟨i,IJ,hb⟩
    ·exact hH.Gz x hx}
   refine af {fZ fA _,ih (i+1) _ o' An t' ys ∅ bR (W.frame _ s' h' _ ig (dw _ _) λb q o e=>?_) (λb o e=>?_) S2 (ab3.trans hl) hH2 λs2 o2 ep2 t2 Xb m2 a1 a2 a3=>hR s2 o2 ep2 t2 Xb (Moved.trans W.gtrans ((hm.mono sub).then_heap (h':=h') (dw _ _) λb o q e=>?_) m2) a1 a2 a3}
   ·rw[sb.2 b λh:b=S=>nS (h▸q)];exact e
   ·rw[sb.2 b λh:b=S=>by rw[h,hS0]at e;cases e];exact FJ b o e
   ·rw[sb.2 b λh:b=S=>q (h▸aA)];exact e
end
section
variable{A:Around}{E:Value->Shared->Prop}{s:Shared}
abbrev o6(w:World):Bool:=!w.params.followText "set-order"
abbrev rK(led:Bool):Obj:={cls:=.type "set",dict:=none,data:=.set #[] 0 (.fresh 0 0 led)}
def code_set_new(a:Value)(h:Q₁ (.ref s.heap.objs.size) {s with heap:=s.heap.push (rK (o6 w))}):
  codeAny (model prog w) A (.call (.builtin "set.__new__") {[.type "set",a],[]}) (wants Q₁ E) s:=by
 refine codeAny_of_tree ?_;show wpAny _ A.in1 (do checkBuiltinCall "set.__new__" {[.type "set",a],[]};again (.builtin "set.__new__" {[.type "set",a],[]})) _ _ s;refine ae (Bw (PySem.F.newCall_set_1 a) (af {fZ xq _,dJ PySem.F.entry_set_new ?_}));rw[fJ xq _];unfold Builtin.«set.__new__» Builtin.Frozenset.newClass;have Sj:=sub_set_self;obtain⟨hp,g,d,tk,os⟩:=s;dsimp only
 wp_walk
 refine ur (af ?_);dsimp only;simp only[newObj];refine ae (wpAny_alloc (af ?_));exact af h
def QG(hA:A.handled=none)(hu:A.in1.in1.in1.units<cLine)(hl:s.heap.IsList l items)(hi:items.toList=bs.map Value.ref)(lb:ks.length=bs.length)(hk:∀(i:Nat) k b,ks[i]?=some k->bs[i]?=some b->IsTupleKey knd s.heap k b)(hb:bs.length<=1000)
  (k:∀(h':Heap)(tk:Nat) o ep t xs,mZ knd h' s.heap.objs.size o ep t xs->t.led=o6 w->CW knd ks bs bs.length xs->(∀b o,s.heap.get? b=some o->h'.get? b=some o)->Q (.ref s.heap.objs.size) {s with heap:=h',toks:=tk}):
  wpAny (model prog w) A (call (.type "set") [.ref l]) Q E s:=by
 obtain⟨c,tl,adx⟩:=AJ.mro;have ft:=AJ;have adm:=ft.made;have Sj:=ft.sub;refine C1 (codeAny_of_tree ?_);show wpAny _ _ (callAny (.type "set") _) _ _ _;refine af {nB _ (by decide+kernel),dJ PySem.F.entry_type_call ?_};rw[Around.under_plain (weight_type_call_type "set" [.ref l] []) rfl];have h1:=ft.notType;have h2:=ft.canCreate;have hct:=PySem.F.typeCall_set_1 (.ref l)
 repeat (any_goals (first|assumption|wp_step))
 refine kE (code_set_new (.ref l) (E:=E) (Q₁:=λx z=>x=.ref s.heap.objs.size/\z={s with heap:=s.heap.push (rK (o6 w))}) ⟨rfl,rfl⟩) λr z hr=>?_;cases r with
 |error e=>exact hr
 |ok fl=>
  cases fl with
  |ret x=>
   obtain⟨rfl,rfl⟩:=hr;have hS:(s.heap.push (rK (o6 w))).get? s.heap.objs.size=some (rK (o6 w)):=aD _ rfl;have hT:Shared.TypeIs {s with heap:=s.heap.push (rK (o6 w))} (.ref s.heap.objs.size) "set":=⟨_,hS,rfl⟩;have hli:=ft.init.lookup;have hbi:=ft.init.bind (.ref s.heap.objs.size)
   repeat (any_goals (first|assumption|wp_step))
   refine kE (yg (R:=wants (λr z=>r=.none/\∃h' tk o ep t xs,z={s with heap:=h',toks:=tk}/\mZ knd h' s.heap.objs.size o ep t xs/\t.led=o6 w/\CW knd ks bs bs.length xs/\(∀b o,s.heap.get? b=some o->h'.get? b=some o)) E) ft.init.plain PySem.F.entry_set_init (check_set_init_1 hT ?_)) λr2 z2 vQ=>?_
   ·obtain⟨⟨oc,od,oda,zO⟩,hol,yN,nl,U1⟩:=hl;simp only at yN U1;subst yN U1;have acM:=ah (rK (o6 w)) hol;have adt:=PySem.F.sub_list_set;have adu:=PySem.F.sub_list_frozenset;have gE:(Value.type "list"==Value.type "dict")=false:=by decide
    have mB:(s.heap.push (rK (o6 w))).IsList l items:=⟨_,acM,rfl,nl,rfl⟩;have hh3:A.in1.in1.in1.handled=none:=by simp[hA]
    unfold Builtin.«set.__init__» noKeywords Builtin.Frozenset.updateFrom;generalize hPI:pyIter=PI
    wp_walk
    subst hPI;refine om mB (ae (wpAny_runValue ?_));have hlS:l<s.heap.objs.size:=aB hol;have nI:l≠(s.heap.push (rK (o6 w))).objs.size:=by rw[b7];exact aI (dD hlS)
    have nS:s.heap.objs.size∉[(s.heap.push (rK (o6 w))).objs.size,l]:=by
     rw[b7];intro hm;rcases aE.mp hm with hm|hm
     ·exact absurd hm (aI (dv _))
     ·exact absurd (aC.mp hm) (bC hlS)
    have hsz:items.size=bs.length:=by rw[<-aM,hi,ag]
    refine aa6 (knd:=knd) (h0:=s.heap) ((Walks.list hh3 _ l nI items).toS) s.heap.objs.size nS (lB (ak _)) (λb hb=>lB (by rw[aC.mp hb,b7];exact eT _)) ks bs ∅ ∅ (λi v hv=>?_) hk (by first|exact hu|simpa using hu) ∅ (o6 w) items.size 0 _ (rK (o6 w)) 0 (.fresh 0 0 (o6 w)) [] rfl (aR _) {{_,aD _ rfl,rfl,rfl},mB.push _} (λb o e=>ah _ (ah _ e)) ?_ rfl {ak _,λk=>by simp,λx hx=>nomatch hx} λs' o ep t xs hm oJ mV hH=>?_
    ·have e:items.toList[i]?=some v:=by rw[bB];exact hv
     rw[hi,aJ]at e;obtain⟨b,hb,rfl⟩:=a9.mp e;exact⟨b,hb,rfl⟩
    ·exact{ah _ hS,⟨rfl,rfl,rfl⟩,rfl,Tab.fresh 0 0 _,by show 0*5<7*3;decide,by show 7<=15;decide,kJ,λx hx=>nomatch hx}
    ·obtain⟨h',g',d',GO,Ui⟩:=s';have eg:g'=s.gens:=hm.gens;have ed:d'=s.drawn:=hm.drawn;have eo:Ui=s.os:=hm.os;subst eg ed eo;rw[hsz]at hH;refine af (af {rfl,h',GO,o,ep,t,xs,rfl,oJ,mV,hH,λb o e=>hm.heap b o ?_ (ah _ (ah _ e))});have lt:=aB e;rintro(_|⟨_,q⟩)
     ·exact cY _ lt
     ·rw[aC.mp q,b7]at lt;exact absurd lt (yr.mpr (eT _))
   ·cases r2 with
    |error e=>exact vQ
    |ok fl2=>
     cases fl2 with
     |ret r=>
      obtain⟨rfl,h',tk,o,ep,t,xs,rfl,oJ,mV,hH,IJ⟩:=vQ
      repeat (any_goals (first|assumption|wp_step))
      exact k _ _ o ep t xs oJ mV hH IJ
     |_=>exact vQ.elim
  |_=>exact hr.elim
end
end
end Tb
namespace Tb
open PySem PySem.SetTable
def EK:entryFor table "set.__iter__"=some Builtin.«frozenset.__iter__»:=
 xm (id':="frozenset.__iter__") (by kernel_rfl) rfl (by decide+kernel) (by kernel_rfl)
def dY:Slot "set_iterator" "__next__" "set_iterator.__next__":=
 .of (owner:="set_iterator") (n:="__next__") (by rw[ma,iH];kernel_rfl) (by decide+kernel) (by decide+kernel) (by decide+kernel)
  (by first|exact .inl (by decide+kernel)|exact .inr (by decide+kernel)) (by rw[w6];kernel_rfl)
def mD:entryFor table "set_iterator.__next__"=some Builtin.«set_iterator.__next__»:=entryFor_of_tree (by kernel_rfl)
def nP(a:Value):argsOk "set_iterator.__next__" {[a],[]}:=by unfold argsOk;kernel_rfl
def wH:Slot "set_iterator" "__iter__" "set_iterator.__iter__":=
 .of (owner:="set_iterator") (n:="__iter__") (by rw[ma,iH];kernel_rfl) (by decide+kernel) (by decide+kernel) (by decide+kernel)
  (by first|exact .inl (by decide+kernel)|exact .inr (by decide+kernel)) (by rw[w6];kernel_rfl)
def DX:entryFor table "set_iterator.__iter__"=some Builtin.«dict_keyiterator.__iter__»:=
 xm (id':="dict_keyiterator.__iter__") (by kernel_rfl) rfl (by decide+kernel) (by kernel_rfl)
def E1(a:Value):argsOk "set_iterator.__iter__" {[a],[]}:=by unfold argsOk;kernel_rfl
def VO:typeLookup (.type "set") "__len__"=pure (some (.builtin "set.__len__")):=by rw[ma,iH];kernel_rfl
section
variable{prog:Program}{w:World}{A:Around}{E:Value->Shared->Prop}{s:Shared}
structure Sat(w:World)(h:Heap)(S:Addr)(es:Array (Int×Value))(ep:Nat)(t:SetTable):Prop where
 ob:∃o,h.get? S=some o/\o.ExactSet/\o.data=.set es ep t
 fits:t.fits es.size=true
 led:t.led=!w.params.followText "set-order"
 rise:m6 t.place
def Sat.keep{S:Addr}(x:Sat w h S es ep t)(k:∀o,h.get? S=some o->h'.get? S=some o):Sat w h' S es ep t:=by obtain⟨⟨o,ho,r⟩,a,b,c⟩:=x;exact{{o,k o ho,r},a,b,c}
def Sat.state{S:Addr}(x:Sat w s.heap S es ep t)(h:Q (es,ep,t) s):wpAny (model prog w) A (setState S) Q E s:=by obtain⟨⟨o,ho,_,hd⟩,hf,_,_⟩:=x;exact sZ ho hd hf h
def zc(h:Q (w.params.followText "set-order") s):wpAny (model prog w) A setsByText Q E s:=by unfold setsByText;exact ae (ur (af h))
def rL(w:World)(S:Addr)(es:Array (Int×Value))(ep:Nat):List (Int×Value):=if w.params.followText "set-order"=true then(pickOrder (w.params.setOrder S ep) es).toList else es.toList
def wb(w:World)(t:SetTable):Nat->Nat
 |0=>0
 |i+1=>if w.params.followText "set-order"=true then 0 else t.place.getD i 0+1
def xP(w:World)(S:Addr)(es:Array (Int×Value))(ep:Nat):(rL w S es ep).Perm es.toList:=by
 unfold rL;split
 ·exact Oj _ _
 ·exact .refl _
def G6(t:SetTable):Nat->Nat
 |0=>0
 |i+1=>t.place.getD i 0+1
def Te(hr:m6 t.place):∀i,i<=t.place.size->below t.place (G6 t i)=i:=by
 intro i hi;obtain⟨h1,h2,h3⟩:=uf hr (G6 t i);generalize eb:below t.place (G6 t i)=b at h1 h2 h3⊢;rcases kh b i with c|c|c
 ·cases i with
  |zero=>lia
  |succ i=>
   have:=h3 b (ak _) ∅;rw[show G6 t (i+1)=t.place.getD i 0+1 from rfl]at this;by_cases e:b=i
   ·rw[e]at this;lia
   ·have:=hr b i ∅ ∅;lia
 ·exact c
 ·have:=h2 i c;cases i with
  |zero=>rw[show G6 t 0=0 from rfl]at this;lia
  |succ i=>
   rw[show G6 t (i+1)=t.place.getD i 0+1 from rfl]at this;have:=hr i (i+1) ∅ ∅;lia
def JX{S:Addr}(x:Sat w s.heap S es ep t)(hi:i<=es.size)(hd:w.params.followText "set-order"=true\/(!t.plain&&decide (es.size>1))=false)
  (h:Q ((rL w S es ep)[i]?.map λe=>(e.2,wb w t (i+1))) s):wpAny (model prog w) A (setNext S (wb w t i) i ep) Q E s:=by
 unfold setNext;refine ae (x.state ?_);dsimp only;refine ae (zc ?_);by_cases c:w.params.followText "set-order"=true
 ·rw[ay c];rw[aq (by simp)];refine ae ?_;unfold setWalk;refine ae (x.state ?_);dsimp only;refine ae (zc ?_);rw[ay c];refine ae (ur (af (af ?_)));have e1:rL w S es ep=(pickOrder (w.params.setOrder S ep) es).toList:=ay c;have e2:wb w t (i+1)=wb w t i:=by
   cases i with
   |zero=>exact ay c
   |succ i=>exact(ay c).trans (ay c).symm
  rw[e1,e2,bB]at h;exact h
 ·rw[aq c];have si:=hd.resolve_left c;have cf:w.params.followText "set-order"=false:=jf.mpr c;have fz:=x.fits;have sz:t.place.size=es.size:=by unfold SetTable.fits at fz;have:=(qH.mp fz).1;exact gX this
  show wpAny (model prog w) A (if(!t.plain&&decide (es.size>1))=true then _ else _) Q E s;rw[si];simp only[bT,dP];refine ae ?_;show wpAny (model prog w) A (if(!t.led&&!es.isEmpty)=true then _ else _) _ E s;rw[x.led,cf];simp only[Bool.not_false,jQ,nU,bT,dP];refine af (af ?_);have e0:wb w t i=G6 t i:=by
   cases i with
   |zero=>rfl
   |succ i=>exact aq c
  rw[e0,Te x.rise i ∅];have e1:rL w S es ep=es.toList:=aq c;rw[e1,bB]at h;by_cases lt:i<es.size
  ·have g1:es[i]?=some es[i]:=bo lt;have g2:t.place[i]?=some (t.place.getD i 0):=getD_some.mpr {by lia,rfl};have g3:wb w t (i+1)=t.place.getD i 0+1:=aq c;rw[g1]at h⊢;rw[g2];rw[dM,g3]at h;exact h
  ·have g1:es[i]?=none:=j8 ∅;rw[g1]at h⊢;exact h
def Fg(hT:s.TypeIs (.ref I) "set_iterator")(h:Q (.ref I) s):wpAny (model prog w) A (pyIter (.ref I)) Q E s:=by refine oj hT wH (ba wH hT DX ?_ (E1 _));show wpAny _ _ (ret (.ref I)) _ _ s;exact af {_,rfl,"set_iterator",_,hT,dY.lookup,h}
abbrev nY(first:Value)(i:Nat)(S:Addr)(n ep:Nat):Obj:={cls:=.type "set_iterator",data:=.fields #[first,.int i 0,.ref S,.int n 0,.int ep 0]}
def A2(hh:A.handled=none)(k:∀(h':Heap)(e:Addr),(∀b o,h.get? b=some o->h'.get? b=some o)->(∃o,h'.get? e=some o/\o.cls=.type "StopIteration")->E (.ref e) {s with heap:=h'}):
  wpAny (model prog w) A (newExc (.type "StopIteration") []>>=λe=>(raiseNew e:Sem α)) Q E {s with heap:=h}:=by
 refine ae ?_;simp only[newExc,newTuple];refine ae (bV ?_ (by size_fits));refine ae (m:=firstArgMember _ _) (Bw (a:=Value.none) (by first|rfl|(simp only[firstArgMember];rfl)) ?_);refine bV ?_ (by size_fits);simp only[raiseNew];refine ae (wpAny_handled ?_);rw[hh];refine ae (af (wpAny_throw ?_));exact k _ _ (λb o e=>ah _ (ah _ e)) {_,aD _ rfl,rfl}
def tV{h:Heap}(ho:h.get? a=some {cls:=cls,data:=.fields vs}):(h.update a (Obj.mapFields (·.setIfInBounds i x))).get? a=some {cls:=cls,data:=.fields (vs.setIfInBounds i x)}:=b8 _ ho rfl
def aaB(hh:A.handled=none){S I:Addr}(ne:S≠I)(hd:w.params.followText "set-order"=true\/(!t.plain&&decide (es.size>1))=false):
  WalksS prog w A I [I,S] [I] (λa b=>b=a) es.size (λi v=>((rL w S es ep).map (·.2))[i]?=some v) (λi s=>Sat w s.heap S es ep t/\s.heap.get? I=some (nY (.int (wb w t i) 0) i S es.size ep)) where
 sub:=λb hb=>by rw[aC.mp hb];exact aA
 grefl:=λ_=>rfl
 gtrans:=λ_ _ _ h1 h2=>h2.trans h1
 frame:=λi s h' tk st _ hk=>{st.1.keep λo e=>hk S (by simp) o e,hk I (by simp) _ st.2}
 item:=by
  intro i s Q E hi ⟨x,hI⟩ k;have hT:s.TypeIs (.ref I) "set_iterator":=⟨_,hI,rfl⟩;unfold pyNext;refine ae (dq (wpAny_callSpecial?_slot (name:=Str.ofString "__next__") hT dY (ba dY hT mD ?_ (nP _))));unfold Builtin.«set_iterator.__next__» slotArgs;simp only[pj,jQ,bT,dP,cN,iX];refine ae (ae (af (af ?_)));refine ae (hW hI rfl ?_);dsimp only;refine ae ?_;unfold setEntries;refine ae (x.state (af ?_));dsimp only;rw[aq (by simp)];simp only[cI];refine ae (JX x (bg hi) hd ?_);have lo:i<(rL w S es ep).length:=by rw[(xP w S es ep).length_eq,aM];exact hi
  rw[ao lo,dM];dsimp only;refine ae (eR hI rfl (by simp) ?_);have Ls:=tV (i:=0) (x:=rawInt (wb w t (i+1))) hI;refine ae (eR Ls rfl (by simp) ?_);have hI2:=tV (i:=1) (x:=rawInt ((i:Int)+1)) Ls;refine af {_,rfl,af ?_};have f9:∀b o,b≠I->s.heap.get? b=some o->((s.heap.update I (Obj.mapFields (·.setIfInBounds 0 (rawInt (wb w t (i+1)))))).update I (Obj.mapFields (·.setIfInBounds 1 (rawInt ((i:Int)+1))))).get? b=some o:=λb o nb e=>(bE _ _ (bX nb)).trans ((bE _ _ (bX nb)).trans e);refine k _ _ (by rw[aJ,ao lo];rfl) {x.keep λo e=>f9 S o ne e,?_} {λb o hb e=>f9 b o (λz=>hb (aC.mpr z)) e,rfl,rfl,rfl,ak _};exact hI2
 done:=by intro s Q E ⟨x,hI⟩ k;have hT:s.TypeIs (.ref I) "set_iterator":=⟨_,hI,rfl⟩;unfold pyNext;refine ae (dq (wpAny_callSpecial?_slot (name:=Str.ofString "__next__") hT dY (ba dY hT mD ?_ (nP _))));unfold Builtin.«set_iterator.__next__» slotArgs;simp only[pj,jQ,bT,dP,cN,iX];refine ae (ae (af (af ?_)));refine ae (hW hI rfl ?_);dsimp only;refine ae ?_;unfold setEntries;refine ae (x.state (af ?_));dsimp only;rw[aq (by simp)];simp only[cI];refine ae (JX x (ak _) hd ?_);have lo:(rL w S es ep)[es.size]?=none:=iN (by rw[(xP w S es ep).length_eq,aM];exact ak _);rw[lo,Option.map_none];dsimp only;refine ae (eR hI rfl (by simp) ?_);have f9:∀b o,b≠I->s.heap.get? b=some o->(s.heap.update I (Obj.mapFields (·.setIfInBounds 2 Value.none))).get? b=some o:=λb o nb e=>(bE _ _ (bX nb)).trans e;refine A2 (s:=s) (show A.in1.handled=none from hh) λh' e kp ack=>?_;obtain⟨o,ho,hc⟩:=ack;refine ae (fq (T:="StopIteration") (b:=true) ⟨o,ho,hc⟩ jr (af (k _ {λb o hb q=>kp b o (f9 b o (λz=>hb (aC.mpr z)) q),rfl,rfl,rfl,ak _})))
 self:=by intro i s Q E ⟨x,hI⟩ h;exact Fg ⟨_,hI,rfl⟩ h
def aaA(hh:A.handled=none){S I T:Addr}(ne:S≠I)(nT:T≠I){ps:List Nat}(hp:ps.Perm (List.range es.size)):
  WalksS prog w A I [I,S,T] [I] (λa b=>b=a) es.size (λi v=>((ps.filterMap (es[·]?)).map (·.2))[i]?=some v) (λi s=>Sat w s.heap S es ep t/\s.heap.get? I=some (nY (.ref T) i S es.size ep)/\s.heap.get? T=some {cls:=.type "tuple",data:=.seq (ps.map λ(i:Nat)=>rawInt i).toArray}) where
 sub:=λb hb=>by rw[aC.mp hb];exact aA
 grefl:=λ_=>rfl
 gtrans:=λ_ _ _ h1 h2=>h2.trans h1
 frame:=λi s h' tk st _ hk=>{st.1.keep λo e=>hk S (by simp) o e,hk I (by simp) _ st.2.1,hk T (by simp) _ st.2.2}
 item:=by
  intro i s Q E hi ⟨x,hI,U5⟩ k;have hT:s.TypeIs (.ref I) "set_iterator":=⟨_,hI,rfl⟩;unfold pyNext;refine ae (dq (wpAny_callSpecial?_slot (name:=Str.ofString "__next__") hT dY (ba dY hT mD ?_ (nP _))));unfold Builtin.«set_iterator.__next__» slotArgs;simp only[pj,jQ,bT,dP,cN,iX];refine ae (ae (af (af ?_)));refine ae (hW hI rfl ?_);dsimp only;refine ae ?_;unfold setEntries;refine ae (x.state (af ?_));dsimp only;rw[aq (by simp)];simp only[cI];refine ae (bO U5 rfl ?_);have lp:ps.length=es.size:=by rw[hp.length_eq,iZ]
  have li:i<ps.length:=by lia
  have lpi:ps[i]<es.size:=cX.mp (hp.mem_iff.mp (gg li));have e1:((ps.map λ(i:Nat)=>rawInt i).toArray)[i]?=some (.int (ps[i]:Nat) 0):=by simp[li,rawInt]
  dsimp only;rw[e1];dsimp only;refine ae ?_;unfold setNextDrawn;refine ae (x.state ?_);dsimp only;rw[aq (by simp)];simp only[cI];rw[bo lpi];refine af ?_;refine ae (eR hI rfl (by simp) ?_);have Ls:=tV (i:=1) (x:=rawInt ((i:Int)+1)) hI;refine af {_,rfl,af ?_};have f9:∀b o,b≠I->s.heap.get? b=some o->(s.heap.update I (Obj.mapFields (·.setIfInBounds 1 (rawInt ((i:Int)+1))))).get? b=some o:=λb o nb e=>(bE _ _ (bX nb)).trans e;refine k _ _ ?_ {x.keep λo e=>f9 S o ne e,Ls,f9 T _ nT U5} {λb o hb e=>f9 b o (λz=>hb (aC.mpr z)) e,rfl,rfl,rfl,ak _};have all:∀(l:List Nat),(∀p∈l,p<es.size)->∀j:Nat,(l.filterMap (es[·]?))[j]?=(l[j]?).bind (es[·]?):=by
   intro l
   induction l with
   |nil=>intro _ j;simp
   |cons p l ih=>
    intro hl j;have lp:=hl p aA;rw[fU,bo lp];cases j with
    |zero=>simp[lp]
    |succ j=>
     simp only[oh];exact ih (λq hq=>hl q (az _ hq)) j
  rw[aJ,all ps (λp hq=>cX.mp (hp.mem_iff.mp hq)) i,ao li];simp[lpi]
 done:=by
  intro s Q E ⟨x,hI,U5⟩ k;have hT:s.TypeIs (.ref I) "set_iterator":=⟨_,hI,rfl⟩;unfold pyNext;refine ae (dq (wpAny_callSpecial?_slot (name:=Str.ofString "__next__") hT dY (ba dY hT mD ?_ (nP _))));unfold Builtin.«set_iterator.__next__» slotArgs;simp only[pj,jQ,bT,dP,cN,iX];refine ae (ae (af (af ?_)));refine ae (hW hI rfl ?_);dsimp only;refine ae ?_;unfold setEntries;refine ae (x.state (af ?_));dsimp only;rw[aq (by simp)];simp only[cI];refine ae (bO U5 rfl ?_);have lp:ps.length=es.size:=by rw[hp.length_eq,iZ]
  have e1:((ps.map λ(i:Nat)=>rawInt i).toArray)[es.size]?=none:=by simp[lp]
  dsimp only;rw[e1];dsimp only;refine ae (eR hI rfl (by simp) ?_);have Ls:=tV (i:=0) (x:=rawInt 0) hI;refine ae (eR Ls rfl (by simp) ?_);have f9:∀b o,b≠I->s.heap.get? b=some o->((s.heap.update I (Obj.mapFields (·.setIfInBounds 0 (rawInt 0)))).update I (Obj.mapFields (·.setIfInBounds 2 Value.none))).get? b=some o:=λb o nb e=>(bE _ _ (bX nb)).trans ((bE _ _ (bX nb)).trans e);refine A2 (s:=s) (show A.in1.handled=none from hh) λh' e kp acj=>?_;obtain⟨o,ho,hc⟩:=acj;refine ae (fq (T:="StopIteration") (b:=true) ⟨o,ho,hc⟩ jr (af (k _ {λb o hb q=>kp b o (f9 b o (λz=>hb (aC.mpr z)) q),rfl,rfl,rfl,ak _})))
 self:=by intro i s Q E ⟨x,hI,_⟩ h;exact Fg ⟨_,hI,rfl⟩ h
def IK(hT:s.TypeIs (.ref r) "set")(h:Q false s):wpAny (model prog w) A (Builtin.List.listLengthHint (.ref r)) Q E s:=by
 unfold Builtin.List.listLengthHint;refine ae (gz hT VO ?_);generalize hid:("set.__len__":String)=id0
 wp_delta
 rw[show splitId id0=some ("set","__len__")from by subst hid;decide+kernel];subst hid;refine ae (fq (T:="set") (b:=true) hT (by rw[w6];kernel_rfl) ?_);refine lY (λZ3=>absurd Z3 (by decide)) (λ_=>?_);refine lY (λ_=>?_) (λZ3=>absurd (by decide+kernel) Z3);refine ae (gw hT ?_);exact af h
def VB{S:Addr}(x:Sat w s.heap S es ep t)(hn:es.size<=100000)
  (h1:(w.params.followText "set-order"=true\/(!t.plain&&decide (es.size>1))=false)->Q (.ref s.heap.objs.size) {s with heap:=s.heap.push (nY (.int 0 0) 0 S es.size ep)})
  (h2:∀(ps:List Nat) d,ps.Perm (List.range es.size)->Q (.ref (s.heap.objs.size+1)) {s with heap:=(s.heap.push {cls:=.type "tuple",data:=.seq (ps.map λ(i:Nat)=>rawInt i).toArray}).push (nY (.ref s.heap.objs.size) 0 S es.size ep),drawn:=d}):
  wpAny (model prog w) A (pyIter (.ref S)) Q E s:=by
 obtain⟨o,ho,hex,hd⟩:=x.ob;have hT:s.TypeIs (.ref S) "set":={o,ho,hex.1};refine oj hT F.slot_set_iter (ba F.slot_set_iter hT EK ?_ (F.args_set_iter_1 _));unfold Builtin.«frozenset.__iter__» Builtin.Frozenset.slot0 slotArgs;refine ae (ae (af (af ?_)));refine ae ?_;unfold Builtin.Frozenset.sizeOf setEntries;refine ae (ae (x.state (af (af ?_))));refine ae ?_;unfold setDrawn;refine ae (x.state ?_);refine ae (zc ?_);refine af ?_;show wpAny (model prog w) _ (if(!w.params.followText "set-order"&&(!t.plain&&decide (es.size>1)))=true then _ else _) _ _ s;by_cases c:(!w.params.followText "set-order"&&(!t.plain&&decide (es.size>1)))=true
 ·rw[ay c];refine ae (JY es.size (List.range es.size) s (by simp) λps d hp=>?_);refine ae (bV ?_ (by show(ps.map _).toArray.size<=_;rw[aL,ag,hp.length_eq,iZ,bP];lia));have x2:Sat w (s.heap.push {cls:=.type "tuple",data:=.seq (ps.map λ(i:Nat)=>rawInt i).toArray}) S es ep t:=x.keep λo e=>ah _ e;refine ae ?_;unfold setEpoch;refine ae (Sat.state x2 (af ?_));refine ae (bV (af {_,rfl,"set_iterator",_,{_,aD _ rfl,rfl},dY.lookup,?_}));have:=h2 ps d hp;rw[b7];exact this
 ·rw[aq c];refine ae (af ?_);refine ae ?_;unfold setEpoch;refine ae (x.state (af ?_));refine ae (bV (af {_,rfl,"set_iterator",_,{_,aD _ rfl,rfl},dY.lookup,h1 ?_}));cases q:w.params.followText "set-order"with
  |true=>exact .inl rfl
  |false=>
   rw[q]at c;exact .inr (jf.mpr c)
def KL(l:List Value)(acc:Array Value)(ha:ItemsOf (λi v=>l[i]?=some v) acc l.length):acc.toList=l:=by
 refine tP λi=>?_;by_cases c:i<l.length
 ·have ci:i<acc.size:=by rw[ha.1];exact c
  have:=ha.2 i acc[i] (bo ci);rw[this,bB,bo ci]
 ·rw[iN (by rw[aM,ha.1];lia),iN ∅]
theorem Od{α:Type}:∀l:List α,(List.range l.length).filterMap (λi=>l[i]?)=l
 |[]=>rfl
 |x::l=>by rw[aZ,wy,fU];show x::_=_;rw[sG];congr 1;exact Od l
def M6{S L:Addr}(hh:A.handled=none)(x:Sat w s.heap S es ep t)(hn:es.size<=100000)(KY:L≠S)(hL:s.heap.get? L=some {cls:=.type "list",data:=.seq #[] c₀})
  (hR:∀h' tk d acc c,(∀b o,b≠L->s.heap.get? b=some o->h'.get? b=some o)->h'.get? L=some {cls:=.type "list",dict:=none,data:=.seq acc c,slots:=#[]}->acc.toList.Perm (es.toList.map (·.2))->R (.ok (.ret res)) {s with heap:=h',toks:=tk,drawn:=d}):
  wpAny (model prog w) A.in1 (Builtin.List.listExtendWith (.ref L) (.ref S) res)
   (λfin s'=>match fin with| .done f=>R (.ok f) s'| .again c'=>c'.quiet=true/\codeAny (model prog w) A c' R s') (λe s'=>R (.error e) s') s:=by
 obtain⟨o,ho,hex,hd⟩:=x.ob;have hS:=aB ho;have hLl:=aB hL;have key:∀(I:Addr)(fp:List Addr)(P:Nat->Value->Prop)(St:Nat->Shared->Prop),WalksS prog w A.in1 I fp [I] (λa b=>b=a) es.size P St->s.heap.objs.size<=I->L∉fp->(∀acc:Array Value,ItemsOf P acc es.size->acc.toList.Perm (es.toList.map (·.2)))->
   ∀(h:Heap)(d:Drawn)(c₁ tk:Nat),(∀b o,b≠L->s.heap.get? b=some o->h.get? b=some o)->h.get? L=some {cls:=.type "list",data:=.seq #[] c₁}->St 0 {s with heap:=h,toks:=tk,drawn:=d}->
   codeAny (model prog w) A (.builtin "list.extend.loop" {[.ref L,.ref I,res],[]}) R {s with heap:=h,toks:=tk,drawn:=d}:=by
  intro I fp P St W hI nf hP h d c₁ tk hk abn st;refine codeAny_extend_loopS W (by rw[bP];lia) _ nf _ es.size 0 _ _ _ rfl (aR _) st abn (ItemsOf.nil P) λs' sU c' hm oJ ac1=>?_;obtain⟨h',g',d',GO,Ui⟩:=s';have eg:=hm.gens;have ed:d'=d:=hm.drawn;have eo:=hm.os;subst eg ed eo;refine hR h' GO d' sU c' (λb o hb e=>hm.heap b o ?_ (hk b o hb e)) oJ (hP sU ac1);have lt:=aB e;intro q;rcases aE.mp q with q|q
  ·exact hb q
  ·rw[aC.mp q]at lt;exact absurd (aW lt hI) (cY _)
 have tail:∀(I:Addr)(fp:List Addr)(P:Nat->Value->Prop)(St:Nat->Shared->Prop),WalksS prog w A.in1 I fp [I] (λa b=>b=a) es.size P St->s.heap.objs.size<=I->L∉fp->(∀acc:Array Value,ItemsOf P acc es.size->acc.toList.Perm (es.toList.map (·.2)))->
   ∀(h:Heap)(d:Drawn),(∀b o,s.heap.get? b=some o->h.get? b=some o)->St 0 {s with heap:=h,drawn:=d}->
   wpAny (model prog w) A.in1 (Builtin.List.listTouch (.ref L)>>=λ_=>again (.builtin "list.extend.loop" {[.ref L,.ref I,res],[]})) (λfin s'=>match fin with| .done f=>R (.ok f) s'| .again c'=>c'.quiet=true/\codeAny (model prog w) A c' R s') (λe s'=>R (.error e) s') {s with heap:=h,drawn:=d}:=by
  intro I fp P St W hI nf hP h d hk st;refine ae ?_;have U7:=hk _ _ hL;refine ae (iB U7 rfl ?_);have U6:=b8 (Obj.mapSeq (·.push Value.none)) U7 rfl;refine iB U6 rfl ?_;have abm:=b8 (Obj.mapSeq (·.pop)) U6 rfl;have f9:∀b o,b≠L->h.get? b=some o->((h.update L (Obj.mapSeq (·.push Value.none))).update L (Obj.mapSeq (·.pop))).get? b=some o:=
   λb o hb e=>(bE _ _ (bX hb)).trans ((bE _ _ (bX hb)).trans e)
  exact af {fZ qP _,key I fp P St W hI nf hP _ d _ s.toks (λb o hb e=>f9 b o hb (hk b o e)) abm (W.frame 0 {s with heap:=h,drawn:=d} _ s.toks st (ak _) λb hb o e=>f9 b o (λz=>nf (z▸hb)) e)}
 have hT:s.TypeIs (.ref S) "set":={o,ho,hex.1};have e1:Builtin.List.listSameRef (.ref L) (.ref S)=false:=by simp[Builtin.List.listSameRef,KY]
 have e2:(Value.type "set"==Value.type "list")=false:=by decide
 have e3:(Value.type "set"==Value.type "tuple")=false:=by decide
 unfold Builtin.List.listExtendWith;refine ae (gw hT ?_);simp only[e1,e2,e3,yT,bT,dP];refine ae (VB x hn (λhc=>?_) λps d hp=>?_)
 ·have W:=aaB (prog:=prog) (A:=A.in1) (ep:=ep) (by simpa using hh) (aI hS) hc;have nf:L∉[s.heap.objs.size,S]:=λhb=>by
   rcases aE.mp hb with q|q
   ·exact absurd q (aI hLl)
   ·exact KY (aC.mp q)
  have hP:∀acc:Array Value,ItemsOf (λi v=>((rL w S es ep).map (·.2))[i]?=some v) acc es.size->acc.toList.Perm (es.toList.map (·.2)):=λacc ha=>by
   have lo:((rL w S es ep).map (·.2)).length=es.size:=by rw[ag,(xP w S es ep).length_eq,aM]
   rw[<-lo]at ha;rw[KL _ acc ha];exact(xP w S es ep).map _
  have kp:∀b o,s.heap.get? b=some o->(s.heap.push (nY (.int 0 0) 0 S es.size ep)).get? b=some o:=λb o e=>ah _ e;have st:Sat w (s.heap.push (nY (.int 0 0) 0 S es.size ep)) S es ep t/\(s.heap.push (nY (.int 0 0) 0 S es.size ep)).get? s.heap.objs.size=some (nY (.int (wb w t 0) 0) 0 S es.size ep):={x.keep λo e=>kp _ _ e,aD _ rfl};refine ae (bK (IK {o,kp _ _ ho,hex.1} ?_));refine lY (λ_=>?_) (λ_=>af {fZ qP _,key _ _ _ _ W (ak _) nf hP _ s.drawn c₀ s.toks (λb o _ e=>kp b o e) (kp _ _ hL) st});exact ae (fE (tail _ _ _ _ W (ak _) nf hP _ s.drawn kp st))
 ·have nT:s.heap.objs.size≠s.heap.objs.size+1:=aI (dv _);have W:=aaA (prog:=prog) (w:=w) (A:=A.in1) (ep:=ep) (t:=t) (by simpa using hh) (aI (dD hS)) nT hp;have nf:L∉[s.heap.objs.size+1,S,s.heap.objs.size]:=λhb=>by
   rcases aE.mp hb with q|q
   ·exact absurd q (aI (dD hLl))
   ·rcases aE.mp q with q|q
    ·exact KY q
    ·exact absurd (aC.mp q) (aI hLl)
  have hP:∀acc:Array Value,ItemsOf (λi v=>((ps.filterMap (es[·]?)).map (·.2))[i]?=some v) acc es.size->acc.toList.Perm (es.toList.map (·.2)):=λacc ha=>by
   have hl:(ps.filterMap (es[·]?)).Perm es.toList:=by
    have:=hp.filterMap (es.toList[·]?);rw[<-aM]at this;have e4:(ps.filterMap (es[·]?))=ps.filterMap (es.toList[·]?):=by simp
    rw[e4];rwa [Od]at this
   have lo:((ps.filterMap (es[·]?)).map (·.2)).length=es.size:=by rw[ag,hl.length_eq,aM]
   rw[<-lo]at ha;rw[KL _ acc ha];exact hl.map _
  generalize pH:(s.heap.push {cls:=.type "tuple",data:=.seq (ps.map λ(i:Nat)=>rawInt i).toArray}).push (nY (.ref s.heap.objs.size) 0 S es.size ep)=tG;have kp:∀b o,s.heap.get? b=some o->tG.get? b=some o:=λb o e=>by rw[<-pH];exact ah _ (ah _ e)
  have gI:tG.get? (s.heap.objs.size+1)=some (nY (.ref s.heap.objs.size) 0 S es.size ep):=by have:=aD (s.heap.push {cls:=.type "tuple",data:=.seq (ps.map λ(i:Nat)=>rawInt i).toArray}) (o:=nY (.ref s.heap.objs.size) 0 S es.size ep) rfl;rw[b7]at this;rw[<-pH];exact this
  have gT:tG.get? s.heap.objs.size=some {cls:=.type "tuple",data:=.seq (ps.map λ(i:Nat)=>rawInt i).toArray}:=by rw[<-pH];exact ah _ (aD _ rfl)
  have st:Sat w tG S es ep t/\tG.get? (s.heap.objs.size+1)=some (nY (.ref s.heap.objs.size) 0 S es.size ep)/\tG.get? s.heap.objs.size=some {cls:=.type "tuple",data:=.seq (ps.map λ(i:Nat)=>rawInt i).toArray}:={x.keep λo e=>kp _ _ e,gI,gT};refine ae (bK (IK {o,kp _ _ ho,hex.1} ?_));refine lY (λ_=>?_) (λ_=>af {fZ qP _,key _ _ _ _ W (eT _) nf hP tG d c₀ s.toks (λb o _ e=>kp b o e) (kp _ _ hL) st});exact ae (fE (tail _ _ _ _ W (eT _) nf hP tG d kp st))
def JM{S:Addr}(hh:A.handled=none)(x:Sat w s.heap S es ep t)(hn:es.size<=100000)
  (h:∀h' tk d vs,vs.Perm (es.toList.map (·.2))->(∀b o,s.heap.get? b=some o->h'.get? b=some o)->R vs {s with heap:=h',toks:=tk,drawn:=d}):wpAny (model prog w) A (collect (.ref S)) R E s:=by
 obtain⟨o,ho,hex,hd⟩:=x.ob;have hS:=aB ho;unfold collect;refine ae (wpAny_runValue (dJ F.entry_proto_collect ?_));rw[fJ F.plain_proto_collect _];refine ae (bV ?_);refine af {fZ Bv _,dJ F.entry_list_iadd ?_};rw[fJ Bv _];have k1:∀b o,s.heap.get? b=some o->(s.heap.push {cls:=.type "list",data:=.seq ([]:List Value).toArray}).get? b=some o:=λb o e=>ah _ e;have hL:(s.heap.push {cls:=.type "list",data:=.seq ([]:List Value).toArray}).get? s.heap.objs.size=some {cls:=.type "list",data:=.seq #[]}:=aD _ rfl;have key:=M6 (prog:=prog) (s:={s with heap:=s.heap.push {cls:=.type "list",data:=.seq ([]:List Value).toArray}})
  (R:=λ(q:Result)(s':Shared)=>∃(h':Heap)(tk:Nat)(d:Drawn)(sU:Array Value)(c':Nat),q=.ok (.ret (.ref s.heap.objs.size))/\s'={s with heap:=h',toks:=tk,drawn:=d}/\
   (∀b o,s.heap.get? b=some o->h'.get? b=some o)/\h'.get? s.heap.objs.size=some {cls:=.type "list",dict:=none,data:=.seq sU c',slots:=#[]}/\sU.toList.Perm (es.toList.map (·.2)))
  hh (x.keep λo e=>k1 _ _ e) hn (bC hS) hL λh' tk d acc c kp g pm=>{h',tk,d,acc,c,rfl,rfl,λb o e=>kp b o (aI (aB e)) (k1 _ _ e),g,pm}
 refine cR key (λfin s' x=>?_) λe s' x=>?_
 ·cases fin with
  |done f=>
   obtain⟨h',tk,d,sU,c',e,rfl,hk,oJ,pm⟩:=x;cases e;refine ae (CZ oJ ?_);exact af (h h' tk d sU.toList pm hk)
  |again c₁=>
   refine{x.1,kE x.2 λq aae y=>?_};obtain⟨h',tk,d,sU,c',rfl,rfl,hk,oJ,pm⟩:=y;refine ae (CZ oJ ?_);exact af (h h' tk d sU.toList pm hk)
 ·obtain⟨_,_,_,_,_,e',_⟩:=x;cases e'
end
end Tb
namespace LM
open PySem PyProof.Rows
def Bd:Bool->Keyed->Array Keyed->Nat->Nat->Nat->StateT SortSt Sem (Option Nat):=sortPriv% PySem.Builtin.gallop
def HV:Array Keyed->Array Keyed->StateT SortSt Sem (Array Keyed):=sortPriv% PySem.Builtin.mergeLo
def HW:Array Keyed->Array Keyed->StateT SortSt Sem (Array Keyed):=sortPriv% PySem.Builtin.mergeHi
structure Ct where
 prog:Program
 w:World
 A:Around
 J:Shared->Prop
 κ:SortKind
 rk:Keyed->Nat
 In:Keyed->Prop
 lt:∀x y,In x->In y->∀s,J s->wpAny (model prog w) A (keyLt' κ x.1 y.1) (λb s'=>b=decide (rk x<rk y)/\J s') (λ_ _=>False) s
variable{C:Ct}
def W(C:Ct)(m:StateT SortSt Sem α)(Q:α->SortSt->Prop)(st:SortSt):Prop:=
 ∀s,C.J s->wpAny (model C.prog C.w) C.A (m.run st) (λr s'=>C.J s'/\Q r.1 r.2) (λ_ _=>False) s
section
variable{α β:Type}{Q:α->SortSt->Prop}{st:SortSt}
def W.pure(h:Q a st):W C (pure a) Q st:=λs j=>by rw[StateT.run_pure];exact af ⟨j,h⟩
def W.bind(h:W C m (λb ig=>W C (f b) Q ig) st):W C (m>>=f) Q st:=λs j=>by rw[StateT.run_bind];exact ae (cR (h s j) (λr s' x=>x.2 s' x.1) λ_ _ e=>e)
def W.mono(h:W C m Q' st)(k:∀a ig,Q' a ig->Q a ig):W C m Q st:=λs j=>
 cR (h s j) (λr s' x=>{x.1,k _ _ x.2}) λ_ _ e=>e
def W.get{Q:SortSt->SortSt->Prop}(h:Q st st):W C (get:StateT SortSt Sem SortSt) Q st:=λs j=>by rw[StateT.run_get];exact af ⟨j,h⟩
def W.modify{Q:PUnit->SortSt->Prop}(h:Q ⟨⟩ (f st)):W C (modify f:StateT SortSt Sem PUnit) Q st:=λs j=>by rw[StateT.run_modify];exact af ⟨j,h⟩
def W.rl{Q:PUnit->SortSt->Prop}(h:Q ⟨⟩ st):W C (liftM (PySem.rule r:Sem PUnit):StateT SortSt Sem PUnit) Q st:=λs j=>by show wpAny _ _ ((StateT.lift (PySem.rule r:Sem PUnit):StateT SortSt Sem PUnit).run st) _ _ s;rw[StateT.run_lift];exact ae (fE (af ⟨j,h⟩))
def W.lt{Q:Option Bool->SortSt->Prop}(hk:kindOf st=C.κ)(hx:C.In x)(hy:C.In y)(h:Q (some (decide (C.rk x<C.rk y))) st):W C (lt' x y) Q st:=by rw[lt'_eq];refine W.bind (W.get ?_);rw[hk];refine W.bind λs j=>?_;show wpAny _ _ ((StateT.lift _:StateT SortSt Sem _).run st) _ _ s;rw[StateT.run_lift];refine ae (dq (cR (C.lt x y hx hy s j) (λb s' q=>?_) λ_ _ e=>e.elim));obtain⟨rfl,j'⟩:=q;exact af {j',W.pure h}
def W.elem{Q:Keyed->SortSt->Prop}(hi:i<a.size)(h:Q a[i] st):W C (elem' a i) Q st:=by rw[elem'_eq,getElem?_pos a i hi];exact W.pure h
def W.for(I:Nat->β->SortSt->Prop){Q:β->SortSt->Prop}
  (hs:∀i c st,a<=i->i<b->I i c st->W C (f i c) (λr ig=>match r with| .done c'=>Q c' ig| .yield c'=>I (i+1) c' ig) st)
  (he:∀c st,I (max a b) c st->Q c st) (h:I a c st):W C (forIn [a:b] c f) Q st:=by
 rw[lV];have hsz:([a:b]:Std.Legacy.Range).size=b -a:=by simp[Std.Legacy.Range.size]
 show W C (forIn (List.range' a ([a:b]:Std.Legacy.Range).size 1) c f) Q st;rw[hsz]
 suffices go:∀n i c st,a<=i->i+n=max a b->I i c st->W C (forIn (List.range' i n 1) c f) Q st from go (b -a) a c st (ak _) ∅ h
 intro n
 induction n with
 |zero=>
  intro i c st _ e h;rw[List.range'_zero,xt];rw[show i=max a b by lia]at h;exact W.pure (he _ _ h)
 |succ n ih=>
  intro i c st ha e h;rw[List.range'_succ,mF];refine W.bind (W.mono (hs i c st ha ∅ h) λr ig x=>?_);cases r with
  |done c'=>exact W.pure x
  |yield c'=>exact ih (i+1) c' ig ∅ ∅ x
end
variable{C:Ct}
def Ea(C:Ct)(left:Bool)(key x:Keyed):Bool:=if left then decide (C.rk x<C.rk key)else !decide (C.rk key<C.rk x)
def aaD{st:SortSt}(hk:kindOf st=C.κ)(oq:C.In key)(hi:i<arr.size)(iV:C.In arr[i])(h:Q (some (Ea C left key arr[i])) st):W C (do
  let x<-elem' arr i
  if left=true then lt' x key else do
   let r<-lt' key x
   pure (r.map (!·))) Q st:=by
 refine W.bind (W.elem hi ?_);unfold Ea at h;cases left with
 |true=>exact W.lt hk iV oq h
 |false=>exact W.bind (W.lt hk oq iV (W.pure h))
def gB(C:Ct)(left:Bool)(key:Keyed)(arr:Array Keyed)(i:Nat):Bool:=(arr[i]?).elim false (Ea C left key)
def GF{st:SortSt}(hk:kindOf st=C.κ)(oq:C.In key)(iV:∀x∈arr,C.In x)(hb:base+n<=arr.size)(hh:hint<n)
  (mono:∀i j,i<=j->j<n->gB C left key arr (base+j)=true->gB C left key arr (base+i)=true)
  (h:∀k,k<=n->(∀i,i<k->gB C left key arr (base+i)=true)->(∀i,k<=i->i<n->gB C left key arr (base+i)=false)->Q (some k) st):W C (Bd left key arr base n hint) Q st:=by
 have bb:∀{i:Nat}{Q:Option Bool->SortSt->Prop}(q:i<n),Q (some (gB C left key arr (base+i))) st->W C (do
  let x<-elem' arr (base+i)
  if left=true then lt' x key else do
   let r<-lt' key x
   pure (r.map (!·))) Q st:=λ{i Q} q x=>aaD hk oq ∅ (iV _ (cJ ∅)) (by
    unfold gB at x;rw[getElem?_pos arr (base+i) ∅]at x;exact x)
 have nm:∀i j,i<=j->j<n->gB C left key arr (base+i)=false->gB C left key arr (base+j)=false:=λi j h1 h2 e=>by
  cases e2:gB C left key arr (base+j)with
  |false=>rfl
  |true=>rw[mono i j h1 h2 e2]at e;cases e
 generalize gB C left key arr=B at mono h bb nm;unfold Bd;refine W.bind (bb hh ?_);have fin:∀{lo hi:Nat},lo<=hi->hi<=n->(∀i,i<lo->B (base+i)=true)->(∀i,hi<=i->i<n->B (base+i)=false)->∀{f:Nat->Option (Option Nat)×Nat×Nat->StateT SortSt Sem (ForInStep (Option (Option Nat)×Nat×Nat))}{g:Option (Option Nat)×Nat×Nat->StateT SortSt Sem (Option Nat)},
   (∀x lo hi(P:ForInStep (Option (Option Nat)×Nat×Nat)->SortSt->Prop),lo<=hi->hi<=n->(lo≥hi->P (.done (none,lo,hi)) st)->(lo<hi->(B (base+(lo+(hi -lo)/2))=true->P (.yield (none,lo+(hi -lo)/2+1,hi)) st)/\(B (base+(lo+(hi -lo)/2))=false->P (.yield (none,lo,lo+(hi -lo)/2)) st))->W C (f x (none,lo,hi)) P st)->
   (∀lo hi,W C (pure (some hi)) Q st->W C (g (none,lo,hi)) Q st)->W C (forIn [0:n] (none,lo,hi) f>>=g) Q st:=by
  intro lo hi h1 h2 h3 h4 f g hf hg;refine W.bind (W.mono (W.for (I:=λx c s'=>s'=st/\∃lo hi,c=(none,lo,hi)/\lo<=hi/\hi<=n/\hi -lo<=n -x/\(∀i,i<lo->B (base+i)=true)/\(∀i,hi<=i->i<n->B (base+i)=false))
   (Q:=λc s'=>s'=st/\∃hi,c=(none,hi,hi)/\hi<=n/\(∀i,i<hi->B (base+i)=true)/\(∀i,hi<=i->i<n->B (base+i)=false)) ?_ ?_ {rfl,lo,hi,rfl,h1,h2,by lia,h3,h4}) ?_)
  ·rintro x c s' _ hx ⟨rfl,lo,hi,rfl,a1,a2,a3,a4,a5⟩;exact hf x lo hi _ a1 a2 (λq=>{rfl,hi,by rw[show lo=hi by lia],a2,λi q=>a4 i ∅,a5}) λq=>{λe=>{rfl,_,_,rfl,by lia,a2,by lia,λi q=>mono i _ ∅ ∅ e,a5},λe=>{rfl,_,_,rfl,by lia,by lia,by lia,a4,λi q z=>nm _ i q z e}}
  ·rintro c s' ⟨rfl,lo,hi,rfl,a1,a2,a3,a4,a5⟩;have:lo=hi:=by lia
   subst this;exact⟨rfl,_,rfl,a2,a4,a5⟩
  ·rintro c s' ⟨rfl,hi,rfl,a2,a4,a5⟩;exact hg _ _ (W.pure (h hi a2 a4 a5))
 cases e0:B (base+hint)with
 |true=>
  refine W.bind (W.mono (W.for (I:=λx c s'=>s'=st/\∃l o,c=(none,l,o)/\l<o/\x<=l/\hint+l<n/\B (base+(hint+l))=true)
   (Q:=λc s'=>s'=st/\∃l o,c=(none,l,o)/\l<o/\hint+l<n/\B (base+(hint+l))=true/\(n -hint<=o\/B (base+(hint+o))=false)) ?_ ?_ {rfl,0,1,rfl,by lia,by lia,by lia,e0}) ?_)
  ·rintro x c s' _ hx ⟨rfl,l,o,rfl,a1,a2,a3,a4⟩;by_cases c:o≥n -hint
   ·dsimp only;rw[ay c];exact W.pure {rfl,l,o,rfl,a1,a3,a4,.inl c}
   ·dsimp only;rw[aq c];refine W.bind (bb ∅ ?_);cases e1:B (base+(hint+o))with
    |true=>exact W.pure {rfl,o,2*o+1,rfl,by lia,by lia,by lia,e1}
    |false=>exact W.pure {rfl,l,o,rfl,a1,a3,a4,.inr e1}
  ·rintro c s' ⟨rfl,l,o,rfl,a1,a2,a3,a4⟩;lia
  ·rintro c s' ⟨rfl,l,o,rfl,a1,a3,a4,a5⟩;refine fin (lo:=hint+l+1) (hi:=hint+min o (n -hint)) ∅ ∅ (λi q=>mono i _ ∅ a3 a4) (λi q z=>?_) (λx lo hi P a1 a2 p1 p2=>?_) λlo hi x=>x
   ·rcases a5 with a5|a5
    ·lia
    ·exact nm _ i ∅ z a5
   ·by_cases c:lo≥hi
    ·dsimp only;rw[ay c];exact W.pure (p1 c)
    ·dsimp only;rw[aq c];refine W.bind (bb ∅ ?_);cases e1:B (base+(lo+(hi -lo)/2))with
     |true=>exact W.pure ((p2 ∅).1 e1)
     |false=>exact W.pure ((p2 ∅).2 e1)
 |false=>
  refine W.bind (W.mono (W.for (I:=λx c s'=>s'=st/\∃l o,c=(none,l,o)/\l<o/\x<=l/\l<=hint/\B (base+(hint -l))=false)
   (Q:=λc s'=>s'=st/\∃l o,c=(none,l,o)/\l<o/\l<=hint/\B (base+(hint -l))=false/\(hint+1<=o\/B (base+(hint -o))=true)) ?_ ?_ {rfl,0,1,rfl,by lia,by lia,by lia,e0}) ?_)
  ·rintro x c s' _ hx ⟨rfl,l,o,rfl,a1,a2,a3,a4⟩;by_cases c:o≥hint+1
   ·dsimp only;rw[ay c];exact W.pure {rfl,l,o,rfl,a1,a3,a4,.inl c}
   ·dsimp only;rw[aq c];refine W.bind (bb ∅ ?_);cases e1:B (base+(hint -o))with
    |true=>exact W.pure {rfl,l,o,rfl,a1,a3,a4,.inr e1}
    |false=>exact W.pure {rfl,o,2*o+1,rfl,by lia,by lia,by lia,e1}
  ·rintro c s' ⟨rfl,l,o,rfl,a1,a2,a3,a4⟩;lia
  ·rintro c s' ⟨rfl,l,o,rfl,a1,a3,a4,a5⟩;refine fin (lo:=hint+1 -min o (hint+1)) (hi:=hint -l) ∅ ∅ (λi q=>?_) (λi q z=>nm _ i ∅ z a4) (λx lo hi P a1 a2 p1 p2=>?_) λlo hi x=>x
   ·rcases a5 with a5|a5
    ·lia
    ·exact mono i _ ∅ ∅ a5
   ·by_cases c:lo≥hi
    ·dsimp only;rw[ay c];exact W.pure (p1 c)
    ·dsimp only;rw[aq c];refine W.bind (bb ∅ ?_);cases e1:B (base+(lo+(hi -lo)/2))with
     |true=>exact W.pure ((p2 ∅).1 e1)
     |false=>exact W.pure ((p2 ∅).2 e1)
section
variable{α:Type}{r:α->α->Prop}{la lb out:List α}{ia ib:Nat}
structure Mg(r:α->α->Prop)(la lb out:List α)(ia ib:Nat):Prop where
 pm:out.Perm (la.take ia++lb.take ib)
 so:out.Pairwise r
 ga:∀x∈out,∀y∈la.drop ia,r x y
 gb:∀x∈out,∀y∈lb.drop ib,r x y
def Mg.swap(h:Mg r la lb out ia ib):Mg r lb la out ib ia:={h.pm.trans iK,h.so,h.gb,h.ga}
def Mg.go(h:Mg r la lb out ia ib)(hs:la.Pairwise r)(k:Nat)(c:∀x∈(la.drop ia).take k,∀y∈lb.drop ib,r x y):Mg r la lb (out++(la.drop ia).take k) (ia+k) ib:=by
 have e:=cW k (la.drop ia);have s2:=hs.sublist (tQ ia la);rw[<-e]at s2;obtain⟨s3,s4,s5⟩:=jh.mp s2;rw[List.drop_drop]at s5;have m:∀y∈(la.drop ia).take k,y∈la.drop ia:=λy hy=>eJ hy;have m2:∀y∈la.drop (ia+k),y∈la.drop ia:=λy hy=>by rw[<-List.drop_drop]at hy;exact List.mem_of_mem_drop hy
 refine{?_,jh.mpr {h.so,s3,λx hx y hy=>h.ga x hx y (m y hy)},λx hx y hy=>?_,λx hx y hy=>?_}
 ·rw[List.take_add];refine(h.pm.append_right _).trans ?_;rw[da,da];exact pP _ iK
 ·rcases aS.mp hx with hx|hx
  ·exact h.ga x hx y (m2 y hy)
  ·exact s5 x hx y hy
 ·rcases aS.mp hx with hx|hx
  ·exact h.gb x hx y hy
  ·exact c x hx y hy
def Mg.end(h:Mg r la lb out ia ib)(ha:la.Pairwise r)(hb:lb.Pairwise r)(c:∀x∈la.drop ia,∀y∈lb.drop ib,r x y):(out++la.drop ia++lb.drop ib).Perm (la++lb)/\(out++la.drop ia++lb.drop ib).Pairwise r:=by
 constructor
 ·rw[da];refine(h.pm.append_right _).trans ?_
  conv=>rhs;rw[<-cW ia la,<-cW ib lb]
  rw[da,da];refine pP _ ?_;rw[<-da,<-da];exact wC _ iK
 ·refine jh.mpr {jh.mpr {h.so,ha.sublist (tQ _ _),h.ga},hb.sublist (tQ _ _),λx hx y hy=>?_};rcases aS.mp hx with hx|hx
  ·exact h.gb x hx y hy
  ·exact c x hx y hy
end
variable{C:Ct}
def Res(C:Ct)(a b m:Array Keyed):Prop:=m.toList.Perm (a.toList++b.toList)/\m.toList.Pairwise λx y=>C.rk x<=C.rk y
abbrev So(C:Ct)(a:Array Keyed):Prop:=a.toList.Pairwise λx y=>C.rk x<=C.rk y
abbrev Rk(C:Ct)(x y:Keyed):Prop:=C.rk x<=C.rk y
def So.at(h:So C a)(hj:j<a.size)(q:i<=j):C.rk (a[i]'∅)<=C.rk a[j]:=by
 rcases Nat.lt_or_ge i j with z|z
 ·exact eZ.mp h i j (by simpa using(by lia:i<a.size)) (by simpa using hj) z
 ·have:i=j:=by lia
  subst this;exact ak _
def zV{a:Array Keyed}(h:x∈a.toList.drop n):∃i,∃q:i<a.size,n<=i/\x=a[i]:=by obtain⟨i,hi,e⟩:=dN.mp h;rw[k8,aM]at hi;exact{n+i,by lia,by lia,by rw[<-e];simp}
def OT{a:Array Keyed}(h:x∈(a.toList.drop n).take k):∃i,∃q:i<a.size,n<=i/\i<n+k/\x=a[i]:=by obtain⟨i,hi,e⟩:=dN.mp h;rw[aU,k8,aM]at hi;exact{n+i,by lia,by lia,by lia,by rw[<-e];simp}
section
variable{a b:Array Keyed}{out:List Keyed}{ia ib:Nat}
def Mg.on(m:Mg (Rk C) a.toList b.toList out ia ib)(sa:So C a)(k v:Nat)(hx:∀i,ia<=i->i<ia+k->(q:i<a.size)->C.rk a[i]<=v)(hy:∀j,ib<=j->(q:j<b.size)->v<=C.rk b[j]):Mg (Rk C) a.toList b.toList (out++(a.toList.drop ia).take k) (ia+k) ib:=
 m.go sa k λx xa y FL=>by obtain⟨i,q,h1,h2,rfl⟩:=OT xa;obtain⟨j,z,h3,rfl⟩:=zV FL;exact aF (hx i h1 h2 q) (hy j h3 z)
def OA(h:ia<a.size):(a.toList.drop ia).take 1=[a[ia]]:=by rw[ji (by simpa using h)];simp
structure MI(C:Ct)(a b out:Array Keyed)(ia ib:Nat):Prop where
 mg:Mg (Rk C) a.toList b.toList out.toList ia ib
 la:ia+1<a.size
 lb:ib<b.size
end
section
variable{a b out:Array Keyed}{ia ib:Nat}
def Gs(m:Mg (Rk C) a.toList b.toList out.toList ia ib)(sa:So C a)(sb:So C b)(q:ia<a.size)(c:∀z:ib<b.size,C.rk a[ia]<=C.rk b[ib]):Mg (Rk C) a.toList b.toList (out.push a[ia]).toList (ia+1) ib:=by have:=m.on sa 1 (C.rk a[ia]) (λi h1 h2 z=>sa.at q ∅) λj h1 z=>aF (c ∅) (sb.at z h1);rw[OA q]at this;simpa using this
def L8(m:Mg (Rk C) a.toList b.toList out.toList ia ib)(sa:So C a)(sb:So C b)(q:ib<b.size)(c:∀z:ia<a.size,C.rk b[ib]<=C.rk a[ia]):Mg (Rk C) a.toList b.toList (out.push b[ib]).toList ia (ib+1):=(Gs m.swap sb sa q c).swap
def Ve:(out++a.extract n (n+k)).toList=out.toList++(a.toList.drop n).take k:=by simp[List.extract_eq_drop_take]
def DY(m:Mg (Rk C) a.toList b.toList out.toList ia ib)(sa:So C a)(sb:So C b)(c:ib=b.size\/ia=a.size):Res C a b (out++a.extract ia a.size++b.extract ib b.size):=by
 have:=m.end sa sb λx hx y hy=>by obtain⟨i,q,h1,rfl⟩:=zV hx;obtain⟨j,z,h2,rfl⟩:=zV hy;lia
 unfold Res;simpa[List.extract_eq_drop_take,dn]using this
def GC(m:Mg (Rk C) a.toList b.toList out.toList ia ib)(sa:So C a)(sb:So C b)(c:ia+1=a.size)(hl:∀y∈b,C.rk y<C.rk (a[a.size -1]'∅)):Res C a b (out++b.extract ib b.size++a.extract ia a.size):=by
 have:=m.swap.end sb sa λx hx y hy=>by
  obtain⟨i,q,h1,rfl⟩:=zV hx;obtain⟨j,z,h2,rfl⟩:=zV hy;have:=hl _ (cJ q);have e:j=a.size -1:=by lia
  subst e;lia
 unfold Res;refine{?_,?_}
 ·refine List.Perm.trans ?_ iK;simpa[List.extract_eq_drop_take,dn]using this.1
 ·simpa[List.extract_eq_drop_take,dn]using this.2
def DR(q:i<arr.size):gB C left key arr i=Ea C left key arr[i]:=by unfold gB;rw[getElem?_pos arr i q];rfl
def Lx(sg:∀i j,base<=i->(z:i<=j)->j<base+n->(q:j<arr.size)->C.rk (arr[i]'∅)<=C.rk arr[j])(hb:base+n<=arr.size):∀i j,i<=j->j<n->gB C left key arr (base+j)=true->gB C left key arr (base+i)=true:=λi j h1 h2 e=>by
 rw[DR ∅]at e⊢;have:=sg (base+i) (base+j) ∅ ∅ ∅ ∅;unfold Ea at e⊢;cases left
 ·simp at e⊢;lia
 ·simp at e⊢;lia
def Ej{st:SortSt}(hk:kindOf st=C.κ)(oq:C.In key)(iV:∀x∈arr,C.In x)(sg:∀i j,base<=i->(z:i<=j)->j<base+n->(q:j<arr.size)->C.rk (arr[i]'∅)<=C.rk arr[j])(hb:base+n<=arr.size)(hh:hint<n)
  (h:∀k,k<=n->(∀i,base<=i->i<base+k->(q:i<arr.size)->C.rk arr[i]<=C.rk key)->(∀i,base+k<=i->i<base+n->(q:i<arr.size)->C.rk key<C.rk arr[i])->Q (some k) st):W C (Bd false key arr base n hint) Q st:=
 GF hk oq iV hb hh (Lx sg hb) λk hk a1 a2=>h k hk (λi q1 q2 q=>by
  have:=a1 (i -base) ∅;rw[show base+(i -base)=i by lia,DR q]at this;unfold Ea at this;simpa using this) λi q1 q2 q=>by
  have:=a2 (i -base) ∅ ∅;rw[show base+(i -base)=i by lia,DR q]at this;unfold Ea at this;simpa using this
def w_left{st:SortSt}(hk:kindOf st=C.κ)(oq:C.In key)(iV:∀x∈arr,C.In x)(sg:∀i j,base<=i->(z:i<=j)->j<base+n->(q:j<arr.size)->C.rk (arr[i]'∅)<=C.rk arr[j])(hb:base+n<=arr.size)(hh:hint<n)
  (h:∀k,k<=n->(∀i,base<=i->i<base+k->(q:i<arr.size)->C.rk arr[i]<C.rk key)->(∀i,base+k<=i->i<base+n->(q:i<arr.size)->C.rk key<=C.rk arr[i])->Q (some k) st):W C (Bd true key arr base n hint) Q st:=
 GF hk oq iV hb hh (Lx sg hb) λk hk a1 a2=>h k hk (λi q1 q2 q=>by
  have:=a1 (i -base) ∅;rw[show base+(i -base)=i by lia,DR q]at this;unfold Ea at this;simpa using this) λi q1 q2 q=>by
  have:=a2 (i -base) ∅ ∅;rw[show base+(i -base)=i by lia,DR q]at this;unfold Ea at this;simpa using this
end
variable{C:Ct}
abbrev GS(st:SortSt)(g:Nat):SortSt:=SortSt.mk' (kindOf st) (arrOf st) (pendingOf st) g (failedOf st)
def W.ite[Decidable c]{x y:StateT SortSt Sem α}{Q:α->SortSt->Prop}{st:SortSt}(h1:c->W C x Q st)(h2:¬c->W C y Q st):W C (if c then x else y) Q st:=by
 by_cases h:c
 ·rw[ay h];exact h1 h
 ·rw[aq h];exact h2 h
def Nv{st:SortSt}(hk:kindOf st=C.κ)(ha:∀x∈a,C.In x)(hb:∀x∈b,C.In x)(sa:So C a)(sb:So C b)(a1:0<a.size)(b1:0<b.size)(h0:C.rk b[0]<C.rk a[0])(hl:∀y∈b,C.rk y<C.rk a[a.size -1])
  (h:∀m g,Res C a b m->Q m (GS st g)):W C (HV a b) Q st:=by
 have sw:st=GS st (gallopOf st):=rfl;have Pl:∀{i:Nat}(q:i<a.size),C.In a[i]:=λq=>ha _ (cJ q);have Pk:∀{i:Nat}(q:i<b.size),C.In b[i]:=λq=>hb _ (cJ q);unfold HV;refine W.bind (W.rl (W.bind (W.elem b1 ?_)));have m0:Mg (Rk C) a.toList b.toList (#[b[0]]:Array Keyed).toList 0 1:=by have:Mg (Rk C) a.toList b.toList (#[]:Array Keyed).toList 0 0:={by simp,.nil,(λx hx=>by cases hx),(λx hx=>by cases hx)};have:=L8 this sa sb b1 λz=>bg h0;simpa using this
 dsimp only;by_cases c1:1=b.size
 ·rw[ay (by simpa using c1)];refine W.pure ?_;rw[sw];exact h _ _ (DY m0 sa sb (.inl c1))
 rw[aq (by simpa using c1)];by_cases c2:0+1=a.size
 ·rw[ay (by simpa using c2)];refine W.pure ?_;rw[sw];exact h _ _ (GC m0 sa sb c2 hl)
 rw[aq (by simpa using c2)];refine W.bind (W.get (W.bind (W.mono (W.for (I:=λi c s'=>∃g out ia ib mg,s'=GS st g/\c=(none,out,ia,ib,mg)/\MI C a b out ia ib/\i+1<=ia+ib)
  (Q:=λc s'=>∃g out ia ib mg m,s'=GS st g/\c=(some m,out,ia,ib,mg)/\Res C a b m) ?_ ?_ {gallopOf st,_,_,_,_,rfl,rfl,{m0,by lia,by lia},by lia}) ?_)))
 ·rintro i c s' _ hi ⟨g,out,ia,ib,mg,rfl,rfl,M,n1⟩;dsimp only;refine W.bind (W.mono (W.for (I:=λx c s'=>∃out qp qo ac bc,s'=GS st g/\c=(none,out,qp,qo,ac,bc)/\MI C a b out qp qo/\ia+ib+x<=qp+qo)
   (Q:=λc s'=>∃r out qp qo ac bc,s'=GS st g/\c=(r,out,qp,qo,ac,bc)/\((∃m,r=some m/\Res C a b m)\/(r=none/\MI C a b out qp qo/\ia+ib+1<=qp+qo))) ?_ ?_ {_,_,_,_,_,rfl,rfl,M,by lia}) ?_)
  ·rintro x c s' _ hx ⟨out,ia,ib,ac,bc,rfl,rfl,M,n2⟩;have l1:=M.la;have l2:=M.lb;dsimp only;refine W.bind (W.elem l2 (W.bind (W.elem ∅ (W.bind (W.lt hk (Pk l2) (Pl ∅) ?_)))));by_cases e:C.rk b[ib]<C.rk a[ia]
   ·rw[aY e];dsimp only;rw[ay rfl];have m':=L8 M.mg sa sb l2 λz=>bg e;refine W.bind (W.elem l2 ?_);by_cases c:ib+1=b.size
    ·rw[ay (by simpa using c)];exact W.pure {_,_,_,_,_,_,rfl,rfl,.inl {_,rfl,DY m' sa sb (.inl c)}}
    rw[aq (by simpa using c)];split
    ·exact W.pure {_,_,_,_,_,_,rfl,rfl,.inr {rfl,{m',by lia,by lia},by lia}}
    ·exact W.pure {_,_,_,_,_,rfl,rfl,{m',by lia,by lia},by lia}
   ·rw[bj e];dsimp only;rw[aq aP];have m':=Gs M.mg sa sb ∅ λz=>jz e;refine W.bind (W.elem ∅ ?_);by_cases c:ia+1+1=a.size
    ·rw[ay (by simpa using c)];exact W.pure {_,_,_,_,_,_,rfl,rfl,.inl {_,rfl,GC m' sa sb c hl}}
    rw[aq (by simpa using c)];split
    ·exact W.pure {_,_,_,_,_,_,rfl,rfl,.inr {rfl,{m',by lia,by lia},by lia}}
    ·exact W.pure {_,_,_,_,_,rfl,rfl,{m',by lia,by lia},by lia}
  ·rintro c s' ⟨out,qp,qo,ac,bc,rfl,rfl,M',n2⟩;have:=M'.la;have:=M'.lb;lia
  rintro c s' ⟨r,out,qp,qo,ac,bc,rfl,rfl,⟨m,rfl,R⟩|⟨rfl,M',n2⟩⟩
  ·exact W.pure ⟨_,_,_,_,_,_,rfl,rfl,R⟩
  refine W.bind (W.rl (W.bind (W.mono (W.for (I:=λx c s'=>∃g out qp qo mg ac bc,s'=GS st g/\c=(none,out,qp,qo,mg,ac,bc)/\MI C a b out qp qo/\ia+ib+1+x<=qp+qo)
   (Q:=λc s'=>∃r g out qp qo mg ac bc,s'=GS st g/\c=(r,out,qp,qo,mg,ac,bc)/\((∃m,r=some m/\Res C a b m)\/(r=none/\MI C a b out qp qo/\ia+ib+1<=qp+qo))) ?_ ?_ {_,_,_,_,_,_,_,rfl,rfl,M',by lia}) ?_)))
  ·rintro x c s' _ hx ⟨g,out,ia,ib,mg,ac,bc,rfl,rfl,M,n3⟩;have l1:=M.la;have l2:=M.lb;refine W.ite (λ_=>?_) (λ_=>?_);all_goals
    refine W.bind (W.modify (W.bind (W.elem l2 (W.bind (Ej (base:=ia) (n:=a.size -ia) (hint:=0) hk (Pk l2) ha (λ_ _ _ z _ q=>sa.at q z) ∅ ∅ λk q1 q2 q3=>?_)))));have M2:Mg (Rk C) a.toList b.toList (out++a.extract ia (ia+k)).toList (ia+k) ib:=by rw[Ve];exact M.mg.on sa k _ q2 λj h1 z=>sb.at z h1
    have q3:∀z:ia+k<a.size,C.rk b[ib]<=C.rk a[ia+k]:=λz=>bg (q3 _ (ak _) ∅ z);refine W.ite (λc=>W.ite (λd=>W.pure {_,_,_,_,_,_,_,_,rfl,rfl,.inl {_,rfl,GC M2 sa sb (by simpa using d) hl}}) λd=>W.ite (λd2=>W.pure {_,_,_,_,_,_,_,_,rfl,rfl,.inl {_,rfl,DY M2 sa sb (.inr (by simpa using d2))}}) λd2=>?_) (λc=>?_);have l1:ia+k+1<a.size:=by simp at d d2;lia
    generalize hja:ia+k=ja at M2 q3 l1⊢;generalize out++a.extract ia ja=ou at M2⊢;rotate_left;have:k=0:=by lia
    subst this;have M2:=M.mg;generalize hja:ia=ja at M2 q3 l1⊢;generalize out=ou at M2⊢;all_goals
     have m3:=L8 M2 sa sb l2 q3;refine W.bind (W.elem l2 (W.ite (λd=>W.pure {_,_,_,_,_,_,_,_,rfl,rfl,.inl {_,rfl,DY m3 sa sb (.inl (by simpa using d))}}) λd=>?_));have l3:ib+1<b.size:=by simp at d;lia
     refine W.bind (W.elem (i:=ja) ∅ (W.bind (w_left (base:=ib+1) (n:=b.size -(ib+1)) (hint:=0) hk (Pl (i:=ja) ∅) hb (λ_ _ _ z _ q=>sb.at q z) ∅ ∅ λk2 p1 p2 p3=>?_)));have M4:=(m3.swap.on sb k2 _ (λi h1 h2 z=>bg (p2 i h1 h2 z)) λj h1 z=>sa.at z h1).swap;rw[<-Ve]at M4;refine W.ite (λc=>W.ite (λd=>W.pure {_,_,_,_,_,_,_,_,rfl,rfl,.inl {_,rfl,DY M4 sa sb (.inl (by simpa using d))}}) λd=>?_) (λc=>?_);have l4:ib+1+k2<b.size:=by simp at d;lia
     have m5:=Gs (ia:=ja) M4 sa sb ∅ λz=>p3 _ (ak _) ∅ z;rotate_left;have:k2=0:=by lia
     subst this;have l4:=l3;have m5:=Gs (ia:=ja) m3 sa sb ∅ λz=>p3 _ (ak _) ∅ z;all_goals exact W.bind (W.elem (i:=ja) ∅ (W.ite (λd=>W.pure {_,_,_,_,_,_,_,_,rfl,rfl,.inl {_,rfl,GC m5 sa sb (by simpa using d) hl}}) λd=>by
       have l6:ja+1+1<a.size:=by simp at d;lia
       exact W.ite (λ_=>W.pure {_,_,_,_,_,_,_,_,rfl,rfl,.inr {rfl,⟨m5,l6,l4⟩,by dsimp only;lia}}) λ_=>W.pure {_,_,_,_,_,_,_,rfl,rfl,⟨m5,l6,l4⟩,by dsimp only;lia}))
  ·rintro c s' ⟨g,out,qp,qo,mg,ac,bc,rfl,rfl,M',n3⟩;have:=M'.la;have:=M'.lb;lia
  rintro c s' ⟨r,g,out,qp,qo,mg,ac,bc,rfl,rfl,⟨m,rfl,R⟩|⟨rfl,M',n3⟩⟩
  ·exact W.pure ⟨_,_,_,_,_,_,rfl,rfl,R⟩
  ·exact W.bind (W.modify (W.pure {_,_,_,_,_,rfl,rfl,M',by dsimp only;lia}))
 ·rintro c s' ⟨g,out,ia,ib,mg,rfl,rfl,M,n⟩;have:=M.la;have:=M.lb;lia
 ·rintro c s' ⟨g,out,ia,ib,mg,m,rfl,rfl,R⟩;exact W.pure (h _ _ R)
variable{C:Ct}
abbrev Rg(C:Ct)(x y:Keyed):Prop:=C.rk y<=C.rk x
abbrev MH(C:Ct)(a b out:Array Keyed)(na nb:Nat):Prop:=Mg (Rg C) a.toList.reverse b.toList.reverse out.toList (a.size -na) (b.size -nb)
def rj{a:Array Keyed}(h:n<=a.size):a.toList.reverse.drop (a.size -n)=(a.toList.take n).reverse:=by rw[List.drop_reverse,aM,show a.size -(a.size -n)=n by lia]
def HX{a:Array Keyed}(h:x∈a.toList.take n):∃i,∃q:i<a.size,i<n/\x=a[i]:=by obtain⟨i,hi,e⟩:=dN.mp h;rw[aU,aM]at hi;exact{i,by lia,by lia,by rw[<-e];simp}
section
variable{a b out:Array Keyed}{na nb:Nat}
def MH.on(m:MH C a b out na nb)(sa:So C a)(ha:na<=a.size)(hb:nb<=b.size)(at_ v:Nat)(q:at_<=na)(hx:∀i,at_<=i->i<na->(q:i<a.size)->v<=C.rk a[i])(hy:∀j,j<nb->(q:j<b.size)->C.rk b[j]<=v):MH C a b (out++(a.extract at_ na).reverse) at_ nb:=by
 have e:(a.toList.reverse.drop (a.size -na)).take (na -at_)=((a.extract at_ na).reverse).toList:=by rw[rj ha,List.take_reverse];simp[List.extract_eq_drop_take,aU,List.drop_take,gL ha];rw[show na -(na -at_)=at_ by lia]
 have:=m.go (kH.mpr sa) (na -at_) λx xa y FL=>by rw[e]at xa;rw[rj hb]at FL;simp only[yB,jB,qI,List.extract_eq_drop_take]at xa;obtain⟨i,q1,h1,h2,rfl⟩:=OT xa;obtain⟨j,z,h3,rfl⟩:=HX (jB.mp FL);exact aF (hy j h3 z) (hx i h1 ∅ q1)
 rw[e,show a.size -na+(na -at_)=a.size -at_ by lia,<-qQ]at this;exact this
def MH.sw(m:MH C a b out na nb):MH C b a out nb na:=m.swap
def MH.put(m:MH C a b out na nb)(sa:So C a)(sb:So C b)(ha:na<=a.size)(hb:nb<=b.size)(q:0<na)(c:∀z:0<nb,C.rk (b[nb -1]'∅)<=C.rk (a[na -1]'∅)):MH C a b (out.push (a[na -1]'∅)) (na -1) nb:=by
 have:=m.on sa ha hb (na -1) (C.rk (a[na -1]'∅)) ∅ (λi h1 h2 z=>by
  have e:i=na -1:=by lia
  subst e;exact ak _) λj h1 z=>aF (sb.at ∅ ∅) (c ∅)
 have e:out++(a.extract (na -1) na).reverse=out.push (a[na -1]'∅):=by apply Array.ext';rw[qQ,yB,oB,qI,List.extract_eq_drop_take,show na -(na -1)=1 by lia,OA ∅];rfl
 rw[e]at this;exact this
def MH.fin(m:MH C a b out na nb)(sa:So C a)(sb:So C b)(ha:na<=a.size)(hb:nb<=b.size)(c:∀i j,i<na->j<nb->(q:i<a.size)->(z:j<b.size)->C.rk b[j]<=C.rk a[i]):Res C a b (b.extract 0 nb++a.extract 0 na++out.reverse):=by
 have:=m.end (kH.mpr sa) (kH.mpr sb) λx hx y hy=>by rw[rj ha]at hx;rw[rj hb]at hy;obtain⟨i,q,h1,rfl⟩:=HX (jB.mp hx);obtain⟨j,z,h2,rfl⟩:=HX (jB.mp hy);exact c i j h1 h2 q z
 rw[rj ha,rj hb]at this;have e:(b.extract 0 nb++a.extract 0 na++out.reverse).toList=(out.toList++(a.toList.take na).reverse++(b.toList.take nb).reverse).reverse:=by simp[List.extract_eq_drop_take]
 unfold Res;rw[e];refine{(tN _).trans (this.1.trans ((tN _).append (tN _))),?_};rw[kH];exact this.2
def MH.end(m:MH C a b out na nb)(sa:So C a)(sb:So C b)(ha:na<=a.size)(hb:nb<=b.size)(c:na=0\/nb=0):Res C a b (a.extract 0 na++b.extract 0 nb++out.reverse):=by
 have:=m.sw.fin sb sa hb ha λi j h1 h2=>by lia
 exact{this.1.trans iK,this.2}
end
structure MJ(C:Ct)(a b out:Array Keyed)(na nb:Nat):Prop where
 mg:MH C a b out na nb
 la:0<na/\na<=a.size
 lb:1<nb/\nb<=b.size
def Nw{st:SortSt}(hk:kindOf st=C.κ)(ha:∀x∈a,C.In x)(hb:∀x∈b,C.In x)(sa:So C a)(sb:So C b)(a1:0<a.size)(b1:0<b.size)(h0:C.rk b[0]<C.rk a[0])(hl:∀y∈b,C.rk y<C.rk a[a.size -1])
  (h:∀m g,Res C a b m->Q m (GS st g)):W C (HW a b) Q st:=by
 have sw:st=GS st (gallopOf st):=rfl;have Pl:∀{i:Nat}(q:i<a.size),C.In a[i]:=λq=>ha _ (cJ q);have Pk:∀{i:Nat}(q:i<b.size),C.In b[i]:=λq=>hb _ (cJ q);have b0:∀i j,j<1->(q:i<a.size)->(z:j<b.size)->C.rk b[j]<=C.rk a[i]:=λi j h1 q z=>by
  have e:j=0:=by lia
  subst e;exact aF (bg h0) (sa.at q (aR _))
 unfold HW;refine W.bind (W.rl (W.bind (W.elem (i:=a.size -1) ∅ ?_)));have m0:MH C a b (#[a[a.size -1]]:Array Keyed) (a.size -1) b.size:=by have:MH C a b (#[]:Array Keyed) a.size b.size:={by simp,.nil,(λx hx=>by cases hx),(λx hx=>by cases hx)};exact this.put sa sb (ak _) (ak _) a1 λz=>bg (hl _ (cJ _))
 refine W.ite (λc1=>W.pure (by rw[sw];exact h _ _ (m0.end sa sb ∅ (ak _) (.inl (by simpa using c1))))) λc1=>?_;refine W.ite (λc2=>W.pure (by rw[sw];exact h _ _ (m0.fin sa sb ∅ (ak _) λi j h1 h2=>b0 i j (by simp at c2;lia)))) λc2=>?_;have l1:0<a.size -1:=by simp at c1;lia
 have l2:1<b.size:=by simp at c2;lia
 refine W.bind (W.get (W.bind (W.mono (W.for (I:=λi c s'=>∃g out na nb mg,s'=GS st g/\c=(none,na,nb,out,mg)/\MJ C a b out na nb/\na+nb+i+1<=a.size+b.size)
  (Q:=λc s'=>∃g out na nb mg m,s'=GS st g/\c=(some m,na,nb,out,mg)/\Res C a b m) ?_ ?_ {gallopOf st,_,_,_,_,rfl,rfl,{m0,{l1,by lia},{l2,ak _}},by lia}) ?_)))
 ·rintro i c s' _ hi ⟨g,out,na,nb,mg,rfl,rfl,M,n1⟩;dsimp only;refine W.bind (W.mono (W.for (I:=λx c s'=>∃out qb qa ac bc,s'=GS st g/\c=(none,qb,qa,out,ac,bc)/\MJ C a b out qb qa/\qb+qa+x<=na+nb)
   (Q:=λc s'=>∃r out qb qa ac bc,s'=GS st g/\c=(r,qb,qa,out,ac,bc)/\((∃m,r=some m/\Res C a b m)\/(r=none/\MJ C a b out qb qa/\qb+qa+1<=na+nb))) ?_ ?_ {_,_,_,_,_,rfl,rfl,M,by lia}) ?_)
  ·rintro x c s' _ hx ⟨out,na,nb,ac,bc,rfl,rfl,M,n2⟩;have l1:=M.la;have l2:=M.lb;refine W.bind (W.elem (i:=nb -1) ∅ (W.bind (W.elem (i:=na -1) ∅ (W.bind (W.lt hk (Pk _) (Pl _) ?_)))));by_cases e:C.rk (b[nb -1]'∅)<C.rk (a[na -1]'∅)
   ·rw[aY e];have m':=M.mg.put sa sb l1.2 l2.2 l1.1 λz=>bg e;refine W.bind (W.elem (i:=na -1) ∅ (W.ite (λd=>W.pure {_,_,_,_,_,_,rfl,rfl,.inl {_,rfl,m'.end sa sb ∅ l2.2 (.inl (by simpa using d))}}) λd=>?_));have l3:0<na -1/\na -1<=a.size:=by simp at d;lia
    exact W.ite (λ_=>W.pure {_,_,_,_,_,_,rfl,rfl,.inr {rfl,⟨m',l3,l2⟩,by first|lia|(dsimp only;lia)}}) λ_=>W.pure {_,_,_,_,_,rfl,rfl,⟨m',l3,l2⟩,by first|lia|(dsimp only;lia)}
   ·rw[bj e];have m':=(M.mg.sw.put sb sa l2.2 l1.2 ∅ λz=>jz e).sw;refine W.bind (W.elem (i:=nb -1) ∅ (W.ite (λd=>W.pure {_,_,_,_,_,_,rfl,rfl,.inl {_,rfl,m'.fin sa sb l1.2 ∅ λi j h1 h2=>b0 i j (by simp at d;lia)}}) λd=>?_));have l3:1<nb -1/\nb -1<=b.size:=by simp at d;lia
    exact W.ite (λ_=>W.pure {_,_,_,_,_,_,rfl,rfl,.inr {rfl,⟨m',l1,l3⟩,by first|lia|(dsimp only;lia)}}) λ_=>W.pure {_,_,_,_,_,rfl,rfl,⟨m',l1,l3⟩,by first|lia|(dsimp only;lia)}
  ·rintro c s' ⟨out,qb,qa,ac,bc,rfl,rfl,M',n2⟩;have:=M'.la;have:=M.la;have:=M.lb;lia
  rintro c s' ⟨r,out,qb,qa,ac,bc,rfl,rfl,⟨m,rfl,R⟩|⟨rfl,M',n2⟩⟩
  ·exact W.pure ⟨_,_,_,_,_,_,rfl,rfl,R⟩
  refine W.bind (W.rl (W.bind (W.mono (W.for (I:=λx c s'=>∃g out qb qa mg ac bc,s'=GS st g/\c=(none,qb,qa,out,mg,ac,bc)/\MJ C a b out qb qa/\qb+qa+1+x<=na+nb)
   (Q:=λc s'=>∃r g out qb qa mg ac bc,s'=GS st g/\c=(r,qb,qa,out,mg,ac,bc)/\((∃m,r=some m/\Res C a b m)\/(r=none/\MJ C a b out qb qa/\qb+qa+1<=na+nb))) ?_ ?_ {_,_,_,_,_,_,_,rfl,rfl,M',by lia}) ?_)))
  ·rintro x c s' _ hx ⟨g,out,na,nb,mg,ac,bc,rfl,rfl,M,n3⟩;have l1:=M.la;have l2:=M.lb;refine W.ite (λ_=>?_) (λ_=>?_);all_goals
    refine W.bind (W.modify (W.bind (W.elem (i:=nb -1) ∅ (W.bind (Ej (base:=0) (n:=na) (hint:=na -1) hk (Pk (i:=nb -1) ∅) ha (λ_ _ _ z _ q=>sa.at q z) ∅ ∅ λk q1 q2 q3=>?_)))));have M2:=M.mg.on sa l1.2 l2.2 k (C.rk (b[nb -1]'∅)) q1 (λi h1 h2 z=>bg (q3 i ∅ ∅ z)) λj h1 z=>sb.at ∅ ∅;refine W.ite (λc=>W.ite (λd=>W.pure {_,_,_,_,_,_,_,_,rfl,rfl,.inl {_,rfl,M2.end sa sb ∅ l2.2 (.inl (by simpa using d))}}) λd=>?_) (λc=>?_);have l5:0<k:=by simp at d;lia
    have m3:=(M2.sw.put sb sa l2.2 ∅ ∅ λz=>q2 _ ∅ ∅ ∅).sw;rotate_left;have e1:k=na:=by dsimp only at c;lia
    subst e1;have m3:=(M.mg.sw.put sb sa l2.2 ∅ ∅ λz=>q2 _ ∅ ∅ ∅).sw;all_goals
     refine W.bind (W.elem (i:=nb -1) ∅ (W.ite (λd=>W.pure {_,_,_,_,_,_,_,_,rfl,rfl,.inl {_,rfl,m3.fin sa sb ∅ ∅ λi j h1 h2=>b0 i j (by simp at d;lia)}}) λd=>?_));have l3:1<nb -1/\nb -1<=b.size:=by simp at d;lia
     refine W.bind (W.elem (i:=k -1) ∅ (W.bind (w_left (base:=0) (n:=nb -1) (hint:=nb -1 -1) hk (Pl (i:=k -1) ∅) hb (λ_ _ _ z _ q=>sb.at q z) ∅ ∅ λk2 p1 p2 p3=>?_)));have M4:=(m3.sw.on sb ∅ ∅ k2 (C.rk (a[k -1]'∅)) p1 (λi h1 h2 z=>p3 i ∅ ∅ z) λj h1 z=>sa.at ∅ ∅).sw;refine W.ite (λc=>W.ite (λd=>W.pure {_,_,_,_,_,_,_,_,rfl,rfl,.inl {_,rfl,M4.fin sa sb ∅ ∅ λi j h1 h2=>b0 i j (by simp at d;lia)}}) λd=>W.ite (λd2=>W.pure {_,_,_,_,_,_,_,_,rfl,rfl,.inl {_,rfl,M4.end sa sb ∅ ∅ (.inr (by simpa using d2))}}) λd2=>?_) (λc=>?_);have l4:1<k2/\k2<=b.size:=by simp at d d2;lia
     have m5:=M4.put sa sb ∅ ∅ ∅ λz=>bg (p2 _ ∅ ∅ ∅);rotate_left;have e2:k2=nb -1:=by dsimp only at c;lia
     have l4:=l3;have m5:=m3.put sa sb ∅ ∅ ∅ λz=>bg (p2 _ ∅ ∅ ∅);all_goals exact W.bind (W.elem (i:=k -1) ∅ (W.ite (λd=>W.pure {_,_,_,_,_,_,_,_,rfl,rfl,.inl {_,rfl,m5.end sa sb ∅ ∅ (.inl (by simpa using d))}}) λd=>by
       have l6:0<k -1/\k -1<=a.size:=by simp at d;lia
       exact W.ite (λ_=>W.pure {_,_,_,_,_,_,_,_,rfl,rfl,.inr {rfl,⟨m5,l6,l4⟩,by first|lia|(dsimp only;lia)}}) λ_=>W.pure {_,_,_,_,_,_,_,rfl,rfl,⟨m5,l6,l4⟩,by first|lia|(dsimp only;lia)}))
  ·rintro c s' ⟨g,out,qb,qa,mg,ac,bc,rfl,rfl,M',n3⟩;have:=M'.la;have:=M.la;have:=M.lb;lia
  rintro c s' ⟨r,g,out,qb,qa,mg,ac,bc,rfl,rfl,⟨m,rfl,R⟩|⟨rfl,M',n3⟩⟩
  ·exact W.pure ⟨_,_,_,_,_,_,rfl,rfl,R⟩
  ·exact W.bind (W.modify (W.pure {_,_,_,_,_,rfl,rfl,M',by first|lia|(dsimp only;lia)}))
 ·rintro c s' ⟨g,out,na,nb,mg,rfl,rfl,M,n⟩;have:=M.la;lia
 ·rintro c s' ⟨g,out,na,nb,mg,m,rfl,rfl,R⟩;exact W.pure (h _ _ R)
variable{C:Ct}
def ky(C:Ct)(a:Array Keyed)(k:Nat):Nat:=(a[k]?).elim 0 C.rk
def g8(h:k<a.size):ky C a k=C.rk a[k]:=by unfold ky;rw[getElem?_pos a k h];rfl
def xU(h:a[i]?=b[j]?):ky C a i=ky C b j:=by unfold ky;rw[h]
def Up(C:Ct)(a:Array Keyed)(lo hi:Nat):Prop:=∀i j,lo<=i->i<=j->j<hi->ky C a i<=ky C a j
def Dn(C:Ct)(a:Array Keyed)(lo hi:Nat):Prop:=∀i j,lo<=i->i<=j->j<hi->ky C a j<=ky C a i
structure Mv(a a':Array Keyed)(lo hi:Nat):Prop where
 pm:a'.Perm a
 ou:∀k,k<lo\/hi<=k->a'[k]?=a[k]?
def Mv.sz{lo hi:Nat}(m:Mv a a' lo hi):a'.size=a.size:=m.pm.size_eq
def Mv.refl{lo hi:Nat}:Mv a a lo hi:={.refl _,λ_ _=>rfl}
def Mv.trans{lo hi:Nat}(m:Mv a b lo hi)(n:Mv b c lo hi):Mv a c lo hi:={n.pm.trans m.pm,λk h=>(n.ou k h).trans (m.ou k h)}
def Mv.wide{lo hi O4 ZS:Nat}(m:Mv a b lo hi)(h1:O4<=lo)(h2:hi<=ZS):Mv a b O4 ZS:={m.pm,λk h=>m.ou k ∅}
def Mv.in{lo hi:Nat}(m:Mv a a' lo hi)(h:∀x∈a,C.In x):∀x∈a',C.In x:=λx hx=>h x (m.pm.mem_iff.mp hx)
def Mv.up{lo hi l h:Nat}(m:Mv a a' lo hi)(u:Up C a l h)(c:h<=lo\/hi<=l):Up C a' l h:=λi j h1 h2 h3=>by rw[xU (m.ou i ∅),xU (m.ou j ∅)];exact u i j h1 h2 h3
def vF(hj:j<=a.size):Mv a (mirror a i j ((j -i)/2)) i j:={mirror_perm _ _ _ _,λk h=>by rw[getElem?_mirror_all hj,aq ∅]}
def rZ(hj:j<=a.size)(k:Nat):ky C (mirror a i j ((j -i)/2)) k=if i<=k/\k<j then ky C a (i+j -1 -k)else ky C a k:=by unfold ky;rw[getElem?_mirror_all hj];split<;>rfl
def OQ(hs:s<a.size)(hd:d<=s):Mv a (bubble a s (s -d)) d (s+1):={bubble_perm _ _ _,λk h=>by rw[getElem?_bubble hs _ ∅,aq ∅,aq ∅]}
section
variable{st:SortSt}
def W.at(hk:kindOf st=C.κ)(iV:∀x∈arrOf st,C.In x)(hi:i<(arrOf st).size)(hj:j<(arrOf st).size)(h:Q (some (decide (ky C (arrOf st) i<ky C (arrOf st) j))) st):W C (ltAt' i j) Q st:=by rw[g8 hi,g8 hj]at h;rw[ltAt'_eq];exact W.bind (W.get (W.bind (W.elem hi (W.bind (W.elem hj (W.lt hk (iV _ (cJ _)) (iV _ (cJ _)) h))))))
def W.rev(h:Q ⟨⟩ (setArr st (mirror (arrOf st) i j ((j -i)/2)))):W C (reverseSlice' i j) Q st:=by rw[reverseSlice'_eq];exact W.modify h
def Up.more{lo hi:Nat}(u:Up C a lo hi)(h:lo<hi)(c:ky C a (hi -1)<=ky C a hi):Up C a lo (hi+1):=λi j h1 h2 h3=>by
 by_cases e:j=hi
 ·subst e;by_cases e2:i=j
  ·rw[e2];exact ak _
  ·exact aF (u i (j -1) h1 ∅ ∅) c
 ·exact u i j h1 h2 ∅
def Dn.more{lo hi:Nat}(u:Dn C a lo hi)(h:lo<hi)(c:ky C a hi<=ky C a (hi -1)):Dn C a lo (hi+1):=λi j h1 h2 h3=>by
 by_cases e:j=hi
 ·subst e;by_cases e2:i=j
  ·rw[e2];exact ak _
  ·exact aF c (u i (j -1) h1 ∅ ∅)
 ·exact u i j h1 h2 ∅
def Dn.of{lo hi:Nat}(u:Dn C a lo hi)(e:∀k,ky C b k=ky C a k):Dn C b lo hi:=λi j h1 h2 h3=>by rw[e,e];exact u i j h1 h2 h3
def w_count{lo jv:Nat}(hk:kindOf st=C.κ)(iV:∀x∈arrOf st,C.In x)(h1:1<=jv)(hs:lo+jv<=(arrOf st).size)
  (h:∀m a',Mv (arrOf st) a' lo (lo+jv)->1<=m->m<=jv->Up C a' lo (lo+m)->Q (some m) (setArr st a')):W C (countRun' lo jv) Q st:=by
 have sw:st=setArr st (arrOf st):=rfl;unfold countRun';refine W.bind (W.mono (W.for (I:=λx c s'=>st=s'/\c=(none,x)/\Up C (arrOf st) lo (lo+x))
  (Q:=λc s'=>st=s'/\∃n,c=(none,n)/\1<=n/\n<=jv/\Up C (arrOf st) lo (lo+n)/\(n=jv\/ky C (arrOf st) (lo+n)<ky C (arrOf st) (lo+n -1))) ?_ ?_ {rfl,rfl,?_}) ?_)
 ·rintro x c s' Ad Y5 ⟨rfl,rfl,u⟩;refine W.bind (W.at hk iV ∅ ∅ ?_);by_cases e:ky C (arrOf st) (lo+x)<ky C (arrOf st) (lo+x -1)
  ·rw[aY e];exact W.pure {rfl,x,rfl,Ad,by lia,u,.inr e}
  ·rw[bj e];exact W.pure {rfl,rfl,u.more ∅ (jz e)}
 ·rintro c s' ⟨rfl,rfl,u⟩;rw[show max 1 jv=jv by lia]at u⊢;exact{rfl,jv,rfl,by lia,ak _,u,.inl rfl}
 ·exactλi j q1 q2 q3=>by rw[show i=j by lia];exact ak _
 rintro c s' ⟨rfl,n,rfl,n1,n2,u,last⟩;refine W.ite (λc=>W.pure ?_) λc=>?_
 ·rw[sw];exact h n _ .refl n1 n2 u
 have last:ky C (arrOf st) (lo+n)<ky C (arrOf st) (lo+n -1):=last.resolve_left (by simpa using c);have n3:n<jv:=by simp at c;lia
 refine W.ite (λc=>W.bind (W.at hk iV ∅ ∅ ?g1)) λc=>?g2
 case' g1=>
  by_cases e:ky C (arrOf st) lo<ky C (arrOf st) (lo+n -1)
  ·rw[aY e];refine W.pure ?_;rw[sw];exact h n _ .refl n1 n2 u
  rw[bj e];have al:∀k,lo<=k->k<lo+n->ky C (arrOf st) k=ky C (arrOf st) lo:=λk q1 q2=>by have:=u lo k (ak _) q1 q2;have:=u k (lo+n -1) q1 ∅ ∅;lia
  have kk:∀k,ky C (mirror (arrOf st) lo (lo+n) ((lo+n -lo)/2)) k=ky C (arrOf st) k:=λk=>by
   rw[rZ ∅];split
   ·rw[al _ ∅ ∅,al k ∅ ∅]
   ·rfl
  refine W.bind (W.rev ?_);have M0:Mv (arrOf st) (mirror (arrOf st) lo (lo+n) ((lo+n -lo)/2)) lo (lo+jv):=(vF ∅).wide (ak _) ∅;have D0:Dn C (mirror (arrOf st) lo (lo+n) ((lo+n -lo)/2)) lo (lo+n+1):=(Dn.of (a:=arrOf st) (λi j q1 q2 q3=>by rw[al i q1 ∅,al j ∅ q3];exact ak _) kk).more ∅ (by rw[kk,kk];lia);generalize mirror (arrOf st) lo (lo+n) ((lo+n -lo)/2)=a0 at M0 D0
 case' g2=>
  have M0:Mv (arrOf st) (arrOf st) lo (lo+jv):=.refl;have e1:n=1:=by lia
  have D0:Dn C (arrOf st) lo (lo+n+1):=Dn.more (λi j q1 q2 q3=>by rw[show i=j by lia];exact ak _) ∅ (bg last);obtain⟨a0,M0,D0,es⟩:∃a0,Mv (arrOf st) a0 lo (lo+jv)/\Dn C a0 lo (lo+n+1)/\st=setArr st a0:=⟨_,M0,D0,rfl⟩
  suffices H:W C _ Q (setArr st a0)from es▸H
 all_goals
  refine W.bind (W.rl (W.bind (W.mono (W.for (I:=λx c s'=>∃a' q,s'=setArr st a'/\c=(none,x,q)/\Mv (arrOf st) a' lo (lo+jv)/\Dn C a' lo (lo+x)/\q+1<=x/\∀k,lo+x -(q+1)<=k->k<lo+x->ky C a' k=ky C a' (lo+x -1))
   (Q:=λc s'=>∃a' m q,s'=setArr st a'/\c=(none,m,q)/\n+1<=m/\m<=jv/\Mv (arrOf st) a' lo (lo+jv)/\Dn C a' lo (lo+m)/\q+1<=m/\∀k,lo+m -(q+1)<=k->k<lo+m->ky C a' k=ky C a' (lo+m -1)) ?_ ?_ {a0,0,rfl,rfl,M0,D0,by lia,λk q1 q2=>by rw[show k=lo+(n+1) -1 by lia]}) ?_)))
  ·rintro x c s' Ad Y5 ⟨a',q,rfl,rfl,M,D,q1,al⟩;dsimp only;have Ad:n+1<=x:=Ad;have sz:=M.sz;have kk:∀k,ky C (mirror a' (lo+x -(q+1)) (lo+x) ((lo+x -(lo+x -(q+1)))/2)) k=ky C a' k:=λk=>by
    rw[rZ ∅];split
    ·rw[al _ ∅ ∅,al k ∅ ∅]
    ·rfl
   refine W.bind (W.at hk (M.in iV) (by rw[sz];lia) (by rw[sz];lia) ?_);by_cases e:ky C a' (lo+x)<ky C a' (lo+x -1)
   ·rw[aY e];refine W.ite (λ_=>?_) (λz=>absurd rfl z);refine W.ite (λ_=>W.bind (W.rev (W.pure {_,0,rfl,rfl,M.trans ((vF ∅).wide ∅ ∅),(D.of kk).more ∅ (by rw[kk,kk];lia),by lia,λk q1 q2=>by rw[show k=lo+(x+1) -1 by lia]}))) λ_=>W.pure {_,0,rfl,rfl,M,D.more ∅ ∅,by lia,λk q1 q2=>by rw[show k=lo+(x+1) -1 by lia]}
   ·rw[bj e];refine W.bind (W.at hk (M.in iV) (by rw[sz];lia) (by rw[sz];lia) ?_);by_cases e2:ky C a' (lo+x -1)<ky C a' (lo+x)
    ·rw[aY e2];exact W.pure {_,_,_,rfl,rfl,Ad,by lia,M,D,q1,al}
    ·rw[bj e2];refine W.pure {_,_,rfl,rfl,M,D.more ∅ ∅,by lia,λk q1 q2=>?_};rw[show lo+(x+1) -1=lo+x by lia];by_cases z:k=lo+x
     ·rw[z]
     ·rw[al k ∅ ∅];lia
  ·rintro c s' ⟨a',q,rfl,rfl,M,D,q1,al⟩;dsimp only at*;rw[show max (n+1) jv=jv by lia]at*;exact{_,_,_,rfl,rfl,by lia,ak _,M,D,q1,al}
  ·rintro c s' ⟨a',m,q,rfl,rfl,m1,m2,M,D,q1,al⟩;dsimp only;have sz:=M.sz;refine W.ite (λ_=>W.bind (W.rev ?_)) λ_=>?_;rotate_left;generalize a'=a2 at M D;have M2:=M;have sz:=M2.sz;rotate_left;have M2:=M.trans ((vF (i:=lo+m -(q+1)) (j:=lo+m) ∅).wide ∅ ∅);have D:=D.of (b:=mirror a' (lo+m -(q+1)) (lo+m) ((lo+m -(lo+m -(q+1)))/2)) λk=>by
    rw[rZ ∅];split
    ·rw[al _ ∅ ∅,al k ∅ ∅]
    ·rfl
   generalize mirror a' (lo+m -(q+1)) (lo+m) ((lo+m -(lo+m -(q+1)))/2)=a2 at M2 D;have sz:=M2.sz;all_goals
    have M3:=M2.trans ((vF (i:=lo) (j:=lo+m) ∅).wide ∅ ∅);refine W.bind (W.rev (W.bind (W.mono (W.for (I:=λx c s'=>s'=setArr st (mirror a2 lo (lo+m) ((lo+m -lo)/2))/\c=(none,x)/\Up C (mirror a2 lo (lo+m) ((lo+m -lo)/2)) lo (lo+x))
     (Q:=λc s'=>s'=setArr st (mirror a2 lo (lo+m) ((lo+m -lo)/2))/\∃n,c=(none,n)/\m<=n/\n<=jv/\Up C (mirror a2 lo (lo+m) ((lo+m -lo)/2)) lo (lo+n)) ?_ ?_ {rfl,rfl,?_}) ?_)))
    ·rintro x c s' Ad Y5 ⟨rfl,rfl,u⟩;refine W.bind (W.at hk (M3.in iV) (by rw[M3.sz];lia) (by rw[M3.sz];lia) ?_);by_cases e:ky C (mirror a2 lo (lo+m) ((lo+m -lo)/2)) (lo+x)<ky C (mirror a2 lo (lo+m) ((lo+m -lo)/2)) (lo+x -1)
     ·rw[aY e];exact W.pure {rfl,x,rfl,Ad,by lia,u}
     ·rw[bj e];exact W.pure {rfl,rfl,u.more ∅ (jz e)}
    ·rintro c s' ⟨rfl,rfl,u⟩;rw[show max m jv=jv by lia]at u⊢;exact{rfl,jv,rfl,by lia,ak _,u}
    ·exactλi j q1 q2 q3=>by rw[rZ ∅,rZ ∅,ay ∅,ay ∅];exact D _ _ ∅ ∅ ∅
    ·rintro c s' ⟨rfl,r,rfl,r1,r2,u⟩;exact W.pure (h r _ M3 ∅ r2 u)
end
variable{C:Ct}{st:SortSt}
def FI(hs:s<a.size)(hd:d<=s)(k:Nat):ky C (bubble a s (s -d)) k=if k=d then ky C a s else if d<k/\k<=s then ky C a (k -1)else ky C a k:=by
 unfold ky;rw[getElem?_bubble hs _ ∅,show s -(s -d)=d by lia];split
 ·rfl
 ·split<;>rfl
def aaC{lo n ok:Nat}(hk:kindOf st=C.κ)(iV:∀x∈arrOf st,C.In x)(br:ok<=n)(hs:lo+n<=(arrOf st).size)(u0:Up C (arrOf st) lo (lo+ok))
  (h:∀a',Mv (arrOf st) a' lo (lo+n)->Up C a' lo (lo+n)->Q true (setArr st a')):W C (binarySort' lo n ok) Q st:=by
 unfold binarySort';refine W.bind (W.mono (W.for (I:=λk c s'=>∃a',s'=setArr st a'/\c=(none,())/\Mv (arrOf st) a' lo (lo+n)/\Up C a' lo (lo+min k n))
  (Q:=λc s'=>∃a',s'=setArr st a'/\c=(none,())/\Mv (arrOf st) a' lo (lo+n)/\Up C a' lo (lo+n)) ?_ ?_ {arrOf st,rfl,rfl,.refl,λi j q1 q2 q3=>?_}) ?_)
 ·rintro k c s' k1 k2 ⟨a',rfl,rfl,M,u⟩;rw[show min k n=k by lia]at u;have sz:=M.sz;refine W.bind (W.mono (W.for (I:=λx c s'=>s'=setArr st a'/\∃l r,c=(none,l,r)/\l<=r/\r<=k/\r -l<=k -x/\(∀i,lo<=i->i<lo+l->ky C a' i<=ky C a' (lo+k))/\(∀i,lo+r<=i->i<lo+k->ky C a' (lo+k)<=ky C a' i))
   (Q:=λc s'=>s'=setArr st a'/\∃l r,c=(none,l,r)/\l<=k/\(∀i,lo<=i->i<lo+l->ky C a' i<=ky C a' (lo+k))/\(∀i,lo+l<=i->i<lo+k->ky C a' (lo+k)<=ky C a' i)) ?_ ?_ {rfl,0,k,rfl,by lia,by lia,by lia,λi h1 h2=>by lia,λi h1 h2=>by lia}) ?_)
  ·rintro x c s' _ hx ⟨rfl,l,r,rfl,b1,b2,b3,b4,b5⟩;dsimp only;refine W.ite (λc=>W.pure {rfl,l,r,rfl,by lia,b4,λi q1 q2=>b5 i ∅ q2}) λc=>W.bind (W.at hk (M.in iV) (by rw[sz];lia) (by rw[sz];lia) ?_);by_cases e:ky C a' (lo+k)<ky C a' (lo+(l+r)/2)
   ·rw[aY e];exact W.pure {rfl,l,_,rfl,by lia,by lia,by lia,b4,λi q1 q2=>aF (bg e) (u _ _ ∅ q1 q2)}
   ·rw[bj e];exact W.pure {rfl,_,r,rfl,by lia,by lia,by lia,λi q1 q2=>aF (u _ (lo+(l+r)/2) q1 ∅ ∅) (jz e),b5}
  ·rintro c s' ⟨rfl,l,r,rfl,b1,b2,b3,b4,b5⟩;exact{rfl,l,r,rfl,by lia,b4,λi q1 q2=>b5 i ∅ q2}
  ·rintro c s' ⟨rfl,l,r,rfl,b1,b4,b5⟩;refine W.bind (W.modify (W.pure {bubble a' (lo+k) (lo+k -(lo+l)),rfl,rfl,M.trans ((OQ ∅ ∅).wide ∅ ∅),?_}));rw[show min (k+1) n=k+1 by lia];intro i j q1 q2 q3;rw[FI ∅ ∅,FI ∅ ∅];split
   ·split
    ·exact ak _
    ·split
     ·exact b5 _ ∅ ∅
     ·lia
   ·split
    ·split
     ·lia
     ·split
      ·exact u _ _ ∅ ∅ ∅
      ·lia
    ·split
     ·exact b4 _ ∅ ∅
     ·split
      ·exact u _ _ ∅ ∅ ∅
      ·exact u _ _ ∅ ∅ ∅
 ·rintro c s' ⟨a',rfl,rfl,M,u⟩;rw[show min (max (max ok 1) n) n=n by lia]at u;exact⟨a',rfl,rfl,M,u⟩
 ·by_cases z:ok=0
  ·rw[show i=j by lia];exact ak _
  ·exact u0 i j q1 q2 ∅
 ·rintro c s' ⟨a',rfl,rfl,M,u⟩;exact W.pure (h a' M u)
variable{C:Ct}{st:SortSt}
def W.set(h:Q ⟨⟩ s'):W C (set s':StateT SortSt Sem PUnit) Q st:=λs j=>by rw[StateT.run_set];exact af ⟨j,h⟩
theorem Hk(sa:Nat):∀(l:List Keyed)(n:Nat)(a:Array Keyed),sa+n+l.length<=a.size->∀k,((l.zipIdx n).foldl (λa(x:Keyed×Nat)=>a.setIfInBounds (sa+x.2) x.1) a)[k]?=if sa+n<=k/\k<sa+n+l.length then l[k -(sa+n)]? else a[k]?
 |[],n,a,_,k=>by rw[aq (by simp)];rfl
 |x::l,n,a,h,k=>by
  rw[aZ]at h⊢;rw[ph,iO,Hk sa l (n+1) _ (by rw[Array.size_setIfInBounds];lia)];by_cases e:k=sa+n
  ·subst e;rw[aq ∅,ay ∅,Array.getElem?_setIfInBounds_self_of_lt ∅];simp
  ·rw[Array.getElem?_setIfInBounds_ne ∅];by_cases c:sa+n<=k/\k<sa+n+(l.length+1)
   ·rw[ay c,ay ∅,show k -(sa+n)=k -(sa+(n+1))+1 by lia,oh]
   ·rw[aq c,aq ∅]
def V3{a:Array Keyed}(h:sa+l.length<=a.size):(l.zipIdx.foldl (λa(x:Keyed×Nat)=>a.setIfInBounds (sa+x.2) x.1) a).toList=a.toList.take sa++l++a.toList.drop (sa+l.length):=by
 apply tP;intro k;rw[bB,Hk sa l 0 a h,jA];by_cases c:k<sa
 ·rw[aq ∅,da,dk (by simp;lia),nA c,bB]
 ·by_cases d:k<sa+l.length
  ·rw[ay {by lia,d},dk (by simp;lia),cZ (by simp;lia)];simp[show min sa a.size=sa by lia]
  ·rw[aq ∅,cZ (by simp;lia),AU];simp[show min sa a.size=sa by lia];rw[show sa+l.length+(k -(sa+l.length))=k by lia]
def xj{a:Array Keyed}(hh:h<=a.size)(q:i<(a.extract l h).size):(a.extract l h)[i]=a[l+i]'(by rw[A1]at q;lia):=by simp
def DT{a:Array Keyed}(hh:h<=a.size):(a.extract l h).size=h -l:=by rw[A1];lia
def Qf(u:Up C a l' h')(hh:h<=a.size)(c1:l'<=l)(c2:h<=h'):So C (a.extract l h):=by refine eZ.mpr λi j hi hj z=>?_;rw[aM]at hi hj;rw[lE,lE,xj hh,xj hh,<-g8,<-g8];rw[DT hh]at hj;exact u _ _ ∅ ∅ ∅
def ext_mem{a:Array Keyed}(hh:h<=a.size)(m:x∈a.extract l h):∃i,∃q:i<a.size,l<=i/\i<h/\x=a[i]:=by obtain⟨i,hi,e⟩:=Array.mem_iff_getElem.mp m;have:=DT (l:=l) hh;exact{l+i,by lia,by lia,by lia,by rw[<-e,xj hh]}
def Nx(hk:kindOf st=C.κ)(hf:failedOf st=none)(iV:∀x∈arrOf st,C.In x)(e1:(pendingOf st)[i]?=some (sa,na,pw))(e2:(pendingOf st)[i+1]?=some (sb,nb,x))(hsb:sb=sa+na)(na1:0<na)(nb1:0<nb)(sz:sb+nb<=(arrOf st).size)(u1:Up C (arrOf st) sa sb)(u2:Up C (arrOf st) sb (sb+nb))
  (h:∀a' g,Mv (arrOf st) a' sa (sb+nb)->Up C a' sa (sb+nb)->Q true (SortSt.mk' (kindOf st) a' (((pendingOf st).setIfInBounds i (sa,na+nb,pw)).eraseIdxIfInBounds (i+1)) g none)):W C (mergeAt' i) Q st:=by
 have rk:∀{l hi:Nat},Up C (arrOf st) l hi->∀i j,l<=i->(z:i<=j)->j<hi->(q:j<(arrOf st).size)->C.rk ((arrOf st)[i]'∅)<=C.rk (arrOf st)[j]:=λu i j h1 z h2 q=>by rw[<-g8,<-g8];exact u i j h1 z h2
 unfold mergeAt';refine W.bind (W.get ?_);show W C (match((pendingOf st)[i]?,(pendingOf st)[i+1]?)with|(some (sa,na,power),some (sb,nb,_))=>_|_=>_) Q st;rw[e1,e2];have nx:∀{g:Nat}{a':Array Keyed},Mv (arrOf st) a' sa (sb+nb)->Up C a' sa (sb+nb)->Q true (SortSt.mk' (kindOf st) a' (((pendingOf st).setIfInBounds i (sa,na+nb,pw)).eraseIdxIfInBounds (i+1)) g (failedOf st)):=λm u=>by rw[hf];exact h _ _ m u
 refine W.bind (W.set (W.bind (W.elem (a:=arrOf st) (i:=sb) ∅ (W.bind (Ej (arr:=arrOf st) (base:=sa) (n:=na) (hint:=0) hk (iV _ (cJ _)) iV (by rw[<-hsb];exact rk u1) ∅ na1 λk q1 q2 q3=>?_)))));have f2:∀i,sa<=i->i<sa+k->ky C (arrOf st) i<=ky C (arrOf st) sb:=λi z1 z2=>by have:=q2 i z1 z2 ∅;rw[<-g8,<-g8]at this;exact this
 have f3:∀i,sa+k<=i->i<sb->ky C (arrOf st) sb<ky C (arrOf st) i:=λi z1 z2=>by have:=q3 i z1 ∅ ∅;rw[<-g8,<-g8]at this;exact this
 refine W.ite (λc=>W.pure (nx .refl λi j z1 z2 z3=>?_)) λc=>?_
 ·have c:k=na:=by simp at c;lia
  by_cases i1:i<sb
  ·by_cases j1:j<sb
   ·exact u1 i j z1 z2 j1
   ·exact aF (f2 i z1 ∅) (u2 sb j (ak _) ∅ z3)
  ·exact u2 i j ∅ z2 z3
 have c:k<na:=by simp at c;lia
 have ix:sa+k+(na -k) -1=sb -1:=by lia
 refine W.bind (W.elem (a:=arrOf st) (i:=sa+k+(na -k) -1) ∅ (W.bind (w_left (arr:=arrOf st) (base:=sb) (n:=nb) (hint:=nb -1) hk (iV _ (cJ _)) iV (rk u2) ∅ ∅ λnc p1 p2 p3=>?_)));have f4:∀i,sb<=i->i<sb+nc->ky C (arrOf st) i<ky C (arrOf st) (sb -1):=λi z1 z2=>by have:=p2 i z1 z2 ∅;rw[<-g8,<-g8,ix]at this;exact this
 have f5:∀i,sb+nc<=i->i<sb+nb->ky C (arrOf st) (sb -1)<=ky C (arrOf st) i:=λi z1 z2=>by have:=p3 i z1 z2 ∅;rw[<-g8,<-g8,ix]at this;exact this
 refine W.ite (λc=>W.pure (nx .refl λi j z1 z2 z3=>?_)) λc2=>?_
 ·have c:nc=0:=by simpa using c
  by_cases i1:i<sb
  ·by_cases j1:j<sb
   ·exact u1 i j z1 z2 j1
   ·exact aF (u1 i (sb -1) z1 ∅ ∅) (f5 j ∅ z3)
  ·exact u2 i j ∅ z2 z3
 have c2:0<nc:=by simp at c2;lia
 have sx:=DT (a:=arrOf st) (l:=sa+k) (h:=sb) ∅;have sy:=DT (a:=arrOf st) (l:=sb) (h:=sb+nc) ∅;have e0:C.rk (((arrOf st).extract sb (sb+nc))[0]'∅)<C.rk (((arrOf st).extract (sa+k) sb)[0]'∅):=by rw[xj ∅,xj ∅,<-g8,<-g8];exact f3 _ ∅ ∅
 have el:∀y∈(arrOf st).extract sb (sb+nc),C.rk y<C.rk (((arrOf st).extract (sa+k) sb)[((arrOf st).extract (sa+k) sb).size -1]'∅):=λy hy=>by obtain⟨i,q,z1,z2,rfl⟩:=ext_mem ∅ hy;rw[xj ∅,<-g8,<-g8,sx,show sa+k+(sb -(sa+k) -1)=sb -1 by lia];exact f4 i z1 z2
 have hx:∀{l h:Nat},h<=(arrOf st).size->∀x∈(arrOf st).extract l h,C.In x:=λhh x hx=>by obtain⟨i,q,z1,z2,rfl⟩:=ext_mem hh hx;exact iV _ (cJ _)
 have fin:∀(m:Array Keyed),Res C ((arrOf st).extract (sa+k) sb) ((arrOf st).extract sb (sb+nc)) m->Mv (arrOf st) (m.toList.zipIdx.foldl (λa(x:Keyed×Nat)=>a.setIfInBounds (sa+k+x.2) x.1) (arrOf st)) sa (sb+nb)/\Up C (m.toList.zipIdx.foldl (λa(x:Keyed×Nat)=>a.setIfInBounds (sa+k+x.2) x.1) (arrOf st)) sa (sb+nb):=by
  rintro m ⟨pm,so⟩;have lm:m.toList.length=sb+nc -(sa+k):=by rw[pm.length_eq,aK,aM,aM];lia
  have el:=Hk (sa+k) m.toList 0 (arrOf st) ∅;rw[lm,jA,show sa+k+(sb+nc -(sa+k))=sb+nc by lia]at el;have pl:=V3 (sa:=sa+k) (l:=m.toList) (a:=arrOf st) ∅;rw[lm,show sa+k+(sb+nc -(sa+k))=sb+nc by lia]at pl;generalize m.toList.zipIdx.foldl (λa(x:Keyed×Nat)=>a.setIfInBounds (sa+k+x.2) x.1) (arrOf st)=a' at el pl⊢;have inn:∀i,sa+k<=i->i<sb+nc->∃j,sa+k<=j/\j<sb+nc/\ky C a' i=ky C (arrOf st) j:=λi z1 z2=>by
   have e:=el i;rw[ay ⟨z1,z2⟩,ao ∅]at e;have hm:=pm.mem_iff.mp (gg (l:=m.toList) (n:=i -(sa+k)) ∅);have ek:ky C a' i=C.rk (m.toList[i -(sa+k)]'∅):=by unfold ky;rw[e];rfl
   rw[ek];rcases aS.mp hm with hm|hm
   ·obtain⟨j,q,z3,z4,e3⟩:=ext_mem ∅ (lD.mp hm);exact{j,z3,by lia,by rw[e3,g8]}
   ·obtain⟨j,q,z3,z4,e3⟩:=ext_mem ∅ (lD.mp hm);exact{j,by lia,z4,by rw[e3,g8]}
  have out:∀i,i<sa+k\/sb+nc<=i->ky C a' i=ky C (arrOf st) i:=λi z=>xU (by rw[el i,aq ∅]);refine{{sY.mpr ?_,λi z=>by rw[el i,aq ∅]},λi j z1 z2 z3=>?_}
  ·rw[pl];have e:(arrOf st).toList=(arrOf st).toList.take (sa+k)++(((arrOf st).extract (sa+k) sb).toList++((arrOf st).extract sb (sb+nc)).toList)++(arrOf st).toList.drop (sb+nc):=by
    have e':((arrOf st).extract (sa+k) sb).toList++((arrOf st).extract sb (sb+nc)).toList=((arrOf st).toList.drop (sa+k)).take (sb+nc -(sa+k)):=by rw[<-qQ,Array.extract_append_extract,gL ∅,Nat.max_eq_right ∅,qI,List.extract_eq_drop_take]
    rw[e']
    conv=>lhs;rw[<-cW (sb+nc) (arrOf st).toList,<-cW (sa+k) ((arrOf st).toList.take (sb+nc))]
    rw[List.take_take,gL ∅,List.drop_take]
   conv=>rhs;rw[e]
   exact wC _ (pP _ pm)
  ·have lo:∀j,sa+k<=j->j<sb+nc->ky C (arrOf st) sb<=ky C (arrOf st) j:=λj y1 y2=>by
    by_cases c:j<sb
    ·exact bg (f3 j y1 c)
    ·exact u2 sb j (ak _) ∅ ∅
   have hi:∀i j,sa+k<=i->i<sb+nc->sb+nc<=j->j<sb+nb->ky C (arrOf st) i<=ky C (arrOf st) j:=λi j y1 y2 y3 y4=>by
    by_cases c:i<sb
    ·exact aF (u1 i (sb -1) ∅ ∅ ∅) (f5 j y3 y4)
    ·exact u2 i j ∅ ∅ y4
   by_cases i1:i<sa+k
   ·rw[out i (.inl i1)];by_cases j1:j<sa+k
    ·rw[out j (.inl j1)];exact u1 i j z1 z2 ∅
    ·by_cases j2:j<sb+nc
     ·obtain⟨t,t1,t2,e⟩:=inn j ∅ j2;rw[e];exact aF (f2 i z1 i1) (lo t t1 t2)
     ·rw[out j (.inr ∅)];exact aF (f2 i z1 i1) (u2 sb j (ak _) ∅ z3)
   ·by_cases i2:i<sb+nc
    ·by_cases j2:j<sb+nc
     ·have hso:=eZ.mp so;have g:∀i,(z1:sa+k<=i)->(z2:i<sb+nc)->ky C a' i=C.rk (m.toList[i -(sa+k)]'∅):=λi z1 z2=>by unfold ky;rw[el i,ay ⟨z1,z2⟩,ao ∅];rfl
      rw[g i ∅ i2,g j ∅ j2];by_cases e:i=j
      ·subst e;exact ak _
      ·exact hso _ _ _ _ ∅
     ·obtain⟨t,t1,t2,e⟩:=inn i ∅ i2;rw[e,out j (.inr ∅)];exact hi t j t1 t2 ∅ z3
    ·rw[out i (.inr ∅),out j (.inr ∅)];exact u2 i j ∅ z2 z3
 have o1:So C ((arrOf st).extract (sa+k) sb):=Qf u1 ∅ ∅ (ak _);have o2:So C ((arrOf st).extract sb (sb+nc)):=Qf u2 ∅ (ak _) ∅;have h1:=hx (l:=sa+k) (h:=sb) ∅;have h2:=hx (l:=sb) (h:=sb+nc) ∅;have l1:0<((arrOf st).extract (sa+k) sb).size:=by lia
 have l2:0<((arrOf st).extract sb (sb+nc)).size:=by lia
 refine W.ite (λ_=>W.bind (Nv hk h1 h2 o1 o2 l1 l2 e0 el λm g R=>?_)) (λ_=>W.bind (Nw hk h1 h2 o1 o2 l1 l2 e0 el λm g R=>?_));all_goals
  refine W.bind (W.modify (W.bind (W.get (W.pure ?_))));show Q (Option.isNone (failedOf st)) _;have e9:Option.isNone (failedOf st)=true:=by rw[hf];rfl
  rw[e9];exact nx (fin m R).1 (fin m R).2
variable{C:Ct}{st:SortSt}
abbrev R3:=Nat×Nat×Nat
def Rn(C:Ct)(a:Array Keyed):Nat->List R3->Nat->Prop
 |b,[],e=>b=e
 |b,r::l,e=>r.1=b/\0<r.2.1/\Up C a b (b+r.2.1)/\Rn C a (b+r.2.1) l e
theorem Rn.le:∀{l:List R3}{b e:Nat},Rn C a b l e->b+l.length<=e
 |[],b,e,h=>by rw[show b=e from h];exact ak _
 |r::l,b,e,⟨_,h1,_,h⟩=>by have:=h.le;rw[aZ];lia
theorem Rn.app:∀{l m:List R3}{b e:Nat},Rn C a b (l++m) e↔∃k,Rn C a b l k/\Rn C a k m e
 |[],m,b,e=>{λh=>⟨b,rfl,h⟩,λ⟨k,h1,h2⟩=>by rw[show b=k from h1];exact h2}
 |r::l,m,b,e=>⟨λ⟨h1,h2,h3,h4⟩=>by obtain⟨k,q1,q2⟩:=Rn.app.mp h4;exact{k,⟨h1,h2,h3,q1⟩,q2},λ⟨k,⟨h1,h2,h3,q1⟩,q2⟩=>{h1,h2,h3,Rn.app.mpr ⟨k,q1,q2⟩}⟩
theorem Rn.mv{lo hi:Nat}(m:Mv a a' lo hi):∀{l:List R3}{b e:Nat},Rn C a b l e->(e<=lo\/hi<=b)->Rn C a' b l e
 |[],b,e,h,_=>h
 |r::l,b,e,⟨h1,h2,h3,h⟩,c=>by have:=h.le;exact{h1,h2,m.up h3 ∅,Rn.mv m h ∅}
def Rn.pow(h:Rn C a b (l++[r]) e):Rn C a b (l++[(r.1,r.2.1,p)]) e:=by obtain⟨k,h1,h2⟩:=Rn.app.mp h;exact Rn.app.mpr ⟨k,h1,h2⟩
def Tf{i:Nat}{r s:R3}(h1:l[i]?=some r)(h2:l[i+1]?=some s):∃m n,l=m++r::s::n/\m.length=i:=by
 obtain⟨q1,e1⟩:=ar.mp h1;obtain⟨q2,e2⟩:=ar.mp h2;refine{l.take i,l.drop (i+2),?_,by rw[aU];lia}
 conv=>lhs;rw[<-cW i l,ji q1,ji q2,e1,e2]
abbrev SS(st:SortSt)(a:Array Keyed)(P:Array R3)(g:Nat):SortSt:=SortSt.mk' (kindOf st) a P g none
def QV(hk:kindOf st=C.κ)(iV:∀x∈a,C.In x)(hr:Rn C a 0 P.toList e)(he:e<=a.size)(hi:i+1<P.size)
  (h:∀a' P' g,a'.Perm a->P'.size+1=P.size->Rn C a' 0 P'.toList e->(∀k,e<=k->a'[k]?=a[k]?)->Q true (SS st a' P' g)):W C (mergeAt' i) Q (SS st a P g):=by
 have q1:P.toList[i]?=some (P[i]'∅):=by rw[bB,getElem?_pos]
 have q2:P.toList[i+1]?=some (P[i+1]'hi):=by rw[bB,getElem?_pos]
 obtain⟨m,n,el,lm⟩:=Tf q1 q2;rw[el]at hr;obtain⟨b,r1,r2,r3,r4,r5,r6,r7,r8⟩:=Rn.app.mp hr;have r9:=r8.le;generalize P[i]'∅=x at*;generalize P[i+1]'hi=y at*;refine Nx hk rfl iV (by rw[<-bB];exact q1) (by rw[<-bB];exact q2) ∅ r3 r6 (by show y.1+y.2.1<=a.size;lia) (by rw[r5,r2];exact r4) (by rw[r5];exact r7) λa' g' mv u=>?_;have Qm:(((P.setIfInBounds i (x.1,x.2.1+y.2.1,x.2.2)).eraseIdxIfInBounds (i+1))).toList=m++(x.1,x.2.1+y.2.1,x.2.2)::n:=by rw[Array.toList_eraseIdxIfInBounds,Array.toList_setIfInBounds,el];subst lm;simp;rw[List.eraseIdx_append_of_length_le ∅,show m.length+1 -m.length=1 by lia];rfl
 refine h a' _ g' mv.pm ?_ ?_ λk hk=>mv.ou k (.inr ∅)
 ·rw[<-aM,Qm,<-aM,el];simp;lia
 ·rw[Qm];refine Rn.app.mpr {b,Rn.mv mv r1 (.inl ∅),r2,by dsimp only;lia,?_,?_}
  ·rw[r2,r5]at u;rw[show b+(x.2.1+y.2.1)=b+x.2.1+y.2.1 by lia];exact u
  ·rw[show b+(x.2.1+y.2.1)=b+x.2.1+y.2.1 by lia];exact Rn.mv mv r8 (.inr ∅)
abbrev S3(C:Ct)(a:Array Keyed)(P:Array R3)(g:Nat):SortSt:=SortSt.mk' C.κ a P g none
def Rn.push{P:Array R3}{lo n:Nat}(h:Rn C a 0 P.toList lo)(hn:0<n)(u:Up C a lo (lo+n)):Rn C a 0 (P.push (lo,n,0)).toList (lo+n):=by rw[oB];exact Rn.app.mpr ⟨lo,h,rfl,hn,u,rfl⟩
def Rn.X7{P:Array R3}{lo pw:Nat}(h:Rn C a 0 P.toList lo)(hp:0<P.size):Rn C a 0 (P.modify (P.size -1) λx=>(x.1,x.2.1,pw)).toList lo:=by
 have ne:P.toList≠[]:=λz=>by rw[<-aM,z]at hp;exact absurd hp (by decide)
 have e:(P.modify (P.size -1) λx=>(x.1,x.2.1,pw)).toList=P.toList.dropLast++[((P.toList.getLast ne).1,(P.toList.getLast ne).2.1,pw)]:=by rw[Array.toList_modify,List.modify_eq_take_cons_drop (by simpa using Nat.sub_lt hp Nat.one_pos),List.drop_of_length_le (by simp;lia),List.dropLast_eq_take,List.getLast_eq_getElem];simp
 rw[e];rw[<-rF ne]at h;exact h.pow
def Xe(iV:∀x∈a0,C.In x)(h2:2<=a0.size)
  (h:∀a' P g,a'.Perm a0->Up C a' 0 a0.size->Q () (S3 C a' P g)):W C sortRuns' Q (S3 C a0 #[] g0):=by
 unfold sortRuns';refine W.bind (W.get ?_);generalize hN:a0.size=N at*;refine W.bind (W.mono (W.for (I:=λx c s'=>∃a P g lo,s'=S3 C a P g/\c=(none,lo)/\a.Perm a0/\Rn C a 0 P.toList lo/\x<=lo/\lo<=N)
  (Q:=λc s'=>∃a P g,s'=S3 C a P g/\c=(none,N)/\a.Perm a0/\Rn C a 0 P.toList N) ?_ ?_ {a0,#[],g0,0,rfl,rfl,.refl _,rfl,by lia,by lia}) ?_)
 ·rintro x c s' _ hx ⟨a,P,g,lo,rfl,rfl,pm,rn,l1,l2⟩;have sz:a.size=N:=by rw[pm.size_eq,hN]
  have ia:=λx hx=>iV x (pm.mem_iff.mp hx);refine W.ite (λc=>W.pure ?_) λc=>?_
  ·have c:lo=N:=by dsimp only at c;lia
   subst c;exact⟨a,P,g,rfl,rfl,pm,rn⟩
  refine W.bind (w_count rfl ia ∅ (show lo+(N -lo)<=a.size by lia) λm a1 mv m1 m2 u=>?_);have mv:Mv a a1 lo (lo+(N -lo)):=mv;have sz1:=mv.sz;refine W.ite (λc1=>W.bind (W.rl (W.bind (aaC rfl (mv.in ia) ?_ (show lo+min (N -lo) (minRun' N N 0)<=a1.size by lia) u λa2 mv2 u2=>?_)))) λc1=>?_
  ·have c1:=c1;lia
  ·have c1:m<minRun' N N 0:=c1;have Uv:=mv.trans (Mv.wide mv2 (ak _) ∅);have n1:0<min (N -lo) (minRun' N N 0):=by lia
   refine W.ite (λz=>by simp at z) λ_=>?_;have Fo:=Rn.mv Uv rn (.inl (ak _));have Oi:=Uv.pm.trans pm;refine W.bind (W.get ?_);cases hb:P.back? with
   |none=>
    exact W.bind (W.modify (W.pure {a2,P.push (lo,min (N -lo) (minRun' N N 0),0),g,lo+min (N -lo) (minRun' N N 0),rfl,rfl,Oi,Fo.push n1 u2,by lia,by lia}))
   |some r=>
    obtain⟨s1,k1,w1⟩:=r;have p0:0<P.size:=by
     rcases AQ P.size with z|z
     ·rw[vy,getElem?_neg P _ ∅]at hb;cases hb
     ·exact z
    refine W.bind (W.mono (W.for (I:=λy c s'=>∃b2 P2 g2,s'=S3 C b2 P2 g2/\c=(none,())/\b2.Perm a2/\(∀k,lo<=k->b2[k]?=(a2)[k]?)/\Rn C b2 0 P2.toList lo/\0<P2.size) ?_ (λ_ _ h=>h) {_,_,_,rfl,rfl,.refl _,λ_ _=>rfl,Fo,p0}) ?_)
    ·rintro y c s' _ hy ⟨b2,P2,g2,rfl,rfl,ml,ou,nX,p2⟩;refine W.bind (W.get ?_);by_cases c:P2.size>1
     ·have e1:(if(pendingOf (S3 C b2 P2 g2)).size>1 then(pendingOf (S3 C b2 P2 g2))[(pendingOf (S3 C b2 P2 g2)).size -2]? else none)=some ((P2[P2.size -2]'∅).1,(P2[P2.size -2]'∅).2.1,(P2[P2.size -2]'∅).2.2):=by rw[ay c,getElem?_pos P2 (P2.size -2) ∅]
      dsimp only;rw[e1];refine W.ite (λ_=>W.pure ⟨_,_,_,rfl,rfl,ml,ou,nX,p2⟩) λ_=>W.bind (QV (st:=S3 C b2 P2 g2) rfl (λx hx=>ia x (Uv.pm.mem_iff.mp (ml.mem_iff.mp hx))) nX (by rw[ml.size_eq,Uv.pm.size_eq,sz];lia) (show P2.size -2+1<P2.size by lia) λa3 P3 g3 q1 q2 q3 q4=>?_);exact W.pure {a3,P3,g3,rfl,rfl,q1.trans ml,λk hk=>(q4 k hk).trans (ou k hk),q3,by lia}
     ·have e1:(if(pendingOf (S3 C b2 P2 g2)).size>1 then(pendingOf (S3 C b2 P2 g2))[(pendingOf (S3 C b2 P2 g2)).size -2]? else none)=none:=aq c;dsimp only;rw[e1];exact W.pure ⟨_,_,_,rfl,rfl,ml,ou,nX,p2⟩
    ·rintro c s' ⟨b2,P2,g2,rfl,rfl,ml,ou,nX,p2⟩;refine W.bind (W.modify (W.bind (W.modify (W.pure {b2,_,g2,lo+min (N -lo) (minRun' N N 0),rfl,rfl,ml.trans Oi,Rn.push (nX.X7 p2) n1 λi j z1 z2 z3=>?_,by lia,by lia}))));rw[xU (ou i z1),xU (ou j ∅)];exact u2 i j z1 z2 z3
  ·have n1:=m1;have Fo:=Rn.mv mv rn (.inl (ak _));have Oi:=mv.pm.trans pm;refine W.bind (W.get ?_);cases hb:P.back? with
   |none=>
    exact W.bind (W.modify (W.pure {a1,P.push (lo,m,0),g,lo+m,rfl,rfl,Oi,Fo.push n1 u,by lia,by lia}))
   |some r=>
    obtain⟨s1,k1,w1⟩:=r;have p0:0<P.size:=by
     rcases AQ P.size with z|z
     ·rw[vy,getElem?_neg P _ ∅]at hb;cases hb
     ·exact z
    refine W.bind (W.mono (W.for (I:=λy c s'=>∃a2 P2 g2,s'=S3 C a2 P2 g2/\c=(none,())/\a2.Perm a1/\(∀k,lo<=k->a2[k]?=(a1)[k]?)/\Rn C a2 0 P2.toList lo/\0<P2.size) ?_ (λ_ _ h=>h) {_,_,_,rfl,rfl,.refl _,λ_ _=>rfl,Fo,p0}) ?_)
    ·rintro y c s' _ hy ⟨a2,P2,g2,rfl,rfl,ml,ou,nX,p2⟩;refine W.bind (W.get ?_);by_cases c:P2.size>1
     ·have e1:(if(pendingOf (S3 C a2 P2 g2)).size>1 then(pendingOf (S3 C a2 P2 g2))[(pendingOf (S3 C a2 P2 g2)).size -2]? else none)=some ((P2[P2.size -2]'∅).1,(P2[P2.size -2]'∅).2.1,(P2[P2.size -2]'∅).2.2):=by rw[ay c,getElem?_pos P2 (P2.size -2) ∅]
      dsimp only;rw[e1];refine W.ite (λ_=>W.pure ⟨_,_,_,rfl,rfl,ml,ou,nX,p2⟩) λ_=>W.bind (QV (st:=S3 C a2 P2 g2) rfl (λx hx=>ia x (mv.pm.mem_iff.mp (ml.mem_iff.mp hx))) nX (by rw[ml.size_eq,mv.pm.size_eq,sz];lia) (show P2.size -2+1<P2.size by lia) λa3 P3 g3 q1 q2 q3 q4=>?_);exact W.pure {a3,P3,g3,rfl,rfl,q1.trans ml,λk hk=>(q4 k hk).trans (ou k hk),q3,by lia}
     ·have e1:(if(pendingOf (S3 C a2 P2 g2)).size>1 then(pendingOf (S3 C a2 P2 g2))[(pendingOf (S3 C a2 P2 g2)).size -2]? else none)=none:=aq c;dsimp only;rw[e1];exact W.pure ⟨_,_,_,rfl,rfl,ml,ou,nX,p2⟩
    ·rintro c s' ⟨a2,P2,g2,rfl,rfl,ml,ou,nX,p2⟩;refine W.bind (W.modify (W.bind (W.modify (W.pure {a2,_,g2,lo+m,rfl,rfl,ml.trans Oi,Rn.push (nX.X7 p2) n1 λi j z1 z2 z3=>?_,by lia,by lia}))));rw[xU (ou i z1),xU (ou j ∅)];exact u i j z1 z2 z3
 ·rintro c s' ⟨a,P,g,lo,rfl,rfl,pm,rn,l1,l2⟩;have c:lo=N:=by lia
  subst c;exact⟨a,P,g,rfl,rfl,pm,rn⟩
 ·rintro c s' ⟨a,P,g,rfl,rfl,pm,rn⟩;refine W.bind (W.mono (W.for (I:=λy c s'=>∃a2 P2 g2,s'=S3 C a2 P2 g2/\c=(none,())/\a2.Perm a0/\Rn C a2 0 P2.toList N/\(P2.size+y<=N\/P2.size<=1)) (Q:=λc s'=>∃a2 P2 g2,s'=S3 C a2 P2 g2/\c=(none,())/\a2.Perm a0/\Rn C a2 0 P2.toList N/\P2.size<=1) ?_ ?_ {_,_,_,rfl,rfl,pm,rn,.inl ?_}) ?_)
  ·rintro y c s' _ hy ⟨a2,P2,g2,rfl,rfl,ml,nX,p2⟩;refine W.bind (W.get (W.ite (λc=>W.pure ⟨_,_,_,rfl,rfl,ml,nX,c⟩) λc=>?_));have c:1<P2.size:=Nat.lt_of_not_le c;refine W.bind (QV (st:=S3 C a2 P2 g2) rfl (λx hx=>iV x (ml.mem_iff.mp hx)) nX (by rw[ml.size_eq,hN];lia) ?_ λa3 P3 g3 q1 q2 q3 q4=>W.pure {a3,P3,g3,rfl,rfl,q1.trans ml,q3,by lia});have two:∀{c:Prop}[Decidable c],(if c then P2.size -2 -1 else P2.size -2)+1<P2.size:=λ{c} _=>by
    by_cases z:c
    ·rw[ay z];lia
    ·rw[aq z];lia
   exact two
  ·rintro c s' ⟨a2,P2,g2,rfl,rfl,ml,nX,p2⟩;exact{_,_,_,rfl,rfl,ml,nX,by lia}
  ·have:=rn.le;rw[aM]at this;lia
  ·rintro c s' ⟨a2,P2,g2,rfl,rfl,ml,nX,p2⟩;refine W.pure (h a2 P2 g2 ml ?_);rw[<-aM]at p2;generalize P2.toList=l at nX p2
   match l,p2,nX with
   |[],_,e=>exact absurd (show 0=N from e) ∅
   |[r],_,⟨_,_,u,e⟩=>
    rw[e]at u;exact u
end LM
namespace vY
open PySem PySem.W PyProof.Rows PySem.Calls
section
variable{prog:Program}{w:World}{A:Around}{E:Value->Shared->Prop}{s:Shared}{vs:List Value}
def Tk(s s':Shared):Prop:=∃t,s'={s with toks:=t}
def Tk.refl(s:Shared):Tk s s:={s.toks,rfl}
abbrev pG(h:Heap)(a:Addr)(vs:List Value):Heap:=((h.update a (Obj.mapSeq λ_=>(#[]:Array Value))).push (seqObj "tuple" vs.toArray 0)).push (seqObj "list" #[] 0)
def Ks{rk:Value->Nat}(ho:s.heap.get? a=some (seqObj "list" vs.toArray n))(h2:2<=vs.length)(yQ:vs.length<1000000)
  (hk:∀s',Tk {s with heap:=pG s.heap a vs} s'->wpAny (model prog w) A (keyKind' vs.toArray) (λk s2=>k=κ/\Tk {s with heap:=pG s.heap a vs} s2) (λ_ _=>False) s')
  (hc:∀x∈vs,∀y∈vs,∀s',Tk {s with heap:=pG s.heap a vs} s'->wpAny (model prog w) A (keyLt' κ x y) (λb s2=>b=decide (rk x<rk y)/\Tk {s with heap:=pG s.heap a vs} s2) (λ_ _=>False) s')
  (k:∀(us:List Value)(h':Heap)(tk c:Nat),us.Perm vs->us.Pairwise (λx y=>rk x<=rk y)->h'.get? a=some (seqObj "list" us.toArray c)->(∀b o,b≠a->s.heap.get? b=some o->h'.get? b=some o)->P (.done (.ret .none)) {s with heap:=h',toks:=tk}):
  wpAny (model prog w) A (Builtin.«list.sort» {[.ref a],[]}) P E s:=by
 have la:a<s.heap.objs.size:=aB ho;obtain⟨e1,PJ⟩:∃e1,(s.heap.update a (Obj.mapSeq λ_=>(#[]:Array Value))).get? a=some (seqObj "list" #[] e1):={_,get?_update_seq ho λ_=>#[]};have BU:(pG s.heap a vs).get? a=some (seqObj "list" #[] e1):=ah _ (ah _ PJ);have EA:∀b o,b≠a->s.heap.get? b=some o->(pG s.heap a vs).get? b=some o:=λb o nb q=>ah _ (ah _ ((bM s.heap a _).extBut b o nb q));rw[list_sort_plain];refine ae (listItems_at ho rfl ?_);refine ae (sO ho rfl ?_ (by rw[aL,bP];lia) (aR _));refine ae (wc PJ rfl ?_);refine ae (kr ?_ (by show vs.length<=_;rw[bP];lia));refine ae (sI ?_ (aR _));refine bK ?_;show wpAny (model prog w) A _ P E {s with heap:=pG s.heap a vs};dsimp only;have big:¬vs.toArray.size<2:=by rw[aL];lia
 rw[aq big,aq big];refine ae (cR (hk _ (Tk.refl _)) (λkd s0 hq=>?_) λ_ _ x=>x.elim);obtain⟨rfl,t0⟩:=hq
 let C:LM.Ct:={prog,w,A,Tk {s with heap:=pG s.heap a vs},kd,λx=>rk x.1,λx=>x.2=x.1/\x.1∈vs,λx y hx hy s' tk=>hc x.1 hx.2 y.1 hy.2 s' tk}
 have hz:∀x∈vs.toArray.zip vs.toArray,x.2=x.1/\x.1∈vs:=λx hx=>by
  rw[List.zip_toArray]at hx;have hx:x∈vs.zip vs:=by simpa using hx
  obtain⟨i,hi,e⟩:=dN.mp hx;rw[vd]at e;rw[<-e];exact{rfl,gg _}
 have acJ:=LM.Xe (C:=C) (a0:=vs.toArray.zip vs.toArray) (g0:=7) (Q:=λ_ ig=>∃a',arrOf ig=a'/\failedOf ig=none/\a'.Perm (vs.toArray.zip vs.toArray)/\LM.Up C a' 0 (vs.toArray.zip vs.toArray).size) hz (by rw[Array.size_zip,aL];lia) (λa' P g p u=>⟨a',rfl,rfl,p,u⟩) s0 t0;refine ae (cR acJ ?_ λ_ _ e=>e.elim);rintro⟨⟨⟩,ig⟩ s' ⟨⟨tk,rfl⟩,a',ea,hf,pm,up⟩;have sz:a'.size=vs.length:=by rw[pm.size_eq,Array.size_zip,aL,Nat.min_self]
 obtain⟨out,eo⟩:∃out,out=a'.toList.map (·.2):=⟨_,rfl⟩;have e2:(arrOf ig).map (·.2)=out.toArray:=by have ea:arrOf ig=a':=ea;rw[ea,eo];apply Array.ext';rw[Array.toList_map]
 have lp:out.length=vs.length:=by rw[eo,ag,aM,sz]
 have iV:∀x∈a',x.2=x.1/\x.1∈vs:=λx hx=>hz x (pm.mem_iff.mp hx);have po:out.Perm vs:=by rw[eo];have:=(sY.mp pm).map (·.2);refine this.trans ?_;rw[List.zip_toArray];show(List.map (λx=>x.2) (vs.zip vs)).Perm vs;rw[List.map_snd_zip (ak _)]
 have so:out.Pairwise λx y=>rk x<=rk y:=by rw[eo];refine c8.mpr (eZ.mpr λi j hi hj ZR=>?_);rw[aM]at hi hj;have:=up i j (aR _) (bg ZR) (by rw[<-pm.size_eq];exact hj);rw[LM.g8 hi,LM.g8 hj]at this;rw[lE,lE,(iV _ (cJ hi)).1,(iV _ (cJ hj)).1];exact this
 show wpAny _ _ _ _ _ _;dsimp only;have e3:Array.map (λx:Keyed=>x.2) (arrOf ig)=out.toArray:=e2;rw[e3];obtain⟨c2,pJ⟩:∃c2,((pG s.heap a vs).update a (Obj.mapSeq λ_=>out.toArray)).get? a=some (seqObj "list" out.toArray c2):={_,get?_update_seq BU λ_=>out.toArray};refine ae (wc BU rfl ?_);refine ae (sO BU rfl ?_ (aR _) (by rw[aL,lp,bP];lia));rw[hf];simp only[iX,bT,dP];exact af (k out _ tk c2 po so pJ λb o nb q=>(bM (pG s.heap a vs) a _).extBut b o nb (EA b o nb q))
def G5(ho:s.heap.get? a=some (seqObj "list" vs.toArray n))(h2:vs.length<2)
  (k:∀(h':Heap)(c:Nat),h'.get? a=some (seqObj "list" vs.toArray c)->(∀b o,b≠a->s.heap.get? b=some o->h'.get? b=some o)->P (.done (.ret .none)) {s with heap:=h'}):
  wpAny (model prog w) A (Builtin.«list.sort» {[.ref a],[]}) P E s:=by
 obtain⟨e1,PJ⟩:∃e1,(s.heap.update a (Obj.mapSeq λ_=>(#[]:Array Value))).get? a=some (seqObj "list" #[] e1):={_,get?_update_seq ho λ_=>#[]};have BU:(pG s.heap a vs).get? a=some (seqObj "list" #[] e1):=ah _ (ah _ PJ);have EA:∀b o,b≠a->s.heap.get? b=some o->(pG s.heap a vs).get? b=some o:=λb o nb q=>ah _ (ah _ ((bM s.heap a _).extBut b o nb q));rw[list_sort_plain];refine ae (listItems_at ho rfl ?_);refine ae (sO ho rfl ?_ (by rw[aL,bP];lia) (aR _));refine ae (wc PJ rfl ?_);refine ae (kr ?_ (by show vs.length<=_;rw[bP];lia));refine ae (sI ?_ (aR _));refine bK ?_;show wpAny (model prog w) A _ P E {s with heap:=pG s.heap a vs};dsimp only;have fL:vs.toArray.size<2:=by rw[aL];lia
 rw[ay fL,ay fL];refine ae (af ?_);refine ae (af ?_);dsimp only;have es:(arrOf (SortSt.mk' general' (vs.toArray.zip vs.toArray) #[] 7 none)).map (·.2)=vs.toArray:=by show(vs.toArray.zip vs.toArray).map (·.2)=vs.toArray;apply vj.mp;simp[List.map_snd_zip]
 rw[es];obtain⟨c2,pJ⟩:∃c2,((pG s.heap a vs).update a (Obj.mapSeq λ_=>vs.toArray)).get? a=some (seqObj "list" vs.toArray c2):={_,get?_update_seq BU λ_=>vs.toArray};refine ae (wc BU rfl ?_);refine ae (sO BU rfl ?_ (aR _) (by rw[aL,bP];lia));simp only[iX,bT,dP];exact af (k _ c2 pJ λb o nb q=>(bM (pG s.heap a vs) a _).extBut b o nb (EA b o nb q))
abbrev FE(a b:Str):Bool:=decide (a.cps.toList<b.cps.toList)
def cT:List Str->List Str->Bool
 |_,[]=>false
 |[],_::_=>true
 |a::r,b::q=>if a=b then cT r q else FE a b
def Mt(a:Str):FE a a=false:=bj (List.lt_irrefl _)
def OY(h1:FE a b=true)(h2:FE b c=true):FE a c=true:=aY (List.lt_trans (bA h1) (bA h2))
def OZ(h:FE a b=false)(h2:FE b a=false):a=b:=by have h1:=List.not_lt.mp (zQ h);have h3:=List.not_lt.mp (zQ h2);exact ext_toList (List.le_antisymm h3 h1)
theorem qd:∀a,cT a a=false
 |[]=>rfl
 |a::r=>by unfold cT;rw[ay rfl];exact qd r
theorem rN:∀{a b c:List Str},cT a b=true->cT b c=true->cT a c=true
 |_,[],[],_,h=>by unfold cT at h;cases h
 |_,_::_,[],_,h=>by unfold cT at h;cases h
 |_,[],_::_,h,_=>by unfold cT at h;cases h
 |[],_::_,_::_,_,_=>rfl
 |a::r,b::q,c::p,h1,h2=>by
  unfold cT at h1 h2⊢;by_cases e1:a=b
  ·subst e1;rw[ay rfl]at h1;by_cases e2:a=c
   ·rw[ay e2]at h2⊢;exact rN h1 h2
   ·rw[aq e2]at h2⊢;exact h2
  ·rw[aq e1]at h1;by_cases e2:b=c
   ·subst e2;rw[aq e1];exact h1
   ·rw[aq e2]at h2;have h3:=OY h1 h2;have ne:a≠c:=λe=>by rw[e,Mt]at h3;cases h3
    rw[aq ne];exact h3
theorem rO:∀{a b:List Str},cT a b=false->cT b a=false->a=b
 |[],[],_,_=>rfl
 |[],_::_,h,_=>by unfold cT at h;cases h
 |_::_,[],_,h=>by unfold cT at h;cases h
 |a::r,b::q,h1,h2=>by
  unfold cT at h1 h2;by_cases e:a=b
  ·subst e;rw[ay rfl]at h1 h2;rw[rO h1 h2]
  ·rw[aq e]at h1;rw[aq (bX e)]at h2;exact(e (OZ h1 h2)).elim
abbrev kg(a b:List Str):Bool:=!cT b a
def JF(a b c:List Str)(h1:kg a b=true)(h2:kg b c=true):kg a c=true:=by
 have h1':cT b a=false:=by simpa using h1
 have h2':cT c b=false:=by simpa using h2
 cases q:cT c a with
 |false=>simp[kg,q]
 |true=>
  cases p:cT a b with
  |true=>rw[rN q p]at h2';cases h2'
  |false=>rw[rO p h1',h2']at q;cases q
def JG(a b:List Str):(kg a b||kg b a)=true:=by
 cases q:cT b a with
 |false=>simp[kg,q]
 |true=>
  cases p:cT a b with
  |false=>simp[kg,p]
  |true=>have:=rN q p;rw[qd]at this;cases this
def Mx(h1:kg a b=true)(h2:kg b a=true):a=b:=rO (by simpa using h2) (by simpa using h1)
def bU(l:List (List Str)):List (List Str):=l.mergeSort kg
def df(l:List (List Str)):(bU l).Perm l:=List.mergeSort_perm l kg
def Dc(l:List (List Str)):(bU l).Pairwise (λa b=>kg a b=true):=List.pairwise_mergeSort JF JG l
theorem Hu:∀{l m:List (List Str)},l.Perm m->l.Pairwise (λa b=>kg a b=true)->m.Pairwise (λa b=>kg a b=true)->l=m
 |[],m,h,_,_=>(List.nil_perm.mp h).symm
 |a::l,[],h,_,_=>absurd h.length_eq (by simp)
 |a::l,b::m,h,h1,h2=>by
  have e:a=b:=by
   rcases aE.mp (h.mem_iff.mp (aA))with e|e
   ·exact e
   ·rcases aE.mp (h.mem_iff.mpr (aA))with q|q
    ·exact q.symm
    ·exact Mx (ui h1 q) (ui h2 e)
  subst e;rw[Hu (List.perm_cons a|>.mp h) (AS.mp h1).2 (AS.mp h2).2]
def oZ(h:l.Perm zs)(hs:l.Pairwise (λa b=>kg a b=true)):l=bU zs:=Hu (h.trans (df zs).symm) hs (Dc zs)
def Bz(h:l.Perm m):bU l=bU m:=oZ ((df l).trans h) (Dc l)
def Hi(rows:List (List Str))(a:List Str):Nat:=rows.countP λr=>cT r a
def Gq(ha:a∈rows)(hb:b∈rows):decide (Hi rows a<Hi rows b)=cT a b:=by
 have strict:∀{a b:List Str},a∈rows->cT a b=true->Hi rows a<Hi rows b:=λ{a b} hm h=>by unfold Hi;obtain⟨l1,l2,e⟩:=List.append_of_mem hm;have c1:∀l:List (List Str),(l.countP λr=>cT r a)<=l.countP λr=>cT r b:=λl=>List.countP_mono_left λr _ hr=>rN hr h;rw[e,AW,AW,List.countP_cons,List.countP_cons,qd,h];have:=c1 l1;have:=c1 l2;simp;lia
 cases q:cT a b with
 |true=>exact aY (strict ha q)
 |false=>
  refine bj (yr.mpr ?_);cases p:cT b a with
  |true=>exact bg (strict hb p)
  |false=>rw[rO q p];exact ak _
end
inductive iI:List Str->List Value->Prop where
 |nil:iI [] []
 |cons {z:Str} {t:Tok} {zs:List Str} {vs:List Value}:iI zs vs->iI (z::zs) (.str z t::vs)
def TupIs(h:Heap)(v:Value)(zs:List Str):Prop:=∃a o aT n,v=.ref a/\h.get? a=some o/\o.cls=.type "tuple"/\o.data=.seq aT n/\iI zs aT.toList
def TupIs.mono(x:TupIs h v zs)(kp:∀b o,h.get? b=some o->h'.get? b=some o):TupIs h' v zs:=by obtain⟨a,o,aT,n,e,ho,r⟩:=x;exact{a,o,aT,n,e,kp _ _ ho,r}
theorem iI.one:∀{xs ys:List Str}{vs:List Value},iI xs vs->iI ys vs->xs=ys
 |_,_,_,.nil,.nil=>rfl
 |_,_,_,.cons a,.cons b=>by rw[a.one b]
def TupIs.one(a:TupIs h v xs)(b:TupIs h v ys):xs=ys:=by obtain⟨a,o,aT,n,rfl,h1,_,h2,h3⟩:=a;obtain⟨b,p,vK,m,e,q1,_,q2,q3⟩:=b;cases e;rw[h1]at q1;cases q1;rw[h2]at q2;cases q2;exact h3.one q3
open Classical in
def rowOf(h:Heap)(v:Value):List Str:=if x:∃r,TupIs h v r then Classical.choose x else[]
def qV(x:TupIs h v r):rowOf h v=r:=by unfold rowOf;rw[dif_pos ⟨r,x⟩];exact(xv (⟨r,x⟩:∃r,TupIs h v r)).one x
section
variable{prog:Program}{w:World}{A:Around}{E:Value->Shared->Prop}{s:Shared}
def eq_str(h:Q (decide (a=b)) s):wpAny (model prog w) A (eqBool (.str a t) (.str b u)) Q E s:=
 (PySem.strKind prog w).eqBool (C6 _ _ _ _) (C6 _ _ _ _) h
theorem K2:∀(xs ys:List Str)(vs us:List Value)(i:Nat)(s:Shared),iI xs vs->iI ys us->(fin=decide (xs.length<ys.length))->C (cT xs ys) s->KatLex prog w A true fin C (vs.zip us) i s
 |[],[],_,_,i,s,.nil,.nil,hf,h=>by refine kat_nil ?_;rw[hf];exact h
 |[],_::_,_,_,i,s,.nil,.cons r,hf,h=>by refine kat_nil ?_;rw[hf];exact h
 |_::_,[],_,_,i,s,.cons r,.nil,hf,h=>by refine kat_nil ?_;rw[hf];exact h
 |a::xs,b::ys,_,_,i,s,.cons (t:=t) r1,.cons (t:=u) r2,hf,h=>by
  refine kat_cons (eq_str ?_);unfold cT at h;by_cases e:a=b
  ·rw[aY e];rw[ay e]at h;refine kat_yes (K2 xs ys _ _ (i+1) s r1 r2 ?_ h);rw[hf];simp
  ·rw[bj e];rw[aq e]at h;refine kat_no ?_;cases i with
   |zero=>exact oneLt_str h
   |succ i=>
    have e2:(true&&(i+1==0))=false:=by simp
    rw[e2];refine kat_one _ _ ?_;exact yY h
def Yy(hx:TupIs s.heap x xs)(hy:TupIs s.heap y ys)(h:C (cT xs ys) s):wpAny (model prog w) A (keyLt' (tuples' true) x y) C E s:=by
 obtain⟨a,o,aT,n,rfl,ho,hc,hd,hr⟩:=hx;obtain⟨b,p,vK,m,rfl,hp,UT,Zx,hq⟩:=hy;refine kat_lt ho hd hp Zx (K2 xs ys _ _ 0 s hr hq ?_ h);have len:∀{zs:List Str}{vs:List Value},iI zs vs->zs.length=vs.length:=by
  intro zs vs r
  induction r with
  |nil=>rfl
  |cons _ ih=>simp[ih]
 rw[len hr,len hq,aM,aM]
def R8{vs:List Value}{rows:List (List Str)}(hl:vs.length=rows.length)(h2:2<=vs.length)(ht:∀(i:Nat) v r,vs[i]?=some v->rows[i]?=some r->TupIs s.heap v r)(gE:∀r∈rows,r≠[])(h:Q (tuples' true) s):wpAny (model prog w) A (keyKind' vs.toArray) Q E s:=by
 have key:∀(vs:List Value)(rows:List (List Str)),vs.length=rows.length->(∀(i:Nat) v r,vs[i]?=some v->rows[i]?=some r->TupIs s.heap v r)->(∀r∈rows,r≠[])->∃fs,KatTups s.heap vs fs/\fs.length=vs.length/\∀f∈fs,∃z t,f=Value.str z t:=by
  intro vs
  induction vs with
  |nil=>intro rows hl _ _;exact{[],KatTups.nil,rfl,λf hf=>nomatch hf}
  |cons v vs ih=>
   intro rows hl ht gE;cases rows with
   |nil=>simp at hl
   |cons r rows=>
    obtain⟨fs,h1,h2,h3⟩:=ih rows (by simpa using hl) (λi v' r' e1 e2=>ht (i+1) v' r' (by simpa using e1) (by simpa using e2)) λr' hr=>gE r' (az _ hr);obtain⟨a,o,aT,n,rfl,ho,hc,hd,hr⟩:=ht 0 v r rfl rfl;cases r with
    |nil=>exact(gE [] aA rfl).elim
    |cons z zs=>
     generalize eL:aT.toList=L at hr;cases hr with
     |@cons _ t _ oE mz=>
      have e0:aT[0]?=some (.str z t):=by rw[<-bB,eL];rfl
      refine{.str z t::fs,KatTups.cons ho hc hd e0 h1,by simp[h2],λf hf=>?_};rcases aE.mp hf with rfl|hf
      ·exact⟨z,t,rfl⟩
      ·exact h3 f hf
 obtain⟨fs,h1,h3,h4⟩:=key vs rows hl ht gE;refine kat_kind (T:=.type "str") h1 ∅ (λv hv=>?_) (by decide) ?_
 ·obtain⟨z,t,rfl⟩:=h4 v hv;exact Looks.of_pure rfl
 ·have e:((Value.type "str") !=Value.type "tuple")=true:=by decide
  rw[e];exact h
def NS(ho:s.heap.get? a=some (seqObj "list" vs.toArray n))(hl:vs.length=rows.length)(ht:∀(i:Nat) v r,vs[i]?=some v->rows[i]?=some r->TupIs s.heap v r)(gE:2<=rows.length->∀r∈rows,r≠[])(yQ:vs.length<1000000)
  (k:∀(h':Heap)(tk c:Nat)(us:List Value),h'.get? a=some (seqObj "list" us.toArray c)->(∀b o,b≠a->s.heap.get? b=some o->h'.get? b=some o)->us.Perm vs->(∀(i:Nat) v r,us[i]?=some v->(bU rows)[i]?=some r->TupIs s.heap v r)->P (.done (.ret .none)) {s with heap:=h',toks:=tk}):
  wpAny (model prog w) A (Builtin.«list.sort» {[.ref a],[]}) P E s:=by
 by_cases c2:vs.length<2
 ·refine G5 ho c2 λh' c g kp=>?_;have e:bU rows=rows:=by
   have:rows.length<2:=by lia
   match rows,this with
   |[],_=>exact(oZ (.refl _) .nil).symm
   |[r],_=>exact(oZ (.refl _) (by simp)).symm
   |_::_::_,q=>simp at q;lia
  rw[e]at k;exact k h' s.toks c vs g kp (.refl _) ht
 ·have na:∀v r,TupIs s.heap v r->v≠ .ref a:=λv r x z=>by obtain⟨b,o,aT,m,rfl,hb,hc,_⟩:=x;cases z;rw[ho]at hb;cases hb;have kQ:=hc;injection kQ with z;exact absurd z (by decide)
  have ht3:∀s',Tk {s with heap:=pG s.heap a vs} s'->∀(i:Nat) v r,vs[i]?=some v->rows[i]?=some r->TupIs s'.heap v r:=λs' ⟨t,e⟩ i v r e1 e2=>by subst e;have x:=ht i v r e1 e2;have ne:=na v r x;obtain⟨b,o,aT,m,rfl,hb,r⟩:=x;have nb:b≠a:=λz=>ne (by rw[z]);exact{b,o,aT,m,rfl,ah _ (ah _ ((bM s.heap a _).extBut b o nb hb)),r}
  have mr:∀v∈vs,∃r,r∈rows/\TupIs s.heap v r/\∀s',Tk {s with heap:=pG s.heap a vs} s'->TupIs s'.heap v r:=λv hv=>by obtain⟨i,hi,rfl⟩:=dN.mp hv;have e1:=ao hi;have e2:=ao (l:=rows) (i:=i) ∅;exact{_,gg _,ht i _ _ e1 e2,λs' tk=>ht3 s' tk i _ _ e1 e2}
  refine Ks (κ:=tuples' true) (rk:=λv=>Hi rows (rowOf s.heap v)) ho ∅ yQ (λs' tk=>?_) (λx hx y hy s' tk=>?_) λus h' tk c po so g kp=>?_
  ·exact R8 hl ∅ (ht3 s' tk) (gE ∅) ⟨rfl,tk⟩
  ·obtain⟨r,m1,t1,k1⟩:=mr x hx;obtain⟨q,m2,t2,k2⟩:=mr y hy;refine Yy (k1 s' tk) (k2 s' tk) {?_,tk};rw[qV t1,qV t2,Gq m1 m2]
  ·have er:us.map (rowOf s.heap)=bU rows:=by
    have ev:vs.map (rowOf s.heap)=rows:=by refine pk (by simpa using hl) λi h1 h2=>?_;rw[k9];exact qV (ht i _ _ (ao _) (ao h2))
    refine oZ (by rw[<-ev];exact po.map _) (c8.mpr (so.imp_of_mem λ{x y} hx hy q=>?_));obtain⟨r,m1,t1,k1⟩:=mr x (po.mem_iff.mp hx);obtain⟨p,m2,t2,k2⟩:=mr y (po.mem_iff.mp hy);rw[qV t1,qV t2]at q⊢;have z:=Gq m2 m1;rw[bj (yr.mpr q)]at z;show(!cT _ _)=true;rw[<-z];rfl
   refine k h' tk c us g kp po λi v r e1 e2=>?_;rw[<-er,aJ,e1]at e2;cases e2;obtain⟨r,m1,t1,k1⟩:=mr v (po.mem_iff.mp (aG e1));rw[qV t1];exact t1
end
end vY
namespace L2
open PySem PySem.Spec PyProof.Rows vY
abbrev eQ(K:Frag)(H:Hp):List V->List (List Str)->Prop:=Paired λ(y:V)(zs:List Str)=>∃a,y=.ref a/\bq K H a (zs.map V.str)
theorem Hh:∀{zs:List Str}{us:List Value},Vals (zs.map V.str) us->iI zs us
 |[],_,.nil=>.nil
 |z::r,_,.cons ⟨t,e⟩ h=>by subst e;exact .cons (Hh h)
theorem Pa:∀{zs:List Str}{us:List Value},Vals (zs.map V.str) us->ItemsAre (bG P w) (zs.map Sum.inr) us
 |[],_,.nil=>.nil
 |z::r,_,.cons ⟨t,e⟩ h=>by subst e;exact .cons (BH _ _ _ _) (Pa h)
section
variable{X:Cx}{pins:List (Addr×Obj)}{Z:St}{H:Hp}{s:Shared}
def Inv.row(I:Inv X pins Z H s)(h:bq X.K H a (zs.map V.str)):TupIs s.heap (.ref a) zs/\IsTupleKey (bG X.prog X.w) s.heap (zs.map Sum.inr) a:=by obtain⟨aT,r,⟨o,e,c,n,d⟩,_⟩:=I.tuple h;exact{{a,o,aT.toArray,n,rfl,e,c,d,by simpa using Hh r},{o,aT.toArray,n,e,c,d,by simpa using Pa r}}
theorem Inv.rows(I:Inv X pins Z H s):∀{ys:List V}{rows:List (List Str)}{us:List Value},eQ X.K H ys rows->Vals ys us->∃bs:List Addr,us=bs.map Value.ref/\ys=bs.map V.ref/\bs.length=rows.length/\∀(i:Nat) z b,rows[i]?=some z->bs[i]?=some b->bq X.K H b (z.map V.str)
 |_,_,_,.nil,.nil=>{[],rfl,rfl,rfl,λi z b e=>by simp at e}
 |_,_,_,.cons (b:=zs) ⟨a,e,h⟩ r,.cons (b:=u) ru q=>by
  obtain⟨bs,h1,h2,h3,h4⟩:=I.rows r q;subst e;cases(show u=Value.ref a from ru);refine{a::bs,by rw[h1];rfl,by rw[h2];rfl,by simp[h3],λi z b e1 e2=>?_};cases i with
  |zero=>cases e1;cases e2;exact h
  |succ i=>exact h4 i z b (by simpa using e1) (by simpa using e2)
end
theorem Kx{K:Frag}:∀{bs:List Addr}{rows:List (List Str)},bs.length=rows.length->(∀(i:Nat) z b,rows[i]?=some z->bs[i]?=some b->bq K H b (z.map V.str))->eQ K H (bs.map V.ref) rows
 |[],[],_,_=>.nil
 |[],_::_,h,_=>by simp at h
 |_::_,[],h,_=>by simp at h
 |b::bs,z::rows,h,k=>.cons {b,rfl,k 0 z b rfl rfl} (Kx (by simpa using h) λi z' b' e1 e2=>k (i+1) z' b' (by simpa using e1) (by simpa using e2))
theorem Ek:∀bs:List Addr,Vals (bs.map V.ref) (bs.map Value.ref)
 |[]=>.nil
 |b::bs=>.cons rfl (Ek bs)
def aaE:Value->Addr
 | .ref a=>a
 |_=>0
def Kz(h:us.Perm (bs.map Value.ref)):∃cs:List Addr,us=cs.map Value.ref/\cs.Perm bs:=by
 have all:∀{us:List Value},(∀u∈us,∃b,u=Value.ref b)->∃cs:List Addr,us=cs.map Value.ref:=by
  intro us
  induction us with
  |nil=>intro _;exact{[],rfl}
  |cons u us ih=>
   intro hu;obtain⟨b,rfl⟩:=hu u aA;obtain⟨cs,rfl⟩:=ih λv hv=>hu v (az _ hv);exact{b::cs,rfl}
 obtain⟨cs,rfl⟩:=all λu hu=>by obtain⟨b,_,e⟩:=au.mp (h.mem_iff.mp hu);exact{b,e.symm}
 refine{cs,rfl,?_};have e:∀l:List Addr,(l.map Value.ref).map aaE=l:=λl=>by
  induction l with
  |nil=>rfl
  |cons a l ih=>exact cu (a::·) ih
 rw[<-e cs,<-e bs];exact h.map _
def yd:List (List Str)->List (List Str)
 |[]=>[]
 |r::l=>if r∈l then yd l else r::yd l
theorem uL(x:List Str):∀l,x∈yd l↔x∈l
 |[]=>rG
 |r::l=>by
  unfold yd;by_cases c:r∈l
  ·rw[ay c,uL x l,aE];exact{.inr,λh=>h.elim (λe=>e▸c) id}
  ·rw[aq c,aE,aE,uL x l]
theorem t4:∀l,(yd l).Nodup
 |[]=>kJ
 |r::l=>by
  unfold yd;by_cases c:r∈l
  ·rw[ay c];exact t4 l
  ·rw[aq c];exact cD.mpr {λh=>c ((uL r l).mp h),t4 l}
def tW(l:List (List Str)):List (List Str):=bU (yd l)
def B6(nd:l.Nodup)(h:∀r,r∈l↔r∈rows):bU l=tW rows:=
 Bz ((lP nd (t4 rows)).mpr λr=>by rw[h,uL])
def iw(x:List Str)(l:List (List Str)):x∈tW l↔x∈l:=by unfold tW;rw[(df _).mem_iff,uL]
section
variable{prog:Program}{w:World}{A:Around}{E:Value->Shared->Prop}{s:Shared}
def Jt{Q:Value->Shared->Prop}(hl:vs.length=rows.length)(ht:∀(i:Nat) v r,vs[i]?=some v->rows[i]?=some r->TupIs s.heap v r)(gE:2<=rows.length->∀r∈rows,r≠[])(yQ:vs.length<1000000)
  (k:∀(h':Heap)(tk c:Nat)(us:List Value),h'.get? s.heap.objs.size=some (seqObj "list" us.toArray c)->(∀b o,s.heap.get? b=some o->h'.get? b=some o)->us.Perm vs->(∀(i:Nat) v r,us[i]?=some v->(bU rows)[i]?=some r->TupIs s.heap v r)->Q (.ref s.heap.objs.size) {s with heap:=h',toks:=tk}):
  wpAny (model prog w) A (newList vs>>=λl=>holding [l] (call (.builtin "list.sort") [l] [])>>=λ_=>ret l) (λfin s'=>∃v,fin=Fin.done (.ret v)/\Q v s') E s:=by
 refine ae (sI ?_ (by rw[bP];lia));have IG:(s.heap.push (seqObj "list" vs.toArray 0)).get? s.heap.objs.size=some (seqObj "list" vs.toArray 0):=aD _ rfl;refine ae (bK (ba slot_list_sort ⟨_,IG,rfl⟩ entry_list_sort (NS IG hl (λi v r e1 e2=>(ht i v r e1 e2).mono λb o e=>ah _ e) gE yQ λh' tk c us g kp pm q=>{_,rfl,?_}) (args_list_sort _)));refine af {_,rfl,k h' tk c us g (λb o e=>kp b o (aI (aB e)) (ah _ e)) pm λi v r e1 e2=>?_};have x:=q i v r e1 e2;have hv:=pm.mem_iff.mp (aG e1);obtain⟨j,hj⟩:=fm.mp hv;have oI:j<rows.length:=by have:=(ar.mp hj).1;lia
 have y:=ht j v _ hj (ao oI);obtain⟨b,o,aT,m,rfl,hb,r1⟩:=y;obtain⟨b',o',its',m',e',iW,r1'⟩:=x;cases e';have:o'=o:=by have:=ah (seqObj "list" vs.toArray 0) hb;exact bL (iW.symm.trans this)
 subst this;exact⟨b,o',its',m',rfl,hb,r1'⟩
variable{X:Cx}
def SortedTo(K:Frag)(H:Hp)(ys:List V)(rows:List (List Str))(Q:VK):Prop:=∀l zs,H l=none->eQ K H zs (bU rows)->(∀z∈zs,z∈ys)->Q (.ref l) (upd H l (.lst zs))
def C9{pins:List (Addr×Obj)}{Z:St}{H:Hp}{s s1:Shared}{bs:List Addr}{rows:List (List Str)}{Q:VK}(I:Inv X pins Z H s1)(lb:bs.length=rows.length)(hb:∀(i:Nat) z b,rows[i]?=some z->bs[i]?=some b->bq X.K H b (z.map V.str))(gE:2<=rows.length->∀r∈rows,r≠[])(yQ:rows.length<1000000)(q:SortedTo X.K H (bs.map V.ref) rows Q){A:Around}{E:Value->Shared->Prop}:
  wpAny (model X.prog X.w) A (newList (bs.map Value.ref)>>=λl=>holding [l] (call (.builtin "list.sort") [l] [])>>=λ_=>ret l) (λfin s'=>∃v,fin=Fin.done (.ret v)/\EP X pins Z Q v s') E s1:=by
 refine Jt (by rw[ag];exact lb) (λi v r e1 e2=>?_) gE (by rw[ag];lia) λh' tk c us g kp pm srt=>?_
 ·rw[aJ]at e1;obtain⟨b,e3,rfl⟩:=a9.mp e1;exact(I.row (hb i r b e2 e3)).1
 ·obtain⟨cs,rfl,pc⟩:=Kz pm;have lc:cs.length=rows.length:=by rw[pc.length_eq,lb]
  have lz:(cs.map V.ref).length<=sizeLine:=by rw[ag,bP];lia
  refine{.ref s1.heap.objs.size,_,I.laid kp (ak _) (show du X.prog X.w _ _ _ (.lst (cs.map V.ref))from{lz,cs.map Value.ref,c,Ek cs,g}),rfl,q _ (cs.map V.ref) (I.br.fresh (ak _)) (Kx (by rw[lc,(df rows).length_eq]) λi z b e1 e2=>?_) λz hz=>(pc.map _).mem_iff.mp hz};have t:=srt i (.ref b) z (by rw[aJ,e2];rfl) e1;obtain⟨j,hj⟩:=fm.mp (pc.mem_iff.mp (aG e2));have oI:j<rows.length:=by have:=(ar.mp hj).1;lia
  have hr:=hb j _ b (ao oI) hj;have t2:=(I.row hr).1;have e:rows[j]=z:=by
   obtain⟨b1,o1,i1,n1,e1,g1,c1,d1,r1⟩:=t;obtain⟨b2,o2,i2,n2,e2,g2,c2,d2,r2⟩:=t2;cases e1;cases e2;rw[g1]at g2;cases g2;rw[d1]at d2;cases d2;have inj:∀{x y:List Str}{vs:List Value},iI x vs->iI y vs->x=y:=by
    intro x y vs hx
    induction hx generalizing y with
    |nil=>intro hy;cases hy;rfl
    |cons _ ih=>intro hy;cases hy with|cons hy=>rw[ih hy]
   exact inj r2 r1
  rw[<-e];exact hr
def Ht{α β:Type}{f:α->β}:∀{l k:List β},l.Perm k->∀{m:List α},k=m.map f->∃m':List α,m'.Perm m/\l=m'.map f:=by
 intro l k h
 induction h with
 |nil=>intro m e;exact{m,.refl _,e}
 |@cons x l1 l2 _ ih=>
  intro m e;cases m with
  |nil=>cases e
  |cons a m=>
   rw[aQ]at e;injection e with e1 e2;obtain⟨m',p,q⟩:=ih e2;exact{a::m',p.cons a,by rw[e1,q];rfl}
 |swap x y l=>
  intro m e
  match m,e with
  |a::b::m,e=>
   rw[aQ,aQ]at e;injection e with e1 e2;injection e2 with e2 e3;exact{b::a::m,.swap _ _ _,by rw[e1,e2,e3];rfl}
 |trans _ _ ih1 Po=>
  intro m e;obtain⟨m1,p1,q1⟩:=Po e;obtain⟨m2,p2,q2⟩:=ih1 q1;exact{m2,p2.trans p1,q2}
def oS:Key->Str
 | .inr z=>z
 | .inl _=>""
def vA(z:List Str):(z.map (Sum.inr:Str->Key)).map oS=z:=by
 induction z with
 |nil=>rfl
 |cons a z ih=>exact cu (a::·) ih
end
def u7(P:Program)(w:World)(a:Addr)(us:List (List Str×Addr)):Heap->Prop:=λh=>∃o ep t,h.get? a=some o/\o.ExactSet/\o.data=.set (us.map λx=>Tb.ent (bG P w) (x.1.map Sum.inr,x.2)).toArray ep t/\t.fits us.length=true/\t.led=Tb.o6 w/\Tb.m6 t.place
def VP(x:u7 P w a us h):du P w H h a (.ext (u7 P w a us)):=
 {x,let⟨o,_,_,q,_⟩:=x;⟨o,q⟩,λ_ _ ⟨o,ep,t,q,r⟩ k=>{o,ep,t,k _ q,r}}
section
variable{X:Cx}{pins:List (Addr×Obj)}{Z:St}{H:Hp}{s:Shared}{h':Heap}
def Inv.aa8(I:Inv X pins Z H s)(k:∀b u,s.heap.get? b=some u->h'.get? b=some u):Inv X pins Z H {s with heap:=h',drawn:=d',toks:=t'}:=
 I.step (g':=s.gens) (ch:=[]) (λ_ z=>nomatch z) (λb o _ _ _ e _=>k b o e) (λb o _ _ _ e _=>{o.slots,k b o e}) (λ_ _ _ _ n=>n) (λb o _ e=>{o,k b o e}) (λ_ _ e=>e) (λ_ _ _ e=>e) (λb ps e=>{#[],by rw[e];simp}) (λm hm=>by obtain⟨o,es,ep,ho,r⟩:=hm;exact{o,es,ep,k _ _ ho,r}) (I.br.kept k) I.bare
end
section
variable{X:Cx}
def QH(hA:X.A.handled=none)(hu:X.A.units+64<cLine):j6 X (.type "set") (λxs H Q=>∃p ys rows,xs=[.ref p]/\bw X.K H p ys/\eQ X.K H ys rows/\rows.length<=1000/\∀a us,H a=none->(us.map (·.1)).Nodup->(∀r,r∈us.map (·.1)↔r∈rows)->us.length<=rows.length->(∀x∈us,bq X.K H x.2 (x.1.map V.str)/\V.ref x.2∈ys)->Q (.ref a) (upd H a (.ext (u7 X.prog X.w a us)))):=by
 intro pins s Z H xs us Q I r h;obtain⟨p,ys,rows,rfl,hq,hr,hz,q⟩:=h;obtain⟨u,rfl,rx⟩:=l9 r;cases rx;obtain⟨aT,r',pl,_⟩:=I.list hq;obtain⟨bs,rfl,rfl,lb,hb⟩:=I.rows hr r';refine Tb.QG (knd:=bG X.prog X.w) (ks:=rows.map λz=>z.map Sum.inr) (bs:=bs) hA (by show X.A.units+1+1+1<cLine;lia) pl.isList (by simp) (by rw[ag,lb]) (λi k b e1 e2=>?_) ∅ λh' tk o ep t xs S hl hH kp=>?_
 ·rw[aJ]at e1;obtain⟨z,e3,rfl⟩:=a9.mp e1;exact(I.row (hb i z b e3 e2)).2
 ·have inj:∀x∈xs,∃(j:Nat)(z:List Str),rows[j]?=some z/\x.1=z.map Sum.inr/\bs[j]?=some x.2:=λx hx=>by obtain⟨j,j1,j2⟩:=hH.Gz x hx;rw[aJ]at j1;obtain⟨z,e3,e4⟩:=a9.mp j1;exact{j,z,e3,e4.symm,j2}
  have back:(xs.map λx=>(x.1.map oS,x.2)).map (λx=>((x.1.map Sum.inr:List Key),x.2))=xs:=by
   rw[bW];have:∀x∈xs,((λx:List Str×Addr=>((x.1.map Sum.inr:List Key),x.2))∘λx:List Key×Addr=>(x.1.map oS,x.2)) x=x:=λx hx=>by obtain⟨j,z,_,e,_⟩:=inj x hx;show((x.1.map oS).map Sum.inr,x.2)=x;rw[e,vA];exact CS e.symm rfl
   rw[bz this,List.map_id']
  have fst:∀r,r∈(xs.map λx=>(x.1.map oS,x.2)).map (·.1)↔r∈rows:=λr=>by
   rw[bW,au];constructor
   ·rintro⟨x,hx,rfl⟩;obtain⟨j,z,e1,e,_⟩:=inj x hx;show x.1.map oS∈rows;rw[e,vA];exact aG e1
   ·intro hr;have:r.map Sum.inr∈xs.map (·.1):=(hH.mem _).mpr (by
     rw[dn (by rw[ag,lb];exact ak _)];exact au.mpr ⟨r,hr,rfl⟩)
    obtain⟨x,hx,e⟩:=au.mp this;exact{x,hx,by show x.1.map oS=r;rw[e,vA]}
  have nd:((xs.map λx=>(x.1.map oS,x.2)).map (·.1)).Nodup:=by
   have h1:=S.nd;rw[<-back,bW]at h1;have h2:((xs.map λx=>(x.1.map oS,x.2)).map ((·.1)∘λx:List Str×Addr=>((x.1.map Sum.inr:List Key),x.2)))=((xs.map λx=>(x.1.map oS,x.2)).map (·.1)).map λz=>z.map Sum.inr:=by simp only[bW];rfl
   rw[h2]at h1;exact(c8.mp h1).imp λne e=>ne (by rw[e])
  have hd:o.data=.set ((xs.map λx=>(x.1.map oS,x.2)).map λx=>Tb.ent (bG X.prog X.w) (x.1.map Sum.inr,x.2)).toArray ep t:=by rw[S.data];congr 2;have:=cu (List.map (Tb.ent (bG X.prog X.w))) back;rw[bW]at this;exact this.symm
  refine{.ref s.heap.objs.size,_,I.laid (t':=tk) kp (ak _) (VP {o,ep,t,S.ob,S.ex,hd,?_,hl,S.tab.rise}),rfl,q _ _ (I.br.fresh (ak _)) nd fst ?_ λx hx=>?_}
  ·have:=S.fits;simpa using this
  ·rw[ag];have:=hH.len;lia
  ·obtain⟨y,hy,rfl⟩:=au.mp hx;obtain⟨j,z,e1,e,e2⟩:=inj y hy;refine{?_,au.mpr {y.2,aG e2,rfl}};show bq X.K H y.2 ((y.1.map oS).map V.str);rw[e,vA];exact hb j z y.2 e1 e2
def EU(hA:X.A.handled=none):j6 X (.builtin "sorted") (λxs H Q=>∃a us ys,xs=[.ref a]/\H a=some (.ext (u7 X.prog X.w a us))/\(∀x∈us,bq X.K H x.2 (x.1.map V.str)/\V.ref x.2∈ys)/\(2<=us.length->∀x∈us,x.1≠[])/\us.length<64/\SortedTo X.K H ys (us.map (·.1)) Q):=by
 intro pins s Z H xs us Q I r h;obtain⟨a,J3,ys,rfl,ha,hx,gE,yQ,q⟩:=h;obtain⟨u,rfl,rx⟩:=l9 r;cases rx;obtain⟨⟨o,ep,t,ho,hex,hd,hf,hl,abg⟩,_⟩:=(show du X.prog X.w H s.heap a (.ext (u7 X.prog X.w a J3))from I.br a _ ha);refine jk BM zI Ao (AD _) ?_;unfold Builtin.«sorted»;refine ae (m:=checkCount "sorted" 1 1 _) (af ?_);refine ae (Tb.JM (A:=X.A.in1) (by simpa using hA) {⟨o,ho,hex,hd⟩,by simpa using hf,hl,abg} (by simp;lia) λh' tk d vs pm kp=>?_);have e0:(J3.map λx=>Tb.ent (bG X.prog X.w) (x.1.map Sum.inr,x.2)).toArray.toList.map (·.2)=J3.map λx=>Value.ref x.2:=by simp[tT]
 rw[e0]at pm;obtain⟨oE,pv,rfl⟩:=Ht pm rfl;have lb:(oE.map (·.2)).length=(oE.map (·.1)).length:=by rw[ag,ag]
 have lu:=pv.length_eq;have e1:(oE.map λx=>Value.ref x.2)=(oE.map (·.2)).map Value.ref:=by rw[bW];rfl
 rw[e1];have sc:bU (oE.map (·.1))=bU (J3.map (·.1)):=Bz (pv.map _);refine C9 (s:=s) (I.aa8 (t':=tk) (d':=d) kp) lb (λi z b e2 e3=>?_) (λh2 r hr=>?_) (by rw[ag];lia) λl zs jF hz hm=>?_
 ·rw[aJ]at e2 e3;obtain⟨x,ex,rfl⟩:=a9.mp e2;rw[ex]at e3;cases e3;exact(hx x (pv.mem_iff.mp (aG ex))).1
 ·obtain⟨x,Y4,rfl⟩:=au.mp hr;exact gE (by rw[ag]at h2;lia) x (pv.mem_iff.mp Y4)
 ·rw[sc]at hz;refine q l zs jF hz λz hzm=>?_;obtain⟨b,hb,rfl⟩:=au.mp (hm z hzm);obtain⟨x,Y4,rfl⟩:=au.mp hb;exact(hx x (pv.mem_iff.mp Y4)).2
end
def aa4(hl:(apos.endLine==d0.line)=true:=by rfl)(hb:attributeBase (.Name d pd) "get" X.env (eval (.Name d pd) X.env)=eval (.Name d pd) X.env:=by rfl):M2 X (.Name d pd) "get" apos (.Name x px) (.List [] pl) d0:=⟨hb,rfl,hl,rfl⟩
section
variable{prog:Program}{w:World}{A:Around}{E:Value->Shared->Prop}{s:Shared}{d it:Addr}{o:Obj}{es:Array DictEntry}{ep i:Nat}
def Kw(lo:(d==sysModules)=false)(ho:s.heap.get? d=some o)(hx:o.ExactDict)(hd:o.data=.dict es ep)
  (q:Q (.ref s.heap.objs.size) {s with heap:=s.heap.push {cls:=.type "dict_keyiterator",data:=.fields #[.ref d,.int 0 0,.int es.size 0,.int ep 0]}}):wpAny (model prog w) A (pyIter (.ref d)) Q E s:=by
 have ty:s.TypeIs (.ref d) "dict":={o,ho,hx.1};refine oj ty wt (ba wt ty PySem.F.entry_dict_iter ?_ (PySem.F.args_dict_iter_1 _));unfold Builtin.«dict.__iter__» Builtin.Dict.dictSlotNone;refine ae (ae (ko ty (af (a:=Value.ref d) ?_)));show wpAny _ _ (Builtin.Dict.showsAll d>>=_) _ _ s;unfold Builtin.Dict.showsAll;rw[lo];refine ae (af (ae (fP ho hd (ae (jR ho hd ?_)))));exact ae (bV (af {_,rfl,"dict_keyiterator",_,{_,aD _ rfl,rfl},dU.lookup,q}))
def N6(hit:s.heap.IsKeyIter it d i es.size ep)(ho:s.heap.get? d=some o)(hd:o.data=.dict es ep)(hi:i<es.size)
  (q:∀h',h'.IsKeyIter it d (i+1) es.size ep->Heap.SameBut it s.heap h'->Q (some es[i].key) {s with heap:=h'}):wpAny (model prog w) A (pyNext (.ref it)) Q E s:=by
 obtain⟨oi,Lk,ci,di⟩:=id hit;unfold pyNext;refine ae (dq (wpAny_callSpecial?_slot (name:=Str.ofString "__next__") hit.typeIs dU (ba dU hit.typeIs nR ?_ (nj _))));refine ae (af (ae (ae (ae (gY hit.typeIs (af ?_))))));refine ae (hW Lk di ?_);have own:Builtin.Dict_items.ownsTuple "dict_keyiterator"=false:=by decide
 simp only[own,bT,dP];show wpAny _ _ (if(Value.ref d==Value.none)=true then _ else _) _ _ s;rw[aq (show ¬((Value.ref d==Value.none)=true)from aP)];refine ae (af (ae (fP ho hd ?_)));rw[aq (by simp)];refine ae (af (ae (jR ho hd ?_)));rw[aq (by simp)];refine af ?_;simp only[show ¬((i:Int)<0)from by lia,dP,cI,bo hi];refine ae (ae (gY hit.typeIs (af (ae (wF hit.typeIs ?_)))));show wpAny _ _ (setField (.ref it) 1 (rawInt ((i:Int)+1))>>=_) _ _ s;refine ae (eR Lk di (by simp) ?_);have ZQ:(s.heap.update it (Obj.mapFields (·.setIfInBounds 1 (rawInt ((i:Int)+1))))).IsKeyIter it d (i+1) es.size ep:=
  {_,b8 _ Lk (xr (ny di _)),(Br ..).trans ci,by rw[ny di];simp[rawInt]}
 refine ae (bK (ae (wF (s:={s with heap:=s.heap.update it (Obj.mapFields (·.setIfInBounds 1 (rawInt ((i:Int)+1))))}) ZQ.typeIs ?_)));show wpAny _ _ (pure es[i].key) _ _ _;exact af (af {_,rfl,af (q _ ZQ (bM ..))})
def Fn(hh:A.handled=none)(hit:s.heap.IsKeyIter it d i es.size ep)(ho:s.heap.get? d=some o)(hd:o.data=.dict es ep)(hi:es.size<=i)
  (q:∀h',(∀b x,b≠it->s.heap.get? b=some x->h'.get? b=some x)->Q none {s with heap:=h'}):wpAny (model prog w) A (pyNext (.ref it)) Q E s:=by
 obtain⟨oi,Lk,ci,di⟩:=id hit;unfold pyNext;refine ae (dq (wpAny_callSpecial?_slot (name:=Str.ofString "__next__") hit.typeIs dU (ba dU hit.typeIs nR ?_ (nj _))));refine ae (af (ae (ae (ae (gY hit.typeIs (af ?_))))));refine ae (hW Lk di ?_);have own:Builtin.Dict_items.ownsTuple "dict_keyiterator"=false:=by decide
 simp only[own,bT,dP];show wpAny _ _ (if(Value.ref d==Value.none)=true then _ else _) _ _ s;rw[aq (show ¬((Value.ref d==Value.none)=true)from aP)];refine ae (af (ae (fP ho hd ?_)));rw[aq (by simp)];refine ae (af (ae (jR ho hd ?_)));rw[aq (by simp)];refine af ?_;simp only[show ¬((i:Int)<0)from by lia,dP,cI,j8 hi];refine ae (ae (gY hit.typeIs (af ?_)));show wpAny _ _ (setField (.ref it) 0 .none>>=_) _ _ s;refine ae (eR Lk di (by simp) ?_);refine Tb.A2 (s:=s) (show A.in1.handled=none from hh) λh' e kp aci=>?_;obtain⟨oe,he,ce⟩:=aci;exact ae (fq (T:="StopIteration") (b:=true) ⟨oe,he,ce⟩ jr (af (q _ λb x nb g=>kp b x ((bE _ _ (bX nb)).trans g))))
end
section
variable{X:Cx}{pins:List (Addr×Obj)}{Z:St}{H:Hp}{s:Shared}
def Inv.Ly(I:Inv X pins Z H s)(hd:H d=some (.ext φ))(ho:s.heap.get? d=some o):Inv X pins Z (upd H d (.eO o (.ext φ))) s:=by
 have nd:∀b u,H b=some u->(∀l,u≠ .ext l)->b≠d:=λb u q n z=>by rw[z,hd]at q;exact n φ (bL q).symm
 have gE:∀b,H b=none->b≠d:=λb q z=>by rw[z,hd]at q;cases q
 refine I.un {λb u e _ _ _=>e,λb u e _ _ _=>{u.slots,e},λb u e n _=>by rw[ax (gE b n)];exact n,λb u e _=>⟨u,e⟩,λb xs q=>by rw[ax (nd b _ q λl z=>by cases z)];exact q,λb u v q=>by rw[ax (nd b _ q λl z=>by cases z)];exact q,λb ps q=>{#[],by rw[ax (nd b _ q λl z=>by cases z),q];simp}} λb u g=>?_;by_cases hb:b=d
 ·subst hb;rw[aw]at g;cases g;exact{ho,I.br b _ hd}
 ·rw[ax hb]at g;exact(I.br b u g).iQ (λc v hc q=>q) (λc q=>by rw[ax (nd c _ q λl z=>by cases z)];exact q) λc ys q=>by rw[ax (nd c _ q λl z=>by cases z)];exact q
def Inv.LS(I:Inv X pins Z H s)(hd:H d=some (.eO o u))(hn:∀u v,X.aaf d≠some (.eO u v)):Inv X pins Z (upd H d u) s:=by
 have nd:∀b u,H b=some u->(∀v l,u≠ .eO v l)->b≠d:=λb u q n z=>by rw[z,hd]at q;exact n _ _ (bL q).symm
 have gE:∀b,H b=none->b≠d:=λb q z=>by rw[z,hd]at q;cases q
 refine{I.ok,I.os,I.bare,{I.base.keep,I.base.slot,λb u e n hx=>?_,I.base.there,λb xs q=>?_,λb u v q=>?_,λb ps q=>?_},I.loc,I.cell,?_,λx c e=>?_,λp hp=>?_,λb v g=>?_,I.len}
 ·have z:=I.base.free b u e n hx;rw[ax (gE b z)];exact z
 ·have z:=I.base.kY b xs q;rw[ax (nd b _ z λv l t=>by cases t)];exact z
 ·have z:=I.base.sR b u v q;rw[ax (show b≠d fromλt=>hn u v (by rw[<-t];exact q))];exact z
 ·obtain⟨m,z⟩:=I.base.xB b ps q;exact{m,by rw[ax (nd b _ z λv l t=>by cases t)];exact z}
 ·rw[ax (gE _ I.free)];exact I.free
 ·rw[ax (gE _ (I.nN x c e))];exact I.nN x c e
 ·obtain⟨a1,a2,a3,a4,a5⟩:=I.pin p hp;exact{a1,by rw[ax (gE _ a2)];exact a2,a3,a4,a5}
 ·by_cases hb:b=d
  ·subst hb;rw[aw]at g;cases g;exact((I.br b _ hd).2).iQ (λc v hc q=>q) (λc q=>by rw[ax (nd c _ q λv l z=>by cases z)];exact q) λc ys q=>by rw[ax (nd c _ q λv l z=>by cases z)];exact q
  ·rw[ax hb]at g;exact(I.br b v g).iQ (λc v hc q=>q) (λc q=>by rw[ax (nd c _ q λv l z=>by cases z)];exact q) λc ys q=>by rw[ax (nd c _ q λv l z=>by cases z)];exact q
end
inductive Xr(t:TE)(Z:St)(H:Hp)(Q:VK):Prop
 |mk (d:Addr) (_:(∀u v,H d≠some (.eO u v))) (_:t Z H λv H'=>∃o u,H' d=some (.eO o u)/\Q v (upd H' d u))
def RG(h:PE X e t):PE X e (Xr t):=by intro pins s Z H Q I ht;obtain⟨d,hd,ht⟩:=ht;have h0:=λu v e=>hd u v (I.base.sR d u v e);refine cU (h pins s Z H _ I ht) λv s1 x H1 I1 r1 ⟨o,u,e,q⟩=>{x,_,I1.LS e h0,r1,q}
def ItK(d:Addr)(o:Obj)(u:HO)(kvs:List (V×V)):It:=
 {λi H=>H d=some (.eO o u)/\i<kvs.length,λi H x H'=>H'=H/\∃kv,kvs[i]?=some kv/\x=kv.1,λi H=>H d=some (.eO o u)/\kvs.length<=i}
def Np(o:Obj)(es:Array DictEntry)(ep:Nat)(kvs:List (V×V)):Prop:=o.ExactDict/\o.data=.dict es ep/\Paired (λ(p:V×V)(e:DictEntry)=>RelV p.1 e.key/\RelV p.2 e.val) kvs es.toList
def Xi{K:Frag}(m:Np o es ep kvs):Turn P w K tg (ItK d o u kvs) [it] it (λi h=>h.IsKeyIter it d i es.size ep) where
 mem:=by simp
 obj:=λi h st b hb=>by
  have e:b=it:=by simpa using hb
  subst e;obtain⟨v,e,c,q⟩:=st;exact{v,e,λv z=>by rw[q]at z;cases z}
 keep:=λi h h' st k=>by obtain⟨v,e,r⟩:=st;exact{v,k it (by simp) v e,r}
 item:=by
  intro X hP hw hK hc i pins s Z H E I hf st hg;obtain⟨hd,hi⟩:=hg;have hl:kvs.length=es.size:=by rw[bh m.2.2,aM]
  have ga:=(I.br d _ hd).1;obtain⟨f0,f1,f2,f3,f4,f5⟩:=hf it (by simp);obtain⟨kv,mC⟩:∃kv,kvs[i]?=some kv:={_,ao hi};have PY:i<es.size:=by lia
  obtain⟨e,he,r⟩:=Paired.at' m.2.2 mC;have ee:es[i]=e:=by rw[bB,bo PY]at he;exact bL he
  refine N6 st ga m.2.1 PY λh' ig sb=>?_;have I1:=I.turned (t':=s.toks) (λb o hb e=>(sb.2 b hb).trans e) f0 f1 f3 f4 f5;obtain⟨v,ev,c,q⟩:=id ig;exact{_,rfl,DQ ev c q (by decide) {kv.1,H,I1,by rw[ee];exact r.1,⟨rfl,kv,mC,rfl⟩,ig,λb hb=>(hf b hb).1}}
 done:=by
  intro X hP hw hK hc i pins s Z H E I hf st hg;obtain⟨hd,hi⟩:=hg;have hl:kvs.length=es.size:=by rw[bh m.2.2,aM]
  have ga:=(I.br d _ hd).1;obtain⟨f0,f1,f2,f3,f4,f5⟩:=hf it (by simp);exact Fn (I.ok.hd hc) st ga m.2.1 ∅ λh' eb=>{rfl,I.turned (λb o hb e=>eb b o hb e) f0 f1 f3 f4 f5}
 self:=λ_ _ _ _ _ st h=>xx st h
def Ha(hv:s.heap.IsItemsView v d)(ho:s.heap.get? d=some o)(hd:o.data=.dict es ep)
  (q:Q (.ref s.heap.objs.size) {s with heap:=s.heap.push {cls:=.type "dict_itemiterator",data:=.fields #[.none,.bool false,.ref d,.int 0 0,.int es.size 0,.int ep 0,.none,.none]}}):wpAny (model prog w) A (pyIter (.ref v)) Q E s:=by
 obtain⟨ov,hov,hcv,hdv⟩:=id hv;refine oj hv.typeIs rE (ba rE hv.typeIs PySem.F.entry_dict_items_iter ?_ (PySem.F.args_dict_items_iter_1 _));unfold Builtin.«dict_items.__iter__» Builtin.Dict_items.dictOf Builtin.Dict_items.newIterator;refine ae (af (ae (ae (bF hov hdv rfl (af ?_)))));refine ae (ae (fP ho hd (ae (jR ho hd ?_))));have own:Builtin.Dict_items.ownsTuple "dict_itemiterator"=true:=by decide
 simp only[own,rf];refine bV (af {_,rfl,"dict_itemiterator",_,{_,aD _ rfl,rfl},bQ.lookup,?_}) (by simp only[sizeOk,Builtin.Dict_items.ownedTupleFields,aL,aK,aZ,cN,bP];lia);simpa[rawInt,Builtin.Dict_items.ownedTupleFields]using q
inductive Xs(t:TS)(D:Ends)(Z:St)(H:Hp):Prop
 |mk (d:Addr) (_:(∀u v,H d≠some (.eO u v))) (_:t {D with nx:=λσ' H'=>∃o u,H' d=some (.eO o u)/\D.nx σ' (upd H' d u),rt:=λv H'=>∃o u,H' d=some (.eO o u)/\D.rt v (upd H' d u)} Z H)
def RD{st:Stmt}(h:PS X st t):PS X st (Xs t):=by
 intro pins s Z H D I ht;obtain⟨d,hd,ht⟩:=ht;have h0:=λu v e=>hd u v (I.base.sR d u v e);refine gR (h pins s Z H _ I ht) λf s1 q=>?_;cases f with
 |next=>
  obtain⟨σ',H',J,o,u,e,n⟩:=q;exact{σ',_,J.LS e h0,n}
 |brk=>exact q
 |cont=>exact q
 |ret u=>
  obtain⟨v,σ',H',J,r,o,u',e,n⟩:=q;exact{v,σ',_,J.LS e h0,r,n}
section
variable{d:Addr}{o:Obj}{u:HO}{kvs:List (V×V)}
def Nh(Pv:Nat->List V->Hp->Prop)(hx:kvs.length<sizeLine)(h0:Pv 0 [] H1)(hl:∀i ys H,i<=kvs.length->Pv i ys H->H d=some (.eO o u)/\ys.length<=i)
  (hs:∀(i:Nat)(kv:V×V)(ys:List V)(H:Hp)(N:List V->Hp->Prop),kvs[i]?=some kv->Pv i ys H->(∀gQ H',Pv (i+1) gQ H'->N gQ H')->
   tt (some kv.1::slotsOf fr Z) H λb H4=>if b=true then te (some kv.1::slotsOf fr Z) H4 (λy H5=>N (ys++[y]) H5)else N ys H4)
  (hd:∀ys H,Pv kvs.length ys H->∀l,H l=none->R l ys H):yA (ItK d o u kvs) fr tt te Z H1 R:=by
 refine{λi m ys H=>m=kvs.length -i/\i<=kvs.length/\Pv i ys H,{kvs.length,by simp,aR _,h0},?_};rintro i m ys H ⟨rfl,hi,p⟩;obtain⟨q,hy⟩:=hl i ys H hi p;by_cases bR:i<kvs.length
 ·refine .inr {⟨q,bR⟩,by lia,?_};rintro v H3 ⟨rfl,kv,mC,rfl⟩;exact hs i kv ys H3 (λgQ H'=>∃m',m'<kvs.length -i/\m'=kvs.length -(i+1)/\i+1<=kvs.length/\Pv (i+1) gQ H') mC p λgQ H' p'=>{_,by lia,rfl,bR,p'}
 ·have e:i=kvs.length:=by lia
  subst e;exact .inl {{q,ak _},by lia,hd ys H p}
def mP(r:List Str):PyData:=.tuple (r.map PyData.str)
def tZ(rows:List (List Str)):PyData:=.list (rows.map mP)
def Ee(rows:List (List Str)):Prop:=∀r∈rows,∀z∈r,PyData.strOk z=true
variable{K:Frag}{H:Hp}
def Qo(h:∃a,y=.ref a/\bq K H a (r.map V.str)):Dt K H (mP r) y:=by obtain⟨a,rfl,h⟩:=h;unfold mP;rw[Dt];exact{a,_,rfl,h,DZ r}
def M8:∀{ys:List V}{rows:List (List Str)},eQ K H ys rows->jZ K H (rows.map mP) ys:=by
 intro ys rows h
 induction h with
 |nil=>rw[gM,jZ]
 |cons hr _ ih=>
  rw[aQ,jZ];exact{_,_,rfl,Qo hr,ih}
def LA(h:bw K H p ys)(hr:eQ K H ys rows):Dt K H (tZ rows) (.ref p):=by unfold tZ;rw[Dt];exact{p,ys,rfl,h,M8 hr}
def WD(r t:List Str):PyData.eqv (mP r) (mP t)=decide (r=t):=by unfold mP;rw[PyData.eqv,BW]
theorem BX:∀a b:List (List Str),PyData.eqvAll (a.map mP) (b.map mP)=decide (a=b)
 |[],[]=>by simp[PyData.eqvAll]
 |[],_::_=>by simp[PyData.eqvAll]
 |_::_,[]=>by simp[PyData.eqvAll]
 |a::r,b::t=>by simp only[aQ,PyData.eqvAll,WD,BX r t];by_cases h:a=b<;>by_cases h':r=t<;>simp[h,h']
def SQ(a b:List (List Str)):PyData.eqv (tZ a) (tZ b)=decide (a=b):=by unfold tZ;rw[PyData.eqv,BX]
theorem Ic:∀rows:List (List Str),Ee rows->PyData.canLayAll0 (rows.map mP)=true
 |[],_=>rfl
 |z::r,h=>by have h1:(mP z).canLay0=true:=Cr z (h z aA);have h2:=Ic r λy hy=>h y (az _ hy);simp[PyData.canLayAll0,h1,h2]
theorem D2:∀rows:List (List Str),PyData.depthAll (rows.map mP)<=1
 |[]=>by simp[PyData.depthAll]
 |z::r=>by
  have h1:(mP z).depth=1:=by simp[mP,PyData.depth,yc]
  have:=D2 r;simp[PyData.depthAll,h1];lia
def BA(h:Ee rows):SeqAt.shaped (tZ rows)=true:=by have:=D2 rows;simp[SeqAt.shaped,tZ,PyData.canLay0,PyData.depth,Ic rows h];lia
end
def eQ.keep{K:Frag}(h:eQ K H ys rows)(k:∀a xs,bq K H a xs->bq K H' a xs):eQ K H' ys rows:=by
 induction h with
 |nil=>exact .nil
 |cons hr _ ih=>
  obtain⟨a,e,hr⟩:=hr;exact .cons {a,e,k _ _ hr} ih
inductive NK:Type
 |cb
 |key (k:Key)
 |tup (ks:List NK)
noncomputable instance:DecidableEq NK:=λa b=>Classical.propDecidable (a=b)
section
variable(P:Program)(w:World)
mutual
inductive ki(h:Heap):NK->Value->Prop
 |cb:ki h .cb .none
 |key {k:Key} {v:Value}:(bG P w).is k v=true->ki h (.key k) v
 |tup {ks:List NK} {a:Addr} {o:Obj} {items:Array Value} {n:Nat}:h.get? a=some o->o.cls=.type "tuple"->o.data=.seq items n->kG h ks items.toList->ki h (.tup ks) (.ref a)
inductive kG(h:Heap):List NK->List Value->Prop
 |nil:kG h [] []
 |cons {k:NK} {v:Value} {ks:List NK} {vs:List Value}:ki h k v->kG h ks vs->kG h (k::ks) (v::vs)
end
mutual
def NK.hash:NK->Int
 | .cb=>0xFCA86420
 | .key k=>(bG P w).hash k
 | .tup ks=>reduceHash (Builtin.Tuple.tupleHashOf (NK.hashes ks))
def NK.hashes:List NK->List Int
 |[]=>[]
 |k::ks=>NK.hash k::NK.hashes ks
end
mutual
def NK.draws:NK->Nat
 | .cb=>1
 | .key _=>1
 | .tup ks=>NK.mW ks+1
def NK.mW:List NK->Nat
 |[]=>0
 |k::ks=>NK.draws k+NK.mW ks
end
mutual
def NK.deep:NK->Nat
 | .cb=>0
 | .key _=>0
 | .tup ks=>NK.nO ks+1
def NK.nO:List NK->Nat
 |[]=>0
 |k::ks=>max (NK.deep k) (NK.nO ks)
end
end
section
variable{P:Program}{w:World}{A:Around}{E:Value->Shared->Prop}{s:Shared}
def MS(q:Q 0xFCA86420 {s with toks:=s.toks+1}):wpAny (model P w) A (pyHash .none) Q E s:=by have ty:s.TypeIs .none "NoneType":=rfl;unfold pyHash pyHashByItsType;refine ae (wpAny_cRoomFor_byValue rfl (ae (gz ty iR.lookup ?_)));rw[aq (by rw[beq_builtin_none];exact aP)];refine ae (gz ty iR.lookup ?_);refine ae (wpAny_callSpecialIfBoundUnlessNone?_slot ty iR (ba iR ty PySem.F.entry_NoneType_hash (show wpAny _ _ (do ret (<-mkInt 0xFCA86420)) _ _ s from wpAny_ret_mkInt ?_) (PySem.F.args_NoneType_hash_1 _)));exact af q
def NK.SF(ks:List NK):NK.hash P w (.tup ks)=reduceHash (Builtin.Tuple.tupleHashOf (NK.hashes P w ks)):=by rw[NK.hash]
def P6(hu:A.units<cLine)(ho:s.heap.get? a=some o)(hc:o.cls=.type "tuple")(hd:o.data=.seq items n)(hi:kG P w s.heap ks items.toList)
  (ih:∀(A':Around)(k:NK)(v:Value)(t:Nat)(E':Value->Shared->Prop)(R:Int->Shared->Prop),A'.units<=A.units+4->k∈ks->ki P w s.heap k v->R (NK.hash P w k) {s with toks:=t+NK.draws k}->wpAny (model P w) A' (pyHash v) R E' {s with toks:=t})
  (h:Q (NK.hash P w (.tup ks)) {s with toks:=s.toks+NK.draws (.tup ks)}):wpAny (model P w) A (pyHash (.ref a)) Q E s:=by
 have hT:s.TypeIs (.ref a) "tuple":=⟨o,ho,hc⟩;unfold pyHash pyHashByItsType;refine ae (wpAny_cRoomFor_or (.inr hu) ?_);refine ae (gz hT kj.lookup ?_);rw[aq (by rw[beq_builtin_none];exact aP)];refine ae (gz hT kj.lookup ?_);refine ae (wpAny_callSpecialIfBoundUnlessNone?_slot hT kj (ba kj hT F.entry_tuple_hash ?_ (F.args_tuple_hash_1 _)));show wpAny _ _ (Builtin.Tuple.tupleItemsOf (.ref a)>>=_) _ _ s;refine ae (wpAny_tupleItemsOf ho hd ?_);refine ae ?_;rw[<-nF];refine hU _
  (λrest(b:Array Int) s'=>∃done left,ks=done++left/\kG P w s.heap left rest/\b.toList=NK.hashes P w done/\s'={s with toks:=s.toks+NK.mW done})
  _ ?_ ?_ _ _ {[],ks,rfl,hi,by simp[NK.hashes],by simp[NK.mW]}
 ·rintro x rest b s' ⟨done,left,e,hl,hb,rfl⟩;cases hl with
  |@cons k _ YH _ h1 mV=>
   have e2:NK.hashes P w (done++[k])=NK.hashes P w done++[NK.hash P w k]:=by
    clear e hb
    induction done with
    |nil=>simp[NK.hashes]
    |cons a r Po=>simp only[ie,NK.hashes,Po]
   have e3:NK.mW (done++[k])=NK.mW done+NK.draws k:=by
    clear e hb e2
    induction done with
    |nil=>simp[NK.mW]
    |cons a r Po=>simp only[ie,NK.mW,Po];lia
   refine ae (ih _ k x _ _ _ ?_ (by rw[e];simp) h1 ?_)
   ·show A.units+1<=A.units+4;lia
   ·exact af {done++[k],YH,by rw[e];simp,mV,by simp[hb,e2],by rw[e3,oW]}
 ·rintro b s' ⟨done,left,rfl,hl,hb,rfl⟩;cases hl;rw[cP]at h;show wpAny _ _ (retInt (Builtin.Tuple.tupleHashOf b.toList)) _ _ _;rw[hb];refine wpAny_ret_mkInt ?_;show wpAny _ _ (if(decide (-(2:Int)^63<=Builtin.Tuple.tupleHashOf (NK.hashes P w done))&&decide (Builtin.Tuple.tupleHashOf (NK.hashes P w done)<2^63))=true then _ else _) Q E _;rw[NK.SF,NK.draws]at h;unfold reduceHash at h;by_cases hr:(decide (-(2:Int)^63<=Builtin.Tuple.tupleHashOf (NK.hashes P w done))&&decide (Builtin.Tuple.tupleHashOf (NK.hashes P w done)<2^63))=true
  ·rw[ay hr];rw[ay hr]at h;exact af (by simpa[oW]using h)
  ·rw[aq hr];rw[aq hr]at h;exact ae (fE (af (by simpa[oW]using h)))
mutual
theorem P7:∀(k:NK)(A:Around)(E:Value->Shared->Prop)(s:Shared)(v:Value)(Q:Int->Shared->Prop),A.units+4*NK.deep k<cLine->ki P w s.heap k v->Q (NK.hash P w k) {s with toks:=s.toks+NK.draws k}->wpAny (model P w) A (pyHash v) Q E s
 | .cb,A,E,s,v,Q,hu,r,q=>by cases r;rw[NK.hash,NK.draws]at q;exact MS q
 | .key k,A,E,s,v,Q,hu,r,q=>by
  cases r with
  |key h=>
   rw[NK.hash,NK.draws]at q;exact(bG P w).pyHash h q
 | .tup ks,A,E,s,v,Q,hu,r,q=>by
  cases r with
  |tup ho hc hd hi=>
   rw[NK.deep]at hu;exact P6 ∅ ho hc hd hi (λA' k v t E' R hA hk r q=>IV ks k hk A' E' {s with toks:=t} v R ∅ r q) q
theorem IV:∀(ks:List NK)(k:NK),k∈ks->∀(A:Around)(E:Value->Shared->Prop)(s:Shared)(v:Value)(Q:Int->Shared->Prop),A.units+4*NK.nO ks<cLine->ki P w s.heap k v->Q (NK.hash P w k) {s with toks:=s.toks+NK.draws k}->wpAny (model P w) A (pyHash v) Q E s
 |[],k,h,A,E,s,v,Q,hu,r,q=>by cases h
 |k0::ks,k,h,A,E,s,v,Q,hu,r,q=>by
  rw[NK.nO]at hu;rcases aE.mp h with e|h
  ·rw[e]at r q;exact P7 k0 A E s v Q ∅ r q
  ·exact IV ks k h A E s v Q ∅ r q
end
end
section
variable{P:Program}{w:World}
mutual
theorem KD:∀(k:NK)(n:Nat)(A:Around)(E:Value->Shared->Prop)(s:Shared)(v:Value)(Q:Bool->Shared->Prop),ki P w s.heap k v->NK.deep k<=n->Q true s->wpAny (model P w) A (eqIsQuiet n v) Q E s
 | .cb,n,A,E,s,v,Q,r,_,q=>by cases r;rw[Bm n rfl];exact af q
 | .key k,n,A,E,s,v,Q,r,_,q=>by
  cases r with
  |key h=>
   rw[Bm n ((bG P w).byValue _ _ h)];exact af q
 | .tup ks,0,A,E,s,v,Q,r,hn,q=>by rw[NK.deep]at hn;exact absurd hn ∅
 | .tup ks,n+1,A,E,s,v,Q,r,hn,q=>by
  cases r with
  |@tup _ a o items m ho hc hd hi=>
   rw[NK.deep]at hn;have hT:s.TypeIs (.ref a) "tuple":=⟨o,ho,hc⟩;unfold eqIsQuiet;refine ae (gz hT F.slot_tuple_eq.lookup ?_);show wpAny _ _ (isInstance (.ref a) (.type "tuple")>>=_) _ _ s;refine ae (fq hT isSubtype_tuple_tuple ?_);simp only[jQ,bT,dP];refine ae (bO ho hd ?_);refine ae ?_;show wpAny _ _ (forIn items _ _) _ _ s;rw[<-nF];refine hU _ (λrest r s'=>r.1=none/\s'=s/\∃left,kG P w s.heap left rest/\∀k∈left,k∈ks) _ ?_ ?_ _ _ {rfl,rfl,ks,hi,λ_ h=>h}
   ·rintro v rest r s' ⟨hr,rfl,left,hl,hm⟩;cases hl with
    |@cons k _ YH _ h1 mV=>
     refine ae (Fp ks k (hm k aA) n _ _ _ v _ h1 ∅ ?_);simp only[jQ,bT,dP];exact af {rfl,rfl,YH,mV,λk' IJ=>hm k' (az _ IJ)}
   ·rintro⟨r1,r2⟩ s' ⟨hr,rfl,_⟩;simp only at hr;subst hr;exact af q
theorem Fp:∀(ks:List NK)(k:NK),k∈ks->∀(n:Nat)(A:Around)(E:Value->Shared->Prop)(s:Shared)(v:Value)(Q:Bool->Shared->Prop),ki P w s.heap k v->NK.nO ks<=n->Q true s->wpAny (model P w) A (eqIsQuiet n v) Q E s
 |[],k,h,n,A,E,s,v,Q,r,hn,q=>by cases h
 |k0::ks,k,h,n,A,E,s,v,Q,r,hn,q=>by
  rw[NK.nO]at hn;rcases aE.mp h with e|h
  ·rw[e]at r;exact KD k0 n A E s v Q r ∅ q
  ·exact Fp ks k h n A E s v Q r ∅ q
end
mutual
def NK.toD:NK->PyData
 | .cb=>.none
 | .key (.inl i)=>.int i
 | .key (.inr z)=>.str z
 | .tup ks=>.tuple (NK.lU ks)
def NK.lU:List NK->List PyData
 |[]=>[]
 |k::ks=>NK.toD k::NK.lU ks
end
mutual
theorem Et:∀(k:NK){h:Heap}{v:Value},ki P w h k v->∃as,Reads h v (NK.toD k) as
 | .cb,h,v,r=>by cases r;rw[NK.toD];exact{_,.none}
 | .key (.inl i),h,v,r=>by
  cases r with
  |key q=>
   obtain⟨t,rfl⟩:=(show RelV (.int i) v from A8 (k:=Sum.inl i) q);rw[NK.toD];exact{_,.int i t}
 | .key (.inr z),h,v,r=>by
  cases r with
  |key q=>
   obtain⟨t,rfl⟩:=(show RelV (.str z) v from A8 (k:=Sum.inr z) q);rw[NK.toD];exact{_,.str z t}
 | .tup ks,h,v,r=>by
  cases r with
  |tup ho hc hd hi=>
   obtain⟨as,q⟩:=Hj ks hi;rw[NK.toD];exact{_,.tuple ho hc hd q}
theorem Hj:∀(ks:List NK){h:Heap}{vs:List Value},kG P w h ks vs->∃as,ReadsAll h vs (NK.lU ks) as
 |[],h,vs,r=>by cases r;rw[NK.lU];exact{_,.nil}
 |k::ks,h,vs,r=>by
  cases r with
  |cons r1 r2=>
   obtain⟨as,q1⟩:=Et k r1;obtain⟨bs,q2⟩:=Hj ks r2;rw[NK.lU];exact{_,.cons q1 q2}
end
mutual
theorem Vf:∀(x y:NK),PyData.eqv (NK.toD x) (NK.toD y)=true↔x=y
 | .cb,.cb=>by simp[NK.toD,PyData.eqv]
 | .cb,.key (.inl _)=>by simp[NK.toD,PyData.eqv]
 | .cb,.key (.inr _)=>by simp[NK.toD,PyData.eqv]
 | .cb,.tup _=>by simp[NK.toD,PyData.eqv]
 | .key (.inl _),.cb=>by simp[NK.toD,PyData.eqv]
 | .key (.inl i),.key (.inl j)=>by simp[NK.toD,PyData.eqv]
 | .key (.inl _),.key (.inr _)=>by simp[NK.toD,PyData.eqv]
 | .key (.inl _),.tup _=>by simp[NK.toD,PyData.eqv]
 | .key (.inr _),.cb=>by simp[NK.toD,PyData.eqv]
 | .key (.inr _),.key (.inl _)=>by simp[NK.toD,PyData.eqv]
 | .key (.inr a),.key (.inr b)=>by simp[NK.toD,PyData.eqv]
 | .key (.inr _),.tup _=>by simp[NK.toD,PyData.eqv]
 | .tup _,.cb=>by simp[NK.toD,PyData.eqv]
 | .tup _,.key (.inl _)=>by simp[NK.toD,PyData.eqv]
 | .tup _,.key (.inr _)=>by simp[NK.toD,PyData.eqv]
 | .tup xs,.tup ys=>by rw[NK.toD,NK.toD,PyData.eqv,Qi xs ys];exact{cu NK.tup,λh=>by injection h}
theorem Qi:∀(xs ys:List NK),PyData.eqvAll (NK.lU xs) (NK.lU ys)=true↔xs=ys
 |[],[]=>by simp[NK.lU,PyData.eqvAll]
 |[],_::_=>by simp[NK.lU,PyData.eqvAll]
 |_::_,[]=>by simp[NK.lU,PyData.eqvAll]
 |x::xs,y::ys=>by rw[NK.lU,NK.lU,PyData.eqvAll,cE,Vf x y,Qi xs ys];simp
end
def BN(h:(bG P w).is k (.ref a)=true):False:=by have:=(bG P w).byValue _ _ h;cases this
def Ab(h:(bG P w).is k .none=true):False:=by
 have:=A8 (k:=k) h;cases k with
 |inl i=>obtain⟨t,e⟩:=(show∃t,Value.none=Value.int i t from this);cases e
 |inr z=>obtain⟨t,e⟩:=(show∃t,Value.none=Value.str z t from this);cases e
mutual
theorem UD:∀(x y:NK){h:Heap}{v:Value},ki P w h x v->ki P w h y v->x=y
 | .cb,y,h,v,r1,r2=>by
  cases r1;cases r2 with
  |cb=>rfl
  |key q=>exact(Ab q).elim
 | .key k,y,h,v,r1,r2=>by
  cases r1 with
  |key q=>
   cases r2 with
   |cb=>exact(Ab q).elim
   |key q2=>rw[(bG P w).inj _ _ _ q q2]
   |tup=>exact(BN q).elim
 | .tup ks,y,h,v,r1,r2=>by
  cases r1 with
  |tup ho hc hd hi=>
   cases r2 with
   |key q=>exact(BN q).elim
   |@tup ks2 _ o2 w5 n2 xc pJ hd2 UX=>
    rw[ho]at xc;cases xc;rw[hd]at hd2;injection hd2 with e1 _;subst e1;rw[Pj ks ks2 hi UX]
theorem Pj:∀(xs ys:List NK){h:Heap}{vs:List Value},kG P w h xs vs->kG P w h ys vs->xs=ys
 |[],ys,h,vs,r1,r2=>by cases r1;cases r2;rfl
 |x::xs,ys,h,vs,r1,r2=>by
  cases r1 with
  |cons a b=>
   cases r2 with
   |@cons y _ ys _ c d=>rw[UD x y a c,Pj xs ys b d]
end
mutual
theorem Pd(h h':Heap)(k:∀b o,(∀es ep,o.data≠ .dict es ep)->h.get? b=some o->h'.get? b=some o):∀(x:NK){v:Value},ki P w h x v->ki P w h' x v
 | .cb,v,r=>by cases r;exact .cb
 | .key _,v,r=>by
  cases r with
  |key q=>exact .key q
 | .tup ks,v,r=>by
  cases r with
  |tup ho hc hd hi=>exact .tup (k _ _ (λes ep e=>by rw[hd]at e;cases e) ho) hc hd (K7 h h' k ks hi)
theorem K7(h h':Heap)(k:∀b o,(∀es ep,o.data≠ .dict es ep)->h.get? b=some o->h'.get? b=some o):∀(xs:List NK){vs:List Value},kG P w h xs vs->kG P w h' xs vs
 |[],vs,r=>by cases r;exact .nil
 |x::xs,vs,r=>by
  cases r with
  |cons a b=>exact .cons (Pd h h' k x a) (K7 h h' k xs b)
end
def aaw(P:Program)(w:World)(h:Heap)(k:NK)(a:Addr):Prop:=ki P w h k (.ref a)/\(NK.toD k).canLay0=true/\(NK.toD k).depth<=7/\NK.deep k<=7
noncomputable def mT(P:Program)(w:World):HeapKind P w NK where
 is:=aaw P w
 hash:=NK.hash P w
 draws:=NK.draws
 room:=λA=>A.units+100<cLine
 inj:=λhx hy=>UD _ _ hx.1 hy.1
 keeps:=λx ho hd hs=>{Pd _ _ (λb o' n e=>by refine(hs.2 b ?_).trans e;rintro rfl;rw[ho]at e;cases e;exact n _ _ hd) _ x.1,x.2}
 pyHash:=λhu hk h=>P7 _ _ _ _ _ _ (by have:=hk.2.2.2;lia) hk.1 h
 eqBool:=λ{A E s x y a b Q} hu hx hy h=>by
  obtain⟨as,r1⟩:=Et x hx.1;obtain⟨bs,r2⟩:=Et y hy.1;have e:PyData.eqv (NK.toD x) (NK.toD y)=decide (x=y):=by rw[gN,Vf,mX]
  have:=SeqAt.eqAt_reads _ _ A s _ _ as bs r1 r2 hx.2.1 hy.2.1 (by have:=hx.2.2.1;have:=Nat.min_le_left (NK.toD x).depth (NK.toD y).depth;lia);rw[e]at this;exact this P w E Q h
 quiet:=λhk h=>KD _ 8 _ _ _ _ _ hk.1 (by have:=hk.2.2.2;lia) h
end
def DN(P:Program)(w:World)(d:Addr)(kvs:List (NK×Addr×V)):Heap->Prop:=λh=>(d==sysModules)=false/\∃xs:List (NK×Addr×Value),Paired (λ(p:NK×Addr×V)(q:NK×Addr×Value)=>p.1=q.1/\p.2.1=q.2.1/\RelV p.2.2 q.2.2) kvs xs/\kvs.length<=10000000/\
 ∃o es ep,h.get? d=some o/\o.ExactDict/\o.data=.dict es ep/\es.toList=xs.map (entryOfKey (mT P w))/\(xs.map (·.1)).Nodup
def M9(x:DN P w d kvs h):du P w H h d (.ext (DN P w d kvs)):=
 {x,let⟨_,_,_,_,o,_,_,q,_⟩:=x;⟨o,q⟩,λ_ _ ⟨l,xs,p,n,o,es,ep,q,r⟩ k=>{l,xs,p,n,o,es,ep,k _ q,r}}
mutual
def NV(K:Frag)(H:Hp):NK->V->Prop
 | .cb,v=>v=.cb
 | .key k,v=>v=kV k
 | .tup ks,v=>∃a xs,v=.ref a/\bq K H a xs/\oQ K H ks xs
def oQ(K:Frag)(H:Hp):List NK->List V->Prop
 |[],xs=>xs=[]
 |k::ks,xs=>∃x r,xs=x::r/\NV K H k x/\oQ K H ks r
end
section
variable{X:Cx}{pins:List (Addr×Obj)}{Z:St}{H:Hp}{s:Shared}
mutual
theorem HN(I:Inv X pins Z H s):∀(k:NK)(v:V)(u:Value),NV X.K H k v->RelV v u->ki X.prog X.w s.heap k u
 | .cb,v,u,h,r=>by rw[NV]at h;subst h;cases(show u=Value.none from r);exact .cb
 | .key k,v,u,h,r=>by rw[NV]at h;subst h;exact .key (vJ r)
 | .tup ks,v,u,h,r=>by rw[NV]at h;obtain⟨a,xs,rfl,hq,ha⟩:=h;cases r;obtain⟨aT,rv,⟨o,e,c,n,d⟩,_⟩:=I.tuple hq;exact .tup e c d (by simpa using Fz I ks xs aT ha rv)
theorem Fz(I:Inv X pins Z H s):∀(ks:List NK)(xs:List V)(us:List Value),oQ X.K H ks xs->Vals xs us->kG X.prog X.w s.heap ks us
 |[],xs,us,h,r=>by rw[oQ]at h;subst h;cases r;exact .nil
 |k::ks,xs,us,h,r=>by
  rw[oQ]at h;obtain⟨x,t,rfl,h1,h2⟩:=h;cases r with
  |cons r1 r2=>exact .cons (HN I k x _ h1 r1) (Fz I ks t _ h2 r2)
end
def Vq(k:NK):Prop:=(NK.toD k).canLay0=true/\(NK.toD k).depth<=7/\NK.deep k<=7
end
def iS(K:Frag)(H:Hp)(k:NK)(a:Addr):Prop:=NV K H k (.ref a)/\Vq k
def ff(P:Program)(w:World)(K:Frag)(H:Hp)(a:Addr)(kvs:List (NK×Addr×V)):Prop:=(H a=some (.ext (DN P w a kvs))\/(kvs=[]/\H a=some (.dK [])))/\∀p∈kvs,iS K H p.1 p.2.1
def valN(kvs:List (NK×Addr×V))(k:NK):Option V:=(kvs.find? λp=>decide (p.1=k)).map (·.2.2)
def putN(kvs:List (NK×Addr×V))(k:NK)(a:Addr)(v:V):List (NK×Addr×V):=if(valN kvs k).isSome then kvs.map (λp=>if p.1=k then(p.1,p.2.1,v)else p)else kvs++[(k,a,v)]
def wL(rel:Paired (λ(p:NK×Addr×V)(q:NK×Addr×Value)=>p.1=q.1/\p.2.1=q.2.1/\RelV p.2.2 q.2.2) kvs xs)(k:NK):kF (valN kvs k) ((atKey xs k).map (·.2)):=by
 unfold valN atKey
 induction rel with
 |nil=>exact trivial
 |@cons p q ps qs h _ ih=>
  by_cases c:p.1=k
  ·rw[fW (p:=λp:NK×Addr×V=>decide (p.1=k)) (aY c),fW (p:=λx:NK×Addr×Value=>decide (x.1=k)) (aY (h.1.symm.trans c))];exact h.2.2
  ·rw[fX (p:=λp:NK×Addr×V=>decide (p.1=k)) (λd=>c (bA d)),fX (p:=λx:NK×Addr×Value=>decide (x.1=k)) (λd=>c (h.1.trans (bA d)))];exact ih
section
variable{X:Cx}{pins:List (Addr×Obj)}{Z:St}{H:Hp}{s:Shared}{A:Around}{E:Value->Shared->Prop}{a b:Addr}{kvs:List (NK×Addr×V)}{k:NK}{v:V}
def Inv.Cu(I:Inv X pins Z H s)(h:iS X.K H k b):(mT X.prog X.w).is s.heap k b:={HN I k (.ref b) (.ref b) h.1 rfl,h.2}
def Inv.qx(I:Inv X pins Z H s)(h:ff X.prog X.w X.K H a kvs):(a==sysModules)=false/\∃xs,Paired (λ(p:NK×Addr×V)(q:NK×Addr×Value)=>p.1=q.1/\p.2.1=q.2.1/\RelV p.2.2 q.2.2) kvs xs/\kvs.length<=10000000/\s.heap.DictOfH (mT X.prog X.w) a xs:=by
 obtain⟨h1,h2⟩:=h;have keys:∀{l:List (NK×Addr×V)}{xs:List (NK×Addr×Value)},Paired (λ(p:NK×Addr×V)(q:NK×Addr×Value)=>p.1=q.1/\p.2.1=q.2.1/\RelV p.2.2 q.2.2) l xs->(∀p∈l,iS X.K H p.1 p.2.1)->∀x∈xs,(mT X.prog X.w).is s.heap x.1 x.2.1:=λr=>by
  induction r with
  |nil=>intro _ x hx;cases hx
  |@cons p q ps qs h _ ih=>
   intro hk x hx;rcases aE.mp hx with rfl|hx
   ·rw[<-h.1,<-h.2.1];exact I.Cu (hk p aA)
   ·exact ih (λp hp=>hk p (az _ hp)) x hx
 rcases h1 with h1|⟨rfl,h1⟩
 ·obtain⟨⟨lo,xs,rel,hl,o,es,ep,g,hx,hd,he,nd⟩,_⟩:=(show du X.prog X.w H s.heap a (.ext (DN X.prog X.w a kvs))from I.br a _ h1);exact{lo,xs,rel,hl,o,es,ep,g,hx,hd,he,keys rel h2,nd}
 ·obtain⟨_,lo,vs,rel,o,es,ep,g,hx,hd,_,hp,_⟩:=Bg I.br h1;unfold KV at rel;cases rel;have e0:es.toList=[]:=by have:=hp.length;exact fN.mp this
  exact{lo,[],.nil,aR _,o,es,ep,g,hx,hd,by rw[e0];rfl,λx h=>(by cases h),kJ}
def aap(hu:A.units+101<cLine)(I:Inv X pins Z H s)(h:ff X.prog X.w X.K H a kvs)(hk:iS X.K H k b)(hv:valN kvs k=some v)(q:∀w' s',Inv X pins Z H s'->RelV v w'->Q w' s'):wpAny (model X.prog X.w) A (getItem (.ref a) (.ref b)) Q E s:=by obtain⟨lo,xs,rel,hl,dd⟩:=I.qx h;obtain⟨w',hw,oG⟩:=kF.some_of (by rw[<-hv];exact wL rel k);obtain⟨p,hp,tG⟩:=a9.mp hw;refine ze (show A.units+1+100<cLine by lia) (I.Cu hk) dd hp ?_;rw[tG];exact q w' _ (I.tok _) oG
def SV(hu:A.units+101<cLine)(I:Inv X pins Z H s)(h:ff X.prog X.w X.K H a kvs)(hk:iS X.K H k b)(q:∀s',Inv X pins Z H s'->Q (.bool (!(valN kvs k).isSome)) s'):wpAny (model X.prog X.w) A (compareOp .NotIn (.ref b) (.ref a)) Q E s:=by obtain⟨lo,xs,rel,hl,dd⟩:=I.qx h;refine wpAny_notIn_heap (show A.units+1+100<cLine by lia) (I.Cu hk) lo dd ?_;have e:=(wL rel k).sd;rw[iY]at e;rw[<-e];exact q _ (I.tok _)
def Cf(rel:Paired (λ(p:NK×Addr×V)(q:NK×Addr×Value)=>p.1=q.1/\p.2.1=q.2.1/\RelV p.2.2 q.2.2) kvs xs)(rv:RelV v r):Paired (λ(p:NK×Addr×V)(q:NK×Addr×Value)=>p.1=q.1/\p.2.1=q.2.1/\RelV p.2.2 q.2.2) (putN kvs k b v) (storedH xs k b r):=by
 have e:=(wL rel k).sd;rw[iY]at e;unfold putN storedH;rw[e];split
 next hs=>
  clear e hs
  induction rel with
  |nil=>exact .nil
  |@cons p q ps qs h _ ih=>
   refine .cons ?_ ih;unfold putAt;show(if p.1=k then(p.1,p.2.1,v)else p).1=(if q.1=k then(q.1,q.2.1,r)else q).1/\(if p.1=k then(p.1,p.2.1,v)else p).2.1=(if q.1=k then(q.1,q.2.1,r)else q).2.1/\RelV (if p.1=k then(p.1,p.2.1,v)else p).2.2 (if q.1=k then(q.1,q.2.1,r)else q).2.2;by_cases c:p.1=k
   ·rw[ay c,ay (h.1.symm.trans c)];exact{h.1,h.2.1,rv}
   ·rw[aq c,aq (λd=>c (h.1.trans d))];exact h
 next=>exact wu rel ⟨rfl,rfl,rv⟩
def uC:(putN kvs k b v).length<=kvs.length+1:=by
 unfold putN;split
 ·rw[ag];lia
 ·rw[aK];exact ak _
def aan(hu:A.units+101<cLine)(I:Inv X pins Z H s)(h:ff X.prog X.w X.K H a kvs)(hk:iS X.K H k b)(mB:kvs.length<10000000)(rv:RelV v r)
  (q:∀s',Inv X pins Z (upd H a (.ext (DN X.prog X.w a (putN kvs k b v)))) s'->Q () s'):wpAny (model X.prog X.w) A (setItem (.ref a) (.ref b) r) Q E s:=by
 obtain⟨lo,xs,rel,hl,dd⟩:=I.qx h;have lx:xs.length<=sizeLine:=by rw[<-rel.length,bP];lia
 refine zd (show A.units+1+100<cLine by lia) (I.Cu hk) dd λh' tK hs=>q _ ?_;obtain⟨o,es,ep,g,h2,h3,h4,_,h5⟩:=tK;have lp:=uC (kvs:=kvs) (k:=k) (b:=b) (v:=v);refine rp I ?_ hs ⟨o,g⟩ (M9 {lo,_,Cf rel rv,by lia,o,es,ep,g,h2,h3,h4,h5});rcases h.1 with e|⟨_,e⟩<;>rw[e]<;>exact True.intro
end
inductive VJ(P:Program)(w:World)(K:Frag)(Q:VK)(x:V)(y:V)(H2:Hp):Prop
 |mk a b kvs k v (_:x=.ref a) (_:y=.ref b) (_:ff P w K H2 a kvs) (_:iS K H2 k b) (_:valN kvs k=some v) (_:Q v H2)
def GV(P:Program)(w:World)(K:Frag)(td ty:TE):TE:=λZ H Q=>td Z H λx H1=>ty Z H1 λy H2=>VJ P w K Q x y H2
inductive abP(P:Program)(w:World)(K:Frag)(neg:Bool)(x:V)(y:V)(H:Hp)(Q:VK):Prop
 |mk a b kvs k (_:x=.ref b) (_:y=.ref a) (_:ff P w K H a kvs) (_:iS K H k b) (_:Q (.bl (if neg then !(valN kvs k).isSome else(valN kvs k).isSome)) H)
inductive VQ(P:Program)(w:World)(K:Frag)(D:Ends)(Z:St)(v:V)(x:V)(y:V)(H3:Hp):Prop
 |mk a b kvs k (_:x=.ref a) (_:y=.ref b) (_:ff P w K H3 a kvs) (_:iS K H3 k b) (_:kvs.length<10000000) (_:D.nx Z (upd H3 a (.ext (DN P w a (putN kvs k b v)))))
def XN(P:Program)(w:World)(K:Frag)(td ty tv:TE):TS:=λD Z H=>tv Z H λv H1=>td Z H1 λx H2=>ty Z H2 λy H3=>VQ P w K D Z v x y H3
section
variable{X:Cx}{o i value:Expr}{pos pos':Pos}{td ty tv:TE}
def aaF(I:Inv X pins Z H s)(h:ff X.prog X.w X.K H a kvs):s.TypeIs (.ref a) "dict":=by obtain⟨_,_,_,_,o,_,_,g,hx,_⟩:=I.qx h;exact{o,g,hx.1}
def Hx(hu:X.A.units+101<cLine)(ho:PE X o td)(hi:PE X i ty)(hs:Nm i):PE X (.Subscript o i pos) (GV X.prog X.w X.K td ty):=by intro pins s Z H Q I h;refine Kk PySem.F.slot_dict_getitem.lookup hs (cU (ho pins s Z H _ I h) λu s1 x H1 I1 rx q1=>cU (hi pins s1 Z H1 _ I1 q1) λiv s2 y H2 I2 ry ach=>?_);obtain⟨a,b,kvs,k,v,ex,ey,g,hk,hv,q2⟩:=ach;subst ex ey;obtain rfl:u=Value.ref a:=rx;obtain rfl:iv=Value.ref b:=ry;exact{aaF I2 g,aap hu I2 g hk hv λw' s3 I3 oG=>⟨v,H2,I3,oG,q2⟩}
def Ov(hu:X.A.units+101<cLine):jT X (compareOp .NotIn) (abP X.prog X.w X.K true):=by intro pins s Z H x y v u Q I rx ry h;obtain⟨a,b,kvs,k,rfl,rfl,g,hk,q⟩:=h;cases rx;cases ry;exact SV hu I g hk λs' I'=>{.bl _,H,I',rfl,q}
def Hn(hu:X.A.units+101<cLine)(ho:PE X o td)(hi:PE X i ty)(hv:PE X value tv)(hs:swapsWith value (some (.Subscript o i pos')) pos.line X.env=pure false):
  PS X (.Assign [.Subscript o i pos'] value pos) (XN X.prog X.w X.K td ty tv):=by
 intro pins s Z H D I h;refine v7 (cU (hv pins s Z H _ I h) λr s1 v H1 I1 rv q1=>cU (ho pins s1 Z H1 _ I1 q1) λu s2 x H2 I2 rx q2=>cU (hi pins s2 Z H2 _ I2 q2) λiv s3 y H3 I3 ry acg=>?_) hs;obtain⟨a,b,kvs,k,ex,ey,g,hk,hl,q⟩:=acg;subst ex ey;obtain rfl:u=Value.ref a:=rx;obtain rfl:iv=Value.ref b:=ry;exact aan hu I3 g hk hl rv λs4 I4=>⟨Z,_,I4,q⟩
end
end L2
namespace L2
open PySem PySem.Spec PyProof.Rows
structure adi(X:Cx)(scope:Scope)(x:Str)(fs:List Str)(fr:List Nat):Prop where
 kind:scope.kind=.function
 loc:scope.names.lookup x=some .cell
 names:∀y∈scope.names,y.2=.local->scope.names.lookup y.1=some .local
 one:∃a b,scope.names=a++(x,.cell)::b/\(∀y∈a,y.2≠ .cell)/\∀y∈b,y.2≠ .cell
 free:∀n∈frees scope,X.env.kindOf n=some .cell/\scope.names.lookup n=some .free
 nd:(x::fs).Nodup
 len:fr.length=fs.length
 slots:∀(j:Nat)(y:Str)(k:Nat),fs[j]?=some y->fr[j]?=some k->X.N[k]?=some y/\y∈frees scope
end L2
namespace L2
open PySem PySem.Spec PyProof.Rows vY
section
variable{prog:Program}{w:World}{κ:Type}[DecidableEq κ]{kd:HeapKind prog w κ}{A:Around}{E:Value->Shared->Prop}{s:Shared}
def Df(hu:kd.room A)(oq:kd.is s.heap k a)(hm:s.heap.DictOfH kd d xs)
  (h1:∀p,atKey xs k=some p->Q p.2 {s with toks:=s.toks+kd.draws k})
  (h2:atKey xs k=none->∀h',h'.DictOfH kd d (storedH xs k a v)->Heap.SameBut d s.heap h'->Q v {s with heap:=h',toks:=s.toks+kd.draws k}) (hsz:xs.length<=sizeLine):
  wpAny (model prog w) A (dictSetDefault d (.ref a) v) Q E s:=by
 obtain⟨o,es,ep,ho,hc,hd,he,his,hn⟩:=hm;unfold dictSetDefault
 try with_reducible refine bK ?_
 have lz:=vD he;refine ae (kd.pyHash hu oq (ae (wpAny_dictFind_heap hu oq ho hd he his hn (λDK=>?_) (λj p hj=>?_))))
 ·have nk:=not_mem_keys_of_get DK;have e0:=atKey_none_of_get DK;have e1:=storedH_new e0;refine ae (fE (ae (wpAny_updateDictKeys ho hd (af (h2 e0 _ {_,_,ep+1,b8 _ ho (Obj.isFreed_of_dict (yq hd _)),hc.mapDictKeys _,yq hd _,?_,?_,?_} (bM ..))))))
  ·rw[e1,aH,<-he];simp[entryOfKey]
  ·rw[e1];intro x hx;rcases aS.mp hx with q|q
   ·exact kd.keeps (his x q) ho hd (bM ..)
   ·rw[aC.mp q];exact kd.keeps oq ho hd (bM ..)
  ·rw[e1,aH];refine fQ.mpr {hn,by simp,λx hx y hy e=>?_};have FL:y=k:=by simpa using hy
   exact nk (by rw[<-FL,<-e];exact hx)
 ·refine ae (fP ho hd ?_);rw[PySem.entry_at he j,hj];exact ae (fE (af (h1 p (atKey_of_get hn hj))))
def Bk(kd:HeapKind prog w κ)(d a:Addr)(hd:(d==sysModules)=false)(z:Value):
  MeetsIn prog w (Builtin.«dict.setdefault» {[.ref d,.ref a,z],[]}) (λA R s=>kd.room A.in1/\∃k xs,kd.is s.heap k a/\s.heap.DictOfH kd d xs/\xs.length<=sizeLine/\
   (∀p,atKey xs k=some p->R (.ok (.ret p.2)) {s with toks:=s.toks+kd.draws k})/\
   (atKey xs k=none->∀h',h'.DictOfH kd d (storedH xs k a z)->Heap.SameBut d s.heap h'->R (.ok (.ret z)) {s with heap:=h',toks:=s.toks+kd.draws k})):=
 .of_wp λA R s ⟨hu,k,xs,oq,hm,hz,h1,h2⟩=>by unfold Builtin.«dict.setdefault»;refine ae ?_;unfold Builtin.Dict.keyAndDefault;refine ae (ko hm.typeIs ?_);refine af ?_;show wpAny _ _ (if(d==sysModules)=true then _ else(dictSetDefault d (.ref a) z>>=_)) _ _ s;rw[aq (by rw[hd];exact aP)];exact ae (Df hu oq hm (λp hp=>af {_,rfl,h1 p hp}) (λhn h' m' b'=>af {z,rfl,h2 hn h' m' b'}) hz)
def Wu(hd:(d==sysModules)=false)(ho:s.heap.get? d=some o)(hx:o.ExactDict)(acW:o.data=.dict es ep)(adz:(es.size:Int)<2^63)
  (h:∀t t',Q (.int es.size t) {s with toks:=t'}):wpAny (model prog w) A (call (.builtin "len") [.ref d]) Q E s:=by
 have ty:s.TypeIs (.ref d) "dict":={o,ho,hx.1};refine jk kind_len plain_len entry_len (args_len1 _) ?_;unfold Builtin.«len»;refine ae (af ?_);refine ae (wpAny_callSpecial?_slot ty F.slot_dict_len
  (ba F.slot_dict_len ty F.entry_dict_len ?_ (F.args_dict_len_1 _)))
 show wpAny _ _ (dictSize d>>=_) _ _ s;unfold dictSize;refine ae (ae (fP ho acW (af ?_)));refine ae (wpAny_pendingCount_other hd ?_);refine ae (Bx (af {_,rfl,?_}));refine ae (bK (af ?_));refine ae (lR ?_);rw[jA];rw[aq ∅];rw[aq ∅];exact ae (Bx (af {_,rfl,h _ _}))
end
section
variable{X:Cx}{pins:List (Addr×Obj)}{Z:St}{H:Hp}{s:Shared}{A:Around}{E:Value->Shared->Prop}{a b:Addr}{kvs:List (NK×Addr×V)}{k:NK}{z:V}
def Qs(hu:A.units+101<cLine)(I:Inv X pins Z H s)(h:ff X.prog X.w X.K H a kvs)(hk:iS X.K H k b)(mB:kvs.length<10000000)(rv:RelV z r)
  (q1:∀v w' s',valN kvs k=some v->Inv X pins Z H s'->RelV v w'->Q w' s')
  (q2:valN kvs k=none->∀s',Inv X pins Z (upd H a (.ext (DN X.prog X.w a (putN kvs k b z)))) s'->Q r s'):wpAny (model X.prog X.w) A (call (.builtin "dict.setdefault") [.ref a,.ref b,r]) Q E s:=by
 obtain⟨lo,xs,rel,hl,dd⟩:=I.qx h;have lx:xs.length<=sizeLine:=by rw[<-rel.length,bP];lia
 have e:=wL rel k;refine qy rD dd.typeIs PySem.F.entry_dict_setdefault (PySem.F.args_dict_setdefault_3 _ _ _) (Bk (mT X.prog X.w) a b lo r)
  {show A.units+1+100<cLine by lia,k,xs,I.Cu hk,dd,lx,λp hp=>?_,λhn h' tK hs=>?_}
 ·rw[hp]at e;cases ev:valN kvs k with
  |none=>rw[ev]at e;exact e.elim
  |some v=>rw[ev]at e;exact q1 v _ _ ev (I.tok _) e
 ·rw[hn]at e;cases ev:valN kvs k with
  |some v=>rw[ev]at e;exact e.elim
  |none=>
   obtain⟨o,es,ep,g,x2,x3,x4,_,x5⟩:=tK;have lp:=uC (kvs:=kvs) (k:=k) (b:=b) (v:=z);refine q2 ev _ (rp I ?_ hs ⟨o,g⟩ (M9 {lo,_,Cf rel rv,by lia,o,es,ep,g,x2,x3,x4,x5}));rcases h.1 with e|⟨_,e⟩<;>rw[e]<;>exact True.intro
def WM(hu:A.units+101<cLine)(I:Inv X pins Z H s)(h:ff X.prog X.w X.K H a kvs)(hk:iS X.K H k b)(rv:RelV z r)(q:∀w' s',Inv X pins Z H s'->RelV ((valN kvs k).getD z) w'->Q w' s'):
  wpAny (model X.prog X.w) A (call (.builtin "dict.get") [.ref a,.ref b,r]) Q E s:=by
 obtain⟨lo,xs,rel,hl,dd⟩:=I.qx h;exact qy iJ dd.typeIs oN (og _ _ _) (vm (mT X.prog X.w) a b lo r)
  {show A.units+1+100<cLine by lia,k,xs,I.Cu hk,dd,q _ _ (I.tok _) ((wL rel k).getD rv)}
def Lb(I:Inv X pins Z H s)(h:ff X.prog X.w X.K H a kvs):s.TypeIs (.ref a) "dict"/\∀b,Value.ref a=.ref b->∃ob,s.heap.get? b=some ob/\ob.dict=none:=by obtain⟨lo,xs,rel,hl,dd⟩:=I.qx h;refine{dd.typeIs,λb q=>?_};cases q;obtain⟨ob,_,_,h1,h2,_⟩:=dd;exact{ob,h1,h2.2.1}
def aao(I:Inv X pins Z H s)(h:ff X.prog X.w X.K H a kvs)(q:∀t s',Inv X pins Z H s'->Q (.int kvs.length t) s'):wpAny (model X.prog X.w) A (call (.builtin "len") [.ref a]) Q E s:=by
 obtain⟨lo,xs,rel,hl,o,es,ep,g,hx,hd,he,_⟩:=I.qx h;have l1:es.size=kvs.length:=by rw[vD he,rel.length]
 refine Wu lo g hx hd ∅ λt t'=>?_;rw[l1];exact q t _ (I.tok _)
end
inductive NF(P:Program)(w:World)(K:Frag)(ty:TE)(tz:TE)(Z:St)(Q:VK)(x:V)(H1:Hp):Prop
 |mk a Ig (_:x=.ref a) (_:ff P w K H1 a Ig) (_:ty Z H1 λy H2=>tz Z H2 λz H3=>∃b kvs k,y=.ref b/\ff P w K H3 a kvs/\iS K H3 k b/\kvs.length<10000000/\(∀v,valN kvs k=some v->Q v H3)/\(valN kvs k=none->Q z (upd H3 a (.ext (DN P w a (putN kvs k b z))))))
def Q7(P:Program)(w:World)(K:Frag)(td ty tz:TE):TE:=λZ H Q=>td Z H λx H1=>NF P w K ty tz Z Q x H1
inductive Ra(P:Program)(w:World)(K:Frag)(ty:TE)(tz:TE)(Z:St)(Q:VK)(x:V)(H1:Hp):Prop
 |mk a Ig (_:x=.ref a) (_:ff P w K H1 a Ig) (_:ty Z H1 λy H2=>tz Z H2 λz H3=>∃b kvs k,y=.ref b/\ff P w K H3 a kvs/\iS K H3 k b/\Q ((valN kvs k).getD z) H3)
def Ki(P:Program)(w:World)(K:Frag)(td ty tz:TE):TE:=λZ H Q=>td Z H λx H1=>Ra P w K ty tz Z Q x H1
section
variable{X:Cx}{o e f:Expr}{apos d0:Pos}{td ty tz:TE}
def Mc(hu:X.A.units+101<cLine)(ho:PE X o td)(he:PE X e ty)(hf:PE X f tz)(m:M2 X o "setdefault" apos e f d0):PE X (.Call (.Attribute o "setdefault" apos) [e,f] [] d0) (Q7 X.prog X.w X.K td ty tz):=by intro pins s Z H Q I h;refine tm m.base m.fL m.line g9 rD PySem.F.type_dict_setdefault (cU (ho pins s Z H _ I h) λu s1 x H1 I1 rx acf=>?_);obtain⟨a,Ig,ex,d,q1⟩:=acf;subst ex;obtain rfl:u=Value.ref a:=rx;obtain⟨t1,t2⟩:=Lb I1 d;refine{t1,t2,?_};rw[m.trees];refine iq rfl (lC (fC (cU (he pins s1 Z H1 _ I1 q1) λiv s2 y H2 I2 ry q2=>fC (cU (hf pins s2 Z H2 _ I2 q2) λfv s3 z H3 I3 rz ⟨b,kvs,k,ey,g,hk,hl,k1,k2⟩=>km ?_))));subst ey;obtain rfl:iv=Value.ref b:=ry;exact Qs hu I3 g hk hl rz (λv w' s4 ev I4 r4=>{v,H3,I4,r4,k1 v ev}) λev s4 I4=>{z,_,I4,rz,k2 ev}
def Fu(hu:X.A.units+101<cLine)(ho:PE X o td)(he:PE X e ty)(hf:PE X f tz)(m:M2 X o "get" apos e f d0):PE X (.Call (.Attribute o "get" apos) [e,f] [] d0) (Ki X.prog X.w X.K td ty tz):=by intro pins s Z H Q I h;refine tm m.base m.fL m.line g9 iJ xp (cU (ho pins s Z H _ I h) λu s1 x H1 I1 rx ace=>?_);obtain⟨a,Ig,ex,d,q1⟩:=ace;subst ex;obtain rfl:u=Value.ref a:=rx;obtain⟨t1,t2⟩:=Lb I1 d;refine{t1,t2,?_};rw[m.trees];refine iq rfl (lC (fC (cU (he pins s1 Z H1 _ I1 q1) λiv s2 y H2 I2 ry q2=>fC (cU (hf pins s2 Z H2 _ I2 q2) λfv s3 z H3 I3 rz ⟨b,kvs,k,ey,g,hk,k1⟩=>km ?_))));subst ey;obtain rfl:iv=Value.ref b:=ry;exact WM hu I3 g hk rz λw' s4 I4 r4=>⟨_,H3,I4,r4,k1⟩
def QI:j6 X (.builtin "len") (λxs H Q=>∃a kvs,xs=[V.ref a]/\ff X.prog X.w X.K H a kvs/\Q (.int kvs.length) H):=by intro pins s Z H xs us Q I r h;obtain⟨a,kvs,rfl,ha,q⟩:=h;obtain⟨u,rfl,ru⟩:=l9 r;cases ru;exact aao I ha λt s' I'=>{.int kvs.length,H,I',⟨t,rfl⟩,q}
inductive WA(P:Program)(w:World)(K:Frag)(R:It->Hp->Prop)(x:V)(H1:Hp):Prop
 |mk d u kvs (_:x=.ref d) (_:H1 d=some u) (_:ff P w K H1 d kvs) (_:∀o,R (ItK d o u (kvs.map λp=>(.ref p.2.1,p.2.2))) (upd H1 d (.eO o u)))
def YZ(P:Program)(w:World)(K:Frag)(tl:TE):TI:=λZ H R=>tl Z H λx H1=>WA P w K R x H1
def RF(hl:PE X l tl):PI X tg l (YZ X.prog X.w X.K tl):=by
 intro pins s Z H R I h;refine cU (hl pins s Z H _ I h) λv s1 x H1 I1 r1 q1=>?_;obtain⟨d,u,kvs,e,hd,hv,q⟩:=q1;subst e;cases r1;obtain⟨lo,xs,rel,_,o,es,ep,ga,hx,ZX,he,_⟩:=I1.qx hv;have ents:∀{l:List (NK×Addr×V)}{xs:List (NK×Addr×Value)},Paired (λ(p:NK×Addr×V)(q:NK×Addr×Value)=>p.1=q.1/\p.2.1=q.2.1/\RelV p.2.2 q.2.2) l xs->Paired (λ(p:V×V)(e:DictEntry)=>RelV p.1 e.key/\RelV p.2 e.val) (l.map λp=>(V.ref p.2.1,p.2.2)) (xs.map (entryOfKey (mT X.prog X.w))):=λr=>by
  induction r with
  |nil=>exact .nil
  |@cons p q ps qs h _ ih=>exact .cons {by show Value.ref q.2.1=Value.ref p.2.1;rw[h.2.1],h.2.2} ih
 have m:Np o es ep (kvs.map λp=>(V.ref p.2.1,p.2.2)):={hx,ZX,by rw[he];exact ents rel};have I2:Inv X pins Z (upd H1 d (.eO o u)) s1:=by
  rcases hv.1 with e|⟨_,e⟩
  ·rw[hd]at e;cases e;exact I1.Ly hd ga
  ·rw[hd]at e;cases e;exact I1.freeze hd ga
 refine Kw lo ga m.1 m.2.1 ?_;refine{s1.heap.objs.size,[s1.heap.objs.size],_,_,_,rfl,I2.kept λb o e=>ah _ e,Xi m,{_,aD _ rfl,rfl,rfl},λb hb=>?_,q o};have e:b=s1.heap.objs.size:=by simpa using hb
 subst e;exact I2.uV (ak _) (I2.br.fresh (ak _))
def oR(n:Nat)(k:NK):Prop:=(NK.toD k).canLay0=true/\(NK.toD k).depth<=n/\NK.deep k<=n
def good_str(h:PyData.strOk z=true):oR n (.key (.inr z)):={by simp[NK.toD,PyData.canLay0,h],by simp[NK.toD,PyData.depth],by simp[NK.deep]}
theorem xZ:∀{ks:List NK},(∀k∈ks,oR n k)->PyData.canLayAll0 (NK.lU ks)=true/\PyData.depthAll (NK.lU ks)<=n/\NK.nO ks<=n
 |[],_=>{by simp[NK.lU,PyData.canLayAll0],by simp[NK.lU,PyData.depthAll],by simp[NK.nO]}
 |k::ks,h=>by
  obtain⟨a1,a2,a3⟩:=h k aA;obtain⟨b1,b2,b3⟩:=xZ λk hk=>h k (az _ hk);refine{by simp[NK.lU,PyData.canLayAll0,a1,b1],?_,?_}
  ·simp only[NK.lU,PyData.depthAll];lia
  ·simp only[NK.nO];lia
def Cz(h:∀k∈ks,oR n k):oR (n+1) (.tup ks):=by obtain⟨b1,b2,b3⟩:=xZ h;refine{by simp only[NK.toD,PyData.canLay0];exact b1,by simp only[NK.toD,PyData.depth];lia,by simp only[NK.deep];lia}
def oR.good(h:oR n k)(hn:n<=7):Vq k:={h.1,aF h.2.1 hn,aF h.2.2 hn}
def dH(zs:List Str):NK:=.tup (zs.map λz=>.key (.inr z))
def wR(h:dH xs=dH ys):xs=ys:=by unfold dH at h;injection h with h;exact List.map_inj_right (λa b e=>by injection e with e;injection e)|>.mp h
def CA(h:∀z∈zs,PyData.strOk z=true):oR 1 (dH zs):=Cz λk hk=>by obtain⟨z,hz,rfl⟩:=au.mp hk;exact good_str (h z hz)
theorem HL{K:Frag}:∀zs:List Str,oQ K H (zs.map λz=>NK.key (.inr z)) (zs.map V.str)
 |[]=>by rw[gM,oQ];rfl
 |z::r=>by rw[aQ,oQ];exact{_,_,rfl,by rw[NV];rfl,HL r}
def HM{K:Frag}(h:bq K H a (zs.map V.str)):NV K H (dH zs) (.ref a):=by unfold dH;rw[NV];exact{a,_,rfl,h,HL zs}
def uO{K:Frag}(h:bq K H a (zs.map V.str))(hz:∀z∈zs,PyData.strOk z=true):iS K H (dH zs) a:={HM h,(CA hz).good (by decide)}
def DB{K:Frag}(h:NV K H (dH zs) (.ref a)):bq K H a (zs.map V.str):=by
 have all:∀{zs:List Str}{xs:List V},oQ K H (zs.map λz=>NK.key (.inr z)) xs->xs=zs.map V.str:=by
  intro zs
  induction zs with
  |nil=>intro xs h;rw[gM,oQ]at h;exact h
  |cons z r ih=>
   intro xs h;rw[aQ,oQ]at h;obtain⟨x,t,rfl,h1,h2⟩:=h;rw[NV]at h1;rw[h1,ih h2];rfl
 unfold dH at h;rw[NV]at h;obtain⟨b,xs,e,hq,h⟩:=h;cases e;rw[<-all h];exact hq
def kU(e:p.1=k):valN (p::r) k=some p.2.2:=by unfold valN;rw[fW (p:=λp:NK×Addr×V=>decide (p.1=k)) (aY e)];rfl
def kW(e:¬p.1=k):valN (p::r) k=valN r k:=by unfold valN;rw[fX (p:=λp:NK×Addr×V=>decide (p.1=k)) (λq=>e (bA q))]
theorem GI:∀kvs:List (NK×Addr×V),valN (kvs.map λp=>if p.1=k then(p.1,p.2.1,v)else p) j=(valN kvs j).map λx=>if j=k then v else x
 |[]=>rfl
 |p::r=>by
  have ih:=GI (k:=k) (j:=j) (v:=v) r;rw[aQ];by_cases h:p.1=k
  ·rw[ay h];by_cases e:p.1=j
   ·rw[kU (p:=(p.1,p.2.1,v)) e,kU e,dM,ay (e.symm.trans h)]
   ·rw[kW (p:=(p.1,p.2.1,v)) e,kW e,ih]
  ·rw[aq h];by_cases e:p.1=j
   ·rw[kU e,kU e,dM,aq (λz=>h (e.trans z))]
   ·rw[kW e,kW e,ih]
theorem E8:∀kvs:List (NK×Addr×V),valN kvs k=none->valN (kvs++[(k,a,v)]) j=if j=k then some v else valN kvs j
 |[],_=>by
  by_cases e:k=j
  ·rw[ay e.symm];exact kU (p:=(k,a,v)) e
  ·rw[aq (λz=>e z.symm)];exact kW (p:=(k,a,v)) e
 |p::r,hn=>by
  rw[ie];have hk:¬p.1=k:=λz=>by rw[kU z]at hn;cases hn
  rw[kW hk]at hn;have ih:=E8 (j:=j) (a:=a) (v:=v) r hn;by_cases e:p.1=j
  ·rw[kU e,kU e,aq (λz=>hk (e.trans z))]
  ·rw[kW e,kW e,ih]
def pz:valN (putN kvs k a v) j=if j=k then some v else valN kvs j:=by
 unfold putN;split
 ·next hs=>
  rw[GI];by_cases c:j=k
  ·obtain⟨x,hx⟩:=jw.mp hs;rw[ay c,c,hx,dM,ay rfl]
  ·rw[aq c];cases valN kvs j with
   |none=>rfl
   |some x=>rw[dM,aq c]
 ·next hs=>
  refine E8 kvs ?_;cases e:valN kvs k with
  |none=>rfl
  |some x=>rw[e]at hs;exact absurd rfl hs
def HY(h:p∈putN kvs k a v):(∃q∈kvs,p.1=q.1/\p.2.1=q.2.1)\/(p.1=k/\p.2.1=a):=by
 unfold putN at h;split at h
 ·obtain⟨q,hq,rfl⟩:=au.mp h;refine .inl {q,hq,?_};split<;>exact⟨rfl,rfl⟩
 ·rcases aS.mp h with h|h
  ·exact .inl ⟨p,h,rfl,rfl⟩
  ·rw[aC.mp h];exact .inr ⟨rfl,rfl⟩
end
end L2
namespace L2
open PySem PySem.Spec PyProof.Rows PySem.W vY
section
variable{X:Cx}{pins:List (Addr×Obj)}{Z:St}{H:Hp}{s:Shared}
def Inv.Jj(I:Inv X pins Z H s)(hn:H D=none)(new:du X.prog X.w (upd H D o) s.heap D o)
  (h1:X.aab.heap.objs.size<=D) (hL:D≠X.env.locals) (h2:∀x c,X.env.cells.lookup x=some c->c≠D) (h3:∀p∈X.pn++pins,p.1≠D):Inv X pins Z (upd H D o) s:=by
 have nD:∀b u,H b=some u->b≠D:=λb u q z=>by rw[z,hn]at q;cases q
 have br:jo X.prog X.w (upd H D o) s.heap:=λb u q=>by
  by_cases hb:b=D
  ·subst hb;rw[aw]at q;cases q;exact new
  ·rw[ax hb]at q;exact(I.br b u q).iQ (λ_ _ _ z=>z) (λc z=>by rw[ax (nD c _ z)];exact z) λc xs z=>by rw[ax (nD c _ z)];exact z
 have J:=I.step (t':=s.toks) (d':=s.drawn) (ch:=[D])
  (λb hb=>by
   have e':b=D:=by simpa using hb
   subst e';exact{.inr h1,hL,h2,h3})
  (λb o _ _ _ q _=>q) (λb o _ _ _ q _=>{o.slots,q}) (λb o hc _ n=>by rw[ax λz=>hc (by simp[z])];exact n) (λb o _ q=>⟨o,q⟩)
  (λb xs q=>by rw[ax (nD b _ q)];exact q) (λb o u q=>by rw[ax (nD b _ q)];exact q) (λb ps q=>{#[],by rw[ax (nD b _ q),q];simp}) (λm hm=>hm) br I.bare
 exact J
def tR(r d:Addr):Heap->Prop:=λh=>h.IsItemsView r d
end
def YQ(x:tR r d h):du P w H h r (.ext (tR r d)):=
 {x,let⟨o,q,_⟩:=x;⟨o,q⟩,λ_ _ ⟨o,q,z⟩ k=>{o,k _ q,z}}
section
variable{X:Cx}
def qE(P:Program)(w:World)(K:Frag)(mg:Str->Option Value)(base:Heap)(C:Addr)(k:Nat)(m:Str)(ps:List Str)(sp:Sp):Prop:=
 ∃f fd,c6 P w K mg base fD k f fd ps sp/\Meth K C m f/\Binds K fd ps []
def KZ(c:A0 X.K C)(D:qE X.prog X.w X.K X.mg X.base C k m ps sp)(hr:gJ j X.A)(ho:PE X o ta)(ha:PA X (e::es) t)(hk:k<=j:=by decide)
  (gD:starEach (e::es) X.env=(false,eval e X.env)::starEach es X.env:=by rfl) (qu:(backTo pos (starEach es X.env)).any (·.1)=false:=by rfl)
  (ht:eval (.Call (.Attribute o m apos) (e::es) [] pos) X.env=(do
   let ov<-eval o X.env
   standAt apos.atName
   let(f,first)<-holding [ov] (getMethod ov m pl)
   callWith pos f first (backTo pos (starEach (e::es) X.env)) (backToKw pos (keywordEach [] X.env))):=by rfl):
  PE X (.Call (.Attribute o m apos) (e::es) [] pos) (TF C m sp [] E0 ta t):=by
 obtain⟨f,fd,F,me,b⟩:=D;exact V8 ho c me F (hr.mono hk) b .nil Me ha gD qu ht
def vT(hr:gJ k A):A.units+101<cLine:=by have:=hr.un;lia
theorem iF{α:Type}[DecidableEq α]:∀{l m:List α},l.Nodup->(∀x∈l,x∈m)->l.length<=m.length
 |[],m,_,_=>aR _
 |x::l,m,h,s=>by obtain⟨h1,h2⟩:=cD.mp h;have hx:=s x aA;have:=iF h2 λy hy=>(List.mem_erase_of_ne (show y≠x fromλe=>h1 (by rw[<-e];exact hy))).mpr (s y (az _ hy));rw[List.length_erase_of_mem hx]at this;have hp:=List.length_pos_of_mem hx;rw[aZ];lia
end
end L2
namespace L2
open PySem PySem.Spec PyProof.Rows
end L2
namespace AskP
section
variable{α:Type}[DecidableEq α]
abbrev Rw(α:Type):=List α
abbrev pR(α:Type):=α×List α
def kM(xs vs:List α)(t:α):α:=if t∈xs then vs.getD (xs.idxOf t) t else t
def image(xs vs ts:List α):List α:=ts.map (kM xs vs)
def pb(m:List (Rw α×Int))(r:Rw α)(c:Int):List (Rw α×Int):=if r∈m.map (·.1)then m.map (λx=>if x.1=r then(x.1,x.2+c)else x)else m++[(r,c)]
def dj(l:List (Rw α×Int))(xs ts:List α):List (Rw α×Int):=l.foldl (λm x=>pb m (image xs x.1 ts) x.2) []
def mx(r ts:List α):Bool:=decide (r.length=ts.length)&&(ts.zip r).all λx=>decide (r[ts.idxOf x.1]?=some x.2)
def atT(r ts:List α)(t:α):α:=r.getD (ts.idxOf t) t
def fo(rows:List (Rw α))(ts known fresh:List α)(key:Rw α):List (Rw α):=(rows.filter λr=>mx r ts&&decide (known.map (atT r ts)=key)).map λr=>fresh.map (atT r ts)
def longer(maps:List (Rw α×Int))(rows:List (Rw α))(ts kept known fresh:List α):List (Rw α×Int):=maps.flatMap λx=>(fo rows ts known fresh (image kept x.1 known)).map λt=>(x.1++t,x.2)
def QL{r v:Rw α}{c:Int}:v∈(pb m r c).map (·.1)↔v∈m.map (·.1)\/v=r:=by
 unfold pb;split
 ·next h=>
  have e:(m.map λx=>if x.1=r then(x.1,x.2+c)else x).map (·.1)=m.map (·.1):=by rw[bW];refine bz λx _=>?_;show(if x.1=r then(x.1,x.2+c)else x).1=x.1;split<;>rfl
  rw[e];exact{.inl,λz=>z.elim id λz=>z▸h}
 ·rw[aH,aS,sE,aC]
def Ec{r:Rw α}{c:Int}(h:(m.map (·.1)).Nodup):((pb m r c).map (·.1)).Nodup:=by
 unfold pb;split
 ·have e:(m.map λx=>if x.1=r then(x.1,x.2+c)else x).map (·.1)=m.map (·.1):=by rw[bW];refine bz λx _=>?_;show(if x.1=r then(x.1,x.2+c)else x).1=x.1;split<;>rfl
  rw[e];exact h
 ·next q=>
  rw[aH,sE];exact fQ.mpr {h,fM _ _,λa ha b hb=>by rw[aC.mp hb];exactλz=>q (by rw[<-show a=r from z];exact ha)}
def sM{xs ts:List α}{v:Rw α}:v∈(dj l xs ts).map (·.1)↔∃x∈l,v=image xs x.1 ts:=by
 unfold dj
 suffices H:∀m:List (Rw α×Int),v∈(l.foldl (λm x=>pb m (image xs x.1 ts) x.2) m).map (·.1)↔v∈m.map (·.1)\/∃x∈l,v=image xs x.1 ts by
  rw[H []];exact{λh=>h.elim (λz=>by cases z) id,.inr}
 induction l with
 |nil=>intro m;exact{.inl,λh=>h.elim id λ⟨x,hx,_⟩=>by cases hx}
 |cons x l ih=>
  intro m;rw[iO,ih,QL];constructor
  ·rintro((h|h)|⟨y,hy,h⟩)
   ·exact .inl h
   ·exact .inr ⟨x,aA,h⟩
   ·exact .inr {y,az _ hy,h}
  ·rintro(h|⟨y,hy,h⟩)
   ·exact .inl (.inl h)
   ·rcases aE.mp hy with rfl|hy
    ·exact .inl (.inr h)
    ·exact .inr ⟨y,hy,h⟩
def kC{xs ts:List α}:((dj l xs ts).map (·.1)).Nodup:=by
 unfold dj
 suffices H:∀m:List (Rw α×Int),(m.map (·.1)).Nodup->((l.foldl (λm x=>pb m (image xs x.1 ts) x.2) m).map (·.1)).Nodup from H [] .nil
 induction l with
 |nil=>intro m h;exact h
 |cons x l ih=>intro m h;exact ih _ (Ec h)
def Wz{g:α->α}{t:α}(h:t∈xs):kM xs (xs.map g) t=g t:=by unfold kM;have:=cz h;rw[ay h,bY,aJ,ao this,jV];rfl
def gW{g:α->α}(h:∀t∈ts,t∉xs->g t=t):image xs (xs.map g) ts=ts.map g:=by
 refine bz λt ht=>?_;by_cases c:t∈xs
 ·exact Wz c
 ·unfold kM;rw[aq c,h t ht c]
def Pf{g:α->α}:mx (ts.map g) ts=true:=by
 unfold mx;rw[ag,aY rfl,jP,dA];intro x hx;obtain⟨i,hi,e⟩:=dN.mp hx;rw[vd,k9]at e;have m:x.1∈ts:=by rw[<-e];exact gg _
 have:=cz m;refine aY ?_;rw[aJ,ao this,jV,dM,<-e]
def LL{g:α->α}{t:α}(h:t∈ts):atT (ts.map g) ts t=g t:=by unfold atT;have:=cz h;rw[bY,aJ,ao this,jV];rfl
def ED{r ts:List α}(h:mx r ts=true):ts.map (atT r ts)=r:=by unfold mx at h;rw[cE,dA]at h;have hl:=bA h.1;refine pk (by rw[ag,hl]) λi h1 h2=>?_;rw[k9];have q:=bA (h.2 (ts[i]'(by rw[<-hl];exact h2),r[i]) (dN.mpr {i,by rw[qF];lia,by rw[vd]}));unfold atT;rw[bY,q];rfl
def iA(un:α->Bool)(db:α->List (Rw α))(S:List (pR α))(g:α->α):Prop:=(∀t,un t=false->g t=t)/\∀a∈S,a.2.map g∈db a.1
def Kp(un:α->Bool)(db:α->List (Rw α))(S:List (pR α))(kept:List α)(maps:List (Rw α×Int)):Prop:=∀v,v∈maps.map (·.1)↔∃g,iA un db S g/\v=kept.map g
def Kf{un:α->Bool}{db:α->List (Rw α)}{S:List (pR α)}{maps:List (Rw α×Int)}{a:pR α}(h:Kp un db S kept maps)
  (hf:∀t,t∈fresh↔t∈a.2/\un t=true/\t∉kept) (hk:known=a.2.filter (λt=>decide (t∉fresh))) (hu:∀t∈kept,un t=true) (hs:∀b∈S,∀t∈b.2,t∈a.2->un t=true->t∈kept) (h':∀t∈kept',t∈kept++fresh):
  Kp un db (a::S) kept' (dj (longer maps (db a.1) a.2 kept known fresh) (kept++fresh) kept'):=by
 have kn:∀t,t∈known↔t∈a.2/\t∉fresh:=λt=>by rw[hk,bJ,eW]
 have key:∀g:α->α,(∀t,un t=false->g t=t)->image kept (kept.map g) known=known.map g:=λg hg=>gW λt ht c=>by
  have⟨z1,z2⟩:=(kn t).mp ht;cases e:un t with
  |false=>exact hg t e
  |true=>exact absurd ((hf t).mpr ⟨z1,e,c⟩) z2
 intro v;rw[sM];constructor
 ·rintro⟨x,hx,rfl⟩;unfold longer at hx;obtain⟨y,hy,hx⟩:=dy.mp hx;obtain⟨tl,ht,rfl⟩:=au.mp hx;unfold fo at ht;obtain⟨r,hr,rfl⟩:=au.mp ht;obtain⟨hr,hc⟩:=bJ.mp hr;rw[cE,eW]at hc;obtain⟨g,hg,eg⟩:=(h y.1).mp (au.mpr ⟨y,hy,rfl⟩);rw[eg,key g hg.1]at hc
  let g2:α->α:=λt=>if t∈fresh then atT r a.2 t else g t
  have e1:kept.map g=kept.map g2:=bz λt ht=>by show g t=if t∈fresh then _ else g t;rw[aq λz=>((hf t).mp z).2.2 ht]
  have e2:fresh.map (atT r a.2)=fresh.map g2:=bz λt ht=>by show _=if t∈fresh then _ else g t;rw[ay ht]
  have e3:a.2.map g2=r:=by
   conv=>rhs;rw[<-ED hc.1]
   refine bz λt ht=>?_;show(if t∈fresh then atT r a.2 t else g t)=_;by_cases c:t∈fresh
   ·rw[ay c]
   ·rw[aq c];exact(oy.mp hc.2 t ((kn t).mpr ⟨ht,c⟩)).symm
  refine{g2,{λt ht=>?_,λb hb=>?_},?_}
  ·show(if t∈fresh then atT r a.2 t else g t)=t;rw[aq λz=>by rw[((hf t).mp z).2.1]at ht;cases ht];exact hg.1 t ht
  ·rcases aE.mp hb with rfl|hb
   ·rw[e3];exact hr
   ·have:b.2.map g2=b.2.map g:=bz λt ht=>by show(if t∈fresh then _ else g t)=g t;rw[aq λz=>((hf t).mp z).2.2 (hs b hb t ht ((hf t).mp z).1 ((hf t).mp z).2.1)]
    rw[this];exact hg.2 b hb
  ·rw[eg,e1,e2,<-aH];exact gW λt ht c=>absurd (h' t ht) c
 ·rintro⟨g,hg,rfl⟩;have hS:iA un db S g:={hg.1,λb hb=>hg.2 b (az _ hb)};obtain⟨y,hy,ey⟩:=au.mp ((h (kept.map g)).mpr ⟨g,hS,rfl⟩);refine{(y.1++fresh.map g,y.2),dy.mpr {y,hy,au.mpr {fresh.map g,au.mpr {a.2.map g,bJ.mpr {hg.2 a aA,?_},?_},rfl}},?_}
  ·rw[Pf,jP,ey,key g hg.1];exact aY (bz λt ht=>LL ((kn t).mp ht).1)
  ·exact bz λt ht=>LL ((hf t).mp ht).1
  ·rw[ey,<-aH];exact(gW λt ht c=>absurd (h' t ht) c).symm
end
end AskP
namespace AskP
section
variable{α:Type}[DecidableEq α]
def fits(un:α->Bool)(db:α->List (Rw α))(atoms:List (pR α))(known v:List α):Bool:=atoms.all λa=>!decide (a.2.filter (λt=>un t&&decide (t∉known))=[])||decide (image known v a.2∈db a.1)
def I0{un:α->Bool}{atoms:List (pR α)}{known v:List α}:fits un db atoms known v=true↔∀a∈atoms,(∀t∈a.2,un t=true->t∈known)->image known v a.2∈db a.1:=by
 unfold fits;rw[dA];refine eP λa=>eP λ_=>?_;have e:(a.2.filter (λt=>un t&&decide (t∉known))=[])↔∀t∈a.2,un t=true->t∈known:=by rw[List.filter_eq_nil_iff];refine eP λt=>eP λ_=>?_;rw[cE,eW];exact{λh u=>uj λz=>h ⟨u,z⟩,λh z=>z.2 (h z.1)}
 rw[Bool.or_eq_true,Bool.not_eq_true',decide_eq_false_iff_not,eW,e];exact{λh q=>h.elim (λz=>absurd q z) id,λh=>Decidable.byCases (λq=>.inr (h q)) .inl}
def ku(un:α->Bool)(db:α->List (Rw α))(atoms:List (pR α))(us vals:List α):Nat->List (List α)
 |0=>[[]].filter (fits un db atoms (us.take 0))
 |p+1=>((ku un db atoms us vals p).flatMap λv=>vals.map λx=>v++[x]).filter (fits un db atoms (us.take (p+1)))
def Pm{us v:List α}(h:t∈us.take p)(hv:v.length=p)(hp:p<=us.length)(x:α):kM (us.take (p+1)) (v++[x]) t=kM (us.take p) v t:=by
 have l:=cz h;have m:=(sV us (eT p)) h;have e:(us.take (p+1)).idxOf t=(us.take p).idxOf t:=by
  conv=>lhs;rw[<-cW p (us.take (p+1)),List.take_take,gL (eT p)]
  rw[List.idxOf_append,ay h]
 unfold kM;rw[ay h,ay m,e,bY,bY,dk];rw[aU]at l;lia
theorem uK(hu:∀t∈us,un t=true):∀(p:Nat)(v:List α),p<=us.length->(v∈ku un db atoms us vals p↔v.length=p/\(∀x∈v,x∈vals)/\∀a∈atoms,(∀t∈a.2,un t=true->t∈us.take p)->image (us.take p) v a.2∈db a.1)
 |0,v,_=>by show v∈[[]].filter _↔_;rw[bJ,aC,I0];exact{λ⟨h1,h2⟩=>{by rw[h1];rfl,(λx hx=>by rw[h1]at hx;cases hx),h2},λ⟨h1,_,h2⟩=>{qJ h1,h2}}
 |p+1,v,hp=>by
  show v∈(((ku un db atoms us vals p).flatMap λv=>vals.map λx=>v++[x]).filter _)↔_;rw[bJ,I0,dy];constructor
  ·rintro⟨⟨w,hw,hv⟩,h2⟩;obtain⟨x,hx,rfl⟩:=au.mp hv;obtain⟨w1,w2,w3⟩:=(uK hu p w ∅).mp hw;refine{by rw[aK,w1];rfl,λy hy=>?_,h2};rcases aS.mp hy with hy|hy
   ·exact w2 y hy
   ·rw[aC.mp hy];exact hx
  ·rintro⟨h1,h2,h3⟩;have ne:v≠[]:=λz=>by rw[z]at h1;cases h1
   have ev:=rF ne;have lv:v.dropLast.length=p:=by rw[List.length_dropLast,h1];rfl
   refine{{v.dropLast,(uK hu p _ ∅).mpr {lv,λx hx=>h2 x (List.dropLast_subset v hx),λa ha q=>?_},au.mpr {v.getLast ne,h2 _ (List.getLast_mem ne),ev}},h3};have:=h3 a ha λt ht u=>sV us (eT p) (q t ht u);rw[<-ev]at this;have e:image (us.take (p+1)) (v.dropLast++[v.getLast ne]) a.2=image (us.take p) v.dropLast a.2:=bz λt ht=>by
    cases c:un t with
    |true=>exact Pm (q t ht c) lv ∅ _
    |false=>
     have n1:∀n,t∉us.take n:=λn z=>by rw[hu t (eJ z)]at c;cases c
     unfold kM;rw[aq (n1 _),aq (n1 _)]
   rw[e]at this;exact this
def QU(hu:∀t,t∈us↔un t=true/\∃a∈atoms,t∈a.2)(nd:us.Nodup)(hv:∀a∈atoms,∀r∈db a.1,∀x∈r,x∈vals)(hh:∀t∈head,un t=true->t∈us)(row:Rw α):
  (∃v∈ku un db atoms us vals us.length,row=image us v head)↔∃g,iA un db atoms g/\row=head.map g:=by
 have m:=uK (db:=db) (atoms:=atoms) (vals:=vals) (λt ht=>((hu t).mp ht).1) us.length;rw[bu]at m;constructor
 ·rintro⟨v,h,rfl⟩;obtain⟨h1,h2,h3⟩:=(m v (ak _)).mp h;refine{kM us v,{λt ht=>?_,λa ha=>h3 a ha λt ht u=>(hu t).mpr ⟨u,a,ha,ht⟩},rfl};unfold kM;rw[aq λz=>by rw[((hu t).mp z).1]at ht;cases ht]
 ·rintro⟨g,hg,rfl⟩;have im:∀ts:List α,(∀t∈ts,un t=true->t∈us)->image us (us.map g) ts=ts.map g:=λts h=>gW λt ht c=>by
   cases e:un t with
   |false=>exact hg.1 t e
   |true=>exact absurd (h t ht e) c
  refine{us.map g,(m _ (ak _)).mpr {ag ..,λx hx=>?_,λa ha q=>by rw[im a.2 q];exact hg.2 a ha},(im head hh).symm};obtain⟨t,ht,rfl⟩:=au.mp hx;obtain⟨_,a,ha,xb⟩:=(hu t).mp ht;exact hv a ha _ (hg.2 a ha) _ (au.mpr ⟨t,xb,rfl⟩)
def iA.of{un:α->Bool}{S T:List (pR α)}{g:α->α}(h:iA un db S g)(e:∀a∈T,a∈S):iA un db T g:={h.1,λa ha=>h.2 a (e a ha)}
def Wv(h:Kp un db S kept maps)(hh:∀t∈head,un t=true->t∈kept)(row:Rw α):row∈(dj maps kept head).map (·.1)↔∃g,iA un db S g/\row=head.map g:=by
 have im:∀g,iA un db S g->image kept (kept.map g) head=head.map g:=λg hg=>gW λt ht c=>by
  cases e:un t with
  |false=>exact hg.1 t e
  |true=>exact absurd (hh t ht e) c
 rw[sM];constructor
 ·rintro⟨x,hx,rfl⟩;obtain⟨g,hg,e⟩:=(h x.1).mp (au.mpr ⟨x,hx,rfl⟩);exact{g,hg,by rw[e,im g hg]}
 ·rintro⟨g,hg,rfl⟩;obtain⟨y,hy,ey⟩:=au.mp ((h _).mpr ⟨g,hg,rfl⟩);exact{y,hy,by rw[ey,im g hg]}
end
end AskP
namespace AskP
section
variable{α:Type}[DecidableEq α]
def words(A:List α):Nat->List (List α)
 |0=>[[]]
 |k+1=>(words A k).flatMap λv=>A.map λx=>x::v
theorem FC:∀{k:Nat}{v:List α},v.length=k->(∀x∈v,x∈A)->v∈words A k
 |0,v,h,_=>by rw[qJ h];exact aC.mpr rfl
 |k+1,x::v,h,q=>dy.mpr {v,FC (Nat.succ.inj h) λy hy=>q y (az _ hy),au.mpr {x,q x aA,rfl}}
theorem FF{A:List α}:∀k,(words A k).length=A.length^k
 |0=>rfl
 |k+1=>by
  have e:∀l:List (List α),(l.flatMap λv=>A.map λx=>x::v).length=l.length*A.length:=λl=>by
   induction l with
   |nil=>simp
   |cons v l ih=>rw[jc,aK,ih,ag,aZ,AM,Nat.add_comm]
  show((words A k).flatMap _).length=_;rw[e,FF k,jx]
def fL{A:List α}{l:List (List α)}(nd:l.Nodup)(h:∀v∈l,v.length=k/\∀x∈v,x∈A):l.length<=A.length^k:=by rw[<-FF k];exact L2.iF nd λv hv=>FC (h v hv).1 (h v hv).2
structure AskI(un:α->Bool)(db:α->List (Rw α))(atoms:List (pR α))(head:List α)(S left:List (pR α))(kept:List α)(maps:List (Rw α×Int)):Prop where
 kp:Kp un db S kept maps
 at_:∀a,a∈atoms↔a∈S\/a∈left
 kt:∀t,t∈kept↔un t=true/\(∃b∈S,t∈b.2)/\(t∈head\/∃b∈left,t∈b.2)
 nd:kept.Nodup
 md:(maps.map (·.1)).Nodup
variable{un:α->Bool}{db:α->List (Rw α)}{atoms:List (pR α)}{head:List α}{S left:List (pR α)}{kept:List α}{maps:List (Rw α×Int)}
def AskI.start:AskI un db atoms head [] atoms [] [([],1)]:={λv=>{λh=>{id,{λ_ _=>rfl,λa ha=>by cases ha},aC.mp h},λ⟨_,_,e⟩=>aC.mpr e},λa=>{.inr,λh=>h.elim (λz=>by cases z) id},λt=>{λh=>(by cases h),λ⟨_,⟨b,hb,_⟩,_⟩=>(by cases hb)},.nil,fM _ _}
def AskI.len(h:AskI un db atoms head S left kept maps)(hx:x∈maps):x.1.length=kept.length:=by obtain⟨g,_,e⟩:=(h.kp x.1).mp (au.mpr ⟨x,hx,rfl⟩);rw[e,ag]
theorem AskI.vals{vals:List α}(h:AskI un db atoms head S left kept maps)(hv:∀a∈atoms,∀r∈db a.1,∀x∈r,x∈vals)(hx:x∈maps):∀y∈x.1,y∈vals:=λy hy=>by obtain⟨g,hg,e⟩:=(h.kp x.1).mp (au.mpr ⟨x,hx,rfl⟩);rw[e]at hy;obtain⟨t,ht,rfl⟩:=au.mp hy;obtain⟨_,⟨b,hb,Zg⟩,_⟩:=(h.kt t).mp ht;exact hv b ((h.at_ b).mpr (.inl hb)) _ (hg.2 b hb) _ (au.mpr ⟨t,Zg,rfl⟩)
def AskI.step(h:AskI un db atoms head S (l1++a::l2) kept maps)(hf:∀t,t∈fresh↔t∈a.2/\un t=true/\t∉kept)(fn:fresh.Nodup)(hk:known=a.2.filter (λt=>decide (t∉fresh)))
  (hn:∀t,need t=true↔t∈head\/∃b∈l1++l2,t∈b.2):
  AskI un db atoms head (a::S) (l1++l2) ((kept++fresh).filter need) (dj (longer maps (db a.1) a.2 kept known fresh) (kept++fresh) ((kept++fresh).filter need)):=by
 have mid:∀b,b∈l1++a::l2↔b=a\/b∈l1++l2:=λb=>by rw[aS,aE,aS];exact{λh=>h.elim (λz=>.inr (.inl z)) λh=>h.elim .inl λz=>.inr (.inr z),λh=>h.elim (λz=>.inr (.inl z)) λh=>h.elim .inl λz=>.inr (.inr z)}
 have hs:∀b∈S,∀t∈b.2,t∈a.2->un t=true->t∈kept:=λb hb t ht xb u=>(h.kt t).mpr {u,⟨b,hb,ht⟩,.inr {a,(mid a).mpr (.inl rfl),xb}};refine{Kf h.kp hf hk (λt ht=>((h.kt t).mp ht).1) hs λt ht=>(bJ.mp ht).1,λb=>?_,λt=>?_,?_,kC}
 ·rw[h.at_ b,mid b,aE];exact{λh=>h.elim (λz=>.inl (.inr z)) λh=>h.elim (λz=>.inl (.inl z)) .inr,λh=>h.elim (λh=>h.elim (λz=>.inr (.inl z)) .inl) λz=>.inr (.inr z)}
 ·rw[bJ,aS,hn,hf,h.kt];constructor
  ·rintro⟨⟨u,⟨b,hb,ht⟩,_⟩|⟨ht,u,_⟩,q⟩
   ·exact{u,{b,az _ hb,ht},q}
   ·exact{u,⟨a,aA,ht⟩,q}
  ·rintro⟨u,⟨b,hb,ht⟩,q⟩;refine{?_,q};have q':t∈head\/∃b∈l1++a::l2,t∈b.2:=q.imp id λ⟨b,hb,ht⟩=>{b,(mid b).mpr (.inr hb),ht};rcases aE.mp hb with rfl|hb
   ·by_cases c:t∈kept
    ·exact .inl ((h.kt t).mp c)
    ·exact .inr {ht,u,λz=>c ((h.kt t).mpr z)}
   ·exact .inl {u,⟨b,hb,ht⟩,q'}
 ·refine kK fT (fQ.mpr {h.nd,fn,λx hx y hy e=>?_});subst e;exact((hf x).mp hy).2.2 hx
def AskI.end_(h:AskI un db atoms head S [] kept maps)(hh:∀t∈head,un t=true->∃a∈atoms,t∈a.2)(row:Rw α):row∈(dj maps kept head).map (·.1)↔∃g,iA un db atoms g/\row=head.map g:=by
 have e:∀a,a∈atoms↔a∈S:=λa=>by rw[h.at_ a];exact{λz=>z.elim id (λz=>by cases z),.inl}
 rw[Wv h.kp λt ht u=>(h.kt t).mpr {u,let⟨a,ha,q⟩:=hh t ht u;{a,(e a).mp ha,q},.inl ht}];exact{λ⟨g,hg,q⟩=>{g,hg.of λa ha=>(e a).mp ha,q},λ⟨g,hg,q⟩=>{g,hg.of λa ha=>(e a).mpr ha,q}}
end
end AskP
namespace jn
open PySem PySem.Spec PyProof.Rows L2 vY
seal L2.PE L2.PT L2.PW L2.PA L2.PS L2.j9 L2.PI L2.PO L2.AK L2.PG L2.AL
def top(i:Nat):Stmt:=PySem.Challenge.pw_askviews_k10_whole_two_questions_as_one.main.body.getD i (.Pass {0,0,0,0})
abbrev xK:Stmt:=top 3
abbrev uB:Stmt:=top 4
abbrev sJ:Stmt:=top 6
abbrev zx:Stmt:=top 8
abbrev zD:Stmt:=top 10
abbrev zC:Stmt:=top 11
abbrev we:Stmt:=top 12
abbrev qS:Stmt:=top 13
abbrev xG:Stmt:=top 15
abbrev wd:Stmt:=top 16
abbrev Er:Stmt:=top 17
abbrev xM:Stmt:=top 18
abbrev qR:Stmt:=top 19
abbrev Cd:Stmt:=top 21
abbrev Ce:Stmt:=top 22
abbrev Cc:Stmt:=top 23
abbrev zA:Stmt:=top 24
abbrev xH:Stmt:=top 25
abbrev xJ:Stmt:=top 26
abbrev uA:Stmt:=top 27
abbrev xI:Stmt:=top 28
abbrev zB:Stmt:=top 29
abbrev zy:Stmt:=top 30
abbrev Ep:Stmt:=top 31
abbrev L6:Stmt:=top 32
abbrev uz:Stmt:=inClass (top 14) 0
abbrev qT:Stmt:=inClass (top 14) 1
abbrev Cb:Stmt:=inClass (top 14) 2
abbrev mO:Stmt:=inClass (top 14) 3
abbrev oo:Stmt:=inClass (top 14) 4
def u9(K:Frag)(H:Hp)(a:Addr)(xs:List V):Prop:=
 (∃o,H a=some (.eO o (.lst xs)))\/∃(o:Obj)(aT:Array Value)(n:Nat),K.lookup a=some o/\o.cls=.type "list"/\o.dict=none/\o.data=.seq aT n/\aT.size<=sizeLine/\Vals xs aT.toList
def u9.sq{K:Frag}(h:u9 K H a xs):bw K H a xs:=by
 rcases h with⟨o,h⟩|h
 ·exact .inl (.inr ⟨o,h⟩)
 ·exact .inr h
def u9.but{K:Frag}(h:u9 K H a xs)(hf:H f=some (.lst ys)):u9 K (upd H f o) a xs:=by
 rcases h with⟨ob,h⟩|h
 ·exact .inl {ob,by rw[ax (rM h hf λz=>by cases z)];exact h}
 ·exact .inr h
def u9.new{K:Frag}(h:u9 K H a xs)(hp:H p=none):u9 K (upd H p o) a xs:=by
 rcases h with⟨ob,h⟩|h
 ·exact .inl {ob,by rw[ax (aX h hp)];exact h}
 ·exact .inr h
def dR(K:Frag)(f:Addr)(H:Hp):Prop:=
 ∃(a:Addr)(ns:List Int)(p q r:Int),H f=some (.lst [.ref a,.int p,.int q,.int r])/\0<=p/\0<=q/\0<=r/\u9 K H a (ns.map V.int)/\ns.length<=63
def Ext(f:Addr)(H H':Hp):Prop:=∀b o,b≠f->H b=some o->H' b=some o
def Ext.refl(f:Addr)(H:Hp):Ext f H H:=λ_ _ _ h=>h
def Ext.trans(a:Ext f H H1)(b:Ext f H1 H2):Ext f H H2:=λc o n h=>b c o n (a c o n h)
def Ext.new(a:Ext f H H1)(h:H1 p=none)(o:HO):Ext f H (upd H1 p o):=λb u n q=>by rw[ax (aX (a b u n q) h)];exact a b u n q
def Ext.own(a:Ext f H H1)(h:H p=none)(o:HO):Ext f H (upd H1 p o):=λb u n q=>by rw[ax (aX q h)];exact a b u n q
def Ext.feed(a:Ext f H H1)(o:HO):Ext f H (upd H1 f o):=λb u n q=>by rw[ax n];exact a b u n q
def Ext.none(a:Ext f H H1)(n:p≠f)(h:H1 p=Option.none):H p=Option.none:=by
 cases q:H p with
 |none=>rfl
 |some o=>
  rw[a p o n q]at h;cases h
def dR.new{K:Frag}(h:dR K f H)(hp:H p=none)(o:HO):dR K f (upd H p o):=by obtain⟨a,ns,x,y,z,hf,h1,h2,h3,hS,hn⟩:=h;exact{a,ns,x,y,z,by rw[ax (aX hf hp)];exact hf,h1,h2,h3,hS.new hp,hn}
def dR.lst{K:Frag}(h:dR K f H)(hp:H p=some (.lst xs))(n:p≠f)(o:HO):dR K f (upd H p o):=by obtain⟨a,ns,x,y,z,hf,h1,h2,h3,hS,hn⟩:=h;exact{a,ns,x,y,z,by rw[ax n.symm];exact hf,h1,h2,h3,hS.but hp,hn}
def dR.uJ{K:Frag}(h:dR K f H)(hp:H p=none):p≠f:=by obtain⟨a,ns,x,y,z,hf,_⟩:=h;exact(aX hf hp).symm
inductive NP(K:Frag)(vs:List V)(H:Hp)(Q:VK)(_x3:XK):Prop
 |mk (a:Addr) (ns:List Int) (_:vs=[.ref a]) (_:u9 K H a (ns.map V.int)) (_:ns.length<=63) (_:∀(r:Addr)(H':Hp),dR K r H'->bD H H'->H r=none->Q (.ref r) H')
inductive NQ(K:Frag)(vs:List V)(H:Hp)(Q:VK)(_x3:XK):Prop
 |mk (f:Addr) (many:Int) (_:vs=[.ref f,.int many]) (_:dR K f H) (_:0<many) (_:many<1073741824) (_:∀(i:Int)(H':Hp),0<=i->i<many->dR K f H'->Ext f H H'->Q (.int i) H')
inductive NO(K:Frag)(vs:List V)(H:Hp)(Q:VK)(_x3:XK):Prop
 |mk (f pl:Addr) (many:Int) (xs:List V) (_:vs=[.ref f,.ref pl,.int many]) (_:dR K f H) (_:pl≠f) (_:H pl=some (.lst xs)) (_:0<xs.length) (_:xs.length<=100) (_:0<=many) (_:many<=100) (_:∀(r:Addr)(ys:List V)(H':Hp),dR K f H'->Ext f H H'->r≠f->H' r=some (.lst ys)->(ys.length:Int)=many->(∀y∈ys,y∈xs)->Q (.ref r) H')
inductive C7(K:Frag)(texts:List Str)(most:Nat)(vs:List V)(H:Hp)(Q:VK)(_x3:XK):Prop
 |mk (f:Addr) (_:vs=[.ref f]) (_:dR K f H) (_:∀(r:Addr)(ys:List V)(H':Hp),dR K f H'->Ext f H H'->r≠f->H' r=some (.lst ys)->1<=ys.length->ys.length<=most->(∀y∈ys,y∈texts.map V.str)->Q (.ref r) H')
noncomputable def rY:List Str:=["r","s","rs","r1","a","tttttttt"]
noncomputable def cV:List Str:=["a","ab","12","b","a1","zzzzzzzz","r","1"]
noncomputable def js:List Str:=["?x","?y","?a","?ab","?12","?zzzzzzzz"]
inductive B9(K:Frag)(vs:List V)(H:Hp)(Q:VK)(_x3:XK):Prop
 |mk (f:Addr) (n:Str) (_:vs=[.ref f,.str n]) (_:dR K f H) (_:∀(i:Int)(H':Hp),1<=i->i<=4->dR K f H'->Ext f H H'->Q (.int i) H')
section
variable{P:Program}{w:World}{K:Frag}{mg:Str->Option Value}{base:Heap}
structure Txt(K:Frag)(mg:Str->Option Value):Prop where
 jS:mg "len"=none
 aa2:mg "abs"=none
 q9:mg "range"=none
 jJ:mg "tuple"=none
 HU:mg "list"=none
 zU:mg "isinstance"=none
 Uu:mg "all"=none
 Ut:mg "str"=none
 aa0:mg "sum"=none
 OP:mg "dict"=none
 xS:mg "sorted"=none
 aa1:mg "set"=none
 BG:mg "enumerate"=none
 Gv:mg "zip"=none
 adk:mg "bool"=none
 WB:∃t,mg "SIGNS"=some (.str "abcdefghijklmnopqrstuvwxyz0123456789" t)
 IX:∃t,mg "MOST_SIGNS"=some (.int 8 t)
def u96(r:gJ k A):A.units+96<cLine:=by have:=r.un;lia
def N3:cv ["_law_script"] ["_law_script"] (bI Cd):=jE (by decide+kernel)
def Wh(F:fb K "_law_feed" "_law_feed" Cd f fd):c6 P w K mg base fD 1 f fd ["_law_script"] (NP K):=by
 refine F.ok N3 (λ_ _ _ _ h=>by cases h;subst_vars;rfl) (λc7 A outer s H vs Q E hr h=>?_);obtain⟨a,ns,rfl,hS,hn,k⟩:=h;refine{_,(bp (cL (hJ (fk (pv 0) (tE aV aV aV))))),?_};refine{_,rfl,(by show 4<=sizeLine;decide),λp hp=>?_};have sm:bD H (upd H p (.lst [.ref a,.int 0,.int 0,.int 0])):=λb u q=>by rw[ax (aX q hp)];exact q
 exact k p _ {a,ns,0,0,0,aw,rT _,rT _,rT _,hS.new hp,hn} sm hp
def mN:cv ["_law_feed_here","_law_many","_law_script","_law_figure","_law_cell","_law_mixed"] ["_law_feed_here","_law_many"] (bI Ce):=jE (by decide+kernel)
def Wi(F:fb K "_law_draw" "_law_draw" Ce f fd)(T:Txt K mg):c6 P w K mg base fD 1 f fd ["_law_feed_here","_law_many"] (NQ K):=by
 refine F.ok mN (λ_ _ _ _ h=>by cases h;subst_vars;rfl) (λc7 A outer s H vs Q E hr h=>?_);obtain⟨fe,many,rfl,⟨a,ns,p,q,r,hf,hp,hq,PF,hS,hn⟩,hm,PM,k⟩:=h;have nl:(ns.map V.int).length=ns.length:=ag _;have lo:∀(x m:Int),0<m->m<2^32->-(2^64)<x % m/\x % m<2^64:=λx m h1 h2=>by have h3:=mH x (show m≠0 by lia);have h4:=jY x h1;lia
 refine cut 3 (λZ H'=>∃p' q' r',Z=[some (.ref fe),some (.int many),some (.ref a),none,none,none]/\H' fe=some (.lst [.ref a,.int p',.int q',.int r'])/\0<=p'/\0<=q'/\0<=r'/\u9 K H' a (ns.map V.int)/\Ext fe H H')
  (ac8 3 (λZ H'=>∃p' q' r' c,Z=[some (.ref fe),some (.int many),some (.ref a),none,some (.int c),none]/\H' fe=some (.lst [.ref a,.int p',.int q',.int r'])/\0<=p'/\0<=q'/\0<=r'/\u9 K H' a (ns.map V.int)/\Ext fe H H')
   {_,(aO (gk 5 mN (dh rX (dh kB (dh kB (dh zP (dh rX (pv 4) aV) aV) (dh zP (cA fI (pv 0) aV (λ_ _=>rfl)) aV)) aV) aV))
   (aO (gk 5 mN (dh rX (dh zP (pv 5) (dh kB (pv 5) aV)) aV))
   (bp (cL (dh rX (dh rX (dh zP (pv 5) aV) aV) (pv 1)))))),?_} (λt2 ht=>{_,(aO (ka (fH Gu (cA fI (pv 0) aV (λ_ _=>rfl)) aV (iu _)) (aO (gk 3 mN (dh rX (cA fI (pv 0) aV (λ_ _=>rfl)) (pv 1)))
   (aO (uE (dh We (cA fI (pv 0) aV (λ_ _=>rfl)) (pv 1)) (Dw (pv 0) aV set_list))
   (bp (cL (pv 3))))) gP)
   (aO (gk 4 mN aV)
   (aO (ka (fH Gu (cQ gF rfl T.jS cH (cw (pv 2))) aV (iu _)) (bp (gk 4 mN (cA fI (pv 2) (dh rX (cA fI (pv 0) aV (λ_ _=>rfl)) (cQ gF rfl T.jS cH (cw (pv 2)))) (λ_ _=>rfl)))) gP) ht))),λtl=>?_})) (λt2 ht=>{_,(aO (gk 2 mN (cA fI (pv 0) aV (λ_ _=>rfl)))
   (aO (uE (dh kB (cA fI (pv 0) aV (λ_ _=>rfl)) aV) (Dw (pv 0) aV set_list))
   (aO (ka (PW.pt (Og (fH Ba (cA fI (pv 0) aV (λ_ _=>rfl)) aV (iu _)) (KG (fH Uj (cA fI (pv 0) aV (λ_ _=>rfl)) (cQ gF rfl T.jS cH (cw (pv 2))) (iu _))))) (aO (uE (dh RM (cQ Tc rfl T.aa2 (by decide+kernel) (cw (cA fI (pv 2) (cA fI (pv 0) aV (λ_ _=>rfl)) (λ_ _=>rfl)))) (dh Yb aV aV)) (Dw (pv 0) aV set_list))
   (bp (uE (dh kB (cA fI (pv 0) aV (λ_ _=>rfl)) aV) (Dw (pv 0) aV set_list)))) gP) ht))),λtl=>?_})
 ·--the mix
  rintro Z H' ⟨p',q',r',c,rfl,uT,IE,Aj,mz,oJ,ex⟩;refine{_,rfl,_,_,rfl,rfl,(by show(0:Int)<2147483647;decide),_,_,rfl,rfl,.inl (lo _ _ (by decide) (by decide)),_,rfl,fe,_,_,_,rfl,rfl,bw.of uT,rfl,_,_,rfl,rfl,.inr {by decide,by decide},_,_,rfl,rfl,_,_,rfl,rfl,_,_,rfl,rfl,(by show(0:Int)<2147483629;decide),?_};refine{_,rfl,_,rfl,_,_,rfl,rfl,_,_,rfl,rfl,.inl (lo _ _ (by decide) (by decide)),_,_,rfl,rfl,(by show(0:Int)<2147483587;decide),?_};refine{_,rfl,_,_,rfl,rfl,.inl (lo _ _ (by decide) (by decide)),_,_,rfl,rfl,(by show(0:Int)<2147483563;decide),_,rfl,_,_,rfl,rfl,hm,?_};exact k _ H' (mH _ ∅) (jY _ hm) ⟨a,ns,p',q',r',uT,IE,Aj,mz,oJ,hn⟩ ex
 ·--the rest of a cell,or the cell
  rintro Z H' ⟨p',q',r',rfl,uT,IE,Aj,mz,oJ,ex⟩;refine{_,rfl,fe,_,_,_,rfl,rfl,bw.of uT,rfl,_,_,rfl,rfl,_,rfl,?_};refine gZ (λc=>?_) (λc=>?_)
  ·refine{_,rfl,fe,_,_,_,rfl,rfl,bw.of uT,rfl,_,rfl,_,_,rfl,rfl,hm,?_};refine{_,rfl,fe,_,_,_,rfl,rfl,bw.of uT,rfl,_,rfl,_,_,rfl,rfl,⟨hm,PM⟩,_,rfl,fe,_,_,_,rfl,rfl,uT,rfl,?_};refine{_,rfl,?_};exact k _ _ (mH _ ∅) (jY _ hm) {a,ns,p',q'/many,r',aw,IE,Int.ediv_nonneg Aj (Int.le_of_lt hm),mz,oJ.but uT,hn} (ex.feed _)
  ·--cell=0;if len(adj)>0
   refine{_,rfl,_,_,rfl,.inl {_,oJ.sq,rfl},_,_,rfl,rfl,_,rfl,?_};refine gZ (λc2=>?_) (λc2=>?_)
   ·have c3:(0:Int)<((ns.map V.int).length:Int):=bA c2;have c4:=mH r' (show((ns.map V.int).length:Int)≠0 by lia);have c5:=jY r' c3;obtain⟨v,hv⟩:∃v,ns[(r' %((ns.map V.int).length:Int)).toNat]?=some v:={_,ao (by rw[<-nl];lia)};have ev:u4 (ns.map V.int) (r' %((ns.map V.int).length:Int))=some (.int v):=by
     have e0:r' %((ns.map V.int).length:Int)=(((r' %((ns.map V.int).length:Int)).toNat:Nat):Int):=by lia
     rw[e0];exact jN (by rw[aJ,hv];rfl)
    refine{_,rfl,_,rfl,fe,_,_,_,rfl,rfl,bw.of uT,rfl,_,rfl,_,_,rfl,.inl {_,oJ.sq,rfl},_,_,rfl,rfl,c3,_,_,_,_,rfl,rfl,oJ.sq,ev,?_};exact tl _ _ ⟨p',q',r',v,rfl,uT,IE,Aj,mz,oJ,ex⟩
   ·exact tl _ _ {p',q',r',0,rfl,uT,IE,Aj,mz,oJ,ex}
 ·--feed[0];feed[3]+1
  refine{_,rfl,fe,_,_,_,rfl,rfl,bw.of hf,rfl,?_};refine{_,rfl,fe,_,_,_,rfl,rfl,bw.of hf,rfl,_,_,rfl,rfl,_,rfl,fe,_,_,_,rfl,rfl,hf,rfl,?_};have xf:upd H fe (.lst [.ref a,.int p,.int q,.int (r+1)]) fe=some (.lst [.ref a,.int p,.int q,.int (r+1)]):=aw;have Qb:u9 K (upd H fe (.lst [.ref a,.int p,.int q,.int (r+1)])) a (ns.map V.int):=hS.but hf;have pM:Ext fe H (upd H fe (.lst [.ref a,.int p,.int q,.int (r+1)])):=(Ext.refl fe H).feed _;refine{_,rfl,fe,_,_,_,rfl,rfl,bw.of xf,rfl,rfl,_,rfl,?_};refine gZ (λc=>?_) (λc=>?_)
  ·refine{_,rfl,fe,_,_,_,rfl,rfl,bw.of xf,rfl,_,rfl,_,_,rfl,.inl {_,Qb.sq,rfl},_,_,rfl,rfl,_,rfl,?_};refine gZ (λc2=>?_) (λc2=>?_)
   ·have c3:p<((ns.map V.int).length:Int):=bA c2;obtain⟨v,hv⟩:∃v,ns[p.toNat]?=some v:={_,ao (by rw[<-nl];lia)};have ev:u4 (ns.map V.int) p=some (.int v):=by
     have e0:p=((p.toNat:Nat):Int):=by lia
     rw[e0];exact jN (by rw[aJ,hv];rfl)
    refine{_,rfl,_,rfl,fe,_,_,_,rfl,rfl,bw.of xf,rfl,_,_,_,_,rfl,rfl,Qb.sq,ev,_,rfl,_,_,rfl,rfl,{by decide,by decide,by decide},_,_,rfl,rfl,{by decide,by decide+kernel},_,rfl,fe,_,_,_,rfl,rfl,xf,rfl,?_};refine{_,rfl,fe,_,_,_,rfl,rfl,bw.of aw,rfl,_,_,rfl,rfl,_,rfl,fe,_,_,_,rfl,rfl,aw,rfl,?_};refine tl _ _ {p+1,_,r+1,rfl,aw,by lia,Int.ediv_nonneg ?_ (by decide),by lia,?_,(pM.feed _).feed _}
    ·split<;>lia
    ·exact(Qb.but xf).but aw
   ·exact tl _ _ {p,q,r+1,rfl,xf,hp,hq,by lia,Qb,pM}
  ·exact tl _ _ {p,q,r+1,rfl,xf,hp,hq,by lia,Qb,pM}
def Fh:cv ["_law_feed_here","_law_pool_here","_law_many","_law_start"] ["_law_feed_here","_law_pool_here","_law_many"] (bI Cc):=jE (by decide+kernel)
structure Dr(P:Program)(w:World)(K:Frag)(mg:Str->Option Value)(base:Heap):Prop where
 iU:eC P w K mg base 1 "_law_draw" ["_law_feed_here","_law_many"] (NQ K)
structure Dr2(P:Program)(w:World)(K:Frag)(mg:Str->Option Value)(base:Heap):Prop extends Dr P w K mg base where
 Ie:eC P w K mg base 2 "_law_pool" ["_law_feed_here","_law_pool_here","_law_many"] (NO K)
def Wg(F:fb K "_law_pool" "_law_pool" Cc f fd)(T:Txt K mg)(D:Dr P w K mg base):c6 P w K mg base fD 2 f fd ["_law_feed_here","_law_pool_here","_law_many"] (NO K):=by
 refine F.ok Fh (λ_ _ _ _ h=>by cases h;subst_vars;rfl) (λc7 A outer s H vs Q E hr h=>?_);obtain⟨fe,pl,many,xs,rfl,hF,npl,qu,Ad,Y5,hm1,PM,k⟩:=h;refine{_,(aO (uD (i:=3) Fh.nd rfl (Or.inr rfl) (cl D.iU hr (eK (pv 0) (cQ gF rfl T.jS cH (cw (pv 1))))))
   (bp (cL (jq rfl (eG (fs:=["_law_pool_here","_law_start"]) (fr:=[1,3])) (mR rfl T.q9 (cw (pv 2))) (λ_ _ _ _=>(cA (Ik (K:=K)) (pv 1) (dh rX (dh kB (pv 2) (pv 0)) (cQ (As (K:=K)) rfl T.jS cH (cw (pv 1)))) (λ_ _=>rfl))))))),?_}
 refine{_,rfl,_,rfl,_,_,rfl,.inl {_,bw.of qu,rfl},fe,_,rfl,hF,by lia,by lia,λi H1 i0 i1 uU pM=>?_};have Zp:=pM _ _ npl qu;refine{_,rfl,many,rfl,by lia,by lia,λj m ys H2=>H2=H1/\j<=many.toNat/\m=many.toNat -j/\ys.length=j/\∀y∈ys,y∈xs,{_,rfl,aR _,rfl,rfl,λy hy=>by cases hy},?_};rintro j m ys H2 ⟨rfl,hj,rfl,hl,hy⟩;by_cases bR:j<many.toNat
 ·refine .inr {bR,by rw[hl];exact bH ∅,?_};rintro v H3 ⟨rfl,rfl⟩;have q0:(0:Int)<(xs.length:Int):=by lia
  have q1:=mH (i+(0+(j:Int))) (show(xs.length:Int)≠0 by lia);have q2:=jY (i+(0+(j:Int))) q0;obtain⟨v,hv⟩:∃v,xs[((i+(0+(j:Int))) %(xs.length:Int)).toNat]?=some v:={_,ao ∅};have ev:u4 xs ((i+(0+(j:Int))) %(xs.length:Int))=some v:=by
   have e0:(i+(0+(j:Int))) %(xs.length:Int)=((((i+(0+(j:Int))) %(xs.length:Int)).toNat:Nat):Int):=by lia
   rw[e0];exact jN hv
  refine h9 ?_;refine{_,rfl,_,rfl,_,rfl,_,_,rfl,rfl,_,rfl,_,_,rfl,.inl {_,bw.of Zp,rfl},_,_,rfl,rfl,q0,_,_,_,_,rfl,rfl,bw.of Zp,ev,?_};refine{many.toNat -(j+1),by lia,rfl,bR,rfl,by rw[aK,hl];rfl,λy FL=>?_};rcases aS.mp FL with z|z
  ·exact hy y z
  ·rw[aC.mp z];exact aG hv
 ·refine .inl {by show many.toNat<=j;lia,by rw[hl];exact bg (bH ∅),λl mV=>?_};have nl:l≠fe:=uU.uJ mV;exact k l ys _ (uU.new mV _) (pM.new mV _) nl aw ∅ hy
def L4:cv ["_law_feed_here"] ["_law_feed_here"] (bI zA):=jE (by decide+kernel)
def xR(F:fb K "_law_names" "_law_names" zA f fd)(T:Txt K mg)(D:Dr2 P w K mg base):c6 P w K mg base fD 3 f fd ["_law_feed_here"] (C7 K rY 3):=by refine F.ok L4 (λ_ _ _ _ h=>by cases h;subst_vars;rfl) (λc7 A outer s H vs Q E hr h=>?_);obtain⟨fe,rfl,hF,k⟩:=h;refine{_,(bp (cL (cl D.Ie hr (tE (pv 0) (hJ (fk dQ (fk dQ (fk dQ (tE dQ dQ dQ))))) (dh kB aV (cl D.iU hr (eK (pv 0) aV))))))),?_};refine{_,rfl,(by show 6<=sizeLine;decide),λp hp=>?_};have np:=hF.uJ hp;refine{_,rfl,fe,3,rfl,hF.new hp _,by decide,by decide,λi H1 i0 i1 uU pM=>?_};have Ak:=pM p _ np aw;refine{_,_,rfl,rfl,fe,p,_,_,rfl,uU,np,Ak,by decide,by decide,by lia,by lia,λr ys H2 qM tJ nr vQ hl hy=>?_};exact k r ys H2 qM (((Ext.refl fe H).new hp _).trans (pM.trans tJ)) nr vQ ∅ ∅ hy
def Ju:cv ["_law_feed_here"] ["_law_feed_here"] (bI xH):=jE (by decide+kernel)
def OC(F:fb K "_law_values" "_law_values" xH f fd)(T:Txt K mg)(D:Dr2 P w K mg base):c6 P w K mg base fD 3 f fd ["_law_feed_here"] (C7 K cV 4):=by refine F.ok Ju (λ_ _ _ _ h=>by cases h;subst_vars;rfl) (λc7 A outer s H vs Q E hr h=>?_);obtain⟨fe,rfl,hF,k⟩:=h;refine{_,(bp (cL (cl D.Ie hr (tE (pv 0) (hJ (fk dQ (fk dQ (fk dQ (fk dQ (fk dQ (tE dQ dQ dQ))))))) (dh kB aV (cl D.iU hr (eK (pv 0) aV))))))),?_};refine{_,rfl,(by show 8<=sizeLine;decide),λp hp=>?_};have np:=hF.uJ hp;refine{_,rfl,fe,4,rfl,hF.new hp _,by decide,by decide,λi H1 i0 i1 uU pM=>?_};have Ak:=pM p _ np aw;refine{_,_,rfl,rfl,fe,p,_,_,rfl,uU,np,Ak,by decide,by decide,by lia,by lia,λr ys H2 qM tJ nr vQ hl hy=>?_};exact k r ys H2 qM (((Ext.refl fe H).new hp _).trans (pM.trans tJ)) nr vQ ∅ ∅ hy
def Ug(hg:Gl X x)(hm:X.mg x=none)(hv:bootBuiltins x=some (.type n))(hn:x≠"__name__":=by decide)(hd:(x==("__debug__":Str))=false:=by decide):PE X (.Name x pos) (tC (.ty n)):=Wd hg hm hv rfl hn hd
def Vp:Str:="abcdefghijklmnopqrstuvwxyz0123456789"
def sgn(c:Nat):Bool:=!(Builtin.Str.occurrences Vp ⟨#[c]⟩ 0 Vp.length 1).isEmpty
def isVal(s:Str):Bool:=decide ((1:Int)<=(s.length:Int))&&(decide ((s.length:Int)<=8)&&(s.cps.toList.map sgn).all id)
def isUnk(s:Str):Bool:=Txt.startswith s "?"&&isVal (Txt.slice s (some 1) none)
inductive TK(vs:List V)(H:Hp)(Q:VK)(_x3:XK):Prop
 |mk (z:Str) (_:vs=[.str z]) (_:z.length<=1000) (_:∀H',bD H H'->Q (.bl (isVal z)) H')
inductive TL(vs:List V)(H:Hp)(Q:VK)(_x3:XK):Prop
 |mk (z:Str) (_:vs=[.str z]) (_:z.length<=1000) (_:∀H',bD H H'->Q (.bl (isUnk z)) H')
def aN(h:H p=none)(o:HO):bD H (upd H p o):=λb u q=>by rw[ax (aX q h)];exact q
def Ii(t:Value):kitOne K t t=some true:=by unfold kitOne;rw[ay (uX t)]
def Jw:cv ["thing"] ["thing"] (bI xK):=jE (by decide+kernel)
def JC(F:fb K "is_value" "is_value" xK f fd)(T:Txt K mg):c6 P w K mg base fD 1 f fd ["thing"] TK:=by
 refine F.ok Jw (λ_ _ _ _ h=>by cases h;subst_vars;rfl) (λc7 A outer s H vs Q E hr h=>?_);obtain⟨z,rfl,hz,k⟩:=h;refine{_,(aO (ka (X4 (Hl (cQ B1 rfl T.zU (by decide+kernel) (eK (pv 0) (Ug (n:="str") rfl T.Ut (by decide+kernel)))))) (bp (cL A9)) gP)
   (bp (cL (HB (RK Mi Mi aV (cQ gF rfl T.jS cH (cw (pv 0))) (RJ rfl T.IX)) (Om (cQ (xo rfl) rfl T.Uu boot_all (cw (jq rfl (eG (fs:=[]) (fr:=[])) (X8 (pv 0)) (λ_ _ _ _=>(KQ Ox (pv 0) (RH rfl T.WB) (by with_unfolding_all rfl))))))))))),?_}
 have uP:z.length<=sizeLine:=bg (bH hz);refine{_,rfl,_,_,_,true,rfl,pf.str z,Ii _,_,rfl,?_};refine Cw ?_;refine{_,rfl,_,_,rfl,⟨uP,rfl⟩,_,_,rfl,rfl,_,rfl,?_};refine gZ (λc1=>?_) (λc1=>?_)
 ·refine{_,_,rfl,rfl,_,rfl,?_};refine gZ (λc2=>?_) (λc2=>?_)
  ·refine{_,rfl,_,rfl,λi m ys H2=>H2=H/\i<=z.cps.size/\m=z.cps.size -i/\ys=((z.cps.toList.take i).map sgn).map V.bl,{_,rfl,aR _,rfl,rfl},?_};rintro i m ys H2 ⟨rfl,hi,rfl,rfl⟩;have hl:∀j,(((z.cps.toList.take j).map sgn).map V.bl).length<=1000:=λj=>by
    rw[ag,ag,aU];have:z.cps.toList.length=z.length:=by simp[Str.length]
    lia
   by_cases bR:i<z.cps.size
   ·refine .inr {bR,bH (hl i),?_};rintro v H3 ⟨rfl,c,hc,rfl⟩;refine h9 ?_;refine{_,rfl,_,_,rfl,rfl,_,?_,rfl,bR,rfl,?_}
    ·exact Nat.sub_lt_sub_left bR (dv i)
    ·have kQ:z.cps.toList[i]?=some c:=by simpa using hc
     rw[bx,kQ,aH,aH];rfl
   ·have e:i=z.cps.size:=by lia
    refine .inl {e,bg (bH (hl i)),λl mV=>?_};refine{_,(z.cps.toList.take i).map sgn,rfl,bw.of aw,?_};have et:z.cps.toList.take i=z.cps.toList:=dn (by rw[e];simp);have ev:isVal z=((z.cps.toList.take i).map sgn).all id:=by unfold isVal;rw[c1,c2,et,jP,jP]
    rw[<-ev];exact k _ (aN mV _)
  ·have ev:isVal z=false:=by unfold isVal;rw[jf.mpr c2,nU,rJ]
   have q:=k H (bD.refl H);rw[ev]at q;exact q
 ·have ev:isVal z=false:=by unfold isVal;rw[jf.mpr c1,nU]
  have q:=k H (bD.refl H);rw[ev]at q;refine{_,rfl,?_};exact Cw q
structure Dv(P:Program)(w:World)(K:Frag)(mg:Str->Option Value)(base:Heap):Prop where
 Sb:eC P w K mg base 1 "is_value" ["thing"] TK
def Gh:cv ["thing"] ["thing"] (bI uB):=jE (by decide+kernel)
def slice_le(z:Str):(Txt.slice z (some 1) none).length<=z.length:=qB z _ _
def Gi(F:fb K "is_unknown" "is_unknown" uB f fd)(T:Txt K mg)(D:Dv P w K mg base):c6 P w K mg base fD 2 f fd ["thing"] TL:=by
 refine F.ok Gh (λ_ _ _ _ h=>by cases h;subst_vars;rfl) (λc7 A outer s H vs Q E hr h=>?_);obtain⟨z,rfl,hz,k⟩:=h;refine{_,(bp (cL (HB (cQ B1 rfl T.zU (by decide+kernel) (eK (pv 0) (Ug (n:="str") rfl T.Ut (by decide+kernel)))) (HB (mn PySem.F.plainAttrs_str PySem.F.slot_str_startswith PySem.F.type_str_startswith Gj (pv 0) (cw dQ)) (Om (cl D.Sb hr (cw (xN NY (pv 0) (wN aV) Ey)))))))),?_};have uP:z.length<=sizeLine:=bg (bH hz);refine{_,rfl,_,_,_,true,rfl,pf.str z,Ii _,_,rfl,?_};refine Im ?_;refine{_,rfl,rfl,_,_,rfl,rfl,_,rfl,?_};refine gZ (λc1=>?_) (λc1=>?_)
 ·refine{_,rfl,_,rfl,_,rfl,uP,_,rfl,aF (slice_le z) hz,λH' sm=>?_};have ev:isUnk z=isVal (Txt.slice z (some 1) none):=by unfold isUnk;rw[c1,jP]
  rw[<-ev];exact k H' sm
 ·have ev:isUnk z=false:=by unfold isUnk;rw[jf.mpr c1,nU]
  have q:=k H (bD.refl H);rw[ev]at q;exact q
def Paired.Dd(h:Paired F aad aac)(q:F a b):Paired F (aad++[a]) (aac++[b]):=h.snoc q
theorem Paired.at:∀{aad:List α}{aac:List β}{i:Nat}{x:α},Paired F aad aac->aad[i]?=some x->∃y,aac[i]?=some y/\F x y
 |_,_,_,_,.nil,e=>by simp at e
 |_,_,0,_,.cons r _,e=>by simp at e;subst e;exact⟨_,rfl,r⟩
 |_,_,i+1,x,.cons _ t,e=>by obtain⟨y,h1,h2⟩:=Paired.at (i:=i) (x:=x) t (by simpa using e);exact{y,by simpa using h1,h2}
theorem A6{texts:List Str}:∀{ys:List V},(∀y∈ys,y∈texts.map V.str)->∃zs:List Str,ys=zs.map V.str/\∀z∈zs,z∈texts
 |[],_=>{[],rfl,λ_ h=>by cases h}
 |y::r,h=>by
  obtain⟨zs,e,hz⟩:=A6 (ys:=r) λy hy=>h y (az _ hy);obtain⟨z,vN,e1⟩:=au.mp (h y aA);refine{z::zs,by rw[aQ,e1,<-e],λw hw=>?_};rcases aE.mp hw with rfl|hw
  ·exact vN
  ·exact hz w hw
def gf:List Str:=js++cV++(["x"]:List Str)
def Ci{zs:List Str}(h0:0<=i)(h1:i<(zs.length:Int)):∃z,z∈zs/\u4 (zs.map V.str) i=some (.str z):=by
 obtain⟨z,hz⟩:∃z,zs[i.toNat]?=some z:={_,ao ∅};refine{z,aG hz,?_};have e:i=((i.toNat:Nat):Int):=by lia
 rw[e];exact jN (by rw[aJ,hz];rfl)
@[irreducible] noncomputable def Gd(X:Cx)(e:Expr)(t:TE):Prop:=PE X e t
def Uh(h:Gd X e t):PE X e t:=by unfold Gd at h;exact h
def Ol:Gd X (.Dict [some (.Constant (.str s0) j0 p0),some (.Constant (.str s1) j1 p1),some (.Constant (.str s2) j2 p2),some (.Constant (.str s3) j3 p3),some (.Constant (.str s4) j4 p4)] [(.Constant (.int i0) k0 q0),(.Constant (.int i1) k1 q1),(.Constant (.int i2) k2 q2),(.Constant (.int i3) k3 q3),(.Constant (.int i4) k4 q4)] pos) (TJ [(tC (.str s0),tC (.int i0)),(tC (.str s1),tC (.int i1)),(tC (.str s2),tC (.int i2)),(tC (.str s3),tC (.int i3)),(tC (.str s4),tC (.int i4))]):=by unfold Gd;exact Wb (qW dQ aV (qW dQ aV (qW dQ aV (qW dQ aV (qW dQ aV KH))))) rfl rfl (by simp) (by show 5<=15;decide)
def QJ:attributeBase (.Dict ks vs p) m env ev=ev:=rfl
def Q1:backTo d0 (starEach [.Name x p,.Constant c k q] env)=[(false,eval (.Name x p) env),(false,eval (.Constant c k q) env)]:=rfl
def aaj:((backTo d0 (starEach [.Name x p,.Constant c k q] env)).all (λx=>!x.1)&&(backToKw d0 (keywordEach [] env)).all (λx=>x.1.isSome)
  &&decide (([.Name x p,.Constant c k q]:List Expr).length+([]:List Keyword).length+(if([]:List Keyword).isEmpty then 0 else 1)<30))=true:=rfl
def V7(hu:X.A.units+1<cLine)(ho:Gd X o td)(hx:PE X (.Name x px) tx)(line:(apos.endLine==d0.line)=true)
  (hb:∀ev:Sem Value,attributeBase o "get" X.env ev=ev):Gd X (.Call (.Attribute o "get" apos) [.Name x px,.Constant (.int d) jd pd] [] d0) (NG td tx (tC (.int d))):=by
 unfold Gd;exact Hy hu (Uh ho) hx aV {hb _,aaj,line,Q1}
def XX{C:L2.St->Hp->Prop}(h:Gd X e te)(q:∀Z H,C Z H->te Z H D.rt):∃t2,j9 X [.Return (some e) ado] t2/\∀Z H,C Z H->t2 D Z H:=
 {_,bp (cL (Uh h)),q}
noncomputable def Cp:List (Key×V):=[(.inr "r",.int 2),(.inr "s",.int 1),(.inr "rs",.int 2),(.inr "r1",.int 3),(.inr "a",.int 2)]
def Wt:((fV [] Cp).all λp=>match p.2 with| .int i=>decide (1<=i/\i<=4)|_=>false)=true:=by decide+kernel
def R0(k:Key):∃i:Int,(eX (fV [] Cp) k).getD (.int 1)=.int i/\1<=i/\i<=4:=by
 cases e:eX (fV [] Cp) k with
 |none=>exact{1,rfl,by lia,by lia}
 |some v=>
  obtain⟨p,hp,e2⟩:=a9.mp e;have q:=dA.mp Wt p (mE hp);rw[e2]at q;cases v with
  |int i=>exact{i,rfl,(bA q).1,(bA q).2}
  |_=>exact absurd q aP
def Jv:cv ["_law_feed_here","_law_name"] ["_law_feed_here","_law_name"] (bI xJ):=jE (by decide+kernel)
def OE(F:fb K "_law_length" "_law_length" xJ f fd)(T:Txt K mg)(D:Dr P w K mg base):c6 P w K mg base fD 2 f fd ["_law_feed_here","_law_name"] (B9 K):=by
 refine F.ok Jv (λ_ _ _ _ h=>by cases h;subst_vars;rfl) (λc7 A outer s H vs Q E hr h=>?_);obtain⟨fe,n,rfl,hF,k⟩:=h;have hu:=my hr;refine cut 1 (λZ H1=>Z=[some (.ref fe),some (.str n)]/\dR K fe H1/\Ext fe H H1) (XX (V7 hu Ol (pv 1) rfl (λ_=>QJ)) ?_) (λt2 ht=>{_,(aO (ka (fH Ba (cl D.iU hr (eK (pv 0) aV)) aV (iu _)) (bp (cL (dh kB aV (cl D.iU hr (eK (pv 0) aV))))) gP) ht),λtl=>?_})
 case refine_2=>
  refine{_,rfl,fe,9,rfl,hF,by decide,by decide,λi H1 i0 i1 uU pM=>?_};refine{rfl,_,rfl,?_};refine gZ (λc=>?_) (λc=>?_)
  ·refine{_,rfl,fe,4,rfl,uU,by decide,by decide,λj H2 j0 j1 qM tJ=>?_};refine{_,_,rfl,rfl,?_};exact k _ H2 ∅ ∅ qM (pM.trans tJ)
  ·exact tl _ _ ⟨rfl,uU,pM⟩
 case refine_1=>
  rintro Z H1 ⟨rfl,uU,pM⟩;intro p hp;refine{aw,Cp,?_,?_,?_}
  ·show[((V.str "r",V.int 2):V×V),(.str "s",.int 1),(.str "rs",.int 2),(.str "r1",.int 3),(.str "a",.int 2)]=_;rfl
  ·show 5<=15;decide
  have e1:upd (upd H1 p (.dK [])) p (.dK (fV [] Cp)) p=some (.dK (fV [] Cp)):=aw;refine{p,rfl,.inl {_,.inl e1},?_};refine{_,rfl,?_};refine{_,oA.k (k:=Sum.inr n) e1,?_};obtain⟨i,e,h1,h2⟩:=R0 (Sum.inr n);show Q ((eX (fV [] Cp) (Sum.inr n)).getD (.int 1)) _;rw[e];refine k i _ h1 h2 ?_ ?_
  ·rw[J4];exact uU.new hp _
  ·rw[J4];exact pM.new hp _
def Em:List Str:=rY++(["other"]:List Str)
def G8(h:∀R:L2.St->Hp->Prop,(∀σ' H',u D σ' H'->R σ' H')->t {D with nx:=R} Z H):GU t u D Z H:=h (u D) λ_ _ x=>x
abbrev oU(f:Addr)(H:Hp):List V->List (List Str)->Prop:=Paired λ(y:V)(r:List Str)=>∃b,y=.ref b/\b≠f/\H b=some (.tup (r.map V.str))
def pQ(r:List Str):Prop:=1<=r.length/\r.length<=4/\∀z∈r,z∈cV
def AE(f:Addr)(H:Hp)(kv:Key×V):Prop:=∃(z:Str)(a:Addr)(ys:List V)(rows:List (List Str)),kv=(Sum.inr z,.ref a)/\z∈Em/\a≠f/\H a=some (.lst ys)/\oU f H ys rows/\(∀r∈rows,pQ r)/\rows.length<=7
def TabAt(f:Addr)(H:Hp)(d:Addr)(kvs:List (Key×V)):Prop:=d≠f/\H d=some (.dK kvs)/\(kvs.map (·.1)).Nodup/\kvs.length<=4/\∀kv∈kvs,AE f H kv
variable{f:Addr}{H H':Hp}
def tY(h:oU f H ys rows)(e:Ext f H H'):oU f H' ys rows:=
 Paired.sN h λy r ⟨b,e1,n,hb⟩=>{b,e1,n,e _ _ n hb}
def Rr{K:Frag}(h:oU f H ys rows):eQ K H ys rows:=
 Paired.sN h λy r ⟨b,e1,n,hb⟩=>{b,e1,bq.of hb}
def AE.keep(h:AE f H kv)(e:Ext f H H'):AE f H' kv:=by obtain⟨z,a,ys,rows,e1,hz,na,ha,hr,hg,hl⟩:=h;exact{z,a,ys,rows,e1,hz,na,e _ _ na ha,tY hr e,hg,hl}
def dR.dic{K:Frag}(h:dR K f H)(hp:H p=some (.dK xs))(n:p≠f)(o:HO):dR K f (upd H p o):=by
 obtain⟨a,ns,x,y,z,hf,h1,h2,h3,hS,hn⟩:=h;refine{a,ns,x,y,z,by rw[ax n.symm];exact hf,h1,h2,h3,?_,hn};rcases hS with⟨ob,h⟩|h
 ·exact .inl {ob,by rw[ax (rM h hp λz=>by cases z)];exact h}
 ·exact .inr h
def RA{k:Key}{v:V}:(putK kvs k v).length<=kvs.length+1:=by
 unfold putK;split
 ·rw[ag];lia
 ·rw[aK];exact ak _
def Rz{k:Key}{v:V}{p:Key×V}(h:p∈putK kvs k v):p∈kvs\/p=(k,v):=by
 unfold putK at h;split at h
 ·obtain⟨q,hq,rfl⟩:=au.mp h;split
  next c=>exact .inr (by rw[c])
  next=>exact .inl hq
 ·rcases aS.mp h with q|q
  ·exact .inl q
  ·exact .inr (aC.mp q)
def L9{k:Key}{v:V}(h:(kvs.map (·.1)).Nodup):((putK kvs k v).map (·.1)).Nodup:=by
 unfold putK;split
 ·rw[bW];have e:((λx:Key×V=>x.1)∘λkv:Key×V=>if kv.1=k then(kv.1,v)else kv)=λkv=>kv.1:=by funext kv;show(if kv.1=k then(kv.1,v)else kv).1=kv.1;split<;>rfl
  rw[e];exact h
 ·next c=>
  rw[aH];refine fQ.mpr {h,by simp,λa ha b hb=>?_};rw[sE,aC]at hb;subst hb;rintro rfl;obtain⟨q,hq,e⟩:=au.mp ha;exact c (lA.mpr {q,hq,aY e})
end
section
variable{P:Program}{w:World}{K:Frag}{mg:Str->Option Value}{base:Heap}
structure Dl(P:Program)(w:World)(K:Frag)(mg:Str->Option Value)(base:Heap):Prop extends Dr P w K mg base where
 Cs:eC P w K mg base 2 "_law_length" ["_law_feed_here","_law_name"] (B9 K)
inductive GZ(K:Frag)(vs:List V)(H:Hp)(Q:VK)(_x3:XK):Prop
 |mk (f nl vl:Addr) (pF lZ:List Str) (_:vs=[.ref f,.ref nl,.ref vl]) (_:dR K f H) (_:nl≠f) (_:vl≠f) (_:H nl=some (.lst (pF.map V.str))) (_:pF.length<=4) (_:(∀z∈pF,z∈Em)) (_:H vl=some (.lst (lZ.map V.str))) (_:1<=lZ.length) (_:lZ.length<=4) (_:(∀z∈lZ,z∈cV)) (_:∀(d:Addr)(kvs:List (Key×V))(H':Hp),dR K f H'->Ext f H H'->TabAt f H' d kvs->H d=none->Q (.ref d) H')
def oF:cv ["_law_feed_here","_law_names_here","_law_values_here","_law_tables_here","_law_name","_law_rows","_law_k"] ["_law_feed_here","_law_names_here","_law_values_here"] (bI xI):=jE (by decide+kernel)
def OD(F:fb K "_law_tables" "_law_tables" xI f fd)(T:Txt K mg)(D:Dl P w K mg base):c6 P w K mg base fD 3 f fd ["_law_feed_here","_law_names_here","_law_values_here"] (GZ K):=by
 refine F.ok oF (λ_ _ _ _ h=>by cases h;subst_vars;rfl) (λc7 A outer s H vs Q E hr h=>?_);obtain⟨fe,nl,vl,pF,lZ,rfl,hF,zS,wQ,DL,BP,ZD,Ae,hv1,UN,hv3,k⟩:=h;have hu:=my hr;refine{_,(aO (gk 3 oF qY)
   (aO (hG bZ rfl (gn (pv 1)) (kA 4 oF)
   (aO (gk 5 oF (hJ ju))
   (aO (hG bZ rfl (mR rfl T.q9 (cw (cl D.iU hr (eK (pv 0) aV)))) (kA 6 oF)
   (bp (jI (mn cx d8 d6 mU (pv 5) (cw (eU dW rfl T.jJ (by decide+kernel) (cw (jq rfl (eG (fs:=["_law_values_here","_law_feed_here"]) (fr:=[2,0])) (mR rfl T.q9 (cw (cl D.Cs hr (eK (pv 0) (pv 4))))) (λ_ _ _ _=>(cA (Ik (K:=K)) (pv 1) (cl D.iU hr (eK (pv 2) (cQ (As (K:=K)) rfl T.jS cH (cw (pv 1))))) (λ_ _=>rfl)))))))))))
   (aO (ka (PW.pt (Og (fH Gu (cQ gF rfl T.jS cH (cw (pv 5))) aV (iu _)) (KG (fH Ba (cl D.iU hr (eK (pv 0) aV)) aV (iu _))))) (bp (jI (mn cx d8 d6 mU (pv 5) (cw (cA fI (pv 5) aV (λ_ _=>rfl)))))) gP)
   (bp (ka (PW.pt (Ue (fH Gu (cQ gF rfl T.jS cH (cw (pv 5))) aV (iu _)) (Of (fH Ba (cl D.iU hr (eK (pv 0) aV)) aV (iu _))))) (bp (Ew hu (pv 3) (pv 4) (pv 5) rfl)) gP))))))
   (bp (cL (pv 3))))),?_}
 intro d hd;have nd:=hF.uJ hd;have lvl:(lZ.map V.str).length=lZ.length:=ag _;have acQ:upd H d (.dK []) nl=some (.lst (pF.map V.str)):=by rw[ax (aX DL hd)];exact DL
 refine{_,rfl,nl,rfl,{_,bw.of acQ},o8 (K:=K) (a:=nl) (xs:=pF.map V.str)
  (λi Z H2=>∃(x4 x5 x6:Option V)(kvs:List (Key×V)),Z=[some (.ref fe),some (.ref nl),some (.ref vl),some (.ref d),x4,x5,x6]/\dR K fe H2/\Ext fe H H2/\H2 d=some (.dK kvs)/\(kvs.map (·.1)).Nodup/\kvs.length<=i/\∀kv∈kvs,AE fe H2 kv)
  {none,none,none,[],rfl,hF.new hd _,(Ext.refl fe H).new hd _,aw,kJ,ak _,λkv h=>by cases h} ?_ ?_ ?_}
 ·rintro i Z H2 hi ⟨x4,x5,x6,kvs,rfl,qM,tJ,hd2,DC,jF,DO⟩;exact bw.of (tJ _ _ zS DL)
 ·rintro i x Z H2 hx ⟨x4,x5,x6,kvs,rfl,qM,tJ,hd2,DC,jF,DO⟩;obtain⟨z,hz,rfl⟩:=a9.mp (by rw[<-aJ];exact hx);have li:i<pF.length:=(ar.mp hz).1;have zp:=ZD z (aG hz);refine{(by show 0<=sizeLine;decide),λrl Li=>?_};have Dz:=qM.uJ Li;have rl0:H rl=none:=tJ.none Dz Li;have x3:Ext fe H2 (upd H2 rl (.lst [])):=(Ext.refl fe H2).new Li _;refine{_,rfl,fe,7,rfl,qM.new Li _,by decide,by decide,λi3 H3 j0 j1 Lu F3=>?_};have ac5:=x3.trans F3;have nrv:vl≠rl:=aX Ae rl0;refine{_,rfl,by lia,by lia,sj (lo:=0) (n:=i3.toNat)
   (λj Z H4=>∃(y6:Option V)(ys:List V)(rows:List (List Str)),Z=[some (.ref fe),some (.ref nl),some (.ref vl),some (.ref d),some (.str z),some (.ref rl),y6]/\dR K fe H4/\Ext fe H2 H4/\H4 rl=some (.lst ys)/\oU fe H4 ys rows/\(∀r∈rows,pQ r)/\rows.length=j)
   {x6,[],[],rfl,Lu,ac5,F3 _ _ Dz aw,.nil,λr h=>(by cases h),rfl} ?_ ?_}
  ·rintro j Z H4 hj ⟨y6,ys,rows,rfl,xh,xk,EG,vP,FV,PX⟩;have ly:ys.length=rows.length:=vP.length;refine{_,rfl,.inl {rfl,_,bw.of EG},_,rfl,_,rfl,fe,z,rfl,xh,λi6 H6 l1 l2 xg su=>?_};refine{_,rfl,by lia,by lia,λj m zs H7=>∃ts:List Str,zs=ts.map V.str/\ts.length=j/\j<=i6.toNat/\m=i6.toNat -j/\dR K fe H7/\Ext fe H6 H7/\∀t∈ts,t∈cV,{_,[],rfl,rfl,aR _,rfl,xg,Ext.refl _ _,λt h=>by cases h},?_};rintro j5 m5 zs H7 ⟨ts,rfl,bR,hle,rfl,vV,pK,kN⟩;have aak:=(xk.trans su).trans pK;by_cases lt5:j5<i6.toNat
   ·refine .inr {lt5,by rw[ag,bR];exact bH ∅,?_};rintro v H8 ⟨rfl,rfl⟩;have Y8:=(tJ.trans aak) _ _ wQ Ae;refine h9 ?_;refine{_,rfl,_,rfl,_,rfl,_,_,rfl,.inl {_,bw.of Y8,rfl},fe,_,rfl,vV,by lia,by lia,λi8 H9 n0 n1 yP DU=>?_};obtain⟨z9,yJ,ev9⟩:=Ci (zs:=lZ) n0 ∅;refine{_,_,_,_,rfl,rfl,bw.of (DU _ _ wQ Y8),ev9,?_};refine{i6.toNat -(j5+1),by lia,ts++[z9],by rw[aH];rfl,by rw[aK,bR];rfl,lt5,rfl,yP,pK.trans DU,λt h=>?_};rcases aS.mp h with q|q
    ·exact kN t q
    ·rw[aC.mp q];exact hv3 z9 yJ
   ·refine .inl {by show i6.toNat<=j5;lia,by rw[ag,bR];exact bg (bH ∅),λl hl=>?_};refine{_,_,rfl,.inl {bw.of aw,λtt lN=>?_}};have Sm:=pK _ _ Dz (su _ _ Dz EG);have n1:rl≠l:=aX Sm hl;have acG:H7 tt=none:=by
     have:tt≠l:=λe=>by rw[e,aw]at lN;cases lN
     rw[ax this]at lN;exact lN
    have n2:rl≠tt:=aX Sm acG;have Sl:upd (upd H7 l (.lst (ts.map V.str))) tt (.tup (ts.map V.str)) rl=some (.lst ys):=by rw[ax n2,ax n1];exact Sm
    refine{_,_,_,rfl,rfl,Sl,bH ∅,?_};have vU:=vV.new hl (.lst (ts.map V.str));have yP:=vU.new lN (.tup (ts.map V.str));have x8:Ext fe H7 (upd H7 l (.lst (ts.map V.str))):=(Ext.refl fe H7).new hl _;have x9:Ext fe H7 (upd (upd H7 l (.lst (ts.map V.str))) tt (.tup (ts.map V.str))):=x8.new lN _;have BE:=vU.uJ lN;have PB:oU fe (upd (upd (upd H7 l (.lst (ts.map V.str))) tt (.tup (ts.map V.str))) rl (.lst (ys++[.ref tt]))) (ys++[.ref tt]) (rows++[ts]):=by
     refine Paired.Dd (Paired.sN (tY vP ((su.trans pK).trans x9)) λy r ⟨b,e1,nb,hb⟩=>{b,e1,nb,?_}) {tt,rfl,BE,?_}
     ·rw[ax (rM hb Sl λz=>by cases z)];exact hb
     ·rw[ax n2.symm,aw]
    refine{_,_,rows++[ts],rfl,yP.lst Sl Dz _,(aak.trans x9).own Li _,aw,PB,λr h=>?_,by rw[aK,PX];rfl};rcases aS.mp h with q|q
    ·exact FV r q
    ·rw[aC.mp q];exact{by lia,by lia,kN}
  ·rintro Z H4 ⟨y6,ys,rows,rfl,xh,xk,EG,vP,FV,PX⟩;have ly:ys.length=rows.length:=vP.length;have fin:∀(H5:Hp)(ys:List V)(rows:List (List Str)),dR K fe H5->Ext fe H2 H5->H5 rl=some (.lst ys)->oU fe H5 ys rows->(∀r∈rows,pQ r)->rows.length<=7->(∃(x4 x5 x6:Option V)(xV:List (Key×V)),[some (V.ref fe),some (.ref nl),some (.ref vl),some (.ref d),some (.str z),some (.ref rl),y6]=[some (.ref fe),some (.ref nl),some (.ref vl),some (.ref d),x4,x5,x6]/\dR K fe (upd H5 d (.dK (putK kvs (Sum.inr z) (.ref rl))))/\Ext fe H (upd H5 d (.dK (putK kvs (Sum.inr z) (.ref rl))))/\upd H5 d (.dK (putK kvs (Sum.inr z) (.ref rl))) d=some (.dK xV)/\(xV.map (·.1)).Nodup/\xV.length<=i+1/\∀kv∈xV,AE fe (upd H5 d (.dK (putK kvs (Sum.inr z) (.ref rl)))) kv):=λH5 ys rows qw lO Cy Ah UY tH=>by
    have IT:=lO _ _ nd hd2;have nrd:rl≠d:=λe=>by rw[e,IT]at Cy;cases Cy
    have keep:∀{a:Addr}{o:HO},H5 a=some o->a≠d->upd H5 d (.dK (putK kvs (Sum.inr z) (.ref rl))) a=some o:=λh n=>by rw[ax n];exact h
    have keepR:∀{ys:List V}{rows:List (List Str)},oU fe H5 ys rows->oU fe (upd H5 d (.dK (putK kvs (Sum.inr z) (.ref rl)))) ys rows:=λh=>Paired.sN h λy r ⟨b,e1,nb,hb⟩=>{b,e1,nb,keep hb λe=>by rw[e,IT]at hb;cases hb};refine{_,_,_,_,rfl,qw.dic IT nd _,(tJ.trans lO).own hd _,aw,L9 DC,aF RA (Nat.add_le_add_right jF 1),λkv mC=>?_};rcases Rz mC with q|rfl
    ·obtain⟨z',a,gQ,Gp,e1,uP,na,ha,mz,IP,mV⟩:=(DO kv q).keep lO;exact{z',a,gQ,Gp,e1,uP,na,keep ha (λe=>by rw[e,IT]at ha;cases ha),keepR mz,IP,mV}
    ·exact{z,rl,ys,rows,rfl,zp,Dz,keep Cy nrd,keepR Ah,UY,tH}
   have fin2:∀(H5:Hp)(q:L2.St),q=[some (V.ref fe),some (.ref nl),some (.ref vl),some (.ref d),some (.str z),some (.ref rl),y6]->dR K fe H5->Ext fe H2 H5->(∃(x4 x5 x6:Option V)(xV:List (Key×V)),q=[some (.ref fe),some (.ref nl),some (.ref vl),some (.ref d),x4,x5,x6]/\dR K fe H5/\Ext fe H H5/\H5 d=some (.dK xV)/\(xV.map (·.1)).Nodup/\xV.length<=i+1/\∀kv∈xV,AE fe H5 kv):=λH5 q eq qw lO=>
    {_,_,_,kvs,eq,qw,tJ.trans lO,lO _ _ nd hd2,DC,by lia,λkv h=>(DO kv h).keep lO}
   with_reducible change GU _ _ _ _ _
   refine G8 λR hR=>?_;have second:∀(H5:Hp)(ys:List V)(rows:List (List Str)),dR K fe H5->Ext fe H2 H5->H5 rl=some (.lst ys)->oU fe H5 ys rows->(∀r∈rows,pQ r)->rows.length<=7->R [some (V.ref fe),some (.ref nl),some (.ref vl),some (.ref d),some (.str z),some (.ref rl),y6] H5:=by
    intro H5 ys rows qw lO Cy Ah UY tH;refine hR _ _ ?_;refine{_,rfl,_,_,rfl,.inl {_,bw.of Cy,rfl},_,_,rfl,rfl,_,rfl,?_};refine gZ (λc=>?_) (λc=>?_)
    ·refine Im ?_;exact{_,rfl,_,rfl,_,rfl,d,_,rfl,.inl {kvs,Sum.inr z,lO _ _ nd hd2,rfl,bH ∅,rfl},fin H5 ys rows qw lO Cy Ah UY tH}
    ·refine{_,rfl,fe,3,rfl,qw,by decide,by decide,λi6 H6 k0 k1 xg su=>{rfl,_,rfl,?_}};have EJ:=lO.trans su;refine gZ (λc=>?_) (λc=>?_)
     ·exact{_,rfl,_,rfl,_,rfl,d,_,rfl,.inl {kvs,Sum.inr z,EJ _ _ nd hd2,rfl,bH ∅,rfl},fin H6 ys rows xg EJ (su _ _ Dz Cy) (tY Ah su) UY tH}
     ·exact fin2 H6 _ rfl xg EJ
   refine{_,rfl,_,_,rfl,.inl {_,bw.of EG,rfl},_,_,rfl,rfl,_,rfl,?_};refine gZ (λc=>?_) (λc=>?_)
   ·have c:(1:Int)<(ys.length:Int):=bA c;refine{_,rfl,fe,4,rfl,xh,by decide,by decide,λi6 H6 k0 k1 xg su=>{rfl,_,rfl,?_}};have EJ:=xk.trans su;have uQ:=su _ _ Dz EG;have US:=tY vP su;refine gZ (λc=>?_) (λc=>?_)
    ·match ys,rows,US,uQ,FV,PX,ly with
     |[],_,_,_,_,_,_=>simp at*
     |y::gQ,r::Gp,US,uQ,FV,PX,ly=>
      refine{_,rfl,.inl {rfl,_,bw.of uQ},_,rfl,_,_,_,_,rfl,rfl,bw.of uQ,(jN (j:=0) rfl:u4 (y::gQ) 0=some y),_,_,_,rfl,rfl,uQ,bH ∅,?_};have PD:oU fe (upd H6 rl (.lst (y::gQ++[y]))) (y::gQ++[y]) (r::Gp++[r]):=by
       have kp:∀(y:V)(r:List Str),(∃b,y=.ref b/\b≠fe/\H6 b=some (.tup (r.map V.str)))->∃b,y=.ref b/\b≠fe/\upd H6 rl (.lst (y::gQ++[y])) b=some (.tup (r.map V.str)):=λy r ⟨b,e1,nb,hb⟩=>{b,e1,nb,by rw[ax (rM hb uQ λz=>by cases z)];exact hb};have kp:∀(o:HO)(y:V)(r:List Str),(∃b,y=.ref b/\b≠fe/\H6 b=some (.tup (r.map V.str)))->∃b,y=.ref b/\b≠fe/\upd H6 rl o b=some (.tup (r.map V.str)):=λo y r ⟨b,e1,nb,hb⟩=>{b,e1,nb,by rw[ax (rM hb uQ λz=>by cases z)];exact hb};cases US with
       |cons h0 ht=>exact Paired.Dd (.cons (kp _ _ _ h0) (Paired.sN ht (kp _))) (kp _ _ _ h0)
      refine second _ _ (r::Gp++[r]) (xg.lst uQ Dz _) (EJ.own Li _) aw PD (λr' h=>?_) (by rw[aK,PX];show i3.toNat+1<=7;lia);rcases aS.mp h with q|q
      ·exact FV r' q
      ·rw[aC.mp q];exact FV r aA
    ·exact second H6 ys rows xg EJ uQ US FV ∅
   ·exact Cw (second H4 ys rows xh xk EG vP FV ∅)
 ·rintro Z H2 ⟨x4,x5,x6,kvs,rfl,qM,tJ,hd2,DC,jF,DO⟩;rw[ag]at jF;exact{_,rfl,k d kvs H2 qM tJ {nd,hd2,DC,by lia,DO} hd}
def eE(H H':Hp):Prop:=∀b xs,H b=some (.tup xs)->H' b=some (.tup xs)
def eE.trans(a:eE H H1)(b:eE H1 H2):eE H H2:=λc xs h=>b c xs (a c xs h)
def eE.of{H H':Hp}(a:bD H H'):eE H H':=λc xs h=>a c _ h
def eE.refl(H:Hp):eE H H:=λ_ _ h=>h
def eE.new(a:eE H H1)(h:H1 p=none)(o:HO):eE H (upd H1 p o):=λb xs q=>by rw[ax (aX (a b xs q) h)];exact a b xs q
def eE.lst(a:eE H H1)(h:H1 p=some (.lst ys))(o:HO):eE H (upd H1 p o):=λb xs q=>by rw[ax (rM (a b xs q) h λz=>by cases z)];exact a b xs q
def eE.ext(hf:H f=some (.lst ys))(a:Ext f H H1):eE H H1:=λb xs q=>a b _ (rM q hf λz=>by cases z) q
def dR.kY{K:Frag}(h:dR K f H)(a:Ext f H H1):eE H H1:=by obtain⟨_,_,_,_,_,hf,_⟩:=h;exact eE.ext hf a
def nE(H:Hp)(v:V)(a:Str×List Str):Prop:=∃(p t:Addr),v=.ref p/\H p=some (.tup [.str a.1,.ref t])/\H t=some (.tup (a.2.map V.str))
abbrev eI(H:Hp):List V->List (Str×List Str)->Prop:=Paired (nE H)
def nE.keep(a:eE H H')(h:nE H v b):nE H' v b:=by obtain⟨p,t,e,h1,h2⟩:=h;exact{p,t,e,a _ _ h1,a _ _ h2}
def eI.keep(a:eE H H')(h:eI H vs ats):eI H' vs ats:=Paired.imp' (λ_ _ q=>q.keep a) h
def oK(H:Hp)(v:V)(hz:List Str)(ats:List (Str×List Str)):Prop:=∃(q h a:Addr)(vs:List V),v=.ref q/\H q=some (.tup [.ref h,.ref a])/\H h=some (.tup (hz.map V.str))/\H a=some (.tup vs)/\eI H vs ats
def u6:List Str:=rY
def cB(ats:List (Str×List Str)):List Str:=(ats.map (·.2)).flatten
def M5(l:List (Str×List Str))(a:Str×List Str):cB (l++[a])=cB l++a.2:=by unfold cB;rw[aH,List.flatten_append];simp
def DS{ats:List (Str×List Str)}(h:ats[i]?=some a):cB (ats.take (i+1))=cB (ats.take i)++a.2:=by rw[bx,h];exact M5 _ _
def VD:(cV.all λz=>!isUnk z)=true:=by decide+kernel
def Jo(hz:List Str)(ats:List (Str×List Str)):Prop:=hz.length<=4/\∀z∈hz,z∈gf/\(isUnk z=true->z∈cB ats)
def ug(H:Hp)(p:Addr)(zs:List Str):Prop:=H p=some (.lst (zs.map V.str))/\1<=zs.length/\zs.length<=8/\∀z∈zs,z∈gf
def Good(ats:List (Str×List Str)):Prop:=∀a∈ats,a.2.length<=4/\(∀z∈a.2,z∈gf)/\1<=a.2.length/\a.1∈u6
end
inductive C8(K:Frag)(vs:List V)(H:Hp)(Q:VK)(_x3:XK):Prop
 |mk (f nl vl:Addr) (most:Int) (pF lZ:List Str) (_:vs=[.ref f,.ref nl,.ref vl,.int most]) (_:dR K f H) (_:nl≠f) (_:vl≠f) (_:H nl=some (.lst (pF.map V.str))) (_:1<=pF.length) (_:pF.length<=8) (_:(∀z∈pF,z∈u6)) (_:ug H vl lZ) (_:(∀z∈lZ,z∈cV)) (_:1<=most) (_:most<=8) (_:∀(r:Addr)(hz:List Str)(ats:List (Str×List Str))(H':Hp),dR K f H'->Ext f H H'->oK H' (.ref r) hz ats->1<=ats.length->(ats.length:Int)<=most->Good ats->Jo hz ats->Q (.ref r) H')
section
variable{P:Program}{w:World}{K:Frag}{mg:Str->Option Value}{base:Heap}
structure Dr3(P:Program)(w:World)(K:Frag)(mg:Str->Option Value)(base:Heap):Prop extends Dr2 P w K mg base where
 Cs:eC P w K mg base 2 "_law_length" ["_law_feed_here","_law_name"] (B9 K)
def RX(h:Good ats):∀z∈cB ats,z∈gf:=λz hz=>by obtain⟨ts,h1,h2⟩:=k7.mp hz;obtain⟨a,h3,rfl⟩:=au.mp h1;exact(h a h3).2.1 z h2
theorem EE:∀l:List (Str×List Str),(∀a∈l,a.2.length<=4)->(cB l).length<=4*l.length
 |[],_=>ak _
 |a::r,q=>by have h1:=EE r λts kN=>q ts (az _ kN);have h2:=q a aA;show(a.2++cB r).length<=_;rw[aK,aZ];lia
def Ib(h:Good ats)(n:Nat):(cB (ats.take n)).length<=4*n:=by
 have h1:=EE (ats.take n) λts kN=>(h ts (eJ kN)).1;have h2:(ats.take n).length<=n:=by rw[aU];lia
 lia
def dG:cv ["_law_feed_here","_law_names_here","_law_values_here","_law_most","_law_unknowns","_law_atoms","_law_k","_law_name","_law_terms","_law_j","_law_some","_law_head"] ["_law_feed_here","_law_names_here","_law_values_here","_law_most"] (bI uA):=jE (by decide+kernel)
def jt(h:∀T,T=u->GU t T D Z H):GU t u D Z H:=h u rfl
def JA(F:fb K "_law_question" "_law_question" uA f fd)(T:Txt K mg)(D:Dr3 P w K mg base):c6 P w K mg base fD 3 f fd ["_law_feed_here","_law_names_here","_law_values_here","_law_most"] (C8 K):=by
 refine F.ok dG (λ_ _ _ _ h=>by cases h;subst_vars;rfl) (λc7 A outer s H vs Q E hr h=>?_);obtain⟨fe,nl,vl,most,pF,lZ,rfl,hF,zS,wQ,DL,PK,BP,ZD,Ae,hvp,hm1,PM,k⟩:=h;refine{_,(aO (gk 4 dG (cl D.Ie hr (tE (pv 0) (hJ (fk dQ (fk dQ (fk dQ (tE dQ dQ dQ))))) (dh kB aV (cl D.iU hr (eK (pv 0) aV))))))
   (aO (gk 5 dG (hJ ju))
   (aO (hG bZ rfl (mR rfl T.q9 (cw (dh kB aV (cl D.iU hr (eK (pv 0) (pv 3)))))) (kA 6 dG)
   (aO (gk 7 dG (cA fI (pv 1) (cl D.iU hr (eK (pv 0) (cQ gF rfl T.jS cH (cw (pv 1))))) (λ_ _=>rfl)))
   (aO (gk 8 dG (hJ ju))
   (aO (hG bZ rfl (mR rfl T.q9 (cw (cl D.Cs hr (eK (pv 0) (pv 7))))) (kA 9 dG)
   (aO (gk 10 dG (cA fI (hJ (fk (pv 4) (fk (pv 4) (tE (pv 4) (pv 4) (pv 2))))) (cl D.iU hr (eK (pv 0) aV)) (λ_ _=>rfl)))
   (bp (jI (mn cx d8 d6 mU (pv 8) (cw (cA fI (pv 10) (cl D.iU hr (eK (pv 0) (cQ gF rfl T.jS cH (cw (pv 10))))) (λ_ _=>rfl))))))))
   (bp (jI (mn cx d8 d6 mU (pv 5) (cw (ir (eK (pv 7) (eU dW rfl T.jJ (by decide+kernel) (cw (pv 8)))))))))))))
   (aO (gk 10 dG (hJ ju))
   (aO (hG bZ rfl (gn (pv 5)) (lL rfl (cK (kA 7 dG) (cK (kA 8 dG) iD)))
   (bp (jI (mn cx ng m8 Mp (pv 10) (cw (pv 8))))))
   (aO (gk 11 dG (hJ ju))
   (aO (hG bZ rfl (mR rfl T.q9 (cw (cl D.iU hr (eK (pv 0) aV)))) (kA 6 dG)
   (bp (jI (mn cx d8 d6 mU (pv 11) (cw (cA fI (dh Oy (pv 10) (pv 2)) (cl D.iU hr (eK (pv 0) (dh kB (cQ gF rfl T.jS cH (cw (pv 10))) (cQ gF rfl T.jS cH (cw (pv 2)))))) (λ_ _=>rfl)))))))
   (bp (cL (ir (eK (eU dW rfl T.jJ (by decide+kernel) (cw (pv 11))) (eU dW rfl T.jJ (by decide+kernel) (cw (pv 5)))))))))))))),?_}
 refine jt λT1 e1=>?_;refine{_,rfl,(by show 6<=sizeLine;decide),λp hp=>?_};have np:=hF.uJ hp;refine{_,rfl,fe,4,rfl,hF.new hp _,by decide,by decide,λi H1 i0 i1 uU pM=>?_};have Ak:=pM p _ np aw;refine{_,_,rfl,rfl,fe,p,_,_,rfl,uU,np,Ak,by decide,by decide,by lia,by lia,λu ys H2 qM tJ nu qt hl hy=>?_};obtain⟨us,rfl,Le⟩:=A6 (texts:=js) hy;rw[ag]at hl;have x2:Ext fe H H2:=((Ext.refl fe H).new hp _).trans (pM.trans tJ);have Z5:ug H2 u us:={qt,by lia,by lia,λz hz=>b6 _ (b6 _ (Le z hz))};show T1 _ _ _;subst e1;refine jt λT2 e2=>?_;refine{(by show 0<=sizeLine;decide),λat' P5=>?_};have na:=qM.uJ P5;have acZ:H at'=none:=x2.none na P5;have rP:∀{H3 H4:Hp}{q:Addr}{zs:List Str},q≠fe->Ext fe H3 H4->ug H3 q zs->ug H4 q zs:=λn e h=>{e _ _ n h.1,h.2};have nua:u≠at':=aX Z5.1 P5;show T2 _ _ _;subst e2;refine jt λT3 e3=>?_;refine{_,rfl,_,rfl,fe,most,rfl,qM.new P5 _,by lia,by lia,λi3 H3 j0 j1 Lu F3=>?_};refine{_,_,rfl,rfl,_,rfl,by lia,by lia,sj (lo:=0) (n:=(1+i3).toNat)
  (λi Z H4=>∃(x6 x7 x8 x9 Tu:Option V)(ij:List V)(ats:List (Str×List Str)),Z=[some (.ref fe),some (.ref nl),some (.ref vl),some (.int most),some (.ref u),some (.ref at'),x6,x7,x8,x9,Tu,none]/\dR K fe H4/\Ext fe H H4/\H4 at'=some (.lst ij)/\eI H4 ij ats/\ats.length=i/\Good ats/\ug H4 u us) ?_ ?_ ?_}
 ·refine{none,none,none,none,none,[],[],rfl,Lu,(x2.new P5 _).trans F3,F3 _ _ na aw,.nil,rfl,λts h=>by(cases h),rP nu F3 {?_,Z5.2}};rw[ax nua];exact Z5.1
 ·rintro i Z H4 hi ⟨x6,x7,x8,x9,Tu,ij,ats,rfl,xh,xk,Qc,sQ,hlen,good,hU4⟩;refine jt λT4 e4=>?_;have acP:=xk _ _ zS DL;have lnm:(pF.map V.str).length=pF.length:=ag _;refine{_,rfl,_,rfl,_,rfl,_,_,rfl,.inl {_,bw.of acP,rfl},fe,_,rfl,xh,by lia,by lia,λi5 H5 k0 k1 qw lO=>?_};have SO:=xk.trans lO;obtain⟨z,hz,ev⟩:=Ci (zs:=pF) k0 ∅;refine{_,_,_,_,rfl,rfl,bw.of (SO _ _ zS DL),ev,?_};show T4 _ _ _;subst e4;refine jt λT5 e5=>?_;refine{(by show 0<=sizeLine;decide),λt ht=>?_};have nt:=qw.uJ ht;have UQ:H t=none:=SO.none nt ht;have BV:=lO _ _ na Qc;have Z4:=rP nu lO hU4;have nta:at'≠t:=aX BV ht;have nut:u≠t:=aX Z4.1 ht;show T5 _ _ _;subst e5;refine jt λT6 e6=>?_;refine{_,rfl,_,rfl,fe,z,rfl,qw.new ht _,λi6 H6 l1 l2 xg su=>?_};refine{_,rfl,by lia,by lia,sj (lo:=0) (n:=i6.toNat)
   (λj Z H7=>∃(y9 Xa:Option V)(ts:List Str),Z=[some (.ref fe),some (.ref nl),some (.ref vl),some (.int most),some (.ref u),some (.ref at'),some (.int (0+(i:Int))),some (.str z),some (.ref t),y9,Xa,none]/\dR K fe H7/\Ext fe H H7/\H7 at'=some (.lst ij)/\eI H7 ij ats/\ug H7 u us/\H7 t=some (.lst (ts.map V.str))/\ts.length=j/\∀z∈ts,z∈gf) ?_ ?_ ?_}
  ·have tu:eE H4 H6:=(xh.kY lO).trans (((eE.refl _).new ht _).trans ((qw.new ht _).kY su));refine{x9,Tu,[],rfl,xg,(SO.new ht _).trans su,?_,sQ.keep tu,rP nu su {?_,Z4.2},su _ _ nt aw,rfl,λz h=>by(cases h)}
   ·exact su _ _ na (by rw[ax nta];exact BV)
   ·rw[ax nut];exact Z4.1
  ·rintro j Z H7 hj ⟨y9,Xa,ts,rfl,vV,pK,xi,Gx,yO,Lf,bR,kN⟩;have hV7:ug H7 vl lZ:=rP wQ pK Ae;refine jt λT7 e7=>?_;refine{_,rfl,_,rfl,_,rfl,_,rfl,_,rfl,(by show 5<=sizeLine;decide),λp8 PH=>?_};have np8:=vV.uJ PH;refine{_,rfl,fe,5,rfl,vV.new PH _,by decide,by decide,λi8 H8 m0 m1 vU F2=>?_};have ya:Ext fe H7 H8:=((Ext.refl fe H7).new PH _).trans F2;have tu8:eE H7 H8:=((eE.refl _).new PH _).trans ((vV.new PH _).kY F2);obtain⟨wa,ws,hw,nw,ev8⟩:∃wa ws,ug H8 wa ws/\wa≠fe/\u4 [V.ref u,.ref u,.ref u,.ref u,.ref vl] i8=some (.ref wa):=by
    have c:i8=0\/i8=1\/i8=2\/i8=3\/i8=4:=by lia
    rcases c with rfl|rfl|rfl|rfl|rfl
    ·exact{u,us,rP nu ya yO,nu,rfl}
    ·exact{u,us,rP nu ya yO,nu,rfl}
    ·exact{u,us,rP nu ya yO,nu,rfl}
    ·exact{u,us,rP nu ya yO,nu,rfl}
    ·exact{vl,lZ,rP wQ ya hV7,wQ,rfl}
   refine{_,_,_,_,rfl,rfl,bw.of (F2 _ _ np8 aw),ev8,?_};show T7 _ _ _;subst e7;have Iw:=ya _ _ nt Lf;have lws:(ws.map V.str).length=ws.length:=ag _;have hw1:=hw.2.1;have hw2:=hw.2.2.1;refine{_,rfl,.inl {rfl,_,bw.of Iw},_,rfl,_,rfl,_,rfl,_,_,rfl,.inl {_,bw.of hw.1,rfl},fe,_,rfl,vU,by lia,by lia,λi9 H9 n0 n1 yP DU=>?_};obtain⟨z9,yJ,ev9⟩:=Ci (zs:=ws) n0 ∅;have Zh:=DU _ _ nt Iw;refine{_,_,_,_,rfl,rfl,bw.of (DU _ _ nw hw.1),ev9,_,_,_,rfl,rfl,Zh,by rw[ag];exact bH ∅,?_};have tu9:eE H7 (upd H9 t (.lst (ts.map V.str++[.str z9]))):=(tu8.trans (vU.kY DU)).lst Zh _;refine{_,_,ts++[z9],rfl,yP.lst Zh nt _,(pK.trans (ya.trans DU)).own UQ _,?_,Gx.keep tu9,{?_,yO.2},by rw[aw,aH];rfl,by rw[aK,bR];rfl,λz h=>?_}
   ·rw[ax nta];exact DU _ _ na (ya _ _ na xi)
   ·rw[ax nut];exact DU _ _ nu (ya _ _ nu yO.1)
   ·rcases aS.mp h with q|q
    ·exact kN z q
    ·rw[aC.mp q];exact hw.2.2.2 z9 yJ
  ·rintro Z H7 ⟨y9,Xa,ts,rfl,vV,pK,xi,Gx,yO,Lf,bR,kN⟩;show T6 _ _ _;subst e6;refine{_,rfl,.inl {rfl,_,bw.of xi},_,rfl,_,rfl,_,_,rfl,.inl {bw.of Lf,λtt lN=>?_}};refine{(by show 2<=sizeLine;decide),λap BS=>?_};have BE:=vV.uJ lN;have vU:=vV.new lN (.tup (ts.map V.str));have nap:=vU.uJ BS;have FZ:upd (upd H7 tt (.tup (ts.map V.str))) ap (.tup [.str z,.ref tt]) at'=some (.lst ij):=by rw[ax (aX (by rw[ax (aX xi lN)];exact xi) BS),ax (aX xi lN)];exact xi
   have la:ij.length=ats.length:=bh Gx;refine{_,_,_,rfl,rfl,FZ,bH ∅,?_};have tu:eE H7 (upd (upd (upd H7 tt (.tup (ts.map V.str))) ap (.tup [.str z,.ref tt])) at' (.lst (ij++[.ref ap]))):=(((eE.refl _).new lN _).new BS _).lst FZ _;have abZ:tt≠at':=(aX xi lN).symm;have abY:ap≠at':=λe=>by rw[e,ax (aX xi lN),xi]at BS;cases BS
   have abX:tt≠ap:=λe=>by rw[<-e,aw]at BS;cases BS
   refine{_,_,_,_,_,ij++[.ref ap],ats++[(z,ts)],rfl,(vU.new BS _).lst FZ na _,((pK.new lN _).new BS _).own acZ _,aw,Paired.Dd (Gx.keep tu) {ap,tt,rfl,?_,?_},by rw[aK,hlen];rfl,λJ3 h=>?_,{?_,yO.2}}
   ·rw[ax abY,aw]
   ·rw[ax abZ,ax abX,aw]
   ·rcases aS.mp h with q|q
    ·exact good J3 q
    ·rw[aC.mp q];exact{by show ts.length<=4;lia,kN,by show 1<=ts.length;lia,ZD z hz}
   ·rw[ax nua,ax (aX (by rw[ax (aX yO.1 lN)];exact yO.1) BS),ax (aX yO.1 lN)];exact yO.1
 ·rintro Z H4 ⟨x6,x7,x8,x9,Tu,ij,ats,rfl,xh,xk,Qc,sQ,hlen,good,hU4⟩;have la:ij.length=ats.length:=bh sQ;show T3 _ _ _;subst e3;refine jt λT8 e8=>?_;refine{(by show 0<=sizeLine;decide),λsm Lg=>?_};have Ul:=xh.uJ Lg;have acI:H sm=none:=xk.none Ul Lg;have Yi:at'≠sm:=aX Qc Lg;show T8 _ _ _;subst e8;refine jt λT11 e11=>?_;refine{_,rfl,at',rfl,{ij,bw.of (by rw[ax Yi];exact Qc)},o8 (K:=K) (a:=at') (xs:=ij)
   (λi Z H5=>∃(x7 x8:Option V),Z=[some (.ref fe),some (.ref nl),some (.ref vl),some (.int most),some (.ref u),some (.ref at'),x6,x7,x8,x9,some (.ref sm),none]/\dR K fe H5/\Ext fe H H5/\H5 at'=some (.lst ij)/\eI H5 ij ats/\H5 sm=some (.lst ((cB (ats.take i)).map V.str)))
   {x7,x8,rfl,xh.new Lg _,xk.new Lg _,by rw[ax Yi];exact Qc,sQ.keep ((eE.refl _).new Lg _),aw} (λi Z H5 _ hq=>by(obtain⟨_,_,_,_,_,h,_⟩:=hq;exact bw.of h)) ?_ ?_}
  ·rintro i x Z H5 hx ⟨x7,x8,rfl,qw,lO,BV,Gy,Af⟩;obtain⟨ta,ht,p,t,rfl,hp5,ht5⟩:=Paired.at Gy hx;refine{p,_,rfl,bq.of hp5,rfl,_,_,rfl,_,_,rfl,rfl,?_};have g:=good ta (aG ht);have lf:=Ib good i;have hi:i<ats.length:=(ar.mp ht).1;refine{_,rfl,.inl {rfl,_,bw.of Af},_,rfl,_,_,_,_,rfl,rfl,Af,bq.of ht5,?_,?_}
   ·rw[ag,ag];exact bg (bH ∅)
   ·refine{_,_,rfl,qw.lst Af Ul _,lO.own acI _,by rw[ax Yi];exact BV,Gy.keep ((eE.refl _).lst Af _),?_};rw[aw,DS ht,aH]
  ·rintro Z H5 ⟨x7,x8,rfl,qw,lO,BV,Gy,Af⟩;rw[la,bu]at Af;have lf:=Ib good ats.length;rw[bu]at lf;show T11 _ _ _;subst e11;refine jt λT9 e9=>?_;refine{(by show 0<=sizeLine;decide),λhd yM=>?_};have Ur:=qw.uJ yM;have acU:H hd=none:=lO.none Ur yM;have nha:at'≠hd:=aX BV yM;have nhs:sm≠hd:=aX Af yM;show T9 _ _ _;subst e9;refine jt λT10 e10=>?_;refine{_,rfl,fe,5,rfl,qw.new yM _,by decide,by decide,λi7 H7 o0 o1 vV pK=>?_};have tu7:eE H5 H7:=((eE.refl _).new yM _).trans ((qw.new yM _).kY pK);refine{_,rfl,by lia,by lia,sj (lo:=0) (n:=i7.toNat)
    (λi Z H8=>∃(y6:Option V)(hs:List Str),Z=[some (.ref fe),some (.ref nl),some (.ref vl),some (.int most),some (.ref u),some (.ref at'),y6,x7,x8,x9,some (.ref sm),some (.ref hd)]/\dR K fe H8/\Ext fe H H8/\H8 at'=some (.lst ij)/\eI H8 ij ats/\H8 sm=some (.lst ((cB ats).map V.str))/\H8 hd=some (.lst (hs.map V.str))/\hs.length=i/\∀z∈hs,z∈gf/\(isUnk z=true->z∈cB ats)) ?_ ?_ ?_}
   ·exact{x6,[],rfl,vV,(lO.new yM _).trans pK,pK _ _ na (by rw[ax nha];exact BV),Gy.keep tu7,pK _ _ Ul (by rw[ax nhs];exact Af),pK _ _ Ur aw,rfl,λz h=>by cases h}
   ·rintro i Z H8 hi ⟨y6,hs,rfl,vU,F2,FZ,MR,Iz,MO,PU,Pt⟩;have Lq:ug H8 vl lZ:=rP wQ F2 Ae;have hv1:=Lq.2.1;have UN:=Lq.2.2.1;have l1:((cB ats).map V.str).length=(cB ats).length:=ag _;have l2:(lZ.map V.str).length=lZ.length:=ag _;refine{_,rfl,.inl {rfl,_,bw.of MO},_,rfl,_,rfl,_,_,_,_,rfl,rfl,Iz,Lq.1,by rw[l1,l2];exact bg (bH ∅),λp9 ID=>?_};have np9:=vU.uJ ID;refine{_,rfl,_,rfl,_,_,rfl,.inl {_,bw.of (by rw[ax (aX Iz ID)];exact Iz),rfl},_,rfl,_,_,rfl,.inl {_,bw.of (by rw[ax (aX Lq.1 ID)];exact Lq.1),rfl},_,_,rfl,rfl,fe,_,rfl,vU.new ID _,by lia,by lia,λUH vh r0 r1 MT CC=>?_};have acL:=CC _ _ np9 aw;have GA:Ext fe H8 vh:=((Ext.refl fe H8).new ID _).trans CC;have aby:eE H8 vh:=((eE.refl _).new ID _).trans ((vU.new ID _).kY CC);obtain⟨v',hv⟩:∃v,((cB ats).map V.str++lZ.map V.str)[UH.toNat]?=some v:={_,ao (by rw[aK];lia)};obtain⟨v,rfl,Ae⟩:∃z:Str,v'=.str z/\z∈gf/\(isUnk z=true->z∈cB ats):=by
     rcases aS.mp (aG hv)with h|h
     ·obtain⟨z,hz,rfl⟩:=au.mp h;exact{z,rfl,RX good z hz,λ_=>hz}
     ·obtain⟨z,hz,rfl⟩:=au.mp h;refine{z,rfl,Lq.2.2.2 z hz,λhu=>?_};have:=dA.mp VD z (hvp z hz);rw[hu]at this;cases this
    have ev:u4 ((cB ats).map V.str++lZ.map V.str) UH=some (.str v):=by
     have e:UH=((UH.toNat:Nat):Int):=by lia
     rw[e];exact jN hv
    have MP:=GA _ _ Ur MO;refine{_,_,_,_,rfl,rfl,bw.of acL,ev,_,_,_,rfl,rfl,MP,by rw[ag];exact bH ∅,?_};exact{_,hs++[v],rfl,MT.lst MP Ur _,(F2.trans GA).own acU _,by rw[ax nha];exact GA _ _ na FZ,MR.keep (aby.lst MP _),by rw[ax nhs];exact GA _ _ Ul Iz,by rw[aw,aH];rfl,by rw[aK,PU];rfl,λz h=>by
     rcases aS.mp h with h|h
     ·exact Pt z h
     ·rw[aC.mp h];exact Ae}
   ·rintro Z H8 ⟨y6,hs,rfl,vU,F2,FZ,MR,Iz,MO,PU,Pt⟩;show T10 _ _ _;subst e10;refine{_,rfl,_,_,rfl,.inl {bw.of MO,λth UO=>?_}};have hA9:upd H8 th (.tup (hs.map V.str)) at'=some (.lst ij):=by rw[ax (aX FZ UO)];exact FZ
    refine{_,rfl,_,_,rfl,.inl {bw.of hA9,λta xb=>?_}};refine{(by show 2<=sizeLine;decide),λq hq=>?_};have yP:=(vU.new UO (.tup (hs.map V.str))).new xb (.tup ij);have n1:th≠ta:=λe=>by rw[<-e,aw]at xb;cases xb
    have n2:ta≠q:=λe=>by rw[<-e,aw]at hq;cases hq
    have n3:th≠q:=λe=>by rw[<-e,ax n1,aw]at hq;cases hq
    refine k q hs ats _ (yP.new hq _) (((F2.new UO _).new xb _).new hq _) {q,th,ta,ij,rfl,aw,?_,?_,MR.keep ((((eE.refl _).new UO _).new xb _).new hq _)} ∅ ∅ good {by lia,Pt}
    ·rw[ax n3,ax n1,aw]
    ·rw[ax n2,aw]
structure En where
 nm:Str
 ad:Addr
 ys:List V
 rows:List (List Str)
def BK(e:En):Key×V:=(Sum.inr e.nm,.ref e.ad)
def aaz(f:Addr)(H:Hp)(e:En):Prop:=e.nm∈Em/\e.ad≠f/\H e.ad=some (.lst e.ys)/\oU f H e.ys e.rows/\(∀r∈e.rows,pQ r)/\e.rows.length<=7
def Tg(f:Addr)(H:Hp)(d:Addr)(es:List En):Prop:=d≠f/\H d=some (.dK (es.map BK))/\(es.map (·.nm)).Nodup/\es.length<=4/\∀e∈es,aaz f H e
variable{f d:Addr}{H:Hp}
theorem Ql:∀{kvs:List (Key×V)},(∀kv∈kvs,AE f H kv)->∃es:List En,kvs=es.map BK/\∀e∈es,aaz f H e
 |[],_=>{[],rfl,λe h=>by cases h}
 |kv::r,h=>by
  obtain⟨es,e1,h1⟩:=Ql (kvs:=r) λkv hk=>h kv (az _ hk);obtain⟨z,a,ys,rows,e2,hz,na,ha,hr,hg,hl⟩:=h kv aA;refine{⟨z,a,ys,rows⟩::es,by rw[aQ,<-e1,e2];rfl,λe he=>?_};rcases aE.mp he with rfl|he
  ·exact⟨hz,na,ha,hr,hg,hl⟩
  ·exact h1 e he
def Ym(es:List En):(es.map BK).map (·.1)=(es.map (·.nm)).map (Sum.inr:Str->Key):=by rw[bW,bW];rfl
def OJ{l:List Str}:(l.map (Sum.inr:Str->Key)).Nodup↔l.Nodup:=by
 induction l with
 |nil=>exact{λ_=>kJ,λ_=>kJ}
 |cons a r ih=>
  rw[aQ,cD,cD,ih];refine and_congr_left λ_=>not_congr {λh=>?_,λh=>lW h};obtain⟨b,hb,e⟩:=au.mp h;cases e;exact hb
def TabAt.tabs(h:TabAt f H d kvs):∃es,kvs=es.map BK/\Tg f H d es:=by obtain⟨n,hd,nd,hl,he⟩:=h;obtain⟨es,rfl,ho⟩:=Ql he;rw[Ym]at nd;exact{es,rfl,n,hd,OJ.mp nd,by rw[ag]at hl;exact hl,ho}
theorem J0:∀{es:List En},(es.map (·.nm)).Nodup->∀{e:En},e∈es->eX (es.map BK) (Sum.inr e.nm)=some (.ref e.ad)
 |[],_,e,h=>by cases h
 |a::r,nd,e,h=>by
  rw[aQ,cD]at nd;rcases aE.mp h with rfl|h
  ·exact hX rfl
  ·have ne:¬(BK a).1=Sum.inr e.nm:=λq=>nd.1 (by
    have:a.nm=e.nm:=by injection q
    rw[this];exact lW h)
   rw[aQ,gA ne];exact J0 nd.2 h
theorem GH:∀{es:List En}{z:Str},z∉es.map (·.nm)->eX (es.map BK) (Sum.inr z:Key)=none
 |[],_,_=>rfl
 |a::r,z,h=>by rw[aQ,aE]at h;have ne:¬(BK a).1=Sum.inr z:=λq=>h (.inl (by injection q with q;exact q.symm));rw[aQ,gA ne];exact GH λq=>h (.inr q)
def g7(es:List En)(z:Str):List (List Str):=match es.find? (λe=>decide (e.nm=z))with
 |some e=>e.rows
 |none=>[]
theorem Hg:∀{es:List En},(es.map (·.nm)).Nodup->∀{e:En},e∈es->g7 es e.nm=e.rows
 |[],_,e,h=>by cases h
 |a::r,nd,e,h=>by
  rw[aQ,cD]at nd;unfold g7;rcases aE.mp h with rfl|h
  ·rw[fW (p:=λx:En=>decide (x.nm=e.nm)) (aY rfl)]
  ·have ne:¬decide (a.nm=e.nm)=true:=λq=>nd.1 (by
    rw[bA q];exact lW h)
   rw[fX (p:=λx:En=>decide (x.nm=e.nm)) ne];exact Hg nd.2 h
end
section
variable{P:Program}{w:World}{K:Frag}{mg:Str->Option Value}{base:Heap}
structure gH(K:Frag)(H:Hp)(p:Addr)(fs:List En):Prop where
 at_:H p=some (.dK (fs.map BK))
 nm:(fs.map (·.nm)).Nodup
 en:∀e∈fs,H e.ad=some (.lst e.ys)/\eQ K H e.ys e.rows/\e.rows.length<=7/\∀r∈e.rows,pQ r
def ip(h:eQ K H ys rows)(s:bD H H'):eQ K H' ys rows:=h.keep λa xs q=>by
 rcases q with(q|⟨o,q⟩)|q
 ·exact .inl (.inl (s _ _ q))
 ·exact .inl (.inr {o,s _ _ q})
 ·exact .inr q
def dF(q:bq K H a xs)(s:bD H H'):bq K H' a xs:=by
 rcases q with(q|⟨o,q⟩)|q
 ·exact .inl (.inl (s _ _ q))
 ·exact .inl (.inr {o,s _ _ q})
 ·exact .inr q
def gH.same(x:gH K H p fs)(s:bD H H'):gH K H' p fs:={s _ _ x.at_,x.nm,λe he=>by obtain⟨h1,h2,h3⟩:=x.en e he;exact{s _ _ h1,ip h2 s,h3}}
def SG(x:gH K H p fs)(h0:H l0=some (.lst []))(z:Str):∃q ys,(eX (fs.map BK) (Sum.inr z:Key)).getD (.ref l0)=.ref q/\H q=some (.lst ys)/\eQ K H ys (g7 fs z)/\(g7 fs z).length<=7/\∀r∈g7 fs z,pQ r:=by
 cases q:fs.find? (λe=>decide (e.nm=z))with
 |none=>
  have n:z∉fs.map (·.nm):=λh=>by obtain⟨e,he,rfl⟩:=au.mp h;have:=AV.mp q e he;exact this (aY rfl)
  have er:g7 fs z=[]:=by unfold g7;rw[q]
  rw[er,GH n];exact{l0,[],rfl,h0,.nil,aR _,λr h=>by cases h}
 |some e=>
  have he:=mE q;have e1:e.nm=z:=bA (List.find?_some (p:=λe:En=>decide (e.nm=z)) q);subst e1;rw[J0 x.nm he,Hg x.nm he];obtain⟨h1,h2,h3,h4⟩:=x.en e he;exact{e.ad,e.ys,rfl,h1,h2,h3,h4}
inductive G0(K:Frag)(vs:List V)(H:Hp)(Q:VK)(_x3:XK):Prop
 |mk (d:Addr) (fs:List En) (z:Str) (_:vs=[.ref d,.str z]) (_:gH K H d fs) (_:∀(l:Addr)(zs:List V)(H':Hp),bD H H'->H l=none->H' l=some (.lst zs)->eQ K H' zs (tW (g7 fs z))->Q (.ref l) H')
def L1:cv ["tables","name"] ["tables","name"] (bI zx):=jE (by decide+kernel)
def Ml(F:fb K "rows_of" "rows_of" zx f fd)(T:Txt K mg):c6 P w K mg base fD 1 f fd ["tables","name"] (G0 K):=by
 refine F.ok L1 (λ_ _ _ _ h=>by cases h;subst_vars;rfl) (λc7 A outer s H vs Q E hr h=>?_);obtain⟨d,fs,z,rfl,hT,k⟩:=h;have hu:=my hr;refine{_,(bp (cL (cQ (EU hr.hd) rfl T.xS (by decide+kernel) (cw (eU (QH hr.hd hr.units) rfl T.aa1 (by decide+kernel) (cw (Hy hu (pv 0) (pv 1) (hJ ju) aa4))))))),?_};refine{_,rfl,d,rfl,.inl {_,.inl hT.at_},_,rfl,(by show 0<=sizeLine;decide),λl0 uS=>?_};have NU:bD H (upd H l0 (.lst [])):=aN uS _;have h0:upd H l0 (.lst []) l0=some (.lst []):=aw;generalize (upd H l0 (.lst []))=H0 at NU h0⊢;obtain⟨q,ys,eq,hq,hR,hlr,hg⟩:=SG (hT.same NU) h0 z;refine{_,oA.k (k:=Sum.inr z) (NU _ _ hT.at_),?_};rw[eq];refine{q,ys,g7 fs z,rfl,bw.of hq,hR,by lia,λa us ha0 nu mu lu Le=>?_};have TQ:bD H0 (upd H0 a (.ext (u7 P w a us))):=aN ha0 _;have Qa:upd H0 a (.ext (u7 P w a us)) a=some (.ext (u7 P w a us)):=aw;refine{a,us,ys,rfl,Qa,λx hx=>{dF (Le x hx).1 TQ,(Le x hx).2},λ_ x hx=>?_,by lia,λl zs hl vQ _=>?_}
 ·have:=hg x.1 ((mu x.1).mp (lW hx));intro q;have:=this.1;rw[q]at this;cases this
 ·replace hl:upd H0 a (.ext (u7 P w a us)) l=none:=hl
  have sm2:bD (upd H0 a (.ext (u7 P w a us))) (upd (upd H0 a (.ext (u7 P w a us))) l (.lst zs)):=aN hl _;have sm:=NU.trans (TQ.trans sm2);rw[B6 nu mu]at vQ;refine k l zs _ sm ?_ aw (ip vQ sm2);cases q:H l with
  |none=>rfl
  |some o=>
   rw[TQ _ _ (NU _ _ q)]at hl;cases hl
def step(acc:List Str)(t:Str):List Str:=if isUnk t=true then(if t∈acc then acc else acc++[t])else acc
def dX(fl:List Str):List Str:=fl.foldl step []
def R1(acc:List Str)(t:Str):(step acc t).length<=acc.length+1:=by
 unfold step;split
 ·split
  ·lia
  ·rw[aK];exact ak _
 ·lia
theorem Ia:∀(fl acc:List Str),(fl.foldl step acc).length<=acc.length+fl.length
 |[],acc=>by simp
 |t::r,acc=>by have h1:=Ia r (step acc t);have h2:=R1 acc t;rw[iO,aZ];lia
def K3(fl:List Str):(dX fl).length<=fl.length:=by have:=Ia fl [];simpa[dX]using this
def QY(fl:List Str)(t:Str):dX (fl++[t])=step (dX fl) t:=by unfold dX;rw[Bt];rfl
def qi(acc:List Str):List (Key×V):=acc.map λt=>(Sum.inr t,V.bl true)
def any_keys(acc:List Str)(t:Str):((qi acc).any λkv=>decide (kv.1=(Sum.inr t:Key)))=decide (t∈acc):=by
 unfold qi;rw[List.any_map,gN,lA];constructor
 ·rintro⟨x,hx,e⟩;have e':(Sum.inr x:Key)=Sum.inr t:=bA e;injection e' with e';exact aY (e'▸hx)
 ·intro h;exact{t,bA h,aY rfl}
def Rx(acc:List Str)(t:Str):putK (qi acc) (Sum.inr t:Key) (V.bl true)=qi (if t∈acc then acc else acc++[t]):=by
 unfold putK;rw[any_keys];by_cases h:t∈acc
 ·rw[aY h,ay rfl,ay h];unfold qi;rw[bW];refine bz λx _=>?_;show(if(Sum.inr x:Key)=Sum.inr t then((Sum.inr x:Key),V.bl true)else(Sum.inr x,V.bl true))=_;split<;>rfl
 ·rw[bj h,aq aP,aq h];unfold qi;rw[aH];rfl
def O9(acc:List Str):((qi acc).map λkv=>kV kv.1)=acc.map V.str:=by unfold qi;rw[bW];rfl
def GoodG(ats:List (Str×List Str)):Prop:=∀a∈ats,a.2.length<=4/\∀z∈a.2,z.length<=1000
inductive NM(vs:List V)(H:Hp)(Q:VK)(_x3:XK):Prop
 |mk (v:V) (hz:List Str) (ats:List (Str×List Str)) (_:vs=[v]) (_:oK H v hz ats) (_:GoodG ats) (_:ats.length<=100) (_:∀(r:Addr)(H':Hp),bD H H'->H r=none->H' r=some (.lst ((dX (cB ats)).map V.str))->Q (.ref r) H')
def OV(h:z∈acc):z∈step acc t:=by
 unfold step;split
 ·split
  ·exact h
  ·exact b6 _ h
 ·exact h
def OU(h:isUnk z=true):z∈step acc z:=by
 unfold step;rw[ay h];split
 ·assumption
 ·exact bN _ (aC.mpr rfl)
theorem FD:∀{fl acc:List Str},z∈acc\/(isUnk z=true/\z∈fl)->z∈fl.foldl step acc
 |[],acc,h=>by
  rcases h with h|⟨_,h⟩
  ·exact h
  ·cases h
 |t::r,acc,h=>by
  rw[iO];refine FD ?_;rcases h with h|⟨hu,h⟩
  ·exact .inl (OV h)
  ·rcases aE.mp h with e|h
   ·subst e;exact .inl (OU hu)
   ·exact .inr ⟨hu,h⟩
def Wn(hu:isUnk z=true)(h:z∈fl):z∈dX fl:=FD (.inr ⟨hu,h⟩)
def Lc(z:Str)(l:List Str):UE (.str z) (l.map V.str)=decide (z∈l):=by
 unfold UE;rw[List.any_map,gN,lA];constructor
 ·rintro⟨y,hy,e⟩;have e':(y==z)=true:=e;rw[gX e']at hy;exact aY hy
 ·intro h;exact{z,bA h,by show(z==z)=true;simp}
def F1(acc:List Str):(acc.map V.str).all ud=true:=by rw[List.all_map];exact dA.mpr λ_ _=>rfl
def jM{zs:List Str}{i:Nat}(h:(zs.map V.str)[i]?=some y):∃z,zs[i]?=some z/\y=V.str z:=by
 rw[aJ]at h;cases e:zs[i]? with
 |none=>rw[e]at h;cases h
 |some z=>rw[e]at h;exact{z,rfl,(bL h).symm}
theorem uk:∀{fl acc:List Str},z∈fl.foldl step acc->z∈acc\/z∈fl
 |[],acc,h=>.inl h
 |t::r,acc,h=>by
  rw[iO]at h;rcases uk h with h|h
  ·unfold step at h;split at h
   ·split at h
    ·exact .inl h
    ·rcases aS.mp h with h|h
     ·exact .inl h
     ·exact .inr (aE.mpr (.inl (aC.mp h)))
   ·exact .inl h
  ·exact .inr (az _ h)
end
structure Dv2(P:Program)(w:World)(K:Frag)(mg:Str->Option Value)(base:Heap):Prop extends Dv P w K mg base where
 My:eC P w K mg base 2 "is_unknown" ["thing"] TL
section
variable{P:Program}{w:World}{K:Frag}{mg:Str->Option Value}{base:Heap}
def nM:cv ["question","found","atom","term"] ["question"] (bI sJ):=jE (by decide+kernel)
def EB(F:fb K "unknowns_of" "unknowns_of" sJ f fd)(T:Txt K mg)(D:Dv2 P w K mg base):c6 P w K mg base fD 3 f fd ["question"] NM:=by
 refine F.ok nM (λ_ _ _ _ h=>by cases h;subst_vars;rfl) (λc7 A outer s H vs Q E hr h=>?_);obtain⟨v,hz0,ats,rfl,⟨q,hd,aa,ij,rfl,hq,yM,IW,sQ⟩,good,hlen,k⟩:=h;have hu:=my hr;refine{_,(aO (gk 1 nM qY)
   (aO (hG bZ rfl (uF (cA fK (pv 0) aV (λ_ _=>rfl))) (kA 2 nM)
   (bp (hG bZ rfl (uF (cA fK (pv 2) aV (λ_ _=>rfl))) (kA 3 nM)
   (bp (ka (Hl (cl D.My hr (cw (pv 3)))) (bp (Ew hu (pv 1) (pv 3) A9 rfl)) gP)))))
   (bp (cL (eU (EV rfl) rfl T.HU (by decide+kernel) (cw (pv 1))))))),?_}
 have la:ij.length=ats.length:=bh sQ;intro d jm;refine{_,rfl,_,_,_,_,rfl,rfl,bq.of (aN jm _ _ _ hq),rfl,aa,rfl,{ij,bq.of (aN jm _ _ _ IW)},EI (K:=K) (a:=aa) (xs:=ij)
  (λi Z H2=>∃(x2 x3:Option V),Z=[some (.ref q),some (.ref d),x2,x3]/\bD H H2/\H2 d=some (.dK (qi (dX (cB (ats.take i)))))) {none,none,rfl,aN jm _,aw} (λi Z H2 _ hq=>by(obtain⟨_,_,_,sm,_⟩:=hq;exact bq.of (sm _ _ IW))) ?_ ?_}
 ·rintro i x Z H2 hx ⟨x2,x3,rfl,sm,hd2⟩;obtain⟨ta,ht,p,t,rfl,hp,lN⟩:=Paired.at sQ hx;have g:=good ta (aG ht);have hi:i<ats.length:=(ar.mp ht).1;have lf:=EE (ats.take i) λa ha=>(good a (eJ ha)).1;have lti:(ats.take i).length<=i:=by rw[aU];lia
  refine{_,rfl,_,_,_,_,rfl,rfl,bq.of (sm _ _ hp),rfl,t,rfl,{_,bq.of (sm _ _ lN)},EI (K:=K) (a:=t) (xs:=ta.2.map V.str)
   (λj Z H3=>∃(x3:Option V),Z=[some (.ref q),some (.ref d),some (.ref p),x3]/\bD H H3/\H3 d=some (.dK (qi (dX (cB (ats.take i)++ta.2.take j))))) {x3,rfl,sm,by rw[List.take_zero,cP];exact hd2} (λj Z H3 _ hq=>by(obtain⟨_,_,sm',_⟩:=hq;exact bq.of (sm' _ _ lN))) ?_ ?_}
  ·rintro j y Z H3 hy ⟨x3,rfl,yD,U2⟩;obtain⟨z,hz,rfl⟩:=jM hy;have yJ:=g.2 z (aG hz);have hj:j<ta.2.length:=(ar.mp hz).1;refine{_,rfl,z,rfl,by lia,λH4 XG=>{_,rfl,?_}};have hd4:=XG _ _ U2;have en:dX (cB (ats.take i)++ta.2.take (j+1))=step (dX (cB (ats.take i)++ta.2.take j)) z:=by rw[bx,hz,<-QY,da];rfl
   have lu:=K3 (cB (ats.take i)++ta.2.take j);rw[aK,aU]at lu;refine gZ (λc1=>?_) (λc1=>?_)
   ·refine{_,rfl,_,rfl,d,_,rfl,E4.k (k:=Sum.inr z) hd4 (by unfold qi;rw[ag];exact bH ∅),?_};refine{_,rfl,λb u e=>?_,?_}
    ·rw[ax (aX e jm)];exact XG _ _ (yD _ _ e)
    ·rw[aw,Rx,en];unfold step;rw[ay c1]
   ·refine{_,rfl,yD.trans XG,?_};rw[en];unfold step;rw[aq c1];exact hd4
  ·rintro Z H3 ⟨x3,rfl,yD,U2⟩;refine{_,_,rfl,yD,?_};rw[ag,bu]at U2;rw[DS ht];exact U2
 ·rintro Z H2 ⟨x2,x3,rfl,sm,hd2⟩;rw[la,bu]at hd2;refine{_,rfl,d,_,rfl,hd2,λl hl=>?_};refine k l _ (sm.trans (aN hl _)) (sm.free hl) ?_;rw[aw,O9]
def placesK(us:List Str):List (Key×V):=us.zipIdx.map λx=>(Sum.inr x.1,V.int (x.2:Int))
end
inductive G1(K:Frag)(vs:List V)(H:Hp)(Q:VK)(_x3:XK):Prop
 |mk (l:Addr) (us:List Str) (_:vs=[.ref l]) (_:bw K H l (us.map V.str)) (_:us.Nodup) (_:us.length<=100) (_:∀(r:Addr)(H':Hp),bD H H'->H r=none->H' r=some (.dK (placesK us))->Q (.ref r) H')
def xy(nd:us.Nodup):eX (placesK us) (Sum.inr t:Key)=if t∈us then some (V.int (us.idxOf t:Int))else none:=by
 have gen:∀(us:List Str)(n:Nat),eX ((us.zipIdx n).map λx=>((Sum.inr x.1:Key),V.int (x.2:Int))) (Sum.inr t)=if t∈us then some (V.int ((us.idxOf t+n:Nat):Int))else none:=by
  intro us
  induction us with
  |nil=>intro n;rfl
  |cons u us ih=>
   intro n;rw[ph,aQ];by_cases e:u=t
   ·subst e;rw[hX rfl,ay aA,List.idxOf_cons_self,vb]
   ·rw[gA (λz=>e (Sum.inr.inj z)),ih (n+1)];by_cases m:t∈us
    ·rw[ay m,ay (az _ m),List.idxOf_cons,show(u==t)=false from beq_false_of_ne e,cond_false,Nat.add_right_comm,oW]
    ·rw[aq m,aq λz=>(aE.mp z).elim (λz=>e z.symm) m]
 have:=gen us 0;rw[jA]at this;exact this
def Jz{us:List Str}(nd:us.Nodup)(h:us[i]?=some u):putK (placesK (us.take i)) (Sum.inr u:Key) (V.int (i:Int))=placesK (us.take (i+1)):=by
 obtain⟨hi,e⟩:=ar.mp h;have nm:u∉us.take i:=λz=>by obtain⟨j,hj,ej⟩:=dN.mp z;rw[aU]at hj;rw[List.getElem_take]at ej;exact eZ.mp nd j i ∅ hi ∅ (by rw[ej,e])
 rw[Ry _ (by rw[xy (nd.sublist (Bs _ _)),aq nm])];unfold placesK;rw[bx,h,cq,List.zipIdx_append,aH,aU,gL ∅];simp
section
variable{P:Program}{w:World}{K:Frag}{mg:Str->Option Value}{base:Heap}
def hZ(q:bw K H a xs)(s:bD H H'):bw K H' a xs:=by
 rcases q with(q|⟨o,q⟩)|q
 ·exact .inl (.inl (s _ _ q))
 ·exact .inl (.inr {o,s _ _ q})
 ·exact .inr q
def pX:cv ["unknowns","places","place","unknown"] ["unknowns"] (bI wd):=jE (by decide+kernel)
def HJ(F:fb K "places_of" "places_of" wd f fd)(T:Txt K mg):c6 P w K mg base fD 1 f fd ["unknowns"] (G1 K):=by
 refine F.ok pX (λ_ _ _ _ h=>by cases h;subst_vars;rfl) (λc7 A outer s H vs Q E hr h=>?_);obtain⟨l,us,rfl,hl,nd,lu,k⟩:=h;have hu:=my hr;refine{_,(aO (gk 1 pX qY)
   (aO (hG bZ rfl (KJ rfl T.BG (cw (pv 0))) (lL rfl (cK (kA 2 pX) (cK (kA 3 pX) iD)))
   (bp (Ew hu (pv 1) (pv 3) (pv 2) rfl)))
   (bp (cL (pv 1))))),?_}
 intro d jm;refine{_,rfl,l,rfl,{_,hZ hl (aN jm _)},IY (K:=K) (a:=l) (xs:=us.map V.str)
  (λi Z H2=>∃(x2 x3:Option V),Z=[some (.ref l),some (.ref d),x2,x3]/\bD H H2/\H2 d=some (.dK (placesK (us.take i)))) {none,none,rfl,aN jm _,aw} (λi Z H2 _ ⟨_,_,_,sm,_⟩=>hZ hl sm) ?_ ?_}
 ·rintro i x p Z H2 hx ⟨x2,x3,rfl,sm,hd2⟩ hp;obtain⟨z,hz,rfl⟩:=jM hx;have hi:=(ar.mp hz).1;have yD:bD H2 (upd H2 p (.tup [.int i,.str z])):=aN hp _;refine{p,_,rfl,bq.of aw,rfl,_,_,rfl,_,_,rfl,rfl,?_};refine{_,rfl,_,rfl,_,rfl,d,_,rfl,E4.k (k:=Sum.inr z) (yD _ _ hd2) (by unfold placesK;rw[ag,List.length_zipIdx,aU];exact bH ∅),?_};refine{_,_,rfl,λb u e=>?_,?_}
  ·rw[ax (aX e jm)];exact yD _ _ (sm _ _ e)
  ·rw[aw,Jz nd hz]
 ·rintro Z H2 ⟨x2,x3,rfl,sm,hd2⟩;rw[ag,bu]at hd2;exact{_,rfl,k d H2 sm jm hd2}
inductive Ko(K:Frag)(vs:List V)(H:Hp)(Q:VK)(_x3:XK):Prop
 |mk (t d g:Addr) (ts us oE:List Str) (_:vs=[.ref t,.ref d,.ref g]) (_:(bw K H t (ts.map V.str)\/bq K H t (ts.map V.str))) (_:H d=some (.dK (placesK us))) (_:us.Nodup) (_:bq K H g (oE.map V.str)) (_:oE.length=us.length) (_:ts.length<=100) (_:us.length<=100) (_:∀(r:Addr)(H':Hp),bD H H'->H r=none->H' r=some (.tup ((AskP.image us oE ts).map V.str))->Q (.ref r) H')
def Rl:cv ["terms","places","given"] ["terms","places","given"] (bI Er):=jE (by decide+kernel)
def RS(F:fb K "image" "image" Er f fd)(T:Txt K mg):c6 P w K mg base fD 1 f fd ["terms","places","given"] (Ko K):=by
 refine F.ok Rl (λ_ _ _ _ h=>by cases h;subst_vars;rfl) (λc7 A outer s H vs Q E hr h=>?_);obtain⟨t,d,g,ts,us,oE,rfl,ht,hd,nd,hg,lv,lt,lu,k⟩:=h;have hu:=my hr;rcases ht with ht|ht
 ·refine{_,(bp (cL (eU dW rfl T.jJ (by decide+kernel) (cw (jq rfl (eG (fs:=["places","given"]) (fr:=[1,2])) (gn (pv 0)) (λ_ _ _ _=>(Hv (Hm (HC hu (pv 0) (pv 1))) (cA (w4 (K:=K)) (pv 2) (KP hu (pv 1) (pv 0) (λ_ _=>rfl)) (λ_ _=>rfl)) (pv 0)))))))),?_};refine{_,rfl,t,rfl,⟨_,ht⟩,kR (K:=K) (a:=t) (xs:=ts.map V.str) (λi ys H2=>H2=H/\i<=ts.length/\ys=((ts.take i).map (AskP.kM us oE)).map V.str) (by rw[ag];exact bH ∅) {rfl,aR _,rfl} ?_ ?_ ?_}
  ·rintro i ys H2 hi ⟨rfl,_,rfl⟩;refine{ht,?_};rw[ag,ag,aU];lia
  ·rintro i x ys H2 N hc ⟨rfl,hi,rfl⟩ hN;obtain⟨z,hz,rfl⟩:=jM hc;have bR:i<ts.length:=(ar.mp hz).1;refine h9 ?_;refine{_,rfl,_,rfl,d,_,rfl,oA.k (k:=Sum.inr z) hd,_,rfl,?_};have ap:((ts.take i).map (AskP.kM us oE)).map V.str++[V.str (AskP.kM us oE z)]=((ts.take (i+1)).map (AskP.kM us oE)).map V.str:=by rw[bx,hz,aH,aH];rfl
   have ev:=xy (t:=z) nd;by_cases m:z∈us
   ·rw[ay m]at ev;have li:=cz m;have dg:=oA.k (k:=Sum.inr z) hd;rw[ev]at dg;refine gZ (λ_=>?_) (λc=>absurd (by rw[ev];rfl) c);refine{_,rfl,_,rfl,_,rfl,d,_,rfl,dg,g,_,_,V.str (AskP.kM us oE z),rfl,rfl,hg,?_,hN _ _ ⟨rfl,bR,ap⟩};refine jN ?_;rw[aJ,ao ∅];unfold AskP.kM;rw[ay m,bY,ao ∅];rfl
   ·rw[aq m]at ev;refine gZ (λc=>by rw[ev]at c;cases c) (λ_=>?_);refine{_,rfl,hN _ _ {rfl,bR,?_}};rw[<-ap];unfold AskP.kM;rw[aq m]
  ·rintro ys H2 ⟨rfl,_,rfl⟩ l mV;rw[ag,bu];refine{l,_,rfl,.inl {bw.of aw,λp hp=>?_}};exact k p _ ((aN mV _).trans (aN hp _)) ((aN mV _).free hp) aw
 ·refine{_,(bp (cL (eU dW rfl T.jJ (by decide+kernel) (cw (jq rfl (eG (fs:=["places","given"]) (fr:=[1,2])) (uF (pv 0)) (λ_ _ _ _=>(Hv (Hm (HC hu (pv 0) (pv 1))) (cA (w4 (K:=K)) (pv 2) (KP hu (pv 1) (pv 0) (λ_ _=>rfl)) (λ_ _=>rfl)) (pv 0)))))))),?_};refine{_,rfl,t,rfl,⟨_,ht⟩,CH (K:=K) (a:=t) (xs:=ts.map V.str) (λi ys H2=>H2=H/\i<=ts.length/\ys=((ts.take i).map (AskP.kM us oE)).map V.str) (by rw[ag];exact bH ∅) {rfl,aR _,rfl} ?_ ?_ ?_}
  ·rintro i ys H2 hi ⟨rfl,_,rfl⟩;refine{ht,?_};rw[ag,ag,aU];lia
  ·rintro i x ys H2 N hc ⟨rfl,hi,rfl⟩ hN;obtain⟨z,hz,rfl⟩:=jM hc;have bR:i<ts.length:=(ar.mp hz).1;refine h9 ?_;refine{_,rfl,_,rfl,d,_,rfl,oA.k (k:=Sum.inr z) hd,_,rfl,?_};have ap:((ts.take i).map (AskP.kM us oE)).map V.str++[V.str (AskP.kM us oE z)]=((ts.take (i+1)).map (AskP.kM us oE)).map V.str:=by rw[bx,hz,aH,aH];rfl
   have ev:=xy (t:=z) nd;by_cases m:z∈us
   ·rw[ay m]at ev;have li:=cz m;have dg:=oA.k (k:=Sum.inr z) hd;rw[ev]at dg;refine gZ (λ_=>?_) (λc=>absurd (by rw[ev];rfl) c);refine{_,rfl,_,rfl,_,rfl,d,_,rfl,dg,g,_,_,V.str (AskP.kM us oE z),rfl,rfl,hg,?_,hN _ _ ⟨rfl,bR,ap⟩};refine jN ?_;rw[aJ,ao ∅];unfold AskP.kM;rw[ay m,bY,ao ∅];rfl
   ·rw[aq m]at ev;refine gZ (λc=>by rw[ev]at c;cases c) (λ_=>?_);refine{_,rfl,hN _ _ {rfl,bR,?_}};rw[<-ap];unfold AskP.kM;rw[aq m]
  ·rintro ys H2 ⟨rfl,_,rfl⟩ l mV;rw[ag,bu];refine{l,_,rfl,.inl {bw.of aw,λp hp=>?_}};exact k p _ ((aN mV _).trans (aN hp _)) ((aN mV _).free hp) aw
end
end jn
namespace L2
open PySem PySem.Spec PyProof.Rows
section
variable{K:Frag}{a b:Addr}{xs zs:List V}{fr:List Nat}{tt:TT}{te:TE}{Z:St}{H1:Hp}{R:Addr->List V->Hp->Prop}
def Ni(Pv:Nat->List V->Hp->Prop)(hx:xs.length<sizeLine)(le:xs.length=zs.length)(h0:Pv 0 [] H1)(hl:∀i ys H,i<=xs.length->Pv i ys H->(bq K H a xs/\bq K H b zs)/\ys.length<=i)
  (hs:∀(i:Nat)(x z:V)(p:Addr)(ys:List V)(H:Hp)(N:List V->Hp->Prop),xs[i]?=some x->zs[i]?=some z->Pv i ys H->H p=none->(∀gQ H',Pv (i+1) gQ H'->N gQ H')->
   tt (some x::some z::slotsOf fr Z) (upd H p (.tup [x,z])) λt H4=>if t=true then te (some x::some z::slotsOf fr Z) H4 (λy H5=>N (ys++[y]) H5)else N ys H4)
  (hd:∀ys H,Pv xs.length ys H->∀l,H l=none->R l ys H):Ge (Itz K a b) 2 fr (MX K) tt te Z H1 R:=by
 refine{λi m ys H=>m=xs.length -i/\i<=xs.length/\Pv i ys H,{xs.length,by simp,aR _,h0},?_};rintro i m ys H ⟨rfl,hi,p⟩;obtain⟨⟨q1,q2⟩,hy⟩:=hl i ys H hi p;by_cases bR:i<xs.length
 ·refine .inr {{xs,zs,xs[i],zs[i]'∅,q1,q2,ao bR,ao _},by lia,?_};rintro v H3 ⟨r,u,z,rfl,hr,rfl,y1,y2⟩ own ho;have h:=hs i u z r ys H (λgQ H'=>∃m',m'<xs.length -i/\m'=xs.length -(i+1)/\i+1<=xs.length/\Pv (i+1) gQ H') (y1 xs q1) (y2 zs q2) p hr λgQ H' p'=>{_,by lia,rfl,bR,p'};exact KR ho rfl (bq.of aw) {[some u,some z],rfl,rfl,h}
 ·have e:i=xs.length:=by lia
  subst e;exact .inl {⟨xs,q1,rfl⟩,by lia,hd ys H p}
end
end L2
namespace L2
open PySem PySem.Spec PyProof.Rows PySem.W
section
variable{X:Cx}
inductive KA(K:Frag)(x:V)(vs:List V)(H:Hp)(Q:VK):Prop
 |mk (l:Addr) (zs:List Str) (z:Str) (j:Nat) (_:x=.ref l) (_:vs=[.str z]) (_:bq K H l (zs.map V.str)) (_:zs[j]?=some z) (_:(∀m,m<j->zs[m]?≠some z)) (_:Q (.int (j:Int)) H)
def OS:QP X "tuple.index" (KA X.K):=by
 intro pins s Z H x vs v us Q I rx rv h;obtain⟨l,zs,z,j,rfl,rfl,hH,hj,DK,q⟩:=h;cases rx;obtain⟨u,rfl,ru⟩:=rv.one;obtain⟨t,rfl⟩:=ru;obtain⟨aT,r,ht,hl⟩:=I.tuple hH;obtain⟨o,ho,hc,n,hd⟩:=ht;have lz:=r.length;rw[ag]at lz;have eat:∀m:Nat,m<aT.length->∃y t',aT[m]?=some (.str y t')/\zs[m]?=some y:=λm hm=>by
  have hz:m<zs.length:=by lia
  obtain⟨u',se,t',rfl⟩:=r.get (i:=m) (x:=.str zs[m]) (by rw[aJ,ao hz];rfl);exact{zs[m],t',se,ao hz}
 have oI:j<aT.length:=by have:=(ar.mp hj).1;lia
 refine ba F.slot_tuple_index ⟨_,ho,hc⟩ F.entry_tuple_index ?_ (F.args_tuple_index_2 _ _);unfold Builtin.«tuple.index»;refine ae (af ?_);refine ae (ae (bO ho hd (af ?_)));refine ae (af (ae (af ?_)));dsimp only;rw[Nat.min_self,lV];have hsz:([0:aT.toArray.size]:Std.Legacy.Range).size=aT.length:=by simp[Std.Legacy.Range.size]
 refine ae (cR (hU _ (λl b s'=>∃m,l=List.range' m (aT.length -m) 1/\m<=j/\b=(none,())/\s'=s) (λb s'=>∃tk,b=(some (PySem.Fin.done (Flow.ret (.int j tk))),())/\s'={s with toks:=s.toks+1}) ?_ ?_ _ _ {0,?_,aR _,rfl,rfl}) ?_ λ_ _ e=>e)
 ·rintro x rest b s' ⟨m,el,mj,rfl,rfl⟩;obtain⟨k,hk⟩:∃k,aT.length -m=k+1:={aT.length -m -1,by lia};rw[hk,List.range'_succ]at el;obtain⟨rfl,rfl⟩:=List.cons.inj el;obtain⟨y,t',e1,e2⟩:=eat x ∅;have e3:aT.toArray[x]?=some (.str y t'):=by rw[<-e1];simp
  rw[e3];refine ae (vY.eq_str ?_);by_cases e:x=j
  ·subst e;rw[hj]at e2;cases e2;rw[aY rfl];exact ae (ae (Bx (af (af ⟨_,rfl,rfl⟩))))
  ·have ne:y≠z:=λq=>DK x ∅ (by rw[e2,q]);rw[bj ne];exact af {x+1,by rw[show aT.length -(x+1)=k by lia],by lia,rfl,rfl}
 ·rintro b s' ⟨m,el,mj,rfl,rfl⟩;have:aT.length -m=0:=by have:=cu List.length el;simpa using this.symm
  lia
 ·show List.range' 0 ([0:aT.toArray.size]:Std.Legacy.Range).size 1=_;rw[hsz];rfl
 ·rintro b s' ⟨tk,rfl,rfl⟩;exact af {_,rfl,{.int _,H,I.tok _,⟨_,rfl⟩,q}}
def xT{K:Frag}(h:X.K=K:=by rfl):QP X "tuple.index" (KA K):=h▸OS
end
end L2
namespace jn
open PySem PySem.Spec PyProof.Rows L2 vY
seal L2.PE L2.PT L2.PW L2.PA L2.PS L2.j9 L2.PI L2.PO L2.AK L2.PG L2.AL
inductive Fb(K:Frag)(vs:List V)(H:Hp)(Q:VK)(_x3:XK):Prop
 |mk (r t:Addr) (rs ts:List Str) (_:vs=[.ref r,.ref t]) (_:bq K H r (rs.map V.str)) (_:H t=some (.tup (ts.map V.str))) (_:rs.length<=100) (_:ts.length<=100) (_:∀H',bD H H'->Q (.bl (AskP.mx rs ts)) H')
section
variable{P:Program}{w:World}{K:Frag}{mg:Str->Option Value}{base:Heap}
def Jx:cv ["row","terms"] ["row","terms"] (bI xM):=jE (by decide+kernel)
def JD(F:fb K "is_image" "is_image" xM f fd)(T:Txt K mg):c6 P w K mg base fD 1 f fd ["row","terms"] (Fb K):=by
 refine F.ok Jx (λ_ _ _ _ h=>by cases h;subst_vars;rfl) (λc7 A outer s H vs Q E hr h=>?_);obtain⟨r,t,rs,ts,rfl,tF,UQ,lr,lt,k⟩:=h;have UP:bq K H t (ts.map V.str):=bq.of UQ;have hu:=my hr;refine{_,(aO (ka (fH aaZ (cQ gF rfl T.jS cH (cw (pv 0))) (cQ gF rfl T.jS cH (cw (pv 1))) (iu _)) (bp (cL A9)) gP)
   (bp (cL (cQ (xo rfl) rfl T.Uu boot_all (cw (Cj rfl (yf (more:=["value"]) (fs:=["row","terms"]) (fr:=[0,1])) (V5 rfl T.Gv (eK (pv 1) (pv 0))) (λ_ _ _ _=>(Ez (K:=K) (n:=2) rfl (cK (qX (i:=0)) (cK (qX (i:=1)) iD)))) (λ_ _ _ _=>(KQ Ba (cA (w4 (K:=K)) (pv 2) (HA (K:=K) nh m9 m7 xT (pv 3) (cw (pv 0))) (λ_ _=>rfl)) (pv 1) (iu _))))))))),?_}
 refine{_,rfl,_,_,rfl,.inr ⟨_,tF,rfl⟩,_,rfl,_,_,rfl,.inr ⟨_,UP,rfl⟩,rfl,?_};rw[ag,ag];refine{_,rfl,gZ (λc=>?_) (λc=>?_)}
 ·have ne:rs.length≠ts.length:=λe=>by rw[e]at c;simp at c
  have e:AskP.mx rs ts=false:=by unfold AskP.mx;rw[bj ne];rfl
  rw[e]at k;exact k H (λ_ _ x=>x)
 have le:rs.length=ts.length:=by
  by_cases e:rs.length=ts.length
  ·exact e
  ·have z:¬(V.int (rs.length:Int)=V.int (ts.length:Int)):=λz=>e (by injection z with z;lia);exact absurd (by rw[bj z];rfl) c
 refine{_,rfl,_,rfl,t,r,rfl,⟨_,UP⟩,⟨_,tF⟩,Ni (K:=K) (a:=t) (b:=r) (xs:=ts.map V.str) (zs:=rs.map V.str)
  (λi ys H2=>bD H H2/\i<=ts.length/\ys=(((ts.zip rs).take i).map λx=>decide (rs[ts.idxOf x.1]?=some x.2)).map V.bl) (by rw[ag];exact bH ∅) (by rw[ag,ag,le]) {λ_ _ x=>x,aR _,rfl} ?_ ?_ ?_}
 ·rintro i ys H2 hi ⟨sm,_,rfl⟩;refine{{dF UP sm,dF tF sm},?_};rw[ag,ag,aU];lia
 ·rintro i x y p ys H2 N hx hy ⟨sm,hi,rfl⟩ hp hN;obtain⟨z,hz,rfl⟩:=jM hx;obtain⟨v,hv,rfl⟩:=jM hy;refine h9 ?_;have m:z∈ts:=aG hz;have li:=cz m;have UX:=(ar.mp hz).1;have yD:bD H (upd H2 p (.tup [V.str z,V.str v])):=sm.trans (aN hp _);have e1:ts[ts.idxOf z]?=some z:=by rw[ao li,jV]
  have e2:∀n,n<ts.idxOf z->ts[n]?≠some z:=λn hn q=>by obtain⟨ln,en⟩:=ar.mp q;have:=wA (p:=(·==z)) (xs:=ts) hn;rw[en]at this;simp at this
  obtain⟨u,qt⟩:∃u,rs[ts.idxOf z]?=some u:={_,ao ∅};refine{_,rfl,_,rfl,.inr (.inl {rfl,.inl {_,yD _ _ UQ}}),_,rfl,t,ts,z,ts.idxOf z,rfl,rfl,dF UP yD,e1,e2,r,_,_,V.str u,rfl,rfl,dF tF yD,jN (by rw[aJ,qt];rfl),_,rfl,rfl,?_};refine hN _ _ {yD,by lia,?_};have e3:(ts.zip rs)[i]?=some (z,v):=by rw[List.getElem?_zip_eq_some];exact⟨hz,hv⟩
  rw[bx,e3,cq,aH,aH];congr 1;show[V.bl (decide (V.str u=V.str v))]=[V.bl (decide (rs[ts.idxOf z]?=some v))];rw[qt];congr 2;by_cases q:u=v
  ·subst q;simp
  ·rw[bj (λz=>q (V.str.inj z)),bj (λz=>q (bL z))]
 ·rintro ys H2 ⟨sm,_,rfl⟩ l hl;have lz:(ts.zip rs).length=ts.length:=by rw[qF];lia
  rw[ag,<-lz,bu];refine{l,_,rfl,bw.of aw,?_};have e:AskP.mx rs ts=(((ts.zip rs).map λx=>decide (rs[ts.idxOf x.1]?=some x.2)).all id):=by unfold AskP.mx;rw[aY le,jP,List.all_map];rfl
  rw[e]at k;exact k _ (sm.trans (aN hl _))
def eA(H H':Hp):Prop:=∀b xs,Rd H b (.tup xs)->Rd H' b (.tup xs)
def eA.refl(H:Hp):eA H H:=λ_ _ h=>h
def eA.trans(a:eA H H1)(b:eA H1 H2):eA H H2:=λx xs h=>b x xs (a x xs h)
def eA.same(s:bD H H'):eA H H':=λb xs h=>by
 rcases h with h|⟨o,h⟩
 ·exact .inl (s _ _ h)
 ·exact .inr {o,s _ _ h}
def hE(H:Hp)(a:Addr):Prop:=∀xs,¬Rd H a (.tup xs)
def eA.upd(h:hE H a):eA H (upd H a o):=λb xs q=>by
 have hb:b≠a:=λe=>h xs (e▸q);rcases q with q|⟨o',q⟩
 ·exact .inl (by rw[ax hb];exact q)
 ·exact .inr {o',by rw[ax hb];exact q}
def OL(h:H a=some (.ext φ)):hE H a:=λxs q=>by rcases q with q|⟨o,q⟩<;>rw[h]at q<;>cases q
def HR(h:H a=some (.dK l)):hE H a:=λxs q=>by rcases q with q|⟨o,q⟩<;>rw[h]at q<;>cases q
def zR(h:H a=some (.ins C dx l)):hE H a:=λxs q=>by rcases q with q|⟨o,q⟩<;>rw[h]at q<;>cases q
def pW(q:bq K H a xs)(t:eA H H'):bq K H' a xs:=by
 rcases q with q|q
 ·exact .inl (t _ _ q)
 ·exact .inr q
mutual
theorem Mo(t:eA H H'):∀(k:NK)(v:V),NV K H k v->NV K H' k v
 | .cb,v,h=>by rw[NV]at h⊢;exact h
 | .key k,v,h=>by rw[NV]at h⊢;exact h
 | .tup ks,v,h=>by rw[NV]at h⊢;obtain⟨a,xs,e,hq,hs⟩:=h;exact{a,xs,e,pW hq t,OG t ks xs hs}
theorem OG(t:eA H H'):∀(ks:List NK)(vs:List V),oQ K H ks vs->oQ K H' ks vs
 |[],vs,h=>by rw[oQ]at h⊢;exact h
 |k::ks,vs,h=>by rw[oQ]at h⊢;obtain⟨x,r,e,h1,h2⟩:=h;exact{x,r,e,Mo t k x h1,OG t ks r h2}
end
def wZ{H H':Hp}{k:NK}{a:Addr}(h:iS K H k a)(t:eA H H'):iS K H' k a:={Mo t _ _ h.1,h.2}
def _root_.L2.ff.tp{H H':Hp}{d:Addr}{kvs:List (NK×Addr×V)}(h:ff P w K H d kvs)(t:eA H H')(e:H' d=H d):ff P w K H' d kvs:={by rw[e];exact h.1,λp hp=>wZ (h.2 p hp) t}
def _root_.L2.ff.some{H:Hp}{d:Addr}{kvs:List (NK×Addr×V)}(h:ff P w K H d kvs):∃u,H d=some u:=by rcases h.1 with h|⟨_,h⟩<;>exact⟨_,h⟩
def _root_.L2.ff.p6{H:Hp}{d:Addr}{kvs:List (NK×Addr×V)}(h:ff P w K H d kvs):hE H d:=by
 rcases h.1 with h|⟨_,h⟩
 ·exact OL h
 ·exact HR h
def _root_.L2.ff.put{H:Hp}{d b:Addr}{kvs:List (NK×Addr×V)}{k:NK}{v:V}(h:ff P w K H d kvs)(hk:iS K H k b):ff P w K (upd H d (.ext (DN P w d (putN kvs k b v)))) d (putN kvs k b v):=by
 have t:eA H (upd H d (.ext (DN P w d (putN kvs k b v)))):=eA.upd h.p6;refine{.inl aw,λp hp=>?_};rcases HY hp with⟨q,hq,e1,e2⟩|⟨e1,e2⟩
 ·rw[e1,e2];exact wZ (h.2 q hq) t
 ·rw[e1,e2];exact wZ hk t
def EY{H:Hp}{p:Addr}(h:H p=Option.some (.dK [])):ff P w K H p []:={.inr ⟨rfl,h⟩,λ_ hp=>by cases hp}
def pO(zs:List Str):Prop:=∀z∈zs,PyData.strOk z=true
abbrev Cm:=List (List Str×Int)
def qN(m:Cm):List (NK×V):=m.map λx=>(dH x.1,V.int x.2)
abbrev BL(kvs:List (NK×Addr×V)):List (NK×V):=kvs.map λp=>(p.1,p.2.2)
def cnt(m:Cm)(r:List Str):Int:=((m.find? λx=>decide (x.1=r)).map (·.2)).getD 0
theorem A3:∀{m:Cm}{kvs:List (NK×Addr×V)},BL kvs=qN m->valN kvs (dH r)=(m.find? λx=>decide (x.1=r)).map λx=>V.int x.2
 |[],[],_=>rfl
 |[],_::_,e=>by cases e
 |_::_,[],e=>by cases e
 |x::m,p::kvs,e=>by
  injection e with e1 e2;have e3:=cu Prod.fst e1;have e4:=cu Prod.snd e1;dsimp only at e3 e4;by_cases c:x.1=r
  ·rw[kU (by rw[e3,c]),fW (by exact aY c),e4];rfl
  ·rw[kW (λz=>c (wR (by rw[<-e3,z]))),A3 e2,fX (by simpa using c)]
def WO(e:BL kvs=qN m):(valN kvs (dH r)).getD (V.int 0)=V.int (cnt m r):=by rw[A3 e];unfold cnt;cases m.find? (λx=>decide (x.1=r))<;>rfl
def QD(nd:(m.map (·.1)).Nodup)(h:x∈m)(e:x.1=r):cnt m r=x.2:=by
 unfold cnt
 induction m with
 |nil=>cases h
 |cons y m ih=>
  rw[aQ,cD]at nd;by_cases c:y.1=r
  ·rw[fW (by exact aY c)];rcases aE.mp h with rfl|h
   ·rfl
   ·exact absurd (au.mpr {x,h,by rw[e,c]}) nd.1
  ·rw[fX (by simpa using c)];rcases aE.mp h with rfl|h
   ·exact absurd e c
   ·exact ih nd.2 h
def V2(nd:(m.map (·.1)).Nodup)(e:BL kvs=qN m):BL (putN kvs (dH r) b (.int (cnt m r+c)))=qN (AskP.pb m r c):=by
 have hv:=A3 (r:=r) e;have mem:r∈m.map (·.1)↔(m.find? λx=>decide (x.1=r)).isSome=true:=by rw[List.find?_isSome,au];exact{λ⟨x,h1,h2⟩=>{x,h1,aY h2},λ⟨x,h1,h2⟩=>{x,h1,bA h2}}
 unfold putN AskP.pb;by_cases q:r∈m.map (·.1)
 ·rw[ay q,ay (by rw[hv,iY];exact mem.mp q)];have gen:∀(kvs:List (NK×Addr×V))(m':Cm),(∀x∈m',x∈m)->BL kvs=qN m'->BL (kvs.map λp=>if p.1=dH r then(p.1,p.2.1,V.int (cnt m r+c))else p)=qN (m'.map λx=>if x.1=r then(x.1,x.2+c)else x):=by
   intro kvs
   induction kvs with
   |nil=>intro m' _ e;cases m' with
    |nil=>rfl
    |cons _ _=>cases e
   |cons p kvs ih=>intro m' hm e;cases m' with
    |nil=>cases e
    |cons x m'=>
     injection e with e1 e2;have e3:=cu Prod.fst e1;have e4:=cu Prod.snd e1;dsimp only at e3 e4;show(_::_:List (NK×V))=_::_;congr 1
     ·dsimp only;by_cases z:x.1=r
      ·rw[ay z,ay (by rw[e3,z])];rw[e3,QD nd (hm x aA) z]
      ·rw[aq z,aq (λq=>z (wR (by rw[<-e3,q])))];exact e1
     ·exact ih m' (λx hx=>hm x (az _ hx)) e2
  exact gen kvs m (λ_ h=>h) e
 ·rw[aq q,aq (by rw[hv,iY];exactλz=>q (mem.mpr z))];have z:(m.find? λx=>decide (x.1=r))=none:=by
   cases h:m.find? λx=>decide (x.1=r)with
   |none=>rfl
   |some _=>rw[h]at mem;exact absurd (mem.mpr rfl) q
  have z2:cnt m r=0:=by unfold cnt;rw[z];rfl
  unfold qN BL at*;rw[z2,ve,aH,aH,e];rfl
def RowC(P:Program)(w:World)(K:Frag)(H:Hp)(d:Addr)(m:Cm):Prop:=∃kvs,ff P w K H d kvs/\BL kvs=qN m
def RowC.same(h:RowC P w K H d m)(s:bD H H'):RowC P w K H' d m:=by obtain⟨kvs,h1,h2⟩:=h;obtain⟨u,hu⟩:=h1.some;exact{kvs,h1.tp (eA.same s) (by rw[hu,s _ _ hu]),h2}
def Jk(P:Program)(w:World)(K:Frag)(H:Hp)(d:Addr)(m:Cm):Prop:=∃kvs,ff P w K H d kvs/\BL kvs=qN m/\∀p∈kvs,∃xs,H p.2.1=some (.tup xs)
def Jk.c(h:Jk P w K H d m):RowC P w K H d m:=let⟨kvs,h1,h2,_⟩:=h;⟨kvs,h1,h2⟩
def v3(K:Frag)(H:Hp)(v:V)(x:List Str×Int):Prop:=∃p g,v=.ref p/\bq K H p [.ref g,.int x.2]/\bq K H g (x.1.map V.str)
def HD(h:v3 K H v x)(t:eA H H'):v3 K H' v x:=by obtain⟨p,g,e,h1,h2⟩:=h;exact{p,g,e,pW h1 t,pW h2 t}
def Fe(h1:pO vs)(h2:pO ts):pO (AskP.image us vs ts):=λz hz=>by
 obtain⟨t,ht,rfl⟩:=au.mp hz;unfold AskP.kM;split
 ·rw[bY];cases q:vs[us.idxOf t]? with
  |none=>exact h2 t ht
  |some v=>exact h1 v (aG q)
 ·exact h2 t ht
inductive xE(P:Program)(w:World)(K:Frag)(vs:List V)(H:Hp)(Q:VK)(_x3:XK):Prop
 |mk (l u t:Addr) (ys:List V) (m:Cm) (us ts:List Str) (_:vs=[.ref l,.ref u,.ref t]) (_:bw K H l ys) (_:Paired (v3 K H) ys m) (_:bw K H u (us.map V.str)) (_:us.Nodup) (_:us.length<=100) (_:(bw K H t (ts.map V.str)\/bq K H t (ts.map V.str))) (_:ts.length<=100) (_:pO ts) (_:(∀x∈m,x.1.length=us.length/\pO x.1)) (_:m.length<=9000000) (_:∀(d:Addr)(H':Hp),bD H H'->H d=none->Jk P w K H' d (AskP.dj m us ts)->Q (.ref d) H')
structure Dn(P:Program)(w:World)(K:Frag)(mg:Str->Option Value)(base:Heap):Prop where
 Fs:eC P w K mg base 1 "places_of" ["unknowns"] (G1 K)
 image:eC P w K mg base 1 "image" ["terms","places","given"] (Ko K)
def lT:cv ["counted_maps","unknowns","terms","places","counts","given","count","row"] ["counted_maps","unknowns","terms"] (bI xG):=jE (by decide+kernel)
def JB(F:fb K "narrowed" "narrowed" xG f fd)(T:Txt K mg)(D:Dn P w K mg base):c6 P w K mg base fD 3 f fd ["counted_maps","unknowns","terms"] (xE P w K):=by
 refine F.ok lT (λ_ _ _ _ h=>by cases h;subst_vars;rfl) (λc7 A outer s H vs Q E hr h=>?_);obtain⟨l,u,t,ys,m,us,ts,rfl,hl,oH,vO,nd,lu,ht,lt,st,gm,lm,k⟩:=h;have hN:=vT hr;refine{_,(aO (gk 3 lT (cl D.Fs hr (cw (pv 1))))
   (aO (gk 4 lT qY)
   (aO (hG bZ rfl (gn (pv 0)) (lL rfl (cK (kA 5 lT) (cK (kA 6 lT) iD)))
   (aO (gk 7 lT (cl D.image hr (tE (pv 2) (pv 3) (pv 5))))
   (bp (Hn hN (pv 4) (pv 7) (dh kB (Fu hN (pv 4) (pv 7) aV ⟨rfl,rfl,rfl,rfl⟩) (pv 6)) rfl))))
   (bp (cL (pv 4)))))),?_}
 have ly:=bh oH;refine{_,rfl,u,us,rfl,vO,nd,lu,λpd H1 s1 Sq Zw=>?_};intro d jm;have s2:bD H1 (upd H1 d (.dK [])):=aN jm _;have hd2:upd H1 d (.dK []) d=some (.dK []):=aw;have pC:=s1.trans s2;have Zv:=s2 _ _ Zw;have hdn:=s1.free jm;have pdd:=aX Zw jm;generalize (upd H1 d (.dK []))=H2 at s2 hd2 pC Zv⊢;refine{_,rfl,l,rfl,{_,hZ hl pC},o8
  (λi Z H3=>∃(x1 x2 x3:Option V),Z=[some (.ref l),some (.ref u),some (.ref t),some (.ref pd),some (.ref d),x1,x2,x3]/\bD H H3/\H3 pd=some (.dK (placesK us))/\i<=m.length/\∃kvs,ff P w K H3 d kvs/\BL kvs=qN (AskP.dj (m.take i) us ts)/\kvs.length<=i/\∀p∈kvs,∃xs,H3 p.2.1=some (.tup xs))
  {none,none,none,rfl,pC,Zv,aR _,[],EY hd2,rfl,ak _,λp hp=>(by cases hp)} (λi Z H3 _ ⟨_,_,_,_,sm,_⟩=>hZ hl sm) ?_ ?_}
 ·rintro i x Z H3 hx ⟨x1,x2,x3,rfl,s3,Zr,_,kvs,ha,ek,lk,gD⟩;obtain⟨y,hy,hp⟩:=Paired.at' oH hx;obtain⟨p,g,rfl,hp,hg⟩:=HD hp (eA.same s3);have bR:=(ar.mp hy).1;obtain⟨g1,g2⟩:=gm y (aG hy);refine{p,_,rfl,hp,rfl,_,_,rfl,_,_,rfl,rfl,?_};refine{_,rfl,_,rfl,_,rfl,t,pd,g,ts,us,y.1,rfl,ht.imp (λz=>hZ z s3) (λz=>dF z s3),Zr,nd,hg,g1,lt,lu,λr H4 s4 PF vP=>?_};have P9:ff P w K H4 d kvs:=by obtain⟨u,hu⟩:=ha.some;exact ha.tp (eA.same s4) (by rw[hu,s4 _ _ hu])
  have hk:iS K H4 (dH (AskP.image us y.1 ts)) r:=uO (bq.of vP) (Fe g2 st);refine{_,rfl,d,kvs,rfl,P9,_,rfl,r,kvs,_,rfl,P9,hk,?_};rw[WO ek];refine{_,rfl,_,_,rfl,rfl,_,rfl,_,rfl,d,r,kvs,_,rfl,rfl,P9,hk,by lia,?_};refine{_,_,_,rfl,λb o e=>?_,?_,bR,_,P9.put hk,?_,?_,λp hp=>?_}
  ·rw[ax (aX e hdn)];exact s4 _ _ (s3 _ _ e)
  ·rw[ax pdd];exact s4 _ _ Zr
  ·rw[V2 AskP.kC ek,bx,hy];unfold AskP.dj;rw[cq,Bt];rfl
  ·exact aF uC ∅
  ·have ne:∀{b:Addr}{xs:List V},H4 b=some (.tup xs)->b≠d:=λ{b xs} e z=>P9.p6 xs (.inl (by rw[<-z];exact e));rcases HY hp with⟨c,hc,_,e2⟩|⟨_,e2⟩
   ·obtain⟨xs,e⟩:=gD c hc;exact{xs,by rw[e2,ax (ne (s4 _ _ e))];exact s4 _ _ e}
   ·exact{_,by rw[e2,ax (ne vP)];exact vP}
 ·rintro Z H3 ⟨x1,x2,x3,rfl,s3,_,_,kvs,ha,ek,_,gD⟩;rw[ly,bu]at ek;exact{_,rfl,k d H3 s3 hdn ⟨kvs,ha,ek,gD⟩}
def pE(h:H a=some (.lst l)):hE H a:=λxs q=>by rcases q with q|⟨o,q⟩<;>rw[h]at q<;>cases q
def qU(h:eQ K H ys rs)(t:eA H H'):eQ K H' ys rs:=h.keep λa xs q=>pW q t
def vM{ts:List Str}(m:z∈ts):ts[ts.idxOf z]?=some z/\∀n,n<ts.idxOf z->ts[n]?≠some z:=by have li:=cz m;refine{by rw[ao li,jV],λn hn q=>?_};obtain⟨ln,en⟩:=ar.mp q;have:=wA (p:=(·==z)) (xs:=ts) hn;rw[en]at this;simp at this
def Ji{z:Str}(m:z∈ts)(le:rs.length=ts.length):rs[ts.idxOf z]?=some (AskP.atT rs ts z):=by have li:=cz m;unfold AskP.atT;rw[bY,ao ∅];rfl
structure nQ(P:Program)(w:World)(K:Frag)(H0 H:Hp)(d:Addr)(kvs:List (NK×Addr×V))(f:List Str->List (List Str)):Prop where
 at_:ff P w K H d kvs
 no:∀zs,valN kvs (dH zs)=none->f zs=[]
 vals:∀zs v,valN kvs (dH zs)=some v->∃l ys,v=.ref l/\H0 l=none/\H l=some (.lst ys)/\eQ K H ys (f zs)
 inj:∀zs JS l,valN kvs (dH zs)=some (.ref l)->valN kvs (dH JS)=some (.ref l)->zs=JS
def nQ.same(x:nQ P w K H0 H d kvs f)(s:bD H H'):nQ P w K H0 H' d kvs f:=by obtain⟨u,hu⟩:=x.at_.some;refine{x.at_.tp (eA.same s) (by rw[hu,s _ _ hu]),x.no,λzs v h=>?_,x.inj};obtain⟨l,ys,h1,h2,h3,h4⟩:=x.vals zs v h;exact{l,ys,h1,h2,s _ _ h3,ip h4 s}
def nQ.Yq(x:nQ P w K H0 H d kvs f)(hk:iS K H (dH key) b)(hn:valN kvs (dH key)=none)(h0:H0 l0=none)(hl:H l0=some (.lst []))(hd:H0 d=none)
  (fr:∀zs,valN kvs (dH zs)≠some (.ref l0)):nQ P w K H0 (upd H d (.ext (DN P w d (putN kvs (dH key) b (.ref l0))))) d (putN kvs (dH key) b (.ref l0)) f:=by
 have nt:=x.at_.p6;have ne:∀{l:Addr}{ys:List V},H l=some (.lst ys)->l≠d:=λ{l ys} h e=>by rw[e]at h;rcases x.at_.1 with q|⟨_,q⟩<;>rw[h]at q<;>cases q
 refine{x.at_.put hk,λzs h=>?_,λzs v h=>?_,λzs JS l h h'=>?_}
 ·rw[pz]at h;split at h
  ·cases h
  ·exact x.no zs h
 ·rw[pz]at h;split at h
  ·next c=>
   cases h;refine{l0,[],rfl,h0,by rw[ax (ne hl)];exact hl,?_};rw[x.no zs (by rw[c];exact hn)];exact .nil
  ·obtain⟨l,ys,h1,h2,h3,h4⟩:=x.vals zs v h;exact{l,ys,h1,h2,by rw[ax (ne h3)];exact h3,qU h4 (eA.upd nt)}
 ·rw[pz]at h h';split at h
  ·next c=>
   cases h;split at h'
   ·next c'=>exact wR (c.trans c'.symm)
   ·exact absurd h' (fr JS)
  ·split at h'
   ·cases h';exact absurd h (fr zs)
   ·exact x.inj zs JS l h h'
def nQ.push(x:nQ P w K H0 H d kvs f)(hv:valN kvs (dH key)=some (.ref l))(hl:H l=some (.lst ys))(hp:bq K H p (row.map V.str)):
  nQ P w K H0 (upd H l (.lst (ys++[.ref p]))) d kvs (λzs=>if zs=key then f zs++[row]else f zs):=by
 have t:eA H (upd H l (.lst (ys++[.ref p]))):=eA.upd (pE hl);have dl:d≠l:=λe=>by rw[<-e]at hl;rcases x.at_.1 with q|⟨_,q⟩<;>rw[hl]at q<;>cases q
 refine{x.at_.tp t (ax dl),λzs h=>?_,λzs v h=>?_,x.inj}
 ·have c:¬zs=key:=λc=>by rw[c,hv]at h;cases h
  show(if zs=key then _ else _)=_;rw[aq c];exact x.no zs h
 ·obtain⟨l',gQ,rfl,h2,h3,h4⟩:=x.vals zs v h;by_cases c:zs=key
  ·have e:l'=l:=by rw[c,hv]at h;cases h;rfl
   subst e;rw[hl]at h3;cases h3;refine{l',_,rfl,h2,aw,?_};show eQ K _ _ (if zs=key then _ else _);rw[ay c];exact(qU h4 t).snoc {p,rfl,pW hp t}
  ·have e:l'≠l:=λe=>c (x.inj zs key l (by rw[h,e]) hv);refine{l',gQ,rfl,h2,by rw[ax e];exact h3,?_};show eQ K _ _ (if zs=key then _ else _);rw[aq c];exact qU h4 t
def gG(P:Program)(w:World)(K:Frag)(H:Hp)(av:List Addr)(d:Addr)(f:List Str->List (List Str)):Prop:=d∉av/\∃kvs,ff P w K H d kvs/\∀zs,(valN kvs (dH zs)=none/\f zs=[])\/∃l ys,valN kvs (dH zs)=some (.ref l)/\l∉av/\H l=some (.lst ys)/\eQ K H ys (f zs)
def gG.fr(x:gG P w K H av d f)(s:∀b u,b∉av->H b=some u->H' b=some u)(t:eA H H'):gG P w K H' av d f:=by obtain⟨h0,kvs,h1,h2⟩:=x;obtain⟨u,hu⟩:=h1.some;exact{h0,kvs,h1.tp t (by rw[hu,s _ _ h0 hu]),λzs=>(h2 zs).imp id λ⟨l,ys,a,n,b,c⟩=>{l,ys,a,n,s _ _ n b,qU c t}}
def gG.same(x:gG P w K H av d f)(s:bD H H'):gG P w K H' av d f:=x.fr (λb u _ e=>s _ _ e) (eA.same s)
def gG.more(x:gG P w K H av d f)(h:H e=none):gG P w K H (e::av) d f:=by
 obtain⟨h0,kvs,h1,h2⟩:=x;obtain⟨u,hu⟩:=h1.some;have nm:∀{b:Addr}{u:HO},H b=some u->b∉av->b∉e::av:=λ{b u} hb n z=>by
  rcases aE.mp z with z|z
  ·rw[z,h]at hb;cases hb
  ·exact n z
 exact{nm hu h0,kvs,h1,λzs=>(h2 zs).imp id λ⟨l,ys,a,n,b,c⟩=>{l,ys,a,nm b n,b,c}}
def gG.less(x:gG P w K H av d f)(h:∀b∈av',b∈av):gG P w K H av' d f:=by obtain⟨h0,kvs,h1,h2⟩:=x;exact{λz=>h0 (h _ z),kvs,h1,λzs=>(h2 zs).imp id λ⟨l,ys,a,n,b,c⟩=>{l,ys,a,λz=>n (h _ z),b,c}}
def nQ.view(x:nQ P w K H0 H d kvs f)(h0:H0 d=none)(ha:∀b∈av,H0 b≠none):gG P w K H av d f:={λz=>ha _ z h0,kvs,x.at_,λzs=>by
 cases e:valN kvs (dH zs)with
 |none=>exact .inl {rfl,x.no zs e}
 |some v=>
  obtain⟨l,ys,rfl,h2,h3,h4⟩:=x.vals zs v e;exact .inr {l,ys,rfl,λz=>ha _ z h2,h3,h4}}
inductive E9(P:Program)(w:World)(K:Frag)(vs:List V)(H:Hp)(Q:VK)(_x3:XK):Prop
 |mk (l t a b:Addr) (ys:List V) (rows:List (List Str)) (ts known fresh:List Str) (_:vs=[.ref l,.ref t,.ref a,.ref b]) (_:bw K H l ys) (_:eQ K H ys rows) (_:H t=some (.tup (ts.map V.str))) (_:bw K H a (known.map V.str)) (_:bw K H b (fresh.map V.str)) (_:rows.length<=100) (_:(∀r∈rows,r.length<=100/\pO r)) (_:ts.length<=100) (_:known.length<=100) (_:fresh.length<=100) (_:(∀z∈known,z∈ts)) (_:(∀z∈fresh,z∈ts)) (_:∀(d:Addr)(H':Hp),bD H H'->H d=none->(∀av:List Addr,(∀b∈av,H b≠none)->gG P w K H' av d (AskP.fo rows ts known fresh))->Q (.ref d) H')
structure Dt6(P:Program)(w:World)(K:Frag)(mg:Str->Option Value)(base:Heap):Prop where
 Sd:eC P w K mg base 1 "is_image" ["row","terms"] (Fb K)
def NT{rs ts ks:List Str}(h:pO rs)(le:rs.length=ts.length)(hk:∀z∈ks,z∈ts):pO (ks.map (AskP.atT rs ts)):=λz hz=>by obtain⟨t,ht,rfl⟩:=au.mp hz;exact h _ (aG (Ji (hk t ht) le))
def LU{rows:List (List Str)}{ts known fresh r:List Str}(h:rows[i]?=some r)(im:AskP.mx r ts=true):AskP.fo (rows.take (i+1)) ts known fresh=λzs=>if zs=known.map (AskP.atT r ts)then AskP.fo (rows.take i) ts known fresh zs++[fresh.map (AskP.atT r ts)]else AskP.fo (rows.take i) ts known fresh zs:=by
 funext zs;unfold AskP.fo;rw[bx,h,cq,jX,aH];by_cases c:zs=known.map (AskP.atT r ts)
 ·rw[ay c,List.filter_cons_of_pos (by rw[im,c];simp)];rfl
 ·rw[aq c,vt (by rw[im,jP];exactλq=>c (bA q).symm)];simp
def LV{rows:List (List Str)}{ts known fresh r:List Str}(h:rows[i]?=some r)(im:AskP.mx r ts=false):AskP.fo (rows.take (i+1)) ts known fresh=AskP.fo (rows.take i) ts known fresh:=by funext zs;unfold AskP.fo;rw[bx,h,cq,jX,aH,vt (by rw[im];simp)];simp
def mf:cv ["rows","terms","known","fresh","tails","row","key"] ["rows","terms","known","fresh"] (bI qR):=jE (by decide+kernel)
def Dx(F:fb K "tails_by_key" "tails_by_key" qR f fd)(T:Txt K mg)(D:Dt6 P w K mg base):c6 P w K mg base fD 3 f fd ["rows","terms","known","fresh"] (E9 P w K):=by
 refine F.ok mf (λ_ _ _ _ h=>by cases h;subst_vars;rfl) (λc7 A outer s H vs Q E hr h=>?_);obtain⟨l,t,a,b,ys,rows,ts,known,fresh,rfl,hl,oH,ht,ha,hb,lr,gr,lt,lk,lf,kt,ft,k⟩:=h;have hu:=my hr;have hN:=vT hr;refine{_,(aO (gk 4 mf qY)
   (aO (hG bZ rfl (gn (pv 0)) (pD (i:=5) mf.nd rfl (Or.inr rfl))
   (bp (ka (Hl (cl D.Sd hr (eK (pv 5) (pv 1)))) (aO (gk 6 mf (eU dW rfl T.jJ (by decide+kernel) (cw (jq rfl (eG (fs:=["row","terms"]) (fr:=[5,1])) (gn (pv 2)) (λ_ _ _ _=>(cA (w4 (K:=K)) (pv 1) (HA (K:=K) nh m9 m7 xT (pv 2) (cw (pv 0))) (λ_ _=>rfl)))))))
   (bp (jI (mn cx d8 d6 mU (Mc hN (pv 4) (pv 6) (hJ ju) ⟨rfl,rfl,rfl,rfl⟩) (cw (eU dW rfl T.jJ (by decide+kernel) (cw (jq rfl (eG (fs:=["row","terms"]) (fr:=[5,1])) (gn (pv 3)) (λ_ _ _ _=>(cA (w4 (K:=K)) (pv 1) (HA (K:=K) nh m9 m7 xT (pv 2) (cw (pv 0))) (λ_ _=>rfl))))))))))) gP)))
   (bp (cL (pv 4))))),?_}
 have ly:ys.length=rows.length:=oH.length;intro d jm;have s1:bD H (upd H d (.dK [])):=aN jm _;refine{_,rfl,l,rfl,{_,hZ hl s1},o8 (K:=K) (a:=l) (xs:=ys)
  (λi Z H2=>∃(x1 x2:Option V),Z=[some (.ref l),some (.ref t),some (.ref a),some (.ref b),some (.ref d),x1,x2]/\bD H H2/\i<=rows.length/\∃kvs,nQ P w K H H2 d kvs (AskP.fo (rows.take i) ts known fresh)/\kvs.length<=i)
  {none,none,rfl,s1,aR _,[],{EY aw,λzs _=>rfl,λzs v h=>(by cases h),λzs JS l h=>(by cases h)},ak _} (λi Z H2 _ ⟨_,_,_,sm,_⟩=>hZ hl sm) ?_ ?_}
 ·rintro i x Z H2 hx ⟨x1,x2,rfl,s2,_,kvs,tI,lkv⟩;obtain⟨r,tF,ra,rfl,Pz⟩:=Paired.at' (ip oH s2) hx;have bR:i<rows.length:=(ar.mp tF).1;obtain⟨g1,g2⟩:=gr r (aG tF);refine{_,rfl,_,rfl,ra,t,r,ts,rfl,Pz,s2 _ _ ht,g1,lt,λH3 s3=>{_,rfl,?_}};refine gZ (λc=>?_) (λc=>?_)
  ·have le:r.length=ts.length:=by unfold AskP.mx at c;rw[cE]at c;exact bA c.1
   have Kv:=s2.trans s3;have Sn:=dF Pz s3;have tI3:=tI.same s3;refine{_,rfl,a,rfl,{_,hZ ha Kv},kR (K:=K) (a:=a) (xs:=known.map V.str) (λj zs H4=>H4=H3/\j<=known.length/\zs=((known.take j).map (AskP.atT r ts)).map V.str) (by rw[ag];exact bH ∅) {rfl,aR _,rfl} ?_ ?_ ?_}
   ·rintro j zs H4 hj ⟨rfl,_,rfl⟩;refine{hZ ha Kv,?_};rw[ag,ag,aU];lia
   ·rintro j x zs H4 N hc ⟨rfl,hj,rfl⟩ qv;obtain⟨z,hz,rfl⟩:=jM hc;have oI:j<known.length:=(ar.mp hz).1;have m:=kt z (aG hz);refine h9 ?_;refine{_,rfl,_,rfl,.inr (.inl {rfl,.inl {_,Kv _ _ ht}}),_,rfl,t,ts,z,ts.idxOf z,rfl,rfl,bq.of (Kv _ _ ht),(vM m).1,(vM m).2,ra,_,_,V.str (AskP.atT r ts z),rfl,rfl,Sn,jN (by rw[aJ,Ji m le];rfl),qv _ _ {rfl,oI,?_}};rw[bx,hz,aH,aH];rfl
   rintro zs H4 ⟨rfl,_,rfl⟩ q hq;rw[ag,bu];refine{q,_,rfl,.inl {bw.of aw,λkp Ll=>?_}};have s5:bD H4 (upd (upd H4 q (.lst ((known.map (AskP.atT r ts)).map V.str))) kp (.tup ((known.map (AskP.atT r ts)).map V.str))):=(aN hq _).trans (aN Ll _);have ZH:upd (upd H4 q (.lst ((known.map (AskP.atT r ts)).map V.str))) kp (.tup ((known.map (AskP.atT r ts)).map V.str)) kp=some (.tup ((known.map (AskP.atT r ts)).map V.str)):=aw;generalize (upd (upd H4 q (.lst ((known.map (AskP.atT r ts)).map V.str))) kp (.tup ((known.map (AskP.atT r ts)).map V.str)))=H5 at s5 ZH⊢;have Xx:=tI3.same s5;refine{_,rfl,d,kvs,rfl,Xx.at_,_,rfl,(by show 0<=sizeLine;decide),λl0 uS=>?_};have s6:bD H5 (upd H5 l0 (.lst [])):=aN uS _;have uR:upd H5 l0 (.lst []) l0=some (.lst []):=aw;have zE:=Kv.trans (s5.trans s6);have Qd:H l0=none:=(Kv.trans s5).free uS;have fr6:∀zs,valN kvs (dH zs)≠some (.ref l0):=λzs h=>by obtain⟨l',_,e,_,h3,_⟩:=Xx.vals zs _ h;cases e;rw[uS]at h3;cases h3
   have Kh:=Xx.same s6;generalize (upd H5 l0 (.lst []))=H6 at s6 uR zE Kh⊢;have Lm:iS K H6 (dH (known.map (AskP.atT r ts))) kp:=uO (bq.of (s6 _ _ ZH)) (NT g2 le kt);refine{kp,kvs,_,rfl,Kh.at_,Lm,by lia,λv hv=>?_,λhv=>?_};rotate_left;have I7:=Kh.Yq Lm hv Qd uR jm fr6;have UM:valN (putN kvs (dH (known.map (AskP.atT r ts))) kp (.ref l0)) (dH (known.map (AskP.atT r ts)))=some (.ref l0):=by rw[pz,ay rfl]
   have Fm:bD H (upd H6 d (.ext (DN P w d (putN kvs (dH (known.map (AskP.atT r ts))) kp (.ref l0))))):=λb o e=>by rw[ax (aX e jm)];exact zE _ _ e
   have YD:(putN kvs (dH (known.map (AskP.atT r ts))) kp (.ref l0)).length<=i+1:=aF uC ∅;have ME:bq K (upd H6 d (.ext (DN P w d (putN kvs (dH (known.map (AskP.atT r ts))) kp (.ref l0))))) ra (r.map V.str):=pW (dF Sn (s5.trans s6)) (eA.upd Kh.at_.p6);generalize Va:(upd H6 d (.ext (DN _ _ d _)))=H7
   replace I7:nQ P w K H H7 d (putN kvs (dH (known.map (AskP.atT r ts))) kp (.ref l0)) (AskP.fo (rows.take i) ts known fresh):=by rw[<-Va];exact I7
   replace Fm:bD H H7:=by rw[<-Va];exact Fm
   replace ME:bq K H7 ra (r.map V.str):=by rw[<-Va];exact ME
   clear Va;generalize (putN kvs (dH (known.map (AskP.atT r ts))) kp (.ref l0))=kv7 at I7 UM YD;rotate_left;have ME:=dF Sn (s5.trans s6);have Fm:=zE;have I7:=Kh;have YD:kvs.length<=i+1:=by lia
   have UM:=hv;clear zE s6 Kh Lm uR;obtain⟨H7,rfl⟩:∃x,x=H6:=⟨_,rfl⟩;obtain⟨kv7,rfl⟩:∃x,x=kvs:=⟨_,rfl⟩;all_goals
    obtain⟨ll,Uw,e7,h07,yK,PD⟩:=I7.vals _ _ UM;cases e7;have lly:Uw.length<=100:=by rw[PD.length];unfold AskP.fo;rw[ag];refine aF (dC _ _) ?_;rw[aU];lia
    refine{.inl {rfl,_,bw.of yK},?_};refine{_,rfl,b,rfl,{_,hZ hb Fm},kR (K:=K) (a:=b) (xs:=fresh.map V.str) (λj zs H8=>H8=H7/\j<=fresh.length/\zs=((fresh.take j).map (AskP.atT r ts)).map V.str) (by rw[ag];exact bH ∅) {rfl,aR _,rfl} ?_ ?_ ?_}
    ·rintro j zs H8 hj ⟨rfl,_,rfl⟩;refine{hZ hb Fm,?_};rw[ag,ag,aU];lia
    ·rintro j x zs H8 N hc ⟨rfl,hj,rfl⟩ qv;obtain⟨z,hz,rfl⟩:=jM hc;have oI:j<fresh.length:=(ar.mp hz).1;have m:=ft z (aG hz);refine h9 ?_;refine{_,rfl,_,rfl,.inr (.inl {rfl,.inl {_,Fm _ _ ht}}),_,rfl,t,ts,z,ts.idxOf z,rfl,rfl,bq.of (Fm _ _ ht),(vM m).1,(vM m).2,ra,_,_,V.str (AskP.atT r ts z),rfl,rfl,ME,jN (by rw[aJ,Ji m le];rfl),qv _ _ {rfl,oI,?_}};rw[bx,hz,aH,aH];rfl
    rintro zs H8 ⟨rfl,_,rfl⟩ q2 IB;rw[ag,bu];refine{q2,_,rfl,.inl {bw.of aw,λtp Zc=>?_}};have s8:=(aN IB (.lst ((fresh.map (AskP.atT r ts)).map V.str))).trans (aN Zc (.tup ((fresh.map (AskP.atT r ts)).map V.str)));have I9:=(I7.same s8).push (p:=tp) (row:=fresh.map (AskP.atT r ts)) UM (s8 _ _ yK) (bq.of aw);refine{_,Uw,_,rfl,rfl,s8 _ _ yK,bH ∅,?_};refine{_,_,rfl,λb o e=>?_,bR,kv7,?_,YD}
    ·rw[ax (aX e h07)];exact s8 _ _ (Fm _ _ e)
    ·rw[LU tF c];exact I9
  ·refine{_,_,rfl,s2.trans s3,bR,kvs,?_,by lia};rw[LV tF (by simpa using c)];exact tI.same s3
 ·rintro Z H2 ⟨x1,x2,rfl,s2,_,kvs,tI,_⟩;rw[ly,bu]at tI;exact{_,rfl,k d H2 s2 jm λav ha=>tI.view jm ha}
end
end jn
namespace L2
open PySem PySem.Spec PyProof.Rows
section
variable{P:Program}{w:World}{A:Around}{E:Value->Shared->Prop}{v:Shared}
structure Zu(h:Heap)(z ti to i1 i2 l1 l2 T:Addr)(k:Nat):Prop where
 self:∃b,h.get? z=some (xw (rawInt T) b ti to)
 live:∃o,h.get? T=some o
 ins:IsPair h ti (.ref i1) (.ref i2)
 w1:h.IsTupleIter i1 l1 k
 w2:h.IsTupleIter i2 l2 k
def Vu{Q:Value->Shared->Prop}(D:ZipApart z ti to i1 i2 l1 l2)(nT:T≠z)(g:Zu v.heap z ti to i1 i2 l1 l2 T k)
  (t1:v.heap.IsTuple l1 xs) (t2:v.heap.IsTuple l2 ys) (ex:xs[k]?=some x) (ey:ys[k]?=some y)
  (q:∀h',Zu h' z ti to i1 i2 l1 l2 T (k+1)->IsPair h' v.heap.objs.size x y->(∀c o,c≠z->c≠i1->c≠i2->v.heap.get? c=some o->h'.get? c=some o)->Q (.ref v.heap.objs.size) {v with heap:=h'}):
  wpAny (model P w) A (Builtin.«zip.__next__» {[.ref z],[]}) (λfin s'=>∃u,fin=.done (.ret u)/\Q u s') E v:=by
 obtain⟨⟨b,gs⟩,gT,gi,g1,g2⟩:=g;show wpAny _ _ (field (.ref z) 2>>=_) _ _ _;refine ae (bF gs rfl rfl ?_);refine ae (bF gs rfl rfl ?_);refine ae (bO gi rfl ?_);refine ae (JR gs gT λp1 z1 r1=>?_);refine ae ?_;refine ae (ae (bK ?_));refine ae (t7 (iG g1 r1 D.i1z) (nK t1 r1 D.l1z) ex λp2 k2 r2=>af ?_);refine af ?_;refine ae (ae (bK ?_));refine ae (t7 (iG (iG g2 r1 D.i2z) r2 D.i12.symm) (nK (nK t2 r1 D.l2z) r2 D.l2i1) ey λp3 k3 r3=>af ?_);refine af (af ?_);show wpAny _ _ (newTuple [x,y]>>=_) _ _ _;refine ae (kr (af {_,rfl,?_}));have sz:p3.objs.size=v.heap.objs.size:=by rw[r3.1,r2.1,r1.1]
 have z3:=r3.extBut _ _ D.i2z.symm (r2.extBut _ _ D.i1z.symm z1);have st:∀c o,c≠z->c≠i1->c≠i2->v.heap.get? c=some o->p3.get? c=some o:=λc o m1 m2 m3 e=>r3.extBut _ _ m3 (r2.extBut _ _ m2 (r1.extBut _ _ m1 e));have j1:=iG k2 r3 D.i12;rw[sz];obtain⟨oa,ja,ra⟩:=j1;obtain⟨ob,jb,rb⟩:=k3;obtain⟨oT,gT⟩:=gT;obtain⟨o1,e1,c1,_⟩:=g1;obtain⟨o2,e2,c2,_⟩:=g2;refine q _ {{true,ah _ z3},?_,ah _ (st _ _ D.TIz D.TIi1 D.TIi2 gi),{oa,ah _ ja,ra},{ob,ah _ jb,rb}} ?_ λc o m1 m2 m3 e=>ah _ (st c o m1 m2 m3 e)
 ·by_cases n1:T=i1
  ·rw[n1];exact{oa,ah _ ja}
  ·by_cases n2:T=i2
   ·rw[n2];exact{ob,ah _ jb}
   ·exact{oT,ah _ (st _ _ nT n1 n2 gT)}
 ·have:=aD p3 (o:={cls:=.type "tuple",data:=.seq #[x,y]}) rfl;rw[sz]at this;exact this
def WY(hh:A.handled=none)(D:ZipApart z ti to i1 i2 l1 l2)(g:Zu v.heap z ti to i1 i2 l1 l2 T k)
  (t1:v.heap.IsTuple l1 xs) (ex:xs[k]?=none)
  (q:∀h' e,(∀c o,c≠z->c≠i1->c≠i2->v.heap.get? c=some o->h'.get? c=some o)->(∃o,h'.get? e=some o/\o.cls=.type "StopIteration")->E (.ref e) {v with heap:=h'}):
  wpAny (model P w) A (Builtin.«zip.__next__» {[.ref z],[]}) Q E v:=by
 obtain⟨⟨b,gs⟩,gT,gi,g1,g2⟩:=g;show wpAny _ _ (field (.ref z) 2>>=_) _ _ _;refine ae (bF gs rfl rfl ?_);refine ae (bF gs rfl rfl ?_);refine ae (bO gi rfl ?_);refine ae (JR gs gT λp1 z1 r1=>?_);refine ae ?_;refine ae (ae (bK ?_));exact ae (wV hh (iG g1 r1 D.i1z) (nK t1 r1 D.l1z) ex λp2 e r2 he=>q p2 e (λc o m1 m2 m3 x=>r2 _ _ m2 (r1.extBut _ _ m1 x)) he)
def Vt(D:ZipApart z ti to i1 i2 l1 l2)(nT:T≠z)(g:Zu v.heap z ti to i1 i2 l1 l2 T k)
  (t1:v.heap.IsTuple l1 xs) (t2:v.heap.IsTuple l2 ys) (ex:xs[k]?=some x) (ey:ys[k]?=some y)
  (q:∀h',Zu h' z ti to i1 i2 l1 l2 T (k+1)->IsPair h' v.heap.objs.size x y->(∀c o,c≠z->c≠i1->c≠i2->v.heap.get? c=some o->h'.get? c=some o)->Q (some (.ref v.heap.objs.size)) {v with heap:=h'}):
  wpAny (model P w) A (pyNext (.ref z)) Q E v:=by
 obtain⟨b,gs⟩:=g.self;have ty:v.TypeIs (.ref z) "zip":=⟨_,gs,rfl⟩;unfold pyNext;exact ae (dq (wpAny_callSpecial?_slot ty dO (ba dO ty jC (Vu D nT g t1 t2 ex ey λh' b1 b2 b3=>af (q h' b1 b2 b3)) (je _))))
def Vs(hh:A.handled=none)(D:ZipApart z ti to i1 i2 l1 l2)(g:Zu v.heap z ti to i1 i2 l1 l2 T k)
  (t1:v.heap.IsTuple l1 xs) (ex:xs[k]?=none) (q:∀h',(∀c o,c≠z->c≠i1->c≠i2->v.heap.get? c=some o->h'.get? c=some o)->Q none {v with heap:=h'}):
  wpAny (model P w) A (pyNext (.ref z)) Q E v:=by
 obtain⟨b,gs⟩:=g.self;have ty:v.TypeIs (.ref z) "zip":=⟨_,gs,rfl⟩;unfold pyNext;refine ae (dq (wpAny_callSpecial?_slot ty dO (ba dO ty jC (WY hh D g t1 ex λh' e hk he=>?_) (je _))));obtain⟨o,ho,hc⟩:=he;exact ae (fq ⟨o,ho,hc⟩ jr (af (q _ hk)))
variable{prog:Program}
def WK{h0:Heap}(hA:A.handled=none)(D:ZipApart z ti to i1 i2 l1 l2)(jm:h0.get? d=none)(n1:d≠z)(n2:d≠i1)(n3:d≠i2)(n4:d≠ti)
  (mB:h0.IsTuple l1 us.toArray) (jF:h0.IsTuple l2 vs.toArray) (hp:Paired (λ(u:Value)(p:Key×Value)=>(bG prog w).is p.1 u=true) us pairs) (hv:vs=pairs.map (·.2)) (hsz:pairs.length<=sizeLine) (g:Array GenState) (dr:Drawn) (os:OsState)
  (k:∀h' tk,(∀b o,b≠z->b≠to->b≠i1->b≠i2->h0.get? b=some o->h'.get? b=some o)->h'.DictOf (bG prog w) d (merged [] pairs)->R (.ok (.ret .none)) ⟨h',g,dr,tk,os⟩):
  ∀(m i:Nat)(h:Heap)(tk:Nat)(T:Addr),us.length -i=m->i<=us.length->(∀b o,b≠z->b≠to->b≠i1->b≠i2->h0.get? b=some o->h.get? b=some o)->T≠z->Zu h z ti to i1 i2 l1 l2 T i->h.DictOf (bG prog w) d (merged [] (pairs.take i))->
   codeAny (model prog w) A (.builtin "dict.update.loop" {[.ref d,.ref z,rawInt i,.none],[]}) R ⟨h,g,dr,tk,os⟩:=by
 intro m;have lp:=bh hp;have UC:∀(h:Heap),(∀b o,b≠z->b≠to->b≠i1->b≠i2->h0.get? b=some o->h.get? b=some o)->h.IsTuple l1 us.toArray/\h.IsTuple l2 vs.toArray:=λh kp=>by obtain⟨o1,e1,r1⟩:=mB;obtain⟨o2,e2,r2⟩:=jF;exact{{o1,kp _ _ D.l1z D.l1TO D.l1i1 D.l1i2 e1,r1},{o2,kp _ _ D.l2z D.l2TO D.l2i1 D.l2i2 e2,r2}}
 induction m with
 |zero=>
  intro i h tk T em hi kp nT hz hd;have ei:i=us.length:=by lia
  refine dJ yb ?_;unfold Builtin.«dict.update.loop»;refine ae (Vs (show(A.under _).handled=none from hA) D hz (UC h kp).1 (by rw[ei];simp) λh' hs=>?_);refine ae (af (af ?_));rw[ei,lp,bu]at hd;obtain⟨o,es,ep,e,r⟩:=hd;exact k h' _ (λb o m1 m2 m3 m4 hb=>hs b o m1 m3 m4 (kp b o m1 m2 m3 m4 hb)) {o,es,ep,hs _ _ n1 n2 n3 e,r}
 |succ m ih=>
  intro i h tk T em hi kp nT hz hd;have bR:i<us.length:=by lia
  obtain⟨x,hx⟩:∃x,us[i]?=some x:={_,ao bR};obtain⟨kv,mC,ZG⟩:=Paired.at' hp hx;have hy:vs[i]?=some kv.2:=by rw[hv,aJ,mC];rfl
  refine dJ yb ?_;unfold Builtin.«dict.update.loop»;obtain⟨t1,t2⟩:=UC h kp;refine ae (Vt D nT hz t1 t2 (by simpa using hx) (by simpa using hy) λh1 vN pr Ag=>?_);have Ih:=λb o m1 m2 m3 m4 hb=>Ag b o m1 m3 m4 (kp b o m1 m2 m3 m4 hb);obtain⟨od,es,ep,ed,rd⟩:=hd;have Lo:h1.DictOf (bG prog w) d (merged [] (pairs.take i)):={od,es,ep,Ag _ _ n1 n2 n3 ed,rd};refine ae (bK (ae (wpAny_tryCatch ?_)));unfold Builtin.Dict.pairItems;refine ae (gw ⟨_,pr,rfl⟩ ?_);rw[ay (by decide)];refine ae (bO pr rfl (af ?_));have lm:(merged [] (pairs.take i)).length<=sizeLine:=by have e1:=merged_length_le [] (pairs.take i);rw[aU]at e1;simp only[cN]at e1;lia
  refine bK (yU ZG Lo λh2 hd2 kP=>?_);refine af {nB _ (by decide+kernel),?_};have st:∀b o,b≠d->h1.get? b=some o->h2.get? b=some o:=λb o n e=>(kP.2 b n).trans e;have uN:=λb o m1 m2 m3 m4 hb=>st b o (λe=>by rw[e,jm]at hb;cases hb) (Ih b o m1 m2 m3 m4 hb);obtain⟨⟨b,gs⟩,⟨oT,gT⟩,gi,⟨oa,ja,ra⟩,⟨ob,jb,rb⟩⟩:=vN;have qr:Zu h2 z ti to i1 i2 l1 l2 T (i+1):=by
   refine{{b,st _ _ (bX n1) gs},?_,st _ _ (bX n4) gi,{oa,st _ _ (bX n2) ja,ra},{ob,st _ _ (bX n3) jb,rb}};by_cases nd:T=d
   ·obtain⟨o',_,_,e',_⟩:=hd2;rw[nd];exact⟨o',e'⟩
   ·exact{oT,st _ _ nd gT}
  exact ih (i+1) h2 _ T ∅ bR uN nT qr (by rw[merged_take_succ [] pairs i kv mC];exact hd2)
def SR{h0 h:Heap}(hA:A.handled=none)(D:ZipApart z ti to i1 i2 l1 l2)(jm:h0.get? d=none)(n1:d≠z)(n2:d≠i1)(n3:d≠i2)(n4:d≠ti)(n5:d≠to)
  (mB:h0.IsTuple l1 us.toArray) (jF:h0.IsTuple l2 vs.toArray) (hp:Paired (λ(u:Value)(p:Key×Value)=>(bG prog w).is p.1 u=true) us pairs) (hv:vs=pairs.map (·.2)) (hsz:pairs.length<=sizeLine) (h1l:1<=us.length) (g:Array GenState) (dr:Drawn) (os:OsState)
  (k:∀h' tk,(∀b o,b≠z->b≠to->b≠i1->b≠i2->h0.get? b=some o->h'.get? b=some o)->h'.DictOf (bG prog w) d (merged [] pairs)->R (.ok (.ret .none)) ⟨h',g,dr,tk,os⟩)
  (kp:∀b o,b≠z->b≠to->b≠i1->b≠i2->h0.get? b=some o->h.get? b=some o) (hz:IsZip h z ti to .none) (hi:IsPair h ti (.ref i1) (.ref i2)) (ho:∃a b,IsPair h to a b) (j1:h.IsTupleIter i1 l1 0) (j2:h.IsTupleIter i2 l2 0) (hd:h.DictOf (bG prog w) d []):
   codeAny (model prog w) A (.builtin "dict.update.loop" {[.ref d,.ref z,rawInt 0,.none],[]}) R ⟨h,g,dr,tk,os⟩:=by
 obtain⟨x,hx⟩:∃x,us[0]?=some x:={_,ao ∅};obtain⟨kv,mC,ZG⟩:=Paired.at' hp hx;have hy:vs[0]?=some kv.2:=by rw[hv,aJ,mC];rfl
 have t1:h.IsTuple l1 us.toArray:=by obtain⟨o1,e1,r1⟩:=mB;exact{o1,kp _ _ D.l1z D.l1TO D.l1i1 D.l1i2 e1,r1}
 have t2:h.IsTuple l2 vs.toArray:=by obtain⟨o2,e2,r2⟩:=jF;exact{o2,kp _ _ D.l2z D.l2TO D.l2i1 D.l2i2 e2,r2}
 refine dJ yb ?_;unfold Builtin.«dict.update.loop»;obtain⟨a,b,ho⟩:=ho;have lz:=aB hz;refine ae (JQ {D.TITO,D.i12,D.l1TO,D.l2TO} {hz,hi,⟨a,b,ho⟩,j1,j2} t1 t2 (by simpa using hx) (by simpa using hy) λh1 acd a5 Ag=>?_);obtain⟨a1,_,_,a3,a4⟩:=acd;obtain⟨od,es,ep,ed,rd⟩:=hd;have Lo:h1.DictOf (bG prog w) d []:={od,es,ep,Ag _ _ n1 n5 n2 n3 ed,rd};refine ae (bK (ae (wpAny_tryCatch ?_)));unfold Builtin.Dict.pairItems;refine ae (gw ⟨_,a5,rfl⟩ ?_);rw[ay (by decide)];refine ae (bO a5 rfl (af ?_));refine bK (yU ZG Lo λh2 hd2 kP=>?_);refine af {nB _ (by decide+kernel),?_};have st:∀b o,b≠d->h1.get? b=some o->h2.get? b=some o:=λb o n e=>(kP.2 b n).trans e;obtain⟨oa,ja,ra⟩:=a3;obtain⟨ob,jb,rb⟩:=a4;have qr:Zu h2 z ti to i1 i2 l1 l2 h.objs.size 1:=by
  refine{{false,st _ _ (bX n1) a1},?_,st _ _ (bX n4) (Ag _ _ D.TIz D.TITO D.TIi1 D.TIi2 hi),{oa,st _ _ (bX n2) ja,ra},{ob,st _ _ (bX n3) jb,rb}};by_cases nd:h.objs.size=d
  ·obtain⟨o',_,_,e',_⟩:=hd2;rw[nd];exact⟨o',e'⟩
  ·exact{_,st _ _ nd a5}
 exact WK hA D jm n1 n2 n3 n4 mB jF hp hv hsz g dr os k (us.length -1) 1 h2 _ h.objs.size rfl ∅ (λb o m1 m2 m3 m4 hb=>st b o (λe=>by rw[e,jm]at hb;cases hb) (Ag b o m1 m2 m3 m4 (kp b o m1 m2 m3 m4 hb))) (bC lz) qr (by rw[merged_take_succ [] pairs 0 kv mC];exact hd2)
def aam{h0 h:Heap}(hA:A.handled=none)(D:ZipApart z ti to i1 i2 l1 l2)(jm:h0.get? d=none)(n1:d≠z)(n2:d≠i1)(n3:d≠i2)(n4:d≠ti)(n5:d≠to)
  (mB:h0.IsTuple l1 us.toArray) (jF:h0.IsTuple l2 vs.toArray) (hp:Paired (λ(u:Value)(p:Key×Value)=>(bG prog w).is p.1 u=true) us pairs) (hv:vs=pairs.map (·.2)) (hsz:pairs.length<=sizeLine) (g:Array GenState) (dr:Drawn) (os:OsState)
  (k:∀h' tk,(∀b o,b≠z->b≠to->b≠i1->b≠i2->h0.get? b=some o->h'.get? b=some o)->h'.DictOf (bG prog w) d (merged [] pairs)->R (.ok (.ret .none)) ⟨h',g,dr,tk,os⟩)
  (kp:∀b o,b≠z->b≠to->b≠i1->b≠i2->h0.get? b=some o->h.get? b=some o) (hz:IsZip h z ti to .none) (hi:IsPair h ti (.ref i1) (.ref i2)) (ho:∃a b,IsPair h to a b) (j1:h.IsTupleIter i1 l1 0) (j2:h.IsTupleIter i2 l2 0) (hd:h.DictOf (bG prog w) d []):
   codeAny (model prog w) A (.builtin "dict.update.loop" {[.ref d,.ref z,rawInt 0,.none],[]}) R ⟨h,g,dr,tk,os⟩:=by
 by_cases h1l:1<=us.length
 ·exact SR hA D jm n1 n2 n3 n4 n5 mB jF hp hv hsz h1l g dr os k kp hz hi ho j1 j2 hd
 ·have lp:=bh hp;have e1:us=[]:=fN.mp ∅;have e2:pairs=[]:=fN.mp ∅;subst e1 e2;have t1:h.IsTuple l1 ([]:List Value).toArray:=by obtain⟨o1,e1,r1⟩:=mB;exact{o1,kp _ _ D.l1z D.l1TO D.l1i1 D.l1i2 e1,r1}
  have t2:h.IsTuple l2 vs.toArray:=by obtain⟨o2,e2,r2⟩:=jF;exact{o2,kp _ _ D.l2z D.l2TO D.l2i1 D.l2i2 e2,r2}
  refine dJ yb ?_;unfold Builtin.«dict.update.loop»;obtain⟨a,b,ho⟩:=ho;refine ae (JP (show(A.under _).handled=none from hA) {D.TITO,D.i12,D.l1TO,D.l2TO} {hz,hi,⟨a,b,ho⟩,j1,j2} t1 (by simp) λh' hs=>?_);refine ae (af (af ?_));obtain⟨o,es,ep,e,r⟩:=hd;exact k h' _ (λb o m1 m2 m3 m4 hb=>hs b o m1 m2 m3 m4 (kp b o m1 m2 m3 m4 hb)) {o,es,ep,hs _ _ n1 n5 n2 n3 e,r}
def SU(hA:A.handled=none)(D:ZipApart z ti to i1 i2 l1 l2)
  (mB:s.heap.IsTuple l1 us.toArray) (jF:s.heap.IsTuple l2 vs.toArray) (hp:Paired (λ(u:Value)(p:Key×Value)=>(bG prog w).is p.1 u=true) us pairs) (hv:vs=pairs.map (·.2)) (hsz:pairs.length<=sizeLine)
  (hz:IsZip s.heap z ti to .none) (hi:IsPair s.heap ti (.ref i1) (.ref i2)) (ho:∃a b,IsPair s.heap to a b) (j1:s.heap.IsTupleIter i1 l1 0) (j2:s.heap.IsTupleIter i2 l2 0)
  (k:∀h' tk,(∀b o,b≠z->b≠to->b≠i1->b≠i2->s.heap.get? b=some o->h'.get? b=some o)->h'.DictOf (bG prog w) s.heap.objs.size (merged [] pairs)->Q (.ref s.heap.objs.size) {s with heap:=h',toks:=tk}):
  wpAny (model prog w) A (call (.type "dict") [.ref z]) Q E s:=by
 refine callType_codes (Q₁:=λv1 z1=>v1=.ref s.heap.objs.size/\z1={s with heap:=s.heap.push {cls:=.type "dict",data:=.dict #[]}}) F.kt_called_dict (F.kt_typeCall_dict_1 _) F.entry_dict_init (kt_code_dict_new _ ⟨rfl,rfl⟩) ?_;rintro v1 z1 ⟨rfl,rfl⟩;obtain⟨DJ,g,dr,tk,os⟩:=s;have Su:(DJ.push {cls:=.type "dict",data:=.dict #[]}).DictOf (bG prog w) DJ.objs.size []:=Heap.DictOf.new DJ;have vN:(DJ.push {cls:=.type "dict",data:=.dict #[]}).get? z=some (xw .none false ti to):=ah _ hz;refine{Su.typeIs,F.args_dict_init_2 _ _,?_};unfold Builtin.«dict.__init__»;refine ae ?_;unfold Builtin.Dict.selfAndRest;refine ae (ko Su.typeIs (af ?_));show wpAny (model prog w) _ (Builtin.Dict.updateFrom "dict.__init__" DJ.objs.size (.ref z) [] .none) _ _ _;unfold Builtin.Dict.updateFrom;refine ae (gw ⟨_,vN,rfl⟩ ?_);rw[ay (by decide)];refine ae (WJ vN hA λh2 tk2 e ne=>?_);rw[ay (by decide)];refine ae (fE ?_);have kp:∀b o,DJ.get? b=some o->h2.get? b=some o:=λb o hb=>ne.keeps _ _ (ah _ hb);have qr:=kp _ _ hz;refine ae (kT qr ?_);have hd2:h2.DictOf (bG prog w) DJ.objs.size []:=by obtain⟨o',es,ep,h',r⟩:=Su;exact{o',es,ep,ne.keeps _ _ h',r}
 refine af {nB _ (by decide+kernel),?_};obtain⟨a,b,ho⟩:=ho;obtain⟨oa,ja,ra⟩:=j1;obtain⟨ob,jb,rb⟩:=j2;have nz:∀{c:Addr}{o:Obj},DJ.get? c=some o->DJ.objs.size≠c:=λe=>bC (aB e);exact aam (show A.in1.handled=none from hA) D (lB (ak _)) (nz hz) (nz ja) (nz jb) (nz hi) (nz ho) mB jF hp hv hsz g dr os (λh' GO FJ si=>{rfl,k h' GO FJ si}) (λb o _ _ _ _ hb=>kp b o hb) qr (kp _ _ hi) {a,b,kp _ _ ho} {oa,kp _ _ ja,ra} {ob,kp _ _ jb,rb} hd2
inductive aaO(K:Frag)(Q:VK)(vs:List V)(H1:Hp):Prop
 |mk (l1 l2:Addr) (ks:List Key) (ys:List V) (_:vs=[.ref l1,.ref l2]) (_:bq K H1 l1 (ks.map kV)) (_:bq K H1 l2 ys) (_:ks.length=ys.length) (_:∀d,H1 d=none->Q (.ref d) (upd H1 d (.dK (fV [] (ks.zip ys)))))
def abI(K:Frag)(ta:TA):TE:=λZ H Q=>ta Z H λvs H1=>aaO K Q vs H1
variable{X:Cx}
def Hw(hg:Gl X "dict")(hm:X.mg "dict"=none)(ZT:Gl X "zip")(PM:X.mg "zip"=none)(hA:X.A.handled=none)(ha:PA X [a,b] ta)
  (hs:starEach [a,b] X.env=[(false,eval a X.env),(false,eval b X.env)]:=by rfl) (kP:starEach [b] X.env=[(false,eval b X.env)]:=by rfl) (IA:starEach [.Call (.Name "zip" p2) [a,b] [] Hs] X.env=[(false,eval (.Call (.Name "zip" p2) [a,b] [] Hs) X.env)]:=by rfl):
  PE X (.Call (.Name "dict" p) [.Call (.Name "zip" p2) [a,b] [] Hs] [] pos) (abI X.K ta):=by
 intro pins s Z H Q I h;refine Ei (qg I hg hm (by decide+kernel:bootBuiltins "dict"=some (.type "dict")) (dB ?_ IA rfl));rw[IA];refine fC (Ei (qg I ZT PM boot_zip (dB (pU (ha Hs pins s Z H _ I h) λus s1 vs H1 I1 r1 q1=>?_) (by rw[hs,kP]) (by rw[kP];rfl))));obtain⟨l1,l2,ks,ys,e,h1,h2,ZL,q⟩:=q1;subst e;obtain⟨u1,u2,rfl,He,Dm⟩:=vals2 r1;cases He;cases Dm;obtain⟨DG,Hc,Du,vN⟩:=I1.tuple h1;obtain⟨Ac,Hb,zJ,qr⟩:=I1.tuple h2;obtain⟨pairs,Ak,tG,pG,hp4⟩:=JV Hc Hb ZL;have b1:l1<s1.heap.objs.size:=by obtain⟨o,e,_⟩:=id Du;exact aB e
 have b2:l2<s1.heap.objs.size:=by obtain⟨o,e,_⟩:=id zJ;exact aB e
 have lz:ks.length<=sizeLine:=by rw[ag]at vN;exact vN
 refine JT (show s1.heap.IsTuple l1 DG.toArray from Du) (show s1.heap.IsTuple l2 Ac.toArray from zJ) λh' n en zt kp=>?_;subst en;have I2:=I1.kept (t':=s1.toks) kp;refine km ?_;have t1:h'.IsTuple l1 DG.toArray:=by obtain⟨o,e,r⟩:=id Du;exact{o,kp _ _ e,r}
 have t2:h'.IsTuple l2 Ac.toArray:=by obtain⟨o,e,r⟩:=id zJ;exact{o,kp _ _ e,r}
 have l0:DG.length=ks.length:=by have:=Hc.length;rw[ag]at this;exact this.symm
 refine SU hA (zipApart_new b1 b2) t1 t2 Ak tG ∅ zt.self zt.ins zt.outs zt.w1 zt.w2 λh2 tk uN hd=>?_;have rel:=KV.merge pG .nil;have lzm:(fV [] (ks.zip ys)).length<=sizeLine:=by have e1:=merged_length_le [] pairs;rw[rel.length];simp only[cN]at e1;lia
 have kpA:∀c o,s1.heap.get? c=some o->h2.get? c=some o:=λc o e=>by have lc:=aB e;exact uN c o (aI (aW lc (dw _ _))) (aI (aW lc (dw _ _))) (aI lc) (aI (aW lc (dw _ _))) (kp c o e)
 have ld:s1.heap.objs.size<=h'.objs.size:=by exact aF (dw _ 4) (bg (aB zt.self))
 exact{.ref h'.objs.size,_,I1.laid kpA ld (D1 lzm (fS.mpr (bX (aI (aW I1.big ld)))) rel hd),rfl,q _ (I1.br.fresh ld)}
inductive VY(x:V)(vs:List V)(H:Hp)(Q:VK):Prop
 |mk (a b:Addr) (kvs more:List (Key×V)) (_:x=.ref a) (_:vs=[.ref b]) (_:a≠b) (_:H a=some (.dK kvs)) (_:H b=some (.dK more)) (_:kvs.length+more.length<=sizeLine) (_:Q .cb (upd H a (.dK (fV kvs more))))
def OR:QQ X "dict.update" VY:=by
 intro pins s Z H x vs v us Q I rx rv h;obtain⟨a,b,kvs,more,rfl,rfl,ne,hH,hb,hl,q⟩:=h;cases rx;obtain⟨u,rfl,r1⟩:=rv.one;cases r1;obtain⟨zz,hd,ws,rel,dd⟩:=Bg I.br hH;obtain⟨Ti,hd2,ws2,XY,LG⟩:=Bg I.br hb;refine qy va dd.typeIs PySem.F.entry_dict_update (PySem.F.args_dict_update_2 _ _) (meets_dict_update (bG X.prog X.w) a b ne hd2) {ws,ws2,dd,LG,by rw[<-rel.length,<-XY.length];exact hl,λh' tK _ hs=>?_};have he:∃o,h'.get? a=some o:=let⟨o,_,_,ho,_⟩:=tK;⟨o,ho⟩
 have hlen:=aF (jK more kvs) hl;exact{.cb,_,rp I (by rw[hH];exact True.intro) hs he (D1 hlen hd (XY.merge rel) tK),rfl,q}
end
end L2
namespace jn
open PySem PySem.Spec PyProof.Rows L2 vY
seal L2.PE L2.PT L2.PW L2.PA L2.PS L2.j9 L2.PI L2.PO L2.AK L2.PG L2.AL
section
variable{P:Program}{w:World}{K:Frag}{mg:Str->Option Value}{base:Heap}
theorem vz:∀{more kvs:List (Key×V)},(eX (fV kvs more) k).isSome=true↔(eX kvs k).isSome=true\/k∈more.map (·.1)
 |[],kvs=>{.inl,λh=>h.elim id λz=>by cases z}
 |x::more,kvs=>by
  show(eX (fV (putK kvs x.1 x.2) more) k).isSome=true↔_;rw[vz (more:=more) (kvs:=putK kvs x.1 x.2),QW,aQ,aE];by_cases c:k=x.1
  ·rw[ay c];exact{λ_=>.inr (.inl c),λ_=>.inl rfl}
  ·rw[aq c];exact{λh=>h.imp id .inr,λh=>h.imp id λz=>z.resolve_left c}
def Ij{zs:List Str}:(Sum.inr z:Key)∈((zs.map (Sum.inr:Str->Key)).zip (zs.map V.str)).map (·.1)↔z∈zs:=by rw[List.map_fst_zip (by simp),au];exact{λ⟨y,h,e⟩=>by cases e;exact h,λh=>⟨z,h,rfl⟩}
def K8{zs:List Str}:(zs.map (Sum.inr:Str->Key)).map kV=zs.map V.str:=by rw[bW];rfl
def aay(H:Hp)(d:Addr)(p:Str->Prop):Prop:=∃kvs,H d=some (.dK kvs)/\∀z,(eX kvs (Sum.inr z:Key)).isSome=true↔p z
def rS(h:nE H v a)(s:bD H H'):nE H' v a:=by obtain⟨p,t,e,h1,h2⟩:=h;exact{p,t,e,s _ _ h1,s _ _ h2}
def iz(h:eI H vs as)(s:bD H H'):eI H' vs as:=by
 induction h with
 |nil=>exact .nil
 |cons h _ ih=>exact .cons (rS h s) ih
inductive G3(K:Frag)(vs:List V)(H:Hp)(Q:VK)(_x3:XK):Prop
 |mk (h l:Addr) (hz:List Str) (ys:List V) (ats:List (Str×List Str)) (_:vs=[.ref h,.ref l]) (_:bq K H h (hz.map V.str)) (_:bw K H l ys) (_:eI H ys ats) (_:hz.length<=100) (_:ats.length<=100) (_:(∀a∈ats,a.2.length<=100)) (_:∀(d:Addr)(H':Hp),bD H H'->H d=none->aay H' d (λz=>z∈hz\/∃a∈ats,z∈a.2)->Q (.ref d) H')
def mh:cv ["head","atoms","needed","name","terms"] ["head","atoms"] (bI qS):=jE (by decide+kernel)
def Dy(F:fb K "needed_terms" "needed_terms" qS f fd)(T:Txt K mg):c6 P w K mg base fD 1 f fd ["head","atoms"] (G3 K):=by
 refine F.ok mh (λ_ _ _ _ h=>by cases h;subst_vars;rfl) (λc7 A outer s H vs Q E hr h=>?_);obtain⟨h,l,hz,ys,ats,rfl,hh,hl,oH,lh,la,lt,k⟩:=h;have hu:=my hr;refine{_,(aO (gk 2 mh (Hw rfl T.OP rfl T.Gv hr.hd (eK (pv 0) (pv 0))))
   (aO (hG bZ rfl (gn (pv 1)) (lL rfl (cK (kA 3 mh) (cK (kA 4 mh) iD)))
   (bp (jI (mn g9 va PySem.F.type_dict_update OR (pv 2) (cw (Hw rfl T.OP rfl T.Gv hr.hd (eK (pv 4) (pv 4))))))))
   (bp (cL (pv 2))))),?_}
 have ly:ys.length=ats.length:=bh oH;refine{_,rfl,_,rfl,h,h,hz.map Sum.inr,hz.map V.str,rfl,by rw[K8];exact hh,hh,by rw[ag,ag],λd jm=>?_};have s1:=aN jm (.dK (fV [] ((hz.map (Sum.inr:Str->Key)).zip (hz.map V.str))));refine{_,rfl,l,rfl,{_,hZ hl s1},o8 (K:=K) (a:=l) (xs:=ys)
  (λi Z H2=>∃(x1 x2:Option V),Z=[some (.ref h),some (.ref l),some (.ref d),x1,x2]/\bD H H2/\i<=ats.length/\∃kvs,H2 d=some (.dK kvs)/\kvs.length<=100+100*i/\∀z,(eX kvs (Sum.inr z:Key)).isSome=true↔(z∈hz\/∃a∈ats.take i,z∈a.2))
  {none,none,rfl,s1,aR _,_,aw,?_,?_} (λi Z H2 _ ⟨_,_,_,sm,_⟩=>hZ hl sm) ?_ ?_}
 ·refine aF (jK _ _) ?_;rw[qF,ag,ag,cN];lia
 ·intro z;rw[vz,Ij];exact{λh=>h.elim (λz=>by cases z) .inl,λh=>h.elim .inr λ⟨a,ha,_⟩=>by cases ha}
 ·rintro i x Z H2 hx ⟨x1,x2,rfl,s2,_,kvs,hd2,lk,hv⟩;obtain⟨a,ha,p,t,rfl,hp,ht⟩:=Paired.at oH hx;have bR:i<ats.length:=(ar.mp ha).1;have l1:=lt a (aG ha);refine{p,_,rfl,bq.of (s2 _ _ hp),rfl,_,_,rfl,_,_,rfl,rfl,?_};have Iy:bq K H2 t (a.2.map V.str):=bq.of (s2 _ _ ht);refine{_,rfl,.inr (.inr (.inl {rfl,.inl ⟨_,hd2⟩})),_,rfl,_,rfl,t,t,a.2.map Sum.inr,a.2.map V.str,rfl,by rw[K8];exact Iy,Iy,by rw[ag,ag],λe he0=>?_};have s3:=aN he0 (.dK (fV [] ((a.2.map (Sum.inr:Str->Key)).zip (a.2.map V.str))));have lm:(fV [] ((a.2.map (Sum.inr:Str->Key)).zip (a.2.map V.str))).length<=100:=by refine aF (jK _ _) ?_;rw[qF,ag,ag,cN];lia
  refine{d,e,kvs,_,rfl,rfl,aX hd2 he0,s3 _ _ hd2,aw,bg (cS (Nat.add_le_add lk lm) ?_),?_}
  ·exact cS (show 100+100*i+100<=20000 by lia) (by decide)
  refine{_,_,rfl,λb o q=>?_,bR,_,aw,?_,λz=>?_}
  ·rw[ax (aX q jm)];exact s3 _ _ (s2 _ _ q)
  ·refine aF (jK _ _) ?_;lia
  ·rw[vz,hv,bx,ha,cq];have e1:(Sum.inr z:Key)∈(fV [] ((a.2.map (Sum.inr:Str->Key)).zip (a.2.map V.str))).map (·.1)↔z∈a.2:=by
    rw[<-Ij (zs:=a.2)];have:=vz (k:=(Sum.inr z:Key)) (more:=(a.2.map (Sum.inr:Str->Key)).zip (a.2.map V.str)) (kvs:=[]);refine Iff.trans {λh=>?_,λh=>?_} (this.trans {λh=>h.elim (λz=>by cases z) id,.inr})
    ·cases q:eX (fV [] ((a.2.map (Sum.inr:Str->Key)).zip (a.2.map V.str))) (Sum.inr z:Key)with
     |none=>exact absurd h (QX q)
     |some _=>rfl
    ·obtain⟨v,q⟩:=jw.mp h;exact VE q
   rw[e1];constructor
   ·rintro((h|⟨b,hb,h⟩)|h)
    ·exact .inl h
    ·exact .inr {b,b6 _ hb,h}
    ·exact .inr {a,bN _ aA,h}
   ·rintro(h|⟨b,hb,h⟩)
    ·exact .inl (.inl h)
    ·rcases aS.mp hb with hb|hb
     ·exact .inl (.inr ⟨b,hb,h⟩)
     ·cases aC.mp hb;exact .inr h
 ·rintro Z H2 ⟨x1,x2,rfl,s2,_,kvs,hd2,_,hv⟩;rw[ly,bu]at hv;exact{_,rfl,k d H2 s2 jm ⟨kvs,hd2,hv⟩}
end
end jn
namespace L2
open PySem PySem.Spec PyProof.Rows
section
variable{P:Program}{w:World}{A:Around}{E:Value->Shared->Prop}{s:Shared}{it d:Addr}{i ep:Nat}{es:Array DictEntry}{o:Obj}
abbrev nY(f0:Value)(b:Bool)(d:Addr)(i n ep:Nat)(ok ov:Value):Obj:={cls:=.type "dict_itemiterator",dict:=none,data:=.fields #[f0,.bool b,.ref d,.int i 0,.int n 0,.int ep 0,ok,ov],slots:=#[]}
def RI(h:Heap)(it d:Addr)(i n ep:Nat):Prop:=∃f0 b ok ov,h.get? it=some (nY f0 b d i n ep ok ov)/\(f0=.none\/∃a:Nat,f0=rawInt a)
def RI.ty(x:RI s.heap it d i es.size ep):s.TypeIs (.ref it) "dict_itemiterator":=by obtain⟨_,_,_,_,e,_⟩:=x;exact⟨_,e,rfl⟩
def RI.iQ(x:RI h it d i n ep)(k:∀o,h.get? it=some o->h'.get? it=some o):RI h' it d i n ep:=by obtain⟨f0,b,ok,ov,e,c⟩:=x;exact{f0,b,ok,ov,k _ e,c}
def VX(g:s.heap.get? it=some (nY f0 b d i n ep ok ov))(hf:f0=.none\/∃a:Nat,f0=rawInt a)(q1:Q true s)
  (q2:∀h',h'.get? it=some (nY f0 true d i n ep ok ov)->Heap.SameBut it s.heap h'->Q false {s with heap:=h'}):wpAny (model P w) A (Builtin.Dict_items.ownedTupleIsFree (.ref it)) Q E s:=by
 unfold Builtin.Dict_items.ownedTupleIsFree;rcases hf with rfl|⟨a,rfl⟩
 ·exact ae (bF g rfl rfl (af q1))
 ·refine ae (bF g rfl rfl ?_);refine ae (By ?_);rw[cI];cases s.heap.get? a with
  |none=>exact af q1
  |some u=>
   refine ae (bF g rfl rfl ?_);cases b with
   |true=>exact af (q2 s.heap g (Bu _ _))
   |false=>exact ae (bS g (by simp) λh1 g1 s1=>af (q2 h1 g1 s1))
def Ky{Q:Value->Shared->Prop}(gD:RI s.heap it d i es.size ep)(ho:s.heap.get? d=some o)(hd:o.data=.dict es ep)(hi:i<es.size)
  (q:∀h',RI h' it d (i+1) es.size ep->h'.get? s.heap.objs.size=some {cls:=.type "tuple",data:=.seq #[es[i].key,es[i].val]}->(∀b x,b≠it->s.heap.get? b=some x->h'.get? b=some x)->h'.objs.size=s.heap.objs.size+1->Q (.ref s.heap.objs.size) {s with heap:=h'}):
  wpAny (model P w) A (Builtin.«dict_itemiterator.__next__» {[.ref it],[]}) (λfin s'=>∃u,fin=.done (.ret u)/\Q u s') E s:=by
 have hT:=gD.ty;obtain⟨f0,b,ok,ov,hit,hf⟩:=gD;obtain⟨hp,g,dr,tk,os⟩:=s;refine ae (af (ae (ae (ae (gx hT (af ?_))))));refine ae (hW hit rfl ?_);have own:Builtin.Dict_items.ownsTuple "dict_itemiterator"=true:=by decide
 show wpAny _ _ (if(Value.ref d==Value.none)=true then _ else _) _ _ _;rw[aq (show ¬((Value.ref d==Value.none)=true)from aP)];refine ae (af (ae (fP ho hd ?_)));rw[aq (by simp)];refine ae (af (ae (jR ho hd ?_)));rw[aq (by simp)];refine af ?_;simp only[show ¬((i:Int)<0)from by lia,dP,cI,bo hi];refine ae (ae (gx hT (af (ae (oC hT ?_)))));show wpAny _ _ (setField (.ref it) 3 (rawInt ((i:Int)+1))>>=_) _ _ ⟨hp,g,dr,tk,os⟩;refine ae (bS hit (by simp) λh1 e1 s1=>?_);have e1:h1.get? it=some (nY f0 b d (i+1) es.size ep ok ov):=by
  have e:((i+1:Nat):Int)=(i:Int)+1:=by lia
  unfold nY;rw[e];simpa[rawInt]using e1
 have hT1:Shared.TypeIs ⟨h1,g,dr,tk,os⟩ (.ref it) "dict_itemiterator":=⟨_,e1,rfl⟩;refine ae (bK (ae (oC hT1 (ae (oC hT1 ?_)))));unfold Builtin.Dict_items.pairFromOwner;refine ae (kr ?_);have lt:=aB hit;have z1:=s1.1;obtain⟨h2,pH⟩:∃h2,h2=h1.push {cls:=.type "tuple",data:=.seq #[es[i].key,es[i].val]}:=⟨_,rfl⟩;have e2:h2.get? it=some (nY f0 b d (i+1) es.size ep ok ov):=by rw[pH];exact ah _ e1
 have t2:h2.get? hp.objs.size=some {cls:=.type "tuple",data:=.seq #[es[i].key,es[i].val]}:=by rw[pH,<-z1];exact aD _ rfl
 have k2:∀b x,b≠it->hp.get? b=some x->h2.get? b=some x:=λb x nb e=>by rw[pH];exact ah _ (s1.extBut b x nb e)
 have z2:h2.objs.size=hp.objs.size+1:=by rw[pH,b7,z1]
 rw[<-pH,z1];refine ae (VX e2 hf ?_ λh3 e3 s3=>?_)
 ·simp only[rf];refine ae (bF e2 rfl rfl (ae (bF e2 rfl rfl ?_)));refine ae (bS e2 (by simp) λh3 e3 s3=>?_);refine ae (bS e3 (by simp) λh4 e4 s4=>?_);refine ae (bS e4 (by simp) λh5 e5 s5=>?_);refine ae (bS e5 (by simp) λh6 e6 s6=>?_);have up:=λb x nb e=>s6.extBut b x nb (s5.extBut b x nb (s4.extBut b x nb (s3.extBut b x nb e)));exact ae (lR (af (af {_,rfl,q h6 {_,_,_,_,e6,.inr ⟨_,rfl⟩} (up _ _ (bC lt) t2) (λb x nb e=>up b x nb (k2 b x nb e)) (by rw[s6.1,s5.1,s4.1,s3.1,z2])})))
 ·have s3:=s3;exact af (af {_,rfl,q h3 ⟨_,_,_,_,e3,hf⟩ (s3.extBut _ _ (bC lt) t2) (λb x nb e=>s3.extBut b x nb (k2 b x nb e)) (by rw[s3.1,z2])})
def Oc(hh:A.handled=none)(gD:RI s.heap it d i es.size ep)(ho:s.heap.get? d=some o)(hd:o.data=.dict es ep)(hi:es.size<=i)
  (q:∀h' e,(∀b x,b≠it->s.heap.get? b=some x->h'.get? b=some x)->(∃o,h'.get? e=some o/\o.cls=.type "StopIteration")->E (.ref e) {s with heap:=h'}):
  wpAny (model P w) A (Builtin.«dict_itemiterator.__next__» {[.ref it],[]}) Q E s:=by
 have hT:=gD.ty;obtain⟨f0,b,ok,ov,hit,hf⟩:=gD;refine ae (af (ae (ae (ae (gx hT (af ?_))))));refine ae (hW hit rfl ?_);show wpAny _ _ (if(Value.ref d==Value.none)=true then _ else _) _ _ s;rw[aq (show ¬((Value.ref d==Value.none)=true)from aP)];refine ae (af (ae (fP ho hd ?_)));rw[aq (by simp)];refine ae (af (ae (jR ho hd ?_)));rw[aq (by simp)];refine af ?_;simp only[show ¬((i:Int)<0)from by lia,dP,cI,j8 hi];refine ae (ae (gx hT (af ?_)));show wpAny _ _ (setField (.ref it) 2 .none>>=_) _ _ s;refine ae (eR hit rfl (by simp) ?_);exact Tb.A2 hh λh' e kp he=>q h' e (λb x nb g=>kp b x ((bE _ _ (bX nb)).trans g)) he
def VW(gD:RI s.heap it d i es.size ep)(ho:s.heap.get? d=some o)(hd:o.data=.dict es ep)(hi:i<es.size)
  (q:∀h',RI h' it d (i+1) es.size ep->h'.get? s.heap.objs.size=some {cls:=.type "tuple",data:=.seq #[es[i].key,es[i].val]}->(∀b x,b≠it->s.heap.get? b=some x->h'.get? b=some x)->h'.objs.size=s.heap.objs.size+1->Q (some (.ref s.heap.objs.size)) {s with heap:=h'}):
  wpAny (model P w) A (pyNext (.ref it)) Q E s:=by
 unfold pyNext;exact ae (dq (wpAny_callSpecial?_slot gD.ty bQ (ba bQ gD.ty fu (Ky gD ho hd hi λh' a b c e=>af (q h' a b c e)) (fg _))))
def Ob(gD:RI s.heap it d i es.size ep)(ho:s.heap.get? d=some o)(hd:o.data=.dict es ep)(hi:i<es.size)
  (q:∀h',RI h' it d (i+1) es.size ep->h'.get? s.heap.objs.size=some {cls:=.type "tuple",data:=.seq #[es[i].key,es[i].val]}->(∀b x,b≠it->s.heap.get? b=some x->h'.get? b=some x)->h'.objs.size=s.heap.objs.size+1->Q (.ref s.heap.objs.size) {s with heap:=h'}):
  wpAny (model P w) A (Builtin.SmallTypes.nextOf (.ref it)) Q E s:=by
 unfold Builtin.SmallTypes.nextOf;exact ae (wpAny_callSpecial?_slot gD.ty bQ (ba bQ gD.ty fu (Ky gD ho hd hi λh' a b c e=>af (q h' a b c e)) (fg _)))
def VU(hh:A.handled=none)(gD:RI s.heap it d i es.size ep)(ho:s.heap.get? d=some o)(hd:o.data=.dict es ep)(hi:es.size<=i)
  (q:∀h',(∀b x,b≠it->s.heap.get? b=some x->h'.get? b=some x)->Q none {s with heap:=h'}):wpAny (model P w) A (pyNext (.ref it)) Q E s:=by
 unfold pyNext;refine ae (dq (wpAny_callSpecial?_slot gD.ty bQ (ba bQ gD.ty fu (Oc (show A.in1.handled=none from hh) gD ho hd hi λh' e kp ⟨oe,he,ce⟩=>?_) (fg _))));exact ae (fq ⟨oe,he,ce⟩ jr (af (q _ kp)))
def Oa(hh:A.handled=none)(gD:RI s.heap it d i es.size ep)(ho:s.heap.get? d=some o)(hd:o.data=.dict es ep)(hi:es.size<=i)
  (q:∀h' e,(∀b x,b≠it->s.heap.get? b=some x->h'.get? b=some x)->(∃o,h'.get? e=some o/\o.cls=.type "StopIteration")->E (.ref e) {s with heap:=h'}):wpAny (model P w) A (Builtin.SmallTypes.nextOf (.ref it)) Q E s:=by
 unfold Builtin.SmallTypes.nextOf;exact ae (wpAny_callSpecial?_slot gD.ty bQ (ba bQ gD.ty fu (Oc (show A.in1.handled=none from hh) gD ho hd hi λh' e kp he=>q h' e kp he) (fg _)))
end
structure Tk(es:Array DictEntry)(lo:Addr)(h:Heap)(as:List Addr):Prop where
 up:as.Pairwise (·<·)
 ab:∀a∈as,lo<=a
 tp:∀(j:Nat)(a:Addr),as[j]?=some a->∃hj:j<es.size,h.get? a=some {cls:=.type "tuple",data:=.seq #[es[j].key,es[j].val]}
section
variable{P:Program}{w:World}{A:Around}{s:Shared}{R:Result->Shared->Prop}{es:Array DictEntry}{ep:Nat}{d:Addr}{o:Obj}
def Tk.low{lo O4:Addr}(x:Tk es lo h as)(l:O4<=lo):Tk es O4 h as:={x.up,λa ha=>aF l (x.ab a ha),x.tp}
abbrev yI(acc:Array Value)(c:Nat):Obj:={cls:=.type "list",dict:=none,data:=.seq acc c,slots:=#[]}
def Wq(hh:A.handled=none)(Ys:S≠I)(dS:d≠S)(dI:d≠I)(sf:o.data=.dict es ep)(hz:es.size<=sizeLine)(res:Value){h0:Heap}(lS:S<h0.objs.size)(lI:I<h0.objs.size)
  (k:∀h' tk acc c as,(∀b x,b≠S->b≠I->h0.get? b=some x->h'.get? b=some x)->h'.get? S=some (yI acc c)->as.length=es.size->Tk es h0.objs.size h' as->acc.toList=as.map Value.ref->R (.ok (.ret res)) {s with heap:=h',toks:=tk}):
  ∀(n i:Nat)(h:Heap)(tk c:Nat)(acc:Array Value)(as:List Addr),es.size -i=n->i<=es.size->RI h I d i es.size ep->h.get? d=some o->(∀b x,b≠S->b≠I->h0.get? b=some x->h.get? b=some x)->h.get? S=some (yI acc c)->
   acc.toList=as.map Value.ref->as.length=i->Tk es h0.objs.size h as->h0.objs.size<=h.objs.size->codeAny (model P w) A (.builtin "list.extend.loop" {[.ref S,.ref I,res],[]}) R {s with heap:=h,toks:=tk}:=by
 intro n
 induction n with
 |zero=>
  intro i h tk c acc as en hi st gd kp gS ea la T lh;refine dJ uh ?_;rw[fJ gq];refine ae (VU hh st gd sf ∅ λh' kq=>af ?_);exact k h' tk acc c as (λb x n1 n2 e=>kq b x n2 (kp b x n1 n2 e)) (kq _ _ Ys gS) ∅ {T.up,T.ab,λj a hj=>(T.tp j a hj).imp λ_ e=>kq a _ (bC (aW lI (T.ab a (aG hj)))) e} ea
 |succ n ih=>
  intro i h tk c acc as en hi st gd kp gS ea la T lh;have bR:i<es.size:=by lia
  have YF:acc.size=i:=by rw[<-aM,ea,ag,la]
  refine dJ uh ?_;rw[fJ gq];refine ae (VW st gd sf bR λh' ig gt kq zq=>?_);have gS':=kq S _ Ys gS;obtain⟨h2,eh⟩:∃h2,h2=h'.update S (Obj.mapSeq (·.push (Value.ref h.objs.size))):=⟨_,rfl⟩;have go:∀b x,b≠S->h'.get? b=some x->h2.get? b=some x:=λb x nb e=>by rw[eh];exact(bE _ _ (bX nb)).trans e
  have gU:=b8 (Obj.mapSeq (·.push (Value.ref h.objs.size))) gS' rfl;rw[<-eh]at gU;obtain⟨c2,gS2⟩:∃c,h2.get? S=some (yI (acc.push (Value.ref h.objs.size)) c):=⟨_,gU⟩;refine ae (iB gS' rfl (af {fZ gq _,?_}) (by rw[YF];lia) (by show(acc.push (Value.ref h.objs.size)).size<=sizeLine+1;rw[Array.size_push,YF];lia));have nS:=bC (aW lS lh);have z2:=aB (go _ _ nS gt);have fin:=ih (i+1) h2 tk _ (acc.push (Value.ref h.objs.size)) (as++[h.objs.size]) ∅ bR (ig.iQ λx e=>go I x (bX Ys) e) (go d o dS (kq d o dI gd)) (λb x n1 n2 e=>go b x n1 (kq b x n2 (kp b x n1 n2 e))) gS2
   (by rw[oB,ea,aH];rfl) (by rw[aK,la];rfl) {jh.mpr {T.up,fM _ _,λa ha b hb=>?_},λa ha=>?_,λj a hj=>?_} (bg (cS lh z2))
  ·rw[eh]at fin;exact fin
  ·rw[aC.mp hb];obtain⟨j,hj⟩:=fm.mp ha;obtain⟨_,e⟩:=T.tp j a hj;exact aB e
  ·rcases aS.mp ha with ha|ha
   ·exact T.ab a ha
   ·rw[aC.mp ha];exact lh
  ·by_cases q:j<as.length
   ·rw[dk q]at hj;have l1:=T.ab a (aG hj);exact(T.tp j a hj).imp λ_ e=>go a _ (bC (aW lS l1)) (kq a _ (bC (aW lI l1)) e)
   ·have ej:j=i:=by have:=(ar.mp hj).1;rw[aK,d9]at this;lia
    subst ej;rw[cZ ∅,la,AN]at hj;have hb:h.objs.size=a:=by simpa using hj
    subst hb;exact{bR,go _ _ nS gt}
variable{E:Value->Shared->Prop}{r:Addr}
def Wr(hh:A.handled=none)(hv:s.heap.IsItemsView r d)(gd:s.heap.get? d=some o)(sf:o.data=.dict es ep)(hz:es.size<=sizeLine)
  (q:∀h' tk acc c as,(∀b x,s.heap.get? b=some x->h'.get? b=some x)->h'.get? s.heap.objs.size=some (yI acc c)->as.length=es.size->Tk es (s.heap.objs.size+1) h' as->acc.toList=as.map Value.ref->Q (.ref s.heap.objs.size) {s with heap:=h',toks:=tk}):
  wpAny (model P w) A (call (.type "list") [.ref r]) Q E s:=by
 refine callType_codes (Q₁:=λv z=>v=.ref s.heap.objs.size/\z={s with heap:=s.heap.push (yI #[] 0)}) PySem.F.called_list (PySem.F.typeCall_list_1 _) PySem.F.entry_list_init (code_list_new _ ⟨rfl,rfl⟩) ?_;rintro v z ⟨rfl,rfl⟩;have g1:(s.heap.push (yI #[] 0)).get? s.heap.objs.size=some (yI #[] 0):=aD _ rfl;refine{⟨_,g1,rfl⟩,PySem.F.args_list_init_2 _ _,?_};obtain⟨ov,go,hc,hd⟩:=id hv;have lr:=aB go;have ld:=aB gd;obtain⟨S,eS⟩:∃S,S=s.heap.objs.size:=⟨_,rfl⟩;rw[<-eS]at g1 q lr ld⊢;have Ih:∀b x,s.heap.get? b=some x->(s.heap.push (yI #[] 0)).get? b=some x:=λb x e=>ah _ e;have z1:(s.heap.push (yI #[] 0)).objs.size=S+1:=by rw[b7,eS]
 generalize (s.heap.push (yI #[] 0))=h1 at g1 Ih z1⊢;show wpAny _ _ (do let old<-Builtin.List.listItems (.ref S);Builtin.List.listUpdate (.ref S) (λ_=>#[]);letGo old.toList.reverse;Builtin.List.listExtendWith (.ref S) (.ref r) .none) _ _ _;unfold Builtin.List.listItems;refine ae (ae (bO g1 rfl (af ?_)));refine ae (iB g1 rfl (ae (lR ?_)));have g2:=b8 (Obj.mapSeq λ_=>(#[]:Array Value)) g1 rfl;have uN:∀b x,b≠S->h1.get? b=some x->(h1.update S (Obj.mapSeq λ_=>(#[]:Array Value))).get? b=some x:=λb x nb e=>(bE _ _ (bX nb)).trans e;have z2:(h1.update S (Obj.mapSeq λ_=>(#[]:Array Value))).objs.size=S+1:=by rw[<-z1];exact(bM ..).1
 generalize (h1.update S (Obj.mapSeq λ_=>(#[]:Array Value)))=h2 at g2 uN z2⊢;obtain⟨c2,g2⟩:∃c,h2.get? S=some (yI #[] c):=⟨_,g2⟩;unfold Builtin.List.listExtendWith;have UN:h2.IsItemsView r d:={ov,uN _ _ (aI lr) (Ih _ _ go),hc,hd};refine ae (gw UN.typeIs ?_);have a1:Builtin.List.listSameRef (.ref S) (.ref r)=false:=by simp[Builtin.List.listSameRef,bC lr]
 have a2:(Value.type "dict_items"==Value.type "list")=false:=by decide
 have a3:(Value.type "dict_items"==Value.type "tuple")=false:=by decide
 simp only[a1,a2,a3,yT,bT,dP];have gd2:=uN _ _ (aI ld) (Ih _ _ gd);refine ae (Ha UN gd2 sf ?_);obtain⟨h3,Vg⟩:∃h3,h3=h2.push (nY .none false d 0 es.size ep .none .none):=⟨_,rfl⟩;have UB:∀b x,h2.get? b=some x->h3.get? b=some x:=λb x e=>by rw[Vg];exact ah _ e
 have g3:h3.get? (S+1)=some (nY .none false d 0 es.size ep .none .none):=by rw[Vg,<-z2];exact aD _ rfl
 have z3:h3.objs.size=S+2:=by rw[Vg,b7,z2]
 show wpAny _ _ _ _ _ {s with heap:=h2.push (nY .none false d 0 es.size ep .none .none)};rw[<-Vg];rw[show({s with heap:=h2}:Shared).heap.objs.size=S+1 from z2];have key:∀(h:Heap)(c tk:Nat),(∀b x,b≠S->h3.get? b=some x->h.get? b=some x)->h.get? S=some (yI #[] c)->h.objs.size=S+2->
   codeAny (model P w) A.in1 (.builtin "list.extend.loop" {[.ref S,.ref (S+1),.none],[]}) (wants (λr aae=>r=Value.none/\Q (Value.ref S) aae) E) {s with heap:=h,toks:=tk}:=λh c tk kp gS zh=>by
  refine Wq (show A.in1.handled=none from hh) (aI (dv S)) (aI ld) (aI (dD ld)) sf hz .none (by rw[zh];exact Nat.lt_add_of_pos_right (by decide)) (by rw[zh];exact dv _) (λh' GO acc c' as k1 k2 k3 k4 k5=>{rfl,q h' GO acc c' as (λb x e=>?_) k2 k3 (k4.low (by rw[zh];exact eT _)) k5})
   es.size 0 h tk c #[] [] (Nat.sub_zero _) (aR _) {_,_,_,_,kp _ _ (bC (dv S)) g3,.inl rfl} (kp _ _ (aI ld) (UB _ _ gd2)) (λb x _ _ e=>e) gS rfl rfl {.nil,λa ha=>(by cases ha),λj a hj=>(by simp at hj)} (ak _)
  have lb:b<S:=by rw[eS];exact aB e
  exact k1 b x (aI lb) (aI (dD lb)) (kp _ _ (aI lb) (UB _ _ (uN _ _ (aI lb) (Ih _ _ e))))
 have gS3:=UB _ _ g2;refine ae (bK (PySem.W.kdx_hint {_,UB _ _ (uN _ _ (aI lr) (Ih _ _ go)),hc} ?_));refine lY (λ_=>?_) (λ_=>af {fZ gq _,key _ c2 _ (λb x _ e=>e) gS3 z3});refine ae (fE (ae ?_));refine ae (iB gS3 rfl ?_);have g4:=b8 (Obj.mapSeq (·.push Value.none)) gS3 rfl;refine iB g4 rfl ?_;refine af {fZ gq _,key _ _ _ (λb x nb e=>?_) (b8 (Obj.mapSeq (·.pop)) g4 rfl) ?_}
 ·exact(bE _ _ (bX nb)).trans ((bE _ _ (bX nb)).trans e)
 ·rw[(bM ..).1,(bM ..).1,z3]
end
section
variable{X:Cx}{pins:List (Addr×Obj)}{Z:St}{H:Hp}{s:Shared}
theorem Inv.QK{lo:Addr}(hlo:X.aab.heap.objs.size<=lo/\X.env.locals<lo/\(∀x c,X.env.cells.lookup x=some c->c<lo)/\∀p∈X.pn++pins,p.1<lo):
  ∀(as:List Addr)(ps:List (V×V))(H:Hp),Inv X pins Z H s->as.length=ps.length->as.Nodup->(∀a∈as,lo<=a/\H a=none)->
   (∀(j:Nat) a p,as[j]?=some a->ps[j]?=some p->∃t u,RelV p.1 t/\RelV p.2 u/\s.heap.get? a=some {cls:=.type "tuple",data:=.seq #[t,u]})->
   ∃H',Inv X pins Z H' s/\(∀b u,H b=some u->H' b=some u)/\(∀b,b∉as->H' b=H b)/\∀(j:Nat) a p,as[j]?=some a->ps[j]?=some p->H' a=some (.tup [p.1,p.2])
 |[],[],H,I,_,_,_,_=>{H,I,λ_ _ h=>h,λ_ _=>rfl,λj a p e=>by simp at e}
 |[],_::_,_,_,e,_,_,_=>by simp at e
 |_::_,[],_,_,e,_,_,_=>by simp at e
 |a::as,p::ps,H,I,e,nd,fr,tp=>by
  obtain⟨n1,n2⟩:=cD.mp nd;obtain⟨l1,l2,l3,l4⟩:=hlo;obtain⟨ha,hna⟩:=fr a aA;obtain⟨t,u,r1,r2,g⟩:=tp 0 a p rfl rfl;have I1:=I.Jj (o:=.tup [p.1,p.2]) hna {by show 2<=sizeLine;decide,[t,u],.cons r1 (.cons r2 .nil),{_,g,rfl,0,rfl},_,g,rfl} (aF l1 ha) (bC (aW l2 ha))
   (λx c h=>aI (aW (l3 x c h) ha)) (λq hq=>aI (aW (l4 q hq) ha))
  obtain⟨H',I2,k1,k2,k3⟩:=Inv.QK ⟨l1,l2,l3,l4⟩ as ps _ I1 (by simpa using e) n2 (λb hb=>{(fr b (az _ hb)).1,by rw[ax (show b≠a fromλz=>n1 (by rw[<-z];exact hb))];exact(fr b (az _ hb)).2})
   (λj b q e1 e2=>tp (j+1) b q (by simpa using e1) (by simpa using e2))
  refine{H',I2,λb v h=>k1 b v (by rw[ax (aX h hna)];exact h),λb hb=>?_,λj b q e1 e2=>?_}
  ·rw[k2 b (λz=>hb (az _ z)),ax (λz=>hb (by rw[z];exact aA))]
  ·cases j with
   |zero=>
    obtain rfl:a=b:=by simpa using e1
    obtain rfl:p=q:=by simpa using e2
    rw[k2 a n1];exact aw
   |succ j=>exact k3 j b q (by simpa using e1) (by simpa using e2)
def Inv.low(I:Inv X pins Z H s):X.aab.heap.objs.size<=s.heap.objs.size/\X.env.locals<s.heap.objs.size/\(∀x c,X.env.cells.lookup x=some c->c<s.heap.objs.size)/\∀p∈X.pn++pins,p.1<s.heap.objs.size:=
 {I.sz,I.lt,λx c hc=>let⟨_,z⟩:=I.cell x c hc;z.lt,λp hp=>aB (I.pin p hp).1}
def Inv.GB(I:Inv X pins Z H s)(h:ff X.prog X.w X.K H d kvs):(d==sysModules)=false/\∃o es ep,s.heap.get? d=some o/\es.size<=10000000/\Np o es ep (kvs.map λp=>(V.ref p.2.1,p.2.2)):=by
 obtain⟨lo,xs,rel,hl,o,es,ep,ga,hx,ZX,he,_⟩:=I.qx h;have ents:∀{l:List (NK×Addr×V)}{xs:List (NK×Addr×Value)},Paired (λ(p:NK×Addr×V)(q:NK×Addr×Value)=>p.1=q.1/\p.2.1=q.2.1/\RelV p.2.2 q.2.2) l xs->Paired (λ(p:V×V)(e:DictEntry)=>RelV p.1 e.key/\RelV p.2 e.val) (l.map λp=>(V.ref p.2.1,p.2.2)) (xs.map (entryOfKey (mT X.prog X.w))):=λr=>by
  induction r with
  |nil=>exact .nil
  |@cons p q ps qs h _ ih=>exact .cons {by show Value.ref q.2.1=Value.ref p.2.1;rw[h.2.1],h.2.2} ih
 exact{lo,o,es,ep,ga,by rw[vD he,<-rel.length];exact hl,hx,ZX,by rw[he];exact ents rel}
inductive Q8(P:Program)(w:World)(K:Frag)(Q:VK)(x:V)(H1:Hp):Prop
 |mk d kvs (_:x=.ref d) (_:ff P w K H1 d kvs) (_:∀p,H1 p=none->Q (.ref p) (upd H1 p (.ext (tR p d))))
end
def VH(P:Program)(w:World)(K:Frag)(td:TE):TE:=λZ H Q=>td Z H λx H1=>Q8 P w K Q x H1
section
variable{X:Cx}
def Ft(hl:PE X l tl)(DP:attributeBase l "items" X.env (eval l X.env)=eval l X.env:=by rfl)(DM:(apos.endLine==d0.line)=true:=by rfl):
  PE X (.Call (.Attribute l "items" apos) [] [] d0) (VH X.prog X.w X.K tl):=by
 intro pins s Z H R I h;refine wpAny_Call_method0_late DP DM (cU (hl pins s Z H _ I h) λv s1 x H1 I1 r1 q1=>?_);obtain⟨d,kvs,e,hd,q⟩:=q1;subst e;cases r1;obtain⟨lo,o,es,ep,ga,_,m⟩:=I1.GB hd;have ty:s1.TypeIs (.ref d) "dict":={o,ga,m.1.1};refine{"dict","dict.items",g9,vn,PySem.F.type_dict_items,ty,λb q=>?_,iq rfl (PySem.evalArgs_none ?_)}
 ·cases q;exact{o,ga,m.1.2.1}
 ·refine ba vn ty PySem.F.entry_dict_items ?_ (PySem.F.args_dict_items_1 _);unfold Builtin.«dict.items» Builtin.Dict.noArgs;refine ae (ae (ko ty (af ?_)));unfold Builtin.Dict.showsAll;rw[lo];refine ae (af (ae (bV (af {_,rfl,?_}))));exact{.ref s1.heap.objs.size,_,I1.laid (λb o e=>ah _ e) (ak _) (YQ {_,aD _ rfl,rfl,rfl}),rfl,q _ (I1.br.fresh (ak _))}
abbrev QN(H:Hp):List V->List (V×V)->Prop:=Paired λ(y:V)(p:V×V)=>∃a,y=.ref a/\H a=some (.tup [p.1,p.2])
theorem Fw:∀{as:List Addr}{ps:List (V×V)},as.length=ps.length->(∀(j:Nat) a p,as[j]?=some a->ps[j]?=some p->H a=some (.tup [p.1,p.2]))->QN H (as.map V.ref) ps
 |[],[],_,_=>.nil
 |[],_::_,e,_=>by simp at e
 |_::_,[],e,_=>by simp at e
 |a::as,p::ps,e,h=>.cons {a,rfl,h 0 a p rfl rfl} (Fw (by simpa using e) λj b q e1 e2=>h (j+1) b q (by simpa using e1) (by simpa using e2))
theorem Tv:∀as:List Addr,Vals (as.map V.ref) (as.map Value.ref)
 |[]=>.nil
 |_::as=>.cons rfl (Tv as)
def D9(hA:X.A.handled=none):j6 X (.type "list") (λxs H Q=>∃(r d:Addr)(kvs:List (NK×Addr×V)),xs=[.ref r]/\H r=some (.ext (tR r d))/\ff X.prog X.w X.K H d kvs/\
  ∀l ys H',(∀b u,H b=some u->H' b=some u)->H l=none->H' l=some (.lst ys)->QN H' ys (kvs.map λp=>(.ref p.2.1,p.2.2))->Q (.ref l) H'):=by
 intro pins s Z H xs us Q I r h;obtain⟨v,d,kvs,rfl,hv,hd,q⟩:=h;obtain⟨u,rfl,ru⟩:=l9 r;cases ru;obtain⟨iv,_⟩:=(show du X.prog X.w H s.heap v (.ext (tR v d))from I.br v _ hv);obtain⟨lo,o,es,ep,ga,hz,m⟩:=I.GB hd;have hl:(kvs.map λp=>(V.ref p.2.1,p.2.2)).length=es.size:=by rw[bh m.2.2,aM]
 have hs:es.size<=sizeLine:=by rw[bP];lia
 refine Wr hA iv ga m.2.1 hs λh' tk acc c as kp gl la T ea=>?_;have I1:=I.kept (t':=tk) kp;have low:=I.low;have z1:s.heap.objs.size<=s.heap.objs.size+1:=eT _;obtain⟨H',I2,k1,k2,k3⟩:=Inv.QK {low.1,low.2.1,low.2.2.1,low.2.2.2} as (kvs.map λp=>(V.ref p.2.1,p.2.2)) H I1 (by rw[la,hl]) (T.up.imp λh=>aI h)
  (λa ha=>{aF z1 (T.ab a ha),I.br.fresh (aF z1 (T.ab a ha))}) (λj a p e1 e2=>by obtain⟨hj,e3⟩:=T.tp j a e1;obtain⟨e,he,r1,r2⟩:=Paired.at' m.2.2 e2;rw[bB,bo hj]at he;cases he;exact⟨_,_,r1,r2,e3⟩)
 have na:s.heap.objs.size∉as:=λz=>absurd (T.ab _ z) (Nat.not_succ_le_self _);have hn:=I.br.fresh (ak _);have ZE:H' s.heap.objs.size=none:=by rw[k2 _ na];exact hn
 have I3:=I2.Jj (o:=.lst (as.map V.ref)) ZE {by rw[ag,la];exact hs,as.map Value.ref,c,Tv as,by rw[<-ea];exact gl} low.1 (bC low.2.1) (λx c h=>aI (low.2.2.1 x c h)) (λp hp=>aI (low.2.2.2 p hp));refine{.ref s.heap.objs.size,_,I3,rfl,q _ (as.map V.ref) _ (λb u e=>?_) hn aw (Fw (by rw[la,hl]) λj a p e1 e2=>?_)}
 ·rw[ax (aX e hn)];exact k1 b u e
 ·rw[ax (λz=>na (by rw[<-z];exact aG e1))];exact k3 j a p e1 e2
variable{P:Program}{w:World}{d:Addr}{o:Obj}{es:Array DictEntry}{ep:Nat}
def VM(lo:(d==sysModules)=false)(hx:o.ExactDict)(hd:o.data=.dict es ep):PySem.W.KdlSrc P w "dict" d d es.size (λi v=>∃hi:i<es.size,v=es[i].key) (λh=>h.get? d=some o) where
 type:=λ_ g=>{o,g,hx.1}
 there:=λ_ g=>{aB g,aB g}
 keep:=λ_ _ g k=>k d (.inl rfl) _ g
 notList:=by decide
 notTuple:=by decide
 hint:=λ_ _ _ _ g q=>PySem.W.kdl_hint_dict {o,g,hx.1} q
 iter:=λA s hh g=>{_,λi h=>h.IsKeyIter s.heap.objs.size d i es.size ep/\h.get? d=some o,λ_ _ q=>Kw lo g hx hd q,{
  sub:=λb hb=>by simp at hb;simp[hb]
  frame:=λi h h' st k=>by obtain⟨⟨v,e,c⟩,g'⟩:=st;exact{{v,k _ (by simp) _ e,c},k d (by simp) _ g'}
  item:=λi s' Q E hi st q=>N6 st.1 st.2 hd hi λh' it' sb=>q _ h' s'.toks ⟨hi,rfl⟩ {it',sb.extBut _ _ (aI (aB g)) st.2} λb x hb e=>sb.extBut b x (λz=>hb (by simp[z])) e
  done:=λs' Q E st q=>Fn hh st.1 st.2 hd (ak _) λh' kp=>q h' s'.toks λb x hb e=>kp b x (λz=>hb (by simp[z])) e
  self:=λ_ _ _ _ st q=>xx st.1 q},{{_,aD _ rfl,rfl,rfl},ah _ g}}
def Ar(hA:X.A.handled=none):j6 X (.builtin "sorted") (λxs H Q=>∃(a:Addr)(kvs:List (NK×Addr×V))(rows:List (List Str)),xs=[.ref a]/\ff X.prog X.w X.K H a kvs/\kvs.map (·.1)=rows.map dH/\(2<=rows.length->∀r∈rows,r≠[])/\rows.length<1000000/\SortedTo X.K H (kvs.map λp=>.ref p.2.1) rows Q):=by
 intro pins s Z H xs us Q I r h;obtain⟨a,kvs,rows,rfl,ha,hk,gE,yQ,q⟩:=h;obtain⟨u,rfl,rx⟩:=l9 r;cases rx;obtain⟨lo,o,es,ep,ga,hz,m⟩:=I.GB ha;have hl:(kvs.map λp=>(V.ref p.2.1,p.2.2)).length=es.size:=by rw[bh m.2.2,aM]
 rw[ag]at hl;have hlr:kvs.length=rows.length:=by have:=cu List.length hk;rw[ag,ag]at this;exact this
 refine jk BM zI Ao (AD _) ?_;unfold Builtin.«sorted»;refine ae (af ?_);refine ae (PySem.W.kdu_collect (VM lo m.1 m.2.1) (by simpa using hA) ga (by rw[bP];lia) λh' tk acc kp it=>?_);have ea:acc.toList=(kvs.map λp=>p.2.1).map Value.ref:=by
  refine tP λj=>?_;rw[bB,bW,aJ];by_cases hj:j<es.size
  ·have hj':j<acc.size:=by rw[it.1];exact hj
   obtain⟨_,e1⟩:=it.2 j _ (bo hj');have mC:kvs[j]?=some (kvs[j]'∅):=ao ∅;obtain⟨e,he,r1,_⟩:=Paired.at' m.2.2 (by rw[aJ,mC];rfl);rw[bB,bo hj]at he;cases he;rw[bo hj',e1,mC,dM];exact cu some r1
  ·rw[j8 (by rw[it.1];lia),iN ∅];rfl
 rw[ea];have e2:(kvs.map λp=>V.ref p.2.1)=(kvs.map λp=>p.2.1).map V.ref:=by rw[bW];rfl
 rw[e2]at q;refine C9 (s:=s) (I.kept kp) (by rw[ag,hlr]) (λi z b e3 e4=>?_) gE yQ q;rw[aJ]at e4;obtain⟨p,e5,rfl⟩:=a9.mp e4;have e6:(kvs.map (·.1))[i]?=some (dH z):=by rw[hk,aJ,e3];rfl
 rw[aJ,e5]at e6;have:=(ha.2 p (aG e5)).1;rw[show p.1=dH z from bL e6]at this;exact DB this
end
def VI(P:Program)(w:World)(K:Frag)(zi:List (TE×TE)):TE:=λZ H Q=>∀p,H p=none->C5 zi Z (upd H p (.dK [])) λps H2=>∃b k v,ps=[(.ref b,v)]/\iS K H2 k b/\H2 p=some (.dK [])/\Q (.ref p) (upd H2 p (.ext (DN P w p [(k,b,v)])))
def Oq(hu:X.A.units+101<cLine)(h:AK X pos keys values zi)(o7:keys.all (·.isSome)=true)(hl:keys.length=values.length)(h0:keys≠[])
  (h15:keys.length<=15):PE X (.Dict keys values pos) (VI X.prog X.w X.K zi):=by
 intro pins s Z H Q I q;have hn:=I.br.fresh (ak s.heap.objs.size);have I1:=I.laid (t':=s.toks) (λ_ _ q=>ah _ q) (ak _) (CD s.heap I.big);refine wpAny_Dict_any o7 hl h0 h15 (gR (h pins _ Z _ _ I1 (q _ hn)) λws s2 acb=>?_);obtain⟨ps,H2,I2,rel,b,k,v,e,hk,hp,q2⟩:=acb;subst e;cases rel with
 |@cons _ x _ _ r1 t=>
  cases t;obtain⟨kx,vx⟩:=x;obtain⟨r1,r2⟩:=r1;obtain rfl:kx=Value.ref b:=r1;unfold storeAll;rw[mF];have ha:ff X.prog X.w X.K H2 s.heap.objs.size []:={.inr ⟨rfl,hp⟩,λ_ hp=>by cases hp};obtain⟨lo,xs,rl,jF,dd⟩:=I2.qx ha;have lx:xs.length<=sizeLine:=by rw[<-rl.length];exact aR _
  refine ae (ae (wpAny_dictSet_heap (show X.A.units+100<cLine by lia) (I2.Cu hk) dd λh' tK hs=>af ?_));obtain⟨o,es,ep,g,g2,g3,g4,_,g5⟩:=tK;have I3:∀tk,Inv X pins Z (upd H2 s.heap.objs.size (.ext (DN X.prog X.w s.heap.objs.size [(k,b,v)]))) {s2 with heap:=h',toks:=tk}:=λtk=>
   rp I2 (by rw[hp];exact True.intro) hs ⟨o,g⟩ (M9 {lo,_,Cf rl r2,by show 1<=10000000;decide,o,es,ep,g,g2,g3,g4,g5})
  exact af {.ref s.heap.objs.size,_,I3 _,rfl,q2}
section
variable{P:Program}{w:World}{A:Around}{E:Value->Shared->Prop}{v:Shared}{es:Array DictEntry}{ep:Nat}{o:Obj}
structure Zi(h:Heap)(z ti to i1 i2 d l:Addr)(f:Value)(k n ep:Nat):Prop where
 self:IsZip h z ti to f
 ins:IsPair h ti (.ref i1) (.ref i2)
 outs:∃a b,IsPair h to a b
 w1:RI h i1 d k n ep
 w2:h.IsListIter i2 l k
def Zi.ne(g:Zi h z ti to i1 i2 d l f k n ep):(ti≠z/\to≠z/\i1≠z/\i2≠z)/\(ti≠i1/\ti≠i2/\to≠i1/\to≠i2)/\i1≠i2:=by
 obtain⟨gs,gi,⟨a,b,go⟩,⟨_,_,_,_,q1,_⟩,⟨o2,q2,c2,_⟩⟩:=g;exact{{cy gi gs rfl rfl (by decide),cy go gs rfl rfl (by decide),cy q1 gs rfl rfl (by decide),cy q2 gs c2 rfl (by decide)},
  {cy gi q1 rfl rfl (by decide),cy gi q2 rfl c2 (by decide),cy go q1 rfl rfl (by decide),cy go q2 rfl c2 (by decide)},cy q1 q2 rfl c2 (by decide)}
def Vy{Q:Value->Shared->Prop}(BE:ti≠to)(g:Zi v.heap z ti to i1 i2 d l .none k es.size ep)
  (gd:v.heap.get? d=some o) (hx:o.ExactDict) (sf:o.data=.dict es ep) (t2:v.heap.IsList l ys) (hk:k<es.size) (ey:ys[k]?=some y)
  (q:∀h',Zi h' z ti to i1 i2 d l (rawInt (v.heap.objs.size+1)) (k+1) es.size ep->h'.get? v.heap.objs.size=some {cls:=.type "tuple",data:=.seq #[es[k].key,es[k].val]}->IsPair h' (v.heap.objs.size+1) (.ref v.heap.objs.size) y->(∀c o,c≠z->c≠to->c≠i1->c≠i2->v.heap.get? c=some o->h'.get? c=some o)->Q (.ref (v.heap.objs.size+1)) {v with heap:=h'}):
  wpAny (model P w) A (Builtin.«zip.__next__» {[.ref z],[]}) (λfin s'=>∃u,fin=.done (.ret u)/\Q u s') E v:=by
 obtain⟨⟨a1,a2,a3,a4⟩,⟨a5,a6,a7,a8⟩,KW⟩:=g.ne;obtain⟨gs,gi,⟨a,b,go⟩,g1,g2⟩:=g;have dz:=cy gd gs hx.1 rfl (by decide);obtain⟨o2,q2,c2,_⟩:=id g2;obtain⟨ol,ql,cl,_⟩:=id t2;have c1:=cy ql gs cl rfl (by decide);have c4:=cy ql go cl rfl (by decide);have c5:l≠i1:=by obtain⟨_,_,_,_,e1,_⟩:=id g1;exact cy ql e1 cl rfl (by decide)
 show wpAny _ _ (field (.ref z) 2>>=_) _ _ _;refine ae (bF gs rfl rfl ?_);refine ae (bF gs rfl rfl ?_);refine ae (bO gi rfl ?_);refine ae ?_;unfold Builtin.SmallTypes.ownedTupleIsFree;refine ae (bF gs rfl rfl (af ?_));refine ae (fE ?_);refine ae (bF gs rfl rfl ?_);refine ae (bS gs (by simp) λp1 k1 r1=>?_)
 replace k1:IsZip p1 z ti to .ellipsis:=k1
 have z1:=r1.1;refine ae ?_;refine ae (ae (lF ?_));refine ae (Ob (g1.iQ λo e=>r1.extBut _ _ a3 e) (r1.extBut _ _ dz gd) sf hk λp2 k2 tq r2 Ti=>af ?_);have Ti:p2.objs.size=v.heap.objs.size+1:=by rw[<-z1];exact Ti
 have tq:p2.get? v.heap.objs.size=some {cls:=.type "tuple",data:=.seq #[es[k].key,es[k].val]}:=by rw[<-z1];exact tq
 rw[show({v with heap:=p1}:Shared).heap.objs.size=v.heap.objs.size from z1];have o2:=r2 _ _ a7 (r1.extBut _ _ a2 go);refine ae (bO o2 rfl ?_);refine ae (xO o2 λp3 o3 r3=>?_)
 replace o3:IsPair p3 to (.ref v.heap.objs.size) b:=o3
 refine ae (lR (af ?_));refine ae (ae (lF ?_));have w3:p3.IsListIter i2 l k:=by obtain⟨o',e',r'⟩:=g2;exact{o',r3.extBut _ _ a8.symm (r2 _ _ KW.symm (r1.extBut _ _ a4 e')),r'}
 have t3:p3.IsList l ys:=by obtain⟨o',e',r'⟩:=t2;exact{o',r3.extBut _ _ c4 (r2 _ _ c5 (r1.extBut _ _ c1 e')),r'}
 refine ae (wpAny_nextOf_list_item w3 t3 ey λp4 k4 r4=>af ?_);have o4:=r4.extBut _ _ a8 o3;refine ae (bO o4 rfl ?_);refine ae (xO o4 λp5 o5 r5=>?_)
 replace o5:IsPair p5 to (.ref v.heap.objs.size) y:=o5
 refine ae (lR (af (af ?_)));refine ae (bO o5 rfl ?_);refine ae (kr ?_);have sz:p5.objs.size=v.heap.objs.size+1:=by rw[r5.1,r4.1,r3.1,Ti]
 have z5:=r5.extBut _ _ a2.symm (r4.extBut _ _ a4.symm (r3.extBut _ _ a2.symm (r2 _ _ a3.symm k1)));have st:∀c o,c≠z->c≠to->c≠i1->c≠i2->v.heap.get? c=some o->p5.get? c=some o:=λc o m1 m2 m3 m4 e=>
  r5.extBut _ _ m2 (r4.extBut _ _ m4 (r3.extBut _ _ m2 (r2 _ _ m3 (r1.extBut _ _ m1 e))))
 have j1:=k2.iQ λo e=>r5.extBut _ _ a7.symm (r4.extBut _ _ KW (r3.extBut _ _ a7.symm e));have j2:p5.IsListIter i2 l (k+1):=by obtain⟨o',e',r'⟩:=k4;exact{o',r5.extBut _ _ a8.symm e',r'}
 have nto:=bC (aB go);have ni2:=bC (aB q2);have nz:=bC (aB gs);have t5:=r5.extBut _ _ nto (r4.extBut _ _ ni2 (r3.extBut _ _ nto tq));have lz:=aB z5;refine ae ?_;unfold Builtin.SmallTypes.ownedTupleHandOut;have z6:IsZip (p5.push {cls:=.type "tuple",data:=.seq #[.ref v.heap.objs.size,y]}) z ti to .ellipsis:=ah _ z5;refine ae (bS z6 (by simp) λp7 z7 r7=>?_)
 replace z7:IsZip p7 z ti to (rawInt p5.objs.size):=z7
 refine bS z7 (by simp) λp8 z8 r8=>?_
 replace z8:IsZip p8 z ti to (rawInt p5.objs.size):=z8
 have up:∀c o,c≠z->p5.get? c=some o->p8.get? c=some o:=λc o m e=>r8.extBut _ _ m (r7.extBut _ _ m (ah _ e));have n8:=r8.extBut _ _ (bC lz) (r7.extBut _ _ (bC lz) (aD _ rfl));rw[sz]at z8 n8;refine af {_,rfl,?_};rw[sz];obtain⟨ob,jb,rb⟩:=j2;exact q p8 {z8,up _ _ a1 (st _ _ a1 BE a5 a6 gi),{_,_,up _ _ a2 o5},j1.iQ λo e=>up _ _ a3 e,{ob,up _ _ a4 jb,rb}} (up _ _ nz t5) n8 λc o m1 m2 m3 m4 e=>up c o m1 (st c o m1 m2 m3 m4 e)
def W3(hh:A.handled=none)(g:Zi v.heap z ti to i1 i2 d l .none k es.size ep)(gd:v.heap.get? d=some o)(hx:o.ExactDict)(sf:o.data=.dict es ep)(hk:es.size<=k)
  (q:∀h' e,(∀c o,c≠z->c≠to->c≠i1->c≠i2->v.heap.get? c=some o->h'.get? c=some o)->(∃o,h'.get? e=some o/\o.cls=.type "StopIteration")->E (.ref e) {v with heap:=h'}):
  wpAny (model P w) A (Builtin.«zip.__next__» {[.ref z],[]}) Q E v:=by
 obtain⟨⟨a1,a2,a3,a4⟩,⟨a5,a6,a7,a8⟩,KW⟩:=g.ne;obtain⟨gs,gi,⟨a,b,go⟩,g1,g2⟩:=g;have dz:=cy gd gs hx.1 rfl (by decide);show wpAny _ _ (field (.ref z) 2>>=_) _ _ _;refine ae (bF gs rfl rfl ?_);refine ae (bF gs rfl rfl ?_);refine ae (bO gi rfl ?_);refine ae ?_;unfold Builtin.SmallTypes.ownedTupleIsFree;refine ae (bF gs rfl rfl (af ?_));refine ae (fE ?_);refine ae (bF gs rfl rfl ?_);refine ae (bS gs (by simp) λp1 k1 r1=>?_)
 replace k1:IsZip p1 z ti to .ellipsis:=k1
 refine ae ?_;refine ae (ae (lF ?_));refine ae (Oa hh (g1.iQ λo e=>r1.extBut _ _ a3 e) (r1.extBut _ _ dz gd) sf hk λp2 e r2 he=>?_);obtain⟨oe,ge,ce⟩:=he;have z2:=r2 _ _ a3.symm k1;have Yp:=cy ge z2 ce rfl (by decide);exact bS z2 (by simp) λp3 _ r3=>q p3 e (λc o m1 _ m3 _ e=>r3.extBut _ _ m1 (r2 _ _ m3 (r1.extBut _ _ m1 e))) {oe,r3.extBut _ _ Yp ge,ce}
def Vx(BE:ti≠to)(g:Zi v.heap z ti to i1 i2 d l .none k es.size ep)
  (gd:v.heap.get? d=some o) (hx:o.ExactDict) (sf:o.data=.dict es ep) (t2:v.heap.IsList l ys) (hk:k<es.size) (ey:ys[k]?=some y)
  (q:∀h',Zi h' z ti to i1 i2 d l (rawInt (v.heap.objs.size+1)) (k+1) es.size ep->h'.get? v.heap.objs.size=some {cls:=.type "tuple",data:=.seq #[es[k].key,es[k].val]}->IsPair h' (v.heap.objs.size+1) (.ref v.heap.objs.size) y->(∀c o,c≠z->c≠to->c≠i1->c≠i2->v.heap.get? c=some o->h'.get? c=some o)->Q (some (.ref (v.heap.objs.size+1))) {v with heap:=h'}):
  wpAny (model P w) A (pyNext (.ref z)) Q E v:=by
 have ty:v.TypeIs (.ref z) "zip":={_,g.self,rfl};unfold pyNext;exact ae (dq (wpAny_callSpecial?_slot (name:=Str.ofString "__next__") ty dO (ba dO ty jC (Vy BE g gd hx sf t2 hk ey λh' b1 b2 b3 b4=>af (q h' b1 b2 b3 b4)) (je _))))
def Vw(hh:A.handled=none)(g:Zi v.heap z ti to i1 i2 d l .none k es.size ep)(gd:v.heap.get? d=some o)(hx:o.ExactDict)(sf:o.data=.dict es ep)(hk:es.size<=k)
  (q:∀h',(∀c o,c≠z->c≠to->c≠i1->c≠i2->v.heap.get? c=some o->h'.get? c=some o)->Q none {v with heap:=h'}):
  wpAny (model P w) A (pyNext (.ref z)) Q E v:=by
 have ty:v.TypeIs (.ref z) "zip":={_,g.self,rfl};unfold pyNext;refine ae (dq (wpAny_callSpecial?_slot (name:=Str.ofString "__next__") ty dO (ba dO ty jC (W3 (show A.in1.handled=none from hh) g gd hx sf hk λh' e hk he=>?_) (je _))));obtain⟨o,ho,hc⟩:=he;exact ae (fq (T:="StopIteration") (b:=true) ⟨o,ho,hc⟩ jr (af (q _ hk)))
abbrev Nr(h:Heap)(d:Addr)(n ep:Nat):Heap:=h.push {cls:=.type "dict_itemiterator",data:=.fields #[.none,.bool false,.ref d,.int 0 0,.int n 0,.int ep 0,.none,.none]}
abbrev Tt(h:Heap)(d l:Addr)(n ep:Nat):Heap:=(Nr h d n ep).push {cls:=.type "list_iterator",data:=.fields #[.ref l,.int 0 0]}
abbrev Ts(h:Heap)(d l:Addr)(n ep:Nat):Heap:=(Tt h d l n ep).push {cls:=.type "tuple",data:=.seq #[.ref h.objs.size,.ref (Nr h d n ep).objs.size]}
abbrev Tr(h:Heap)(d l:Addr)(n ep:Nat):Heap:=(Ts h d l n ep).push {cls:=.type "tuple",data:=.seq #[.none,.none]}
abbrev JW(h:Heap)(d l:Addr)(n ep:Nat):Heap:=(Tr h d l n ep).push {cls:=.type "zip",data:=.fields #[.none,.bool false,.bool false,.ref (Tt h d l n ep).objs.size,.ref (Ts h d l n ep).objs.size]}
def W9(r d l:Addr)(ys:Array Value)(o:Obj)(es:Array DictEntry)(ep:Nat)(sf:o.data=.dict es ep):
  Meets (Builtin.«zip.__new__» {[.type "zip",.ref r,.ref l],[]}) (λ_ R s=>s.heap.IsItemsView r d/\s.heap.get? d=some o/\s.heap.IsList l ys/\R (.ok (.ret (.ref (Tr s.heap d l es.size ep).objs.size))) {s with heap:=JW s.heap d l es.size ep}):=
 .of_wp λprog w A R s h=>by
  obtain⟨hp,g,dr,tk,os⟩:=s;obtain⟨hv,gd,hl,h⟩:=h;have Sj:=sub_zip;have hV:Heap.IsItemsView (Shared.heap ⟨hp,g,dr,tk,os⟩) r d:=hv;have hL:Heap.IsList (Shared.heap {Nr hp d es.size ep,g,dr,tk,os}) l ys:=by obtain⟨o,e,r⟩:=hl;exact{o,ah _ e,r}
  wp_walk using Ha hV gd sf,om hL
  exact⟨_,rfl,h⟩
def Vz(hv:v.heap.IsItemsView r d)(gd:v.heap.get? d=some o)(sf:o.data=.dict es ep)(hl:v.heap.IsList l ys)
  (q:∀h' n,n=v.heap.objs.size->Zi h' (n+4) (n+2) (n+3) n (n+1) d l .none 0 es.size ep->(∀c o,v.heap.get? c=some o->h'.get? c=some o)->Q (.ref (n+4)) {v with heap:=h'}):
  wpAny (model P w) A (call (.type "zip") [.ref r,.ref l]) Q E v:=by
 refine callType_new F.called_zip (by decide) (F.typeCall_zip_2 _ _) (F.newCall_zip_2 _ _) (λobj=>yx obj _ _) F.entry_zip_new (W9 r d l ys o es ep sf) {hv,gd,hl,?_};have e1:(Nr v.heap d es.size ep).objs.size=v.heap.objs.size+1:=b7 ..;have e2:(Tt v.heap d l es.size ep).objs.size=v.heap.objs.size+2:=by rw[b7,e1]
 have e3:(Ts v.heap d l es.size ep).objs.size=v.heap.objs.size+3:=by rw[b7,e2]
 have e4:(Tr v.heap d l es.size ep).objs.size=v.heap.objs.size+4:=by rw[b7,e3]
 have g5:(JW v.heap d l es.size ep).get? (Tr v.heap d l es.size ep).objs.size=some _:=aD _ rfl;have g4:(JW v.heap d l es.size ep).get? (Ts v.heap d l es.size ep).objs.size=some _:=ah _ (aD _ rfl);have g3:(JW v.heap d l es.size ep).get? (Tt v.heap d l es.size ep).objs.size=some _:=ah _ (ah _ (aD _ rfl));have g2:(JW v.heap d l es.size ep).get? (Nr v.heap d es.size ep).objs.size=some _:=ah _ (ah _ (ah _ (aD _ rfl)));have g1:(JW v.heap d l es.size ep).get? v.heap.objs.size=some _:=ah _ (ah _ (ah _ (ah _ (aD _ rfl))));show _/\_;rw[e2,e3,e4]at g5;rw[e1,e2]at g3;rw[e3]at g4;rw[e1]at g2;rw[e4];exact{⟨_,g5,rfl⟩,q _ _ rfl {g5,g3,⟨_,_,g4⟩,{_,_,_,_,g1,.inl rfl},⟨_,g2,rfl,rfl⟩} λc o x=>ah _ (ah _ (ah _ (ah _ (ah _ x))))}
end
def QS(K:Frag)(d l:Addr)(o:Obj)(u:HO)(kvs:List (V×V)):It:=
 {λi H=>H d=some (.eO o u)/\i<kvs.length/\∃ys y,bw K H l ys/\ys[i]?=some y,
  λi H x H'=>∃p q kv y,x=.ref p/\H q=none/\upd H q (.tup [kv.1,kv.2]) p=none/\H'=upd (upd H q (.tup [kv.1,kv.2])) p (.tup [.ref q,y])/\kvs[i]?=some kv/\∀ys,bw K H l ys->ys[i]?=some y,
  λi H=>H d=some (.eO o u)/\kvs.length<=i}
def VG{K:Frag}(m:Np o es ep kvs)(BE:ti≠to):
  Turn P w K (.Tuple elts kk ps) (QS K d l o u kvs) (f7 z ti to i1 i2) z (λi h=>Zi h z ti to i1 i2 d l .none i es.size ep) where
 mem:=aA
 obj:=λi h st c hc=>by
  obtain⟨gs,gi,⟨u,v,go⟩,⟨_,_,_,_,q1,_⟩,⟨o2,q2,c2,d2⟩⟩:=st;have kQ:c=z\/c=ti\/c=to\/c=i1\/c=i2:=by simpa[f7]using hc
  rcases kQ with rfl|rfl|rfl|rfl|rfl
  ·exact{_,gs,λv z=>by cases z}
  ·exact{_,gi,λv z=>by cases z}
  ·exact{_,go,λv z=>by cases z}
  ·exact{_,q1,λv z=>by cases z}
  ·exact{_,q2,λv z=>by rw[d2]at z;cases z}
 keep:=λi h h' st k=>by obtain⟨gs,gi,⟨u,v,go⟩,w1,⟨o2,q2,r2⟩⟩:=st;exact{k z (by simp[f7]) _ gs,k ti (by simp[f7]) _ gi,{u,v,k to (by simp[f7]) _ go},w1.iQ λo e=>k i1 (by simp[f7]) _ e,{o2,k i2 (by simp[f7]) _ q2,r2}}
 item:=by
  intro X hP hw hK hc i pins s Z H E I hf st hg;subst hP hw hK;obtain⟨hd,hi,ys,y,hb,hy⟩:=hg;obtain⟨Ac,Hb,zJ,qr⟩:=I.list hb;obtain⟨u2,qt,Dm⟩:=Hb.get hy;have hl:kvs.length=es.size:=by rw[bh m.2.2,aM]
  have ga:s.heap.get? d=some o:=(I.br d _ hd).1;obtain⟨kv,mC⟩:∃kv,kvs[i]?=some kv:={_,ao hi};have PY:i<es.size:=by lia
  obtain⟨e,he,r⟩:=Paired.at' m.2.2 mC;have ee:es[i]=e:=by rw[bB,bo PY]at he;exact bL he
  refine Vx BE st ga m.1 m.2.1 zJ.isList PY (y:=u2) (by simpa using qt) λh1 g1 tq pr kp=>{_,rfl,?_};refine tU g1.self λh2 z2 sb=>?_;have rW:Heap.SameBut z h1 h2:=sb;have al:∀c∈f7 z ti to i1 i2,c<s.heap.objs.size:=λc hc=>by
   obtain⟨gs,gi,⟨u,v,go⟩,⟨_,_,_,_,q1,_⟩,⟨o2,q2,r2⟩⟩:=id st;have kQ:c=z\/c=ti\/c=to\/c=i1\/c=i2:=by simpa[f7]using hc
   rcases kQ with rfl|rfl|rfl|rfl|rfl
   ·exact aB gs
   ·exact aB gi
   ·exact aB go
   ·exact aB q1
   ·exact aB q2
  have lz:z<s.heap.objs.size:=al z aA;have uN:∀c o,c∉f7 z ti to i1 i2->s.heap.get? c=some o->h2.get? c=some o:=λc o hc e=>
   rW.extBut c o (λt=>hc (by simp[f7,t])) (kp c o (λt=>hc (by simp[f7,t])) (λt=>hc (by simp[f7,t])) (λt=>hc (by simp[f7,t])) (λt=>hc (by simp[f7,t])) e)
  have t2:=rW.extBut _ _ (bC lz) tq;have lz1:z<s.heap.objs.size+1:=dD lz;have p2:=rW.extBut _ _ (bC lz1) pr;have I2:=I.J5 (t':=s.toks) (xs:=[kv.1,kv.2]) (us:=[es[i].key,es[i].val]) uN hf (ak _) {⟨_,t2,rfl,_,rfl⟩,_,t2,rfl} (.cons (by rw[ee];exact r.1) (.cons (by rw[ee];exact r.2) .nil)) (by show 2<=sizeLine;decide);have low:=I.low;have PK:H (s.heap.objs.size+1)=none:=I.br.fresh (eT _);have BP:upd H s.heap.objs.size (.tup [kv.1,kv.2]) (s.heap.objs.size+1)=none:=by rw[ax (bC (dv _))];exact PK
  have I3:=I2.Jj (D:=s.heap.objs.size+1) (o:=.tup [.ref s.heap.objs.size,y]) BP {by show 2<=sizeLine;decide,[.ref s.heap.objs.size,u2],.cons rfl (.cons Dm .nil),{_,p2,rfl,0,rfl},_,p2,rfl} (Nat.le_succ_of_le low.1) (bC (dD low.2.1)) (λx c h=>aI (dD (low.2.2.1 x c h))) (λq hq=>aI (dD (low.2.2.2 q hq)));obtain⟨⟨n1,n2,n3,n4⟩,_,_⟩:=g1.ne;obtain⟨gs,gi,⟨u,v,go⟩,w1,⟨o2,q2,r2⟩⟩:=g1;refine{.ref (s.heap.objs.size+1),_,I3,rfl,{_,_,kv,y,rfl,I.br.fresh (ak _),BP,rfl,mC,λzs hz=>by rw[I.Co hz hb];exact hy},{z2,rW.extBut _ _ n1 gi,{u,v,rW.extBut _ _ n2 go},w1.iQ λo e=>rW.extBut _ _ n3 e,{o2,rW.extBut _ _ n4 q2,r2}},λc hc=>?_};rw[ax (aI (dD (al c hc))),ax (aI (al c hc))];exact(hf c hc).1
 done:=by
  intro X hP hw hK hc i pins s Z H E I hf st hg;subst hP hw hK;obtain⟨hd,hi⟩:=hg;have hl:kvs.length=es.size:=by rw[bh m.2.2,aM]
  have ga:s.heap.get? d=some o:=(I.br d _ hd).1;exact Vw (I.ok.hd hc) st ga m.1 m.2.1 ∅ λh1 kp=>{rfl,I.Ka (t':=s.toks) (ch:=f7 z ti to i1 i2) (λc o hc e=>kp c o (λt=>hc (by simp[f7,t])) (λt=>hc (by simp[f7,t])) (λt=>hc (by simp[f7,t])) (λt=>hc (by simp[f7,t])) e) hf}
 self:=λ_ _ _ _ _ st h=>kT st.self h
inductive YW(P:Program)(w:World)(K:Frag)(R:It->Hp->Prop)(vs:List V)(H1:Hp):Prop
 |mk r d u l kvs ys (_:vs=[.ref r,.ref l]) (_:H1 r=some (.ext (tR r d))) (_:H1 d=some u) (_:ff P w K H1 d kvs) (_:bw K H1 l ys) (_:∀o,R (QS K d l o u (kvs.map λp=>(.ref p.2.1,p.2.2))) (upd H1 d (.eO o u)))
def aba(P:Program)(w:World)(K:Frag)(ta:TA):TI:=λZ H R=>ta Z H λvs H1=>YW P w K R vs H1
def V6(hg:Gl X "zip")(hm:X.mg "zip"=none)(ha:PA X [a,b] ta)(hs:starEach [a,b] X.env=[(false,eval a X.env),(false,eval b X.env)]:=by rfl)(kP:starEach [b] X.env=[(false,eval b X.env)]:=by rfl):
  PI X (.Tuple elts kk ps) (.Call (.Name "zip" p) [a,b] [] pos) (aba X.prog X.w X.K ta):=by
 intro pins s Z H R I h;refine Ei (qg I hg hm boot_zip (dB (pU (ha pos pins s Z H _ I h) λus s1 vs H1 I1 r1 q1=>?_) (by rw[hs,kP]) (by rw[kP];rfl)));obtain⟨r,d,u,l,kvs,ys,e,hr,hd,hv,hb,q⟩:=q1;subst e;obtain⟨u1,u2,rfl,He,Dm⟩:=vals2 r1;cases He;cases Dm;obtain⟨iv,_⟩:=(show du X.prog X.w H1 s1.heap r (.ext (tR r d))from I1.br r _ hr);obtain⟨lo,o,es,ep,ga,hz,m⟩:=I1.GB hv;obtain⟨Ac,Hb,zJ,qr⟩:=I1.list hb;have I2:Inv X pins Z (upd H1 d (.eO o u)) s1:=by
  rcases hv.1 with e|⟨_,e⟩
  ·rw[hd]at e;cases e;exact I1.Ly hd ga
  ·rw[hd]at e;cases e;exact I1.freeze hd ga
 refine Vz iv ga m.2.1 zJ.isList λh' n en g kp=>?_;subst en;have I3:Inv X pins Z (upd H1 d (.eO o u)) {s1 with heap:=h'}:=I2.kept (t':=s1.toks) kp;refine kT g.self ?_;refine{_,_,_,_,_,rfl,I3,VG m ?_,g,λc hc=>?_,q o}
 ·exactλt=>absurd t (aI (dv _))
 ·have kQ:c=s1.heap.objs.size+4\/c=s1.heap.objs.size+2\/c=s1.heap.objs.size+3\/c=s1.heap.objs.size\/c=s1.heap.objs.size+1:=by simpa[f7]using hc
  have lc:s1.heap.objs.size<=c:=by rcases kQ with e|e|e|e|e<;>rw[e]<;>first|exact ak _|exact dw _ _
  exact I2.uV lc (I2.br.fresh lc)
def SN{K:Frag}{g:TG}{tb:TS}{D:Ends}(Pv:Nat->St->Hp->Prop)(le:kvs.length=ys.length)(h0:Pv 0 Z H)(hl:∀i Z H,i<=kvs.length->Pv i Z H->H d=some (.eO o u)/\bw K H l ys)
  (hs:∀i kv y p q Z H,kvs[i]?=some kv->ys[i]?=some y->Pv i Z H->H q=none->upd H q (.tup [kv.1,kv.2]) p=none->g (.ref p) Z (upd (upd H q (.tup [kv.1,kv.2])) p (.tup [.ref q,y])) λσ2 H2=>tb {D with nx:=Pv (i+1),ct:=Pv (i+1),bk:=D.nx} σ2 H2) (hd:∀Z H,Pv kvs.length Z H->D.nx Z H):
  ∃W:Nat->Nat->St->Hp->Prop,(∃m,W 0 m Z H)/\∀i m Z H,W i m Z H->
   ((QS K d l o u kvs).stop i H/\D.nx Z H)\/((QS K d l o u kvs).go i H/\∃N:St->Hp->Prop,(∀σ' H',N σ' H'->∃m',m'<m/\W (i+1) m' σ' H')/\∀x H',(QS K d l o u kvs).zb i H x H'->g x Z H' λσ2 H2=>tb {D with nx:=N,ct:=N,bk:=D.nx} σ2 H2):=by
 refine{λi m Z H=>m=kvs.length -i/\i<=kvs.length/\Pv i Z H,{kvs.length,by simp,aR _,h0},?_};rintro i m Z H ⟨rfl,hi,p⟩;obtain⟨q1,q2⟩:=hl i Z H hi p;by_cases bR:i<kvs.length
 ·refine .inr {{q1,bR,ys,ys[i]'∅,q2,ao _},Pv (i+1),λσ' H' p'=>{kvs.length -(i+1),by lia,rfl,bR,p'},λx H' y=>?_};obtain⟨a,b,kv,v,rfl,hb,ha,rfl,y1,y2⟩:=y;exact hs i kv v a b Z H y1 (y2 ys q2) p hb ha
 ·have e:i=kvs.length:=by lia
  subst e;exact .inl {{q1,ak _},hd Z H p}
section
variable{X:Cx}{P:Program}{w:World}{K:Frag}
def Wa(he:PE X e ta)(hb:attributeBase e f X.env (eval e X.env)=eval e X.env)(h:X.K=K:=by rfl):PE X (.Attribute e f pos) (Q9 K ta f):=h▸lM he hb
def Md(hu:X.A.units+101<cLine)(ho:PE X o td)(he:PE X e ty)(hf:PE X f tz)(m:M2 X o "get" apos e f d0)(h1:X.prog=P:=by rfl)(h2:X.w=w:=by rfl)(h3:X.K=K:=by rfl):
  PE X (.Call (.Attribute o "get" apos) [e,f] [] d0) (Ki P w K td ty tz):=by subst h1 h2 h3;exact Fu hu ho he hf m
end
end L2
namespace jn
open PySem PySem.Spec PyProof.Rows L2 vY
seal L2.PE L2.PT L2.PW L2.PA L2.PS L2.j9 L2.PI L2.PO L2.AK L2.PG L2.AL
section
variable{P:Program}{w:World}{K:Frag}{mg:Str->Option Value}{base:Heap}{C:Addr}
structure CU(K:Frag)(C:Addr):Prop where
 c:A0 K C
 tables:oO K C "tables"
 kept:oO K C "kept"
 maps:oO K C "maps"
 fo:oO K C "tails"
def fR(kept ts:List Str):List Str:=(dX ts).filter λt=>decide (t∉kept)
def jl(kept ts:List Str):List Str:=ts.filter λt=>decide (t∉fR kept ts)
def uI(a:Str×List Str)(known:List Str):NK:=.tup [.tup [.key (.inr a.1),dH a.2],dH known]
def Wl(h:uI a k=uI a' k'):a=a'/\k=k':=by unfold uI at h;simp only[NK.tup.injEq,List.cons.injEq,NK.key.injEq,Sum.inr.injEq,and_true]at h;obtain⟨⟨h1,h2⟩,h3⟩:=h;exact{CS h1 (wR h2),wR h3}
def R9(hq:bq K H q [.ref p,.ref u])(hp:bq K H p [.str a.1,.ref t])(ht:bq K H t (a.2.map V.str))(hu:bq K H u (known.map V.str))(s1:PyData.strOk a.1=true)(s2:pO a.2)(s3:pO known):iS K H (uI a known) q:=by
 refine{?_,oR.good (n:=3) ?_ (by decide)}
 ·unfold uI;rw[NV];refine{q,_,rfl,hq,?_};rw[oQ];refine{_,_,rfl,?_,?_}
  ·rw[NV];refine{p,_,rfl,hp,?_};rw[oQ];refine{_,_,rfl,?_,?_}
   ·rw[NV];rfl
   ·rw[oQ];refine{_,_,rfl,HM ht,?_};rw[oQ]
  ·rw[oQ];refine{_,_,rfl,HM hu,?_};rw[oQ]
 ·have up:∀{n m:Nat}{k:NK},oR n k->n<=m->oR m k:=λg l=>{g.1,aF g.2.1 l,aF g.2.2 l};refine Cz λk hk=>?_;rcases aE.mp hk with rfl|hk
  ·refine Cz λk hk=>?_;rcases aE.mp hk with rfl|hk
   ·exact good_str s1
   ·cases aC.mp hk;exact CA s2
  ·cases aC.mp hk;exact up (CA s3) (by decide)
abbrev Tx(fs:List En)(a:Str×List Str)(known:List Str):List Str->List (List Str):=AskP.fo (tW (g7 fs a.1)) a.2 known ((dX a.2).filter λt=>decide (t∉known))
structure iP(P:Program)(w:World)(K:Frag)(H:Hp)(td:Addr)(av:List Addr)(fs:List En)(kvs:List (NK×Addr×V)):Prop where
 at_:ff P w K H td kvs
 all:∀a known v,valN kvs (uI a known)=some v->∃d,v=.ref d/\gG P w K H av d (Tx fs a known)
def Nq(P:Program)(w:World)(K:Frag)(H:Hp)(td:Addr)(av:List Addr)(fs:List En)(n:Nat):Prop:=∃kvs,iP P w K H td av fs kvs/\kvs.length<=n
def SB(d:Addr)(H H':Hp):Prop:=∀b u,b≠d->H b=some u->H' b=some u
def SB.tp(s:SB d H H')(h:hE H d):eA H H':=λb xs q=>by
 have hb:b≠d:=λe=>h xs (e▸q);rcases q with q|⟨o,q⟩
 ·exact .inl (s _ _ hb q)
 ·exact .inr {o,s _ _ hb q}
def SB.same(s:bD H H'):SB d H H':=λb u _ e=>s _ _ e
def SB.trans(a:SB d H H1)(b:SB d H1 H2):SB d H H2:=λx u n e=>b x u n (a x u n e)
def iP.fr(x:iP P w K H td av fs kvs)(s:∀b u,b∉av->H b=some u->H' b=some u)(t:eA H H')(e:H' td=H td):iP P w K H' td av fs kvs:=
 {x.at_.tp t e,λa known v h=>by obtain⟨d,e1,e3⟩:=x.all a known v h;exact{d,e1,e3.fr s t}}
def iP.same(x:iP P w K H td av fs kvs)(s:bD H H'):iP P w K H' td av fs kvs:=by obtain⟨u,hu⟩:=x.at_.some;exact x.fr (λb u _ e=>s _ _ e) (eA.same s) (by rw[hu,s _ _ hu])
def Nq.same(x:Nq P w K H td av fs n)(s:bD H H'):Nq P w K H' td av fs n:=by obtain⟨kvs,h1,h2⟩:=x;exact{kvs,h1.same s,h2}
def _root_.L2.ff.t6(h:ff P w K H d kvs)(l:List V):H d≠some (.lst l):=λe=>by rcases h.1 with q|⟨_,q⟩<;>rw[e]at q<;>cases q
def iP.add(x:iP P w K H td av fs kvs)(ht:td∈av)(hk:iS K H (uI a known) q)(hd:gG P w K H av d (Tx fs a known)):
  iP P w K (upd H td (.ext (DN P w td (putN kvs (uI a known) q (.ref d))))) td av fs (putN kvs (uI a known) q (.ref d)):=by
 have s:∀b u,b∉av->H b=some u->upd H td (.ext (DN P w td (putN kvs (uI a known) q (.ref d)))) b=some u:=λb u n e=>by rw[ax (λz=>n (by rw[z];exact ht))];exact e
 have t:eA H (upd H td (.ext (DN P w td (putN kvs (uI a known) q (.ref d))))):=eA.upd x.at_.p6;refine{x.at_.put hk,λa' YI v h=>?_};rw[pz]at h;split at h
 ·next c=>
  cases h;obtain⟨rfl,rfl⟩:=Wl c;exact{d,rfl,hd.fr s t}
 ·obtain⟨d',e1,e3⟩:=x.all a' YI v h;exact{d',e1,e3.fr s t}
structure g6(P:Program)(w:World)(K:Frag)(C:Addr)(H:Hp)(me dx tb kl md td:Addr)(ex:List Addr)(fs:List En)(kept:List Str)(maps:Cm)(n:Nat):Prop where
 ins:H me=some (.ins C dx [("tables",.ref tb),("kept",.ref kl),("maps",.ref md),("tails",.ref td)])
 tab:gH K H tb fs
 wY:H kl=some (.lst (kept.map V.str))
 vH:RowC P w K H md maps
 zk:Nq P w K H td (td::md::ex) fs n
 nm:md≠td
 nt:tb≠td
 ke:kl∉ex
def g6.same(x:g6 P w K C H self dx tb kl md td ex fs kept maps n)(s:bD H H'):g6 P w K C H' self dx tb kl md td ex fs kept maps n:=
 {s _ _ x.ins,x.tab.same s,s _ _ x.wY,x.vH.same s,x.zk.same s,x.nm,x.nt,x.ke}
def FinA(a:Str×List Str):Prop:=a.2.length<=4/\PyData.strOk a.1=true/\pO a.2/\∀z∈a.2,z.length<=1000
def abq(a:Str×List Str):cB [a]=a.2:=by show a.2++[]=a.2;exact cP _
inductive Ca(P:Program)(w:World)(K:Frag)(C:Addr)(vs:List V)(H:Hp)(Q:VK)(_x3:XK):Prop
 |mk (self at_ dx tb kl md td:Addr) (ex:List Addr) (fs:List En) (kept:List Str) (maps:Cm) (n:Nat) (a:Str×List Str) (_:vs=[.ref self,.ref at_]) (_:g6 P w K C H self dx tb kl md td ex fs kept maps n) (_:nE H (.ref at_) a) (_:FinA a) (_:∀(l:Addr)(H':Hp),bD H H'->H l=none->H' l=some (.lst ((fR kept a.2).map V.str))->Q (.ref l) H')
structure Df6(P:Program)(w:World)(K:Frag)(mg:Str->Option Value)(base:Heap):Prop where
 Jr:eC P w K mg base 3 "unknowns_of" ["question"] NM
def Cq(l:List Str):(dX l).length<=l.length:=K3 l
def yV:cv ["self","atom"] ["self","atom"] (bI mO):=jE (by decide+kernel)
def RT(F:fb K "fresh_unknowns" "Asking.fresh_unknowns" mO f fd)(T:Txt K mg)(O:CU K C)(D:Df6 P w K mg base):c6 P w K mg base fD 4 f fd ["self","atom"] (Ca P w K C):=by
 refine F.ok yV (λ_ _ _ _ h=>by cases h;subst_vars;rfl) (λc7 A outer s H vs Q E hr h=>?_);obtain⟨self,at_,dx,tb,kl,md,td,ex,fs,kept,maps,n,a,rfl,st,ha,fa,k⟩:=h;refine{_,(bp (cL (zL rfl (eG (fs:=["self"]) (fr:=[0])) (gn (cl D.Jr hr (cw (ir (eK (ir ju) (ir (cw (pv 1)))))))) (λ_ _ _ _=>(fH (yF (K:=K)) (pv 0) (Wa (K:=K) (pv 1) rfl) (by with_unfolding_all rfl))) (λ_ _ _ _=>(pv 0))))),?_};refine{by show 0<=sizeLine;decide,λe he=>?_};have s1:=aN he (.tup ([]:List V));have he1:upd H e (.tup []) e=some (.tup []):=aw;generalize (upd H e (.tup []))=H1 at s1 he1⊢;refine{_,rfl,by show 1<=sizeLine;decide,λt ht=>?_};have s2:=aN ht (.tup [V.ref at_]);have Iy:upd H1 t (.tup [V.ref at_]) t=some (.tup [V.ref at_]):=aw;generalize (upd H1 t (.tup [V.ref at_]))=H2 at s2 Iy⊢;refine{by show 2<=sizeLine;decide,λq hq=>?_};have s3:=aN hq (.tup [V.ref e,V.ref t]);have hq3:upd H2 q (.tup [V.ref e,V.ref t]) q=some (.tup [V.ref e,V.ref t]):=aw;have vE:=s1.trans (s2.trans s3);generalize (upd H2 q (.tup [V.ref e,V.ref t]))=H3 at s3 hq3 vE⊢;refine{.ref q,[],[a],rfl,{q,e,t,[.ref at_],rfl,hq3,s3 _ _ (s2 _ _ he1),s3 _ _ Iy,.cons (rS ha vE) .nil},λb hb=>?_,by show 1<=100;decide,λr H4 s4 PF vP=>?_}
 ·cases aC.mp hb;exact{fa.1,fa.2.2.2}
 rw[abq]at vP;have wJ:=vE.trans s4;have lu:=Cq a.2;have l4:=fa.1;refine{r,rfl,{_,bw.of vP},kR (K:=K) (a:=r) (xs:=(dX a.2).map V.str) (λi ys H5=>H5=H4/\i<=(dX a.2).length/\ys=(((dX a.2).take i).filter λt=>decide (t∉kept)).map V.str) (by rw[ag];exact bH ∅) {rfl,aR _,rfl} ?_ ?_ ?_}
 ·rintro i ys H5 hi ⟨rfl,_,rfl⟩;refine{bw.of vP,?_};rw[ag];exact aF (dC _ _) (by rw[aU];lia)
 ·rintro i x ys H5 N hx ⟨rfl,hi,rfl⟩ hN;obtain⟨z,hz,rfl⟩:=jM hx;have bR:i<(dX a.2).length:=(ar.mp hz).1;refine{_,rfl,_,rfl,self,C,dx,_,_,rfl,wJ _ _ st.ins,O.c,O.kept,rfl,kl,_,rfl,.inl (bw.of (wJ _ _ st.wY)),rfl,F1 _,_,rfl,?_};rw[Lc];have en:((dX a.2).take (i+1)).filter (λt=>decide (t∉kept))=((dX a.2).take i).filter (λt=>decide (t∉kept))++if z∈kept then[]else[z]:=by rw[bx,hz,cq,jX];congr 1;by_cases c:z∈kept<;>simp[c]
  by_cases c:z∈kept
  ·refine gZ (λq=>by simp[c]at q) (λ_=>hN _ _ {rfl,bR,?_});rw[en,ay c,cP]
  ·refine gZ (λ_=>{_,rfl,hN _ _ {rfl,bR,?_}}) (λq=>absurd (by simp[c]) q);rw[en,aq c,aH];rfl
 ·rintro ys H5 ⟨rfl,_,rfl⟩ l hl;rw[ag,bu];exact k l _ (wJ.trans (aN hl _)) (wJ.free hl) aw
def Vc(kept ts:List Str):(dX ts).filter (λt=>decide (t∉jl kept ts))=fR kept ts:=by
 refine List.filter_congr λt ht=>?_;have h1:t∈ts:=(uk ht).resolve_left λz=>by cases z
 have:t∈jl kept ts↔t∈kept:=by unfold jl fR;rw[bJ,eW,bJ,eW];exact{λh=>mI λc=>h.2 ⟨ht,c⟩,λh=>{h1,λz=>z.2 h}}
 simp only[this]
theorem F6:∀l:List (List Str),(yd l).length<=l.length
 |[]=>ak _
 |a::r=>by have:=F6 r;unfold yd;split<;>(simp only[aZ];lia)
def C4(l:List (List Str)):(tW l).length<=l.length:=by unfold tW;rw[(df _).length_eq];exact F6 l
def vB(h:z∈cV):PyData.strOk z=true:=by unfold cV at h;simp only[aE,kZ,xQ]at h;rcases h with rfl|rfl|rfl|rfl|rfl|rfl|rfl|rfl<;>decide+kernel
def gH.good(x:gH K H p fs)(z:Str):(g7 fs z).length<=7/\∀r∈g7 fs z,pQ r:=by
 unfold g7;cases q:fs.find? (λe=>decide (e.nm=z))with
 |none=>exact{aR _,λr h=>by cases h}
 |some e=>
  obtain⟨_,_,h3,h4⟩:=x.en e (mE q);exact⟨h3,h4⟩
abbrev dbT(fs:List En)(z:Str):List (List Str):=tW (g7 fs z)
def uv(fs:List En)(kept:List Str)(a:Str×List Str)(v:List Str):List (List Str):=AskP.fo (dbT fs a.1) a.2 (jl kept a.2) (fR kept a.2) (AskP.image kept v (jl kept a.2))
def Kd(x:gH K H p fs)(kept:List Str)(a:Str×List Str)(v:List Str):(uv fs kept a v).length<=7:=by unfold uv AskP.fo;rw[ag];exact aF (dC _ _) (aF (C4 _) (x.good a.1).1)
abbrev yp(K:Frag)(H:Hp)(av:List Addr)(fs:List En)(kept:List Str)(a:Str×List Str):List V->Cm->Prop:=Paired λ(y:V)(x:List Str×Int)=>∃t zs,y=.ref t/\t∉av/\H t=some (.lst zs)/\eQ K H zs (uv fs kept a x.1)
def GN(h:yp K H av fs kept a ys m)(s:∀b u,b∉av->H b=some u->H' b=some u)(t:eA H H'):yp K H' av fs kept a ys m:=by
 induction h with
 |nil=>exact .nil
 |cons h _ ih=>
  obtain⟨t',zs,e,n,h1,h2⟩:=h;exact .cons {t',zs,e,n,s _ _ n h1,qU h2 t} ih
def GL(h:yp K H av fs kept a ys m)(s:bD H H'):yp K H' av fs kept a ys m:=GN h (λb u _ e=>s _ _ e) (eA.same s)
structure Ef(kept:List Str)(maps:Cm):Prop where
 nd:kept.Nodup
 sok:pO kept
 len:kept.length<=100
 row:∀x∈maps,x.1.length=kept.length/\pO x.1
 fL:maps.length<=500000
inductive LY(P:Program)(w:World)(K:Frag)(C:Addr)(vs:List V)(H:Hp)(Q:VK)(_x3:XK):Prop
 |mk (self at_ dx tb kl md td:Addr) (ex:List Addr) (fs:List En) (kept:List Str) (maps:Cm) (n:Nat) (a:Str×List Str) (_:vs=[.ref self,.ref at_]) (_:g6 P w K C H self dx tb kl md td ex fs kept maps n) (_:nE H (.ref at_) a) (_:FinA a) (_:Ef kept maps) (_:n<=1000000) (_:(∀b∈ex,∃u,H b=some u)) (_:∀(l:Addr)(ys:List V)(H':Hp),SB td H H'->H l=none->H' l=some (.lst ys)->g6 P w K C H' self dx tb kl md td ex fs kept maps (n+1)->yp K H' (td::md::ex) fs kept a ys maps->Q (.ref l) H')
structure Dm6(P:Program)(w:World)(K:Frag)(mg:Str->Option Value)(base:Heap)(C:Addr):Prop extends Dn P w K mg base where
 ic:qE P w K mg base C 4 "fresh_unknowns" ["self","atom"] (Ca P w K C)
 VS:eC P w K mg base 1 "rows_of" ["tables","name"] (G0 K)
 GR:eC P w K mg base 3 "tails_by_key" ["rows","terms","known","fresh"] (E9 P w K)
def gH.sb(x:gH K H p fs)(s:SB td H H')(nt:hE H td)(nl:∀l,H td≠some (.lst l))(ne:p≠td):gH K H' p fs:={s _ _ ne x.at_,x.nm,λe he=>by obtain⟨h1,h2,h3⟩:=x.en e he;exact{s _ _ (λz=>nl _ (by rw[<-z];exact h1)) h1,qU h2 (s.tp nt),h3}}
def RowC.sb(x:RowC P w K H d m)(s:SB td H H')(nt:hE H td)(ne:d≠td):RowC P w K H' d m:=by obtain⟨kvs,h1,h2⟩:=x;obtain⟨u,hu⟩:=h1.some;exact{kvs,h1.tp (s.tp nt) (by rw[hu,s _ _ ne hu]),h2}
def _root_.L2.ff.DA(h:ff P w K H d kvs):H d≠some (.ins C dx l):=λe=>by rcases h.1 with q|⟨_,q⟩<;>rw[e]at q<;>cases q
def g6.sb(x:g6 P w K C H self dx tb kl md td ex fs kept maps n)(s:SB td H H')(ck:iP P w K H' td (td::md::ex) fs kvs)(l:kvs.length<=m):g6 P w K C H' self dx tb kl md td ex fs kept maps m:=by obtain⟨_,c0,_⟩:=x.zk;exact{s _ _ (λz=>c0.at_.DA (by rw[<-z];exact x.ins)) x.ins,x.tab.sb s c0.at_.p6 c0.at_.t6 x.nt,s _ _ (λz=>c0.at_.t6 _ (by rw[<-z];exact x.wY)) x.wY,x.vH.sb s c0.at_.p6 x.nm,⟨kvs,ck,l⟩,x.nm,x.nt,x.ke}
def gj:cv ["self","atom","fresh","known","key","tails","places"] ["self","atom"] (bI oo):=jE (by decide+kernel)
def RP(F:fb K "tails_of_maps" "Asking.tails_of_maps" oo f fd)(T:Txt K mg)(O:CU K C)(D:Dm6 P w K mg base C):c6 P w K mg base fD 5 f fd ["self","atom"] (LY P w K C):=by
 refine F.ok gj (λ_ _ _ _ h=>by cases h;subst_vars;rfl) (λc7 A outer s H vs Q E hr h=>?_);obtain⟨self,at_,dx,tb,kl,md,td,ex,fs,kept,maps,n,a,rfl,st,ha,fa,mo,hn,hex,k⟩:=h;have hu:=my hr;have hN:=vT hr;have cC:=O.c;refine{_,(aO (uD (i:=2) gj.nd rfl (Or.inr rfl) (KZ cC D.ic hr (pv 0) (cw (pv 1)) ∅))
   (aO (uD (i:=3) gj.nd rfl (Or.inr rfl) (zL rfl (eG (fs:=["fresh"]) (fr:=[2])) (uF (cA fK (pv 1) aV (λ_ _=>rfl))) (λ_ _ _ _=>(fH (yF (K:=K)) (pv 0) (pv 1) (by with_unfolding_all rfl))) (λ_ _ _ _=>(pv 0))))
   (aO (gk 4 gj (ir (eK (pv 1) (eU dW rfl T.jJ (by decide+kernel) (cw (pv 3))))))
   (aO (ka (fH (Ov hN) (pv 4) (lM (pv 0) rfl) (by with_unfolding_all rfl)) (bp (Hn hN (lM (pv 0) rfl) (pv 4) (cl D.GR hr (fk (cl D.VS hr (eK (lM (pv 0) rfl) (cA fK (pv 1) aV (λ_ _=>rfl)))) (tE (cA fK (pv 1) aV (λ_ _=>rfl)) (pv 3) (pv 2)))) rfl)) gP)
   (aO (uD (i:=5) gj.nd rfl (Or.inr rfl) (Hx hN (lM (pv 0) rfl) (pv 4) (λ_ _=>rfl)))
   (aO (uD (i:=6) gj.nd rfl (Or.inr rfl) (cl D.Fs hr (cw (lM (pv 0) rfl))))
   (bp (cL (RG (jq rfl (eG (fs:=["tails","known","places"]) (fr:=[5,3,6])) (RF (lM (pv 0) rfl)) (λ_ _ _ _=>(Md (P:=P) (w:=w) (K:=K) hN (pv 1) (cl D.image hr (tE (pv 2) (pv 3) (pv 0))) (hJ ju) ⟨rfl,rfl,rfl,rfl⟩)))))))))))),?_}
 refine{_,rfl,self,dx,_,rfl,st.ins,rfl,_,rfl,self,at_,dx,tb,kl,md,td,ex,fs,kept,maps,n,a,rfl,st,ha,fa,λfr H1 s1 hf0 xf=>?_};obtain⟨_,t,e,hp,ht⟩:=id ha;cases e;have l4:=fa.1;refine{_,rfl,_,_,_,_,rfl,rfl,bq.of (s1 _ _ hp),rfl,t,rfl,{_,bq.of (s1 _ _ ht)},CH (K:=K) (a:=t) (xs:=a.2.map V.str) (λi ys H2=>H2=H1/\i<=a.2.length/\ys=((a.2.take i).filter λt=>decide (t∉fR kept a.2)).map V.str) (by rw[ag];exact bH ∅) {rfl,aR _,rfl} ?_ ?_ ?_}
 ·rintro i ys H2 hi ⟨rfl,_,rfl⟩;refine{bq.of (s1 _ _ ht),?_};rw[ag];exact aF (dC _ _) (by rw[aU];lia)
 ·rintro i x ys H2 N hx ⟨rfl,hi,rfl⟩ qv;obtain⟨z,hz,rfl⟩:=jM hx;have bR:i<a.2.length:=(ar.mp hz).1;refine{_,rfl,_,rfl,fr,_,rfl,.inl (bw.of xf),rfl,F1 _,_,rfl,?_};rw[Lc];have en:(a.2.take (i+1)).filter (λt=>decide (t∉fR kept a.2))=(a.2.take i).filter (λt=>decide (t∉fR kept a.2))++if z∈fR kept a.2 then[]else[z]:=by rw[bx,hz,cq,jX];congr 1;by_cases c:z∈fR kept a.2<;>simp[c]
  by_cases c:z∈fR kept a.2
  ·refine gZ (λq=>by simp[c]at q) (λ_=>qv _ _ {rfl,bR,?_});rw[en,ay c,cP]
  ·refine gZ (λ_=>{_,rfl,qv _ _ {rfl,bR,?_}}) (λq=>absurd (by simp[c]) q);rw[en,aq c,aH];rfl
 rintro ys H2 ⟨rfl,_,rfl⟩ kn ZK;rw[ag,bu];have s2:=aN ZK (.lst ((jl kept a.2).map V.str));have MM:upd H2 kn (.lst ((jl kept a.2).map V.str)) kn=some (.lst ((jl kept a.2).map V.str)):=aw;have pC:=s1.trans s2;have FW:=s2 _ _ xf;generalize hH:(upd H2 kn (.lst _))=H3;have hH':upd H2 kn (.lst ((jl kept a.2).map V.str))=H3:=hH;rw[hH']at s2 MM pC FW;clear hH hH';refine{_,rfl,_,rfl,kn,_,rfl,.inl {bw.of MM,λtk Pw=>?_}};have s4:=aN Pw (.tup ((jl kept a.2).map V.str));have Si:upd H3 tk (.tup ((jl kept a.2).map V.str)) tk=some (.tup ((jl kept a.2).map V.str)):=aw;have wJ:=pC.trans s4;have IQ:=s4 _ _ FW;have Sv:=s4 _ _ MM;generalize (upd H3 tk (.tup ((jl kept a.2).map V.str)))=H4 at s4 Si wJ IQ Sv⊢;refine{by show 2<=sizeLine;decide,λky hky=>?_};have s5:=aN hky (.tup [V.ref at_,V.ref tk]);have ZF:upd H4 ky (.tup [V.ref at_,V.ref tk]) ky=some (.tup [V.ref at_,V.ref tk]):=aw;have Dk:=wJ.trans s5;have hf5:=s5 _ _ IQ;have ML:=s5 _ _ Sv;have Zf:=s5 _ _ Si;generalize (upd H4 ky (.tup [V.ref at_,V.ref tk]))=H5 at s5 ZF Dk hf5 ML Zf⊢;have nW:=st.same Dk;have sk:pO (jl kept a.2):=λz hz=>fa.2.2.1 z (bJ.mp hz).1;have lkn:(jl kept a.2).length<=4:=aF (dC _ _) l4;have key:∀{H':Hp},eA H5 H'->iS K H' (uI a (jl kept a.2)) ky:=λtp=>wZ (R9 (bq.of ZF) (bq.of (Dk _ _ hp)) (bq.of (Dk _ _ ht)) (bq.of Zf) fa.2.1 fa.2.2.1 sk) tp;obtain⟨kvs,ck,lk⟩:=id nW.zk;clear s1 s2 pC wJ s4 s5 xf FW IQ MM Sv Si hky Pw ZK;dsimp only[rQ];refine G8 λNX Z9=>?_;have go:∀(H6:Hp)(O6:List (NK×Addr×V))(d:Addr),SB td H5 H6->iP P w K H6 td (td::md::ex) fs O6->O6.length<=n+1->valN O6 (uI a (jl kept a.2))=some (.ref d)->NX [some (.ref self),some (.ref at_),some (.ref fr),some (.ref kn),some (.ref ky),none,none] H6:=λH6 O6 d lK QF lk6 Ld=>by
  refine Z9 _ _ ?_;have tp6:=lK.tp ck.at_.p6;have lH:=nW.sb lK QF lk6;have ZJ:=lK _ _ (λz=>ck.at_.t6 _ (by rw[<-z];exact ML)) ML;obtain⟨d',e',tv6⟩:=QF.all _ _ _ Ld;cases e';have et:Tx fs a (jl kept a.2)=AskP.fo (dbT fs a.1) a.2 (jl kept a.2) (fR kept a.2):=by show AskP.fo _ _ _ ((dX a.2).filter λt=>decide (t∉jl kept a.2))=_;rw[Vc]
  rw[et]at tv6;refine{_,rfl,self,C,dx,_,_,rfl,lH.ins,O.c,O.fo,rfl,_,rfl,td,ky,O6,_,.ref d,rfl,rfl,QF.at_,key tp6,Ld,?_};refine{_,rfl,self,C,dx,_,_,rfl,lH.ins,O.c,O.kept,rfl,kl,kept,rfl,bw.of lH.wY,mo.nd,mo.len,λpd H7 s7 Sq acK=>?_};have ux:=lH.same s7;obtain⟨qh,FT,em⟩:=ux.vH;obtain⟨um,Iq⟩:=FT.some;have Yo:∀u v,H7 md≠some (.eO u v):=λu v e=>by rcases FT.1 with q|⟨_,q⟩<;>rw[e]at q<;>cases q
  have Fy:hE H7 md:=FT.p6;refine{md,Yo,?_};refine{_,rfl,self,C,dx,_,_,rfl,ux.ins,O.c,O.maps,rfl,md,um,qh,rfl,Iq,FT,λo=>?_};have Dh:SB md H7 (upd H7 md (.eO o um)):=λb u n e=>by rw[ax n];exact e
  have GK:=Dh.tp Fy;have Xh:=(tv6.same s7).fr (λb u n e=>Dh b u (λz=>n (by rw[z];exact az _ aA)) e) GK;have ZI:upd H7 md (.eO o um) kn=some (.lst ((jl kept a.2).map V.str)):=Dh _ _ (λz=>FT.t6 _ (by rw[<-z];exact s7 _ _ ZJ)) (s7 _ _ ZJ);have pdm:pd≠md:=λz=>by obtain⟨_,h1,_⟩:=lH.vH;obtain⟨_,h2⟩:=h1.some;rw[z,h2]at Sq;cases Sq
  have Zq:upd H7 md (.eO o um) pd=some (.dK (placesK kept)):=Dh _ _ pdm acK;have vR:upd H7 md (.eO o um) md=some (.eO o um):=aw;have avf:∀b∈td::md::ex,∃u,upd H7 md (.eO o um) b=some u:=λb hb=>by
   by_cases z:b=md
   ·exact{_,by rw[z];exact vR}
   ·have go7:∀{u:HO},H7 b=some u->∃u,upd H7 md (.eO o um) b=some u:=λ{u} e=>{u,by rw[ax z];exact e};by_cases z2:b=td
    ·obtain⟨_,h⟩:=QF.at_.some;exact go7 (s7 _ _ (by rw[z2];exact h))
    ·have P4:b∈ex:=by
      rcases aE.mp hb with h|h
      ·exact absurd h z2
      ·exact(aE.mp h).resolve_left z
     obtain⟨_,h⟩:=hex b P4;exact go7 (s7 _ _ (lK _ _ z2 (Dk _ _ h)))
  have O5:qh.length=maps.length:=by have:=cu List.length em;unfold qN at this;rw[ag,ag]at this;exact this
  have gv:∀(i:Nat)(q:NK×Addr×V),qh[i]?=some q->∃x,maps[i]?=some x/\bq K H7 q.2.1 (x.1.map V.str):=λi q hq=>by
   have e1:(qN maps)[i]?=some (q.1,q.2.2):=by rw[<-em,aJ,hq];rfl
   unfold qN at e1;rw[aJ]at e1;obtain⟨x,e2,e3⟩:=a9.mp e1;have e4:dH x.1=q.1:=cu Prod.fst e3;have:=(FT.2 q (aG hq)).1;rw[<-e4]at this;exact{x,e2,DB this}
  generalize U9:upd H7 md (.eO o um)=Hf at Xh ZI Zq vR GK avf⊢;refine Nh (d:=md) (o:=o) (u:=um) (kvs:=qh.map λp=>(V.ref p.2.1,p.2.2)) (λi ys H8=>bD Hf H8/\i<=maps.length/\yp K H8 (td::md::ex) fs kept a ys (maps.take i)) (by rw[ag,O5];exact cS mo.fL (by decide)) {λ_ _ x=>x,aR _,.nil} ?_ ?_ ?_
  ·rintro i ys H8 hi ⟨s8,UX,tl⟩;refine{s8 _ _ vR,?_};rw[bh tl,aU];lia
  ·rintro i kv ys H8 N mC ⟨s8,UX,tl⟩ qv;rw[aJ]at mC;obtain⟨q,hq,rfl⟩:=a9.mp mC;obtain⟨x,hx,hg⟩:=gv i q hq;have bR:i<maps.length:=(ar.mp hx).1;obtain⟨g1,g2⟩:=mo.row x (aG hx);obtain⟨_,kvt,Iw,o7⟩:=Xh.same s8;refine h9 ?_;refine{_,rfl,d,kvt,rfl,Iw,_,rfl,_,rfl,_,rfl,kn,pd,q.2.1,jl kept a.2,kept,x.1,rfl,.inl (bw.of (s8 _ _ ZI)),s8 _ _ Zq,mo.nd,dF (pW hg GK) s8,g1,by lia,mo.len,λr H9 s9 PF PB=>?_};refine{by show 0<=sizeLine;decide,λl0 uS=>?_};have tD:=s9.trans (aN uS (.lst ([]:List V)));have EH:upd H9 l0 (.lst []) l0=some (.lst []):=aw;have Zm:=(aN uS (.lst ([]:List V))) _ _ PB;generalize (upd H9 l0 (.lst []))=vh at tD EH Zm⊢;obtain⟨_,ab4,acH,Z2⟩:=Xh.same (s8.trans tD);refine{r,ab4,dH (AskP.image kept x.1 (jl kept a.2)),rfl,acH,uO (bq.of Zm) (Fe g2 sk),qv _ _ {s8.trans tD,bR,?_}};rw[bx,hx];refine(GL tl tD).snoc ?_;rcases Z2 (AskP.image kept x.1 (jl kept a.2))with⟨h1,h2⟩|⟨l,zs,h1,h4,h2,h3⟩
   ·refine{l0,[],by rw[h1];rfl,λz=>?_,EH,?_}
    ·obtain⟨u,e⟩:=avf l0 z;rw[s9 _ _ (s8 _ _ e)]at uS;cases uS
    unfold uv;rw[h2];exact .nil
   ·exact{l,zs,by rw[h1];rfl,h4,h2,h3}
  ·rintro ys H8 ⟨s8,_,tl⟩ l hl;rw[ag,O5,bu]at tl;have s9:=s8.trans (aN hl (.lst ys));have PR:upd H8 l (.lst ys) l=some (.lst ys):=aw;have tl9:=GL tl (aN hl (.lst ys));have lmd:l≠md:=λz=>by rw[z,s8 _ _ vR]at hl;cases hl
   have h7l:H7 l=none:=by
    cases e:H7 l with
    |none=>rfl
    |some u=>
     have:Hf l=some u:=by rw[<-U9,ax lmd];exact e
     rw[s8 _ _ this]at hl;cases hl
   generalize (upd H8 l (.lst ys))=H9 at s9 PR tl9⊢;refine{o,um,s9 _ _ vR,?_};have sF:bD H7 (upd H9 md um):=λb u e=>by
    by_cases z:b=md
    ·rw[z,Iq]at e;cases e;rw[z,aw]
    ·rw[ax z];exact s9 _ _ (by rw[<-U9,ax z];exact e)
   have nt9:hE H9 md:=λxs q=>by have e9:=s9 _ _ vR;rcases q with q|⟨o',q⟩<;>rw[e9]at q<;>cases q;exact Fy xs (.inl Iq)
   have sb9:SB md H9 (upd H9 md um):=λb u n e=>by rw[ax n];exact e
   have tlF:yp K (upd H9 md um) (td::md::ex) fs kept a ys maps:=GN tl9 (λb u n e=>sb9 b u (λz=>n (by rw[z];exact az _ aA)) e) (sb9.tp nt9);have Vb:H6 l=none:=s7.free h7l;have Qd:H l=none:=by
    cases e:H l with
    |none=>rfl
    |some u=>
     by_cases z:l=td
     ·obtain⟨_,h⟩:=QF.at_.some;rw[z,h]at Vb;cases Vb
     ·rw[lK _ _ z (Dk _ _ e)]at Vb;cases Vb
   exact k l ys _ (((SB.same Dk).trans lK).trans (SB.same (s7.trans sF))) Qd (by rw[ax lmd];exact PR) (ux.same sF) tlF
 refine{_,rfl,_,rfl,self,C,dx,_,_,rfl,nW.ins,O.c,O.fo,rfl,td,ky,kvs,_,rfl,rfl,ck.at_,key (eA.refl _),_,rfl,?_};refine gZ (λc=>?_) (λc=>?_)
 ·have hv:valN kvs (uI a (jl kept a.2))=none:=by simpa using c
  refine{_,rfl,self,C,dx,_,_,rfl,nW.ins,O.c,O.tables,rfl,_,rfl,_,_,_,_,rfl,rfl,bq.of (Dk _ _ hp),rfl,tb,fs,a.1,rfl,nW.tab,λrl rys H6 s6 adw uQ Lh=>?_};have lH:=nW.same s6;have zE:=Dk.trans s6;refine{_,rfl,_,_,_,_,rfl,rfl,bq.of (zE _ _ hp),rfl,_,rfl,_,rfl,rl,t,kn,fr,rys,dbT fs a.1,a.2,jl kept a.2,fR kept a.2,rfl,bw.of uQ,Lh,zE _ _ ht,bw.of (s6 _ _ ML),bw.of (s6 _ _ hf5),?_,λr hr=>?_,by lia,by lia,?_,λz hz=>(bJ.mp hz).1,λz hz=>(uk (bJ.mp hz).1).resolve_left (λh=>by cases h),λd H7 s7 jm tv=>?_}
  ·exact aF (C4 _) (aF (nW.tab.good a.1).1 (by decide))
  ·obtain⟨_,h2,h3⟩:=(nW.tab.good a.1).2 r ((iw _ _).mp hr);exact{by lia,λz hz=>vB (h3 z hz)}
  ·have:=Cq a.2;exact aF (dC _ _) ∅
  have ux:=lH.same s7;have TU:=s6.trans s7;have ck7:=ck.same TU;have av:∀b∈td::md::ex,H6 b≠none:=λb hb=>by
   rcases aE.mp hb with rfl|hb
   ·obtain⟨_,h⟩:=ck.at_.some;rw[s6 _ _ h];simp
   ·rcases aE.mp hb with rfl|hb
    ·obtain⟨_,h1,_⟩:=lH.vH;obtain⟨_,h⟩:=h1.some;rw[h];simp
    ·obtain⟨_,h⟩:=hex b hb;rw[zE _ _ h];simp
  refine{_,rfl,self,C,dx,_,_,rfl,ux.ins,O.c,O.fo,rfl,_,rfl,td,ky,kvs,_,rfl,rfl,ck7.at_,key (eA.same TU),by lia,?_};have tv2:gG P w K H7 (td::md::ex) d (Tx fs a (jl kept a.2)):=by show gG P w K H7 (td::md::ex) d (AskP.fo _ _ _ ((dX a.2).filter λt=>decide (t∉jl kept a.2)));rw[Vc];exact tv _ av
  exact go _ _ d ((SB.same TU).trans λb u n e=>by rw[ax n];exact e) (ck7.add aA (key (eA.same TU)) tv2) (aF uC ∅) (by rw[pz,ay rfl])
 ·obtain⟨v,hv⟩:=Option.ne_none_iff_exists'.mp (show ¬valN kvs (uI a (jl kept a.2))=none by simpa using c);obtain⟨d,rfl,_⟩:=ck.all _ _ _ hv;exact go H5 kvs d (λ_ _ _ e=>e) ck ∅ hv
def g6.mono(x:g6 P w K C H self dx tb kl md td ex fs kept maps n)(l:n<=m):g6 P w K C H self dx tb kl md td ex fs kept maps m:=
 {x.ins,x.tab,x.wY,x.vH,let⟨kvs,h1,h2⟩:=x.zk;{kvs,h1,aF h2 l},x.nm,x.nt,x.ke}
def AA(h:nE H v a)(s:SB td H H')(nt:hE H td):nE H' v a:=by obtain⟨p,t,e,h1,h2⟩:=h;exact{p,t,e,s _ _ (λz=>nt _ (.inl (by rw[<-z];exact h1))) h1,s _ _ (λz=>nt _ (.inl (by rw[<-z];exact h2))) h2}
def Eb(h:eI H vs as)(s:SB td H H')(nt:hE H td):eI H' vs as:=by
 induction h with
 |nil=>exact .nil
 |cons h _ ih=>exact .cons (AA h s nt) ih
def g6.KU(x:g6 P w K C H self dx tb kl md td ex fs kept maps n):hE H td/\∀l,H td≠some (.lst l):=by obtain⟨_,c0,_⟩:=x.zk;exact{c0.at_.p6,c0.at_.t6}
inductive NR(P:Program)(w:World)(K:Frag)(C:Addr)(vs:List V)(H:Hp)(Q:VK)(_x3:XK):Prop
 |mk (self l dx tb kl md td:Addr) (ex:List Addr) (fs:List En) (kept:List Str) (maps:Cm) (n:Nat) (ys:List V) (ats:List (Str×List Str)) (_:vs=[.ref self,.ref l]) (_:g6 P w K C H self dx tb kl md td ex fs kept maps n) (_:H l=some (.lst ys)) (_:eI H ys ats) (_:(∀a∈ats,FinA a)) (_:0<ats.length) (_:ats.length<=100) (_:Ef kept maps) (_:n+100<=1000000) (_:(∀b∈ex,b≠td/\∃u,H b=some u)) (_:∀(i:Nat)(H':Hp),i<ats.length->SB td H H'->g6 P w K C H' self dx tb kl md td ex fs kept maps (n+100)->Q (.int i) H')
structure Db6(P:Program)(w:World)(K:Frag)(mg:Str->Option Value)(base:Heap)(C:Addr):Prop where
 iE:qE P w K mg base C 5 "tails_of_maps" ["self","atom"] (LY P w K C)
def gC:cv ["self","atoms","best","fewest","place","atom","count"] ["self","atoms"] (bI qT):=jE (by decide+kernel)
def Wj(F:fb K "best_place" "Asking.best_place" qT f fd)(T:Txt K mg)(O:CU K C)(D:Db6 P w K mg base C):c6 P w K mg base fD 6 f fd ["self","atoms"] (NR P w K C):=by
 refine F.ok gC (λ_ _ _ _ h=>by cases h;subst_vars;rfl) (λc7 A outer s H vs Q E hr h=>?_);obtain⟨self,l,dx,tb,kl,md,td,ex,fs,kept,maps,n,ys,ats,rfl,st,hl,oH,fa,l0,l1,mo,hn,hex,k⟩:=h;have hu:=my hr;have hN:=vT hr;have cC:=O.c;refine{_,(aO (uE (ir (eK aV Oo)) (lL rfl (cK (kA 2 gC) (cK (kA 3 gC) iD))))
   (aO (hG bZ rfl (KJ rfl T.BG (cw (pv 1))) (lL rfl (cK (kA 4 gC) (cK (kA 5 gC) iD)))
   (aO (gk 6 gC (cQ (Ta rfl) rfl T.aa0 (by decide+kernel) (cw (jq rfl (eG (fs:=[]) (fr:=[])) (gn (KZ cC D.iE hr (pv 0) (cw (pv 5)) ∅)) (λ_ _ _ _=>(cQ (As (K:=K)) rfl T.jS cH (cw (pv 0))))))))
   (aO (ka (PW.pt (Ue (fH Yc (pv 3) Oo (iu _)) (Of (fH Uj (pv 6) (pv 3) (iu _))))) (bp (X6 (i:=2) (j:=3) rfl gC.nd rfl rfl (by decide) rfl rfl (eK (pv 4) (pv 6)) rfl)) gP)
   (bp (ka (fH Mi (pv 6) (cQ QI rfl T.jS cH (cw (lM (pv 0) rfl))) (iu _)) (bp (cL (pv 4))) gP)))))
   (bp (cL (pv 2))))),?_}
 have ly:ys.length=ats.length:=bh oH;obtain⟨Yh,Yn⟩:=st.KU;have uS:∀{H':Hp},SB td H H'->H' l=some (.lst ys):=λsb=>sb _ _ (λz=>Yn _ (by rw[<-z];exact hl)) hl;refine{by show 2<=sizeLine;decide,λp hp=>{p,_,rfl,bq.of aw,rfl,_,_,rfl,_,_,rfl,rfl,?_}};have s1:=aN hp (.tup [V.int 0,V.cb]);refine{_,rfl,l,rfl,{_,bw.of (s1 _ _ hl)},IY (K:=K) (a:=l) (xs:=ys)
  (λi Z H2=>∃(b:Nat)(fw:V)(x4 x5 x6:Option V),Z=[some (.ref self),some (.ref l),some (.int b),some fw,x4,x5,x6]/\SB td H H2/\g6 P w K C H2 self dx tb kl md td ex fs kept maps (n+i)/\b<ats.length/\(fw=.cb\/∃c,fw=.int c))
  {0,.cb,none,none,none,rfl,SB.same s1,st.same s1,l0,.inl rfl} (λi Z H2 _ hq=>by(obtain⟨_,_,_,_,_,_,sb,_⟩:=hq;exact bw.of (uS sb))) ?_ ?_}
 ·rintro i x q Z H2 hx ⟨b,fw,x4,x5,x6,rfl,Di,pB,hb,UZ⟩ hq;obtain⟨a,ha,hxa⟩:=Paired.at oH hx;have bR:i<ats.length:=(ar.mp ha).1;have s3:=aN hq (.tup [V.int i,x]);refine{q,_,rfl,bq.of aw,rfl,_,_,rfl,_,_,rfl,rfl,?_};have Fl:=Di.trans (SB.same s3);have tw:=pB.same s3;generalize (upd H2 q (.tup [V.int i,x]))=H3 at s3 Fl tw⊢;obtain⟨ap,at_,rfl,_⟩:=id hxa;refine{_,rfl,self,dx,_,rfl,tw.ins,rfl,_,rfl,self,ap,dx,tb,kl,md,td,ex,fs,kept,maps,n+i,a,rfl,tw,AA hxa Fl Yh,fa a (aG ha),mo,by lia,λb hb=>{_,Fl _ _ (hex b hb).1 (hex b hb).2.choose_spec},λtl tys H4 sb4 Sh Ze vC kN=>?_};have Uy:tys.length=maps.length:=bh kN;refine{tl,rfl,{_,bw.of Ze},kR (K:=K) (a:=tl) (xs:=tys) (λj zs H5=>H5=H4/\j<=maps.length/\zs=((maps.take j).map λx=>((uv fs kept a x.1).length:Int)).map V.int) (by rw[Uy];exact cS mo.fL (by decide)) {rfl,aR _,rfl} ?_ ?_ ?_}
  ·rintro j zs H5 hj ⟨rfl,_,rfl⟩;refine{bw.of Ze,?_};rw[ag,ag,aU];lia
  ·rintro j x zs H5 N hx5 ⟨rfl,hj,rfl⟩ qv;obtain⟨y,hy,t,zz,rfl,_,ht,Lh⟩:=Paired.at' kN hx5;have oI:j<maps.length:=(ar.mp hy).1;refine h9 ?_;refine{_,rfl,_,_,rfl,.inl {_,bw.of ht,rfl},qv _ _ {rfl,oI,?_}};rw[bx,hy,aH,aH,Lh.length];rfl
  rintro zs H5 ⟨rfl,_,rfl⟩ sl hsl;rw[Uy,bu];refine{sl,_,rfl,bw.of aw,?_};have s6:=aN hsl (.lst ((maps.map λx=>((uv fs kept a x.1).length:Int)).map V.int));have lH:=vC.same s6;have lK:=Fl.trans (sb4.trans (SB.same s6));generalize (upd H5 sl (.lst ((maps.map λx=>((uv fs kept a x.1).length:Int)).map V.int)))=H6 at s6 lH lK⊢;generalize (maps.map λx=>((uv fs kept a x.1).length:Int)).sum=cn;dsimp only[rQ];refine G8 λNX Z9=>?_;have go:∀(b:Nat)(fw:V)(H7:Hp),b<ats.length->(fw=.cb\/∃c,fw=.int c)->SB td H H7->g6 P w K C H7 self dx tb kl md td ex fs kept maps (n+i+1)->NX [some (.ref self),some (.ref l),some (.int b),some fw,some (.int i),some (.ref ap),some (.int cn)] H7:=λb fw H7 hb UZ zw ux=>by
   refine Z9 _ _ ?_;obtain⟨qh,FT,em⟩:=ux.vH;refine{_,rfl,_,rfl,self,C,dx,_,_,rfl,ux.ins,O.c,O.maps,rfl,md,qh,rfl,FT,_,_,rfl,rfl,_,rfl,?_};refine gZ (λc=>?_) (λc=>?_)
   ·exact{_,rfl,k i H7 bR zw (ux.mono ∅)}
   ·exact⟨b,fw,_,_,_,rfl,zw,ux,hb,UZ⟩
  rcases UZ with rfl|⟨c,rfl⟩
  ·exact{_,rfl,rfl,_,rfl,Im (Im {_,rfl,_,rfl,_,_,rfl,go i _ H6 bR (.inr ⟨_,rfl⟩) lK lH})}
  ·refine{_,rfl,rfl,_,rfl,Cw {_,rfl,_,rfl,_,_,rfl,rfl,_,rfl,gZ (λc=>?_) (λc=>?_)}}
   ·exact{_,rfl,_,rfl,_,_,rfl,go i _ H6 bR (.inr ⟨_,rfl⟩) lK lH}
   ·exact go b _ H6 hb (.inr ⟨_,rfl⟩) lK lH
 ·rintro Z H2 ⟨b,fw,x4,x5,x6,rfl,Di,pB,hb,UZ⟩;exact{_,rfl,k b H2 hb Di (pB.mono ∅)}
def HI(h:X.K=K:=by rfl):jT X (binaryOp .Add) (Gr K):=h▸uq
abbrev zY(fs:List En)(kept:List Str)(a:Str×List Str)(maps:Cm):Cm:=AskP.longer maps (dbT fs a.1) a.2 kept (jl kept a.2) (fR kept a.2)
def RZ{maps:Cm}(h:maps[i]?=some x):zY fs kept a (maps.take (i+1))=zY fs kept a (maps.take i)++(uv fs kept a x.1).map λt=>(x.1++t,x.2):=by unfold zY AskP.longer;rw[bx,h,cq,y7,jc,List.flatMap_nil,cP];rfl
def Ws(h:y∈zY fs kept a maps):∃x∈maps,∃t∈uv fs kept a x.1,y=(x.1++t,x.2):=by unfold zY AskP.longer at h;obtain⟨x,hx,h⟩:=dy.mp h;obtain⟨t,ht,rfl⟩:=au.mp h;exact⟨x,hx,t,ht,rfl⟩
def Kc(tb:gH K H p fs)(h:t∈uv fs kept a v):t.length=(fR kept a.2).length/\pO t:=by
 unfold uv AskP.fo at h;obtain⟨r,hr,rfl⟩:=au.mp h;obtain⟨h1,h2⟩:=bJ.mp hr;rw[cE]at h2;have le:r.length=a.2.length:=by have:=h2.1;unfold AskP.mx at this;rw[cE]at this;exact bA this.1
 obtain⟨_,_,h3⟩:=(tb.good a.1).2 r ((iw _ _).mp h1);exact{ag _,NT (λz hz=>vB (h3 z hz)) le λz hz=>(uk (bJ.mp hz).1).resolve_left λh=>by cases h}
theorem Bb(tb:gH K H p fs):∀{maps:Cm},(zY fs kept a maps).length<=7*maps.length
 |[]=>ak _
 |x::maps=>by have h1:=Bb tb (kept:=kept) (a:=a) (maps:=maps);have h2:=Kd tb kept a x.1;unfold zY AskP.longer at h1⊢;unfold uv at h2;rw[jc,aK,ag,aZ];lia
def fY(ts:List Str):(dX ts).Nodup:=by
 have gen:∀(l acc:List Str),acc.Nodup->(l.foldl step acc).Nodup:=by
  intro l
  induction l with
  |nil=>intro acc h;exact h
  |cons t l ih=>
   intro acc h;refine ih _ ?_;unfold step;split
   ·split
    ·exact h
    ·next c=>exact fQ.mpr {h,fM _ _,λa ha b hb=>by rw[aC.mp hb];exactλz=>c (by rw[<-z];exact ha)}
   ·exact h
 exact gen ts [] .nil
def JN(ts:List Str)(nd:kept.Nodup):(kept++fR kept ts).Nodup:=
 fQ.mpr {nd,(fY ts).sublist (fT),λx hx y hy e=>by have:=(bJ.mp hy).2;rw[eW]at this;exact this (by rw[<-e];exact hx)}
def mS(h:Paired (v3 K H) zs m)(t:eA H H'):Paired (v3 K H') zs m:=by
 induction h with
 |nil=>exact .nil
 |cons h _ ih=>exact .cons (HD h t) ih
theorem qZ:∀{aad m₁:List α}{aac m₂:List β},Paired F aad aac->Paired F m₁ m₂->Paired F (aad++m₁) (aac++m₂)
 |_,_,_,_,.nil,h=>h
 |_,_,_,_,.cons q t,h=>.cons q (qZ t h)
def gG.DA(x:gG P w K H av d f)(h:H me=some (.ins C dx l0)):gG P w K H (me::av) d f:=by
 obtain⟨h0,kvs,h1,h2⟩:=x;refine{λz=>?_,kvs,h1,λzs=>(h2 zs).imp id λ⟨l,ys,a,n,b,c⟩=>{l,ys,a,λz=>?_,b,c}}
 ·rcases aE.mp z with z|z
  ·exact h1.DA (by rw[z];exact h)
  ·exact h0 z
 ·rcases aE.mp z with z|z
  ·rw[z,h]at b;cases b
  ·exact n z
def iP.to(x:iP P w K H td av fs kvs)(t:eA H H')(e:H' td=H td)(h:∀d f,gG P w K H av d f->gG P w K H' av' d f):iP P w K H' td av' fs kvs:=
 {x.at_.tp t e,λa known v q=>by obtain⟨d,e1,e3⟩:=x.all a known v q;exact{d,e1,h _ _ e3}}
inductive NN(P:Program)(w:World)(K:Frag)(C:Addr)(vs:List V)(H:Hp)(Q:VK)(_x3:XK):Prop
 |mk (self at_ nd dx tb kl md td:Addr) (ex:List Addr) (fs:List En) (kept:List Str) (maps:Cm) (n:Nat) (a:Str×List Str) (need:Str->Bool) (_:vs=[.ref self,.ref at_,.ref nd]) (_:g6 P w K C H self dx tb kl md td ex fs kept maps n) (_:nE H (.ref at_) a) (_:FinA a) (_:Ef kept maps) (_:kept.length<=90) (_:n<=900000) (_:aay H nd (λz=>need z=true)) (_:nd≠td) (_:(∀b∈ex,b≠td/\∃u,H b=some u)) (_:∀(qK yG:Addr)(H':Hp),(∀b u,b≠td->b≠self->H b=some u->H' b=some u)->g6 P w K C H' self dx tb qK yG td ex fs ((kept++fR kept a.2).filter need) (AskP.dj (zY fs kept a maps) (kept++fR kept a.2) ((kept++fR kept a.2).filter need)) (n+1)->Q .cb H')
structure Dk6(P:Program)(w:World)(K:Frag)(mg:Str->Option Value)(base:Heap)(C:Addr):Prop where
 ic:qE P w K mg base C 4 "fresh_unknowns" ["self","atom"] (Ca P w K C)
 iE:qE P w K mg base C 5 "tails_of_maps" ["self","atom"] (LY P w K C)
 dj:eC P w K mg base 3 "narrowed" ["counted_maps","unknowns","terms"] (xE P w K)
def mM:cv ["self","atom","needed","bound","longer","counted_map","tails","given","count"] ["self","atom","needed"] (bI Cb):=jE (by decide+kernel)
def Wf(F:fb K "take" "Asking.take" Cb f fd)(T:Txt K mg)(O:CU K C)(D:Dk6 P w K mg base C):c6 P w K mg base fD 6 f fd ["self","atom","needed"] (NN P w K C):=by
 refine F.ok mM (λ_ _ _ _ h=>by cases h;subst_vars;rfl) (λc7 A outer s H vs Q E hr h=>?_);obtain⟨self,at_,nd,dx,tb,kl,md,td,ex,fs,kept,maps,n,a,need,rfl,st,ha,fa,mo,lk,hn,ZA,Yr,hex,k⟩:=h;have hu:=my hr;have hN:=vT hr;have cC:=O.c;refine{_,(aO (gk 3 mM (dh Oy (lM (pv 0) rfl) (KZ cC D.ic hr (pv 0) (cw (pv 1)) ∅)))
   (aO (gk 4 mM (hJ ju))
   (aO (RD (hG bZ rfl (V6 rfl T.Gv (eK (Ft (lM (pv 0) rfl)) (KZ cC D.iE hr (pv 0) (cw (pv 1)) ∅))) (lL rfl (cK (kA 5 mM) (cK (kA 6 mM) iD)))
   (aO (uE (pv 5) (lL rfl (cK (pD (i:=7) mM.nd rfl (Or.inr rfl)) (cK (pD (i:=8) mM.nd rfl (Or.inr rfl)) iD))))
   (bp (jI (mn cx ng m8 FA (pv 4) (cw (jq rfl (eG (fs:=["given","count"]) (fr:=[7,8])) (gn (pv 6)) (λ_ _ _ _=>(ir (eK (dh (HI (K:=K)) (pv 1) (pv 0)) (pv 2))))))))))))
   (aO (wM (pv 0) (zL rfl (eG (fs:=["needed"]) (fr:=[2])) (gn (pv 3)) (λ_ _ _ _=>(Hm (HC hu (pv 0) (pv 1)))) (λ_ _ _ _=>(pv 0))) rfl)
   (bp (wM (pv 0) (cl D.dj hr (tE (pv 4) (pv 3) (lM (pv 0) rfl))) rfl)))))),?_}
 refine{_,rfl,self,C,dx,_,_,rfl,st.ins,O.c,O.kept,rfl,_,rfl,self,dx,_,rfl,st.ins,rfl,_,rfl,self,at_,dx,tb,kl,md,td,ex,fs,kept,maps,n,a,rfl,st,ha,fa,λfr H1 s1 hf0 xf=>?_};have lu:(fR kept a.2).length<=4:=aF (dC _ _) (aF (Cq a.2) fa.1);have lb:(kept++fR kept a.2).length<=100:=by rw[aK];lia
 refine{kl,fr,_,_,rfl,rfl,s1 _ _ st.wY,xf,?_,λbd hbd=>?_}
 ·rw[ag,ag,<-aK];exact bg (bH ∅)
 have s2:=aN hbd (.lst (kept.map V.str++(fR kept a.2).map V.str));have P4:upd H1 bd (.lst (kept.map V.str++(fR kept a.2).map V.str)) bd=some (.lst ((kept++fR kept a.2).map V.str)):=by rw[aw,aH]
 have pC:=s1.trans s2;generalize (upd H1 bd (.lst (kept.map V.str++(fR kept a.2).map V.str)))=H2 at s2 P4 pC⊢;refine{by show 0<=sizeLine;decide,λlg PQ=>?_};have s3:=aN PQ (.lst ([]:List V));have PV:upd H2 lg (.lst ([]:List V)) lg=some (.lst []):=aw;have vE:=pC.trans s3;have lg0:H lg=none:=pC.free PQ;have blg:bd≠lg:=aX P4 PQ;have hb3:=s3 _ _ P4;have pB:=st.same pC;have tw:g6 P w K C (upd H2 lg (.lst ([]:List V))) self dx tb kl md td (lg::ex) fs kept maps n:=by
  obtain⟨kvs,ck,l⟩:=pB.zk;have c3:iP P w K H2 td (td::md::lg::ex) fs kvs:={ck.at_,λa known v h=>by
   obtain⟨d,e,tv⟩:=ck.all a known v h;exact{d,e,(tv.more PQ).less λb hb=>by simp only[aE]at hb⊢;rcases hb with h|h|h|h<;>simp[h]}}
  have x:=pB.same s3;exact{x.ins,x.tab,x.wY,x.vH,{kvs,c3.same s3,l},x.nm,x.nt,λz=>(aE.mp z).elim (aX pB.wY PQ) pB.ke}
 generalize (upd H2 lg (.lst ([]:List V)))=H3 at s3 PV vE hb3 tw⊢;obtain⟨nt3,nl3⟩:=tw.KU;obtain⟨ab5,hm3,_⟩:=id tw.vH;have Yo:∀u v,H3 md≠some (.eO u v):=λu v e=>by rcases hm3.1 with q|⟨_,q⟩<;>rw[e]at q<;>cases q
 refine{md,Yo,?_};refine{_,rfl,self,C,dx,_,_,rfl,tw.ins,O.c,O.maps,rfl,md,ab5,rfl,hm3,λvw Pu=>?_};have s4:=aN Pu (.ext (tR vw md));have hv4:upd H3 vw (.ext (tR vw md)) vw=some (.ext (tR vw md)):=aw;have vC:=tw.same s4;have wJ:=vE.trans s4;have vtd:vw≠td:=λz=>by obtain⟨_,c,_⟩:=tw.zk;obtain⟨_,h⟩:=c.at_.some;rw[z,h]at Pu;cases Pu
 have yL:=s4 _ _ PV;have Z1:=s4 _ _ hb3;generalize (upd H3 vw (.ext (tR vw md)))=H4 at s4 hv4 vC wJ yL Z1⊢;obtain⟨nt4,Uq⟩:=vC.KU;refine{_,rfl,self,dx,_,rfl,vC.ins,rfl,_,rfl,self,at_,dx,tb,kl,md,td,lg::ex,fs,kept,maps,n,a,rfl,vC,rS ha wJ,fa,mo,by lia,λb hb=>(aE.mp hb).elim (λz=>{.lst [],by rw[z];exact yL}) λz=>{_,wJ _ _ (hex b z).2.choose_spec},λtl tys H5 Fj Sh Sg nW kN=>?_};obtain⟨qh,vS,em⟩:=id nW.vH;obtain⟨um,Iq⟩:=vS.some;have tH:H5 lg=some (.lst []):=Fj _ _ (λz=>Uq _ (by rw[<-z];exact yL)) yL;have hb5:=Fj _ _ (λz=>Uq _ (by rw[<-z];exact Z1)) Z1;have tlg:tl≠lg:=λz=>by rw[z,yL]at Sh;cases Sh
 refine{vw,md,um,tl,qh,tys,rfl,Fj _ _ vtd hv4,Iq,vS,bw.of Sg,λo=>?_};have Uy:tys.length=maps.length:=bh kN;have O5:qh.length=maps.length:=by have:=cu List.length em;unfold qN at this;rw[ag,ag]at this;exact this
 have Fy:=vS.p6;have Dh:SB md H5 (upd H5 md (.eO o um)):=λb u n e=>by rw[ax n];exact e
 have GK:=Dh.tp Fy;have nlm:∀{b:Addr}{l:List V},H5 b=some (.lst l)->b≠md:=λ{b l} e z=>vS.t6 l (by rw[<-z];exact e);have BQ:=Dh _ _ (nlm tH) tH;have Zd:=Dh _ _ (nlm Sg) Sg;have Zb:=GN kN (λb u n e=>Dh b u (λz=>n (by rw[z];exact az _ aA)) e) GK;have vR:upd H5 md (.eO o um) md=some (.eO o um):=aw;have gv:∀(i:Nat)(q:NK×Addr×V),qh[i]?=some q->∃x,maps[i]?=some x/\q.2.2=.int x.2/\bq K (upd H5 md (.eO o um)) q.2.1 (x.1.map V.str):=λi q hq=>by
  have e1:(qN maps)[i]?=some (q.1,q.2.2):=by rw[<-em,aJ,hq];rfl
  unfold qN at e1;rw[aJ]at e1;obtain⟨x,e2,e3⟩:=a9.mp e1;have e4:dH x.1=q.1:=cu Prod.fst e3;have e5:V.int x.2=q.2.2:=cu Prod.snd e3;have:=(vS.2 q (aG hq)).1;rw[<-e4]at this;exact{x,e2,e5.symm,pW (DB this) GK}
 generalize U9:upd H5 md (.eO o um)=Hf at BQ Zd Zb vR gv GK⊢;have Uk:hE Hf lg:=pE BQ;refine SN (K:=K) (d:=md) (l:=tl) (o:=o) (u:=um) (kvs:=qh.map λp=>(V.ref p.2.1,p.2.2)) (ys:=tys)
  (λi Z H6=>∃x5 x6 x7 x8:Option V,Z=[some (.ref self),some (.ref at_),some (.ref nd),some (.ref bd),some (.ref lg),x5,x6,x7,x8]/\i<=maps.length/\SB lg Hf H6/\∃zs,H6 lg=some (.lst zs)/\Paired (v3 K H6) zs (zY fs kept a (maps.take i))) (by rw[ag,O5,Uy])
  {none,none,none,none,rfl,aR _,λ_ _ _ e=>e,[],BQ,.nil} (λi Z H6 _ ⟨_,_,_,_,_,_,sb,_⟩=>{sb _ _ (λz=>by rw[z,BQ]at vR;cases vR) vR,bw.of (sb _ _ tlg Zd)}) ?_ ?_
 ·rintro i kv y p q Z H6 mC hy ⟨x5,x6,x7,x8,rfl,hi,lK,zs,uR,Pp⟩ hq hp;rw[aJ]at mC;obtain⟨c,hc,rfl⟩:=a9.mp mC;obtain⟨x,hx,ex,hg⟩:=gv i c hc;have bR:i<maps.length:=(ar.mp hx).1;obtain⟨x',xa,t,zz,rfl,nt',ht,Lh⟩:=Paired.at' Zb hy;rw[hx]at xa;cases xa;have abA:t≠lg:=λz=>nt' (by rw[z];simp);dsimp only at hp hq⊢;rw[ex]at hp⊢;have s7:=(aN hq (.tup [V.ref c.2.1,V.int x.2])).trans (aN hp (.tup [V.ref q,V.ref t]));have Lj:upd (upd H6 q (.tup [V.ref c.2.1,V.int x.2])) p (.tup [V.ref q,V.ref t]) q=some (.tup [V.ref c.2.1,V.int x.2]):=(aN hp _) _ _ aw;refine{p,_,rfl,bq.of aw,rfl,_,_,rfl,_,_,rfl,rfl,?_};have zw:=lK.trans (SB.same s7);have yK:=s7 _ _ uR;have UI:=mS Pp (eA.same s7);generalize (upd (upd H6 q (.tup [V.ref c.2.1,V.int x.2])) p (.tup [V.ref q,V.ref t]))=H7 at s7 Lj zw yK UI⊢;have tp7:=zw.tp Uk;have hg7:=pW hg tp7;have Lf:=zw _ _ abA ht;have PD:=qU Lh tp7;have lzz:zz.length=(uv fs kept a x.1).length:=Lh.length;have l7:=Kd st.tab kept a x.1;refine{_,rfl,q,_,rfl,bq.of Lj,rfl,_,_,rfl,_,_,rfl,rfl,?_};refine{_,rfl,.inl {rfl,_,bw.of yK},_,rfl,t,rfl,{_,bw.of Lf},kR (K:=K) (a:=t) (xs:=zz) (λj ws H8=>bD H7 H8/\j<=zz.length/\Paired (v3 K H8) ws (((uv fs kept a x.1).take j).map λt=>(x.1++t,x.2))) (bH ∅) {λ_ _ e=>e,aR _,.nil} ?_ ?_ ?_}
  ·rintro j ws H8 hj ⟨s8,hj2,hw⟩;refine{bw.of (s8 _ _ Lf),?_};rw[bh hw,ag,aU];lia
  ·rintro j v ws H8 N hv ⟨s8,hj,hw⟩ qv;obtain⟨u,se,ua,rfl,hua⟩:=Paired.at' (ip PD s8) hv;have oI:j<zz.length:=(ar.mp hv).1;refine h9 ?_;have hg8:=dF hg7 s8;have fin:∀(r:Addr)(H9:Hp),bD H8 H9->bq K H9 r ((x.1++u).map V.str)->∀w9,H9 w9=none->N (ws++[.ref w9]) (upd H9 w9 (.tup [V.ref r,V.int x.2])):=λr H9 s9 PB w9 FO=>by have tD:=s9.trans (aN FO (.tup [V.ref r,V.int x.2]));refine qv _ _ {s8.trans tD,oI,?_};rw[bx,se,cq,aH];exact(mS hw (eA.same tD)).snoc {w9,r,rfl,bq.of aw,dF PB (aN FO _)}
   refine{_,rfl,_,rfl,c.2.1,ua,_,_,rfl,rfl,hg8,hua,?_,λe=>?_,λ_ e=>?_,λ_ _ r PF=>?_}
   ·rw[ag,ag];have h1:=(mo.row x (aG hx)).1;have h2:=(Kc st.tab (aG se)).1;exact bg (bH ∅)
   ·have e':x.1=[]:=lX.mp e;exact{_,rfl,by show 2<=sizeLine;decide,λw9 FO=>fin ua H8 (λ_ _ e=>e) (by rw[e'];exact hua) w9 FO}
   ·have e':u=[]:=lX.mp e;exact{_,rfl,by show 2<=sizeLine;decide,λw9 FO=>fin c.2.1 H8 (λ_ _ e=>e) (by rw[e',cP];exact hg8) w9 FO}
   ·exact{_,rfl,by show 2<=sizeLine;decide,λw9 FO=>fin r _ (aN PF _) (by rw[aH];exact bq.of aw) w9 FO}
  rintro ws H8 ⟨s8,_,hw⟩ cl yN;rw[lzz,bu]at hw;have s9:=s8.trans (aN yN (.lst ws));have lws:ws.length<=7:=by rw[bh hw,ag];exact l7
  have lzs:zs.length<=7*maps.length:=by rw[bh Pp];refine aF (Bb st.tab) ?_;rw[aU];lia
  have lm:=mo.fL;refine{lg,cl,zs,ws,rfl,rfl,s9 _ _ yK,aw,bg (cS (show zs.length+ws.length<=4000000 by lia) (by decide)),?_};have t10:eA (upd H8 cl (.lst ws)) (upd (upd H8 cl (.lst ws)) lg (.lst (zs++ws))):=eA.upd (pE (s9 _ _ yK));refine{_,_,_,_,rfl,bR,λb u n e=>?_,_,aw,?_}
  ·rw[ax n];exact s9 _ _ (zw _ _ n e)
  ·rw[RZ hx];exact qZ (mS UI ((eA.same s9).trans t10)) (mS hw ((eA.same (aN yN (.lst ws))).trans t10))
 ·rintro Z H6 ⟨x5,x6,x7,x8,rfl,_,lK,zs,uR,Pp⟩;rw[ag,O5,bu]at Pp;have mlg:md≠lg:=λz=>by rw[z,BQ]at vR;cases vR
  have hm6:=lK _ _ mlg vR;refine{o,um,hm6,?_};have K5:SB lg H5 (upd H6 md um):=λb u n e=>by
   by_cases z:b=md
   ·rw[z,Iq]at e;cases e;rw[z,aw]
   ·rw[ax z];exact lK _ _ n (by rw[<-U9,ax z];exact e)
  have nt6:hE H6 md:=λxs q=>by rcases q with q|⟨o',q⟩<;>rw[hm6]at q<;>cases q;exact Fy xs (.inl Iq)
  have PR:upd H6 md um lg=some (.lst zs):=by rw[ax (bX mlg)];exact uR
  have yJ:=mS Pp (eA.upd (o:=um) nt6);have Q2:=K5.tp (pE tH);generalize (upd H6 md um)=H9 at K5 PR yJ Q2⊢;have Z0:=K5 _ _ blg hb5;have K0:SB td H H9:=λb u n e=>K5 _ _ (λz=>by rw[z,lg0]at e;cases e) (Fj _ _ n (wJ _ _ e));obtain⟨Yh,Yn⟩:=st.KU;have abB:=st.tab.sb K0 Yh Yn st.nt;obtain⟨kvd,MG,Zz⟩:=ZA;have acR:=K0 _ _ Yr MG;have YU:=K5 _ _ (λz=>by have q:=nW.ins;rw[z,tH]at q;cases q) nW.ins;obtain⟨UA,c5,lc⟩:=nW.zk;have abz:td≠lg:=λz=>c5.at_.t6 _ (by rw[z];exact tH);have c9:iP P w K H9 td (self::td::md::lg::ex) fs UA:=by refine c5.to Q2 ?_ λd f tv=>(tv.fr (λb u n e=>K5 _ _ (λz=>n (by rw[z];simp)) e) Q2).DA YU;obtain⟨u,h⟩:=c5.at_.some;rw[h,K5 _ _ abz h]
  have lbd:((kept++fR kept a.2).map V.str).length=(kept++fR kept a.2).length:=ag _;refine{_,rfl,bd,rfl,{_,bw.of Z0},kR (K:=K) (a:=bd) (xs:=(kept++fR kept a.2).map V.str) (λj ws vh=>vh=H9/\j<=(kept++fR kept a.2).length/\ws=(((kept++fR kept a.2).take j).filter need).map V.str) (by rw[lbd];exact bH ∅) {rfl,aR _,rfl} ?_ ?_ ?_}
  ·rintro j ws vh hj ⟨rfl,_,rfl⟩;refine{bw.of Z0,?_};rw[ag];exact aF (dC _ _) (by rw[aU];lia)
  ·rintro j v ws vh N hv ⟨rfl,hj,rfl⟩ qv;obtain⟨z,hz,rfl⟩:=jM hv;have oI:j<(kept++fR kept a.2).length:=(ar.mp hz).1;refine{_,rfl,_,rfl,nd,_,rfl,oA.k (k:=Sum.inr z) acR,_,rfl,?_};have en:((kept++fR kept a.2).take (j+1)).filter need=((kept++fR kept a.2).take j).filter need++if need z=true then[z]else[]:=by rw[bx,hz,cq,jX];congr 1;cases c:need z<;>simp[c]
   refine gZ (λc=>{_,rfl,qv _ _ {rfl,oI,?_}}) (λc=>qv _ _ {rfl,oI,?_})
   ·rw[en,ay ((Zz z).mp c),aH];rfl
   ·rw[en,aq (λq=>c ((Zz z).mpr q)),cP]
  rintro ws vh ⟨rfl,_,rfl⟩ qK Sw;rw[lbd,bu];generalize Ll:(kept++fR kept a.2).filter need=kp;have tD:=aN Sw (.lst (kp.map V.str));have Sx:upd vh qK (.lst (kp.map V.str)) qK=some (.lst (kp.map V.str)):=aw;have vL:=tD _ _ YU;have LW:=abB.same tD;have Vj:=c9.same tD;have EH:=tD _ _ PR;have SE:=tD _ _ Z0;have MC:=mS yJ (eA.same tD);have jn:SB td H (upd vh qK (.lst (kp.map V.str))):=K0.trans (SB.same tD);generalize (upd vh qK (.lst (kp.map V.str)))=Eh at tD Sx vL LW Vj EH SE MC jn⊢;refine{_,rfl,self,C,dx,_,rfl,vL,O.c,O.kept,by show 4<1000;decide,?_};have Yt:∀{b:Addr}{u:HO},Eh b=some u->(∀l,u≠ .ins C dx l)->b≠self:=λ{b u} e n z=>by rw[z,vL]at e;cases e;exact n _ rfl
  have ntS:hE Eh self:=zR vL;have nlS:∀l,Eh self≠some (.lst l):=λl e=>by rw[vL]at e;cases e
  have KS:SB self Eh (upd Eh self (.ins C dx (eM "kept" (.ref qK) [("tables",.ref tb),("kept",.ref kl),("maps",.ref md),("tails",.ref td)]))):=λb u n e=>by rw[ax n];exact e
  have MA:upd Eh self (.ins C dx (eM "kept" (.ref qK) [("tables",.ref tb),("kept",.ref kl),("maps",.ref md),("tails",.ref td)])) self=some (.ins C dx [("tables",.ref tb),("kept",.ref qK),("maps",.ref md),("tails",.ref td)]):=by rw[aw];rfl
  generalize (upd Eh self (.ins C dx (eM "kept" (.ref qK) [("tables",.ref tb),("kept",.ref kl),("maps",.ref md),("tails",.ref td)])))=H12 at KS MA⊢;have tpS:=KS.tp ntS;have nL:∀{b:Addr}{l:List V},Eh b=some (.lst l)->b≠self:=λ{b l} e z=>nlS l (by rw[<-z];exact e);have GP:tb≠self:=λz=>by rw[<-z,LW.at_]at vL;cases vL
  have aaH:=LW.sb KS ntS nlS GP;have Tz:td≠self:=λz=>Vj.at_.DA (by rw[z];exact vL);have Vi:iP P w K H12 td (self::td::md::lg::ex) fs UA:=by refine Vj.fr (λb u n e=>KS _ _ (λz=>n (by rw[z];simp)) e) tpS ?_;obtain⟨u,h⟩:=Vj.at_.some;rw[h,KS _ _ Tz h]
  have ZP:=KS _ _ (nL Sx) Sx;have acT:=KS _ _ (nL EH) EH;have acY:=KS _ _ (nL SE) SE;have Se:=mS MC tpS;have lkp:kp.length<=100:=by rw[<-Ll];exact aF (dC _ _) lb
  have skb:pO (kept++fR kept a.2):=λz hz=>by
   rcases aS.mp hz with hz|hz
   ·exact mo.sok z hz
   ·exact fa.2.2.1 z ((uk (bJ.mp hz).1).resolve_left λh=>by cases h)
  have skp:pO kp:=λz hz=>by rw[<-Ll]at hz;exact skb z (bJ.mp hz).1
  have lm:=mo.fL;refine{_,rfl,_,rfl,_,rfl,self,C,dx,_,_,rfl,MA,O.c,O.kept,rfl,lg,bd,qK,zs,zY fs kept a maps,kept++fR kept a.2,kp,rfl,bw.of acT,Se,bw.of acY,JN a.2 mo.nd,lb,.inl (bw.of ZP),lkp,skp,λy hy=>?_,aF (Bb st.tab) ∅,λyG Eg BC IH rc=>?_}
  ·obtain⟨x,hx,t,ht,rfl⟩:=Ws hy;obtain⟨g1,g2⟩:=mo.row x hx;obtain⟨g3,g4⟩:=Kc st.tab ht;refine{by rw[aK,aK,g1,g3],λz hz=>?_};rcases aS.mp hz with hz|hz
   ·exact g2 z hz
   ·exact g4 z hz
  have MB:=BC _ _ MA;refine{_,rfl,self,C,dx,_,rfl,MB,O.c,O.maps,by show 4<1000;decide,?_};have KF:SB self Eg (upd Eg self (.ins C dx (eM "maps" (.ref yG) [("tables",.ref tb),("kept",.ref qK),("maps",.ref md),("tails",.ref td)]))):=λb u n e=>by rw[ax n];exact e
  have YT:upd Eg self (.ins C dx (eM "maps" (.ref yG) [("tables",.ref tb),("kept",.ref qK),("maps",.ref md),("tails",.ref td)])) self=some (.ins C dx [("tables",.ref tb),("kept",.ref qK),("maps",.ref yG),("tails",.ref td)]):=by rw[aw];rfl
  generalize (upd Eg self (.ins C dx (eM "maps" (.ref yG) [("tables",.ref tb),("kept",.ref qK),("maps",.ref md),("tails",.ref td)])))=HF at KF YT⊢;have Yg:hE Eg self:=zR MB;have nlF:∀l,Eg self≠some (.lst l):=λl e=>by rw[MB]at e;cases e
  have tpF:=KF.tp Yg;have m2s:yG≠self:=λz=>by rw[z,MA]at IH;cases IH
  have m2t:yG≠td:=λz=>by obtain⟨u,h⟩:=Vi.at_.some;rw[z,h]at IH;cases IH
  have ZO:=BC _ _ ZP;have cF:iP P w K HF td (td::yG::ex) fs UA:=by
   have e13:Eg td=H12 td:=by obtain⟨u,h⟩:=Vi.at_.some;rw[h,BC _ _ h]
   have eF:HF td=Eg td:=by obtain⟨u,h⟩:=Vi.at_.some;rw[e13,h,KF _ _ Tz (by rw[e13];exact h)]
   refine Vi.to ((eA.same BC).trans tpF) (by rw[eF,e13]) λd f tv=>(((tv.more IH).same BC).fr (λb u n e=>KF _ _ (λz=>n (by rw[z];simp)) e) tpF).less λb hb=>?_;simp only[aE]at hb⊢;rcases hb with h|h|h<;>simp[h]
  refine k qK yG HF (λb u n1 n2 e=>?_) {YT,(aaH.same BC).sb KF Yg nlF GP,?_,?_,⟨UA,cF,lc⟩,m2t,st.nt,λz=>?_}
  ·exact KF _ _ n2 (BC _ _ (KS _ _ n2 (jn _ _ n1 e)))
  ·rw[Ll];exact KF _ _ (λz=>nlF _ (by rw[<-z];exact ZO)) ZO
  ·rw[Ll];exact rc.c.sb KF Yg m2s
  ·obtain⟨n,u,e⟩:=hex _ z;rw[K0 _ _ n e]at Sw;cases Sw
inductive G2(P:Program)(w:World)(K:Frag)(C:Addr)(vs:List V)(H:Hp)(Q:VK)(_x3:XK):Prop
 |mk (self tb dx:Addr) (fs:List En) (_:vs=[.ref self,.ref tb]) (_:H self=some (.ins C dx [])) (_:gH K H tb fs) (_:∀(kl md td:Addr)(H':Hp),SB self H H'->H td=none->g6 P w K C H' self dx tb kl md td [] fs [] [([],1)] 0->Q .cb H')
def Gg:cv ["self","tables"] ["self","tables"] (bI uz):=jE (by decide+kernel)
def RR(F:fb K "__init__" "Asking.__init__" uz f fd)(T:Txt K mg)(O:CU K C):c6 P w K mg base fD 1 f fd ["self","tables"] (G2 P w K C):=by
 refine F.ok Gg (λ_ _ _ _ h=>by cases h;subst_vars;rfl) (λc7 A outer s H vs Q E hr h=>?_);obtain⟨self,tb,dx,fs,rfl,hs,tab,k⟩:=h;have hN:=vT hr;refine{_,(aO (wM (pv 0) (pv 1) rfl)
   (aO (wM (pv 0) (hJ ju) rfl)
   (aO (wM (pv 0) (Oq hN (qW (ir ju) aV KH) rfl rfl (by simp) (by show 1<=15;decide)) rfl)
   (bp (wM (pv 0) qY rfl))))),?_}
 have BF:∀{H:Hp}{l:List (Str×V)},H self=some (.ins C dx l)->hE H self/\(∀q,H self≠some (.lst q)):=λe=>{zR e,λq e'=>by rw[e]at e';cases e'};have up:∀{H:Hp}{o:HO},SB self H (upd H self o):=λb u n e=>by rw[ax n];exact e
 have GP:tb≠self:=λz=>by rw[<-z,tab.at_]at hs;cases hs
 refine{_,rfl,_,rfl,self,C,dx,[],rfl,hs,O.c,O.tables,by decide,?_};have Xo:=tab.sb (up (o:=.ins C dx (eM "tables" (.ref tb) []))) (BF hs).1 (BF hs).2 GP;have sb1:SB self H (upd H self (.ins C dx (eM "tables" (.ref tb) []))):=up;have Ag:upd H self (.ins C dx (eM "tables" (.ref tb) [])) self=some (.ins C dx [("tables",.ref tb)]):=aw;generalize (upd H self (.ins C dx (eM "tables" (.ref tb) [])))=H1 at Xo sb1 Ag⊢;refine{by show 0<=sizeLine;decide,λkl ZL=>?_};have s2:=aN ZL (.lst ([]:List V));have ZN:upd H1 kl (.lst ([]:List V)) kl=some (.lst []):=aw;have Xn:=Xo.same s2;have Di:=sb1.trans (SB.same s2);have kP:=s2 _ _ Ag;generalize (upd H1 kl (.lst ([]:List V)))=H2 at s2 ZN Xn Di kP⊢;refine{_,rfl,self,C,dx,_,rfl,kP,O.c,O.kept,by show 1<1000;decide,?_};have Q6:=Xn.sb (up (o:=.ins C dx (eM "kept" (.ref kl) [("tables",.ref tb)]))) (BF kP).1 (BF kP).2 GP;have Fl:=Di.trans (up (o:=.ins C dx (eM "kept" (.ref kl) [("tables",.ref tb)])));have YJ:kl≠self:=λz=>by rw[<-z,ZN]at kP;cases kP
 have ZM:=(up (o:=.ins C dx (eM "kept" (.ref kl) [("tables",.ref tb)]))) _ _ YJ ZN;have IA:upd H2 self (.ins C dx (eM "kept" (.ref kl) [("tables",.ref tb)])) self=some (.ins C dx [("tables",.ref tb),("kept",.ref kl)]):=by rw[aw];rfl
 generalize (upd H2 self (.ins C dx (eM "kept" (.ref kl) [("tables",.ref tb)])))=H3 at Q6 Fl ZM IA⊢;intro md hmd;have s4:=aN hmd (.dK []);have II:upd H3 md (.dK []) md=some (.dK []):=aw;generalize (upd H3 md (.dK []))=H4 at s4 II⊢;refine{by show 0<=sizeLine;decide,λe he=>?_};have s5:=aN he (.tup ([]:List V));have he5:upd H4 e (.tup ([]:List V)) e=some (.tup []):=aw;generalize (upd H4 e (.tup ([]:List V)))=H5 at s5 he5⊢;have key:iS K H5 (dH []) e:=uO (bq.of he5) λz hz=>by cases hz
 have vS:=s5 _ _ II;refine{e,dH [],.int 1,rfl,key,vS,?_};have TV:=s4.trans s5;have um:SB md H5 (upd H5 md (.ext (DN P w md [(dH [],e,.int 1)]))):=λb u n q=>by rw[ax n];exact q
 have Fy:hE H5 md:=HR vS;have nm:∀{b:Addr}{u:HO},H3 b=some u->b≠md:=λe z=>by rw[z,hmd]at e;cases e
 have Xm:gH K (upd H5 md (.ext (DN P w md [(dH [],e,.int 1)]))) tb fs:=(Q6.same TV).sb um Fy (λl q=>by rw[vS]at q;cases q) (nm Q6.at_);have Lm:=um _ _ (nm ZM) (TV _ _ ZM);have Py:=um _ _ (nm IA) (TV _ _ IA);have rc6:RowC P w K (upd H5 md (.ext (DN P w md [(dH [],e,.int 1)]))) md [([],1)]:={[(dH [],e,.int 1)],{.inl aw,λp hp=>by cases aC.mp hp;exact wZ key (um.tp Fy)},rfl}
 have lK:SB self H (upd H5 md (.ext (DN P w md [(dH [],e,.int 1)]))):=λb u n q=>um _ _ (nm (Fl _ _ n q)) (TV _ _ (Fl _ _ n q));generalize hH6:(upd H5 md (.ext (DN _ _ md _)))=H6;have e6:(upd H5 md (.ext (DN P w md [(dH [],e,.int 1)])))=H6:=hH6;rw[e6]at Xm Lm Py rc6 lK;clear hH6 e6 um;refine{_,rfl,self,C,dx,_,rfl,Py,O.c,O.maps,by show 2<1000;decide,?_};have ms:md≠self:=bX (nm IA);have Q5:=Xm.sb (up (o:=.ins C dx (eM "maps" (.ref md) [("tables",.ref tb),("kept",.ref kl)]))) (BF Py).1 (BF Py).2 GP;have zw:=lK.trans (up (o:=.ins C dx (eM "maps" (.ref md) [("tables",.ref tb),("kept",.ref kl)])));have hk7:=(up (o:=.ins C dx (eM "maps" (.ref md) [("tables",.ref tb),("kept",.ref kl)]))) _ _ YJ Lm;have XZ:=rc6.sb (up (o:=.ins C dx (eM "maps" (.ref md) [("tables",.ref tb),("kept",.ref kl)]))) (BF Py).1 ms;have UR:upd H6 self (.ins C dx (eM "maps" (.ref md) [("tables",.ref tb),("kept",.ref kl)])) self=some (.ins C dx [("tables",.ref tb),("kept",.ref kl),("maps",.ref md)]):=by rw[aw];rfl
 generalize (upd H6 self (.ins C dx (eM "maps" (.ref md) [("tables",.ref tb),("kept",.ref kl)])))=H7 at Q5 zw hk7 XZ UR⊢;intro td FP;have s8:=aN FP (.dK []);have Iw:upd H7 td (.dK []) td=some (.dK []):=aw;have Px:=s8 _ _ UR;have nt:∀{b:Addr}{u:HO},H7 b=some u->b≠td:=λe z=>by rw[z,FP]at e;cases e
 have h0:H td=none:=by
  cases q:H td with
  |none=>rfl
  |some u=>rw[zw _ _ (λz=>by rw[z,UR]at FP;cases FP) q]at FP;cases FP
 generalize (upd H7 td (.dK []))=H8 at s8 Iw Px⊢;refine{_,rfl,self,C,dx,_,rfl,Px,O.c,O.fo,by show 3<1000;decide,?_};have us:=up (H:=H8) (o:=.ins C dx (eM "tails" (.ref td) [("tables",.ref tb),("kept",.ref kl),("maps",.ref md)]));have Tz:td≠self:=bX (nt UR);have mt:md≠td:=by obtain⟨_,h,_⟩:=XZ;obtain⟨_,h⟩:=h.some;exact nt h
 refine k kl md td _ (zw.trans ((SB.same s8).trans us)) h0 {by rw[aw];rfl,(Q5.same s8).sb us (BF Px).1 (BF Px).2 GP,us _ _ YJ (s8 _ _ hk7),(XZ.same s8).sb us (BF Px).1 ms,{[],{EY (us _ _ Tz Iw),λa known v h=>by cases h},ak _},mt,nt Q5.at_,λz=>by cases z}
end
end jn
namespace AskP
section
variable{α:Type}[DecidableEq α]
def dc{β:Type}(l:List β)(f:β->Int):Int:=(l.map f).sum
def cM{β:Type}{x:β}{l:List β}{f:β->Int}:dc (x::l) f=f x+dc l f:=by unfold dc;rw[aQ,List.sum_cons]
def fG{β:Type}{l:List β}{f g:β->Int}(h:∀x∈l,f x=g x):dc l f=dc l g:=by unfold dc;rw[bz h]
def xC{β γ:Type}{l:List β}{k:β->γ}{f:γ->Int}:dc (l.map k) f=dc l λx=>f (k x):=by unfold dc;rw[bW];rfl
def GX{β:Type}{l m:List β}{f:β->Int}:dc (l++m) f=dc l f+dc m f:=by unfold dc;rw[aH,List.sum_append]
def zm{β γ:Type}{l:List β}{k:β->List γ}{f:γ->Int}:dc (l.flatMap k) f=dc l λx=>dc (k x) f:=by
 induction l with
 |nil=>rfl
 |cons x l ih=>rw[jc,GX,ih,cM]
def uw{β:Type}{l:List β}{f:β->Int}{c:Int}:dc l (λx=>c*f x)=c*dc l f:=by
 induction l with
 |nil=>exact(vf c).symm
 |cons x l ih=>rw[cM,ih,cM,Int.mul_add]
def Rf{β:Type}{l:List β}{f g:β->Int}:dc l (λx=>f x+g x)=dc l f+dc l g:=by
 induction l with
 |nil=>rfl
 |cons x l ih=>rw[cM,ih,cM,cM];lia
def NI{β:Type}{l m:List β}{f:β->Int}(h:l.Perm m):dc l f=dc m f:=by
 induction h with
 |nil=>rfl
 |cons x _ ih=>rw[cM,cM,ih]
 |swap x y l=>rw[cM,cM,cM,cM];lia
 |trans _ _ a b=>exact a.trans b
abbrev ind(p:Prop)[Decidable p]:Int:=if p then 1 else 0
def uu(m:List (Rw α×Int))(r:Rw α):Int:=dc m λx=>if x.1=r then x.2 else 0
def Xl{m:List (Rw α×Int)}{r:Rw α}(h:r∉m.map (·.1)):uu m r=0:=by
 induction m with
 |nil=>rfl
 |cons x m ih=>
  rw[aQ,aE,not_or]at h;unfold uu at ih⊢;rw[cM,ih h.2,aq λz=>h.1 z.symm];rfl
def Kb{m:List (Rw α×Int)}{x:Rw α×Int}(nd:(m.map (·.1)).Nodup)(h:x∈m):uu m x.1=x.2:=by
 induction m with
 |nil=>cases h
 |cons y m ih=>
  rw[aQ,cD]at nd;unfold uu at ih⊢;rw[cM];rcases aE.mp h with rfl|h
  ·have:=Xl nd.1;unfold uu at this;rw[this,ay rfl,vg]
  ·rw[ih nd.2 h,aq λz=>nd.1 (au.mpr {x,h,z.symm}),ve]
theorem NC{r q:Rw α}{c:Int}:∀{m:List (Rw α×Int)},(m.map (·.1)).Nodup->r∈m.map (·.1)->uu (m.map λx=>if x.1=r then(x.1,x.2+c)else x) q=uu m q+if r=q then c else 0
 |[],_,h=>by cases h
 |x::m,nd,h=>by
  rw[aQ,cD]at nd;by_cases e:x.1=r
  ·have n1:(m.map λx=>if x.1=r then(x.1,x.2+c)else x)=m:=(bz λy hy=>aq λz=>nd.1 (au.mpr {y,hy,z.trans e.symm})).trans (List.map_id m);unfold uu;rw[aQ,cM,n1,cM,ay e];by_cases f:r=q
   ·rw[ay (e.trans f),ay (e.trans f),ay f];dsimp only;lia
   ·rw[aq λz=>f (e.symm.trans z),aq λz=>f (e.symm.trans z),aq f];lia
  ·have i:=NC (q:=q) (c:=c) nd.2 ((aE.mp h).resolve_left λz=>e z.symm);unfold uu at i⊢;rw[aQ,cM,i,cM,aq e];lia
def Q3{m:List (Rw α×Int)}{r q:Rw α}{c:Int}(nd:(m.map (·.1)).Nodup):uu (pb m r c) q=uu m q+if r=q then c else 0:=by
 unfold pb;split
 ·next h=>exact NC nd h
 ·unfold uu;rw[GX,cM];exact cu _ (vg _)
def zj{xs ts:List α}{q:Rw α}{l:List (Rw α×Int)}:uu (dj l xs ts) q=dc l λx=>if image xs x.1 ts=q then x.2 else 0:=by
 unfold dj
 suffices H:∀m:List (Rw α×Int),(m.map (·.1)).Nodup->uu (l.foldl (λm x=>pb m (image xs x.1 ts) x.2) m) q=uu m q+dc l λx=>if image xs x.1 ts=q then x.2 else 0 from(H [] .nil).trans (ve _)
 induction l with
 |nil=>intro m _;exact(vg _).symm
 |cons x l ih=>
  intro m nd;rw[iO,ih _ (Ec nd),Q3 nd,cM,Int.add_assoc]
def group{β:Type}{L:List β}{κ:β->Rw α}{maps:List (Rw α×Int)}(nd:(maps.map (·.1)).Nodup)(hm:∀v∈L,κ v∈maps.map (·.1))(hc:∀x∈maps,x.2=dc L λv=>ind (κ v=x.1))(N:Rw α->Int):dc maps (λx=>x.2*N x.1)=dc L λv=>N (κ v):=by
 rw[fG (g:=λx=>dc L (λv=>ind (κ v=x.1))*N x.1) λx hx=>by rw[hc x hx]];clear hc
 induction L with
 |nil=>exact(fG (g:=λx=>0*0) λx _=>kL _).trans (uw.trans (kL _))
 |cons v L ih=>
  rw[cM,<-ih λu hu=>hm u (az _ hu),fG (g:=λx=>ind (κ v=x.1)*N x.1+dc L (λv=>ind (κ v=x.1))*N x.1) λx _=>by rw[cM,Int.add_mul],Rf];congr 1;have h:=hm v aA;clear ih hm
  induction maps with
  |nil=>cases h
  |cons x m ih=>
   rw[aQ,cD]at nd;rw[cM];by_cases e:κ v=x.1
   ·have z:dc m (λx=>ind (κ v=x.1)*N x.1)=0:=(fG (g:=λx=>0*0) λy hy=>by rw[show ind (κ v=y.1)=0 from aq λz=>nd.1 (au.mpr {y,hy,z.symm.trans e}),kL,kL]).trans (uw.trans (kL _));rw[z,show ind (κ v=x.1)=1 from ay e,e,Int.one_mul,vg]
   ·rw[ih nd.2 ((aE.mp h).resolve_left e),show ind (κ v=x.1)=0 from aq e,kL,ve]
def xX{xs v:List α}(nd:xs.Nodup)(h:v.length=xs.length):image xs v xs=v:=by
 unfold image;refine pk (by rw[ag,h]) λi h1 h2=>?_;have hi:i<xs.length:=by lia
 have:xs.idxOf xs[i]=i:=nd.idxOf_getElem i hi;rw[k9];unfold kM;rw[ay (gg hi),this,bY,ao h2];rfl
def Js{rows:List (Rw α)}{ts known fresh:List α}{key:Rw α}(nd:rows.Nodup)(h:∀t∈ts,t∈known\/t∈fresh):(fo rows ts known fresh key).Nodup:=by
 unfold fo;refine c8.mpr (fB (R:=λa b=>a≠b) (λ{a b} ha hb ne e=>ne ?_) (kK fT nd));have ha:=(bJ.mp ha).2;have hb:=(bJ.mp hb).2;rw[cE,eW]at ha hb;rw[<-ED ha.1,<-ED hb.1];refine bz λt ht=>?_;rcases h t ht with q|q
 ·exact oy.mp (ha.2.trans hb.2.symm) t q
 ·exact oy.mp e t q
structure j7(un:α->Bool)(db:α->List (Rw α))(S:List (pR α))(kept:List α)(maps:List (Rw α×Int))(bs:List α)(L:List (Rw α)):Prop where
 bt:∀t,t∈bs↔un t=true/\∃b∈S,t∈b.2
 bn:bs.Nodup
 ln:L.Nodup
 lm:∀v,v∈L↔∃g,iA un db S g/\v=bs.map g
 ct:∀x∈maps,x.2=dc L λv=>ind (image bs v kept=x.1)
variable{un:α->Bool}{db:α->List (Rw α)}{atoms:List (pR α)}{head:List α}{S left:List (pR α)}{kept:List α}{maps:List (Rw α×Int)}{bs:List α}{L:List (Rw α)}
def j7.start:j7 un db [] [] [([],1)] [] [[]]:={λt=>{λh=>(by cases h),λ⟨_,b,hb,_⟩=>(by cases hb)},.nil,fM _ _,λv=>{λh=>{id,{λ_ _=>rfl,λa ha=>by cases ha},aC.mp h},λ⟨_,_,e⟩=>aC.mpr e},λx hx=>by rw[aC.mp hx];rfl}
def j7.im(G:j7 un db S kept maps bs L){g:α->α}(hg:iA un db S g){ts:List α}(h:∀t∈ts,un t=true->t∈bs):image bs (bs.map g) ts=ts.map g:=gW λt ht c=>by
 cases e:un t with
 |false=>exact hg.1 t e
 |true=>exact absurd (h t ht e) c
def j7.step{a:pR α}{known fresh kept':List α}(G:j7 un db S kept maps bs L)(kp:Kp un db S kept maps)(md:(maps.map (·.1)).Nodup)(rn:(db a.1).Nodup)(kb:∀t∈kept,t∈bs)(hs:∀b∈S,∀t∈b.2,t∈a.2->un t=true->t∈kept)
  (hf:∀t,t∈fresh↔t∈a.2/\un t=true/\t∉kept) (fn:fresh.Nodup) (hk:known=a.2.filter (λt=>decide (t∉fresh))) (h':∀t∈kept',t∈kept++fresh):
  ∃L',j7 un db (a::S) kept' (dj (longer maps (db a.1) a.2 kept known fresh) (kept++fresh) kept') (bs++fresh) L':=by
 have kn:∀t,t∈known↔t∈a.2/\t∉fresh:=λt=>by rw[hk,bJ,eW]
 have bf:∀t∈fresh,t∉bs:=λt ht z=>by obtain⟨_,b,hb,q⟩:=(G.bt t).mp z;obtain⟨h1,h2,h3⟩:=(hf t).mp ht;exact h3 (hs b hb t q h1 h2)
 have uT:∀t,t∈fresh↔t∈a.2/\un t=true/\t∉bs:=λt=>{λz=>{((hf t).mp z).1,((hf t).mp z).2.1,bf t z},λ⟨z1,z2,z3⟩=>(hf t).mpr {z1,z2,λz=>z3 (kb t z)}};have nd':(bs++fresh).Nodup:=fQ.mpr {G.bn,fn,λx hx y hy e=>bf y hy (e▸hx)};have kb2:∀t∈known,un t=true->t∈kept:=λt ht u=>by obtain⟨z1,z2⟩:=(kn t).mp ht;exact uj λc=>z2 ((hf t).mpr ⟨z1,u,c⟩)
 have ik:∀{g:α->α},iA un db S g->image kept (kept.map g) known=known.map g:=λhg=>gW λt ht c=>by
  cases e:un t with
  |false=>exact hg.1 t e
  |true=>exact absurd (kb2 t ht e) c
 have ib:∀{g:α->α},iA un db S g->image bs (bs.map g) known=known.map g:=λhg=>G.im hg λt ht u=>kb t (kb2 t ht u);have Pn:∀{g:α->α},iA un db S g->image bs (bs.map g) kept=kept.map g:=λhg=>G.im hg λt ht _=>kb t ht
 let T:Rw α->List (Rw α):=λkey=>fo (db a.1) a.2 known fresh key
 let L':List (Rw α):=L.flatMap λv=>(T (image bs v known)).map λt=>v++t
 have R4:∀v∈L,v.length=bs.length:=λv hv=>by obtain⟨g,_,e⟩:=(G.lm v).mp hv;rw[e,ag]
 have ab2:∀{key t:Rw α},t∈T key->t.length=fresh.length:=λh=>by obtain⟨r,_,e⟩:=au.mp h;rw[<-e,ag]
 have mL:∀v,v∈L'↔∃g,iA un db (a::S) g/\v=(bs++fresh).map g:=λv=>by
  have K:=Kf (maps:=L.map λv=>(v,(0:Int))) (a:=a) (kept':=bs++fresh) (known:=known) (fresh:=fresh) (kept:=bs) (un:=un) (db:=db) (S:=S)
   (λv=>by rw[bW,show((λx:Rw α×Int=>x.1)∘λv=>(v,(0:Int)))=id from rfl,List.map_id];exact G.lm v) uT hk (λt ht=>((G.bt t).mp ht).1) (λb hb t ht _ u=>(G.bt t).mpr ⟨u,b,hb,ht⟩) (λt ht=>ht)
  rw[<-K v,sM];have e:∀x∈longer (L.map λv=>(v,(0:Int))) (db a.1) a.2 bs known fresh,image (bs++fresh) x.1 (bs++fresh)=x.1:=λx hx=>by obtain⟨y,hy,hx⟩:=dy.mp hx;obtain⟨u,hu,rfl⟩:=au.mp hy;obtain⟨t,ht,rfl⟩:=au.mp hx;exact xX nd' (by rw[aK,aK,R4 u hu,ab2 ht])
  constructor
  ·intro h;obtain⟨u,hu,h⟩:=dy.mp h;obtain⟨t,ht,rfl⟩:=au.mp h;have m:(u++t,(0:Int))∈longer (L.map λv=>(v,(0:Int))) (db a.1) a.2 bs known fresh:=dy.mpr {(u,0),au.mpr ⟨u,hu,rfl⟩,au.mpr ⟨t,ht,rfl⟩};exact{_,m,(e _ m).symm}
  ·rintro⟨x,hx,rfl⟩;rw[e x hx];obtain⟨y,hy,hx⟩:=dy.mp hx;obtain⟨u,hu,rfl⟩:=au.mp hy;obtain⟨t,ht,rfl⟩:=au.mp hx;exact dy.mpr {u,hu,au.mpr ⟨t,ht,rfl⟩}
 refine{L',λt=>?_,nd',?_,mL,λx hx=>?_}
 ·rw[aS,G.bt,hf];constructor
  ·rintro(⟨u,b,hb,q⟩|⟨q,u,_⟩)
   ·exact{u,b,az _ hb,q}
   ·exact⟨u,a,aA,q⟩
  ·rintro⟨u,b,hb,q⟩;rcases aE.mp hb with rfl|hb
   ·by_cases c:t∈kept
    ·exact .inl ((G.bt t).mp (kb t c))
    ·exact .inr ⟨q,u,c⟩
   ·exact .inl ⟨u,b,hb,q⟩
 ·refine kI.mpr {λv _=>c8.mpr ((Js rn λt ht=>(Decidable.em (t∈fresh)).symm.imp (λc=>(kn t).mpr ⟨ht,c⟩) id).imp λne e=>ne (jH e)),fB (λ{u v} hu hv ne x hx y hy e=>ne ?_) G.ln};obtain⟨t,_,rfl⟩:=au.mp hx;obtain⟨t',_,rfl⟩:=au.mp hy;exact(mG e ((R4 u hu).trans (R4 v hv).symm)).1
 ·rw[<-Kb kC hx,zj];generalize x.1=r
  let N:Rw α->Int:=λy=>dc (T (image kept y known)) λt=>ind (image (kept++fresh) (y++t) kept'=r)
  have e1:(dc (longer maps (db a.1) a.2 kept known fresh) λx=>if image (kept++fresh) x.1 kept'=r then x.2 else 0)=dc maps λx=>x.2*N x.1:=by
   unfold longer;rw[zm];refine fG λy _=>?_;rw[xC,<-uw];refine fG λt _=>?_;show(if image (kept++fresh) (y.1++t) kept'=r then y.2 else 0)=y.2*ind _;split
   ·exact(B5 _).symm
   ·exact(vf _).symm
  rw[e1,group md (κ:=λv=>image bs v kept) (λv hv=>?_) G.ct N,zm]
  ·refine fG λv hv=>?_;obtain⟨g,hg,rfl⟩:=(G.lm v).mp hv;show N (image bs (bs.map g) kept)=_;rw[Pn hg,xC,ib hg];show(dc (T (image kept (kept.map g) known)) λt=>ind (image (kept++fresh) (kept.map g++t) kept'=r))=_;rw[ik hg];refine fG λt ht=>?_;obtain⟨q,_,rfl⟩:=au.mp ht
   let g2:α->α:=λt=>if t∈fresh then atT q a.2 t else g t
   have z1:kept.map g=kept.map g2:=bz λt ht=>(aq λz=>bf t z (kb t ht)).symm;have z2:bs.map g=bs.map g2:=bz λt ht=>(aq λz=>bf t z ht).symm;have z3:fresh.map (atT q a.2)=fresh.map g2:=bz λt ht=>(ay ht).symm;have z4:image (kept++fresh) (kept.map g++fresh.map (atT q a.2)) kept'=kept'.map g2:=by rw[z1,z3,<-aH];exact gW λt ht c=>absurd (h' t ht) c
   have z5:image (bs++fresh) (bs.map g++fresh.map (atT q a.2)) kept'=kept'.map g2:=by rw[z2,z3,<-aH];exact gW λt ht c=>absurd ((aS.mp (h' t ht)).elim (λz=>aS.mpr (.inl (kb t z))) λz=>aS.mpr (.inr z)) c
   rw[z4,z5]
  ·obtain⟨g,hg,rfl⟩:=(G.lm v).mp hv;show image bs (bs.map g) kept∈_;rw[Pn hg];exact(kp _).mpr ⟨g,hg,rfl⟩
def j7.end_(G:j7 un db S kept maps bs L)(kp:Kp un db S kept maps)(md:(maps.map (·.1)).Nodup)(kb:∀t∈kept,t∈bs)(hh:∀t∈head,un t=true->t∈kept){x:Rw α×Int}(hx:x∈dj maps kept head):x.2=dc L λv=>ind (image bs v head=x.1):=by
 have Pn:∀{g:α->α},iA un db S g->image bs (bs.map g) kept=kept.map g:=λhg=>G.im hg λt ht _=>kb t ht;rw[<-Kb kC hx,zj];generalize x.1=r;rw[fG (g:=λx=>x.2*ind (image kept x.1 head=r)) λy _=>?_,group md (κ:=λv=>image bs v kept) (λv hv=>?_) G.ct λy=>ind (image kept y head=r)]
 ·refine fG λv hv=>?_;obtain⟨g,hg,rfl⟩:=(G.lm v).mp hv;show ind (image kept (image bs (bs.map g) kept) head=r)=_;rw[Pn hg,G.im hg λt ht u=>kb t (hh t ht u),gW λt ht c=>?_];cases e:un t with
  |false=>exact hg.1 t e
  |true=>exact absurd (hh t ht e) c
 ·obtain⟨g,hg,rfl⟩:=(G.lm v).mp hv;show image bs (bs.map g) kept∈_;rw[Pn hg];exact(kp _).mpr ⟨g,hg,rfl⟩
 ·split
  ·exact(B5 _).symm
  ·exact(vf _).symm
theorem nG{us vals:List α}(nv:vals.Nodup):∀p,(ku un db atoms us vals p).Nodup
 |0=>kK fT (fM _ _)
 |p+1=>by
  refine kK fT (kI.mpr {λv _=>c8.mpr (nv.imp λne e=>ne ?_),(nG nv p).imp λne x hx y hy e=>ne ?_})
  ·exact List.singleton_inj.mp (jH e)
  ·obtain⟨t,_,rfl⟩:=au.mp hx;obtain⟨t',_,rfl⟩:=au.mp hy;exact(List.append_inj' e rfl).1
def vG{us vals:List α}(hu:∀t,t∈us↔un t=true/\∃a∈atoms,t∈a.2)(nd:us.Nodup)(hv:∀a∈atoms,∀r∈db a.1,∀x∈r,x∈vals)(w:Rw α):w∈ku un db atoms us vals us.length↔∃g,iA un db atoms g/\w=us.map g:=by have len:∀w∈ku un db atoms us vals us.length,w.length=us.length:=λw hw=>((uK (λt ht=>((hu t).mp ht).1) us.length w (ak _)).mp hw).1;rw[<-QU (head:=us) hu nd hv (λt ht _=>ht) w];exact{λh=>{w,h,(xX nd (len w h)).symm},λ⟨v,h,e⟩=>by rw[e,xX nd (len v h)];exact h}
def j7.cast{db':α->List (Rw α)}(G:j7 un db S kept maps bs L)(hd:∀a∈S,∀r,r∈db a.1↔r∈db' a.1):j7 un db' S kept maps bs L:=
 {G.bt,G.bn,G.ln,λv=>(G.lm v).trans {λ⟨g,h,e⟩=>{g,{h.1,λa ha=>(hd a ha _).mp (h.2 a ha)},e},λ⟨g,h,e⟩=>{g,{h.1,λa ha=>(hd a ha _).mpr (h.2 a ha)},e}},G.ct}
def AskI.aaT{l1 l2:List (pR α)}{a:pR α}{known fresh kept':List α}(h:AskI un db atoms head S (l1++a::l2) kept maps)(G:∃bs L,j7 un db S kept maps bs L)(rn:(db a.1).Nodup)(hf:∀t,t∈fresh↔t∈a.2/\un t=true/\t∉kept)(fn:fresh.Nodup)(hk:known=a.2.filter (λt=>decide (t∉fresh)))(h':∀t∈kept',t∈kept++fresh):
  ∃bs L,j7 un db (a::S) kept' (dj (longer maps (db a.1) a.2 kept known fresh) (kept++fresh) kept') bs L:=by
 obtain⟨bs,L,G⟩:=G;obtain⟨L',g⟩:=G.step h.kp h.md rn (λt ht=>(G.bt t).mpr {((h.kt t).mp ht).1,((h.kt t).mp ht).2.1}) (λb hb t ht xb u=>(h.kt t).mpr {u,⟨b,hb,ht⟩,.inr {a,aS.mpr (.inr aA),xb}}) hf fn hk h';exact⟨_,L',g⟩
def j7.alike{us vals:List α}(G:j7 un db S kept maps bs L)(e:∀a,a∈atoms↔a∈S)(hu:∀t,t∈us↔un t=true/\∃a∈atoms,t∈a.2)(nd:us.Nodup)(nv:vals.Nodup)(hv:∀a∈atoms,∀r∈db a.1,∀x∈r,x∈vals)(hh:∀t∈head,un t=true->t∈us)(r:Rw α):
  (dc L λv=>ind (image bs v head=r))=dc (ku un db atoms us vals us.length) λv=>ind (image us v head=r):=by
 have ub:∀t,t∈us↔t∈bs:=λt=>by rw[hu,G.bt];exact{λ⟨u,a,ha,q⟩=>{u,a,(e a).mp ha,q},λ⟨u,a,ha,q⟩=>{u,a,(e a).mpr ha,q}}
 have mw:=vG (un:=un) (db:=db) (vals:=vals) hu nd hv;have pm:(L.map λv=>image bs v us).Perm (ku un db atoms us vals us.length):=by
  refine(lP (c8.mpr (fB (λ{u v} se DI ne z=>ne ?_) G.ln)) (nG nv _)).mpr λw=>?_
  ·rw[mw w,au];constructor
   ·rintro⟨v,DI,rfl⟩;obtain⟨g,hg,rfl⟩:=(G.lm v).mp DI;exact{g,hg.of λa ha=>(e a).mp ha,G.im hg λt ht _=>(ub t).mp ht}
   ·rintro⟨g,hg,rfl⟩;have IP:iA un db S g:=hg.of λa ha=>(e a).mpr ha;exact{bs.map g,(G.lm _).mpr ⟨g,IP,rfl⟩,G.im IP λt ht _=>(ub t).mp ht}
  ·obtain⟨g,hg,rfl⟩:=(G.lm u).mp se;obtain⟨k,hk,rfl⟩:=(G.lm v).mp DI;rw[G.im hg λt ht _=>(ub t).mp ht,G.im hk λt ht _=>(ub t).mp ht]at z;exact bz λt ht=>oy.mp z t ((ub t).mpr ht)
 rw[<-NI pm,xC];refine fG λv DI=>?_;obtain⟨g,hg,rfl⟩:=(G.lm v).mp DI;have im:∀ts:List α,(∀t∈ts,un t=true->t∈us)->image us (us.map g) ts=ts.map g:=λts h=>gW λt ht c=>by
  cases q:un t with
  |false=>exact hg.1 t q
  |true=>exact absurd (h t ht q) c
 rw[G.im hg λt ht _=>(ub t).mp ht,im head hh,G.im hg λt ht u=>(ub t).mp (hh t ht u)]
def AskI.ac6{us vals:List α}(h:AskI un db atoms head S [] kept maps)(G:∃bs L,j7 un db S kept maps bs L)(hu:∀t,t∈us↔un t=true/\∃a∈atoms,t∈a.2)(nd:us.Nodup)(nv:vals.Nodup)(hv:∀a∈atoms,∀r∈db a.1,∀x∈r,x∈vals)(hh:∀t∈head,un t=true->∃a∈atoms,t∈a.2){x:Rw α×Int}(hx:x∈dj maps kept head):x.2=dc (ku un db atoms us vals us.length) λv=>ind (image us v head=x.1):=by
 obtain⟨bs,L,G⟩:=G;have e:∀a,a∈atoms↔a∈S:=λa=>by rw[h.at_ a];exact{λz=>z.elim id (λz=>by cases z),.inl}
 rw[G.end_ h.kp h.md (λt ht=>(G.bt t).mpr {((h.kt t).mp ht).1,((h.kt t).mp ht).2.1}) (λt ht u=>(h.kt t).mpr {u,let⟨a,ha,q⟩:=hh t ht u;{a,(e a).mp ha,q},.inl ht}) hx];exact G.alike e hu nd nv hv (λt ht u=>(hu t).mpr {u,hh t ht u}) x.1
def C3{Jh:List (pR α)}{db0:α->List (Rw α)}{us Ny vals LP:List α}(he:∀a,a∈Jh↔a∈atoms)(hd:∀a∈atoms,∀r,r∈db a.1↔r∈db0 a.1)(hu:∀t,t∈us↔un t=true/\∃a∈atoms,t∈a.2)(hu0:∀t,t∈Ny↔un t=true/\∃a∈Jh,t∈a.2)(nd:us.Nodup)(nd0:Ny.Nodup)(nv:vals.Nodup)(nv0:LP.Nodup)
  (hv:∀a∈atoms,∀r∈db a.1,∀x∈r,x∈vals) (hv0:∀a∈atoms,∀r∈db a.1,∀x∈r,x∈LP) (hh:∀t∈head,un t=true->t∈us) (r:Rw α):
  (dc (ku un db atoms us vals us.length) λv=>ind (image us v head=r))=dc (ku un db0 Jh Ny LP Ny.length) λv=>ind (image Ny v head=r):=by
 have G:j7 un db atoms [] [] us (ku un db atoms us vals us.length):={hu,nd,nG nv _,vG hu nd hv,λx hx=>by cases hx};refine(G.cast hd).alike he hu0 nd0 nv0 (λa ha r hr=>hv0 a ((he a).mp ha) r ((hd a ((he a).mp ha) r).mpr hr)) (λt ht u=>?_) r;obtain⟨_,a,ha,q⟩:=(hu t).mp (hh t ht u);exact(hu0 t).mpr {u,a,(he a).mpr ha,q}
end
end AskP
namespace AskP
section
variable{α:Type}[DecidableEq α]
def zT{xs ts:List α}{l:List (Rw α×Int)}:(dj l xs ts).length<=l.length:=by
 have gen:∀(l m:List (Rw α×Int)),(l.foldl (λm x=>pb m (image xs x.1 ts) x.2) m).length<=m.length+l.length:=by
  intro l
  induction l with
  |nil=>intro m;exact ak _
  |cons y l ih=>
   intro m;refine aF (ih _) ?_;have:(pb m (image xs y.1 ts) y.2).length<=m.length+1:=by
    unfold pb;split
    ·rw[ag];lia
    ·rw[aK];exact ak _
   dsimp only;rw[aZ];lia
 have:=gen l [];rw[cN,vb]at this;exact this
def Rc{β:Type}{l:List β}{p:β->Prop}[DecidablePred p]:0<=dc l (λx=>ind (p x))/\dc l (λx=>ind (p x))<=l.length:=by
 induction l with
 |nil=>exact{rT _,rT _}
 |cons x l ih=>
  rw[cM,aZ];have:0<=ind (p x)/\ind (p x)<=1:=by unfold ind;split<;>decide
  lia
variable{un:α->Bool}{db:α->List (Rw α)}{S S1 S2:List (pR α)}{us lG nV vals h1 h2:List α}
def Cv(vO:∀t,t∈lG↔un t=true/\∃a∈S1,t∈a.2)(qt:∀t,t∈nV↔un t=true/\∃a∈S2,t∈a.2)(vX:∀t∈lG,t∉nV)(hS:∀a,a∈S->a∈S1\/a∈S2){g1 g2:α->α}(s1:iA un db S1 g1)(s2:iA un db S2 g2):∃g,iA un db S g/\lG.map g=lG.map g1/\nV.map g=nV.map g2/\(∀ts:List α,(∀t∈ts,un t=true->t∈lG)->ts.map g=ts.map g1)/\(∀ts:List α,(∀t∈ts,un t=true->t∈nV)->ts.map g=ts.map g2):=by
 have e1:∀ts:List α,(∀t∈ts,un t=true->t∈lG)->ts.map (λt=>if t∈lG then g1 t else g2 t)=ts.map g1:=λts h=>bz λt ht=>by
  by_cases c:t∈lG
  ·rw[ay c]
  ·rw[aq c];cases u:un t with
   |true=>exact absurd (h t ht u) c
   |false=>rw[s1.1 t u,s2.1 t u]
 have e2:∀ts:List α,(∀t∈ts,un t=true->t∈nV)->ts.map (λt=>if t∈lG then g1 t else g2 t)=ts.map g2:=λts h=>bz λt ht=>by refine aq λc=>vX t c (h t ht ((vO t).mp c).1)
 refine{_,{λt u=>?_,λa ha=>?_},e1 _ λt ht _=>ht,e2 _ λt ht _=>ht,e1,e2}
 ·rw[aq λc=>by rw[((vO t).mp c).1]at u;cases u];exact s2.1 t u
 ·rcases hS a ha with h|h
  ·rw[e1 _ λt ht u=>(vO t).mpr ⟨u,a,h,ht⟩];exact s1.2 a h
  ·rw[e2 _ λt ht u=>(qt t).mpr ⟨u,a,h,ht⟩];exact s2.2 a h
def Rj(vO:∀t,t∈lG↔un t=true/\∃a∈S1,t∈a.2)(qt:∀t,t∈nV↔un t=true/\∃a∈S2,t∈a.2)(vX:∀t∈lG,t∉nV)(hS:∀a,a∈S↔a∈S1\/a∈S2)(FU:∀t∈h1,un t=true->t∈lG)(pH:∀t∈h2,un t=true->t∈nV)(row:Rw α):
  (∃g,iA un db S g/\row=(h1++h2).map g)↔∃r1 r2,(∃g,iA un db S1 g/\r1=h1.map g)/\(∃g,iA un db S2 g/\r2=h2.map g)/\row=r1++r2:=by
 constructor
 ·rintro⟨g,h,e⟩;exact{_,_,{g,h.of λa ha=>(hS a).mpr (.inl ha),rfl},{g,h.of λa ha=>(hS a).mpr (.inr ha),rfl},by rw[e,aH]}
 ·rintro⟨_,_,⟨g1,s1,rfl⟩,⟨g2,s2,rfl⟩,e⟩;obtain⟨g,hg,_,_,e1,e2⟩:=Cv vO qt vX (λa h=>(hS a).mp h) s1 s2;exact{g,hg,by rw[e,aH,e1 _ FU,e2 _ pH]}
def Nu(hu:∀t,t∈us↔un t=true/\∃a∈S,t∈a.2)(vO:∀t,t∈lG↔un t=true/\∃a∈S1,t∈a.2)(qt:∀t,t∈nV↔un t=true/\∃a∈S2,t∈a.2)(nd:us.Nodup)(nd1:lG.Nodup)(DC:nV.Nodup)(nv:vals.Nodup)(vX:∀t∈lG,t∉nV)(hS:∀a,a∈S↔a∈S1\/a∈S2)
  (hv:∀a∈S,∀r∈db a.1,∀x∈r,x∈vals) (FU:∀t∈h1,un t=true->t∈lG) (pH:∀t∈h2,un t=true->t∈nV) {r1 r2:Rw α} (len:r1.length=h1.length):
  (dc (ku un db S us vals us.length) λv=>ind (image us v (h1++h2)=r1++r2))=dc (ku un db S1 lG vals lG.length) (λv=>ind (image lG v h1=r1))*dc (ku un db S2 nV vals nV.length) λv=>ind (image nV v h2=r2):=by
 have m1:=vG (db:=db) vO nd1 λa ha=>hv a ((hS a).mpr (.inl ha));have m2:=vG (db:=db) qt DC λa ha=>hv a ((hS a).mpr (.inr ha));have n1:=nG (un:=un) (db:=db) (atoms:=S1) (us:=lG) nv lG.length;have n2:=nG (un:=un) (db:=db) (atoms:=S2) (us:=nV) nv nV.length;generalize ku un db S1 lG vals lG.length=W1 at m1 n1⊢;generalize ku un db S2 nV vals nV.length=W2 at m2 n2⊢;have Xf:∀t,t∈lG++nV↔t∈us:=λt=>by
  rw[aS,vO,qt,hu];constructor
  ·rintro(⟨u,a,h,q⟩|⟨u,a,h,q⟩)
   ·exact{u,a,(hS a).mpr (.inl h),q}
   ·exact{u,a,(hS a).mpr (.inr h),q}
  ·rintro⟨u,a,h,q⟩;exact((hS a).mp h).imp (λh=>⟨u,a,h,q⟩) λh=>⟨u,a,h,q⟩
 have G:j7 un db S [] [] (lG++nV) (W1.flatMap λv=>W2.map λt=>v++t):=by
  refine{λt=>(Xf t).trans (hu t),fQ.mpr {nd1,DC,λx hx y hy e=>vX x hx (e▸hy)},?_,λv=>?_,λx hx=>by cases hx}
  ·refine kI.mpr {λv _=>c8.mpr (n2.imp λne e=>ne (jH e)),fB (λ{u v} se DI ne x hx y hy e=>ne ?_) n1};obtain⟨t,_,rfl⟩:=au.mp hx;obtain⟨t',_,rfl⟩:=au.mp hy;obtain⟨g,_,eu⟩:=(m1 u).mp se;obtain⟨k,_,ev⟩:=(m1 v).mp DI;exact(mG e (by rw[eu,ev,ag,ag])).1
  ·rw[dy];constructor
   ·rintro⟨v1,q1,q2⟩;obtain⟨v2,q3,rfl⟩:=au.mp q2;obtain⟨g1,s1,rfl⟩:=(m1 v1).mp q1;obtain⟨g2,s2,rfl⟩:=(m2 v2).mp q3;obtain⟨g,hg,e1,e2,_⟩:=Cv vO qt vX (λa h=>(hS a).mp h) s1 s2;exact{g,hg,by rw[aH,e1,e2]}
   ·rintro⟨g,hg,e⟩;exact{_,(m1 _).mpr {g,hg.of λa ha=>(hS a).mpr (.inl ha),rfl},au.mpr {_,(m2 _).mpr {g,hg.of λa ha=>(hS a).mpr (.inr ha),rfl},by rw[e,aH]}}
 rw[<-G.alike (atoms:=S) (λ_=>rG) hu nd nv hv (λt ht u=>(Xf t).mp ((aS.mp ht).elim (λh=>b6 _ (FU t h u)) λh=>bN _ (pH t h u))) (r1++r2),zm];rw[Int.mul_comm,<-uw];refine fG λv1 q1=>?_;rw[xC,Int.mul_comm,<-uw];refine fG λv2 q2=>?_;obtain⟨g1,s1,rfl⟩:=(m1 v1).mp q1;obtain⟨g2,s2,rfl⟩:=(m2 v2).mp q2;obtain⟨g,hg,e1,e2,f1,f2⟩:=Cv vO qt vX (λa h=>(hS a).mp h) s1 s2;have im:∀{us ts:List α}{g:α->α},(∀t,un t=false->g t=t)->(∀t∈ts,un t=true->t∈us)->image us (us.map g) ts=ts.map g:=λ{us ts g} hg h=>gW λt ht c=>by
  cases q:un t with
  |false=>exact hg t q
  |true=>exact absurd (h t ht q) c
 rw[<-e1,<-e2,<-aH,im hg.1 λt ht u=>(aS.mp ht).elim (λh=>b6 _ (FU t h u)) λh=>bN _ (pH t h u),im hg.1 FU,im hg.1 pH,aH];unfold ind;by_cases c1:h1.map g=r1
 ·by_cases c2:h2.map g=r2
  ·rw[ay (by rw[c1,c2]),ay c1,ay c2];rfl
  ·rw[aq λe=>c2 (mG e (by rw[c1])).2,aq c2,vf]
 ·rw[aq λe=>c1 (mG e (by rw[ag,len])).1,aq c1,kL]
end
end AskP
namespace jn
open PySem PySem.Spec PyProof.Rows L2 vY
seal L2.PE L2.PT L2.PW L2.PA L2.PS L2.j9 L2.PI L2.PO L2.AK L2.PG L2.AL
section
variable{P:Program}{w:World}{K:Frag}{mg:Str->Option Value}{base:Heap}{C:Addr}
def KO(he:PE X e ta)(hb:attributeBase e f X.env (eval e X.env)=eval e X.env:=by rfl):PE X (.Attribute e f pos) (Q9 X.K ta f):=lM he hb
def Jl(P:Program)(w:World)(K:Frag)(mg:Str->Option Value)(base:Heap)(C:Addr)(k:Nat)(x:Str)(ps:List Str)(sp:Sp):Prop:=∃f fd,Mk K C f/\c6 P w K mg base fD k f fd ps sp/\mg x=some (.ref C)/\Binds K fd ps []
def mkO(D:Jl X.prog X.w X.K X.mg X.base C k x ps sp)(hr:gJ j X.A)(ha:PA X (e::es) t)(hk:k+1<=j)(hg:Gl X x:=by rfl)
  (Al:(x==("__debug__":Str))=false:=by decide) (he:starEach (e::es) X.env=(false,eval e X.env)::starEach es X.env:=by rfl) (qu:(backTo pos (starEach es X.env)).any (·.1)=false:=by rfl):
  PE X (.Call (.Name x p) (e::es) [] pos) (TH C sp [] E0 t):=by
 obtain⟨f,fd,M,F,m,b⟩:=D;exact V9 M F (hr.mono hk) hg m b .nil Me ha Al he qu
noncomputable def sA:List Str:=["?qx","?qy","?qa","?qab","?q12","?qzzz"]
def CQ:List Str:=gf++sA
def GJ:List Str:=js++sA
def qG(ats:List (Str×List Str)):Prop:=∀a∈ats,a.2.length<=4/\(∀z∈a.2,z∈CQ)/\1<=a.2.length/\a.1∈u6
def jj(hz:List Str)(ats:List (Str×List Str)):Prop:=hz.length<=4/\∀z∈hz,z∈CQ/\(isUnk z=true->z∈cB ats)
def pA(h:z∈CQ):PyData.strOk z=true/\z.length<=1000/\(isUnk z=true->z∈GJ):=by unfold CQ gf js cV sA at h;simp only[ie,iL,aE,kZ,xQ]at h;rcases h with rfl|rfl|rfl|rfl|rfl|rfl|rfl|rfl|rfl|rfl|rfl|rfl|rfl|rfl|rfl|rfl|rfl|rfl|rfl|rfl|rfl<;>decide+kernel
def Wm(h:z∈u6):PyData.strOk z=true:=by unfold u6 rY at h;simp only[aE,kZ,xQ]at h;rcases h with rfl|rfl|rfl|rfl|rfl|rfl<;>decide+kernel
def WC(g:qG ats):∀a∈ats,FinA a:=λa ha=>by obtain⟨h1,h2,_,h4⟩:=g a ha;exact{h1,Wm h4,λz hz=>(pA (h2 z hz)).1,λz hz=>(pA (h2 z hz)).2.1}
def kX:z∈dX ts↔isUnk z=true/\z∈ts:=by
 constructor
 ·intro h;have gen:∀(l acc:List Str),(∀t∈acc,isUnk t=true)->∀t∈l.foldl step acc,isUnk t=true:=by
   intro l
   induction l with
   |nil=>intro acc h t ht;exact h t ht
   |cons x l ih=>
    intro acc h t ht;refine ih _ (λy hy=>?_) t ht;unfold step at hy;split at hy
    ·next c=>
     split at hy
     ·exact h y hy
     ·rcases aS.mp hy with hy|hy
      ·exact h y hy
      ·rw[aC.mp hy];exact c
    ·exact h y hy
  exact{gen ts [] (λt ht=>by cases ht) z h,(uk h).resolve_left λh=>by cases h}
 ·exactλ⟨h1,h2⟩=>Wn h1 h2
def gc{ats:List (Str×List Str)}(t:Str):t∈dX (cB ats)↔isUnk t=true/\∃a∈ats,t∈a.2:=by rw[kX];unfold cB;rw[k7];exact⟨λ⟨u,ts,kN,h⟩=>{u,let⟨b,hb,e⟩:=au.mp kN;{b,hb,by rw[e];exact h}},λ⟨u,b,hb,h⟩=>{u,b.2,au.mpr ⟨b,hb,rfl⟩,h}⟩
def num(fs:List En)(hz:List Str)(ats:List (Str×List Str))(row:List Str):Int:=AskP.dc (AskP.ku isUnk (g7 fs) ats (dX (cB ats)) cV (dX (cB ats)).length) λv=>AskP.ind (AskP.image (dX (cB ats)) v hz=row)
structure AskJ(fs:List En)(ats:List (Str×List Str))(hz:List Str)(S lf:List (Str×List Str))(kept:List Str)(maps:Cm):Prop extends AskP.AskI isUnk (dbT fs) ats hz S lf kept maps where
 gh:∃bs L,AskP.j7 isUnk (dbT fs) S kept maps bs L
 fw:maps.length<=7^S.length
 ls:S.length+lf.length=ats.length
def OX(tab:gH K H tb fs)(g:qG ats)(la:ats.length<=6)(h:AskJ fs ats hz S lf kept maps):Ef kept maps/\kept.length<=12:=by
 have hk:∀t∈kept,isUnk t=true/\t∈CQ:=λt ht=>by obtain⟨u,⟨b,hb,Zg⟩,_⟩:=(h.kt t).mp ht;exact{u,(g b ((h.at_ b).mpr (.inl hb))).2.1 t Zg}
 have l6:kept.length<=12:=iF (m:=GJ) h.nd λt ht=>(pA (hk t ht).2).2.2 (hk t ht).1;have hv:∀a∈ats,∀r∈dbT fs a.1,∀x∈r,x∈cV:=λa _ r hr x hx=>((tab.good a.1).2 r ((iw _ _).mp hr)).2.2 x hx;refine{{h.nd,λt ht=>(pA (hk t ht).2).1,by lia,λx hx=>{h.len hx,λz hz=>vB (h.vals hv hx z hz)},aF h.fw (aF (jg (n:=7) (j:=6) (by decide) (by have:=h.ls;lia)) (by decide))},l6}
structure WX(fs:List En)(hz:List Str)(ats:List (Str×List Str))(m:Cm):Prop where
 nd:(m.map (·.1)).Nodup
 iff:∀row,row∈m.map (·.1)↔∃g,AskP.iA isUnk (dbT fs) ats g/\row=hz.map g
 fL:m.length<=500000
 ct:∀x∈m,x.2=num fs hz ats x.1
inductive G4(P:Program)(w:World)(K:Frag)(vs:List V)(H:Hp)(Q:VK)(_x3:XK):Prop
 |mk (v:V) (tb:Addr) (fs:List En) (hz:List Str) (ats:List (Str×List Str)) (_:vs=[v,.ref tb]) (_:oK H v hz ats) (_:qG ats) (_:jj hz ats) (_:ats.length<=6) (_:gH K H tb fs) (_:∀(d:Addr)(m:Cm)(H':Hp),bD H H'->Jk P w K H' d m->WX fs hz ats m->Q (.ref d) H')
structure Dc6(P:Program)(w:World)(K:Frag)(mg:Str->Option Value)(base:Heap)(C:Addr):Prop where
 Sa:Jl P w K mg base C 1 "Asking" ["self","tables"] (G2 P w K C)
 uM:qE P w K mg base C 6 "best_place" ["self","atoms"] (NR P w K C)
 HZ:qE P w K mg base C 6 "take" ["self","atom","needed"] (NN P w K C)
 HS:eC P w K mg base 1 "needed_terms" ["head","atoms"] (G3 K)
 dj:eC P w K mg base 3 "narrowed" ["counted_maps","unknowns","terms"] (xE P w K)
theorem zN:∀{aad:List α}{aac:List β}(i:Nat),Paired F aad aac->Paired F (aad.eraseIdx i) (aac.eraseIdx i)
 |_,_,_,.nil=>.nil
 |_,_,0,.cons _ t=>t
 |_,_,i+1,.cons q t=>.cons q (zN i t)
def JJ{α:Type}{l:List α}{a:α}(h:l[i]?=some a):l=l.take i++a::l.drop (i+1)/\l.eraseIdx i=l.take i++l.drop (i+1):=by obtain⟨hi,e⟩:=ar.mp h;refine{?_,pS _ _};rw[<-e,<-ji hi,cW]
def g6.exL(x:g6 P w K C H self dx tb kl md td ex fs kept maps n)(s:SB ll H H')(m:ll∈ex)(hl:H ll=some (.lst ys))(tab:gH K H' tb fs):g6 P w K C H' self dx tb kl md td ex fs kept maps n:=by
 have nt:hE H ll:=pE hl;obtain⟨kvs,c,l⟩:=x.zk;obtain⟨qh,hm,em⟩:=id x.vH;have tl:td≠ll:=λz=>c.at_.t6 _ (by rw[z];exact hl);refine{s _ _ (λz=>?_) x.ins,tab,s _ _ (λz=>x.ke (by rw[z];exact m)) x.wY,x.vH.sb s nt (λz=>hm.t6 _ (by rw[z];exact hl)),{kvs,c.fr (λb u n e=>s _ _ (λz=>n (by rw[z];exact az _ (az _ m))) e) (s.tp nt) ?_,l},x.nm,x.nt,x.ke}
 ·have q:=x.ins;rw[z,hl]at q;cases q
 ·obtain⟨u,h⟩:=c.at_.some;rw[h,s _ _ tl h]
def kz:cv ["question","tables","head","atoms","asking","left","atom"] ["question","tables"] (bI we):=jE (by decide+kernel)
def HK(F:fb K "counts_of" "counts_of" we f fd)(T:Txt K mg)(O:CU K C)(D:Dc6 P w K mg base C):c6 P w K mg base fD 7 f fd ["question","tables"] (G4 P w K):=by
 refine F.ok kz (λ_ _ _ _ h=>by cases h;subst_vars;rfl) (λc7 A outer s H vs Q E hr h=>?_);obtain⟨v,tb,fs,hz,ats,rfl,⟨q,hd,aa,ij,rfl,hq,yM,IW,sQ⟩,good,br,la,tab,k⟩:=h;have hu:=my hr;have hN:=vT hr;have cC:=O.c;refine{_,(aO (uE (pv 0) (lL rfl (cK (kA 2 kz) (cK (kA 3 kz) iD))))
   (aO (gk 4 kz (mkO D.Sa hr (cw (pv 1)) ∅))
   (aO (gk 5 kz (eU Jf rfl T.HU (by decide+kernel) (cw (pv 3))))
   (aO (RC bZ (RB (pv 5) (λ_=>rfl))
   (aO (gk 6 kz (mn cx PySem.F.slot_list_pop PySem.F.type_list_pop RW (pv 5) (cw (KZ cC D.uM hr (pv 4) (cw (pv 5)) ∅))))
   (bp (jI (KZ cC D.HZ hr (pv 4) (eK (pv 6) (cl D.HS hr (eK (pv 2) (pv 5)))) ∅)))))
   (bp (cL (cl D.dj hr (tE (eU (D9 hr.hd) rfl T.HU (by decide+kernel) (cw (Ft (KO (pv 4))))) (KO (pv 4)) (pv 2))))))))),?_}
 refine{_,rfl,q,_,rfl,bq.of hq,rfl,_,_,rfl,_,_,rfl,rfl,?_};refine{_,rfl,λx dx hx hdx ne=>?_};have s1:bD H (upd (upd H dx (.own x)) x (.ins C dx [])):=λb u h=>by rw[ax (aX h hx),ax (aX h hdx)];exact h
 have Ad:upd (upd H dx (.own x)) x (.ins C dx []) x=some (.ins C dx []):=aw;generalize (upd (upd H dx (.own x)) x (.ins C dx []))=H1 at s1 Ad⊢;refine{x,tb,dx,fs,rfl,Ad,tab.same s1,λkl md td H2 Di FP pB=>{rfl,?_}};have h0t:H td=none:=s1.free FP;have pC:bD H H2:=λb u e=>Di _ _ (aX e hx) (s1 _ _ e);refine{_,rfl,aa,ij,rfl,.inr (bq.of (pC _ _ IW)),λll PN=>?_};have s3:=aN PN (.lst ij);have PV:upd H2 ll (.lst ij) ll=some (.lst ij):=aw;have vE:=pC.trans s3;have Qd:H ll=none:=pC.free PN;have tw:g6 P w K C (upd H2 ll (.lst ij)) x dx tb kl md td [ll] fs [] [([],1)] 0:=by
  obtain⟨kvs,ck,l⟩:=pB.zk;have c3:iP P w K H2 td (td::md::[ll]) fs kvs:={ck.at_,λa known v h=>by
   obtain⟨d,e,tv⟩:=ck.all a known v h;exact{d,e,(tv.more PN).less λb hb=>by simp only[aE,kZ,xQ]at hb⊢;rcases hb with h|h|h<;>simp[h]}}
  have y:=pB.same s3;exact{y.ins,y.tab,y.wY,y.vH,{kvs,c3.same s3,l},y.nm,y.nt,λz=>aX pB.wY PN (aC.mp z)}
 generalize (upd H2 ll (.lst ij))=H3 at s3 PV vE tw⊢;clear s3 pB Di pC PN;have fin:=WC good;refine{λm Z H4=>∃(kl md n:Nat)(ys:List V)(lf S:List (Str×List Str))(kept:List Str)(maps:Cm)(x6:Option V),m=lf.length/\Z=[some (.ref q),some (.ref tb),some (.ref hd),some (.ref aa),some (.ref x),some (.ref ll),x6]/\bD H H4/\g6 P w K C H4 x dx tb kl md td [ll] fs kept maps n/\H4 ll=some (.lst ys)/\eI H4 ys lf/\AskJ fs ats hz S lf kept maps/\n+101*lf.length<=808,
  {ats.length,kl,md,0,ij,ats,[],[],[([],1)],none,rfl,rfl,vE,tw,PV,iz sQ vE,{AskP.AskI.start,{[],[[]],AskP.j7.start},ak _,vb _},by lia},?_}
 rintro m Z H4 ⟨kl,md,n,ys,lf,S,kept,maps,x6,rfl,rfl,s4,vC,yL,oH,aj,hn⟩;have ly:ys.length=lf.length:=bh oH;obtain⟨mo,l6⟩:=OX vC.tab good la aj;obtain⟨nt4,Uq⟩:=vC.KU;have YE:∀b∈lf,b∈ats:=λb hb=>(aj.at_ b).mpr (.inr hb);have lla:lf.length<=8:=by lia
 refine{_,rfl,_,.inl {_,bw.of yL,rfl},?_};cases BQ:lf with
 |cons a0 lr=>
  have gE:0<lf.length:=by rw[BQ];exact qC _
  have Y2:(!ys.isEmpty)=true:=by
   cases ys with
   |nil=>rw[<-ly]at gE;exact absurd gE (cY _)
   |cons _ _=>rfl
  rw[Y2];rw[<-BQ];have Uz:ll≠td:=λz=>Uq _ (by rw[<-z];exact yL);refine Im {_,λσ' H' h=>h,?_};refine{_,rfl,.inl {rfl,_,bw.of yL},_,rfl,x,dx,_,rfl,vC.ins,rfl,_,rfl,x,ll,dx,tb,kl,md,td,[ll],fs,kept,maps,n,ys,lf,rfl,vC,yL,oH,λb hb=>fin b (YE b hb),gE,by lia,mo,by lia,λb hb=>{by rw[aC.mp hb];exact Uz,.lst ys,by rw[aC.mp hb];exact yL},λi H5 hi Fj nW=>?_};have tH:=Fj _ _ Uz yL;have Y1:=Eb oH Fj nt4;have s5:bD H H5:=λb u e=>Fj _ _ (aX e h0t) (s4 _ _ e);obtain⟨a,ha⟩:∃a,lf[i]?=some a:={_,ao hi};obtain⟨y,hy⟩:∃y,ys[i]?=some y:={_,ao ∅};obtain⟨a',ha',hya⟩:=Paired.at Y1 hy;rw[ha]at ha';cases ha';obtain⟨ap,at_,rfl,_⟩:=id hya;have fa:=fin a (YE a (aG ha));refine{ll,ys,i,i,.ref ap,rfl,rfl,tH,by lia,by lia,PySem.StrLaws.seqIndex_nonneg ∅ ∅,hy,?_};have lK:SB ll H5 (upd H5 ll (.lst (ys.eraseIdx i))):=λb u n e=>by rw[ax n];exact e
  have Uk:hE H5 ll:=pE tH;have uR:upd H5 ll (.lst (ys.eraseIdx i)) ll=some (.lst (ys.eraseIdx i)):=aw;have s6:bD H (upd H5 ll (.lst (ys.eraseIdx i))):=λb u e=>lK _ _ (aX e Qd) (s5 _ _ e);have Sf:=Eb (zN i Y1) lK Uk;have Y3:=AA hya lK Uk;have lH:g6 P w K C (upd H5 ll (.lst (ys.eraseIdx i))) x dx tb kl md td [ll] fs kept maps (n+100):=nW.exL lK aA tH (tab.same s6);generalize (upd H5 ll (.lst (ys.eraseIdx i)))=H6 at lK uR s6 Sf Y3 lH⊢;obtain⟨e1,e2⟩:=JJ ha;have lfe:∀b∈lf.eraseIdx i,b∈lf:=λb hb=>List.mem_of_mem_eraseIdx hb;have YC:(lf.eraseIdx i).length=lf.length -1:=lQ hi;refine{_,rfl,x,dx,_,rfl,lH.ins,rfl,_,rfl,_,rfl,_,rfl,hd,ll,hz,ys.eraseIdx i,lf.eraseIdx i,rfl,bq.of (s6 _ _ yM),bw.of uR,Sf,?_,by lia,λb hb=>?_,λnd H7 s7 MG ZA=>?_}
  ·have:=br.1;lia
  ·have:=(fin b (YE b (lfe b hb))).1;lia
  have ux:=lH.same s7;have Yr:nd≠td:=λz=>by obtain⟨_,c,_⟩:=lH.zk;obtain⟨_,h⟩:=c.at_.some;rw[z,h]at MG;cases MG
  refine{x,ap,nd,dx,tb,kl,md,td,[ll],fs,kept,maps,n+100,a,λz=>decide (z∈hz\/∃b∈lf.eraseIdx i,z∈b.2),rfl,ux,rS Y3 s7,fa,mo,by lia,by lia,?_,Yr,λb hb=>{by rw[aC.mp hb];exact Uz,.lst (ys.eraseIdx i),by rw[aC.mp hb];exact s7 _ _ uR},λqK yG H8 Vd st8=>?_}
  ·obtain⟨kvs,h1,h2⟩:=ZA;exact{kvs,h1,λz=>(h2 z).trans mX.symm}
  have Yt:∀{l:List V}{b:Addr},H7 b=some (.lst l)->b≠x:=λ{l b} e z=>by have:=ux.ins;rw[<-z,e]at this;cases this
  have yK:=s7 _ _ uR;have PU:=Vd _ _ Uz (Yt yK) yK;have acC:eI H8 (ys.eraseIdx i) (lf.eraseIdx i):=by
   have h7:=iz Sf s7;obtain⟨nt7,_⟩:=ux.KU;generalize ys.eraseIdx i=ye at h7⊢;generalize lf.eraseIdx i=le at h7⊢;clear PU yK
   induction h7 with
   |nil=>exact .nil
   |cons h _ ih=>
    obtain⟨p,t,e,h1,h2⟩:=h;have nx:∀{b:Addr}{l:List V},H7 b=some (.tup l)->b≠td/\b≠x:=λ{b l} e=>{λz=>nt7 _ (.inl (by rw[<-z];exact e)),λz=>by have:=ux.ins;rw[<-z,e]at this;cases this}
    exact .cons {p,t,e,Vd _ _ (nx h1).1 (nx h1).2 h1,Vd _ _ (nx h2).1 (nx h2).2 h2} ih
  have s8:bD H H8:=λb u e=>Vd _ _ (aX e h0t) (aX e hx) (s7 _ _ (s6 _ _ e));have aj8:AskJ fs ats hz (a::S) (lf.eraseIdx i) ((kept++fR kept a.2).filter λz=>decide (z∈hz\/∃b∈lf.eraseIdx i,z∈b.2)) (AskP.dj (zY fs kept a maps) (kept++fR kept a.2) ((kept++fR kept a.2).filter λz=>decide (z∈hz\/∃b∈lf.eraseIdx i,z∈b.2))):=by
   rw[e1]at aj;have fh:∀t,t∈fR kept a.2↔t∈a.2/\isUnk t=true/\t∉kept:=λt=>by unfold fR;rw[bJ,mX,kX];exact{λh=>{h.1.2,h.1.1,h.2},λh=>{{h.2.1,h.1},h.2.2}}
   have:=aj.step (known:=jl kept a.2) (fresh:=fR kept a.2) (need:=λz=>decide (z∈hz\/∃b∈lf.eraseIdx i,z∈b.2)) fh ((fY a.2).sublist fT) rfl (λt=>?_)
   ·have gh:=aj.1.aaT aj.gh (known:=jl kept a.2) (fresh:=fR kept a.2) (kept':=(kept++fR kept a.2).filter λz=>decide (z∈hz\/∃b∈lf.eraseIdx i,z∈b.2)) (show(tW _).Nodup from(df _).nodup_iff.mpr (t4 _)) fh ((fY a.2).sublist fT) rfl λt ht=>(bJ.mp ht).1;rw[<-e2]at this;refine{this,gh,aF AskP.zT (aF (Bb (K:=K) tab) ?_),by have:=aj.ls;rw[YC,aZ];rw[<-e1]at this;lia};rw[aZ,jx,Nat.mul_comm];exact yt _ aj.fw
   ·rw[mX,e2]
  exact{_,by rw[YC];lia,qK,yG,n+100+1,ys.eraseIdx i,lf.eraseIdx i,a::S,_,_,_,rfl,rfl,s8,st8,PU,acC,aj8,by rw[YC];lia}
 |nil=>
  have Y2:ys=[]:=fN.mp (by rw[ly,BQ];rfl);rw[Y2];refine Cw ?_;rw[BQ]at aj;obtain⟨qh,II,em⟩:=id vC.vH;refine{_,rfl,x,C,dx,_,_,rfl,vC.ins,O.c,O.maps,rfl,md,qh,rfl,II,λvw Pu=>?_};have s5:=aN Pu (.ext (tR vw md));have hv5:upd H4 vw (.ext (tR vw md)) vw=some (.ext (tR vw md)):=aw;have nW:=vC.same s5;have vS:ff P w K (upd H4 vw (.ext (tR vw md))) md qh:=by obtain⟨u,h⟩:=II.some;exact II.tp (eA.same s5) (by rw[h,s5 _ _ h])
  generalize (upd H4 vw (.ext (tR vw md)))=H5 at s5 hv5 nW vS⊢;refine{vw,md,qh,rfl,hv5,vS,λl zs H6 s6 uS uR hps=>?_};have s6:bD H5 H6:=s6;have lH:=nW.same s6;have zE:=s4.trans (s5.trans s6);have pc:Paired (v3 K H6) zs maps:=by
   have hk:∀p∈qh,NV K H6 p.1 (.ref p.2.1):=λp hp=>Mo (eA.same s6) _ _ (vS.2 p hp).1;clear uR vS II;generalize maps=mm at em
   induction qh generalizing zs mm with
   |nil=>
    cases mm with
    |nil=>cases hps;exact .nil
    |cons _ _=>cases em
   |cons p qh ih=>
    cases mm with
    |nil=>cases em
    |cons y mm=>
     injection em with em1 em2;cases hps with
     |cons h t=>
      obtain⟨b,rfl,hb⟩:=h;have e1:p.1=dH y.1:=cu Prod.fst em1;have e2:p.2.2=V.int y.2:=cu Prod.snd em1;have hn:=hk p aA;rw[e1]at hn;refine .cons {b,p.2.1,rfl,?_,DB hn} (ih _ t (λq hq=>hk q (az _ hq)) _ em2);rw[<-e2];exact bq.of hb
  have lh:=br.1;refine{_,rfl,x,C,dx,_,_,rfl,lH.ins,O.c,O.kept,rfl,_,rfl,l,kl,hd,zs,maps,kept,hz,rfl,bw.of uR,pc,bw.of lH.wY,mo.nd,mo.len,.inr (bq.of (zE _ _ yM)),by lia,λz uP=>(pA (br.2 z uP).1).1,mo.row,aF mo.fL (by decide),λd H7 s7 jm rc=>?_};have hh:∀t∈hz,isUnk t=true->∃a∈ats,t∈a.2:=λt ht u=>((gc t).mp (kX.mpr {u,(br.2 t ht).2 u})).2;have hv:∀a∈ats,∀r∈dbT fs a.1,∀x∈r,x∈cV:=λa _ r hr x hx=>((tab.good a.1).2 r ((iw _ _).mp hr)).2.2 x hx;refine k d _ H7 (zE.trans s7) rc {AskP.kC,aj.end_ hh,?_,λy hy=>(aj.1.ac6 aj.gh gc (fY _) (by decide) hv hh hy).trans (AskP.C3 (λ_=>rG) (λa _ r=>iw r _) gc gc (fY _) (fY _) (by decide) (by decide) hv hv (λt ht u=>(gc t).mpr {u,hh t ht u}) _)}
  ·exact aF AskP.zT mo.fL
inductive Fc(K:Frag)(vs:List V)(H:Hp)(Q:VK)(_x3:XK):Prop
 |mk (v:V) (tb:Addr) (fs:List En) (hz:List Str) (ats:List (Str×List Str)) (_:vs=[v,.ref tb]) (_:oK H v hz ats) (_:qG ats) (_:jj hz ats) (_:ats.length<=6) (_:gH K H tb fs) (_:∀(l:Addr)(zs:List V)(rows:List (List Str))(H':Hp),bD H H'->H l=none->H' l=some (.lst zs)->eQ K H' zs (bU rows)->rows.Nodup->(∀row,row∈rows↔∃g,AskP.iA isUnk (dbT fs) ats g/\row=hz.map g)->(∀z∈zs,∃a xs,z=.ref a/\H' a=some (.tup xs))->Q (.ref l) H')
structure Da6(P:Program)(w:World)(K:Frag)(mg:Str->Option Value)(base:Heap):Prop where
 F7:eC P w K mg base 7 "counts_of" ["question","tables"] (G4 P w K)
def L5:cv ["question","tables"] ["question","tables"] (bI zD):=jE (by decide+kernel)
def Mn(F:fb K "answers" "answers" zD f fd)(T:Txt K mg)(D:Da6 P w K mg base):c6 P w K mg base fD 8 f fd ["question","tables"] (Fc K):=by
 refine F.ok L5 (λ_ _ _ _ h=>by cases h;subst_vars;rfl) (λc7 A outer s H vs Q E hr h=>?_);obtain⟨v,tb,fs,hz,ats,rfl,hq,good,br,la,tab,k⟩:=h;refine{_,(bp (cL (cQ (Ar hr.hd) rfl T.xS (by decide+kernel) (cw (cl D.F7 hr (eK (pv 0) (pv 1))))))),?_};refine{_,rfl,_,rfl,v,tb,fs,hz,ats,rfl,hq,good,br,la,tab,λd m H1 s1 rc cm=>?_};obtain⟨kvs,ha,em,gD⟩:=rc;have e1:kvs.map (·.1)=(m.map (·.1)).map dH:=by have:=cu (List.map Prod.fst) em;unfold qN at this;rw[bW,bW]at this;rw[bW];exact this
 have lr:(m.map (·.1)).length<=500000:=by rw[ag];exact cm.fL
 refine{d,kvs,m.map (·.1),rfl,ha,e1,λh2 r mz=>?_,by lia,λl zs hl hr hm=>?_}
 ·intro er;obtain⟨g,_,eg⟩:=(cm.iff r).mp mz;rw[er]at eg;have ez:hz=[]:=lX.mp eg.symm;have all:∀y∈m.map (·.1),y∈([[]]:List (List Str)):=λy hy=>by obtain⟨g',_,e'⟩:=(cm.iff y).mp hy;rw[e',ez];exact aA
  have:=iF cm.nd all;rw[d9]at this;lia
 ·have s2:=aN hl (.lst zs);refine k l zs _ _ (s1.trans s2) (s1.free hl) aw (ip hr s2) cm.nd cm.iff λz uP=>?_;obtain⟨p,hp,rfl⟩:=au.mp (hm z uP);obtain⟨xs,e⟩:=gD p hp;exact{_,xs,rfl,s2 _ _ e}
end
end jn
namespace vY
open PySem PySem.W PyProof.Rows PySem.Calls
theorem iI.length:∀{zs:List Str}{vs:List Value},iI zs vs->vs.length=zs.length
 |_,_,.nil=>rfl
 |_,_,.cons r=>by rw[aZ,aZ,r.length]
section
open PySem.SeqAt
open PySem.AutoSeq1 (wpAny_loadPart')
open PySem.MeetsSeq PySem.MeetsSeq2 PySem.MeetsSeq3
def Xj{l b:Addr}{aT vK:Array Value}{n m:Nat}{dd de:Option Addr}{sl sm:Array (Option Value)}{xs ys:List Str}(hi:iI xs aT.toList)(hj:iI ys vK.toList):
  Meets (Builtin.«tuple.__lt__» {[.ref l,.ref b],[]})
   (λ_ R s=>s.heap.get? l=some {cls:=.type "tuple",dict:=dd,data:=.seq aT n,slots:=sl}/\s.heap.get? b=some {cls:=.type "tuple",dict:=de,data:=.seq vK m,slots:=sm}/\R (.ok (.ret (.bool (cT xs ys)))) s):=
 .of_wp λprog w A R s h=>by
  obtain⟨hp,g,d,tk,os⟩:=s;obtain⟨hl,hb,h⟩:=h;have f2:=AutoSeq1.sub_tuple_tuple;have z1:aT.size=xs.length:=by rw[<-hi.length];simp
  have z2:vK.size=ys.length:=by rw[<-hj.length];simp
  wp_walk using wpAny_loadPart' hl,wpAny_loadPart' hb,hU _ (λrest b s'=>b.1=none/\s'=⟨hp,g,d,tk,os⟩/\∃(vs ws:List Value)(x' y':List Str),rest=vs.zip ws/\
   iI x' vs/\iI y' ws/\x'.length+vK.size=y'.length+aT.size/\R (.ok (.ret (.bool (cT x' y')))) ⟨hp,g,d,tk,os⟩) _
  case turn=>
   rintro⟨y,x⟩ rest b s' ⟨iW,rfl,vs,ws,x',y',hz,Y9,UK,hlen,hR⟩;cases Y9 with
   |nil=>rw[List.zip_nil_left]at hz;cases hz
   |@cons a t _ _ acF=>
    cases UK with
    |nil=>rw[List.zip_nil_right]at hz;cases hz
    |@cons c u _ _ acE=>
     rw[AR]at hz;injection hz with hyx abh;injection hyx with hy hx;subst hy hx;unfold cT at hR;simp only[aZ]at hlen;have he:SeqAt.EqAt A.in1 ⟨hp,g,d,tk,os⟩ (.str a t) (.str c u) (a==c):=AF a t c u;refine ae (he prog w _ _ ?_);by_cases e:a=c
     ·rw[show(a==c)=true from qz.mpr e];rw[ay e]at hR
      wp_walk
      exact{rfl,rfl,_,_,_,_,abh,acF,acE,by lia,hR}
     ·rw[show(a==c)=false from fS.mpr e];rw[aq e]at hR;have hri:∀(E:Value->Shared->Prop)(Q:Value->Shared->Prop),Q (.bool (FE a c)) ⟨hp,g,d,tk,os⟩->wpAny (model prog w) A.in1 (richCompare .Lt (.str a t) (.str c u)) Q E ⟨hp,g,d,tk,os⟩:=λE Q h=>(yY h:wpAny (model prog w) A.in1 (compareOp .Lt (.str a t) (.str c u)) Q E _)
      wp_walk using hri
      exact{_,rfl,by simpa using hR}
  case fin=>
   rintro⟨b1,b2⟩ s' ⟨iW,rfl,vs,ws,x',y',hz,Y9,UK,hlen,hR⟩;simp only at iW;subst iW;have hv:cT x' y'=decide (aT.size<vK.size):=by
    cases Y9 with
    |nil=>
     cases UK with
     |nil=>
      simp only[cN]at hlen;exact(bj ∅).symm
     |cons hw=>
      simp only[cN,aZ]at hlen;exact(aY ∅).symm
    |cons hv=>
     cases UK with
     |nil=>
      simp only[cN,aZ]at hlen;exact(bj ∅).symm
     |cons hw=>
      rw[AR]at hz;cases hz
   rw[hv]at hR
   wp_walk
   exact{_,rfl,by simpa[Builtin.Tuple.tupleCompareSizes]using hR}
  case h=>
   exact{rfl,rfl,aT.toList,vK.toList,xs,ys,rfl,hi,hj,by lia,h}
end
section
variable{prog:Program}{w:World}{A:Around}{E:Value->Shared->Prop}{s:Shared}
def Yx{x y:Addr}{xs ys:List Str}{Q:Value->Shared->Prop}(hx:TupIs s.heap (.ref x) xs)(hy:TupIs s.heap (.ref y) ys)(hu:A.units<cLine)(h:Q (.bool (cT xs ys)) s):wpAny (model prog w) A (compareOp .Lt (.ref x) (.ref y)) Q E s:=by obtain⟨_,⟨c,dd,dt,sl⟩,aT,n,e,ho,hc,hd,hi⟩:=hx;obtain⟨_,⟨c2,de,dt2,sm⟩,vK,m,e2,xc,pJ,hd2,hj⟩:=hy;cases e;cases e2;simp only at hc hd pJ hd2;subst hc hd pJ hd2;exact richCompare_meets_room (op:=.Lt) ⟨_,ho,rfl⟩ ⟨_,xc,rfl⟩ PySem.F.slot_tuple_lt PySem.F.entry_tuple_lt (PySem.F.args_tuple_lt_2 _ _) (Xj hi hj) {ho,xc,show Value.bool (cT xs ys)≠Value.notImplemented/\Q (.bool (cT xs ys)) s from{(λx=>nomatch x),h}} hu
def gK(N:List Str->Int)(h:Heap)(v:Value)(r:List Str):Prop:=∃a o aT n g t,v=.ref a/\h.get? a=some o/\o.cls=.type "tuple"/\o.data=.seq aT n/\aT.toList=[.ref g,.int (N r) t]/\TupIs h (.ref g) r
theorem K6{P:Program}{w:World}:∀{zs:List Str}{us:List Value},iI zs us->ItemsAre (PySem.strKind P w) zs us
 |_,_,.nil=>.nil
 |_,_,.cons r=>.cons (C6 _ _ _ _) (K6 r)
def TupIs.key{P:Program}{w:World}{h:Heap}{a:Addr}{zs:List Str}(x:TupIs h (.ref a) zs):IsTupleKey (PySem.strKind P w) h zs a:=by obtain⟨_,o,aT,n,e,ho,hc,hd,hr⟩:=x;cases e;exact{o,aT,n,ho,hc,hd,K6 hr}
def Wo{N:List Str->Int}{x y:Value}{xs ys:List Str}{C:Bool->Shared->Prop}(hu:A.units<cLine)(hx:gK N s.heap x xs)(hy:gK N s.heap y ys)(h:C (cT xs ys) s):wpAny (model prog w) A (keyLt' (tuples' false) x y) C E s:=by
 obtain⟨a,o,aT,n,g,t,rfl,ho,hc,hd,el,hg⟩:=hx;obtain⟨b,p,vK,m,g',u,rfl,hp,UT,Zx,Qm,IP⟩:=hy;have z1:aT.size=2:=by rw[<-aM,el];rfl
 have z2:vK.size=2:=by rw[<-aM,Qm];rfl
 refine kat_lt ho hd hp Zx ?_;rw[el,Qm,z1,z2];refine kat_cons (zf hu hg.key IP.key ?_);by_cases e:xs=ys
 ·subst e;rw[aY rfl];refine kat_yes (kat_cons (AI (A:=A) (s:=s) (N xs) t (N xs) u prog w _ _ ?_));rw[show(N xs==N xs)=true from uX _];refine kat_yes (kat_nil ?_);rw[qd]at h;exact h
 ·rw[bj e];exact kat_no (kat_one _ _ (Yx hg IP hu h))
def O7{N:List Str->Int}{vs:List Value}{rows:List (List Str)}{Q:SortKind->Shared->Prop}(hl:vs.length=rows.length)(h2:2<=vs.length)(ht:∀(i:Nat) v r,vs[i]?=some v->rows[i]?=some r->gK N s.heap v r)(h:Q (tuples' false) s):wpAny (model prog w) A (keyKind' vs.toArray) Q E s:=by
 have key:∀(vs:List Value)(rows:List (List Str)),vs.length=rows.length->(∀(i:Nat) v r,vs[i]?=some v->rows[i]?=some r->gK N s.heap v r)->∃fs,KatTups s.heap vs fs/\fs.length=vs.length/\∀f∈fs,∃g r,f=Value.ref g/\TupIs s.heap f r:=by
  intro vs
  induction vs with
  |nil=>intro rows hl _;exact{[],KatTups.nil,rfl,λf hf=>nomatch hf}
  |cons v vs ih=>
   intro rows hl ht;cases rows with
   |nil=>simp at hl
   |cons r rows=>
    obtain⟨fs,h1,h2,h3⟩:=ih rows (by simpa using hl) λi v' r' e1 e2=>ht (i+1) v' r' (by simpa using e1) (by simpa using e2);obtain⟨a,o,aT,n,g,t,rfl,ho,hc,hd,el,hg⟩:=ht 0 v r rfl rfl;have e0:aT[0]?=some (.ref g):=by rw[<-bB,el];rfl
    refine{.ref g::fs,KatTups.cons ho hc hd e0 h1,by simp[h2],λf hf=>?_};rcases aE.mp hf with rfl|hf
    ·exact⟨g,r,rfl,hg⟩
    ·exact h3 f hf
 obtain⟨fs,h1,h3,h4⟩:=key vs rows hl ht;refine kat_kind (T:=.type "tuple") h1 ∅ (λv hv=>?_) (by decide) ?_
 ·obtain⟨g,r,rfl,b,o,aT,n,e,ho,hc,_⟩:=h4 v hv;cases e
  refineλA Q E s' k q=>?_
  show wpAny _ _ (loadPart g (some headPart)>>=λd=>pure d.cls) _ _ _;exact ae (wpAny_loadPart (k _ _ ho) (af (by rw[hc];exact q)))
 ·have e:((Value.type "tuple") !=Value.type "tuple")=false:=by decide
  rw[e];exact h
def gK.mono{N:List Str->Int}{h h':Heap}{v:Value}{r:List Str}(x:gK N h v r)(kp:∀b o,o.cls=.type "tuple"->h.get? b=some o->h'.get? b=some o):gK N h' v r:=by obtain⟨a,o,aT,n,g,t,e,ho,hc,hd,el,b,p,vK,m,e2,hp,UT,r⟩:=x;exact{a,o,aT,n,g,t,e,kp _ _ hc ho,hc,hd,el,b,p,vK,m,e2,kp _ _ UT hp,UT,r}
def gK.one{N:List Str->Int}{h:Heap}{v:Value}{x y:List Str}(a:gK N h v x)(b:gK N h v y):x=y:=by obtain⟨a,o,aT,n,g,t,rfl,h1,_,h2,h3,h4⟩:=a;obtain⟨b,p,vK,m,g',u,e,q1,_,q2,q3,q4⟩:=b;cases e;rw[h1]at q1;cases q1;rw[h2]at q2;cases q2;rw[h3]at q3;have e:Value.ref g=Value.ref g':=List.head_eq_of_cons_eq q3;cases e;exact h4.one q4
open Classical in
def Hr(N:List Str->Int)(h:Heap)(v:Value):List Str:=if x:∃r,gK N h v r then Classical.choose x else[]
def uo{N:List Str->Int}{h:Heap}{v:Value}{r:List Str}(x:gK N h v r):Hr N h v=r:=by unfold Hr;rw[dif_pos ⟨r,x⟩];exact(xv (⟨r,x⟩:∃r,gK N h v r)).one x
def LZ{N:List Str->Int}{a:Addr}{n:Nat}{vs:List Value}{rows:List (List Str)}{P:PySem.Fin->Shared->Prop}(hu:A.units<cLine)(ho:s.heap.get? a=some (seqObj "list" vs.toArray n))(hl:vs.length=rows.length)(ht:∀(i:Nat) v r,vs[i]?=some v->rows[i]?=some r->gK N s.heap v r)(yQ:vs.length<1000000)
  (k:∀(h':Heap)(tk c:Nat)(us:List Value),h'.get? a=some (seqObj "list" us.toArray c)->(∀b o,b≠a->s.heap.get? b=some o->h'.get? b=some o)->us.Perm vs->(∀(i:Nat) v r,us[i]?=some v->(bU rows)[i]?=some r->gK N s.heap v r)->P (.done (.ret .none)) {s with heap:=h',toks:=tk}):
  wpAny (model prog w) A (Builtin.«list.sort» {[.ref a],[]}) P E s:=by
 by_cases c2:vs.length<2
 ·refine G5 ho c2 λh' c g kp=>?_;have e:bU rows=rows:=by
   have:rows.length<2:=by lia
   match rows,this with
   |[],_=>exact(oZ (.refl _) .nil).symm
   |[r],_=>exact(oZ (.refl _) (by simp)).symm
   |_::_::_,q=>simp at q;lia
  rw[e]at k;exact k h' s.toks c vs g kp (.refl _) ht
 ·have k3:∀s',Tk {s with heap:=pG s.heap a vs} s'->∀b o,o.cls=.type "tuple"->s.heap.get? b=some o->s'.heap.get? b=some o:=λs' ⟨t,e⟩ b o hc hb=>by
   subst e;have nb:b≠a:=λz=>by rw[z,ho]at hb;cases hb;have kQ:Value.type "list"=Value.type "tuple":=hc;injection kQ with z;exact absurd z (by decide)
   exact ah _ (ah _ ((bM s.heap a _).extBut b o nb hb))
  have mr:∀v∈vs,∃r,r∈rows/\gK N s.heap v r:=λv hv=>by obtain⟨i,hi,rfl⟩:=dN.mp hv;exact{_,gg (l:=rows) (n:=i) ∅,ht i _ _ (ao hi) (ao _)}
  refine Ks (κ:=tuples' false) (rk:=λv=>Hi rows (Hr N s.heap v)) ho ∅ yQ (λs' tk=>?_) (λx hx y hy s' tk=>?_) λus h' tk c po so g kp=>?_
  ·exact O7 hl ∅ (λi v r e1 e2=>(ht i v r e1 e2).mono (k3 s' tk)) ⟨rfl,tk⟩
  ·obtain⟨r,m1,t1⟩:=mr x hx;obtain⟨q,m2,t2⟩:=mr y hy;refine Wo hu (t1.mono (k3 s' tk)) (t2.mono (k3 s' tk)) {?_,tk};rw[uo t1,uo t2,Gq m1 m2]
  ·have er:us.map (Hr N s.heap)=bU rows:=by
    have ev:vs.map (Hr N s.heap)=rows:=by refine pk (by simpa using hl) λi h1 h2=>?_;rw[k9];exact uo (ht i _ _ (ao _) (ao h2))
    refine oZ (by rw[<-ev];exact po.map _) (c8.mpr (so.imp_of_mem λ{x y} hx hy q=>?_));obtain⟨r,m1,t1⟩:=mr x (po.mem_iff.mp hx);obtain⟨p,m2,t2⟩:=mr y (po.mem_iff.mp hy);rw[uo t1,uo t2]at q⊢;have z:=Gq m2 m1;rw[bj (yr.mpr q)]at z;show(!cT _ _)=true;rw[<-z];rfl
   refine k h' tk c us g kp po λi v r e1 e2=>?_;rw[<-er,aJ,e1]at e2;cases e2;obtain⟨r,m1,t1⟩:=mr v (po.mem_iff.mp (aG e1));rw[uo t1];exact t1
end
end vY
namespace L2
open PySem PySem.Spec PyProof.Rows vY
section
variable{X:Cx}
def ox(K:Frag)(N:List Str->Int)(H:Hp)(v:V)(r:List Str):Prop:=∃p g,v=.ref p/\bq K H p [.ref g,.int (N r)]/\bq K H g (r.map V.str)
def Inv.pair{pins:List (Addr×Obj)}{Z:St}{H:Hp}{s:Shared}(I:Inv X pins Z H s){N:List Str->Int}{p:Addr}{r:List Str}(h:ox X.K N H (.ref p) r):gK N s.heap (.ref p) r:=by
 obtain⟨_,g,e,h1,h2⟩:=h;cases e;obtain⟨aT,rv,⟨o,e,c,n,d⟩,_⟩:=I.tuple h1;have t:=(I.row h2).1
 match aT,rv with
 |_,.cons ra (.cons ⟨tk,rb⟩ .nil)=>
  cases ra;cases rb;exact{p,o,_,n,g,tk,rfl,e,c,d,by simp,t}
def Je(hu:X.A.units+96<cLine):j6 X (.builtin "sorted") (λxs H Q=>∃p ys rows N,xs=[.ref p]/\bw X.K H p ys/\Paired (ox X.K N H) ys rows/\rows.length<1000000/\∀l zs,H l=none->Paired (ox X.K N H) zs (bU rows)->(∀z∈zs,z∈ys)->Q (.ref l) (upd H l (.lst zs))):=by
 intro pins s Z H xs us Q I r h;obtain⟨p,ys,rows,N,rfl,hq,hr,yQ,q⟩:=h;obtain⟨u,rfl,rx⟩:=l9 r;cases rx;obtain⟨aT,r',pl,hz⟩:=I.list hq;obtain⟨bs,rfl,rfl,lb,hb⟩:∃bs:List Addr,aT=bs.map Value.ref/\ys=bs.map V.ref/\bs.length=rows.length/\∀(i:Nat) z b,rows[i]?=some z->bs[i]?=some b->ox X.K N H (.ref b) z:=by
  clear q yQ hq pl hz
  induction hr generalizing aT with
  |nil=>cases r';exact{[],rfl,rfl,rfl,λi z b e=>by simp at e}
  |@cons y zs ys rows h _ ih=>
   cases r' with
   |@cons _ u _ us ru q=>
    obtain⟨bs,h1,h2,h3,h4⟩:=ih us q;obtain⟨a,g,rfl,h5⟩:=h;cases(show u=Value.ref a from ru);refine{a::bs,by rw[h1];rfl,by rw[h2];rfl,by simp[h3],λi z b e1 e2=>?_};cases i with
    |zero=>cases e1;cases e2;exact⟨a,g,rfl,h5⟩
    |succ i=>exact h4 i z b (by simpa using e1) (by simpa using e2)
 refine jk BM zI Ao (AD _) ?_;unfold Builtin.«sorted»;refine ae (m:=checkCount "sorted" 1 1 _) (af ?_);refine ae (collect_list pl.isList ?_ (by rw[ag,bP];lia));have kp:∀b o,s.heap.get? b=some o->((s.heap.push (seqObj "list" #[] 0)).update s.heap.objs.size (Obj.mapSeq (·++(bs.map Value.ref).toArray))).get? b=some o:=λb o e=>by rw[Heap.get?_update_ne _ _ _ _ (aI (aB e))];exact ah _ e
 have I1:=I.kept (t':=s.toks) kp;refine ae (sI ?_ (by rw[ag,bP];lia));generalize ({s with heap:=(s.heap.push (seqObj "list" #[] 0)).update s.heap.objs.size (Obj.mapSeq (·++(bs.map Value.ref).toArray)),toks:=s.toks}:Shared)=s1 at I1⊢;have IG:(s1.heap.push (seqObj "list" (bs.map Value.ref).toArray 0)).get? s1.heap.objs.size=some (seqObj "list" (bs.map Value.ref).toArray 0):=aD _ rfl;have at1:∀(i:Nat)(v:Value)(r:List Str),(bs.map Value.ref)[i]?=some v->rows[i]?=some r->gK N s1.heap v r:=λi v r e1 e2=>by rw[aJ]at e1;obtain⟨b,e3,rfl⟩:=a9.mp e1;exact I1.pair (hb i r b e2 e3)
 refine ae (bK (ba slot_list_sort ⟨_,IG,rfl⟩ entry_list_sort (LZ (N:=N) (s:={s1 with heap:=s1.heap.push (seqObj "list" (bs.map Value.ref).toArray 0)}) ?_ IG (by rw[ag];exact lb) (λi v r e1 e2=>(at1 i v r e1 e2).mono λb o _ e=>ah _ e) (by rw[ag];lia) λh' tk c us g kp pm qq=>{_,rfl,?_}) (args_list_sort _)))
 ·show X.A.units+1+1<cLine;lia
 obtain⟨cs,rfl,pc⟩:=Kz pm;have lc:cs.length=rows.length:=by rw[pc.length_eq,lb]
 have lz:(cs.map V.ref).length<=sizeLine:=by rw[ag,bP];lia
 have uN:∀b o,s1.heap.get? b=some o->h'.get? b=some o:=λb o e=>kp b o (aI (aB e)) (ah _ e);refine af {_,rfl,?_};refine{.ref s1.heap.objs.size,_,I1.laid (t':=tk) uN (ak _) (show du X.prog X.w _ _ _ (.lst (cs.map V.ref))from{lz,cs.map Value.ref,c,Ek cs,g}),rfl,q _ (cs.map V.ref) (I1.br.fresh (ak _)) ?_ λz hz=>(pc.map _).mem_iff.mp hz};have key:∀(i:Nat) z b,(bU rows)[i]?=some z->cs[i]?=some b->ox X.K N H (.ref b) z:=λi z b e1 e2=>by
  have t:=qq i (.ref b) z (by rw[aJ,e2];rfl) e1;obtain⟨j,hj⟩:=fm.mp (pc.mem_iff.mp (aG e2));have oI:j<rows.length:=by have:=(ar.mp hj).1;lia
  have hr:=hb j _ b (ao oI) hj;have t2:gK N (s1.heap.push (seqObj "list" (bs.map Value.ref).toArray 0)) (.ref b) rows[j]:=(I1.pair hr).mono λb o _ e=>ah _ e;rw[<-t2.one t];exact hr
 have lcs:cs.length=(bU rows).length:=by rw[lc,(df rows).length_eq]
 clear qq pm pc lz lc g q;generalize bU rows=sr at key lcs
 induction cs generalizing sr with
 |nil=>
  cases sr with
  |nil=>exact .nil
  |cons _ _=>cases lcs
 |cons b cs ih=>
  cases sr with
  |nil=>cases lcs
  |cons z sr=>exact .cons (key 0 z b rfl rfl) (ih sr (λi z' b' e1 e2=>key (i+1) z' b' (by simpa using e1) (by simpa using e2)) (by simpa using lcs))
end
end L2
namespace jn
open PySem PySem.Spec PyProof.Rows L2 vY
seal L2.PE L2.PT L2.PW L2.PA L2.PS L2.j9 L2.PI L2.PO L2.AK L2.PG L2.AL
section
variable{P:Program}{w:World}{K:Frag}{mg:Str->Option Value}{base:Heap}
def Ot{X:Cx}{o i:Expr}{pos:Pos}{td ty:TE}(hu:X.A.units+101<cLine)(ho:PE X o td)(hi:PE X i ty)(hs:Nm i)(h1:X.prog=P:=by rfl)(h2:X.w=w:=by rfl)(h3:X.K=K:=by rfl):PE X (.Subscript o i pos) (GV P w K td ty):=by subst h1 h2 h3;exact Hx hu ho hi hs
def Fx(tab:gH K H tb fs)(br:jj hz ats)(hi:∀row,row∈rows↔∃g,AskP.iA isUnk (dbT fs) ats g/\row=hz.map g):Ee (bU rows):=λr hr z uP=>by
 obtain⟨g,hg,rfl⟩:=(hi r).mp ((df rows).mem_iff.mp hr);obtain⟨t,ht,rfl⟩:=au.mp uP;cases u:isUnk t with
 |false=>rw[hg.1 t u];exact(pA (br.2 t ht).1).1
 |true=>
  have:=(br.2 t ht).2 u;unfold cB at this;obtain⟨ts,kN,h⟩:=k7.mp this;obtain⟨b,hb,rfl⟩:=au.mp kN;exact vB (((tab.good b.1).2 _ ((iw _ _).mp (hg.2 b hb))).2.2 _ (au.mpr ⟨t,h,rfl⟩))
def VT{fs:List En}{hz:List Str}{ats:List (Str×List Str)}{rows:List (List Str)}(nd:rows.Nodup)(hi:∀row,row∈rows↔∃g,AskP.iA isUnk (dbT fs) ats g/\row=hz.map g)(h2:2<=rows.length):∀r∈rows,r≠[]:=λr hr er=>by
 obtain⟨g,_,eg⟩:=(hi r).mp hr;rw[er]at eg;have ez:=lX.mp eg.symm;have:=iF (m:=([[]]:List (List Str))) nd λy hy=>by obtain⟨g',_,e'⟩:=(hi y).mp hy;rw[e',ez];exact aA
 rw[d9]at this;lia
def vZ(K:Frag)(H:Hp)(v:V)(x:List Str×Int):Prop:=∃p g ys,v=.ref p/\H p=some (.tup [.ref g,.int x.2])/\H g=some (.tup ys)/\bq K H g (x.1.map V.str)
def Mf{H H':Hp}{v:V}{x:List Str×Int}(h:vZ K H v x)(s:bD H H'):vZ K H' v x:=by obtain⟨p,g,ys,e,h1,h2,h3⟩:=h;exact{p,g,ys,e,s _ _ h1,s _ _ h2,dF h3 s}
def BD{H H':Hp}{zs:List V}{l:Cm}(h:Paired (vZ K H) zs l)(s:bD H H'):Paired (vZ K H') zs l:=Paired.sN h λ_ _ h=>Mf h s
def RL{d:Addr}{m:Cm}{H:Hp}{Z:L2.St}{Q:VK}(e:Z[2]?=some (some (.ref d)))(rc:Jk P w K H d m)(fL:m.length<=500000)(OB:∀r∈m.map (·.1),pO r)(gE:2<=(m.map (·.1)).length->∀r∈m.map (·.1),r≠[])
  (k:∀(l:Addr)(zs:List V)(H':Hp),bD H H'->H l=none->H' l=some (.lst zs)->Paired (vZ K H') zs ((bU (m.map (·.1))).map λr=>(r,cnt m r))->Q (.ref l) H'):
  A5 (UG K (XB (λxs H Q=>∃(a:Addr)(kvs:List (NK×Addr×V))(rows:List (List Str)),xs=[.ref a]/\ff P w K H a kvs/\kvs.map (·.1)=rows.map dH/\(2<=rows.length->∀r∈rows,r≠[])/\rows.length<1000000/\SortedTo K H (kvs.map λp=>.ref p.2.1) rows Q) (pV (B7 2) B8))) [2] A4 (Xq (pV (B7 0) (pV (GV P w K (B7 1) (B7 0)) B8))) Z H Q:=by
 obtain⟨kvs,ha,em,gD⟩:=rc;have e1:kvs.map (·.1)=(m.map (·.1)).map dH:=by have:=cu (List.map Prod.fst) em;unfold qN at this;rw[bW,bW]at this;rw[bW];exact this
 have lm:(m.map (·.1)).length<=500000:=by rw[ag];exact fL
 refine{_,e,d,kvs,m.map (·.1),rfl,ha,e1,gE,by lia,λl zs hl hr hm=>?_};have s1:=aN hl (.lst zs);have mB:upd H l (.lst zs) l=some (.lst zs):=aw;have tF:=ip hr s1;have ats:∀{H':Hp},bD H H'->ff P w K H' d kvs:=λs=>by obtain⟨u,hu⟩:=ha.some;exact ha.tp (eA.same s) (by rw[hu,s _ _ hu])
 generalize (upd H l (.lst zs))=H1 at s1 mB tF⊢;have lz:=hr.length;have lr:(bU (m.map (·.1))).length<=500000:=by rw[(df _).length_eq];exact lm
 refine{l,rfl,{_,bw.of mB},kR (λj ys H2=>bD H1 H2/\j<=(bU (m.map (·.1))).length/\Paired (vZ K H2) ys (((bU (m.map (·.1))).take j).map λr=>(r,cnt m r))) (by rw[lz];exact cS lr (by decide)) {λ_ _ e=>e,aR _,.nil} ?_ ?_ ?_}
 ·rintro j ys H2 hj ⟨s2,_,pp⟩;have:=bh pp;rw[ag,aU]at this;exact{bw.of (s2 _ _ mB),by lia}
 ·rintro j x ys H2 N hx ⟨s2,hj,pp⟩ hN;obtain⟨r,vQ,a,rfl,Pz⟩:=Paired.at' tF hx;have oI:=(ar.mp vQ).1;have rm:=(df _).mem_iff.mp (aG vQ);obtain⟨p,hp,ep⟩:=au.mp (hm (.ref a) (aG hx));cases ep;obtain⟨xs,UJ⟩:=gD p hp;have pC:=s1.trans s2;have hv:valN kvs (dH r)=some (.int (cnt m r)):=by
   rw[A3 em];unfold cnt;obtain⟨x,hx,ex⟩:=au.mp rm;cases q:m.find? (λx=>decide (x.1=r))with
   |none=>exact absurd (aY ex) (AV.mp q x hx)
   |some y=>rfl
  have es:(some (V.ref p.2.1)::slotsOf [2] Z)[1]?=some (some (.ref d)):=by show some ((Z[2]?).getD none)=_;rw[e];rfl
  refine h9 ?_;refine{_,rfl,_,es,_,rfl,d,p.2.1,kvs,dH r,_,rfl,rfl,ats pC,uO (dF Pz s2) (OB r rm),hv,by show 2<=sizeLine;decide,λtp Zc=>hN _ _ ?_};have s3:=aN Zc (.tup [V.ref p.2.1,V.int (cnt m r)]);refine{s2.trans s3,oI,?_};rw[bx,vQ,cq,aH];exact(BD pp s3).snoc {tp,p.2.1,xs,rfl,aw,s3 _ _ (pC _ _ UJ),dF Pz (s2.trans s3)}
 rintro ys H2 ⟨s2,_,pp⟩ l2 jF;rw[lz,bu]at pp;have s3:=aN jF (.lst ys);exact k l2 ys _ (s1.trans (s2.trans s3)) ((s1.trans s2).free jF) aw (BD pp s3)
inductive TN(K:Frag)(vs:List V)(H:Hp)(Q:VK)(_x3:XK):Prop
 |mk (v:V) (tb:Addr) (fs:List En) (hz:List Str) (ats:List (Str×List Str)) (_:vs=[v,.ref tb]) (_:oK H v hz ats) (_:qG ats) (_:jj hz ats) (_:ats.length<=6) (_:gH K H tb fs) (_:∀(l:Addr)(zs:List V)(rows:List (List Str))(H':Hp),bD H H'->H l=none->H' l=some (.lst zs)->rows.Nodup->(∀row,row∈rows↔∃g,AskP.iA isUnk (dbT fs) ats g/\row=hz.map g)->Paired (vZ K H') zs ((bU rows).map λr=>(r,num fs hz ats r))->Q (.ref l) H')
def Q4{m:Cm}{fs:List En}{hz:List Str}{ats:List (Str×List Str)}(nd:(m.map (·.1)).Nodup)(ct:∀x∈m,x.2=num fs hz ats x.1):(bU (m.map (·.1))).map (λr=>(r,cnt m r))=(bU (m.map (·.1))).map λr=>(r,num fs hz ats r):=bz λr hr=>by obtain⟨x,hx,e⟩:=au.mp ((df _).mem_iff.mp hr);rw[QD nd hx e,ct x hx,e]
def Dg:cv ["question","tables","counts"] ["question","tables"] (bI zC):=jE (by decide+kernel)
def Mm{f:Addr}{fd:FuncData}(F:fb K "counted" "counted" zC f fd)(T:Txt K mg)(D:Da6 P w K mg base):c6 P w K mg base fD 8 f fd ["question","tables"] (TN K):=by
 refine F.ok Dg (λ_ _ _ _ h=>by cases h;subst_vars;rfl) (λc7 A outer s H vs Q E hr h=>?_);obtain⟨v,tb,fs,hz,ats,rfl,hq,good,br,la,tab,k⟩:=h;have hN:=vT hr;refine{_,(aO (uD (i:=2) Dg.nd rfl (Or.inr rfl) (cl D.F7 hr (eK (pv 0) (pv 1))))
   (bp (cL (jq rfl (eG (fs:=["counts"]) (fr:=[2])) (gn (cQ (Ar hr.hd) rfl T.xS (by decide+kernel) (cw (pv 2)))) (λ_ _ _ _=>(ir (eK (pv 0) (Ot hN (pv 1) (pv 0) (λ_ _=>rfl))))))))),?_}
 refine{_,rfl,_,rfl,v,tb,fs,hz,ats,rfl,hq,good,br,la,tab,λd m H1 s1 rc cm=>?_};refine RL rfl rc cm.fL (λr mz=>Fx tab br cm.iff r ((df _).mem_iff.mpr mz)) (VT cm.nd cm.iff) λl zs H2 s2 uS jF pp=>?_;rw[Q4 cm.nd cm.ct]at pp;exact k l zs _ H2 (s1.trans s2) (s1.free uS) jF cm.nd cm.iff pp
def OM(h:q none H):Kg Z H q:=h
def vW(h:dR K f H)(s:bD H H'):dR K f H':=by
 obtain⟨a,ns,x,y,z,hf,h1,h2,h3,hS,hn⟩:=h;refine{a,ns,x,y,z,s _ _ hf,h1,h2,h3,?_,hn};rcases hS with⟨ob,h⟩|h
 ·exact .inl {ob,s _ _ h}
 ·exact .inr h
def Tg.r(h:Tg f H d es):gH K H d es:={h.2.1,h.2.2.1,λe he=>by obtain⟨_,_,h3,h4,h5,h6⟩:=h.2.2.2.2 e he;exact{h3,Rr h4,h6,h5}}
def Kr(ha:a.Nodup)(hb:b.Nodup)(h:∀r,r∈a↔r∈b):bU a=bU b:=by rw[B6 ha h,B6 hb λr=>rG]
def oK.ext{f:Addr}{H H':Hp}{v:V}{hz:List Str}{ats:List (Str×List Str)}(h:oK H v hz ats)(t:eE H H'):oK H' v hz ats:=by obtain⟨q,hd,a,vs,e,h1,h2,h3,h4⟩:=h;exact{q,hd,a,vs,e,t _ _ h1,t _ _ h2,t _ _ h3,h4.keep t}
def Rq(tab:gH K H tb fs)(br:jj hz ats){rows:List (List Str)}(nd:rows.Nodup)(hi:∀row,row∈rows↔∃g,AskP.iA isUnk (dbT fs) ats g/\row=hz.map g):rows.length<1000000:=by
 have h4:=br.1;have:=AskP.fL (A:=cV++CQ) (k:=hz.length) nd λr hr=>by
  obtain⟨g,hg,rfl⟩:=(hi r).mp hr;refine{ag _,λz uP=>?_};obtain⟨t,ht,rfl⟩:=au.mp uP;cases u:isUnk t with
  |false=>rw[hg.1 t u];exact bN _ (br.2 t ht).1
  |true=>
   have:=(br.2 t ht).2 u;unfold cB at this;obtain⟨ts,kN,h⟩:=k7.mp this;obtain⟨b,hb,rfl⟩:=au.mp kN;exact b6 _ (((tab.good b.1).2 _ ((iw _ _).mp (hg.2 b hb))).2.2 _ (au.mpr ⟨t,h,rfl⟩))
 refine cS this (cS (jg (by decide) h4) ?_);decide+kernel
def Fd{es xl:List En}{ats CP:List (Str×List Str)}(he:∀a,a∈CP↔a∈ats)(hd:∀z r,r∈g7 xl z↔r∈g7 es z){rows:List (List Str)}{hz:List Str}(h:∀row,row∈rows↔∃g,AskP.iA isUnk (dbT es) ats g/\row=hz.map g)(row:List Str):row∈rows↔∃g,AskP.iA isUnk (dbT xl) CP g/\row=hz.map g:=
 (h row).trans (uW λg=>and_congr_left λ_=>qA λ_=>{λh a ha=>(iw _ _).mpr ((hd _ _).mpr ((iw _ _).mp (h a ((he a).mp ha)))),λh a ha=>(iw _ _).mpr ((hd _ _).mp ((iw _ _).mp (h a ((he a).mpr ha))))})
def OI{es xl:List En}{ats CP:List (Str×List Str)}{hz:List Str}{H:Hp}{tb:Addr}(tab:gH K H tb xl)(br:jj hz CP)(he:∀a,a∈CP↔a∈ats)(hd:∀z r,r∈g7 xl z↔r∈g7 es z)(r:List Str):num es hz ats r=num xl hz CP r:=
 have hv:∀a∈CP,∀r∈g7 xl a.1,∀x∈r,x∈cV:=λa _ r hr x hx=>((tab.good a.1).2 r hr).2.2 x hx
 (AskP.C3 (λa=>(he a).symm) (λa _ r=>hd a.1 r) gc gc (fY _) (fY _) (by decide) (by decide) hv hv (λt ht u=>kX.mpr {u,(br.2 t ht).2 u}) r).symm
def aar(xs:List V)(j:Nat):CG xs none (some (j:Int))=xs.take j:=by
 unfold CG;rw[HT.Rm,HT.Ku,List.drop_zero,Nat.sub_zero];by_cases h:j<=xs.length
 ·rw[gL h]
 ·rw[Nat.min_eq_right ∅,bu,dn ∅]
def NZ{a:Addr}{xs:List V}{j:Nat}{H:Hp}{Q:VK}(h:H a=some (.tup xs))(k:∀p H',bD H H'->H' p=some (.tup (xs.take j))->Q (.ref p) H'):X0 K (.ref a) none (some (j:Int)) H Q:=by
 refine{a,xs,rfl,bq.of h,λc=>k a H (bD.refl H) ?_,λ_ p hp=>?_}
 ·rw[HT.Ku]at c;rw[dn ∅];exact h
 ·rw[aar];exact k p _ (aN hp _) aw
def pairD(x:List Str×Int):PyData:=.tuple [mP x.1,.int x.2]
def pZ(l:Cm):PyData:=.list (l.map pairD)
def Qp{N:List Str->Int}{H:Hp}{p:Addr}{zs:List V}{rows:List (List Str)}(h:bw K H p zs)(hp:Paired (ox K N H) zs rows):Dt K H (pZ (rows.map λr=>(r,N r))) (.ref p):=by
 unfold pZ;rw[Dt];refine{p,zs,rfl,h,?_};clear h
 induction hp with
 |nil=>rw[gM,gM,jZ]
 |cons q _ ih=>
  obtain⟨t,g,rfl,h1,h3⟩:=q;rw[aQ,aQ,jZ];refine{_,_,rfl,?_,ih};unfold pairD;rw[Dt];refine{t,_,rfl,h1,?_};rw[jZ];refine{_,_,rfl,Qo ⟨g,rfl,h3⟩,?_};rw[jZ];refine{_,_,rfl,by rw[Dt],?_};rw[jZ]
theorem FH:∀{l:Cm},(∀x∈l,pO x.1)->PyData.canLayAll0 (l.map pairD)=true/\PyData.depthAll (l.map pairD)<=2
 |[],_=>{rfl,by simp[PyData.depthAll]}
 |z::r,h=>by obtain⟨h2,h3⟩:=FH λy hy=>h y (az _ hy);have h1:=Cr z.1 (h z aA);refine{by simp[PyData.canLayAll0,PyData.canLay0,pairD,mP,h1,h2],?_};simp[PyData.depthAll,PyData.depth,pairD,mP,yc];lia
def G7{l:Cm}(h:∀x∈l,pO x.1):SeqAt.shaped (pZ l)=true/\PyData.eqv (pZ l) (pZ l)=true:=by obtain⟨h1,h2⟩:=FH h;refine{?_,SeqAt.eqv_refl _ (by simp[pZ,PyData.canLay0,h1])};simp[SeqAt.shaped,pZ,PyData.canLay0,PyData.depth,h1];lia
def Ex{N:List Str->Int}{H:Hp}{zs:List V}{rows:List (List Str)}(h:Paired (vZ K H) zs (rows.map λr=>(r,N r))):Paired (ox K N H) zs rows:=by
 induction rows generalizing zs with
 |nil=>cases h;exact .nil
 |cons r rows ih=>
  cases h with
  |cons q h=>
   obtain⟨p,g,ys,e,h1,_,h3⟩:=q;exact .cons {p,g,e,bq.of h1,h3} (ih h)
def mQ{N:List Str->Int}{H H':Hp}{zs:List V}{rows:List (List Str)}(h:Paired (ox K N H) zs rows)(s:bD H H'):Paired (ox K N H') zs rows:=Paired.sN h λ_ _ ⟨p,g,e,h1,h2⟩=>{p,g,e,dF h1 s,dF h2 s}
def Kn{H:Hp}{a f:Addr}{xs zs us:List V}(h:bq K H a xs)(hf:H f=some (.lst zs)):bq K (upd H f (.lst us)) a xs:=by
 rcases h with(h|⟨o,h⟩)|h
 ·exact .inl (.inl (by rw[ax (rM h hf λz=>by cases z)];exact h))
 ·exact .inl (.inr {o,by rw[ax (rM h hf λz=>by cases z)];exact h})
 ·exact .inr h
def WR{a b:Addr}{xs ys:List V}{H:Hp}{Q:VK}(h:bq K H a xs)(h':bq K H b ys)(l:xs.length+ys.length<=sizeLine)(k:∀p H',bD H H'->bq K H' p (xs++ys)->Q (.ref p) H'):Gr K (.ref a) (.ref b) H Q:=by
 refine{a,b,xs,ys,rfl,rfl,h,h',l,λe=>k b H (bD.refl H) ?_,λ_ e=>k a H (bD.refl H) ?_,λ_ _ p hp=>k p _ (aN hp _) (bq.of aw)}
 ·rw[e,iL];exact h'
 ·rw[e,cP];exact h
def xn{a b:Addr}{xs ys:List V}{H:Hp}{Q:VK}(h:H a=some (.tup xs))(h':H b=some (.tup ys))(l:xs.length+ys.length<=sizeLine)(k:∀p H',bD H H'->H' p=some (.tup (xs++ys))->Q (.ref p) H'):Gr K (.ref a) (.ref b) H Q:=by
 refine{a,b,xs,ys,rfl,rfl,bq.of h,bq.of h',l,λe=>k b H (bD.refl H) ?_,λ_ e=>k a H (bD.refl H) ?_,λ_ _ p hp=>k p _ (aN hp _) aw}
 ·rw[e,iL];exact h'
 ·rw[e,cP];exact h
def f9(z:Str):Str:=if isUnk z=true then("?q":Str)++Txt.slice z (some 1) (some 4)else z
def uG(ats:List (Str×List Str)):List (Str×List Str):=ats.map λa=>(a.1,a.2.map f9)
def u5(h:z∈gf):∃c:Nat,z.cps.toList[0]?=some c/\decide (V.str ⟨#[c]⟩=V.str "?")=isUnk z/\(Txt.slice z (some 1) (some 4)).length<=1000/\f9 z∈CQ/\isUnk (f9 z)=isUnk z/\(isUnk z=true->f9 z∈sA/\z∈js):=by unfold gf js cV at h;simp only[ie,iL,aE,kZ,xQ]at h;rcases h with rfl|rfl|rfl|rfl|rfl|rfl|rfl|rfl|rfl|rfl|rfl|rfl|rfl|rfl|rfl<;>exact{_,rfl,by decide+kernel}
inductive Eo(vs:List V)(H:Hp)(Q:VK)(_x3:XK):Prop
 |mk (z:Str) (_:vs=[.str z]) (_:z∈gf) (_:Q (.str (f9 z)) H)
def L3:cv ["_law_term"] ["_law_term"] (bI zy):=jE (by decide+kernel)
def RQ{f:Addr}{fd:FuncData}(F:fb K "_law_other" "_law_other" zy f fd)(T:Txt K mg):c6 P w K mg base fD 1 f fd ["_law_term"] Eo:=by
 refine F.ok L3 (λ_ _ _ _ h=>by cases h;subst_vars;rfl) (λc7 A outer s H vs Q E hr h=>?_);obtain⟨z,rfl,hz,k⟩:=h;refine{_,(aO (ka (fH Ba (cA YO (pv 0) aV (λ_ _=>rfl)) dQ (iu _)) (bp (cL (dh Mj dQ (xN NY (pv 0) (wN aV) (wN aV))))) gP)
   (bp (cL (pv 0)))),?_}
 obtain⟨c,hc0,ac0,hl,_⟩:=u5 hz;have yJ:=bg (bH (pA (b6 _ hz)).2.1);refine{_,rfl,_,_,_,rfl,rfl,yJ,(jN (j:=0) hc0:u4 z.cps.toList 0=some c),rfl,?_};rw[ac0];unfold f9 at k;refine{_,rfl,gZ (λc1=>?_) (λc1=>?_)}
 ·rw[ay c1]at k;exact{_,rfl,_,rfl,_,rfl,z,rfl,yJ,_,_,rfl,rfl,aF (yZ hl _) (by decide),k}
 ·rw[aq c1]at k;exact⟨_,rfl,k⟩
def Jb{a:Addr}{ts:List Str}{H:Hp}{Z:L2.St}{R:Addr->List V->Hp->Prop}(ht:H a=some (.tup (ts.map V.str)))(hl:ts.length<=100)(kN:∀z∈ts,z∈gf)(k:∀l,H l=none->R l ((ts.map f9).map V.str) H):yA (Jm K a) [] A4 (LX Eo [] E0 (pV (B7 0) B8)) Z H R:=by
 refine CH (K:=K) (a:=a) (xs:=ts.map V.str) (λi ys H2=>H2=H/\i<=ts.length/\ys=((ts.take i).map f9).map V.str) (by rw[ag];exact bH ∅) {rfl,aR _,rfl} ?_ ?_ ?_
 ·rintro i ys H2 hi ⟨rfl,_,rfl⟩;refine{bq.of ht,?_};rw[ag,ag,aU];lia
 ·rintro i x ys H2 N hc ⟨rfl,hi,rfl⟩ hN;obtain⟨z,hz,rfl⟩:=jM hc;refine h9 {_,rfl,z,rfl,kN z (aG hz),hN _ _ {rfl,(ar.mp hz).1,?_}};rw[bx,hz,aH,aH];rfl
 ·rintro ys H2 ⟨rfl,_,rfl⟩ l mV;rw[ag,bu];exact k l mV
inductive Kq(vs:List V)(H:Hp)(Q:VK)(_x3:XK):Prop
 |mk (v:V) (hz:List Str) (ats:List (Str×List Str)) (_:vs=[v]) (_:oK H v hz ats) (_:Good ats) (_:ats.length<=8) (_:hz.length<=4) (_:(∀z∈hz,z∈gf)) (_:∀(r:Addr)(H':Hp),bD H H'->oK H' (.ref r) (hz.map f9) (uG ats)->Q (.ref r) H')
structure Dot(P:Program)(w:World)(K:Frag)(mg:Str->Option Value)(base:Heap):Prop where
 K4:eC P w K mg base 1 "_law_other" ["_law_term"] Eo
def tX:cv ["_law_question_here","_law_atoms","_law_name","_law_terms"] ["_law_question_here"] (bI zB):=jE (by decide+kernel)
def RU{f:Addr}{fd:FuncData}(F:fb K "_law_apart" "_law_apart" zB f fd)(T:Txt K mg)(D:Dot P w K mg base):c6 P w K mg base fD 2 f fd ["_law_question_here"] Kq:=by
 refine F.ok tX (λ_ _ _ _ h=>by cases h;subst_vars;rfl) (λc7 A outer s H vs Q E hr h=>?_);obtain⟨v,hz,ats,rfl,⟨q,h0,aa,ij,rfl,hq,hh0,IW,sQ⟩,good,l8,h4,hh,k⟩:=h;have la:ij.length=ats.length:=bh sQ;refine{_,(aO (gk 1 tX (hJ ju))
   (aO (hG bZ rfl (uF (cA fK (pv 0) aV (λ_ _=>rfl))) (lL rfl (cK (kA 2 tX) (cK (kA 3 tX) iD)))
   (bp (jI (mn cx d8 d6 mU (pv 1) (cw (ir (eK (pv 2) (eU dW rfl T.jJ (by decide+kernel) (cw (jq rfl (eG (fs:=[]) (fr:=[])) (uF (pv 3)) (λ_ _ _ _=>(cl D.K4 hr (cw (pv 0))))))))))))))
   (bp (cL (ir (eK (eU dW rfl T.jJ (by decide+kernel) (cw (jq rfl (eG (fs:=[]) (fr:=[])) (uF (cA fK (pv 0) aV (λ_ _=>rfl))) (λ_ _ _ _=>(cl D.K4 hr (cw (pv 0))))))) (eU dW rfl T.jJ (by decide+kernel) (cw (pv 1))))))))),?_}
 refine{(by show 0<=sizeLine;decide),λal hal=>?_};have s1:=aN hal (.lst []);refine{_,rfl,_,_,_,_,rfl,rfl,bq.of (s1 _ _ hq),rfl,aa,rfl,{ij,bq.of (s1 _ _ IW)},EI (K:=K) (a:=aa) (xs:=ij) (λi Z H2=>∃(x2 x3:Option V)(ys:List V),Z=[some (.ref q),some (.ref al),x2,x3]/\bD H H2/\H2 al=some (.lst ys)/\eI H2 ys (uG (ats.take i))/\i<=ats.length) {none,none,[],rfl,s1,aw,.nil,aR _} (λi Z H2 _ hq=>by(obtain⟨_,_,_,_,sm,_⟩:=hq;exact bq.of (sm _ _ IW))) ?_ ?_}
 ·rintro i x Z H2 hx ⟨x2,x3,ys,rfl,s2,FY,hA,hi⟩;obtain⟨a,ha,p,t,rfl,hp,ht⟩:=Paired.at sQ hx;have bR:i<ats.length:=(ar.mp ha).1;obtain⟨l4,abf,_,_⟩:=good a (aG ha);have ly:ys.length=i:=by have:=bh hA;unfold uG at this;rw[ag,aU]at this;lia
  refine{p,_,rfl,bq.of (s2 _ _ hp),rfl,_,_,rfl,_,_,rfl,rfl,?_};refine{_,rfl,.inl {rfl,_,bw.of FY},_,rfl,_,rfl,t,rfl,{_,bq.of (s2 _ _ ht)},Jb (K:=K) (s2 _ _ ht) ∅ abf λl hl=>{l,_,rfl,.inl {bw.of aw,λtt lN=>{(by show 2<=sizeLine;decide),λpp hpp=>?_}}}};have s3:=((aN hl (.lst ((a.2.map f9).map V.str))).trans (aN lN (.tup ((a.2.map f9).map V.str)))).trans (aN hpp (.tup [V.str a.1,V.ref tt]));have Iu:=(aN hpp (.tup [V.str a.1,V.ref tt])) _ _ (aw (H:=upd H2 l (.lst ((a.2.map f9).map V.str))) (a:=tt) (o:=.tup ((a.2.map f9).map V.str)));have Zo:upd (upd (upd H2 l (.lst ((a.2.map f9).map V.str))) tt (.tup ((a.2.map f9).map V.str))) pp (.tup [V.str a.1,V.ref tt]) pp=some (.tup [V.str a.1,V.ref tt]):=aw;generalize upd (upd (upd H2 l (.lst ((a.2.map f9).map V.str))) tt (.tup ((a.2.map f9).map V.str))) pp (.tup [V.str a.1,V.ref tt])=H3 at s3 Iu Zo⊢;have BU:=s3 _ _ FY;refine{_,_,_,rfl,rfl,BU,bH ∅,?_};have tp:eE H3 (upd H3 al (.lst (ys++[V.ref pp]))):=(eE.refl H3).lst BU _;refine{_,_,_,rfl,λb u e=>?_,aw,?_,bR}
  ·rw[ax (aX e hal)];exact s3 _ _ (s2 _ _ e)
  ·rw[bx,ha];unfold uG;rw[cq,aH];exact Paired.Dd (eI.keep ((eE.of s3).trans tp) hA) {pp,tt,rfl,tp _ _ Zo,tp _ _ Iu}
 ·rintro Z H2 ⟨x2,x3,ys,rfl,s2,FY,hA,_⟩;rw[la,bu]at hA;refine{_,rfl,_,_,_,_,rfl,rfl,bq.of (s2 _ _ hq),rfl,h0,rfl,{_,bq.of (s2 _ _ hh0)},Jb (K:=K) (s2 _ _ hh0) ∅ hh λl hl=>{l,_,rfl,.inl {bw.of aw,λtt lN=>?_}}};have s3:=(aN hl (.lst ((hz.map f9).map V.str))).trans (aN lN (.tup ((hz.map f9).map V.str)));have Iu:upd (upd H2 l (.lst ((hz.map f9).map V.str))) tt (.tup ((hz.map f9).map V.str)) tt=some (.tup ((hz.map f9).map V.str)):=aw;generalize upd (upd H2 l (.lst ((hz.map f9).map V.str))) tt (.tup ((hz.map f9).map V.str))=H3 at s3 Iu⊢;refine{_,rfl,al,ys,rfl,.inl {bw.of (s3 _ _ FY),λt2 Iy=>{(by show 2<=sizeLine;decide),λr mz=>?_}}};have s4:=aN Iy (.tup ys);have s5:=aN mz (.tup [V.ref tt,V.ref t2]);exact k r _ (s2.trans (s3.trans (s4.trans s5))) {r,tt,t2,ys,rfl,aw,s5 _ _ (s4 _ _ Iu),s5 _ _ aw,eI.keep (eE.of (s3.trans (s4.trans s5))) hA}
def mi(l m:List (List Str)):List (List Str):=l.flatMap λr=>m.map λq=>r++q
def Fq(l m:List (List Str)):(mi l m).length=l.length*m.length:=by
 unfold mi
 induction l with
 |nil=>exact(Nat.zero_mul _).symm
 |cons r l ih=>rw[jc,aK,ih,ag,aZ,AM,Nat.add_comm]
def OW{l m:List (List Str)}{x:List Str}:x∈mi l m↔∃r q,r∈l/\q∈m/\x=r++q:=by unfold mi;rw[dy];exact⟨λ⟨r,hr,h⟩=>let⟨q,hq,e⟩:=au.mp h;{r,q,hr,hq,e.symm},λ⟨r,q,hr,hq,e⟩=>{r,hr,au.mpr {q,hq,e.symm}}⟩
def Jy{l m:List (List Str)}{n:Nat}(hl:l.Nodup)(hm:m.Nodup)(h:∀r∈l,r.length=n):(mi l m).Nodup:=by refine kI.mpr {λv _=>c8.mpr (hm.imp λne e=>ne (jH e)),fB (λ{u v} hu hv ne x hx y hy e=>ne ?_) hl};obtain⟨t,_,rfl⟩:=au.mp hx;obtain⟨t',_,rfl⟩:=au.mp hy;exact(mG e (by rw[h u hu,h v hv])).1
inductive TM(K:Frag)(vs:List V)(H:Hp)(Q:VK)(_x3:XK):Prop
 |mk (a b:Addr) (xs ys:List V) (l m:List (List Str)) (N1 N2 N:List Str->Int) (_:vs=[.ref a,.ref b]) (_:H a=some (.lst xs)) (_:H b=some (.lst ys)) (_:Paired (ox K N1 H) xs l) (_:Paired (ox K N2 H) ys m) (_:(mi l m).length<1000000) (_:(∀r∈l,r.length<=100/\-(2^64)<N1 r/\N1 r<2^64)) (_:(∀r∈m,r.length<=100)) (_:(∀r∈l,∀q∈m,N (r++q)=N1 r*N2 q)) (_:∀(c:Addr)(zs:List V)(H':Hp),bD H H'->H' c=some (.lst zs)->Paired (ox K N H') zs (bU (mi l m))->Q (.ref c) H')
def xF:cv ["_law_one","_law_other_here","_law_found","_law_row","_law_many"] ["_law_one","_law_other_here"] (bI Ep):=jE (by decide+kernel)
def Ye(F:fb K "_law_due" "_law_due" Ep f fd)(T:Txt K mg):c6 P w K mg base fD 1 f fd ["_law_one","_law_other_here"] (TM K):=by
 refine F.ok xF (λ_ _ _ _ h=>by cases h;subst_vars;rfl) (λc7 A outer s H vs Q E hr h=>?_);obtain⟨a,b,xs,ys,l,m,N1,N2,N,rfl,ha,hb,UJ,oH,fL,hl,hm,hN,k⟩:=h;have lx:xs.length=l.length:=bh UJ;have Uw:ys.length=m.length:=bh oH;have lm:l.length*m.length<1000000:=by rw[<-Fq];exact fL
 refine{_,(aO (gk 2 xF (hJ ju))
   (aO (hG bZ rfl (gn (pv 0)) (lL rfl (cK (pD (i:=3) xF.nd rfl (Or.inr rfl)) (cK (pD (i:=4) xF.nd rfl (Or.inr rfl)) iD)))
   (bp (jI (mn cx ng m8 FA (pv 2) (cw (Cj rfl (yf (more:=["_law_times"]) (fs:=["_law_row","_law_many"]) (fr:=[3,4])) (gn (pv 1)) (λ_ _ _ _=>(Ez (K:=K) (n:=2) rfl (cK (qX (i:=0)) (cK (qX (i:=1)) iD)))) (λ_ _ _ _=>(ir (eK (dh (HI (K:=K)) (pv 2) (pv 0)) (dh zP (pv 3) (pv 1)))))))))))
   (bp (cL (cQ (Je (u96 hr)) rfl T.xS (by decide+kernel) (cw (pv 2))))))),?_}
 refine{(by show 0<=sizeLine;decide),λfl hfl=>?_};have s1:=aN hfl (.lst []);refine{_,rfl,a,rfl,{xs,bw.of (s1 _ _ ha)},o8 (K:=K) (a:=a) (xs:=xs) (λi Z H2=>∃(x3 x4:Option V)(zs:List V),Z=[some (.ref a),some (.ref b),some (.ref fl),x3,x4]/\bD H H2/\H2 fl=some (.lst zs)/\Paired (ox K N H2) zs (mi (l.take i) m)/\i<=l.length) {none,none,[],rfl,s1,aw,.nil,aR _} (λi Z H2 _ hq=>by(obtain⟨_,_,_,_,sm,_⟩:=hq;exact bw.of (sm _ _ ha))) ?_ ?_}
 ·rintro i x Z H2 hx ⟨x3,x4,zs,rfl,s2,FW,qr,_⟩;obtain⟨r,tF,p,g,rfl,hp,hg⟩:=Paired.at UJ hx;have bR:i<l.length:=(ar.mp tF).1;have rl:=aG tF;obtain⟨adp,n1,n2⟩:=hl r rl;have lz:zs.length=i*m.length:=by rw[bh qr,Fq,aU,gL (bg bR)]
  have lz1:i*m.length+m.length<=l.length*m.length:=by rw[<-AM];exact yt _ bR
  refine{p,_,rfl,dF hp s2,rfl,_,_,rfl,_,_,rfl,rfl,?_};refine{_,rfl,.inl {rfl,_,bw.of FW},_,rfl,b,rfl,{_,bw.of (s2 _ _ hb)},D6 (K:=K) (a:=b) (xs:=ys) (λj us H3=>bD H2 H3/\j<=m.length/\Paired (ox K N H3) us ((m.take j).map λq=>r++q)) (by rw[bP];lia) {bD.refl _,aR _,.nil} ?_ ?_ ?_}
  ·rintro j us H3 hj ⟨s3,_,Ir⟩;have:=bh Ir;rw[ag,aU]at this;exact{bw.of (s3 _ _ (s2 _ _ hb)),by lia}
  ·rintro j y us H3 N' hy ⟨s3,_,Ir⟩ qv;obtain⟨q,Ai,p2,g2,rfl,tG,ZT⟩:=Paired.at oH hy;have qm:=aG Ai;have vE:=s2.trans s3;refine{p2,_,_,rfl,dF tG vE,h9 {_,rfl,_,rfl,WR (dF hg vE) (dF ZT vE) (by have:=hm q qm;rw[ag,ag,bP];lia) λc H4 s4 hc=>{_,rfl,_,rfl,_,_,rfl,rfl,.inl ⟨n1,n2⟩,(by show 2<=sizeLine;decide),λt ht=>qv _ _ ?_}}};have s5:=aN ht (.tup [V.ref c,V.int (N1 r*N2 q)]);refine{s3.trans (s4.trans s5),(ar.mp Ai).1,?_};rw[bx,Ai,cq,aH];refine Paired.Dd (mQ Ir (s4.trans s5)) {t,c,rfl,bq.of ?_,?_}
   ·rw[hN r rl q qm];exact aw
   ·rw[aH];exact dF hc s5
  rintro us H3 ⟨s3,_,Ir⟩ c hc;rw[Uw,bu]at Ir;have s4:=aN hc (.lst us);have TX:=s3.trans s4;have hc4:upd H3 c (.lst us) c=some (.lst us):=aw;generalize upd H3 c (.lst us)=H4 at s4 TX hc4⊢;have IQ:=TX _ _ FW;have lu:us.length=m.length:=by rw[bh Ir,ag]
  refine{_,_,_,_,rfl,rfl,IQ,hc4,by rw[bP];lia,?_};have up:∀{v:V}{r:List Str},ox K N H4 v r->ox K N (upd H4 fl (.lst (zs++us))) v r:=λ⟨p,g,e,h1,h2⟩=>{p,g,e,Kn h1 IQ,Kn h2 IQ};refine{_,_,_,rfl,λb u e=>?_,aw,?_,bR}
  ·rw[ax (aX e hfl)];exact TX _ _ (s2 _ _ e)
  ·rw[bx,tF];unfold mi;rw[cq,y7,jc,List.flatMap_nil,cP];exact Paired.sN (qZ (mQ qr TX) (mQ Ir s4)) λ_ _ h=>up h
 ·rintro Z H2 ⟨x3,x4,zs,rfl,s2,FW,qr,_⟩;rw[lx,bu]at qr;refine{_,rfl,fl,zs,mi l m,N,rfl,bw.of FW,qr,fL,λc us hc Le _=>k c us _ (s2.trans (aN hc _)) aw (mQ Le (aN hc _))}
end
section
variable{P:Program}{w:World}{K:Frag}{mg:Str->Option Value}{base:Heap}
def xZ{ats:List (Str×List Str)}(g:Good ats):qG ats:=λa ha=>
 have⟨h1,h2,h3,h4⟩:=g a ha
 {h1,λz hz=>b6 _ (h2 z hz),h3,h4}
def SH{ats:List (Str×List Str)}(g:Good ats):qG (uG ats):=λb hb=>by obtain⟨a,ha,rfl⟩:=au.mp hb;obtain⟨h1,h2,h3,h4⟩:=g a ha;refine{by rw[ag];exact h1,λz hz=>?_,by rw[ag];exact h3,h4};obtain⟨t,ht,rfl⟩:=au.mp hz;obtain⟨_,_,_,_,q,_⟩:=u5 (h2 t ht);exact q
def IS{hz:List Str}{ats:List (Str×List Str)}(h:Jo hz ats)(n:Nat):jj (hz.take n) ats:={aF (yu _ _) h.1,λz q=>{b6 _ (h.2 z (eJ q)).1,(h.2 z (eJ q)).2}}
def rh{ats:List (Str×List Str)}{z:Str}:z∈cB ats↔∃a∈ats,z∈a.2:=by unfold cB;rw[k7];exact⟨λ⟨ts,kN,h⟩=>let⟨b,hb,e⟩:=au.mp kN;{b,hb,by rw[e];exact h},λ⟨b,hb,h⟩=>{b.2,au.mpr ⟨b,hb,rfl⟩,h}⟩
def SA{hz:List Str}{ats:List (Str×List Str)}(h:Jo hz ats)(n:Nat):jj ((hz.take n).map f9) (uG ats):={by rw[ag];exact(IS h n).1,λz q=>by obtain⟨t,ht,rfl⟩:=au.mp q;obtain⟨h1,h2⟩:=h.2 t (eJ ht);obtain⟨_,_,_,_,q1,q2,_⟩:=u5 h1;refine{q1,λu=>?_};obtain⟨a,ha,xb⟩:=rh.mp (h2 (by rw[<-q2];exact u));exact rh.mpr {_,au.mpr ⟨a,ha,rfl⟩,au.mpr ⟨t,xb,rfl⟩}}
def FX{h1 h2:List Str}{a1 a2 S:List (Str×List Str)}(k1:jj h1 a1)(k2:jj h2 a2)(l:h1.length+h2.length<=4)(hS:∀a,a∈S↔a∈a1\/a∈a2):jj (h1++h2) S:={by rw[aK];exact l,λz q=>by
 rcases aS.mp q with q|q
 ·exact{(k1.2 z q).1,λu=>let⟨a,ha,h⟩:=rh.mp ((k1.2 z q).2 u);rh.mpr {a,(hS a).mpr (.inl ha),h}}
 ·exact{(k2.2 z q).1,λu=>let⟨a,ha,h⟩:=rh.mp ((k2.2 z q).2 u);rh.mpr {a,(hS a).mpr (.inr ha),h}}}
def Nz{a1 a2:List (Str×List Str)}(g1:Good a1)(g2:Good a2):∀t∈dX (cB a1),t∉dX (cB (uG a2)):=λt h h'=>by
 obtain⟨u,a,ha,q⟩:=(gc t).mp h;obtain⟨_,b,hb,q'⟩:=(gc t).mp h';obtain⟨c,hc,rfl⟩:=au.mp hb;obtain⟨s,hs,e⟩:=au.mp q';obtain⟨_,_,_,_,_,_,p1⟩:=u5 ((g1 a ha).2.1 t q);obtain⟨_,_,_,_,_,i2,p2⟩:=u5 ((g2 c hc).2.1 s hs);have d:∀z∈js,z∉sA:=by decide+kernel
 refine d t (p1 u).2 ?_;rw[<-e];exact(p2 (by rw[<-i2,e];exact u)).1
def OH{fs:List En}{hz r:List Str}{ats:List (Str×List Str)}(g:qG ats):-(2^64)<num fs hz ats r/\num fs hz ats r<2^64:=by
 have l12:(dX (cB ats)).length<=12:=iF (m:=GJ) (fY _) λt ht=>by obtain⟨u,a,ha,q⟩:=(gc t).mp ht;exact(pA ((g a ha).2.1 t q)).2.2 u
 have f:=AskP.fL (A:=cV) (AskP.nG (un:=isUnk) (db:=g7 fs) (atoms:=ats) (us:=dX (cB ats)) (vals:=cV) (by decide) (dX (cB ats)).length) λv hv=>let⟨h1,h2,_⟩:=(AskP.uK (λt ht=>(kX.mp ht).1) _ v (ak _)).mp hv;⟨h1,h2⟩
 have f2:=aF f (aF (jg (n:=8) (by decide) l12) (show 8^12<=68719476736 by decide));unfold num;have:=AskP.Rc (l:=AskP.ku isUnk (g7 fs) ats (dX (cB ats)) cV (dX (cB ats)).length) (p:=λv=>AskP.image (dX (cB ats)) v hz=r);lia
section
variable{fs:List En}{H:Hp}{tb:Addr}{h1 h2:List Str}{a1 a2 S:List (Str×List Str)}
def RV(tab:gH K H tb fs)(k1:jj h1 a1)(k2:jj h2 a2)(vX:∀t∈dX (cB a1),t∉dX (cB a2))(hS:∀a,a∈S↔a∈a1\/a∈a2){r1 r2:List Str}(len:r1.length=h1.length):num fs (h1++h2) S (r1++r2)=num fs h1 a1 r1*num fs h2 a2 r2:=
 AskP.Nu gc gc gc (fY _) (fY _) (fY _) (by decide) vX hS (λa _ r hr x hx=>((tab.good a.1).2 r hr).2.2 x hx) (λt ht u=>kX.mpr {u,(k1.2 t ht).2 u}) (λt ht u=>kX.mpr {u,(k2.2 t ht).2 u}) len
def N9(k1:jj h1 a1)(k2:jj h2 a2)(vX:∀t∈dX (cB a1),t∉dX (cB a2))(hS:∀a,a∈S↔a∈a1\/a∈a2){l m:List (List Str)}(il:∀row,row∈l↔∃g,AskP.iA isUnk (dbT fs) a1 g/\row=h1.map g)(im:∀row,row∈m↔∃g,AskP.iA isUnk (dbT fs) a2 g/\row=h2.map g)(row:List Str):row∈mi (bU l) (bU m)↔∃g,AskP.iA isUnk (dbT fs) S g/\row=(h1++h2).map g:=by rw[AskP.Rj gc gc vX hS (λt ht u=>kX.mpr {u,(k1.2 t ht).2 u}) (λt ht u=>kX.mpr {u,(k2.2 t ht).2 u}),OW];refine uW λr=>uW λq=>?_;rw[(df l).mem_iff,(df m).mem_iff,il,im]
end
def ND{H H6:Hp}{aa sa r:Addr}{av:List V}{hz:List Str}{ats:List (Str×List Str)}(hA:eI H av ats)(ha:H aa=some (.tup av))(s6:bD H H6)(hsa:H6 sa=some (.tup ((hz.map V.str).take 2)))(hr:H6 r=none):bD H (upd H6 r (.tup [V.ref sa,V.ref aa]))/\oK (upd H6 r (.tup [V.ref sa,V.ref aa])) (.ref r) (hz.take 2) ats:=by have s7:=aN hr (.tup [V.ref sa,V.ref aa]);have XQ:=s6.trans s7;rw[<-List.map_take]at hsa;exact{XQ,r,sa,aa,av,rfl,aw,s7 _ _ hsa,XQ _ _ ha,iz hA XQ}
def Vk{H yS:Hp}{c hc d qq:Addr}{av:List V}{es:List En}{h1 h2:List Str}{a1 a2 S:List (Str×List Str)}(tab:gH K H d es)(s:bD H yS)(kQ:yS c=some (.tup av))(hA:eI yS av S)(g1:qG a1)(g2:qG a2)(k1:jj h1 a1)(k2:jj h2 a2)(l:h1.length+h2.length<=4)(hS:∀a,a∈S↔a∈a1\/a∈a2)(l5:S.length<=5)(IM:yS hc=some (.tup ((h1++h2).map V.str)))(FR:yS qq=none):
  oK (upd yS qq (.tup [V.ref hc,V.ref c])) (.ref qq) (h1++h2) S/\qG S/\jj (h1++h2) S/\S.length<=6/\gH K (upd yS qq (.tup [V.ref hc,V.ref c])) d es:=by
 have wI:=aN FR (.tup [V.ref hc,V.ref c]);exact{{qq,hc,_,_,rfl,aw,wI _ _ IM,wI _ _ kQ,iz hA wI},λa ha=>((hS a).mp ha).elim (g1 a) (g2 a),FX k1 k2 l hS,by lia,tab.same (s.trans wI)}
inductive Gm(K:Frag)(vs:List V)(H:Hp)(Q:VK)(_x3:XK):Prop
 |mk (a:Addr) (ns:List Int) (_:vs=[.ref a]) (_:u9 K H a (ns.map V.int)) (_:ns.length<=63) (_:∀H',Q (.bl true) H')
structure Dq(P:Program)(w:World)(K:Frag)(mg:Str->Option Value)(base:Heap):Prop where
 YG:eC P w K mg base 1 "_law_feed" ["_law_script"] (NP K)
 Wx:eC P w K mg base 3 "_law_names" ["_law_feed_here"] (C7 K rY 3)
 R6:eC P w K mg base 3 "_law_values" ["_law_feed_here"] (C7 K cV 4)
 DE:eC P w K mg base 3 "_law_question" ["_law_feed_here","_law_names_here","_law_values_here","_law_most"] (C8 K)
 R7:eC P w K mg base 3 "_law_tables" ["_law_feed_here","_law_names_here","_law_values_here"] (GZ K)
 Wy:eC P w K mg base 2 "_law_apart" ["_law_question_here"] Kq
 aa7:eC P w K mg base 1 "_law_due" ["_law_one","_law_other_here"] (TM K)
 EO:eC P w K mg base 8 "counted" ["question","tables"] (TN K)
 answers:eC P w K mg base 8 "answers" ["question","tables"] (Fc K)
def lJ:cv ["_law_script","_law_feed_here","_law_k","_law_names_here","_law_values_here","_law_first","_law_second","_law_tables_here","_law_due_here","_law_atoms"] ["_law_script"] (bI L6):=jE (by decide+kernel)
def Yd(F:fb K "law" "law" L6 f fd)(T:Txt K mg)(D:Dq P w K mg base):c6 P w K mg base fD 10 f fd ["_law_script"] (Gm K):=by
 refine F.ok lJ (λ_ _ _ _ h=>by cases h;subst_vars;rfl) (λc7 A outer s H vs Q E hr h=>?_);obtain⟨a,ns,rfl,hS,hn,k⟩:=h;have hu:=my hr;refine{_,(aO (gk 1 lJ (cl D.YG hr (cw (pv 0))))
   (aO (hG bZ rfl (mR rfl T.q9 (cw aV)) (kA 2 lJ)
   (aO (gk 3 lJ (cl D.Wx hr (cw (pv 1))))
   (aO (gk 4 lJ (cl D.R6 hr (cw (pv 1))))
   (aO (gk 5 lJ (cl D.DE hr (fk (pv 1) (tE (pv 3) (pv 4) aV))))
   (aO (gk 5 lJ (ir (eK (xN Kt (cA fK (pv 5) aV (λ_ _=>rfl)) Ey (wN aV)) (cA fK (pv 5) aV (λ_ _=>rfl)))))
   (aO (gk 6 lJ (cl D.DE hr (fk (pv 1) (tE (pv 3) (pv 4) aV))))
   (aO (gk 6 lJ (cl D.Wy hr (cw (ir (eK (xN Kt (cA fK (pv 6) aV (λ_ _=>rfl)) Ey (wN aV)) (cA fK (pv 6) aV (λ_ _=>rfl)))))))
   (aO (gk 7 lJ (cl D.R7 hr (tE (pv 1) (pv 3) (pv 4))))
   (aO (gk 8 lJ (cl D.aa7 hr (eK (cl D.EO hr (eK (pv 5) (pv 7))) (cl D.EO hr (eK (pv 6) (pv 7))))))
   (aO (hG bZ rfl (gn (hJ (eK (dh uq (cA fK (pv 5) aV (λ_ _=>rfl)) (cA fK (pv 6) aV (λ_ _=>rfl))) (dh uq (cA fK (pv 6) aV (λ_ _=>rfl)) (cA fK (pv 5) aV (λ_ _=>rfl)))))) (kA 9 lJ)
   (bp (ka (fH (Ow hr.units) (cl D.EO hr (eK (ir (eK (dh uq (cA fK (pv 5) aV (λ_ _=>rfl)) (cA fK (pv 6) aV (λ_ _=>rfl))) (pv 9))) (pv 7))) (pv 8) (iu _)) (bp (cL A9)) gP)))
   (bp (ka (fH (Ow hr.units) (cl D.answers hr (eK (ir (eK (dh uq (cA fK (pv 5) aV (λ_ _=>rfl)) (cA fK (pv 6) aV (λ_ _=>rfl))) (dh uq (cA fK (pv 6) aV (λ_ _=>rfl)) (cA fK (pv 5) aV (λ_ _=>rfl))))) (pv 7))) (Cj rfl (yf (more:=["_law_many"]) (fs:=[]) (fr:=[])) (gn (pv 8)) (λ_ _ _ _=>(Ez (K:=K) (n:=2) rfl (cK (qX (i:=0)) (cK (qX (i:=1)) iD)))) (λ_ _ _ _=>(pv 0))) (iu _)) (bp (cL A9)) gP))))))))))))
   (bp (cL A9)))),?_}
 refine{_,rfl,a,ns,rfl,hS,hn,λfe H1 uU TQ hfe=>?_};refine{4,rfl,by decide,by decide,sj (lo:=0) (n:=4) (λi Z H2=>∃(x2 x3 x4 x5 x6 x7 x8 x9:Option V),Z=[some (.ref a),some (.ref fe),x2,x3,x4,x5,x6,x7,x8,x9]/\dR K fe H2) ⟨_,_,_,_,_,_,_,_,rfl,uU⟩ ?_ ?_}
 ·rintro i Z H2 hi ⟨x2,x3,x4,x5,x6,x7,x8,x9,rfl,qM⟩;refine{_,rfl,fe,rfl,qM,λnl nys H3 Lu F3 zS DL YB ln2 hny=>?_};refine{_,rfl,fe,rfl,Lu,λvl vys H4 xh xk wQ Ae Ux lv2 hvy=>?_};obtain⟨pF,rfl,Zy⟩:=A6 hny;obtain⟨lZ,rfl,UL⟩:=A6 hvy;rw[ag]at YB ln2 Ux lv2;have UU:=xk _ _ zS DL;have Y7:∀z∈lZ,z∈gf:=λz hz=>b6 _ (bN _ (UL z hz));refine{_,rfl,_,rfl,_,rfl,fe,nl,vl,3,pF,lZ,rfl,xh,zS,wQ,UU,YB,by lia,Zy,{Ae,Ux,by lia,Y7},UL,by decide,by decide,λq5 Pr o9 H5 qw lO hQ5 l5a l5 MU FU=>?_};obtain⟨_,d5,a5,av5,e5,Zn,IT,ha5,BV⟩:=hQ5;cases e5;refine{_,rfl,_,_,_,_,rfl,rfl,bq.of Zn,rfl,OM {2,rfl,NZ (j:=2) IT λsa5 Hs5 XE Zk=>{_,rfl,_,_,_,_,rfl,rfl,bq.of (XE _ _ Zn),rfl,{(by show 2<=sizeLine;decide),λq1 Ai=>?_}}}};obtain⟨s6,Z8⟩:=ND BV ha5 XE Zk Ai;generalize upd Hs5 q1 (.tup [V.ref sa5,V.ref a5])=H6 at s6 Z8⊢;have xg:=vW qw s6;have ZC:=s6 _ _ (lO _ _ zS UU);have Ld:=s6 _ _ (lO _ _ wQ Ae);refine{_,rfl,_,rfl,_,rfl,fe,nl,vl,2,pF,lZ,rfl,xg,zS,wQ,ZC,YB,by lia,Zy,{Ld,Ux,by lia,Y7},UL,by decide,by decide,λq7 Pq Jg H7 vV pK hQ7 l7a l7 good2 pH=>?_};obtain⟨_,d7,a7,av7,e7,Lj,hd7,ha7,xi⟩:=hQ7;cases e7;refine{_,rfl,_,_,_,_,rfl,rfl,bq.of Lj,rfl,OM {2,rfl,NZ (j:=2) hd7 λsa7 Hs7 XD Zj=>{_,rfl,_,_,_,_,rfl,rfl,bq.of (XD _ _ Lj),rfl,{(by show 2<=sizeLine;decide),λq8 hq8=>?_}}}};obtain⟨s8,Z7⟩:=ND xi ha7 XD Zj hq8;generalize upd Hs7 q8 (.tup [V.ref sa7,V.ref a7])=H8 at s8 Z7⊢;refine{.ref q8,Pq.take 2,Jg,rfl,Z7,good2,by lia,aF (yu _ _) pH.1,λz hz=>(pH.2 z (eJ hz)).1,λq2 H9 s9 hQ9=>?_};have N4:=s8.trans s9;have yP:=vW vV N4;have Lr:oK H9 (.ref q1) (Pr.take 2) o9:=oK.ext (f:=fe) Z8 ((xg.kY pK).trans (eE.of N4));refine{_,rfl,_,rfl,_,rfl,fe,nl,vl,pF,lZ,rfl,yP,zS,wQ,N4 _ _ (pK _ _ zS ZC),by lia,λz hz=>b6 _ (Zy z hz),N4 _ _ (pK _ _ wQ Ld),Ux,lv2,UL,λd kvs vh MT CC hT0 _=>?_};obtain⟨es,rfl,hT⟩:=hT0.tabs;have Lr:oK vh (.ref q1) (Pr.take 2) o9:=oK.ext (f:=fe) Lr (yP.kY CC);have U8:oK vh (.ref q2) ((Pq.take 2).map f9) (uG Jg):=oK.ext (f:=fe) hQ9 (yP.kY CC);have qs:∀{H H':Hp}{v:V}{hz:List Str}{ats:List (Str×List Str)},oK H v hz ats->bD H H'->oK H' v hz ats:=λh s=>oK.ext (f:=fe) h λb xs e=>s _ _ e;have k1:=IS FU 2;have k2:=SA pH 2;have g1:=xZ MU;have g2:=SH good2;have vX:=Nz MU good2;have la1:o9.length<=3:=by lia
  have YF:(uG Jg).length<=2:=by unfold uG;rw[ag];lia
  have lh1:(Pr.take 2).length<=2:=y0 _ _;have lh2:((Pq.take 2).map f9).length<=2:=by rw[ag];exact y0 _ _
  have tab:gH K vh d es:=hT.r;clear hQ9 Z7 xi BV Z8 hT0 hT Zk Zj IT hd7 ha5 ha7 Zn Lj XE XD hq8 MU good2 FU pH s9 s8 N4 s6 CC pK lO xk F3 ZC Ld UU DL Ae yP vV xg qw xh Lu qM Y7 hny hvy l5 l7 l5a l7a;generalize Pr.take 2=h1 at*;generalize (Pq.take 2).map f9=h2 at*;generalize uG Jg=sT at*;clear Pr Pq Jg;refine{_,rfl,_,rfl,.ref q1,d,es,h1,o9,rfl,Lr,g1,k1,by lia,tab,λl1 zs1 Dp Eh Ub _ mB Fo XW pp1=>?_};refine{_,rfl,_,rfl,.ref q2,d,es,h2,sT,rfl,qs U8 Ub,g2,k2,by lia,tab.same Ub,λl2 zs2 Gn H12 Ua _ jF nX XU pp2=>?_};have eS:∀a,a∈o9++sT↔a∈o9\/a∈sT:=λa=>aS;have k12:jj (h1++h2) (o9++sT):=FX k1 k2 ∅ eS;have pi:=N9 (fs:=es) (S:=o9++sT) k1 k2 vX eS XW XU;have Mw:∀r∈bU Dp,r.length=h1.length:=λr mz=>by obtain⟨g,_,e⟩:=(XW r).mp ((df _).mem_iff.mp mz);rw[e,ag]
  have pn:(mi (bU Dp) (bU Gn)).Nodup:=Jy ((df _).nodup_iff.mpr Fo) ((df _).nodup_iff.mpr nX) Mw;have fL:=Rq (K:=K) tab k12 pn pi;refine{l1,l2,zs1,zs2,bU Dp,bU Gn,num es h1 o9,num es h2 sT,num es (h1++h2) (o9++sT),rfl,Ua _ _ mB,jF,mQ (Ex pp1) Ua,Ex pp2,fL,λr mz=>{by rw[Mw r mz];lia,OH g1},λr mz=>?_,λr mz q _=>RV (K:=K) tab k1 k2 vX eS (Mw r mz),λc dz Eg BC hc ZW=>?_}
  ·obtain⟨g,_,e⟩:=(XU r).mp ((df _).mem_iff.mp mz);rw[e,ag];lia
  have Dj:=Ub.trans (Ua.trans BC);have OB:Ee (bU (mi (bU Dp) (bU Gn))):=Fx (K:=K) tab k12 pi;clear Mw pp1 pp2 mB jF Fo nX XW XU Ub Ua BC;generalize mi (bU Dp) (bU Gn)=pr at*;have Lr:=qs Lr Dj;have U8:=qs U8 Dj;have tab:=tab.same Dj;have ac2:=vW MT Dj;clear Dj MT;obtain⟨_,d1,a1,av1,e1,Ai,Lo,Qa,Lw⟩:=Lr;obtain⟨_,d2,a2,av2,e2,IB,hd2,FY,Lv⟩:=U8;cases e1;cases e2;have ads:av1.length=o9.length:=bh Lw;have adq:av2.length=sT.length:=bh Lv;refine{_,rfl,_,_,_,_,rfl,rfl,bq.of Ai,rfl,_,rfl,_,_,_,_,rfl,rfl,bq.of IB,rfl,xn Qa FY (bg (bH ∅)) λc1 H14 N5 ZZ=>?_};refine{_,rfl,_,_,_,_,rfl,rfl,bq.of (N5 _ _ IB),rfl,_,rfl,_,_,_,_,rfl,rfl,bq.of (N5 _ _ Ai),rfl,xn (N5 _ _ FY) (N5 _ _ Qa) (bg (bH ∅)) λc2 H15 s15 pJ=>{(by show 2<=sizeLine;decide),λdl U1=>?_}};have TZ:=aN U1 (.lst [V.ref c1,V.ref c2]);have SD:upd H15 dl (.lst [V.ref c1,V.ref c2]) dl=some (.lst [V.ref c1,V.ref c2]):=aw;generalize upd H15 dl (.lst [V.ref c1,V.ref c2])=H16 at TZ SD⊢;have Es:=N5.trans (s15.trans TZ);have ZZ:=TZ _ _ (s15 _ _ ZZ);have pJ:=TZ _ _ pJ;have Lw:=iz Lw Es;have Lv:=iz Lv Es;refine{dl,rfl,{_,bw.of SD},o8 (K:=K) (a:=dl) (xs:=[V.ref c1,V.ref c2]) (λi Z yS=>∃(x9:Option V),Z=[some (.ref a),some (.ref fe),some (.int (0+(_:Int))),some (.ref nl),some (.ref vl),some (.ref q1),some (.ref q2),some (.ref d),some (.ref c),x9]/\bD H16 yS) {_,rfl,bD.refl _} (λi Z yS _ hq=>by(obtain⟨_,_,sm⟩:=hq;exact bw.of (sm _ _ SD))) ?_ ?_}
  ·rintro j x Z yS hx ⟨x9,rfl,G9⟩;obtain⟨cc,av,S,rfl,Lp,hA,hS,l5⟩:∃(cc:Addr)(av:List V)(S:List (Str×List Str)),x=.ref cc/\H16 cc=some (.tup av)/\eI H16 av S/\(∀a,a∈S↔a∈o9\/a∈sT)/\S.length<=5:=by
    match j,hx with
    |0,hx=>cases hx;exact{c1,_,_,rfl,ZZ,qZ Lw Lv,eS,by rw[aK];lia}
    |1,hx=>cases hx;exact{c2,_,_,rfl,pJ,qZ Lv Lw,λa=>aS.trans E3,by rw[aK];lia}
   have sL:=Es.trans G9;refine{_,rfl,_,_,_,_,rfl,rfl,bq.of (sL _ _ Ai),rfl,_,rfl,_,_,_,_,rfl,rfl,bq.of (sL _ _ IB),rfl,xn (sL _ _ Lo) (sL _ _ hd2) (by rw[ag,ag];exact bg (bH ∅)) λkQ H18 wI IM=>{_,rfl,(by show 2<=sizeLine;decide),λqq FR=>?_}};rw[<-aH]at IM;obtain⟨hQ,gS,kS,lS,tS⟩:=Vk tab (sL.trans wI) (wI _ _ (G9 _ _ Lp)) (iz hA (G9.trans wI)) g1 g2 k1 k2 ∅ hS l5 IM FR;refine{_,rfl,.ref qq,d,es,h1++h2,S,rfl,hQ,gS,kS,lS,tS,λl zs rows H20 TY _ hl rn ri pp=>?_};have A7:=sL.trans (wI.trans ((aN FR _).trans TY));have er:bU rows=bU pr:=Kr rn pn λr=>by rw[ri r];exact(Fd (λa=>(hS a).trans (eS a).symm) (λ_ _=>rG) pi r).symm
   have el:(bU rows).map (λr=>(r,num es (h1++h2) S r))=(bU pr).map λr=>(r,num es (h1++h2) (o9++sT) r):=by rw[er];exact bz λr _=>by rw[OI (K:=K) tab kS (λa=>(hS a).trans (eS a).symm) (λ_ _=>rG) r]
   rw[el]at pp;obtain⟨sh,ev⟩:=G7 (l:=(bU pr).map λr=>(r,num es (h1++h2) (o9++sT) r)) λx hx=>by obtain⟨r,mz,rfl⟩:=au.mp hx;exact OB r mz
   refine{_,rfl,pZ _,pZ _,Qp (bw.of hl) (Ex pp),Qp (bw.of (A7 _ _ hc)) (mQ ZW A7),sh,sh,?_};rw[ev];exact{_,rfl,Cw {_,rfl,G9.trans (wI.trans ((aN FR _).trans TY))}}
  ·rintro Z yS ⟨x9,rfl,G9⟩;have sL:=Es.trans G9;refine{_,rfl,_,_,_,_,rfl,rfl,bq.of (sL _ _ Ai),rfl,_,rfl,_,_,_,_,rfl,rfl,bq.of (sL _ _ IB),rfl,xn (sL _ _ Lo) (sL _ _ hd2) (by rw[ag,ag];exact bg (bH ∅)) λkQ H18 wI IM=>?_};have L7:=sL.trans wI;refine{_,rfl,_,_,_,_,rfl,rfl,bq.of (L7 _ _ IB),rfl,_,rfl,_,_,_,_,rfl,rfl,bq.of (L7 _ _ Ai),rfl,xn (L7 _ _ FY) (L7 _ _ Qa) (bg (bH ∅)) λcc H19 s19 Lp=>{(by show 2<=sizeLine;decide),λqq FR=>?_}};rw[<-aH]at IM;have Ro:=G9.trans (wI.trans s19);obtain⟨hQ,gS,kS,lS,tS⟩:=Vk (S:=sT++o9) tab (Es.trans Ro) Lp (iz (qZ Lv Lw) Ro) g1 g2 k1 k2 ∅ (λa=>aS.trans E3) (by rw[aK];lia) (s19 _ _ IM) FR;refine{_,rfl,.ref qq,d,es,h1++h2,_,rfl,hQ,gS,kS,lS,tS,λl zs rows H20 TY _ hl hR rn ri _=>?_};have aaW:=Ro.trans ((aN FR _).trans TY);have A7:=Es.trans aaW;have er:bU rows=bU pr:=Kr rn pn λr=>by rw[ri r];exact(Fd (λa=>(aS.trans E3).trans (eS a).symm) (λ_ _=>rG) pi r).symm
   have ZY:=A7 _ _ hc;have abk:=mQ ZW A7;have ld:dz.length=(bU pr).length:=bh ZW;refine{_,rfl,c,rfl,{_,bw.of ZY},D6 (K:=K) (a:=c) (xs:=dz) (λj ys H5=>H5=H20/\j<=(bU pr).length/\eQ K H20 ys ((bU pr).take j)) (by rw[ld,(df pr).length_eq];exact jy fL (by decide)) {rfl,aR _,.nil} ?_ ?_ ?_}
   ·rintro j ys H5 hj ⟨rfl,_,Ah⟩;have:=bh Ah;rw[aU]at this;exact{bw.of ZY,by lia}
   ·rintro j x ys H5 N' hx ⟨rfl,hj,Ah⟩ qv;obtain⟨r,hrj,t,g,rfl,h1',h3⟩:=Paired.at abk hx;refine{t,_,_,rfl,h1',h9 {_,rfl,qv _ _ {rfl,(ar.mp hrj).1,?_}}};rw[bx,hrj];exact wu Ah ⟨g,rfl,h3⟩
   rintro ys H5 ⟨rfl,_,Ah⟩ l5 tH;rw[ld,bu]at Ah;have s5:=aN tH (.lst ys);refine{tZ (bU rows),tZ (bU pr),LA (bw.of (s5 _ _ hl)) (ip hR s5),LA (bw.of aw) (ip Ah s5),?_,BA OB,?_}
   ·rw[er];exact BA OB
   ·rw[SQ,aY er];exact{_,rfl,Cw {_,_,_,_,_,_,_,_,rfl,vW ac2 (A7.trans s5)}}
 ·rintro Z H2 ⟨x2,x3,x4,x5,x6,x7,x8,x9,rfl,qM⟩;exact k H2
end
end jn
namespace Hd
open PySem PySem.W PyProof.Rows PySem.W.Fast
abbrev pos0:Pos:={0,0,0,0}
abbrev tb:=tw14364793385576792824
abbrev an0:Option Value:=some (.ref 6)
def env0(p:Program):Env:={scope:=p.main.scope,locals:=mainNs,globals:=mainNs,cells:=[],code:=.ref 13,frame:=some 14}
def cd0(p:Program):Code:=.body (behindTheImports p) (env0 p)
abbrev B0:List Frame:=[topFrame pos0]
def S0(w:World)(os:OsState):Shared:={boot_heap w.params,Array.mk [],boot_drawn,boot_toks,os}
def mkT(l:List Obj):Nat->Nat->Nat->BT
 |0,_,_=>.nil
 |f+1,a,b=>match l[b]? with
  |some o=>.node o (mkT l f (2*a) (a+b)) (mkT l f (2*a) (2*a+b))
  |none=>.nil
def toT(s:Shared):SharedT:={mkT s.heap.objs.toList 6 1 0,s.heap.objs.size,s.heap.life,s.gens,s.drawn,s.toks,s.os}
def pre(p:Program)(w:World)(os:OsState):SharedT:=match tw15667345088766844465 tb p w 11 an0 12 (S0 w os) (topStub p)with
 |some r=>toT r.1
 |none=>toT (S0 w os)
def body(p:Program)(n:Nat)(w:World)(os:OsState):Option (Flow×SharedT×Code×Pos):=
 tw10110043849684766642 tb p w 11 an0 1 n (pre p w os) (piecesOf (behindTheImports p) (env0 p) (cd0 p) pos0 B0)
def aft(p:Program)(n:Nat)(w:World)(os:OsState):SharedT:=match body p n w os with
 |some r=>r.2.1
 |none=>toT (S0 w os)
def posL(p:Program)(n:Nat)(w:World)(os:OsState):Pos:=match body p n w os with
 |some r=>r.2.2.2
 |none=>pos0
def fin(p:Program)(n:Nat)(w:World)(os:OsState):Shared:=match tw14082659384304107361 tb p w 11 an0 2 (aft p n w os).abs {doneF .next,cd0 p,posL p n w os,B0}with
 |some s=>s
 |none=>S0 w os
structure Ok(p:Program)(n:Nat):Prop where
 pre:∀w os,tw15667345088766844465 tb p w 11 an0 12 (S0 w os) (topStub p)=some ((Hd.pre p w os).abs,{tw11892475500146522536 tb (cd0 p),cd0 p,pos0,B0})
 block:∀w os,tw14374325043358763698 tb p w 11 an0 1 1 (Hd.pre p w os).abs (blockOf (behindTheImports p) (env0 p) (cd0 p) pos0 B0)=some (.next,(Hd.pre p w os).abs,cd0 p,pos0)
 body:∀w os,Hd.body p n w os=some (.next,aft p n w os,cd0 p,posL p n w os)
 fin:∀w os,tw14082659384304107361 tb p w 11 an0 2 (aft p n w os).abs {doneF .next,cd0 p,posL p n w os,B0}=some (Hd.fin p n w os)
def run(o:Ok p n)(w:World)(os:OsState):topRun treeTable p w 11 an0 (12+(1+(n+2))) (S0 w os) (topStub p)=some (fin p n w os):=by have h1:=o.pre w os;have h2:=o.block w os;have h3:=o.body w os;have h4:=o.fin w os;unfold Hd.body at h3;unfold tb at h1 h2 h3 h4;rw[<-te15667345088766844465,<-te14364793385576792824,<-te11892475500146522536]at h1;rw[<-te14374325043358763698,<-te14364793385576792824]at h2;rw[<-te10110043849684766642,<-te14364793385576792824]at h3;rw[<-te14082659384304107361,<-te14364793385576792824]at h4;have k:topRun treeTable p w 11 an0 (n+2) (Hd.pre p w os).abs (restOf (behindTheImports p++[]) (env0 p) (cd0 p) pos0 B0)=some (fin p n w os):=piece_app (segRun_of h3) (piece_nil h4);rw[cP]at k;exact go_top h1 (piece_block h2 k)
def left(o:Ok p n)(hN:Nat.ble (12+(1+(n+2))) N=true)(he:opening p=plainProg p.main.scope.names)(h6:Nat.ble 600 N=true)(hf:∀s,fenceModules? p s=some s)
  (l1:∀w os,(staticsOk (importedModules p.main.body) (boot_heap w.params) (fin p n w os).heap&&namesBound p (fin p n w os).heap&&gensDone (fin p n w os)&&laidKept (boot_heap w.params) (fin p n w os).heap)=true)
  (l2:∀w os,openSeen q loose (importedModules p.main.body) Xt g0 (fin p n w os)=openGood q loose) (l3:∀w os,Yf (fin p n w os)=Ya w):LeftO p q loose Xt Yf Ya N g0:=λw=>by
 obtain⟨s,e,e'⟩:=a9.mp (boot_open he h6 hf w);obtain⟨os,rfl⟩:∃os,s=S0 w os:=by obtain⟨h,g,d,t,os⟩:=s;simp only[Prod.mk.injEq]at e';obtain⟨rfl,rfl,rfl,rfl⟩:=e';exact⟨os,rfl⟩
 have r:=topRun_mono (N -(12+(1+(n+2)))) _ _ _ _ (run o w os);rw[show 12+(1+(n+2))+(N -(12+(1+(n+2))))=N by have:=Nat.le_of_ble_eq_true hN;lia]at r;have z1:((S0 w os).heap.isNs mainGlobals&&(S0 w os).gens.size==0)=true:=by kernel_rfl
 have z2:(S0 w os).heap.objs.size=11:=by kernel_rfl
 have z3:(S0 w os).heap.nsMap mainGlobals "__annotations__"=an0:=by kernel_rfl
 have t:topFrom treeTable p w N (S0 w os)=some (fin p n w os):=by unfold topFrom;rw[z1,z2,z3,r];have q:=l1 w os;show(match _ with|true=>_|false=>_)=_;rw[show(staticsOk (importedModules p.main.body) (S0 w os).heap (fin p n w os).heap&&namesBound p (fin p n w os).heap&&gensDone (fin p n w os)&&laidKept (S0 w os).heap (fin p n w os).heap)=true from q]
 unfold openEnds;rw[e];show(topFrom treeTable p w N _).map _=_;rw[t];exact cu some (CS (l2 w os) (l3 w os))
end Hd
namespace jn
open PySem PySem.Spec PyProof.Rows L2
abbrev tO(vs:List Value):Obj:={.type "tuple",none,.seq vs.toArray 0,#[]}
abbrev cO(vs:List Value):Obj:={.type "code",none,.fields vs.toArray,#[]}
abbrev kO(P:Params)(x:Str)(t:Tok)(v:Value):DictEntry:={PyData.keyHash P x,.str x t,v}
abbrev fO(s:Stmt)(n q:Str)(pm cd:Value):Obj:={.type "function",none,.func (fnOf n q (kD s) (jL s) (bI s) .none .none .none pm none cd .none),#[]}
abbrev cF(x q:Str)(a b c:Tok)(l n:Int)(r r1:Addr)(v1 v2:Value)(r2:Addr)(i:Int)(d:Tok):Obj:=cO [.str x a,.str q b,.str "/claim/cut.py" c,.int l 0,.int n 0,.int 0 0,.int 0 0,.int 3 0,.ref r,.bool true,.int 181 0,.ref r1,.none,v1,v2,.ref r2,.int i 0,.int l 0,.str "/claim/cut.py" d]
abbrev cG(x:Str)(a b c:Tok)(l n:Int)(r r1:Addr)(v1 v2:Value)(r2:Addr)(i:Int)(d:Tok):Obj:=cF x x a b c l n r r1 v1 v2 r2 i d
abbrev fF(s:Stmt)(x:Str)(m:Value)(r:Addr):Obj:=fO s x x m (.ref r)
abbrev mO0:Value:=Value.str "askviews.terms" 187
abbrev mO1:Value:=Value.str "askviews.questions" 206
abbrev mO2:Value:=Value.str "askviews.tables" 218
abbrev vI:Value:=Value.str "askviews.answers" 228
abbrev yH:Value:=Value.str "law_askviews_k10_whole_two_questions_as_one" 366
noncomputable def KF(P:Params):Frag:=
 (nat_lit 2,{.none,none,.dict #[] 0,#[]})::
 (nat_lit 3,{(.type "dict"),none,.dict #[kO P "__name__" 165 (.str "law_askviews_k10_whole_two_questions_as_one" 366),kO P "__doc__" 166 .none,kO P "__package__" 167 .none,kO P "__loader__" 168 (.builtin "__main__.__loader__#opaque"),kO P "__spec__" 169 .none,kO P "__annotations__" 170 (.ref 6),kO P "__builtins__" 171 (.ref 4),kO P "__file__" 173 (.str "/claim/cut.py" 172),kO P "__cached__" 174 .none,kO P "SIGNS" 190 (.str "abcdefghijklmnopqrstuvwxyz0123456789" 189),kO P "MOST_SIGNS" 192 (.int 8 191),kO P "is_value" 198 (.ref 19),kO P "is_unknown" 205 (.ref 26),kO P "unknowns_of" 217 (.ref 33),kO P "rows_of" 227 (.ref 40),kO P "answers" 237 (.ref 47),kO P "counted" 243 (.ref 52),kO P "counts_of" 256 (.ref 59),kO P "needed_terms" 267 (.ref 66),kO P "Asking" 323 (.ref 103),kO P "narrowed" 337 (.ref 114),kO P "places_of" 347 (.ref 121),kO P "image" 353 (.ref 126),kO P "is_image" 359 (.ref 131),kO P "tails_by_key" 365 (.ref 136),kO P "_law_feed" 374 (.ref 143),kO P "_law_draw" 386 (.ref 150),kO P "_law_pool" 392 (.ref 155),kO P "_law_names" 399 (.ref 162),kO P "_law_values" 406 (.ref 169),kO P "_law_length" 414 (.ref 176),kO P "_law_question" 432 (.ref 183),kO P "_law_tables" 438 (.ref 188),kO P "_law_apart" 444 (.ref 193),kO P "_law_other" 451 (.ref 200),kO P "_law_due" 457 (.ref 205),kO P "law" 463 (.ref 210)] 37,#[]})::
 (nat_lit 15,tO [])::
 (nat_lit 18,cG "is_value" 193 194 195 4 1 15 16 .none .none 17 196 197)::
 (nat_lit 19,fF (top 3) "is_value" mO0 18)::
 (nat_lit 20,tO [])::
 (nat_lit 22,tO [(.str "thing" 202)])::
 (nat_lit 23,tO [])::
 (nat_lit 25,cG "is_unknown" 199 200 201 8 1 20 21 (.ref 22) (.ref 23) 24 203 204)::
 (nat_lit 26,fF (top 4) "is_unknown" mO0 25)::
 (nat_lit 27,tO [])::
 (nat_lit 29,tO [(.str "question" 211),(.str "found" 212),(.str "atom" 213),(.str "term" 214)])::
 (nat_lit 30,tO [])::
 (nat_lit 32,cG "unknowns_of" 208 209 210 11 1 27 28 (.ref 29) (.ref 30) 31 215 216)::
 (nat_lit 33,fF (top 6) "unknowns_of" mO1 32)::
 (nat_lit 34,tO [])::
 (nat_lit 36,tO [(.str "tables" 223),(.str "name" 224)])::
 (nat_lit 37,tO [])::
 (nat_lit 39,cG "rows_of" 220 221 222 19 2 34 35 (.ref 36) (.ref 37) 38 225 226)::
 (nat_lit 40,fF (top 8) "rows_of" mO2 39)::
 (nat_lit 41,tO [])::
 (nat_lit 43,tO [(.str "question" 233),(.str "tables" 234)])::
 (nat_lit 44,tO [])::
 (nat_lit 46,cG "answers" 230 231 232 22 2 41 42 (.ref 43) (.ref 44) 45 235 236)::
 (nat_lit 47,fF (top 10) "answers" vI 46)::
 (nat_lit 48,tO [])::
 (nat_lit 51,cG "counted" 238 239 240 24 2 48 49 .none .none 50 241 242)::
 (nat_lit 52,fF (top 11) "counted" vI 51)::
 (nat_lit 53,tO [])::
 (nat_lit 55,tO [(.str "question" 247),(.str "tables" 248),(.str "head" 249),(.str "atoms" 250),(.str "asking" 251),(.str "left" 252),(.str "atom" 253)])::
 (nat_lit 56,tO [])::
 (nat_lit 58,cG "counts_of" 244 245 246 27 2 53 54 (.ref 55) (.ref 56) 57 254 255)::
 (nat_lit 59,fF (top 12) "counts_of" vI 58)::
 (nat_lit 60,tO [])::
 (nat_lit 62,tO [(.str "head" 260),(.str "atoms" 261),(.str "needed" 262),(.str "name" 263),(.str "terms" 264)])::
 (nat_lit 63,tO [])::
 (nat_lit 65,cG "needed_terms" 257 258 259 35 2 60 61 (.ref 62) (.ref 63) 64 265 266)::
 (nat_lit 66,fF (top 13) "needed_terms" vI 65)::
 (nat_lit 74,tO [])::
 (nat_lit 76,tO [(.str "self" 283),(.str "tables" 284)])::
 (nat_lit 77,tO [])::
 (nat_lit 79,cF "__init__" "Asking.__init__" 280 281 282 42 2 74 75 (.ref 76) (.ref 77) 78 285 286)::
 (nat_lit 80,fO (inClass (top 14) 0) "__init__" "Asking.__init__" vI (.ref 79))::
 (nat_lit 81,tO [])::
 (nat_lit 84,cF "best_place" "Asking.best_place" 288 289 290 48 2 81 82 .none .none 83 291 292)::
 (nat_lit 85,fO (inClass (top 14) 1) "best_place" "Asking.best_place" vI (.ref 84))::
 (nat_lit 86,tO [])::
 (nat_lit 89,cF "take" "Asking.take" 294 295 296 58 3 86 87 .none .none 88 297 298)::
 (nat_lit 90,fO (inClass (top 14) 2) "take" "Asking.take" vI (.ref 89))::
 (nat_lit 91,tO [])::
 (nat_lit 94,cF "fresh_unknowns" "Asking.fresh_unknowns" 300 301 302 67 2 91 92 .none .none 93 303 304)::
 (nat_lit 95,fO (inClass (top 14) 3) "fresh_unknowns" "Asking.fresh_unknowns" vI (.ref 94))::
 (nat_lit 96,tO [])::
 (nat_lit 99,cF "tails_of_maps" "Asking.tails_of_maps" 306 307 308 70 2 96 97 .none .none 98 309 310)::
 (nat_lit 100,fO (inClass (top 14) 4) "tails_of_maps" "Asking.tails_of_maps" vI (.ref 99))::
 (nat_lit 101,tO [(.str "kept" 312),(.str "maps" 313),(.str "tables" 314),(.str "tails" 315)])::
 (nat_lit 102,{(.type "dict"),none,.dict #[kO P "__module__" 275 (.str "askviews.answers" 228),kO P "__firstlineno__" 279 (.int 40 278),kO P "__init__" 287 (.ref 80),kO P "best_place" 293 (.ref 85),kO P "take" 299 (.ref 90),kO P "fresh_unknowns" 305 (.ref 95),kO P "tails_of_maps" 311 (.ref 100),kO P "__static_attributes__" 316 (.ref 101),kO P "__dict__" 318 (.ref 104),kO P "__weakref__" 320 (.ref 105),kO P "__doc__" 321 .none] 4,#[]})::
 (nat_lit 103,{(.type "type"),none,.cls {"Asking",[(.type "object")],[(.ref 103),(.type "object")],102,"Asking",true,[],[],false,none,false},#[none,none,some (.str "Asking" 268),some (.str "Asking" 276),some (.builtin "object.__new__"),some (.bool true)]})::
 (nat_lit 104,{(.type "getset_descriptor"),none,.fields #[(.str "__dict__" 317),(.ref 103),(.builtin "function.__dict__"),(.builtin "function.__dict__#set")],#[]})::
 (nat_lit 105,{(.type "getset_descriptor"),none,.fields #[(.str "__weakref__" 319),(.ref 103),(.builtin "ExceptionGroup.__weakref__"),.none],#[]})::
 (nat_lit 108,tO [])::
 (nat_lit 110,tO [(.str "counted_maps" 327),(.str "unknowns" 328),(.str "terms" 329),(.str "places" 330),(.str "counts" 331),(.str "given" 332),(.str "count" 333),(.str "row" 334)])::
 (nat_lit 111,tO [])::
 (nat_lit 113,cG "narrowed" 324 325 326 79 3 108 109 (.ref 110) (.ref 111) 112 335 336)::
 (nat_lit 114,fF (top 15) "narrowed" vI 113)::
 (nat_lit 115,tO [])::
 (nat_lit 117,tO [(.str "unknowns" 341),(.str "places" 342),(.str "place" 343),(.str "unknown" 344)])::
 (nat_lit 118,tO [])::
 (nat_lit 120,cG "places_of" 338 339 340 86 1 115 116 (.ref 117) (.ref 118) 119 345 346)::
 (nat_lit 121,fF (top 16) "places_of" vI 120)::
 (nat_lit 122,tO [])::
 (nat_lit 125,cG "image" 348 349 350 91 3 122 123 .none .none 124 351 352)::
 (nat_lit 126,fF (top 17) "image" vI 125)::
 (nat_lit 127,tO [])::
 (nat_lit 130,cG "is_image" 354 355 356 93 2 127 128 .none .none 129 357 358)::
 (nat_lit 131,fF (top 18) "is_image" vI 130)::
 (nat_lit 132,tO [])::
 (nat_lit 135,cG "tails_by_key" 360 361 362 97 4 132 133 .none .none 134 363 364)::
 (nat_lit 136,fF (top 19) "tails_by_key" vI 135)::
 (nat_lit 137,tO [])::
 (nat_lit 139,tO [(.str "_law_script" 371)])::
 (nat_lit 140,tO [])::
 (nat_lit 142,cG "_law_feed" 368 369 370 105 1 137 138 (.ref 139) (.ref 140) 141 372 373)::
 (nat_lit 143,fF (top 21) "_law_feed" yH 142)::
 (nat_lit 144,tO [])::
 (nat_lit 146,tO [(.str "_law_feed_here" 378),(.str "_law_many" 379),(.str "_law_script" 380),(.str "_law_figure" 381),(.str "_law_cell" 382),(.str "_law_mixed" 383)])::
 (nat_lit 147,tO [])::
 (nat_lit 149,cG "_law_draw" 375 376 377 107 2 144 145 (.ref 146) (.ref 147) 148 384 385)::
 (nat_lit 150,fF (top 22) "_law_draw" yH 149)::
 (nat_lit 151,tO [])::
 (nat_lit 154,cG "_law_pool" 387 388 389 123 3 151 152 .none .none 153 390 391)::
 (nat_lit 155,fF (top 23) "_law_pool" yH 154)::
 (nat_lit 156,tO [])::
 (nat_lit 158,tO [(.str "_law_feed_here" 396)])::
 (nat_lit 159,tO [])::
 (nat_lit 161,cG "_law_names" 393 394 395 126 1 156 157 (.ref 158) (.ref 159) 160 397 398)::
 (nat_lit 162,fF (top 24) "_law_names" yH 161)::
 (nat_lit 163,tO [])::
 (nat_lit 165,tO [(.str "_law_feed_here" 403)])::
 (nat_lit 166,tO [])::
 (nat_lit 168,cG "_law_values" 400 401 402 128 1 163 164 (.ref 165) (.ref 166) 167 404 405)::
 (nat_lit 169,fF (top 25) "_law_values" yH 168)::
 (nat_lit 170,tO [])::
 (nat_lit 172,tO [(.str "_law_feed_here" 410),(.str "_law_name" 411)])::
 (nat_lit 173,tO [])::
 (nat_lit 175,cG "_law_length" 407 408 409 130 2 170 171 (.ref 172) (.ref 173) 174 412 413)::
 (nat_lit 176,fF (top 26) "_law_length" yH 175)::
 (nat_lit 177,tO [])::
 (nat_lit 179,tO [(.str "_law_feed_here" 418),(.str "_law_names_here" 419),(.str "_law_values_here" 420),(.str "_law_most" 421),(.str "_law_unknowns" 422),(.str "_law_atoms" 423),(.str "_law_k" 424),(.str "_law_name" 425),(.str "_law_terms" 426),(.str "_law_j" 427),(.str "_law_some" 428),(.str "_law_head" 429)])::
 (nat_lit 180,tO [])::
 (nat_lit 182,cG "_law_question" 415 416 417 134 4 177 178 (.ref 179) (.ref 180) 181 430 431)::
 (nat_lit 183,fF (top 27) "_law_question" yH 182)::
 (nat_lit 184,tO [])::
 (nat_lit 187,cG "_law_tables" 433 434 435 151 3 184 185 .none .none 186 436 437)::
 (nat_lit 188,fF (top 28) "_law_tables" yH 187)::
 (nat_lit 189,tO [])::
 (nat_lit 192,cG "_law_apart" 439 440 441 162 1 189 190 .none .none 191 442 443)::
 (nat_lit 193,fF (top 29) "_law_apart" yH 192)::
 (nat_lit 194,tO [])::
 (nat_lit 196,tO [(.str "_law_term" 448)])::
 (nat_lit 197,tO [])::
 (nat_lit 199,cG "_law_other" 445 446 447 167 1 194 195 (.ref 196) (.ref 197) 198 449 450)::
 (nat_lit 200,fF (top 30) "_law_other" yH 199)::
 (nat_lit 201,tO [])::
 (nat_lit 204,cG "_law_due" 452 453 454 171 2 201 202 .none .none 203 455 456)::
 (nat_lit 205,fF (top 31) "_law_due" yH 204)::
 (nat_lit 206,tO [])::
 (nat_lit 209,cG "law" 458 459 460 176 1 206 207 .none .none 208 461 462)::
 (nat_lit 210,fF (top 32) "law" yH 209)::[]
noncomputable def asF:List Addr:=[2,3,15,18,19,20,22,23,25,26,27,29,30,32,33,34,36,37,39,40,41,43,44,46,47,48,51,52,53,55,56,58,59,60,62,63,65,66,74,76,77,79,80,81,84,85,86,89,90,91,94,95,96,99,100,101,102,103,104,105,108,110,111,113,114,115,117,118,120,121,122,125,126,127,130,131,132,135,136,137,139,140,142,143,144,146,147,149,150,151,154,155,156,158,159,161,162,163,165,166,168,169,170,172,173,175,176,177,179,180,182,183,184,187,188,189,192,193,194,196,197,199,200,201,204,205,206,209,210]
def HF:PySem.W.Hook:=PySem.W.kHook KF asF λ_=>by kernel_rfl
noncomputable def qf(p:Program):Program:={p with main:={p.main with body:=[1,2,3,4,6,8,10,11,12,13,14,15,16,17,18,19,21,22,23,24,25,26,27,28,29,30,31,32].filterMap λi=>p.main.body[i]?}}
abbrev XF(p:Program)(s:Shared):Bool:=PySem.W.xlAt (qf p) [] s&&PySem.W.recOk [] s
abbrev LF(p:Program):Prop:=PySem.W.LeftO p (qf p) [] (XF p) (PySem.W.Hook.obs HF) (PySem.W.Hook.val HF) 2400
abbrev pL:Program:=PySem.Challenge.pw_askviews_k10_whole_two_questions_as_one
def okL:Hd.Ok pL 1138:={λw os=>by kernel_rfl,λw os=>by kernel_rfl,λw os=>by kernel_rfl,λw os=>by kernel_rfl}
def l1L(w:World)(os:OsState):(PySem.W.staticsOk (importedModules pL.main.body) (PySem.W.boot_heap w.params) (Hd.fin pL 1138 w os).heap&&PySem.W.namesBound pL (Hd.fin pL 1138 w os).heap&&PySem.W.gensDone (Hd.fin pL 1138 w os)&&PySem.W.laidKept (PySem.W.boot_heap w.params) (Hd.fin pL 1138 w os).heap)=true:=by kernel_rfl
def l2L(w:World)(os:OsState):PySem.W.Fast.tw4187177175401517315 (qf pL) [] (importedModules pL.main.body) (XF pL) true (Hd.fin pL 1138 w os)=PySem.W.openGood (qf pL) []:=by kernel_rfl
def l3L(w:World)(os:OsState):asF.map (Hd.fin pL 1138 w os).heap.get?=(KF w.params).map λp=>some p.2:=by kernel_rfl
def abj:LF pL:=Hd.left (n:=1138) okL (by kernel_rfl) (by kernel_rfl) (by kernel_rfl) (λs=>by kernel_rfl) l1L (λw os=>by rw[PySem.W.Fast.te4187177175401517315];exact l2L w os) l3L
def head:LF PySem.Challenge.pw_askviews_k10_whole_two_questions_as_one:=abj
def XI{K:Frag}(hO:Nl H)(h:bw K H a xs):u9 K H a xs:=by
 rcases h with(h|h)|h
 ·rcases hO a with e|⟨o,ys,e⟩
  ·rw[e]at h;cases h
  ·rw[e]at h;cases h
 ·exact .inl h
 ·exact .inr h
def FN(K:Frag)(x:Str)(st:Stmt):Prop:=∃f fd,nsIn K mainGlobals x=some (some (.ref f))/\fb K x x st f fd
def abp{K:Frag}{x:Str}{st:Stmt}{f:Addr}{oc:Value}{od an:Option Addr}{zO:Array (Option Value)}{kV doc pm c7 ct:Value}(a:nsIn K mainGlobals x=some (some (.ref f)))(l:K.lookup f=some {oc,od,.func (fnOf x x (kD st) (jL st) (bI st) .none kV doc pm an c7 ct),zO})(c:codeIn K c7 x=true)(k:keepIn K (.ref f)=true):FN K x st:={f,_,a,Qe l c k}
section
variable{K:Frag}{h base:Heap}{x q p p2 r s:Str}{st:Stmt}{mg:Str->Option Value}{f C:Addr}{fd:FuncData}{P:Program}{w:World}{k:Nat}{sp:Sp}{ps:List Str}
def Na(b:FN K x st)(hb:∀f fd,fb K x x st f fd->Binds K fd ps [])(X:K.In h)(G:h.Ns mainGlobals mg)(ok:∀f fd,fb K x x st f fd->c6 P w K mg base fD k f fd ps sp):eC P w K mg base k x ps sp:=
 have⟨f,fd,a,F⟩:=b
 {f,fd,ok f fd F,oV X G a,F.kp,hb f fd F}
abbrev Bd1(x q:Str)(st:Stmt)(p:Str):Prop:=(λ(a kV doc pm c7 ct:Value)(an:Option Addr)=>bindArgs (fnOf x q (kD st) (jL st) (bI st) .none kV doc pm an c7 ct) {[a],[]})=λa _ _ _ _ _ _=>pure [(p,a)]
def bd1(F:fb K x q st f fd)(h:Bd1 x q st p):Binds K fd [p] []:=F.binds λk1 k2 k3 k4 k5 k6 us hl=>by rcases us with _|⟨a,_|⟨e,us⟩⟩<;>first|exact b9 (b9 (b9 (b9 (b9 (b9 (b9 h a) k1) k2) k3) k5) k6) k4|cases hl
def d1(P:Program)(w:World)(base:Heap)(X:K.In h)(G:h.Ns mainGlobals mg)(b:FN K x st)(ok:∀f fd,fb K x x st f fd->c6 P w K mg base fD k f fd [p] sp)(h:Bd1 x x st p:=by rfl):eC P w K mg base k x [p] sp:=Na b (λ_ _ F=>bd1 F h) X G ok
abbrev Bd2(x q:Str)(st:Stmt)(p p2:Str):Prop:=(λ(a b kV doc pm c7 ct:Value)(an:Option Addr)=>bindArgs (fnOf x q (kD st) (jL st) (bI st) .none kV doc pm an c7 ct) {[a,b],[]})=λa b _ _ _ _ _ _=>pure [(p,a),(p2,b)]
def bd2(F:fb K x q st f fd)(h:Bd2 x q st p p2):Binds K fd [p,p2] []:=F.binds λk1 k2 k3 k4 k5 k6 us hl=>by rcases us with _|⟨a,_|⟨b,_|⟨e,us⟩⟩⟩<;>first|exact b9 (b9 (b9 (b9 (b9 (b9 (b9 (b9 h a) b) k1) k2) k3) k5) k6) k4|cases hl
def d2(P:Program)(w:World)(base:Heap)(X:K.In h)(G:h.Ns mainGlobals mg)(b:FN K x st)(ok:∀f fd,fb K x x st f fd->c6 P w K mg base fD k f fd [p,p2] sp)(h:Bd2 x x st p p2:=by rfl):eC P w K mg base k x [p,p2] sp:=Na b (λ_ _ F=>bd2 F h) X G ok
abbrev Bd3(x q:Str)(st:Stmt)(p p2 r:Str):Prop:=(λ(a b c kV doc pm c7 ct:Value)(an:Option Addr)=>bindArgs (fnOf x q (kD st) (jL st) (bI st) .none kV doc pm an c7 ct) {[a,b,c],[]})=λa b c _ _ _ _ _ _=>pure [(p,a),(p2,b),(r,c)]
def bd3(F:fb K x q st f fd)(h:Bd3 x q st p p2 r):Binds K fd [p,p2,r] []:=F.binds λk1 k2 k3 k4 k5 k6 us hl=>by rcases us with _|⟨a,_|⟨b,_|⟨c,_|⟨e,us⟩⟩⟩⟩<;>first|exact b9 (b9 (b9 (b9 (b9 (b9 (b9 (b9 (b9 h a) b) c) k1) k2) k3) k5) k6) k4|cases hl
def d3(P:Program)(w:World)(base:Heap)(X:K.In h)(G:h.Ns mainGlobals mg)(b:FN K x st)(ok:∀f fd,fb K x x st f fd->c6 P w K mg base fD k f fd [p,p2,r] sp)(h:Bd3 x x st p p2 r:=by rfl):eC P w K mg base k x [p,p2,r] sp:=Na b (λ_ _ F=>bd3 F h) X G ok
abbrev Bd4(x q:Str)(st:Stmt)(p p2 r s:Str):Prop:=(λ(a b c d kV doc pm c7 ct:Value)(an:Option Addr)=>bindArgs (fnOf x q (kD st) (jL st) (bI st) .none kV doc pm an c7 ct) {[a,b,c,d],[]})=λa b c d _ _ _ _ _ _=>pure [(p,a),(p2,b),(r,c),(s,d)]
def bd4(F:fb K x q st f fd)(h:Bd4 x q st p p2 r s):Binds K fd [p,p2,r,s] []:=F.binds λk1 k2 k3 k4 k5 k6 us hl=>by rcases us with _|⟨a,_|⟨b,_|⟨c,_|⟨d,_|⟨e,us⟩⟩⟩⟩⟩<;>first|exact b9 (b9 (b9 (b9 (b9 (b9 (b9 (b9 (b9 (b9 h a) b) c) d) k1) k2) k3) k5) k6) k4|cases hl
def d4(P:Program)(w:World)(base:Heap)(X:K.In h)(G:h.Ns mainGlobals mg)(b:FN K x st)(ok:∀f fd,fb K x x st f fd->c6 P w K mg base fD k f fd [p,p2,r,s] sp)(h:Bd4 x x st p p2 r s:=by rfl):eC P w K mg base k x [p,p2,r,s] sp:=Na b (λ_ _ F=>bd4 F h) X G ok
def MN(K:Frag)(C:Addr)(x q:Str)(st:Stmt):Prop:=∃f fd,findIn K (.ref C) x=some (some (.ref f))/\isFn K (.ref f)=true/\fb K x q st f fd
def aa3{K:Frag}{x q:Str}{st:Stmt}{f C:Addr}{oc:Value}{od an:Option Addr}{zO:Array (Option Value)}{kV doc pm c7 ct:Value}(a:findIn K (.ref C) x=some (some (.ref f)))(i:isFn K (.ref f)=true)(l:K.lookup f=some {oc,od,.func (fnOf x q (kD st) (jL st) (bI st) .none kV doc pm an c7 ct),zO})(c:codeIn K c7 q=true)(k:keepIn K (.ref f)=true):MN K C x q st:={f,_,a,i,Qe l c k}
def m2(P:Program)(w:World)(base:Heap)(mg:Str->Option Value)(b:MN K C x q st)(ok:∀f fd,fb K x q st f fd->c6 P w K mg base fD k f fd [p,p2] sp)(h:Bd2 x q st p p2:=by rfl):qE P w K mg base C k x [p,p2] sp:=
 have⟨f,fd,a,i,F⟩:=b
 {f,fd,ok f fd F,{a,i,F.kp},bd2 F h}
def m3(P:Program)(w:World)(base:Heap)(mg:Str->Option Value)(b:MN K C x q st)(ok:∀f fd,fb K x q st f fd->c6 P w K mg base fD k f fd [p,p2,r] sp)(h:Bd3 x q st p p2 r:=by rfl):qE P w K mg base C k x [p,p2,r] sp:=
 have⟨f,fd,a,i,F⟩:=b
 {f,fd,ok f fd F,{a,i,F.kp},bd3 F h}
end
def all_mk{l:PySem.W.OpenLaw}{w:World}{K:Frag}{h:Heap}{mg:Str->Option Value}{fa C0:Addr}{t0 t1:Tok}(X:K.In h)(G:h.Ns mainGlobals mg)(hfa:mg "law"=some (.ref fa))
  (yn:FN K "is_value" xK)
  (u3:FN K "is_unknown" uB)
  (sS:FN K "unknowns_of" sJ)
  (Au:FN K "rows_of" zx)
  (Az:FN K "answers" zD)
  (Ay:FN K "counted" zC)
  (wo:FN K "counts_of" we)
  (rB:FN K "needed_terms" qS)
  (yh:FN K "narrowed" xG)
  (wm:FN K "places_of" wd)
  (EX:FN K "image" Er)
  (yo:FN K "is_image" xM)
  (rA:FN K "tails_by_key" qR)
  (CN:FN K "_law_feed" Cd)
  (CO:FN K "_law_draw" Ce)
  (CM:FN K "_law_pool" Cc)
  (Aw:FN K "_law_names" zA)
  (yi:FN K "_law_values" xH)
  (yl:FN K "_law_length" xJ)
  (uZ:FN K "_law_question" uA)
  (yj:FN K "_law_tables" xI)
  (Ax:FN K "_law_apart" zB)
  (Av:FN K "_law_other" zy)
  (EW:FN K "_law_due" Ep)
  (Nj:FN K "law" L6)
  (cA0:nsIn K mainGlobals "Asking"=some (some (.ref C0)))
  (S4:plainGet K C0 Str.empty=true)
  (S8:hasDictIn K C0=true)
  (SY:PySem.W.plainOver K C0=true)
  (SX:findIn K (.ref C0) "__setattr__"=some (some (.builtin "object.__setattr__")))
  (S6:PySem.W.makesIn K C0=true)
  (S7:keepIn K (.ref C0)=true)
  (Aq:findIn K (.ref C0) "tables"=some none)
  (ES:findIn K (.ref C0) "kept"=some none)
  (ER:findIn K (.ref C0) "maps"=some none)
  (CI:findIn K (.ref C0) "tails"=some none)
  (uY:MN K C0 "__init__" "Asking.__init__" uz)
  (rC:MN K C0 "best_place" "Asking.best_place" qT)
  (CL:MN K C0 "take" "Asking.take" Cb)
  (mY:MN K C0 "fresh_unknowns" "Asking.fresh_unknowns" mO)
  (ot:MN K C0 "tails_of_maps" "Asking.tails_of_maps" oo)
  (z0:nsIn K mainGlobals "len"=some none)
  (z1:nsIn K mainGlobals "abs"=some none)
  (z2:nsIn K mainGlobals "range"=some none)
  (z3:nsIn K mainGlobals "tuple"=some none)
  (z4:nsIn K mainGlobals "list"=some none)
  (z5:nsIn K mainGlobals "isinstance"=some none)
  (z6:nsIn K mainGlobals "all"=some none)
  (z7:nsIn K mainGlobals "str"=some none)
  (z8:nsIn K mainGlobals "sum"=some none)
  (z9:nsIn K mainGlobals "dict"=some none)
  (W8:nsIn K mainGlobals "sorted"=some none)
  (W7:nsIn K mainGlobals "set"=some none)
  (W6:nsIn K mainGlobals "enumerate"=some none)
  (W5:nsIn K mainGlobals "zip"=some none)
  (W4:nsIn K mainGlobals "bool"=some none)
  (Yw:nsIn K mainGlobals "SIGNS"=some (some (.str "abcdefghijklmnopqrstuvwxyz0123456789" t0)))
  (Yv:nsIn K mainGlobals "MOST_SIGNS"=some (some (.int 8 t1)))
  :∃fd:FuncData,(∀(s:Shared)(v:Value),BindsTo s fd {[v],[]} [("_law_script",v)])/\∀base:Heap,K.In base->base.Ns mainGlobals mg->c6 l.prog w K mg base fD 10 fa fd ["_law_script"] (Gm K):=by
 obtain⟨f,fd,a,F⟩:=Nj;have e:=hfa.symm.trans (oV X G a);cases e;have T:Txt K mg:={cj X G z0,cj X G z1,cj X G z2,cj X G z3,cj X G z4,cj X G z5,cj X G z6,cj X G z7,cj X G z8,cj X G z9,cj X G W8,cj X G W7,cj X G W6,cj X G W5,cj X G W4,{_,oV X G Yw},{_,oV X G Yv}};refine{fd,?_,λbase _ _=>?_}
 ·obtain⟨_,_,_,_,_,_,_,_,_,rfl,_,_⟩:=F.ex
  exactλs v=>.of_eq rfl
 have D5:=d1 l.prog w base X G yn λ_ _ F=>JC F T;have Ja:=d1 l.prog w base X G u3 λ_ _ F=>Gi F T ⟨D5⟩;have Gk:=d1 l.prog w base X G sS λ_ _ F=>EB F T {⟨D5⟩,Ja};have Qt:=d2 l.prog w base X G Au λ_ _ F=>Ml F T;have BY:=d1 l.prog w base X G wm λ_ _ F=>HJ F T;have LH:=d3 l.prog w base X G EX λ_ _ F=>RS F T;have Nd:=d2 l.prog w base X G yo λ_ _ F=>JD F T;have EL:=d4 l.prog w base X G rA λ_ _ F=>Dx F T ⟨Nd⟩;have D3:=d3 l.prog w base X G yh λ_ _ F=>JB F T ⟨BY,LH⟩;have EM:=d2 l.prog w base X G rB λ_ _ F=>Dy F T;have O:CU K C0:={⟨S4,S8,SY,SX⟩,Aq,ES,ER,CI};have ic:=m2 l.prog w base mg mY λ_ _ F=>RT F T O ⟨Gk⟩;have iE:=m2 l.prog w base mg ot λ_ _ F=>RP F T O {⟨BY,LH⟩,ic,Qt,EL};have uM:=m2 l.prog w base mg rC λ_ _ F=>Wj F T O ⟨iE⟩;have HZ:=m3 l.prog w base mg CL λ_ _ F=>Wf F T O ⟨ic,iE,D3⟩;obtain⟨fi,fdi,ai,ii,Fi⟩:=uY;have k_A:Jl l.prog w K mg base C0 1 "Asking" ["self","tables"] (G2 l.prog w K C0):={_,_,⟨S6,ai,ii,S7⟩,RR Fi T O,oV X G cA0,bd2 Fi rfl};have BZ:=d2 l.prog w base X G wo λ_ _ F=>HK F T O ⟨k_A,uM,HZ,EM,D3⟩;have Qz:=d2 l.prog w base X G Az λ_ _ F=>Mn F T ⟨BZ⟩;have Qy:=d2 l.prog w base X G Ay λ_ _ F=>Mm F T ⟨BZ⟩;have SW:=d1 l.prog w base X G CN λ_ _ F=>Wh F;have rq:=d2 l.prog w base X G CO λ_ _ F=>Wi F T;have CF:=d3 l.prog w base X G CM λ_ _ F=>Wg F T ⟨rq⟩;have Qv:=d1 l.prog w base X G Aw λ_ _ F=>xR F T {⟨rq⟩,CF};have Nb:=d1 l.prog w base X G yi λ_ _ F=>OC F T {⟨rq⟩,CF};have D4:=d2 l.prog w base X G yl λ_ _ F=>OE F T ⟨rq⟩;have I8:=d4 l.prog w base X G uZ λ_ _ F=>JA F T {{⟨rq⟩,CF},D4};have Nc:=d3 l.prog w base X G yj λ_ _ F=>OD F T {⟨rq⟩,D4};have Qu:=d1 l.prog w base X G Av λ_ _ F=>RQ F T;have Qw:=d1 l.prog w base X G Ax λ_ _ F=>RU F T ⟨Qu⟩;have WL:=d2 l.prog w base X G EW λ_ _ F=>Ye F T;exact Yd F T ⟨SW,Qv,Nb,I8,Nc,Qw,WL,Qy,Qz⟩
def walk{l:PySem.W.OpenLaw}{K:Params->Frag}(hn:l.most=some 63)(P1:d.params.defaults=[])
  (hY:∀(w:World)(h:Heap),YP w h->(K w.params).In h)
  (F:∀(w:World)(mg:Str->Option Value)(fa:Addr)(h:Heap),(K w.params).In h->h.Ns mainGlobals mg->mg d.name=some (.ref fa)->
   ∃fd:FuncData,(∀(s:Shared)(u:Value),BindsTo s fd {[u],[]} [("_law_script",u)])/\∀base:Heap,(K w.params).In base->base.Ns mainGlobals mg->c6 l.prog w (K w.params) mg base fD 10 fa fd ["_law_script"] (Gm (K w.params))):
  PySem.W.WalkO q loose XP YP l.row.toRowW d [] (λf vs=>PySem.call f vs):=
 L2.VC (n:=63) (k:=10) (x:="_law_script") (CX:=λ_=>fD) (sp:=λw=>Gm (K w.params)) hn (by decide) P1 {rfl,by decide,by decide} hY F (λ_ H a ns hl hO hS=>{a,ns,rfl,XI hO hS,hl,λ_=>rfl}) λ_ _ _ _ _ z=>z
end jn
open PySem PySem.W PyProof.Rows
set_option maxHeartbeats 0 in
theorem PySem.Challenge.cw_askviews_k10_whole_two_questions_as_one_holds : PySem.Challenge.rw_askviews_k10_whole_two_questions_as_one.Holds := by
 w_on;refine holds_law (by rw[PySem.W.Fast.te9446332074065402090];kernel_rfl) λadn=>?_
 refine holds_open (q:=jn.qf PySem.Challenge.pw_askviews_k10_whole_two_questions_as_one) (loose:=[]) (Xt:=jn.XF PySem.Challenge.pw_askviews_k10_whole_two_questions_as_one) (XP:=XL (jn.qf PySem.Challenge.pw_askviews_k10_whole_two_questions_as_one) []) (Yf:=Hook.obs jn.HF) (Ya:=Hook.val jn.HF) (YP:=Hook.says jn.HF) (N:=2400) jn.head (Hook.of jn.HF) (Hook.keeps jn.HF)
  (λs e=>xl_of s (qH.mp e).1) XL.keeps (by rfl) (by rfl) (by rfl) (λs e=>recFacts_of (qH.mp e).2) (by rfl) (by first|assumption|decide+kernel) (by decide+kernel) {rfl,rfl,rfl,rfl,rfl,by decide+kernel} ?hw ?hc
 case hw=>w_witness2
 case hc=>
 unfold jn.HF
 k_fill
 refine jn.walk (l:=PySem.Challenge.rw_askviews_k10_whole_two_questions_as_one) rfl rfl (λw h Y=>PySem.W.kIn_of Y) ?F
 case F=>
  intro w mg fa h KX G PL
  refine' jn.all_mk KX G PL ?yn ?u3 ?sS ?Au ?Az ?Ay ?wo ?rB ?yh ?wm ?EX ?yo ?rA ?CN ?CO ?CM ?Aw ?yi ?yl ?uZ ?yj ?Ax ?Av ?EW ?Nj ?cA0 ?S4 ?S8 ?SY ?SX ?S6 ?S7 ?Aq ?ES ?ER ?CI ?uY ?rC ?CL ?mY ?ot ?z0 ?z1 ?z2 ?z3 ?z4 ?z5 ?z6 ?z7 ?z8 ?z9 ?W8 ?W7 ?W6 ?W5 ?W4 ?Yw ?Yv
  case yn|u3|sS|Au|Az|Ay|wo|rB|yh|wm|EX|yo|rA|CN|CO|CM|Aw|yi|yl|uZ|yj|Ax|Av|EW|Nj=>refine' jn.abp ?a ?l ?c ?k;case a|l|c|k=>k_is
  case cA0|S4|S8|SY|SX|S6|S7|Aq|ES|ER|CI=>k_is
  case uY|rC|CL|mY|ot=>refine' jn.aa3 ?a ?i ?l ?c ?k;case a|i|l|c|k=>k_is
  case z0|z1|z2|z3|z4|z5|z6|z7|z8|z9|W8|W7|W6|W5|W4|Yw|Yv=>k_is
