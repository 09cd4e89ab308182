import PyProof.Rows.All
import Wide.All
import OpenK.AllK
import PySem.Challenge.RW_askviews_k60_candidates
set_option Elab.async false
set_option linter.all false
set_option bootstrap.genMatcherCode false
set_option maxRecDepth 100000
set_option maxHeartbeats 4000000
local macro_rules|`({$xs:term,*})=>`(⟨$xs,*⟩)
local macro_rules|`(∅)=>`((by lia))
noncomputable section
open PySem.W (Frag findIn nsIn fnOf emptyDict keepIn instObj plainGet kitOne codeIn hasDictIn isFn lookIn)
abbrev R0:=List (PySem.Str×List PySem.Str)
abbrev R1:=List (List PySem.Str)
abbrev Aaa:=List (PySem.Addr×PySem.Obj)
abbrev Aab:=PySem.Str->Option PySem.Value
abbrev Aac:=PySem.Value->PySem.Shared->Prop
abbrev Aae:=List PySem.Value
abbrev Aaf:=List PySem.Str
abbrev Aag:=Option PySem.Value
abbrev Aah:=List PySem.Addr
abbrev Aai:=Option PySem.Addr
abbrev Aaj:=Array PySem.Value
section
open PySem
def ae:=@wpAny_bind
def af:=@wpAny_pure
def ah:=@PySem.Heap.get?_push_of_some
def ak:=@List.length_map
def ao:=@Nat.le_refl
def aq:=@List.getElem?_eq_getElem
def au:=@List.mem_singleton
def aw:=@List.getElem?_eq_some_iff
def ax:=@if_neg
def ay:=@List.mem_cons_self
def az:=@List.mem_cons_of_mem
def aA:=@if_pos
def aB:=@PySem.Heap.get?_push_size
def aD:=@PySem.Heap.lt_size
def aE:=@List.mem_of_getElem?
def aF:=@List.mem_cons
def aG:=@Nat.ne_of_lt
def aI:=@List.getElem?_map
def aJ:=@List.mem_map
def aL:=@Nat.le_trans
def aM:=@List.length_append
def aN:=@List.map_append
def aO:=@List.size_toArray
def aR:=@Nat.zero_le
def aU:=@List.length_take
def aV:=@Nat.lt_of_lt_of_le
def aW:=@of_decide_eq_true
def aX:=@decide_eq_true
def aY:=@List.mem_append
def aZ:=@Array.length_toList
def a9:=@PySem.Paired.length
def ba:=@wpAny_call_entry
def bb:=@Option.map_eq_some_iff
def bg:=@List.take_add_one
def bh:=@List.take_length
def bo:=@List.map_cons
def bq:=@Array.getElem?_eq_getElem
def bu:=@List.length_cons
def bx:=@Nat.ne_of_gt
def bA:=@Bool.false_ne_true
def bB:=@decide_eq_false
def bC:=@List.map_congr_left
def bD:=@PySem.Heap.get?_update_other
def bE:=@Bool.false_eq_true
def bF:=@Bool.and_eq_true
def bG:=@PySem.Heap.SameBut.update
def bH:=@wpAny_field
def bI:=@Nat.le_of_lt
def bK:=@Array.getElem?_toList
def bL:=@wpAny_holding
def bM:=@Option.some.inj
def bO:=@PySem.PassesOwn.never
def bQ:=@wpAny_seqItems
def bS:=@List.mem_filter
def bT:=@List.mem_map_of_mem
def bU:=@sizeLine_eq
def bV:=@wpAny_newObj_type
def bW:=@List.map_map
def bX:=@PySem.F.slot_dict_itemiterator_next
def bY:=@Ne.symm
def bZ:=@List.mem_append_right
def b6:=@wpAny_setField_rec
def b7:=@PySem.W.mg_none_of
def b9:=@PySem.F.plainAttrs_list
def cc:=@congrArg
def cj:=@PySem.Heap.get?_update_self
def cx:=@boot_len
def cy:=@PySem.Heap.size_push
def cz:=@congrFun
def cA:=@Int.toNat_natCast
def cJ:=@List.append_nil
def cL:=@Nat.lt_of_le_of_lt
def cM:=@List.length_filter_le
def cN:=@if_false
def cP:=@List.nodup_cons
def cQ:=@List.all_eq_true
def cS:=@List.getD_eq_getElem?_getD
def cV:=@List.length_singleton
def df:=@wpAny_mono
def dm:=@List.mem_range
def du:=@beq_eq_false_iff_ne
def dv:=@wpAny_attempt
def dw:=@Nat.lt_succ_self
def dy:=@Nat.lt_irrefl
def dD:=@Nat.lt_succ_of_lt
def dE:=@Option.toList_some
def dH:=@PySem.F.type_list_append
def dJ:=@PySem.F.slot_list_append
def dM:=@Nat.le_add_right
def dP:=@PyProof.Rows.callWith_type1
def dQ:=@List.mem_iff_getElem?
def dR:=@List.idxOf_lt_length_of_mem
def dW:=@wpAny_dictEntries
def dY:=@PyProof.Rows.slot_tuple_getitem
def dZ:=@PySem.F.plainAttrs_dict
def d5:=@wpAny_setField
def eA:=@codeAny_builtin
def eB:=@PySem.F.slot_dict_valueiterator_next
def eC:=@Option.map_some
def eE:=@List.mem_of_mem_take
def eG:=@PySem.F.slot_zip_next
def eI:=@List.take_of_length_le
def eJ:=@List.find?_cons_of_pos
def eK:=@List.find?_cons_of_neg
def eM:=@PySem.Calls.callWith_builtin
def eO:=@PySem.F.slot_dict_keyiterator_next
def eY:=@PySem.W.kia_one
def ff:=@List.length_eq_zero_iff
def fg:=@wpAny_isInstance
def fB:=@Nat.lt_trans
def fC:=@List.getElem?_append_right
def fE:=@List.nodup_append
def fI:=@PySem.Calls.call_function_entry
def fJ:=@Bool.eq_iff_iff
def fL:=@PySem.F.args_dict_itemiterator_next_1
def fM:=@List.getElem?_eq_none
def fP:=@wpAny_forIn_list
def fT:=@PySem.F.entry_dict_itemiterator_next
def fU:=@PySem.Calls.spliced_cons
def fW:=@wpAny_fieldsOf
def fZ:=@Nat.pow_le_pow_right
def f7:=@wpAny_truthy_bool
def gc:=@List.pairwise_map
def gf:=@List.length_range
def gg:=@wpAny_specialOf
def gh:=@wpAny_dictEpoch
def gk:=@List.length_nil
def gn:=@List.filterMap_cons
def gu:=@wpAny_typeOf
def gz:=@wpAny_rule
def gB:=@Array.getElem?_eq_some_iff
def gF:=@wpAny_notOrdered_dict
def gM:=@List.length_replicate
def gN:=@List.filter_append
def gO:=@List.rel_of_pairwise_cons
def gP:=@List.getElem?_append_left
def gW:=@wpAny_typeNameOfWhole_itemiter
def hG:=@Nat.not_lt_zero
def hJ:=@List.mem_append_left
def hU:=@List.find?_cons
def hZ:=@Option.isSome_map
def ig:=@Bool.eq_false_iff
def ik:=@plainId_quiet
def iq:=@LawfulBEq.eq_of_beq
def iu:=@wpAny_typeNameOfWhole_valiter
def iw:=@wpAny_typeNameOfWhole_keyiter
def iF:=@isSubtype_stop
def iH:=@PySem.F.slot_dict_setdefault
def iI:=@List.filter_cons
def iM:=@Nat.le_succ
def iN:=@Array.getElem?_eq_none
def iQ:=@decide_eq_true_iff
def iR:=@PySem.Obj.data_mapFields
def iS:=@Nat.pow_succ
def iT:=@List.map_singleton
def iU:=@Array.forIn_toList
def iV:=@wpAny_passesOwn
def ji:=@builtinLookup_eq_fast
def jl:=@PySem.F.slot_dict_get
def jq:=@forall_congr'
def jr:=@PySem.F.slot_NoneType_hash
def js:=@PySem.F.slot_tuple_iterator_next
def jt:=@Bool.true_and
def jx:=@List.append_assoc
def jy:=@PySem.F.slot_tuple_hash
def jz:=@PySem.F.args_zip_next_1
def jB:=@lookup_relabel_local
def jD:=@List.mem_of_find?_eq_some
def jE:=@List.mem_iff_getElem
def jJ:=@if_true
def jL:=@List.nodup_nil
def jP:=@Option.isSome_iff_exists
def jQ:=@Nat.le_of_not_lt
def jS:=@List.map_nil
def jT:=@List.length_drop
def jU:=@List.getElem_mem
def jW:=@PySem.F.entry_zip_next
def jY:=@PyProof.Rows.vals1
def jZ:=@mem_of_lookup
def j5:=@wpAny_getItem_str_slice
def j6:=@wpAny_Call_method0_late
def j9:=@PySem.F.slot_dict_items
def ka:=@List.pairwise_singleton
def kh:=@Nat.mul_assoc
def kj:=@Bool.not_true
def km:=@wpAny_updateSeq
def kA:=@List.pairwise_cons
def kB:=@List.getElem_idxOf
def kG:=@wpAny_pyIter_slot
def kH:=@decide_eq_true_eq
def kI:=@Nat.lt_trichotomy
def kK:=@PySem.Calls.spliced_nil
def kL:=@wpAny_newTuple
def kU:=@codeAny_mono
def lB:=@wpAny_pyIter_zip
def lJ:=@List.cons_append
def lK:=@PySem.Calls.evalArgs_plain
def lM:=@wpAny_onRaise
def lY:=@List.perm_ext_iff_of_nodup
def lZ:=@List.length_eraseIdx_of_lt
def l9:=@wpAny_letGo
def mz:=@evalArgs_none
def mB:=@PySem.F.args_dict_valueiterator_next_1
def mC:=@wpAny_ite_split
def mD:=@typeLookup_type
def mL:=@and_congr_right
def mN:=@PySem.F.plain_extend_loop
def mO:=@Nat.min_eq_left
def mP:=@List.pairwise_iff_getElem
def mQ:=@List.nil_append
def mR:=@List.foldl_cons
def mS:=@List.drop_eq_getElem_cons
def mT:=@Classical.byContradiction
def mU:=@PySem.F.entry_dict_valueiterator_next
def mV:=@wpAny_pyIter_tuple
def mW:=@wpAny_Call_Name_kw
def mZ:=@tupleKind_room_in1
def nv:=@call_meetsIn
def nA:=@PySem.F.type_tuple_index
def nB:=@PySem.F.slot_tuple_index
def nE:=@PySem.F.plainAttrs_tuple
def nF:=@PySem.F.args_tuple_add_2
def nG:=@PySem.F.args_dict_keyiterator_next_1
def nJ:=@PyProof.Rows.F.entry_set_update_loop
def nN:=@List.find?_eq_none
def nP:=@PySem.Code.quiet_builtin
def nQ:=@typeIs_str
def nY:=@beq_iff_eq
def oh:=@PySem.F.entry_dict_keyiterator_next
def oj:=@Bool.false_and
def oy:=@PySem.F.entry_tuple_add
def oA:=@PySem.F.args_dict_get_3
def oB:=@wpAny_pyIter_list
def oG:=@Nat.le_succ_of_le
def oH:=@Function.comp_def
def oJ:=@Decidable.not_not
def oO:=@wpAny_isOneOf_itemiter
def oV:=@PySem.F.slot_tuple_add
def oW:=@PySem.F.entry_dict_get
def oY:=@Nat.mul_add
def o9:=@wpAny_newList
def ph:=@PySem.W.mg_of
def pj:=@List.any_cons
def pz:=@List.mem_flatMap
def pA:=@List.getElem_map
def pB:=@List.ext_getElem
def pC:=@List.any_eq_true
def pE:=@wpAny_isOneOf_valiter
def pN:=@PySem.Obj.isFreed_of_fields
def pO:=@List.take_append_drop
def pP:=@List.eraseIdx_eq_take_drop_succ
def pQ:=@wpAny_execs_nil
def pY:=@post_val_or_str
def pZ:=@PyProof.Rows.plain_sorted
def qr:=@PyProof.Rows.entry_sorted
def qu:=@call_meets
def qx:=@PyProof.Rows.args_sorted1
def qy:=@PySem.Txt.slice_le
def qz:=@PySem.F.args_dict_setdefault_3
def qA:=@Nat.succ_pos
def qB:=@Nat.mod_lt
def qD:=@List.length_zip
def qF:=@Int.zero_add
def qH:=@Bool.and_eq_true_iff
def qI:=@PySem.F.slot_dict_values_iter
def qJ:=@PySem.F.entry_dict_setdefault
def qQ:=@PySem.W.plainGet_of
def qR:=@List.map_eq_nil_iff
def qS:=@List.filter_sublist
def qT:=@PySem.F.plain_extend_loop
def rG:=@PySem.F.type_dict_setdefault
def rH:=@PySem.F.slot_dict_items_iter
def rJ:=@List.take_zero
def rK:=@PySem.F.args_tuple_iterator_next_1
def rL:=@Bool.and_false
def rQ:=@PyProof.Rows.kind_sorted
def sx:=@PyProof.Rows.assignInOrder_cons
def sE:=@PySem.W.callWith_K
def sG:=@List.mem_filterMap
def sH:=@List.filterMap_map
def sI:=@Int.emod_lt_of_pos
def sJ:=@PySem.F.entry_tuple_iterator_next
def sL:=@Array.getD_eq_getD_getElem?
def sM:=@wpAny_standAt
def sP:=@PyProof.Rows.listUpdate_at
def sU:=@Nat.add_assoc
def sV:=@PySem.Calls.Name_function_global
def sW:=@Array.perm_iff_toList_perm
def sX:=@wpAny_setState_of
def sY:=@wpAny_Call_method
def tF:=@PySem.Obj.cls_mapFields
def tG:=@Nat.mul_left_comm
def tH:=@List.reverse_cons
def tJ:=@List.map_inj_left
def tK:=@List.ext_getElem?
def tL:=@PySem.Heap.SameBut.refl
def tM:=@Array.toList_push
def tN:=@wpAny_letOwnedTupleGo_zip
def tP:=@PyProof.Rows.vals2
def ue:=@PySem.F.entry_extend_loop
def uf:=@PySem.F.args_dict_items_1
def ur:=@wpAny_askSetting
def uK:=@noFill_tuple_add
def vb:=@PySem.F.type_list_extend
def vc:=@PySem.F.slot_list_extend
def vd:=@PySem.F.slot_dict_values
def ve:=@PySem.F.slot_dict_update
def vf:=@PySem.F.entry_dict_items
def vi:=@Nat.zero_add
def vj:=@Nat.succ_le_succ
def vn:=@Nat.add_zero
def vo:=@List.not_mem_nil
def vp:=@List.mem_reverse
def vq:=@List.mem_flatten
def vt:=@List.lookup_cons
def vy:=@List.getElem?_take_of_lt
def vz:=@Array.toList_inj
def vA:=@Array.getElem?_replicate
def vB:=@meetsH_dict_get_default
def vC:=@PySem.F.type_dict_items
def vD:=@Nat.add_sub_cancel_left
def vE:=@List.pairwise_mergeSort
def vF:=@List.lookup_eq_some_iff
def vG:=@List.getElem?_replicate
def vH:=@List.filter_cons_of_neg
def vI:=@List.Pairwise.filterMap
def vO:=@size_of_entries
def wa:=@PyProof.Rows.entry_list_sort
def wk:=@List.of_mem_zip
def wm:=@Int.emod_nonneg
def wq:=@wpAny_Assign_Subscript
def wt:=@PyProof.Rows.subscriptTail_builtinR
def wy:=@PyProof.Rows.seqEpoch_at
def wN:=@PySem.W.cellsFrom_some
def wO:=@PySem.F.slot_dict_iter
def wQ:=@PySem.Paired.snoc
def wR:=@Option.map_eq_none_iff
def wU:=@Nat.mod_mul
def wV:=@Nat.add_mul
def wX:=@List.range_succ_eq_map
def wY:=@List.pairwise_lt_range
def wZ:=@List.not_of_lt_findIdx
def w4:=@List.getElem?_set_self
def w5:=@List.drop_eq_nil_of_le
def xa:=@wpAny_isTrue_Compare1
def xb:=@wpAny_isOneOf_keyiter
def xg:=@PyProof.Rows.slot_list_sort
def xx:=@isSubtype_type
def xM:=@entryFor_alias
def xO:=@PyProof.Rows.args_list_sort
def xP:=@PySem.F.type_dict_get
def xQ:=@PySem.F.plain_set_new
def xR:=@Classical.choose_spec
def xS:=@Bool.not_false
def xV:=@wpAny_pyIter_keyiter
def yK:=@codeAny_call_builtin
def yR:=@PySem.Obj.data_mapDictKeys
def yS:=@Nat.not_lt
def yT:=@List.getElem?_set_ne
def yV:=@PySem.Heap.get?_none_of_le
def yW:=@PySem.F.args_object_init_3
def yX:=@PySem.F.args_list_append_2
def yZ:=@Array.mem_toList_iff
def y9:=@seq_tuple_add
def zp:=@List.map_take
def zu:=@Bool.or_false
def zv:=@wpAny_dictSet_pairs
def zy:=@PyProof.Rows.entry_tuple_getitem
def zB:=@PySem.W.kdu_collect
def zC:=@PyProof.Rows.lt_str
def zD:=@Nat.add_le_add_left
def zE:=@List.mergeSort_perm
def zF:=@List.length_reverse
def zG:=@PySem.F.entry_list_append
def zI:=@wpAny_setItem_heap
def zJ:=@wpAny_getItem_heap
def zK:=@wpAny_eqBool_tuple
def zO:=@sub_AttributeError
def zV:=@seqIndex_neg
def Ah:=@putSet_of
def Ap:=@of_decide_eq_false
def A2:=@concat_meets
def Bc:=@PyProof.Rows.args_tuple_getitem
def Bf:=@PySem.SeqAt.EqAt.str_str
def Bg:=@PySem.SeqAt.EqAt.str_int
def Bh:=@PySem.SeqAt.EqAt.int_str
def Bi:=@PySem.F.called_set
def Bj:=@Nat.sub_zero
def Bk:=@Nat.sub_self
def Bl:=@Nat.mul_comm
def Bm:=@Nat.le_of_eq
def Bn:=@List.mem_replicate
def Bo:=@List.map_inj_right
def Bp:=@List.countP_append
def Bq:=@List.any_map
def Br:=@List.all_map
def Bs:=@PyProof.Rows.IsTup.new
def Bu:=@PySem.F.slot_list_append
def BI:=@wpAny_storeSet_of
def BJ:=@wpAny_sequenceKey
def BK:=@wpAny_pyIter_enum
def BL:=@wpAny_assign_Name
def BO:=@eqIsQuiet_byValue
def BP:=@bne_self_eq_false
def BQ:=@PyProof.Rows.assignInOrder_nil
def BR:=@PySem.StrLaws.subAt_one
def BS:=@list_append
def BU:=@PySem.W.kitx_list
def BV:=@PySem.W.kitx_dict
def BW:=@List.take_sublist
def BX:=@List.foldl_append
def BY:=@List.flatMap_cons
def BZ:=@List.find?_isSome
def B1:=@List.any_eq_false
def B3:=@wpAny_of_eq
def B4:=@wpAny_mkInt
def B8:=@seqIndex_of
def Dk:=@PyProof.Rows.good_str
def DJ:=@Prod.ext
def DO:=@wpAny_load
def DP:=@wpAny_call
def DQ:=@wpAny_Name
def DW:=@strKind_is
def E1:=@PyProof.Rows.Subscript_
def E3:=@PyProof.Rows.Call_
def FT:=@Iff.rfl
end
namespace L2
open PySem PySem.Spec PyProof.Rows
abbrev Key:=Sum Int Str
def yA:Key->Value->Bool
 | .inl k,v=>Value.isInt k v
 | .inr x,v=>Value.isStrOf x v
def acI(w:World):Key->Int
 | .inl k=>hashInt k
 | .inr x=>hashStr w x
theorem gR:∀{k:Key}{v:Value},yA k v=true->(∃i t,k=Sum.inl i/\v=Value.int i t)\/(∃x t,k=Sum.inr x/\v=Value.str x t)
 | .inl i,v,h=>by obtain⟨t,e⟩:=Value.isInt_shape h;exact .inl ⟨i,t,rfl,e⟩
 | .inr x,v,h=>by obtain⟨t,e⟩:=Value.isStrOf_shape h;exact .inr ⟨x,t,rfl,e⟩
def P1(i:Int)(t:Tok):yA (.inl i) (.int i t)=true:=by simp[yA,Value.isInt]
def P0(x:Str)(t:Tok):yA (.inr x) (.str x t)=true:=by simp[yA,Value.isStrOf]
def ZM(a b:Int):decide ((Sum.inl a:Key)=Sum.inl b)=(a==b):=by
 by_cases e:a=b
 ·subst e;simp
 ·have h:¬(Sum.inl a:Key)=Sum.inl b:=λq=>e (Sum.inl.inj q);rw[bB h];exact(du.mpr e).symm
def ZJ(a b:Str):decide ((Sum.inr a:Key)=Sum.inr b)=decide (a=b):=by
 by_cases e:a=b
 ·subst e;simp
 ·have h:¬(Sum.inr a:Key)=Sum.inr b:=λq=>e (Sum.inr.inj q);rw[bB h,bB e]
def ZL(a:Int)(b:Str):decide ((Sum.inl a:Key)=Sum.inr b)=false:=bB (λq=>nomatch q)
def ZK(a:Str)(b:Int):decide ((Sum.inr a:Key)=Sum.inl b)=false:=bB (λq=>nomatch q)
noncomputable def bJ(prog:Program)(w:World):PySem.KeyKind prog w Key where
 is:=yA
 hash:=acI w
 inj:=λv a b ha hb=>by
  rcases gR ha with⟨i,t,rfl,rfl⟩|⟨x,t,rfl,rfl⟩
  ·rcases gR hb with⟨j,u,rfl,e⟩|⟨y,u,rfl,e⟩
   ·injection e with e1 _;rw[e1]
   ·exact nomatch e
  ·rcases gR hb with⟨j,u,rfl,e⟩|⟨y,u,rfl,e⟩
   ·exact nomatch e
   ·injection e with e1 _;rw[e1]
 byValue:=λk v h=>by rcases gR h with⟨i,t,rfl,rfl⟩|⟨x,t,rfl,rfl⟩<;>rfl
 pyHash:=λhv h=>by
  rcases gR hv with⟨i,t,rfl,rfl⟩|⟨x,t,rfl,rfl⟩
  ·exact wpAny_pyHash_int h
  ·exact wpAny_pyHash_str h
 eqBool:=λhu hv h=>by
  rcases gR hu with⟨i,t,rfl,rfl⟩|⟨x,t,rfl,rfl⟩
  ·rcases gR hv with⟨j,u,rfl,rfl⟩|⟨y,u,rfl,rfl⟩
   ·rw[ZM]at h;exact wpAny_eqBool_int h
   ·rw[ZL]at h;exact Bh i t y u _ _ _ _ h
  ·rcases gR hv with⟨j,u,rfl,rfl⟩|⟨y,u,rfl,rfl⟩
   ·rw[ZK]at h;exact Bg x t j u _ _ _ _ h
   ·rw[ZJ]at h;exact wpAny_eqBool_str h
 «strs»:=λk x t v h=>by
  rcases gR h with⟨i,u,rfl,e⟩|⟨y,u,rfl,e⟩
  ·exact nomatch e
  ·injection e with e1 _;subst e1;cases v<;>rfl
def KN(prog:Program)(w:World)(i:Int)(t:Tok):(bJ prog w).is (.inl i) (.int i t)=true:=P1 i t
def Cg(prog:Program)(w:World)(x:Str)(t:Tok):(bJ prog w).is (.inr x) (.str x t)=true:=P0 x t
inductive V where
 |cb|bl (b:Bool)|int (i:Int)|str (x:Str)|tE (b:Array UInt8)|GK (b:UInt64)|ref (a:Addr)|ty (n:String)
 deriving DecidableEq
abbrev Aak:=List (V×V)
abbrev Aam:=List V
abbrev Aan:=Option V
def RelV:V->Value->Prop
 | .cb,u=>u=Value.none
 | .bl b,u=>u=Value.bool b
 | .int i,u=>∃t,u=Value.int i t
 | .str x,u=>∃t,u=Value.str x t
 | .tE b,u=>∃t,u=Value.bytes b t
 | .GK b,u=>∃t,u=Value.float b t
 | .ref a,u=>u=Value.ref a
 | .ty n,u=>u=Value.type n
abbrev Vals:Aam->Aae->Prop:=Paired RelV
def Vals.length(r:Vals xs us):xs.length=us.length:=a9 r
theorem Vals.get:∀{xs:Aam}{us:Aae}{i:Nat}{x:V},Vals xs us->xs[i]?=some x->∃u,us[i]?=some u/\RelV x u
 |_,_,_,_,.nil,e=>by simp at e
 |_,_,0,_,.cons r _,e=>by simp at e;subst e;exact⟨_,rfl,r⟩
 |_,_,i+1,x,.cons _ t,e=>by obtain⟨u,h1,h2⟩:=Vals.get (i:=i) (x:=x) t (by simpa using e);exact{u,by simpa using h1,h2}
theorem Vals.set(r:RelV x u):∀{xs:Aam}{us:Aae}(i:Nat),Vals xs us->Vals (xs.set i x) (us.set i u)
 |_,_,_,.nil=>.nil
 |_,_,0,.cons _ t=>.cons r t
 |_,_,i+1,.cons q t=>.cons q (Vals.set r i t)
theorem Vals.append:∀{xs ys:Aam}{us ws:Aae},Vals xs us->Vals ys ws->Vals (xs++ys) (us++ws)
 |_,_,_,_,.nil,s=>s
 |_,_,_,_,.cons r t,s=>.cons r (Vals.append t s)
theorem Vals.take:∀{xs:Aam}{us:Aae}(n:Nat),Vals xs us->Vals (xs.take n) (us.take n)
 |_,_,0,_=>.nil
 |_,_,_+1,.nil=>.nil
 |_,_,n+1,.cons r t=>.cons r (Vals.take n t)
theorem Vals.drop:∀{xs:Aam}{us:Aae}(n:Nat),Vals xs us->Vals (xs.drop n) (us.drop n)
 |_,_,0,r=>r
 |_,_,_+1,.nil=>.nil
 |_,_,n+1,.cons _ t=>Vals.drop n t
def kW:Aan->Aag->Prop
 |some v,some u=>RelV v u
 |none,none=>True
 |_,_=>False
def KV:List (κ×V)->List (κ×Value)->Prop:=Paired λ(p:κ×V)(q:κ×Value)=>p.1=q.1/\RelV p.2 q.2
def kV:Key->V
 | .inl i=>.int i
 | .inr x=>.str x
inductive HO where
 |lst (xs:Aam)
 |tup (xs:Aam)
 |dK (kvs:List (Key×V))|dT (kvs:List (List Key×V))
 |set (S:Int->Bool) (n:Nat)
 |ins (C dx:Addr) (fs:List (Str×V))
 |own (x:Addr)
 |xd (fs:List (Str×V))
 |met (f x:Addr)
 |YI (lo hi:Int)
 |fA (o:Obj) (u:HO)
 |HH (ps:Aaj)
 |ext (φ:Heap->Prop)
abbrev Hp:=Addr->Option HO
def upd(H:Hp)(a:Addr)(o:HO):Hp:=λb=>if b=a then some o else H b
def ar:upd H a o a=some o:=by unfold upd;rw[aA rfl]
def aH(h:b≠a):upd H a o b=H b:=by unfold upd;rw[ax h]
def Nm{H:Hp}(h:H a=some o)(h':H b=some u)(d:o≠u):a≠b:=by intro e;subst e;rw[h]at h';exact d (bM h')
def bc{H:Hp}(h:H a=some o)(h':H b=none):a≠b:=by intro e;subst e;rw[h]at h';cases h'
section
variable(P:Program)(w:World)
noncomputable def cI(H:Hp)(h:Heap)(a:Addr):HO->Prop
 | .lst xs=>xs.length<=sizeLine/\∃(aP:Aae)(n:Nat),Vals xs aP/\h.get? a=some {cls:=.type "list",data:=.seq aP.toArray n}
 | .tup xs=>xs.length<=sizeLine/\∃aP:Aae,Vals xs aP/\IsTup h a aP.toArray/\∃o,h.get? a=some o/\o.dict=none
 | .dK kvs=>kvs.length<=sizeLine/\(a==sysModules)=false/\∃vs,KV kvs vs/\h.DictOf (bJ P w) a vs
 | .dT kvs=>kvs.length<=sizeLine/\(a==sysModules)=false/\∃xs:List (List Key×Addr×Value),
   Paired (λ(p:List Key×V)(q:List Key×Addr×Value)=>p.1=q.1/\H q.2.1=some (.tup (p.1.map kV))/\RelV p.2 q.2.2) kvs xs/\
   ∃o es ep,h.get? a=some o/\o.ExactDict/\o.data=.dict es ep/\es.toList=xs.map (entryOfKey (tupleKind (bJ P w)))/\(xs.map (·.1)).Nodup
 | .set S n=>h.SetOf (intKind P w) a S n
 | .ins C dx fs=>H dx=some (.own a)/\fs.length<=1000/\dx≠a/\h.get? a=some (instObj C dx)/\
   ∃mA,h.Ns1 dx mA/\(∀f,kW (fs.lookup f) (mA f))/\PySem.Within mA (fs.map (·.1))
 | .own _=>∃o,h.get? a=some o
 | .xd fs=>∃mA,h.Ns1 a mA/\∀f,kW (fs.lookup f) (mA f)
 | .YI lo hi=>∃t u v,h.get? a=some {cls:=.type "range",data:=.fields #[.int lo t,.int hi u,.int 1 v]}
 | .fA o u=>h.get? a=some o/\cI H h a u
 | .HH ps=>h.get? a=some {cls:=.none,data:=.fields ps}
 | .met f x=>h.get? a=some (PySem.W.methodObj (.ref f) (.ref x))
 | .ext φ=>φ h/\(∃o,h.get? a=some o)/\∀h1 h2:Heap,φ h1->(∀o,h1.get? a=some o->h2.get? a=some o)->φ h2
def jI(H:Hp)(h:Heap):Prop:=∀a o,H a=some o->cI P w H h a o
end
section
variable{P:Program}{w:World}{H H':Hp}{h h':Heap}{a:Addr}{o:HO}
def cI.lt(x:cI P w H h a o):a<h.objs.size:=by
 cases o with
 |lst xs=>obtain⟨_,_,_,_,e⟩:=x;exact aD e
 |tup xs=>obtain⟨_,_,_,p,_⟩:=x;exact p.lt
 |dK kvs=>obtain⟨_,_,_,_,o,_,_,e,_⟩:=x;exact aD e
 |dT kvs=>obtain⟨_,_,_,_,o,_,_,e,_⟩:=x;exact aD e
 |set S n=>obtain⟨o,_,_,_,e,_⟩:=x;exact aD e
 |ins C dx fs=>obtain⟨_,_,_,e,_⟩:=x;exact aD e
 |own y=>obtain⟨_,e⟩:=x;exact aD e
 |xd fs=>obtain⟨_,⟨_,_,_,e,_⟩,_⟩:=x;exact aD e
 |YI lo hi=>obtain⟨_,_,_,e⟩:=x;exact aD e
 |fA ob u=>obtain⟨e,_⟩:=x;exact aD e
 |HH ps=>exact aD (show h.get? a=some _ from x)
 |met f y=>exact aD (show h.get? a=some _ from x)
 |ext φ=>obtain⟨_,⟨_,e⟩,_⟩:=x;exact aD e
theorem Paired.Nr:∀{aad:List α}{aac:List β},Paired F aad aac->(∀a b,F a b->G a b)->Paired G aad aac
 |_,_,.nil,_=>.nil
 |_,_,.cons r t,f=>.cons (f _ _ r) (Paired.Nr t f)
def Paired.imp'(f:∀a b,F a b->G a b)(r:Paired F aad aac):Paired G aad aac:=Paired.Nr r f
def cI.j7(x:cI P w H h a o)(k:∀b u,(b=a\/H b=some (.own a))->h.get? b=some u->h'.get? b=some u)
  (ho:∀b,H b=some (.own a)->H' b=some (.own a)) (ht:∀b xs,H b=some (.tup xs)->H' b=some (.tup xs)):cI P w H' h' a o:=by
 induction o with
 |lst xs=>obtain⟨z,aP,n,r,e⟩:=x;exact{z,aP,n,r,k _ _ (.inl rfl) e}
 |tup xs=>obtain⟨z,aP,r,⟨ob,e,c⟩,o2,e2,c2⟩:=x;exact{z,aP,r,{ob,k _ _ (.inl rfl) e,c},o2,k _ _ (.inl rfl) e2,c2}
 |dK kvs=>obtain⟨z,y,vs,r,ob,es,ep,e,c⟩:=x;exact{z,y,vs,r,ob,es,ep,k _ _ (.inl rfl) e,c}
 |dT kvs=>
  obtain⟨z,y,xs,r,ob,es,ep,e,c⟩:=x;exact{z,y,xs,Paired.Nr r λp q z=>{z.1,ht _ _ z.2.1,z.2.2},ob,es,ep,k _ _ (.inl rfl) e,c}
 |set S n=>obtain⟨ob,es,ep,t,e,c⟩:=x;exact{ob,es,ep,t,k _ _ (.inl rfl) e,c}
 |ins C dx fs=>
  obtain⟨d,z,ne,e,mA,⟨od,es,ep,e2,c⟩,r⟩:=x;exact{ho _ d,z,ne,k _ _ (.inl rfl) e,mA,{od,es,ep,k _ _ (.inr d) e2,c},r}
 |own y=>obtain⟨ob,e⟩:=x;exact{ob,k _ _ (.inl rfl) e}
 |xd fs=>obtain⟨mA,⟨od,es,ep,e,c⟩,r⟩:=x;exact{mA,{od,es,ep,k _ _ (.inl rfl) e,c},r}
 |YI lo hi=>obtain⟨t,u,v,e⟩:=x;exact{t,u,v,k _ _ (.inl rfl) e}
 |fA ob u ih=>obtain⟨e,q⟩:=x;exact{k _ _ (.inl rfl) e,ih q}
 |HH ps=>
  exact k a _ (.inl rfl) x
 |met f y=>
  exact k a _ (.inl rfl) x
 |ext φ=>obtain⟨p,⟨o,e⟩,st⟩:=x;exact{st _ _ p λo q=>k _ _ (.inl rfl) q,{o,k _ _ (.inl rfl) e},st}
def jI.lt(x:jI P w H h)(e:H a=some o):a<h.objs.size:=(x a o e).lt
def jI.fresh(x:jI P w H h)(e:h.objs.size<=a):H a=none:=by
 cases q:H a with
 |none=>rfl
 |some u=>exact absurd (aV (x.lt q) e) (dy _)
def jI.kept(x:jI P w H h)(k:∀b u,h.get? b=some u->h'.get? b=some u):jI P w H h':=λa o e=>
 (x a o e).j7 (λb u _ q=>k b u q) (λ_ q=>q) λ_ _ q=>q
def jI.laid(x:jI P w H h)(k:∀b u,h.get? b=some u->h'.get? b=some u)(hp:h.objs.size<=a)(new:cI P w (upd H a o) h' a o):jI P w (upd H a o) h':=λb u e=>by
 have hn:=x.fresh hp;by_cases hb:b=a
 ·subst hb;rw[ar]at e;cases e;exact new
 ·rw[aH hb]at e;exact(x b u e).j7 (λc v _ q=>k c v q) (λc q=>by rw[aH (bc q hn)];exact q) λc xs q=>by rw[aH (bc q hn)];exact q
end
def Rd(H:Hp)(a:Addr)(u:HO):Prop:=H a=some u\/∃o,H a=some (.fA o u)
def Rd.ok(r:Rd H a u)(x:jI P w H h):cI P w H h a u:=by
 rcases r with r|⟨o,r⟩
 ·exact x a u r
 ·obtain⟨_,q⟩:=x a _ r;exact q
def RA:Option HO->Prop
 |some (.lst _)=>True
 |some (.dK _)=>True
 |some (.dT _)=>True
 |some (.set _ _)=>True
 |some (.ins _ _ _)=>True
 |some (.ext _)=>True
 |_=>False
section
variable{P:Program}{w:World}{H:Hp}{h h':Heap}{x e:Addr}{o':HO}
def jI.write(ok:jI P w H h)(mu:RA (H x))(he:e=x\/H e=some (.own x))(k:∀b u,b≠e->h.get? b=some u->h'.get? b=some u)(Ml:∃u,h'.get? e=some u)
  (new:cI P w (upd H x o') h' x o'):jI P w (upd H x o') h':=λb u q=>by
 have Y7:∀c y,H c=some (.own y)->c≠x:=λc y r z=>by subst z;rw[r]at mu;exact mu
 by_cases hb:b=x
 ·subst hb;rw[ar]at q;cases q;exact new
 ·rw[aH hb]at q;by_cases JN:b=e
  ·have q':H b=some (.own x):=by
    rcases he with z|z
    ·exact absurd (JN.trans z) hb
    ·rw[JN];exact z
   rw[q]at q';cases q';obtain⟨v,hv⟩:=Ml;exact{v,JN▸hv}
  ·refine(ok b u q).j7 (λc v hc r=>k c v ?_ r) (λc r=>by rw[aH (Y7 c b r)];exact r) λc xs r=>by rw[aH ((λc xs r z=>by subst z;rw[r]at mu;exact mu) c xs r)];exact r
   rcases hc with rfl|hc
   ·exact JN
   ·rintro rfl;rcases he with z|z
    ·exact Y7 c b hc z
    ·rw[hc]at z;cases z;exact hb rfl
end
structure Un(fs ex:Aah)(H H':Hp)(h h':Heap):Prop where
 keep:∀b o,h.get? b=some o->H b=none->b∉fs->b∉ex->h'.get? b=some o
 slot:∀b o,h.get? b=some o->H b=none->b∈fs->b∉ex->∃sl,h'.get? b=some {o with slots:=sl}
 free:∀b o,h.get? b=some o->H b=none->b∉ex->H' b=none
 there:∀b o,h.get? b=some o->b∉ex->∃o',h'.get? b=some o'
 jM:∀b xs,H b=some (.tup xs)->H' b=some (.tup xs)
 sQ:∀b o u,H b=some (.fA o u)->H' b=some (.fA o u)
 xX:∀b ps,H b=some (.HH ps)->∃more,H' b=some (.HH (ps++more))
section
variable{fs ex:Aah}{H H1:Hp}{h h1 h':Heap}{a x e:Addr}{o:HO}
def Un.any(u:Un fs ex H H1 h h1)(q:h.get? b=some ob)(n:H b=none)(hx:b∉ex):∃sl,h1.get? b=some {ob with slots:=sl}:=by
 by_cases hb:b∈fs
 ·exact u.slot b ob q n hb hx
 ·exact{ob.slots,u.keep b ob q n hb hx}
def Un.kept(k:∀b u,h.get? b=some u->h'.get? b=some u):Un fs ex H H h h':=
 {λb ob q _ _ _=>k b ob q,λb ob q _ _ _=>{ob.slots,k b ob q},λ_ _ _ n _=>n,λb ob q _=>{ob,k b ob q},λ_ _ q=>q,λ_ _ _ q=>q,λ_ ps q=>{#[],by rw[q];simp}}
def Un.refl:Un fs ex H H h h:=Un.kept λ_ _ q=>q
def Un.laid(k:∀b u,h.get? b=some u->h'.get? b=some u)(hp:h.objs.size<=a)(hn:H a=none):Un fs ex H (upd H a o) h h' where
 keep:=λb u q _ _ _=>k b u q
 slot:=λb u q _ _ _=>{u.slots,k b u q}
 free:=λb u q n _=>by rw[aH (aG (aV (aD q) hp))];exact n
 there:=λb u q _=>{u,k b u q}
 jM:=λb xs q=>by rw[aH (bc q hn)];exact q
 sQ:=λb u xs q=>by rw[aH (bc q hn)];exact q
 xX:=λb ps q=>{#[],by rw[aH (bc q hn),q];simp}
def Un.write(mu:RA (H x))(he:e=x\/H e=some (.own x))(k:∀b u,b≠e->h.get? b=some u->h'.get? b=some u)(Ml:∃u,h'.get? e=some u):Un fs ex H (upd H x o) h h':=by
 have hx:∀b,H b=none->b≠x:=λb n z=>by subst z;rw[n]at mu;exact mu
 have hb:∀b,H b=none->b≠e:=λb n z=>by
  subst z;rcases he with r|r
  ·exact hx b n r
  ·rw[n]at r;cases r
 have hm:∀b u,H b=some u->¬RA (some u)->b≠x:=λb u q nm z=>by subst z;rw[q]at mu;exact nm mu
 refine{λb u q n _ _=>k b u (hb b n) q,λb u q n _ _=>{u.slots,k b u (hb b n) q},λb u q n _=>by rw[aH (hx b n)];exact n,λb u q _=>?_,
  λb xs q=>by rw[aH (hm b _ q λz=>z)];exact q,λb u xs q=>by rw[aH (hm b _ q λz=>z)];exact q,λb ps q=>{#[],by rw[aH (hm b _ q λz=>z),q];simp}}
 by_cases JN:b=e
 ·subst JN;exact Ml
 ·exact{u,k b u JN q}
end
def X6(h:Heap)(H:Hp):Aah:=(List.range h.objs.size).filter λa=>(H a).isSome
def Dj(h:Heap)(H:Hp):Heap:=PySem.W.hideAll h (X6 h H)
def Qx(h:Heap)(H:Hp):(Dj h H).objs.size=h.objs.size:=PySem.W.hideAll_size _ _
def Ti(e:h.get? b=some o)(n:H b=none):(Dj h H).get? b=some o:=
 PySem.W.hideAll_get _ e λhm=>by have q:=(bS.mp hm).2;rw[n]at q;simp at q
def WS(e:(Dj h H).get? b=some o):h.get? b=some o/\H b=none:=by
 have e':=PySem.W.of_hideAll (X6 h H) e;refine{e',?_};cases q:H b with
 |none=>rfl
 |some x=>
  have z:(Dj h H).get? b=none:=PySem.W.hideAll_none (X6 h H) (bS.mpr {dm.mpr (aD e'),by simp[q]});rw[z]at e;cases e
def Xz(g h:Heap)(L:Addr):Aaa:=(List.range h.objs.size).filterMap λa=>if a=L\/(g.get? a).isSome=true then none else(h.get? a).map λo=>(a,o)
def rest(g h:Heap)(L d:Addr):Aaa:=(Xz g h L).filter λp=>decide (p.1≠d)
structure Mod(K:Frag)(mg:Aab)(base:Heap):Prop where
 PX:K.In base
 glob:base.Ns mainGlobals mg
 blt:∃mb,base.Ns builtinsNs mb/\∀x:Str,x≠"__name__"->mb x=bootBuiltins x
 nolimit:base.NoLimit
structure Cx where
 prog:Program
 w:World
 K:Frag
 mg:Aab
 base:Heap
 A:Around
 N:Aaf
 aab:Shared
 aaf:Hp
 env:Env
 outer:List Env
 stack:List Env
 ex:Aah
 fn:Str->Bool
 calm:Bool
 pn:Aaa
 xe:Aac
def AS(l:List Env):Aah:=l.filterMap (·.frame)
abbrev Cx.fs(X:Cx):Aah:=AS X.outer
def Vis(sc:Scope)(x:Str):Prop:=sc.names.lookup x=some .local\/sc.names.lookup x=some .cell\/sc.names.lookup x=some .free
def Loc(sc:Scope)(x:Str):Prop:=sc.names.lookup x=some .local\/sc.names.lookup x=some .cell
def Look(env:Env)(h:Heap)(m:Aab)(x:Str)(u:Value):Prop:=
 (env.kindOf x=some .local/\m x=some u)\/((env.kindOf x=some .cell\/env.kindOf x=some .free)/\∃c,env.cells.lookup x=some c/\h.IsCell c (some u))
structure Cx.Ok(X:Cx):Prop where
 mod:Mod X.K X.mg X.base
 kind:X.env.scope.kind=.function
 glob:X.env.globals=mainGlobals
 blt:X.env.builtins=builtinsNs
 above:X.aab.heap.objs.size<=X.env.locals
 inj:∀x y c,X.env.cells.lookup x=some c->X.env.cells.lookup y=some c->x=y
 has:∀x,(X.env.kindOf x=some .cell\/X.env.kindOf x=some .free)->∃c,X.env.cells.lookup x=some c
 MC:∀x c,X.fn x=true->X.env.cells.lookup x=some c->X.aab.heap.objs.size<=c
 hd:X.calm=true->X.A.handled=none
 frames:X.A.frames=some X.stack
 OE:X.stack=X.outer\/(X.stack=X.env::X.outer/\X.env.frame=some X.env.locals)
 QT:∀b∈X.ex,b≠X.env.locals/\∀x c,X.env.cells.lookup x=some c->c≠b
 bs:∀b o,X.base.get? b=some o->X.aab.heap.get? b=some o/\X.aaf b=none
 CD:X.base.objs.size<=X.aab.heap.objs.size
 Fq:∀b o,X.base.get? b=some o->b∉X.ex
 Dp:∀b∈X.ex,b∉X.fs
 rA:X.aab.heap.FunFrames X.base X.outer
 GJ:∀b∈X.fs,X.aaf b=none
structure Inv(X:Cx)(pins:Aaa)(Z:List (Aan))(H:Hp)(s:Shared):Prop where
 ok:X.Ok
 os:s.os=X.aab.os
 bare:AllBare s.gens
 base:Un X.fs X.ex X.aaf H X.aab.heap s.heap
 loc:∃m,s.heap.Ns X.env.locals m/\∀(i:Nat)(x:Str)(v:V),X.N[i]?=some x->Z[i]?=some (some v)->Vis X.env.scope x->∃u,RelV v u/\Look X.env s.heap m x u
 cell:∀x c,X.env.cells.lookup x=some c->∃v,s.heap.IsCell c v
 free:H X.env.locals=none
 nX:∀x c,X.env.cells.lookup x=some c->H c=none
 pin:∀p∈X.pn++pins,s.heap.get? p.1=some p.2/\H p.1=none/\p.1≠X.env.locals/\p.1∉X.fs/\∀v,p.2.data≠ .cell v
 bw:jI X.prog X.w H s.heap
 len:Z.length=X.N.length
section
variable{X:Cx}{pins:Aaa}{Z:List (Aan)}{H H':Hp}{s:Shared}{h':Heap}
def Cx.Ok.acB(ok:X.Ok)(e:X.base.get? b=some o):b∉X.fs:=λhb=>by have:=(ok.rA.mem hb).1;rw[e]at this;cases this
def Inv.bs(I:Inv X pins Z H s):∀b o,X.base.get? b=some o->s.heap.get? b=some o/\H b=none:=λb o e=>
 {I.base.keep b o (I.ok.bs b o e).1 (I.ok.bs b o e).2 (I.ok.acB e) (I.ok.Fq b o e),I.base.free b o (I.ok.bs b o e).1 (I.ok.bs b o e).2 (I.ok.Fq b o e)}
def Inv.bk(I:Inv X pins Z H s):∀b o,X.base.get? b=some o->s.heap.get? b=some o:=λb o e=>(I.bs b o e).1
def Inv.mod(I:Inv X pins Z H s):Mod X.K X.mg X.base:=I.ok.mod
def Inv.k9(I:Inv X pins Z H s):X.K.In s.heap:=I.ok.mod.PX.keeps I.bk
def Inv.lt(I:Inv X pins Z H s):X.env.locals<s.heap.objs.size:=let⟨_,hn,_⟩:=I.loc;hn.lt
def Inv.sz(I:Inv X pins Z H s):X.aab.heap.objs.size<=s.heap.objs.size:=aL I.ok.above (bI I.lt)
def Inv.Y8(I:Inv X pins Z H s)(h:s.heap.objs.size<=a):a∉X.fs:=λhb=>by obtain⟨_,o,ho,_⟩:=I.ok.rA.mem hb;exact absurd (aV (aD ho) (aL I.sz h)) (dy _)
def Inv.Kb(I:Inv X pins Z H s):∀x c,X.env.cells.lookup x=some c->c≠X.env.locals:=λx c e z=>by obtain⟨v,o,ho,hd⟩:=I.cell x c e;obtain⟨m,⟨o',es,ep,Ex,EE,_⟩,_⟩:=I.loc;rw[z,Ex]at ho;cases ho;rw[EE]at hd;cases hd
def Inv.rA(I:Inv X pins Z H s):s.heap.FunFrames X.base X.outer:=by
 have all:∀(l:List Env),(∀b∈AS l,b∈X.fs)->X.aab.heap.FunFrames X.base l->s.heap.FunFrames X.base l:=by
  intro l
  induction l with
  |nil=>intro _ _;trivial
  |cons env r ih=>
   intro hs hl;obtain⟨hk,⟨L,o,hf,hn,ho,hd⟩,hr⟩:=hl;have hL:=hs L (by unfold AS;rw[gn,hf];exact ay);obtain⟨sl,e⟩:=I.base.slot L o ho (I.ok.GJ L hL) hL λz=>I.ok.Dp L z hL;exact{hk,⟨L,_,hf,hn,e,hd⟩,ih (λb hb=>hs b (by unfold AS;rw[gn,hf];exact az _ hb)) hr}
 exact all X.outer (λ_ hb=>hb) I.ok.rA
def Inv.stack(I:Inv X pins Z H s):s.heap.FunFrames X.base X.stack:=by
 rcases I.ok.OE with e|⟨e,hf⟩
 ·rw[e];exact I.rA
 ·rw[e];obtain⟨m,hn,_⟩:=I.loc;refine .cons (by rw[I.ok.kind];decide) hf hn ?_ I.rA;exact yV (aL I.ok.CD I.ok.above)
def Inv.HK(I:Inv X pins Z H s):∀b∈AS X.stack,b∈X.env.locals::X.fs:=λb hb=>by
 rcases I.ok.OE with e|⟨e,hf⟩
 ·rw[e]at hb;exact az _ hb
 ·rw[e]at hb;unfold AS at hb;rw[gn,hf]at hb;exact hb
def Inv.Ls(I:Inv X pins Z H s):∀b∈AS X.stack,H b=none:=λb hb=>by
 rcases aF.mp (I.HK b hb)with e|hb
 ·rw[e];exact I.free
 ·obtain⟨_,o,ho,_⟩:=I.ok.rA.mem hb;exact I.base.free b o ho (I.ok.GJ b hb) λz=>I.ok.Dp b z hb
def Inv.step{ch:Aah}(I:Inv X pins Z H s)
  (Cw:∀b∈ch,(b∈X.ex\/X.aab.heap.objs.size<=b)/\b≠X.env.locals/\(∀x c,X.env.cells.lookup x=some c->c≠b)/\∀p∈X.pn++pins,p.1≠b)
  (keep:∀b o,b≠X.env.locals->b∉X.fs->b∉ch->s.heap.get? b=some o->H b=none->h'.get? b=some o)
  (slot:∀b o,b≠X.env.locals->b∈X.fs->b∉ch->s.heap.get? b=some o->H b=none->∃sl,h'.get? b=some {o with slots:=sl}) (free:∀b o,b∉ch->s.heap.get? b=some o->H b=none->H' b=none)
  (there:∀b o,b∉ch->s.heap.get? b=some o->∃o',h'.get? b=some o')
  (jM:∀b xs,H b=some (.tup xs)->H' b=some (.tup xs)) (sQ:∀b o u,H b=some (.fA o u)->H' b=some (.fA o u)) (xX:∀b ps,H b=some (.HH ps)->∃more,H' b=some (.HH (ps++more)))
  (ns:∀m,s.heap.Ns X.env.locals m->h'.Ns X.env.locals m) (bw:jI X.prog X.w H' h') (hg:AllBare g'):
  Inv X pins Z H' {s with heap:=h',gens:=g',drawn:=d',toks:=t'}:=by
 have LS:∀b o,X.aab.heap.get? b=some o->b≠X.env.locals:=λb o e=>aG (aV (aD e) I.ok.above);have UL:∀b o,X.aab.heap.get? b=some o->b∉X.ex->b∉ch:=λb o e hx hb=>by
  rcases(Cw b hb).1 with z|z
  ·exact hx z
  ·exact absurd (aV (aD e) z) (dy _)
 have cellK:∀x c,X.env.cells.lookup x=some c->∀v,s.heap.IsCell c v->h'.IsCell c v:=λx c e v ⟨o,ho,hd⟩=>by
  have Pw:=λz=>(Cw c z).2.2.1 x c e rfl;by_cases hc:c∈X.fs
  ·obtain⟨sl,q⟩:=slot c o (I.Kb x c e) hc Pw ho (I.nX x c e);exact⟨_,q,hd⟩
  ·exact{o,keep c o (I.Kb x c e) hc Pw ho (I.nX x c e),hd}
 refine{I.ok,I.os,hg,{λb o e n hb hx=>keep b o (LS b o e) hb (UL b o e hx) (I.base.keep b o e n hb hx) (I.base.free b o e n hx),λb o e n hb hx=>?_,λb o e n hx=>?_,λb o e hx=>?_,λb xs e=>jM b xs (I.base.jM b xs e),λb o xs e=>sQ b o xs (I.base.sQ b o xs e),λb ps e=>?_},?_,λx c e=>?_,?_,λx c e=>?_,λp hp=>?_,bw,I.len}
 ·obtain⟨sl,e1⟩:=I.base.slot b o e n hb hx;obtain⟨sl',e2⟩:=slot b _ (LS b o e) hb (UL b o e hx) e1 (I.base.free b o e n hx);exact⟨sl',e2⟩
 ·obtain⟨o',e1⟩:=I.base.there b o e hx;exact free b o' (UL b o e hx) e1 (I.base.free b o e n hx)
 ·obtain⟨o',e1⟩:=I.base.there b o e hx;exact there b o' (UL b o e hx) e1
 ·obtain⟨m1,e1⟩:=I.base.xX b ps e;obtain⟨m2,e2⟩:=xX b _ e1;exact{m1++m2,by rw[e2,Array.append_assoc]}
 ·obtain⟨m,hn,hl⟩:=I.loc;refine{m,ns m hn,λi x v e1 e2 e3=>?_};obtain⟨u,r,l⟩:=hl i x v e1 e2 e3;refine{u,r,?_};rcases l with l|⟨k,c,e,z⟩
  ·exact .inl l
  ·exact .inr {k,c,e,cellK x c e _ z}
 ·obtain⟨v,z⟩:=I.cell x c e;exact{v,cellK x c e v z}
 ·obtain⟨m,⟨o,_,_,ho,_⟩,_⟩:=I.loc;exact free _ o (λz=>(Cw _ z).2.1 rfl) ho I.free
 ·obtain⟨v,o,ho,hd⟩:=I.cell x c e;exact free c o (λz=>(Cw c z).2.2.1 x c e rfl) ho (I.nX x c e)
 ·obtain⟨e,n,ne,nf,d⟩:=I.pin p hp;have Pw:=λz=>(Cw p.1 z).2.2.2 p hp rfl;exact{keep p.1 p.2 ne nf Pw e n,free p.1 p.2 Pw e n,ne,nf,d}
def Inv.un(I:Inv X pins Z H s)(u:Un X.fs [] H H' s.heap h')(bw:jI X.prog X.w H' h'):Inv X pins Z H' {s with heap:=h',toks:=t'}:=by
 obtain⟨m,⟨o,es,ep,ho,r⟩,_⟩:=id I.loc;obtain⟨sl,hL⟩:=u.any ho I.free (by simp);exact I.step (ch:=[]) (λ_ z=>nomatch z) (λb o _ hb _ e n=>u.keep b o e n hb (by simp)) (λb o _ hb _ e n=>u.slot b o e n hb (by simp)) (λb o _ e n=>u.free b o e n (by simp)) (λb o _ e=>u.there b o e (by simp)) u.jM u.sQ u.xX (λm' hm=>by obtain⟨o',QY,AW,Ex,r'⟩:=hm;rw[ho]at Ex;cases Ex;exact⟨_,QY,AW,hL,r'⟩) bw I.bare
def Inv.call(I:Inv X pins Z H s)(u:Un (AS X.stack) ch H H' s.heap h')(bw:jI X.prog X.w H' h')(hg:AllBare g')
  (Cw:∀b∈ch,(b∈X.ex\/X.aab.heap.objs.size<=b)/\b≠X.env.locals/\(∀x c,X.env.cells.lookup x=some c->c≠b)/\∀p∈X.pn++pins,p.1≠b):
  Inv X pins Z H' {s with heap:=h',gens:=g',drawn:=d',toks:=t'}:=by
 obtain⟨m,⟨o,es,ep,ho,r⟩,_⟩:=id I.loc;obtain⟨sl,hL⟩:=u.any ho I.free λz=>(Cw _ z).2.1 rfl;exact I.step Cw (λb o hL hb hc e n=>u.keep b o e n (λz=>(aF.mp (I.HK b z)).elim hL hb) hc) (λb o _ _ hc e n=>u.any e n hc) (λb o hc e n=>u.free b o e n hc) (λb o hc e=>u.there b o e hc) u.jM u.sQ u.xX (λm' hm=>by obtain⟨o',QY,AW,Ex,r'⟩:=hm;rw[ho]at Ex;cases Ex;exact⟨_,QY,AW,hL,r'⟩) bw hg
def Inv.turned(I:Inv X pins Z H s)(k:∀b o,b≠it->s.heap.get? b=some o->h'.get? b=some o)(hn:H it=none)(hL:it≠X.env.locals)
  (h1:it∈X.ex\/X.aab.heap.objs.size<=it) (h2:∀x c,X.env.cells.lookup x=some c->c≠it) (h3:∀p∈X.pn++pins,p.1≠it):Inv X pins Z H {s with heap:=h',toks:=t'}:=by
 have nit:∀b u,H b=some u->b≠it:=λb u e z=>by rw[z,hn]at e;cases e
 refine I.step (ch:=[it]) (λb hb=>?_) (λb o _ _ hc e _=>k b o (λz=>hc (by simp[z])) e) (λb o _ _ hc e _=>{o.slots,k b o (λz=>hc (by simp[z])) e}) (λ_ _ _ _ n=>n)
  (λb o hc e=>{o,k b o (λz=>hc (by simp[z])) e}) (λ_ _ e=>e) (λ_ _ _ e=>e) (λb ps e=>{#[],by rw[e];simp}) (λm hm=>?_) (λb u e=>?_) I.bare
 ·have e:b=it:=by simpa using hb
  subst e;exact⟨h1,hL,h2,h3⟩
 ·obtain⟨o,es,ep,ho,r⟩:=hm;exact{o,es,ep,k _ o (bY hL) ho,r}
 ·refine(I.bw b u e).j7 (λc v hc q=>k c v ?_ q) (λ_ q=>q) λ_ _ q=>q;rcases hc with z|z
  ·rw[z];exact nit b u e
  ·exact nit c _ z
def Inv.tok(I:Inv X pins Z H s)(t:Nat):Inv X pins Z H {s with toks:=t}:=I.un Un.refl I.bw
def Inv.kept(I:Inv X pins Z H s)(k:∀b u,s.heap.get? b=some u->h'.get? b=some u):Inv X pins Z H {s with heap:=h',toks:=t'}:=I.un (Un.kept k) (I.bw.kept k)
def Inv.laid(I:Inv X pins Z H s)(k:∀b u,s.heap.get? b=some u->h'.get? b=some u)(hp:s.heap.objs.size<=a)(new:cI X.prog X.w (upd H a o) h' a o):
  Inv X pins Z (upd H a o) {s with heap:=h',toks:=t'}:=I.un (Un.laid k hp (I.bw.fresh hp)) (I.bw.laid k hp new)
def Inv.write(I:Inv X pins Z H s)(mu:RA (H x))(he:e=x\/H e=some (.own x))(k:∀b u,b≠e->s.heap.get? b=some u->h'.get? b=some u)(Ml:∃u,h'.get? e=some u)
  (new:cI X.prog X.w (upd H x o) h' x o):Inv X pins Z (upd H x o) {s with heap:=h',toks:=t'}:=I.un (Un.write mu he k Ml) (I.bw.write mu he k Ml new)
def Inv.xn(I:Inv X pins Z H s)(h:∀p∈abx,s.heap.get? p.1=some p.2/\H p.1=none/\p.1≠X.env.locals/\p.1∉X.fs/\∀v,p.2.data≠ .cell v):Inv X abx Z H s:=
 {I.ok,I.os,I.bare,I.base,I.loc,I.cell,I.free,I.nX,λp hp=>(aY.mp hp).elim (λz=>I.pin p (hJ _ z)) (h p),I.bw,I.len}
def I0{N:Aaf}(hN:N.Nodup){i j:Nat}(a:N[i]?=some x)(b:N[j]?=some x):i=j:=by obtain⟨h1,e1⟩:=aw.mp a;obtain⟨h2,e2⟩:=aw.mp b;exact(List.getElem_inj hN).mp (e1.trans e2.symm)
def F1(I:Inv X pins Z H s)(hN:X.N.Nodup)(hi:X.N[i]?=some x)(hx:Loc X.env.scope x)(r:RelV v u)
  (h:∀s',Inv X pins (Z.set i (some v)) H s'->(∃a,Heap.SameBut a s.heap s'.heap/\(a=X.env.locals\/X.env.cells.lookup x=some a))->Q () s') (hf:X.fn x=true\/X.env.scope.names.lookup x=some .local:=by first|exact .inl rfl|exact .inr rfl|assumption):wpAny M A (storeName X.env x u) Q E s:=by
 obtain⟨m,hn,hl⟩:=id I.loc;have hiZ:i<Z.length:=by rw[I.len];exact(aw.mp hi).1
 have Kb:=I.Kb;have tracked:∀{a:Addr}{h':Heap},(∃o,s.heap.get? a=some o/\H a=none)->Heap.SameBut a s.heap h'->jI X.prog X.w H h':=λ{a h'} ha hs b ob e=>by
  obtain⟨_,_,Vk⟩:=ha;refine(I.bw b ob e).j7 (λc w' hc q=>(hs.2 c ?_).trans q) (λ_ q=>q) λ_ _ q=>q;rintro rfl;rcases hc with rfl|hc
  ·rw[Vk]at e;cases e
  ·rw[Vk]at hc;cases hc
 rcases hx with hk|hk
 ·refine wpAny_storeName_local hk hn (λh' hn' hs=>?_) (by rw[I.ok.kind];rfl);obtain⟨oL,_,_,zg,_⟩:=id hn;refine h _ {I.ok,I.os,I.bare,{λb o e n hb hx=>(hs.2 b (aG (aV (aD e) I.ok.above))).trans (I.base.keep b o e n hb hx),λb o e n hb hx=>?_,I.base.free,λb o e hx=>?_,I.base.jM,I.base.sQ,I.base.xX},{_,hn',λj y v' e1 e2 e3=>?_},λy c e=>?_,I.free,I.nX,λp hp=>?_,tracked {oL,zg,I.free} hs,by simpa using I.len} {_,hs,.inl rfl}
  ·obtain⟨sl,e1⟩:=I.base.slot b o e n hb hx;exact{sl,(hs.2 b (aG (aV (aD e) I.ok.above))).trans e1}
  ·obtain⟨o',e1⟩:=I.base.there b o e hx;exact{o',(hs.2 b (aG (aV (aD e) I.ok.above))).trans e1}
  ·by_cases hj:j=i
   ·subst hj;rw[hi]at e1;cases e1;rw[w4 hiZ]at e2;cases e2;exact{u,r,.inl {hk,by simp}}
   ·rw[yT (bY hj)]at e2;obtain⟨u',r',q⟩:=hl j y v' e1 e2 e3;refine{u',r',?_};rcases q with⟨k,e⟩|⟨k,c,e,z⟩
    ·refine .inl {k,?_};have:y≠x:=λe=>hj (I0 hN e1 (e▸hi));simp[this,e]
    ·exact .inr {k,c,e,z.sameBut hs (Kb y c e)}
  ·obtain⟨w',z⟩:=I.cell y c e;exact{w',z.sameBut hs (Kb y c e)}
  ·obtain⟨e,n,ne,nf,d⟩:=I.pin p hp;exact{(hs.2 p.1 ne).trans e,n,ne,nf,d}
 ·have hfn:X.fn x=true:=by
   rcases hf with z|z
   ·exact z
   ·rw[z]at hk;cases hk
  obtain⟨c,hc⟩:=I.ok.has x (.inl hk);obtain⟨w',z⟩:=I.cell x c hc;refine wpAny_storeName_cell I.ok.kind hk hc z (λh' zk hs=>?_);obtain⟨oc,hoc,adt⟩:=id z;refine h {s with heap:=h'} {I.ok,I.os,I.bare,{λb o e n hb hx=>(hs.2 b (aG (aV (aD e) (I.ok.MC x c hfn hc)))).trans (I.base.keep b o e n hb hx),λb o e n hb hx=>?_,I.base.free,λb o e hx=>?_,I.base.jM,I.base.sQ,I.base.xX},{m,hn.sameBut hs (bY (Kb x c hc)),λj y v' e1 e2 e3=>?_},λy c' e=>?_,I.free,I.nX,λp hp=>?_,tracked {oc,hoc,I.nX x c hc} hs,by simpa using I.len} {c,hs,.inr hc}
  ·obtain⟨sl,e1⟩:=I.base.slot b o e n hb hx;exact{sl,(hs.2 b (aG (aV (aD e) (I.ok.MC x c hfn hc)))).trans e1}
  ·obtain⟨o',e1⟩:=I.base.there b o e hx;exact{o',(hs.2 b (aG (aV (aD e) (I.ok.MC x c hfn hc)))).trans e1}
  ·by_cases hj:j=i
   ·subst hj;rw[hi]at e1;cases e1;rw[w4 hiZ]at e2;cases e2;exact{u,r,.inr {.inl hk,c,hc,zk}}
   ·rw[yT (bY hj)]at e2;obtain⟨u',r',q⟩:=hl j y v' e1 e2 e3;refine{u',r',?_};rcases q with q|⟨k,c',e,z'⟩
    ·exact .inl q
    ·refine .inr {k,c',e,z'.sameBut hs ?_};rintro rfl;exact hj (I0 hN e1 (I.ok.inj _ _ _ e hc▸hi))
  ·by_cases hcc:c'=c
   ·subst hcc;exact⟨_,zk⟩
   ·obtain⟨w2,z2⟩:=I.cell y c' e;exact{w2,z2.sameBut hs hcc}
  ·obtain⟨e,n,ne,nf,d⟩:=I.pin p hp;refine{(hs.2 p.1 ?_).trans e,n,ne,nf,d};intro q;rw[q,hoc]at e;exact d w' (by rw[<-(bM e)];exact adt)
def ya(I:Inv X pins Z H s)(hN:X.N.Nodup)(hi:X.N[i]?=some x)(hx:Loc X.env.scope x)(r:RelV v u)
  (h:∀s',Inv X pins (Z.set i (some v)) H s'->Q () s') (hf:X.fn x=true\/X.env.scope.names.lookup x=some .local:=by first|exact .inl rfl|exact .inr rfl|assumption):wpAny M A (storeName X.env x u) Q E s:=
 F1 I hN hi hx r (λs' I' _=>h s' I') hf
def Inv.ab4(I:Inv X pins Z H s)(ho:s'.os=s.os)(u:Un (AS X.stack) ch H H' s.heap s'.heap)(bw:jI X.prog X.w H' s'.heap)(hg:AllBare s'.gens)
  (Cw:∀b∈ch,(b∈X.ex\/X.aab.heap.objs.size<=b)/\b≠X.env.locals/\(∀x c,X.env.cells.lookup x=some c->c≠b)/\∀p∈X.pn++pins,p.1≠b):Inv X pins Z H' s':=by
 obtain⟨h',g',d',t',o'⟩:=s';have e:=ho;subst e;exact I.call u bw hg Cw
abbrev XK:=Value->Aai->Hp->Prop
abbrev St:=List (Aan)
abbrev VK:=V->Hp->Prop
abbrev TE:=St->Hp->VK->Prop
abbrev TT:=St->Hp->(Bool->Hp->Prop)->Prop
abbrev TA:=St->Hp->(Aam->Hp->Prop)->Prop
structure Ends where
 nx:St->Hp->Prop
 rt:VK
 bk:St->Hp->Prop:=λ_ _=>False
 ct:St->Hp->Prop:=λ_ _=>False
abbrev TS:=Ends->St->Hp->Prop
end
inductive EP(X:Cx)(pins:Aaa)(Z:St)(Q:VK)(u:Value)(s':Shared):Prop
 |mk v H' (_:Inv X pins Z H' s') (_:RelV v u) (_:Q v H')
inductive TP(X:Cx)(pins:Aaa)(Z:St)(Q:Bool->Hp->Prop)(b:Bool)(s':Shared):Prop
 |mk H' (_:Inv X pins Z H' s') (_:Q b H')
inductive AP(X:Cx)(pins:Aaa)(Z:St)(Q:Aam->Hp->Prop)(us:Aae)(s':Shared):Prop
 |mk vs H' (_:Inv X pins Z H' s') (_:Vals vs us) (_:Q vs H')
def SP(X:Cx)(pins:Aaa)(D:Ends)(f:Flow)(s':Shared):Prop:=
 match f with
 | .next=>∃σ' H',Inv X pins σ' H' s'/\D.nx σ' H'
 | .brk=>∃σ' H',Inv X pins σ' H' s'/\D.bk σ' H'
 | .cont=>∃σ' H',Inv X pins σ' H' s'/\D.ct σ' H'
 | .ret u=>∃v σ' H',Inv X pins σ' H' s'/\RelV v u/\D.rt v H'
def PE(X:Cx)(e:Expr)(t:TE):Prop:=
 ∀(pins:Aaa)(s:Shared)(Z:St)(H:Hp)(Q:VK),Inv X pins Z H s->t Z H Q->wpAny (model X.prog X.w) X.A (eval e X.env) (EP X pins Z Q) X.xe s
def PT(X:Cx)(e:Expr)(t:TT):Prop:=
 ∀(pins:Aaa)(s:Shared)(Z:St)(H:Hp)(Q:Bool->Hp->Prop),Inv X pins Z H s->t Z H Q->wpAny (model X.prog X.w) X.A (isTrue e X.env (eval e X.env)) (TP X pins Z Q) X.xe s
def PW(X:Cx)(e:Expr)(t:TT):Prop:=
 ∀(whole:Sem Value)(pins:Aaa)(s:Shared)(Z:St)(H:Hp)(Q:Bool->Hp->Prop),Inv X pins Z H s->t Z H Q->wpAny (model X.prog X.w) X.A (isTrue e X.env whole) (TP X pins Z Q) X.xe s
def PW.pt(h:PW X e t):PT X e t:=h _
def PA(X:Cx)(es:List Expr)(t:TA):Prop:=
 ∀(pos:Pos)(pins:Aaa)(s:Shared)(Z:St)(H:Hp)(Q:Aam->Hp->Prop),Inv X pins Z H s->t Z H Q->wpAny (model X.prog X.w) X.A (spliced (backTo pos (starEach es X.env))) (AP X pins Z Q) X.xe s
def PS(X:Cx)(st:Stmt)(t:TS):Prop:=
 ∀(pins:Aaa)(s:Shared)(Z:St)(H:Hp)(D:Ends),Inv X pins Z H s->t D Z H->wpAny (model X.prog X.w) X.A (exec st X.env) (SP X pins D) X.xe s
def nK(X:Cx)(st:List Stmt)(t:TS):Prop:=
 ∀(pins:Aaa)(s:Shared)(Z:St)(H:Hp)(D:Ends),Inv X pins Z H s->t D Z H->wpAny (model X.prog X.w) X.A (execs st X.env) (SP X pins D) X.xe s
def iB(h:wpAny M A t Q E s)(hQ:∀a s,Q a s->Q' a s):wpAny M A t Q' E s:=df h hQ λ_ _ x=>x
def cX{X:Cx}{pins:Aaa}{Z:St}{Q:VK}{t:Sem Value}{Q':Aac}{s:Shared}(h:wpAny (model X.prog X.w) X.A t (EP X pins Z Q) X.xe s)(k:∀u s x H,Inv X pins Z H s->RelV x u->Q x H->Q' u s):wpAny (model X.prog X.w) X.A t Q' X.xe s:=iB h λu s ⟨x,H,I,r,q⟩=>k u s x H I r q
def pR{X:Cx}{pins:Aaa}{Z:St}{Q:Aam->Hp->Prop}{t:Sem (Aae)}{Q':Aae->Shared->Prop}{s:Shared}(h:wpAny (model X.prog X.w) X.A t (AP X pins Z Q) X.xe s)(k:∀u s x H,Inv X pins Z H s->Vals x u->Q x H->Q' u s):wpAny (model X.prog X.w) X.A t Q' X.xe s:=iB h λu s ⟨x,H,I,r,q⟩=>k u s x H I r q
def E8{X:Cx}{pins:Aaa}{Z:St}{Q:Bool->Hp->Prop}{t:Sem Bool}{Q':Bool->Shared->Prop}{s:Shared}(h:wpAny (model X.prog X.w) X.A t (TP X pins Z Q) X.xe s)(k:∀u s H,Inv X pins Z H s->Q u H->Q' u s):wpAny (model X.prog X.w) X.A t Q' X.xe s:=iB h λu s ⟨H,I,q⟩=>k u s H I q
section
variable{X:Cx}
inductive Yd(i:Nat)(Z:St)(H:Hp)(Q:VK):Prop
 |mk v (_:Z[i]?=some (some v)) (_:Q v H)
def tC(v:V):TE:=λ_ H Q=>Q v H
def YV(hN:X.N[i]?=some x)(hv:Vis X.env.scope x)(hd:(x==("__debug__":Str))=false:=by decide)(AN:(x==("__classdict__":Str))=false:=by decide):PE X (.Name x pos) (Yd i):=by
 intro pins s Z H Q I h;obtain⟨v,e,h⟩:=h;obtain⟨m,hn,hl⟩:=I.loc;obtain⟨u,r,l⟩:=hl i x v hN e hv;have fin:EP X pins Z Q u s:=⟨v,H,I,r,h⟩;rcases l with⟨hk,hm⟩|⟨hk,c,hc,Vm⟩
 ·exact DQ (wpAny_loadName_local I.ok.kind hk hn hm fin) hd
 ·rcases hk with hk|hk
  ·exact DQ (wpAny_loadName_cell I.ok.kind hk hc Vm fin) hd
  ·exact DQ (wpAny_loadName_free I.ok.kind hk hc Vm fin AN) hd
def aS{i j pos}:PE X (.Constant (.int i) j pos) (tC (.int i)):=λ_ _ _ H _ I h=>wpAny_Constant_int {.int i,H,I.tok _,⟨_,rfl⟩,h}
def yo{b j pos}:PE X (.Constant (.bool b) j pos) (tC (.bl b)):=λ_ _ _ H _ I h=>Constant_bool {.bl b,H,I,rfl,h}
def rW{j pos}:PE X (.Constant .none j pos) (tC .cb):=λ_ _ _ H _ I h=>Constant_none {.cb,H,I,rfl,h}
def dj{x j pos}:PE X (.Constant (.str x) j pos) (tC (.str x)):=λ_ _ _ H _ I h=>Calls.Constant_str {.str x,H,I.tok _,⟨_,rfl⟩,h}
def Gl(X:Cx)(x:Str):Prop:=X.env.kindOf x=some .globalImplicit
def Ft(I:Inv X pins Z H s)(hg:Gl X x)(hm:X.mg x=some u)(h:Q u s)
  (hd:(x==("__debug__":Str))=false:=by decide):wpAny (model X.prog X.w) X.A (eval (.Name x pos) X.env) Q E s:=
 sV I.ok.kind hg (Calls.loadGlobal_global (I.ok.glob▸I.mod.glob.keeps I.bk) hm h) hd
def qd(I:Inv X pins Z H s)(hg:Gl X x)(hm:X.mg x=none)(hv:bootBuiltins x=some u)(h:Q u s)
  (hn:x≠"__name__":=by decide) (hd:(x==("__debug__":Str))=false:=by decide):wpAny (model X.prog X.w) X.A (eval (.Name x pos) X.env) Q E s:=by
 obtain⟨mb,h1,h2⟩:=I.mod.blt;exact sV I.ok.kind hg (Calls.loadGlobal_builtin (I.ok.glob▸I.mod.glob.keeps I.bk) hm (I.ok.blt▸h1.keeps I.bk) ((h2 x hn).trans hv) h) hd
def LN(hg:Gl X x)(hm:X.mg x=some u)(r:RelV v u)(hd:(x==("__debug__":Str))=false:=by decide):PE X (.Name x pos) (tC v):=
 λ_ _ _ H _ I h=>Ft I hg hm ⟨v,H,I,r,h⟩ hd
def WK(hg:Gl X x)(hm:X.mg x=none)(hv:bootBuiltins x=some u)(r:RelV v u)(hn:x≠"__name__":=by decide)(hd:(x==("__debug__":Str))=false:=by decide):PE X (.Name x pos) (tC v):=
 λ_ _ _ H _ I h=>qd I hg hm hv ⟨v,H,I,r,h⟩ hn hd
variable{a b:Expr}{pos:Pos}
def PC(X:Cx)(op:CmpOp)(a b:Expr)(t:TE):Prop:=
 ∀(pins:Aaa)(s:Shared)(Z:St)(H:Hp)(Q:VK),Inv X pins Z H s->t Z H Q->
  wpAny (model X.prog X.w) X.A (eval a X.env) (λv aaa=>wpAny (model X.prog X.w) X.A (eval b X.env) (λu aae=>wpAny (model X.prog X.w) X.A (compareOp op v u) (EP X pins Z Q) X.xe aae) X.xe aaa) X.xe s
inductive Lp(Q:Bool->Hp->Prop)(x:V)(H1:Hp):Prop
 |mk c (_:x=.bl c) (_:Q c H1)
def tB(t:TE):TT:=λZ H Q=>t Z H λx H1=>Lp Q x H1
def Ea(h:PC X op a b t)(h1:behindInMarks op b=false:=by first|exact acC _ (by decide) (by decide)|rfl):PT X (.Compare a [op] [b] pos) (tB t):=by intro pins s Z H Q I hw;refine xa (iB (h pins s Z H _ I hw) λv s1 h1=>iB h1 λu s2 h2=>iB h2 λc s3 vY=>?_) h1;obtain⟨x,H1,I1,r1,q1⟩:=vY;obtain⟨d,rfl,q⟩:=q1;cases r1;exact f7 ⟨H1,I1,q⟩
def oP(h:PE X e t)(he:∀whole,isTrue e X.env whole=(do let v<-whole;standAt e.pos;holding [v] (truthy v)):=by intro _;rfl):PT X e (tB t):=by intro pins s Z H Q I hw;refine isTrue_plain (cX (h pins s Z H _ I hw) λv s1 x H1 I1 r1 q1=>?_) (he _);obtain⟨d,rfl,q⟩:=q1;cases r1;exact f7 ⟨H1,I1,q⟩
variable{ta tb:TE}{tA Lp:TT}{rest:List Expr}
def acn(t u:TT):TT:=λZ H Q=>t Z H λc H1=>if c=true then u Z H1 Q else Q false H1
def tOr(t u:TT):TT:=λZ H Q=>t Z H λc H1=>if c=true then Q true H1 else u Z H1 Q
def acf(t:TT):TT:=λZ H Q=>t Z H λc H1=>Q (!c) H1
def Fl(ha:PT X a tA):PW X (.BoolOp .And [a] pos) tA:=by
 intro wh pins s Z H Q I h;refine isTrue_and (iB (ha pins s Z H Q I h) λc s1 e=>?_);cases c with
 |true=>exact isTrue_and_nil e
 |false=>exact e
def D8(ha:PT X a tA):PW X (.BoolOp .Or [a] pos) tA:=by
 intro wh pins s Z H Q I h;refine isTrue_or (iB (ha pins s Z H Q I h) λc s1 e=>?_);cases c with
 |false=>exact isTrue_or_nil e
 |true=>exact e
def Ip(ha:PT X a tA)(hb:PW X (.BoolOp .And (b::rest) pos) Lp):PW X (.BoolOp .And (a::b::rest) pos) (acn tA Lp):=by
 intro wh pins s Z H Q I h;refine isTrue_and (E8 (ha pins s Z H _ I h) λc s1 H1 I1 q1=>?_);cases c with
 |true=>exact hb wh pins s1 Z H1 Q I1 q1
 |false=>exact⟨H1,I1,q1⟩
def Hi(ha:PT X a tA)(hb:PW X (.BoolOp .Or (b::rest) pos) Lp):PW X (.BoolOp .Or (a::b::rest) pos) (tOr tA Lp):=by
 intro wh pins s Z H Q I h;refine isTrue_or (E8 (ha pins s Z H _ I h) λc s1 H1 I1 q1=>?_);cases c with
 |true=>exact⟨H1,I1,q1⟩
 |false=>exact hb wh pins s1 Z H1 Q I1 q1
def D9(ha:PT X a tA):PT X (.UnaryOp .Not a pos) (acf tA):=by intro pins s Z H Q I h;exact isTrue_not (E8 (ha pins s Z H (λc H1=>Q (!c) H1) I h) λ_ _ a b c=>⟨a,b,c⟩)
inductive Yt(tb:TE)(Z:St)(Q:VK)(x:V)(H1:Hp):Prop
 |mk c (_:x=.bl c) (_:if c=true then tb Z H1 Q else Q (.bl false) H1)
def abq(ta tb:TE):TE:=λZ H Q=>ta Z H λx H1=>Yt tb Z Q x H1
inductive Yk(Q:VK)(x:V)(H1:Hp):Prop
 |mk c (_:x=.bl c) (_:Q (.bl (!c)) H1)
def abj(ta:TE):TE:=λZ H Q=>ta Z H λx H1=>Yk Q x H1
def Al{op}(h:PE X a t):PE X (.BoolOp op [a] pos) t:=λpins s Z H Q I hw=>BoolOp_one (h pins s Z H Q I hw)
def uH(ha:PE X a ta)(hb:PE X (.BoolOp .And (b::rest) pos) tb):PE X (.BoolOp .And (a::b::rest) pos) (abq ta tb):=by
 intro pins s Z H Q I h;refine BoolOp_and (cX (ha pins s Z H _ I h) λv s1 x H1 I1 r1 q1=>?_);obtain⟨c,rfl,q1⟩:=q1;cases r1;refine f7 ?_;cases c with
 |true=>exact hb pins s1 Z H1 Q I1 q1
 |false=>exact{.bl false,H1,I1,rfl,q1}
def YW(ha:PE X a ta):PE X (.UnaryOp .Not a pos) (abj ta):=by intro pins s Z H Q I h;refine UnaryOp_ (cX (ha pins s Z H _ I h) λv s1 x H1 I1 r1 q1=>?_);obtain⟨c,rfl,q1⟩:=q1;cases r1;exact not_of (f7 {.bl (!c),H1,I1,rfl,q1})
def tIf(t:TT)(ta tb:TE):TE:=λZ H Q=>t Z H λc H1=>if c=true then ta Z H1 Q else tb Z H1 Q
def C7(hc:PT X c tA)(ha:PE X a ta)(hb:PE X b tb):PE X (.IfExp c a b pos) (tIf tA ta tb):=by
 intro pins s Z H Q I h;refine wpAny_IfExp (E8 (hc pins s Z H _ I h) λd s1 H1 I1 q1=>?_);cases d with
 |true=>exact ha pins s1 Z H1 Q I1 q1
 |false=>exact hb pins s1 Z H1 Q I1 q1
end
def br(K:Frag)(H:Hp)(a:Addr)(xs:Aam):Prop:=
 Rd H a (.lst xs)\/
  ∃(o:Obj)(aP:Aaj)(n:Nat),K.lookup a=some o/\o.cls=.type "list"/\o.dict=none/\o.data=.seq aP n/\aP.size<=sizeLine/\Vals xs aP.toList
def bf(K:Frag)(H:Hp)(a:Addr)(xs:Aam):Prop:=
 Rd H a (.tup xs)\/
  ∃(o:Obj)(aP:Aaj)(n:Nat),K.lookup a=some o/\o.cls=.type "tuple"/\o.data=.seq aP n/\aP.size<=sizeLine/\Vals xs aP.toList
def adX:Value->Aan
 | .none=>some .cb
 | .bool b=>some (.bl b)
 | .int i _=>some (.int i)
 | .str x _=>some (.str x)
 | .bytes b _=>some (.tE b)
 | .float b _=>some (.GK b)
 | .ref a=>some (.ref a)
 | .type n=>some (.ty n)
 |_=>none
def RelV.abs(r:RelV x u):adX u=some x:=by
 cases x with
 |cb=>cases r;rfl
 |bl _=>cases r;rfl
 |int _=>obtain⟨t,rfl⟩:=r;rfl
 |str _=>obtain⟨t,rfl⟩:=r;rfl
 |tE _=>obtain⟨t,rfl⟩:=r;rfl
 |GK _=>obtain⟨t,rfl⟩:=r;rfl
 |ref _=>cases r;rfl
 |ty _=>cases r;rfl
def RelV.inj(r:RelV x u)(q:RelV y u):x=y:=bM (r.abs.symm.trans q.abs)
theorem Vals.inj:∀{xs ys:Aam}{us:Aae},Vals xs us->Vals ys us->xs=ys
 |_,_,_,.nil,.nil=>rfl
 |_,_,_,.cons r t,.cons r' t'=>by rw[r.inj r',Vals.inj t t']
section
variable{X:Cx}{pins:Aaa}{Z:St}{H:Hp}{s:Shared}{a:Addr}{xs ys:Aam}
def br.of{K:Frag}(h:H a=some (.lst xs)):br K H a xs:=.inl (.inl h)
def bf.of{K:Frag}(h:H a=some (.tup xs)):bf K H a xs:=.inl (.inl h)
def Inv.list(I:Inv X pins Z H s)(h:br X.K H a xs):∃aP:Aae,Vals xs aP/\PlainL s.heap a aP.toArray/\xs.length<=sizeLine:=by
 rcases h with h|⟨o,aP,n,hk,hc,hd,hs,hz,r⟩
 ·obtain⟨z,aP,n,r,e⟩:=h.ok I.bw;exact{aP,r,⟨_,n,e,rfl,rfl,rfl⟩,z}
 ·refine{aP.toList,r,{o,n,I.k9 a o hk,hc,hd,by simpa using hs},?_};have e:=r.length;simp only[aZ]at e;lia
def Inv.tuple(I:Inv X pins Z H s)(h:bf X.K H a xs):∃aP:Aae,Vals xs aP/\IsTup s.heap a aP.toArray/\xs.length<=sizeLine:=by
 rcases h with h|⟨o,aP,n,hk,hc,hs,hz,r⟩
 ·obtain⟨z,aP,r,p,_⟩:=h.ok I.bw;exact⟨aP,r,p,z⟩
 ·refine{aP.toList,r,{o,I.k9 a o hk,hc,n,by simpa using hs},?_};have e:=r.length;simp only[aZ]at e;lia
def Inv.De(I:Inv X pins Z H s)(h:br X.K H a xs)(h':br X.K H a ys):xs=ys:=by
 obtain⟨aP,r,⟨o,n,e,_,_,d⟩,_⟩:=I.list h;obtain⟨its',r',⟨o',n',e',_,_,d'⟩,_⟩:=I.list h';rw[e]at e';cases e';rw[d]at d';injection d' with d1 _;have:aP=its':=by simpa using cc Array.toList d1
 subst this;exact r.inj r'
def Inv.vL(I:Inv X pins Z H s)(h:bf X.K H a xs)(h':bf X.K H a ys):xs=ys:=by
 obtain⟨aP,r,⟨o,e,_,n,d⟩,_⟩:=I.tuple h;obtain⟨its',r',⟨o',e',_,n',d'⟩,_⟩:=I.tuple h';rw[e]at e';cases e';rw[d]at d';injection d' with d1 _;have:aP=its':=by simpa using cc Array.toList d1
 subst this;exact r.inj r'
end
abbrev Cx.uu(X:Cx)(E:Aac):Cx:={X with xe:=E}
abbrev Cx.Po(X:Cx):Cx:=X.uu λ_ _=>False
def Cx.Ok.uu{X:Cx}(ok:X.Ok)(E:Aac):(X.uu E).Ok:=
 {ok.mod,ok.kind,ok.glob,ok.blt,ok.above,ok.inj,ok.has,ok.MC,ok.hd,ok.frames,ok.OE,ok.QT,ok.bs,ok.CD,ok.Fq,ok.Dp,ok.rA,ok.GJ}
def Cx.Ok.rV{X:Cx}(ok:(X.uu E).Ok):X.Ok:=
 {ok.mod,ok.kind,ok.glob,ok.blt,ok.above,ok.inj,ok.has,ok.MC,ok.hd,ok.frames,ok.OE,ok.QT,ok.bs,ok.CD,ok.Fq,ok.Dp,ok.rA,ok.GJ}
section
variable{X:Cx}{pins:Aaa}{Z:St}{H:Hp}{s:Shared}{E:Aac}
def Inv.uu(I:Inv X pins Z H s)(E:Aac):Inv (X.uu E) pins Z H s:={I.ok.uu E,I.os,I.bare,I.base,I.loc,I.cell,I.free,I.nX,I.pin,I.bw,I.len}
def Inv.rV(I:Inv (X.uu E) pins Z H s):Inv X pins Z H s:={I.ok.rV,I.os,I.bare,I.base,I.loc,I.cell,I.free,I.nX,I.pin,I.bw,I.len}
def SP.rV(h:SP (X.uu E) pins D f s'):SP X pins D f s':=by
 cases f with
 |next=>obtain⟨σ',H',I,q⟩:=h;exact{σ',H',I.rV,q}
 |brk=>obtain⟨σ',H',I,q⟩:=h;exact{σ',H',I.rV,q}
 |cont=>obtain⟨σ',H',I,q⟩:=h;exact{σ',H',I.rV,q}
 |ret u=>obtain⟨v,σ',H',I,r,q⟩:=h;exact{v,σ',H',I.rV,r,q}
def nK.Po{st:List Stmt}(h:nK X.Po st t):nK X st t:=λpins s Z H D I hw=>
 df (h pins s Z H D (I.uu _) hw) (λ_ _ q=>q.rV) λ_ _ z=>False.elim z
end
section
variable{X:Cx}{st:Stmt}{rest:List Stmt}{t u:TS}{e:Expr}{te:TE}{pos:Pos}
def abk:TS:=λD Z H=>D.nx Z H
def E9(t u:TS):TS:=λD Z H=>t {D with nx:=u D} Z H
def dh:nK X [] abk:=λ_ _ Z H _ I h=>pQ ⟨Z,H,I,h⟩
def aK(h1:PS X st t)(h2:nK X rest u):nK X (st::rest) (E9 t u):=by
 intro pins s Z H D I h;refine wpAny_execs_cons (iB (h1 pins s Z H {D with nx:=u D} I h) λf s1 q=>?_);cases f with
 |next=>
  obtain⟨σ',H',I',q⟩:=q;exact h2 pins s1 σ' H' D I' q
 |ret v=>exact q
 |brk=>exact q
 |cont=>exact q
def aT(h1:PS X st t):nK X [st] t:=by
 intro pins s Z H D I h;refine wpAny_execs_cons (iB (h1 pins s Z H D I h) λf s1 q=>?_);cases f with
 |next=>exact pQ q
 |ret v=>exact q
 |brk=>exact q
 |cont=>exact q
def Inv.quiet(I:Inv X pins Z H s):interactive X.env=false:=by simp[interactive,I.ok.kind]
def abm(te:TE):TS:=λD Z H=>te Z H λ_ H1=>D.nx Z H1
def iW(he:PE X e te)(hs:swapsWith e none pos.line X.env=pure false:=by rfl):PS X (.Expr e pos) (abm te):=by intro pins s Z H D I h;exact wpAny_Expr_any (cX (he pins s Z H _ I h) λv s1 x H1 I1 r1 q1=>⟨Z,H1,I1,q1⟩) I.quiet hs
def acd(te:TE):TS:=λD Z H=>te Z H D.rt
def b8(he:PE X e te):PS X (.Return (some e) pos) (acd te):=by intro pins s Z H D I h;exact wpAny_Return_some (cX (he pins s Z H _ I h) λv s1 x H1 I1 r1 q1=>⟨x,Z,H1,I1,r1,q1⟩)
def ach(c:TT)(t u:TS):TS:=λD Z H=>c Z H λb H1=>if b=true then t D Z H1 else u D Z H1
def fh(hc:PT X c tc)(ha:nK X a t)(hb:nK X b u):PS X (.If c a b pos) (ach tc t u):=by
 intro pins s Z H D I h;refine wpAny_If (E8 (hc pins s Z H _ I h) λd s1 H1 I1 q1=>?_);cases d with
 |true=>exact ha pins s1 Z H1 D I1 q1
 |false=>exact hb pins s1 Z H1 D I1 q1
abbrev TG:=V->St->Hp->(St->Hp->Prop)->Prop
abbrev VI:=Aam->St->Hp->(St->Hp->Prop)->Prop
end
def PG(X:Cx)(target:Expr)(t:TG):Prop:=
 ∀(pins:Aaa)(s:Shared)(Z:St)(H:Hp)(v:V)(u:Value)(Q:St->Hp->Prop),Inv X pins Z H s->RelV v u->t v Z H Q->
  wpAny (model X.prog X.w) X.A (assign target X.env u) (λ_ s'=>∃σ' H',Inv X pins σ' H' s'/\Q σ' H') X.xe s
def Kk(X:Cx)(ts:List Expr)(t:VI):Prop:=
 ∀(pins:Aaa)(s:Shared)(Z:St)(H:Hp)(vs:Aam)(us:Aae)(Q:St->Hp->Prop),Inv X pins Z H s->Vals vs us->t vs Z H Q->
  wpAny (model X.prog X.w) X.A (assignInOrder ((assignEach ts X.env).map (·.2)) us) (λ_ s'=>∃σ' H',Inv X pins σ' H' s'/\Q σ' H') X.xe s
abbrev aa3:=V->V->V->Hp->(Hp->Prop)->Prop
def aa4(X:Cx)(t:aa3):Prop:=
 ∀(pins:Aaa)(s:Shared)(Z:St)(H:Hp)(o i v:V)(ov iv u:Value)(Q:Hp->Prop),Inv X pins Z H s->RelV o ov->RelV i iv->RelV v u->t o i v H Q->
  wpAny (model X.prog X.w) X.A (setItem ov iv u) (λ_ s'=>∃H',Inv X pins Z H' s'/\Q H') X.xe s
section
variable{X:Cx}{pos:Pos}
def uc(i:Nat):TG:=λv Z H Q=>Q (Z.set i (some v)) H
def mh(hN:X.N.Nodup)(hi:X.N[i]?=some x)(hx:Loc X.env.scope x)(hf:X.fn x=true\/X.env.scope.names.lookup x=some .local:=by first|exact .inl rfl|exact .inr rfl|assumption):PG X (.Name x pos) (uc i):=by intro pins s Z H v u Q I r h;exact BL (ya I hN hi hx r (λs' I'=>⟨_,H,I',h⟩) hf)
def aaL:VI:=λvs Z H Q=>vs=[]/\Q Z H
inductive N0(t:TG)(u:VI)(vs:Aam)(Z:St)(H:Hp)(Q:St->Hp->Prop):Prop
 |mk v r (_:vs=v::r) (_:t v Z H λσ' H'=>u r σ' H' Q)
def iY:Kk X [] aaL:=by intro pins s Z H vs us Q I r h;obtain⟨e,h⟩:=h;subst e;cases r;exact BQ ⟨Z,H,I,h⟩
def cT(h1:PG X e t)(h2:Kk X es u)
  (hs:(assignEach (e::es) X.env).map (·.2)=assign e X.env::(assignEach es X.env).map (·.2):=by rfl):Kk X (e::es) (N0 t u):=by
 intro pins s Z H vs us Q I r h;obtain⟨v,vr,e1,h⟩:=h;subst e1;cases r with
 |cons r rr=>
  rw[hs];exact sx (iB (h1 pins s Z H _ _ _ I r h) λ_ s1 ⟨σ1,H1,I1,q1⟩=>h2 pins s1 σ1 H1 _ _ Q I1 rr q1)
inductive Tw(K:Frag)(n:Nat)(t:VI)(v:V)(Z:St)(H:Hp)(Q:St->Hp->Prop):Prop
 |mk a xs (_:v=.ref a) (_:bf K H a xs) (_:xs.length=n) (_:t xs Z H Q)
def ko(hc:X.calm=true)(h:Kk X es t)
  (hn:(assignEach es X.env).length=n:=by rfl) (g7:(assignEach es X.env).findIdx? (·.1)=none:=by rfl):PG X (.Tuple es k pos) (Tw X.K n t):=by
 intro pins s Z H v u Q I r hw;obtain⟨a,xs,e1,hq,hl,hw⟩:=hw;subst e1;cases r;obtain⟨aP,rv,ht,hz⟩:=I.tuple hq;refine assign_Tuple_tuple (I.ok.hd hc) ht (by simp[hn,<-hl,rv.length]) g7 λh' hx=>?_;exact h pins _ Z H xs _ Q (I.kept (t':=s.toks) λb o e=>hx b o (aG (aD e)) e) (by simpa using rv) hw
def adL(to ti:TE)(t:aa3):TG:=λv Z H Q=>to Z H λo H1=>ti Z H1 λi H2=>t o i v H2 λH3=>Q Z H3
def IA(ho:PE X o to)(hi:PE X i ti)(hs:aa4 X t)
  (ha:∀v,assign (.Subscript o i pos) X.env v=(do
   let ov<-holding [v] (eval o X.env)
   let iv<-holding [v,ov] (eval i X.env)
   standAt pos
   holding [v,ov,iv] (setItem ov iv v)
   release [v,ov,iv] []):=by intro _;rfl):PG X (.Subscript o i pos) (adL to ti t):=by
 intro pins s Z H v u Q I r h;refine ae (bL (cX (ho pins s Z H _ I h) λov s1 x H1 I1 r1 q1=>?_));refine ae (bL (cX (hi pins s1 Z H1 _ I1 q1) λiv s2 y H2 I2 r2 q2=>?_));exact ae (sM (ae (bL (iB (hs pins s2 Z H2 x y v ov iv u _ I2 r1 r2 r q2) λ_ s3 ⟨H3,I3,q3⟩=>wpAny_release ⟨Z,H3,I3,q3⟩))))
def RS(te:TE)(g:TG):TS:=λD Z H=>te Z H λx H1=>g x Z H1 D.nx
def uF(he:PE X e te)(hg:PG X tg g)(hs:swapsWithSole [tg] e pos.line X.env=pure false:=by rfl)(hw:swappedStores [tg] e X.env=pure none:=by rfl)
  (h1:(assignEach [tg] X.env).map (·.2)=[assign tg X.env]:=by rfl):PS X (.Assign [tg] e pos) (RS te g):=by
 intro pins s Z H D I h;refine wpAny_Assign_stores (cX (he pins s Z H _ I h) λv s1 x H1 I1 r1 q1=>?_) hs hw;rw[h1];exact iB (hg pins s1 Z H1 x v _ I1 r1 q1) λ_ s2 q=>q
def pX(hN:X.N.Nodup)(hi:X.N[i]?=some x)(hx:Loc X.env.scope x)(he:PE X e te)(hs:swapsWith e (some (.Name x pos')) pos.line X.env=pure false:=by rfl)(hf:X.fn x=true\/X.env.scope.names.lookup x=some .local:=by first|exact .inl rfl|exact .inr rfl|assumption):
  PS X (.Assign [.Name x pos'] e pos) (RS te (uc i)):=by
 intro pins s Z H D I h;exact wpAny_Assign_Name (cX (he pins s Z H _ I h) λv s1 y H1 I1 r1 q1=>ya I1 hN hi hx r1 (λs2 I2=>⟨_,H1,I2,q1⟩) hf) hs
inductive abi(i:Nat)(j:Nat)(D:Ends)(Z:St)(vs:Aam)(H1:Hp):Prop
 |mk v w (_:vs=[v,w]) (_:D.nx ((Z.set i (some v)).set j (some w)) H1)
def ace(i j:Nat)(ta:TA):TS:=λD Z H=>ta Z H λvs H1=>abi i j D Z vs H1
def YR{kt k2 YQ}(hc:X.calm=true)(hN:X.N.Nodup)(hi:X.N[i]?=some x)(hj:X.N[j]?=some y)(xE:i≠j)
  (hx:X.env.scope.names.lookup x=some .local) (hy:X.env.scope.names.lookup y=some .local) (ha:PA X [a,b] ta)
  (hw:swappedStores [.Tuple [.Name x px,.Name y py] kt pt] (.Tuple [a,b] k2 YQ) X.env=pure (some [x,y]))
  (hs:swapsWithSole [.Tuple [.Name x px,.Name y py] kt pt] (.Tuple [a,b] k2 YQ) pos.line X.env=pure false:=by rfl):
  PS X (.Assign [.Tuple [.Name x px,.Name y py] kt pt] (.Tuple [a,b] k2 YQ) pos) (ace i j ta):=by
 intro pins s Z H D I h;refine ae (sM ?_);refine ae (af ?_);refine ae (Tuple_ (pR (ha _ pins s Z H _ I h) λus s1 vs H1 I1 r1 q1=>?_));obtain⟨v,w,e1,q1⟩:=q1;subst e1;obtain⟨u1,u2,rfl,rv,lT⟩:∃u1 u2,us=[u1,u2]/\RelV v u1/\RelV w u2:=by
  cases r1 with
  |cons p q=>
   cases q with
   |cons p' q'=>
    cases q';exact⟨_,_,rfl,p,p'⟩
 refine bV ?_ (by show 2<=sizeLine;decide);have I2:Inv X pins Z H1 {s1 with heap:=s1.heap.push {cls:=.type "tuple",data:=.seq [u1,u2].toArray}}:=I1.kept λb o e=>ah _ e;rw[hw];refine ae (af ?_);refine ae (gz (ae (unpackItems_tuple (items:=#[u1,u2]) (I.ok.hd hc) (Bs s1.heap _) λh' GA=>?_)));refine ae (sx (wpAny_bindName (ya (I2.kept (h':=h') (t':=s1.toks) λb o e=>GA b o (aG (aD e)) e) hN hj (.inl hy) lT (λs2 I4=>?_) (.inr hy))));refine sx (wpAny_bindName (ya I4 hN hi (.inl hx) rv (λs3 I5=>BQ (af ?_)) (.inr hx)));rw[List.set_comm _ _ (bY xE)]at I5;exact⟨_,H1,I5,q1⟩
def Yc(c:TT)(tb:TS):TS:=λD Z H=>∃W:Nat->St->Hp->Prop,(∃m,W m Z H)/\∀m Z H,W m Z H->
 c Z H λb H1=>if b=true then∃N:St->Hp->Prop,(∀σ' H',N σ' H'->∃m',m'<m/\W m' σ' H')/\tb {D with nx:=N,ct:=N,bk:=D.nx} Z H1 else D.nx Z H1
def Se(hp:PassesOwn (model X.prog X.w) X.A X.env X.xe)(hc:PT X c tc)(hb:nK X body tb):PS X (.While c body [] pos) (Yc tc tb):=by
 intro pins s Z H D I h;obtain⟨W,⟨m0,w0⟩,turn⟩:=h;refine wpAny_While (codeAny_whileLoop (λn s'=>∃σ' H',Inv X pins σ' H' s'/\W n σ' H') ?_ m0 ⟨Z,H,I,w0⟩);rintro n s1 ⟨σ1,H1,I1,w1⟩;refine iV hp (E8 (hc pins s1 σ1 H1 _ I1 (turn n σ1 H1 w1)) λb s2 H2 I2 q2=>?_);cases b with
 |true=>
  obtain⟨N,hN,q2⟩:=q2;refine iV hp (iB (hb pins s2 σ1 H2 _ I2 q2) λf s3 q3=>?_);cases f with
  |next=>
   obtain⟨σ3,H3,I3,n3⟩:=q3;obtain⟨m',hm,w3⟩:=hN σ3 H3 n3;exact⟨m',hm,σ3,H3,I3,w3⟩
  |cont=>
   obtain⟨σ3,H3,I3,n3⟩:=q3;obtain⟨m',hm,w3⟩:=hN σ3 H3 n3;exact⟨m',hm,σ3,H3,I3,w3⟩
  |brk=>exact q3
  |ret v=>exact q3
 |false=>
  exact pQ ⟨σ1,H2,I2,q2⟩
structure It where
 go:Nat->Hp->Prop
 FV:Nat->Hp->V->Hp->Prop
 stop:Nat->Hp->Prop
end
def pD(X:Cx)(pins:Aaa)(H:Hp)(b:Addr):Prop:=
 H b=none/\b≠X.env.locals/\b∉X.fs/\(b∈X.ex\/X.aab.heap.objs.size<=b)/\(∀x c,X.env.cells.lookup x=some c->c≠b)/\∀p∈X.pn++pins,p.1≠b
def Inv.uZ(I:Inv X pins Z H s)(hb:s.heap.objs.size<=b)(hn:H' b=none):pD X pins H' b:=by
 refine{hn,bx (aV I.lt hb),I.Y8 hb,.inr (aL I.sz hb),λx c e z=>?_,λp hp z=>?_}
 ·obtain⟨v,q⟩:=I.cell x c e;exact absurd (aV q.lt (z▸hb)) (dy _)
 ·exact absurd (aV (aD (I.pin p hp).1) (z▸hb)) (dy _)
structure Turn(P:Program)(w:World)(K:Frag)(tg:Expr)(J:It)(fp:Aah)(it:Addr)(tn:Nat->Heap->Prop):Prop where
 mem:it∈fp
 obj:∀i h,tn i h->∀b∈fp,∃o,h.get? b=some o/\∀v,o.data≠ .cell v
 keep:∀i h h',tn i h->(∀b∈fp,∀o,h.get? b=some o->h'.get? b=some o)->tn i h'
 item:∀(X:Cx),X.prog=P->X.w=w->X.K=K->X.calm=true->∀(i:Nat)(pins:Aaa)(s:Shared)(Z:St)(H:Hp)(E:Aac),Inv X pins Z H s->(∀b∈fp,pD X pins H b)->tn i s.heap->J.go i H->
  wpAny (model P w) X.A (pyNext (.ref it)) (λr s1=>∃u,r=some u/\
   wpAny (model P w) X.A (letOwnedTupleGo tg (.ref it) u) (λ_ s2=>∃x H',Inv X pins Z H' s2/\RelV x u/\J.FV i H x H'/\tn (i+1) s2.heap/\∀b∈fp,H' b=none) E s1) E s
 done:∀(X:Cx),X.prog=P->X.w=w->X.K=K->X.calm=true->∀(i:Nat)(pins:Aaa)(s:Shared)(Z:St)(H:Hp)(E:Aac),Inv X pins Z H s->(∀b∈fp,pD X pins H b)->tn i s.heap->J.stop i H->
  wpAny (model P w) X.A (pyNext (.ref it)) (λr s1=>r=none/\Inv X pins Z H s1) E s
 self:∀(A:Around)(i:Nat)(s:Shared)(Q:Aac)(E:Aac),tn i s.heap->Q (.ref it) s->wpAny (model P w) A (pyIter (.ref it)) Q E s
abbrev TI:=St->Hp->(It->Hp->Prop)->Prop
def PIE(X:Cx)(pins:Aaa)(Z:St)(tg:Expr)(R:It->Hp->Prop)(ZP:Value)(s2:Shared):Prop:=
 ∃(it:Addr)(fp:Aah)(tn:Nat->Heap->Prop)(J:It)(H':Hp),ZP=.ref it/\Inv X pins Z H' s2/\Turn X.prog X.w X.K tg J fp it tn/\tn 0 s2.heap/\(∀b∈fp,pD X pins H' b)/\R J H'
def PI(X:Cx)(tg iter:Expr)(wi:TI):Prop:=
 ∀(pins:Aaa)(s:Shared)(Z:St)(H:Hp)(R:It->Hp->Prop),Inv X pins Z H s->wi Z H R->
  wpAny (model X.prog X.w) X.A (eval iter X.env) (λv s1=>wpAny (model X.prog X.w) X.A (pyIter v) (PIE X pins Z tg R) X.xe s1) X.xe s
def EF(ho:s.heap.get? it=some o)(hc:o.cls=.type n)(hd:o.data=.fields vs)
  (hn:["enumerate","zip","dict_itemiterator","dict_reverseitemiterator","odict_iterator","itertools.zip_longest","itertools.pairwise"].contains n=false) (hQ:Q () s):wpAny M A (letOwnedTupleGo tg (.ref it) u) Q E s:=by
 cases tg<;>first
  |exact af hQ
  |(cases u<;>first
    |exact af hQ
    |(refine ae (DO ho ?_);rw[hc,hd];show wpAny M A (if(["enumerate","zip","dict_itemiterator","dict_reverseitemiterator","odict_iterator","itertools.zip_longest","itertools.pairwise"].contains n&&vs[0]?==some (rawInt _))=true then _ else _) Q E s;rw[ax (by intro h;rw[hn,oj]at h;cases h)];exact af hQ))
def VO(K:Frag)(a:Addr):It:=
 {λi H=>∃xs x,br K H a xs/\xs[i]?=some x,λi H x H'=>H'=H/\∀xs,br K H a xs->xs[i]?=some x,λi H=>∃xs,br K H a xs/\xs.length<=i}
def VM(K:Frag)(a:Addr):It:=
 {λi H=>∃xs x,bf K H a xs/\xs[i]?=some x,λi H x H'=>H'=H/\∀xs,bf K H a xs->xs[i]?=some x,λi H=>∃xs,bf K H a xs/\xs.length<=i}
def VN(lo:Int)(n:Nat):It:={λi _=>i<n,λi H x H'=>H'=H/\x=.int (lo+i),λi _=>n<=i}
def Oz{K:Frag}(a it:Addr):Turn P w K tg (VO K a) [it] it (λi h=>h.IsListIter it a i) where
 mem:=by simp
 obj:=λi h st b hb=>by
  have e:b=it:=by simpa using hb
  subst e;obtain⟨o,e,c,d⟩:=st;exact{o,e,λv z=>by rw[d]at z;cases z}
 keep:=λi h h' st k=>st.at λo e=>k it (by simp) o e
 item:=by intro X hP hw hK hc i pins s Z H E I hf st hg;subst hP hw hK;obtain⟨xs,x,hq,hx⟩:=hg;obtain⟨aP,rv,p,hz⟩:=I.list hq;obtain⟨u,hu,ru⟩:=rv.get hx;obtain⟨f0,f1,f2,f3,f4,f5⟩:=hf it (by simp);refine wpAny_pyNext_list_item st p.isList (by simpa using hu) λh' lO sb=>?_;obtain⟨o,e,c,d⟩:=id lO;exact{u,rfl,EF e c d (by decide) {x,H,(I.turned (t':=s.toks) (λb o hb e=>(sb.2 b hb).trans e) f0 f1 f3 f4 f5),ru,{rfl,λys hy=>by rw[I.De hy hq];exact hx},lO,λb hb=>(hf b hb).1}}
 done:=by intro X hP hw hK hc i pins s Z H E I hf st hg;subst hP hw hK;obtain⟨xs,hq,hx⟩:=hg;obtain⟨aP,rv,p,hz⟩:=I.list hq;obtain⟨f0,f1,f2,f3,f4,f5⟩:=hf it (by simp);have hl:=rv.length;exact wpAny_pyNext_list_end (I.ok.hd hc) st p.isList (by simp;lia) λh' eb=>{rfl,I.turned (λb o hb e=>eb b o hb e) f0 f1 f3 f4 f5}
 self:=λ_ _ _ _ _ st h=>wpAny_pyIter_listiter st h
def MJ{K:Frag}(a it:Addr):Turn P w K tg (VM K a) [it] it (λi h=>h.IsTupleIter it a i) where
 mem:=by simp
 obj:=λi h st b hb=>by
  have e:b=it:=by simpa using hb
  subst e;obtain⟨o,e,c,d⟩:=st;exact{o,e,λv z=>by rw[d]at z;cases z}
 keep:=λi h h' st k=>st.at λo e=>k it (by simp) o e
 item:=by intro X hP hw hK hc i pins s Z H E I hf st hg;subst hP hw hK;obtain⟨xs,x,hq,hx⟩:=hg;obtain⟨aP,rv,p,hz⟩:=I.tuple hq;obtain⟨u,hu,ru⟩:=rv.get hx;obtain⟨f0,f1,f2,f3,f4,f5⟩:=hf it (by simp);refine wpAny_pyNext_tuple_item st (show s.heap.IsTuple a aP.toArray from p) (by simpa using hu) λh' lO sb=>?_;obtain⟨o,e,c,d⟩:=id lO;exact{u,rfl,EF e c d (by decide) {x,H,(I.turned (t':=s.toks) (λb o hb e=>(sb.2 b hb).trans e) f0 f1 f3 f4 f5),ru,{rfl,λys hy=>by rw[I.vL hy hq];exact hx},lO,λb hb=>(hf b hb).1}}
 done:=by intro X hP hw hK hc i pins s Z H E I hf st hg;subst hP hw hK;obtain⟨xs,hq,hx⟩:=hg;obtain⟨aP,rv,p,hz⟩:=I.tuple hq;obtain⟨f0,f1,f2,f3,f4,f5⟩:=hf it (by simp);have hl:=rv.length;exact wpAny_pyNext_tuple_end (I.ok.hd hc) st (show s.heap.IsTuple a aP.toArray from p) (by simp;lia) λh' eb=>{rfl,I.turned (λb o hb e=>eb b o hb e) f0 f1 f3 f4 f5}
 self:=λ_ _ _ _ _ st h=>wpAny_pyIter_tupleiter st h
def MK{K:Frag}(it:Addr)(lo:Int)(n:Nat):Turn P w K tg (VN lo n) [it] it (λi h=>IsRangeIter h it (lo+(i:Nat)*1) ((n:Int) -(i:Nat)) 1) where
 mem:=by simp
 obj:=λi h st b hb=>by
  have e:b=it:=by simpa using hb
  subst e;exact{_,st,λv z=>by have z':=z;cases z'}
 keep:=λi h h' st k=>k it (by simp) _ st
 item:=by intro X hP hw hK hc i pins s Z H E I hf st hg;subst hP hw hK;obtain⟨f0,f1,f2,f3,f4,f5⟩:=hf it (by simp);refine(Walks.range (prog:=X.prog) (w:=X.w) (I.ok.hd hc) it lo 1 n).item i s _ _ hg st λv h' tk hv lO kk=>?_;obtain⟨t,rfl⟩:=hv;refine{_,rfl,EF lO rfl rfl (by decide) {.int (lo+i),H,(I.turned (λb o hb e=>kk b o (by simpa using hb) e) f0 f1 f3 f4 f5),{t,?_},⟨rfl,rfl⟩,lO,λb hb=>(hf b hb).1}};rw[Int.mul_one]
 done:=by intro X hP hw hK hc i pins s Z H E I hf st hg;obtain⟨f0,f1,f2,f3,f4,f5⟩:=hf it (by simp);exact wpAny_pyNext_range_end (I.ok.hd hc) st (by have:n<=i:=hg;lia) λh' eb=>{rfl,I.turned (λb o hb e=>eb b o hb e) f0 f1 f3 f4 f5}
 self:=λ_ _ _ _ _ st h=>wpAny_pyIter_rangeiter st h
section
variable{X:Cx}{tg:Expr}
inductive ZY(K:Frag)(R:It->Hp->Prop)(x:V)(H1:Hp):Prop
 |mk a (_:x=.ref a) (_:(∃xs,br K H1 a xs)) (_:R (VO K a) H1)
def abM(K:Frag)(tl:TE):TI:=λZ H R=>tl Z H λx H1=>ZY K R x H1
inductive abJ(K:Frag)(R:It->Hp->Prop)(x:V)(H1:Hp):Prop
 |mk a (_:x=.ref a) (_:(∃xs,bf K H1 a xs)) (_:R (VM K a) H1)
def acK(K:Frag)(tl:TE):TI:=λZ H R=>tl Z H λx H1=>abJ K R x H1
def fX(hl:PE X l tl):PI X tg l (abM X.K tl):=by
 intro pins s Z H R I h;refine cX (hl pins s Z H _ I h) λv s1 x H1 I1 r1 q1=>?_;obtain⟨a,e,⟨xs,hq⟩,q⟩:=q1;subst e;cases r1;obtain⟨aP,rv,p,hz⟩:=I1.list hq;refine oB p.isList ?_;refine{s1.heap.objs.size,[s1.heap.objs.size],_,_,H1,rfl,I1.kept λb o e=>ah _ e,Oz a _,{_,aB _ rfl,rfl,rfl},λb hb=>?_,q};have e:b=s1.heap.objs.size:=by simpa using hb
 subst e;exact I1.uZ (ao _) (I1.bw.fresh (ao _))
def oQ(hl:PE X l tl):PI X tg l (acK X.K tl):=by
 intro pins s Z H R I h;refine cX (hl pins s Z H _ I h) λv s1 x H1 I1 r1 q1=>?_;obtain⟨a,e,⟨xs,hq⟩,q⟩:=q1;subst e;cases r1;obtain⟨aP,rv,p,hz⟩:=I1.tuple hq;refine mV (show s1.heap.IsTuple a aP.toArray from p) ?_;refine{s1.heap.objs.size,[s1.heap.objs.size],_,_,H1,rfl,I1.kept λb o e=>ah _ e,MJ a _,{_,aB _ rfl,rfl,rfl},λb hb=>?_,q};have e:b=s1.heap.objs.size:=by simpa using hb
 subst e;exact I1.uZ (ao _) (I1.bw.fresh (ao _))
def R5{lo hi:Int}(I:Inv X pins Z H s)(h1:-(2^62)<=lo)(h2:lo<2^62)(h3:-(2^62)<=hi)(h4:hi<2^62)
  (q:R (VN lo (hi -lo).toNat) H):wpAny (model X.prog X.w) X.A (pyIter (.ref s.heap.objs.size)) (PIE X pins Z tg R) E {s with heap:=s.heap.push {cls:=.type "range",data:=.fields #[.int lo t,.int hi u,.int 1 v]},toks:=tk}:=by
 refine wpAny_pyIter_range (IsRange.new ..) (small_one h1 h2 h3 h4) ?_;have I1:Inv X pins Z H {s with heap:=s.heap.push {cls:=.type "range",data:=.fields #[.int lo t,.int hi u,.int 1 v]},toks:=tk}:=I.kept λb o e=>ah _ e;refine{(s.heap.push {cls:=.type "range",data:=.fields #[.int lo t,.int hi u,.int 1 v]}).objs.size,[(s.heap.push {cls:=.type "range",data:=.fields #[.int lo t,.int hi u,.int 1 v]}).objs.size],_,_,H,rfl,
  I1.kept λb o e=>ah _ e,MK _ lo (hi -lo).toNat,?_,λb hb=>?_,q}
 ·have e1:lo+((0:Nat):Int)*1=lo:=by simp
  have e2:(((hi -lo).toNat:Nat):Int) -((0:Nat):Int)=Builtin.Range.rangeSize lo hi 1:=by rw[rangeSize_one];split<;>lia
  rw[e1,e2];exact aB _ rfl
 ·have e:b=(s.heap.push {cls:=.type "range",data:=.fields #[.int lo t,.int hi u,.int 1 v]}).objs.size:=by simpa using hb
  subst e;exact I1.uZ (ao _) (I1.bw.fresh (ao _))
inductive ZX(R:It->Hp->Prop)(vs:Aam)(H1:Hp):Prop
 |mk (j:Int) (_:vs=[.int j]) (_:-(2^62)<=j) (_:j<2^62) (_:R (VN 0 j.toNat) H1)
def abL(ta:TA):TI:=λZ H R=>ta Z H λvs H1=>ZX R vs H1
def kZ(hg:Gl X "range")(hm:X.mg "range"=none)(ha:PA X [a] ta)(hs:starEach [a] X.env=[(false,eval a X.env)]:=by rfl):PI X tg (.Call (.Name "range" p) [a] [] pos) (abL ta):=by
 intro pins s Z H R I h;refine E3 (qd I hg hm boot_range (dP (pR (ha pos pins s Z H _ I h) λus s1 vs H1 I1 r1 q1=>?_) hs rfl));obtain⟨j,e,q1,q2,q⟩:=q1;subst e;cases r1 with
 |cons r rr=>
  cases rr;obtain⟨t,rfl⟩:=r;exact call_range_1 (R5 I1 ∅ ∅ q1 q2 (by simpa using q))
def aci(wi:TI)(g:TG)(tb:TS):TS:=λD Z H=>wi Z H λJ H1=>∃W:Nat->Nat->St->Hp->Prop,(∃m,W 0 m Z H1)/\∀i m Z H,W i m Z H->
 (J.stop i H/\D.nx Z H)\/(J.go i H/\∃N:St->Hp->Prop,(∀σ' H',N σ' H'->∃m',m'<m/\W (i+1) m' σ' H')/\∀x H',J.FV i H x H'->g x Z H' λσ2 H2=>tb {D with nx:=N,ct:=N,bk:=D.nx} σ2 H2)
def Aj(fp:Aah)(h:Heap):Aaa:=fp.filterMap λb=>(h.get? b).map λo=>(b,o)
def tZ(hb:b∈fp)(e:h.get? b=some o):(b,o)∈Aj fp h:=sG.mpr {b,hb,by rw[e];rfl}
def Pl(hp:p∈Aj fp h):p.1∈fp/\h.get? p.1=some p.2:=by
 obtain⟨b,hb,e⟩:=sG.mp hp;cases q:h.get? b with
 |none=>rw[q]at e;cases e
 |some o=>
  rw[q]at e;have e':=bM e;subst e';exact⟨hb,q⟩
def Inv.pinned(I:Inv X pins Z H s)(hf:∀b∈fp,pD X pins H b)(ho:∀b∈fp,∃o,s.heap.get? b=some o/\∀v,o.data≠ .cell v):Inv X (pins++Aj fp s.heap) Z H s:=
 I.xn λp hp=>(aY.mp hp).elim (λz=>I.pin p (bZ _ z)) λz=>by obtain⟨hb,e⟩:=Pl z;obtain⟨f0,f1,f2,_⟩:=hf p.1 hb;obtain⟨o,e',d⟩:=ho p.1 hb;rw[e]at e';cases e';exact⟨e,f0,f1,f2,d⟩
def Inv.xW(I:Inv X (pins++pl) Z H s):Inv X pins Z H s:=I.xn λp hp=>I.pin p (bZ _ (hJ _ hp))
def fR(hp:PassesOwn (model X.prog X.w) X.A X.env X.xe)(hc:X.calm=true)(hi:PI X tg iter wi)(hg:PG X tg g)(hb:nK X body tb)
  (hs:∀x,foldedSetIterable iter X.env x=pure x:=by intro _;rfl):PS X (.For tg iter body [] pos) (aci wi g tb):=by
 intro pins s Z H D I h;refine wpAny_For (iB (hi pins s Z H _ I h) λv s1 h1=>iB h1 λZP s2 h2=>?_) hs;obtain⟨it,fp,tn,J,H2,e,I2,T,pF,f2,W,⟨m0,w0⟩,turn⟩:=h2;subst e;have RT:∀{H':Hp},(∀b∈fp,H' b=none)->∀b∈fp,pD X pins H' b:=λhn b hb=>{hn b hb,(f2 b hb).2};refine codeAny_forLoop_any (λn s'=>∃i σ' H',Inv X pins σ' H' s'/\tn i s'.heap/\(∀b∈fp,H' b=none)/\W i n σ' H') ?_ m0 {0,Z,H2,I2,pF,λb hb=>(f2 b hb).1,w0};rintro n s3 ⟨i,σ3,H3,I3,ux,fr3,w3⟩;rcases turn i n σ3 H3 w3 with⟨stop,qn⟩|⟨go,N,hN,step⟩
 ·refine iV hp (iB (T.done X rfl rfl rfl hc i pins s3 σ3 H3 X.xe I3 (RT fr3) ux stop) λr s4 sf=>?_);obtain⟨hr,I4⟩:=sf;subst hr;exact pQ ⟨σ3,H3,I4,qn⟩
 ·refine iV hp (iB (T.item X rfl rfl rfl hc i pins s3 σ3 H3 X.xe I3 (RT fr3) ux go) λr s4 hz3=>?_);obtain⟨u,hr,h4⟩:=hz3;subst hr;refine iV hp (iB h4 λ_ s5 hz4=>?_);obtain⟨x,H5,I5,r5,y5,om,fr5⟩:=hz4;refine iV hp (iB (hg _ s5 σ3 H5 x u _ (I5.pinned (RT fr5) (T.obj _ _ om)) r5 (step x H5 y5)) λ_ s6 hz5=>?_);obtain⟨σ6,H6,I6,q6⟩:=hz5;refine iV hp (iB (hb _ s6 σ6 H6 _ I6 q6) λf s7 q7=>?_);have again:∀{σ7:St}{H7:Hp},Inv X (pins++Aj fp s5.heap) σ7 H7 s7->N σ7 H7->∃m,m<n/\∃i σ' H',Inv X pins σ' H' s7/\tn i s7.heap/\(∀b∈fp,H' b=none)/\W i m σ' H':=λ{σ7 H7} I7 n7=>by obtain⟨m',hm,w7⟩:=hN σ7 H7 n7;refine{m',hm,i+1,σ7,H7,I7.xW,T.keep _ _ _ om λb hb o e=>(I7.pin (b,o) (bZ _ (bZ _ (tZ hb e)))).1,λb hb=>?_,w7};obtain⟨o,e,d⟩:=T.obj _ _ om b hb;exact(I7.pin (b,o) (bZ _ (bZ _ (tZ hb e)))).2.1
  cases f with
  |next=>obtain⟨σ7,H7,I7,n7⟩:=q7;exact again I7 n7
  |cont=>obtain⟨σ7,H7,I7,n7⟩:=q7;exact again I7 n7
  |brk=>obtain⟨σ7,H7,I7,q7⟩:=q7;exact{σ7,H7,I7.xW,q7}
  |ret v=>obtain⟨x7,σ7,H7,I7,r7,q7⟩:=q7;exact{x7,σ7,H7,I7.xW,r7,q7}
abbrev uo(J:It)(g:TG)(tb:TS)(D:Ends)(Z:St)(H:Hp):Prop:=∃W:Nat->Nat->St->Hp->Prop,(∃m,W 0 m Z H)/\∀i m Z H,W i m Z H->
 (J.stop i H/\D.nx Z H)\/(J.go i H/\∃N:St->Hp->Prop,(∀σ' H',N σ' H'->∃m',m'<m/\W (i+1) m' σ' H')/\∀x H',J.FV i H x H'->g x Z H' λσ2 H2=>tb {D with nx:=N,ct:=N,bk:=D.nx} σ2 H2)
def AU{J:It}{n:Nat}{g:TG}{tb:TS}{D:Ends}{Z:St}{H:Hp}(Pv:Nat->St->Hp->Prop)(h0:Pv 0 Z H)(hg:∀i Z H,i<n->Pv i Z H->J.go i H/\∀x H',J.FV i H x H'->g x Z H' λσ2 H2=>tb {D with nx:=Pv (i+1),ct:=Pv (i+1),bk:=D.nx} σ2 H2)(hd:∀Z H,Pv n Z H->J.stop n H/\D.nx Z H):uo J g tb D Z H:=by
 refine{λi m Z H=>m=n -i/\i<=n/\Pv i Z H,{n,by simp,aR _,h0},?_};rintro i m Z H ⟨rfl,hi,p⟩;by_cases cw:i<n
 ·obtain⟨a,b⟩:=hg i Z H cw p;exact .inr {a,Pv (i+1),λσ' H' p'=>{n -(i+1),by lia,rfl,cw,p'},b}
 ·have e:i=n:=by lia
  subst e;exact .inl (hd Z H p)
def Dl{K:Frag}{g:TG}{tb:TS}{D:Ends}(Pv:Nat->St->Hp->Prop)(h0:Pv 0 Z H)(hl:∀i Z H,i<=xs.length->Pv i Z H->br K H a xs)
  (hs:∀i x Z H,xs[i]?=some x->Pv i Z H->g x Z H λσ2 H2=>tb {D with nx:=Pv (i+1),ct:=Pv (i+1),bk:=D.nx} σ2 H2) (hd:∀Z H,Pv xs.length Z H->D.nx Z H):uo (VO K a) g tb D Z H:=by
 refine AU Pv h0 (λi Z H hi p=>?_) λZ H p=>{{xs,hl _ Z H (ao _) p,ao _},hd Z H p};have q:=hl i Z H (bI hi) p;refine{{xs,_,q,aq hi},?_};rintro x H' ⟨rfl,y⟩;exact hs i x Z _ (y xs q) p
def xJ{K:Frag}{g:TG}{tb:TS}{D:Ends}(Pv:Nat->St->Hp->Prop)(h0:Pv 0 Z H)(hl:∀i Z H,i<=xs.length->Pv i Z H->bf K H a xs)
  (hs:∀i x Z H,xs[i]?=some x->Pv i Z H->g x Z H λσ2 H2=>tb {D with nx:=Pv (i+1),ct:=Pv (i+1),bk:=D.nx} σ2 H2) (hd:∀Z H,Pv xs.length Z H->D.nx Z H):uo (VM K a) g tb D Z H:=by
 refine AU Pv h0 (λi Z H hi p=>?_) λZ H p=>{{xs,hl _ Z H (ao _) p,ao _},hd Z H p};have q:=hl i Z H (bI hi) p;refine{{xs,_,q,aq hi},?_};rintro x H' ⟨rfl,y⟩;exact hs i x Z _ (y xs q) p
def v9{lo:Int}{g:TG}{tb:TS}{D:Ends}(Pv:Nat->St->Hp->Prop)(h0:Pv 0 Z H)
  (hs:∀i Z H,i<n->Pv i Z H->g (.int (lo+i)) Z H λσ2 H2=>tb {D with nx:=Pv (i+1),ct:=Pv (i+1),bk:=D.nx} σ2 H2) (hd:∀Z H,Pv n Z H->D.nx Z H):uo (VN lo n) g tb D Z H:=by
 refine AU Pv h0 (λi Z H hi p=>{hi,?_}) λZ H p=>{ao _,hd Z H p};rintro x H' ⟨rfl,rfl⟩;exact hs i Z _ hi p
abbrev R2:=V->V->Hp->VK->Prop
end
def kz(X:Cx)(f:Value->Value->Sem Value)(r:R2):Prop:=
 ∀(pins:Aaa)(s:Shared)(Z:St)(H:Hp)(x y:V)(v u:Value)(Q:VK),Inv X pins Z H s->RelV x v->RelV y u->r x y H Q->
  wpAny (model X.prog X.w) X.A (f v u) (EP X pins Z Q) X.xe s
def gA(X:Cx)(f:Value)(r:Aam->Hp->VK->Prop):Prop:=
 ∀(pins:Aaa)(s:Shared)(Z:St)(H:Hp)(xs:Aam)(us:Aae)(Q:VK),Inv X pins Z H s->Vals xs us->r xs H Q->
  wpAny (model X.prog X.w) X.A (call f us) (EP X pins Z Q) X.xe s
def adY(X:Cx)(r:V->Hp->(Bool->Hp->Prop)->Prop):Prop:=
 ∀(pins:Aaa)(s:Shared)(Z:St)(H:Hp)(x:V)(v:Value)(Q:Bool->Hp->Prop),Inv X pins Z H s->RelV x v->r x H Q->
  wpAny (model X.prog X.w) X.A (truthy v) (TP X pins Z Q) X.xe s
def Uq(r:R2)(ta tb:TE):TE:=λZ H Q=>ta Z H λx H1=>tb Z H1 λy H2=>r x y H2 Q
inductive rI(C:Int->Int->Prop)(g:Int->Int->V)(x:V)(y:V)(H:Hp)(Q:VK):Prop
 |mk i j (_:x=.int i) (_:y=.int j) (_:C i j) (_:Q (g i j) H)
inductive LH(g:Int->Int->V)(x:V)(y:V)(H:Hp)(Q:VK):Prop
 |mk i j (_:x=.int i) (_:y=.int j) (_:Q (g i j) H)
section
variable{X:Cx}{a b:Expr}{ta tb:TE}{pos:Pos}
def T6(ha:PE X a ta)(hb:PE X b tb){R:V->V->Hp->Prop}(I:Inv X pins Z H s)
  (h:ta Z H λx H1=>tb Z H1 λy H2=>R x y H2) {f:Value->Value->Sem Value}
  (hf:∀v u s2 x y H2,Inv X pins Z H2 s2->RelV x v->RelV y u->R x y H2->wpAny (model X.prog X.w) X.A (f v u) Q X.xe s2):
  wpAny (model X.prog X.w) X.A (eval a X.env) (λv aaa=>wpAny (model X.prog X.w) X.A (eval b X.env) (λu aae=>wpAny (model X.prog X.w) X.A (f v u) Q X.xe aae) X.xe aaa) X.xe s:=by
 refine cX (ha pins s Z H _ I h) λv s1 x H1 I1 r1 q1=>?_;exact cX (hb pins s1 Z H1 _ I1 q1) λu s2 y H2 I2 r2 q2=>hf v u s2 x y H2 I2 r1 r2 q2
def dB(ho:kz X (binaryOp op) r)(ha:PE X a ta)(hb:PE X b tb):PE X (.BinOp a op b pos) (Uq r ta tb):=by intro pins s Z H Q I h;exact wpAny_BinOp (T6 ha hb I h λv u s2 x y H2 I2 rx ry q=>ho pins s2 Z H2 x y v u Q I2 rx ry q)
def UH{g:Int->Int->Int}
  (rule:∀(i j:Int)(t u:Tok)(s:Shared)(Q:Aac)(E:Aac),C i j->Q (.int (g i j) s.toks) {s with toks:=s.toks+1}->wpAny (model X.prog X.w) X.A (f (.int i t) (.int j u)) Q E s):
  kz X f (rI C λi j=>.int (g i j)):=by
 intro pins s Z H x y v u Q I rx ry h;obtain⟨i,j,rfl,rfl,hc,q⟩:=h;obtain⟨t,rfl⟩:=rx;obtain⟨t',rfl⟩:=ry;exact rule i j t t' s _ _ hc {.int (g i j),H,I.tok _,⟨_,rfl⟩,q}
def acz{g:Int->Int->Int}
  (rule:∀(i j:Int)(t u:Tok)(s:Shared)(Q:Aac)(E:Aac),Q (.int (g i j) s.toks) {s with toks:=s.toks+1}->wpAny (model X.prog X.w) X.A (f (.int i t) (.int j u)) Q E s):
  kz X f (LH λi j=>.int (g i j)):=by
 intro pins s Z H x y v u Q I rx ry h;obtain⟨i,j,rfl,rfl,q⟩:=h;obtain⟨t,rfl⟩:=rx;obtain⟨t',rfl⟩:=ry;exact rule i j t t' s _ _ {.int (g i j),H,I.tok _,⟨_,rfl⟩,q}
def Ss{g:Int->Int->Bool}
  (rule:∀(i j:Int)(t u:Tok)(s:Shared)(Q:Aac)(E:Aac),Q (.bool (g i j)) s->wpAny (model X.prog X.w) X.A (f (.int i t) (.int j u)) Q E s):
  kz X f (LH λi j=>.bl (g i j)):=by
 intro pins s Z H x y v u Q I rx ry h;obtain⟨i,j,rfl,rfl,q⟩:=h;obtain⟨t,rfl⟩:=rx;obtain⟨t',rfl⟩:=ry;exact rule i j t t' s _ _ {.bl (g i j),H,I,rfl,q}
def ad1(i j:Int):Prop:=0<=j/\j<=1000000/\i.natAbs<2^64
def Ua(i j:Int):Prop:=(-(2^64)<i/\i<2^64)\/(-(2^64)<j/\j<2^64)
def Ua.ok(h:Ua i j):IntMulOk i j:=by
 rcases h with⟨h1,h2⟩|⟨h1,h2⟩
 ·exact .of_left (intBits_le_64 h1 h2)
 ·exact .of_right (intBits_le_64 h1 h2)
def iC:kz X (binaryOp .Add) (LH λi j=>.int (i+j)):=acz λ_ _ _ _ _ _ _ q=>add_int q
def Ao:kz X (binaryOp .Mult) (rI Ua λi j=>.int (i*j)):=UH λ_ _ _ _ _ _ _ hc q=>mul_int q hc.ok
def oR:kz X (binaryOp .Mod) (rI (λ_ j=>0<j) λi j=>.int (i % j)):=UH λi j _ _ _ _ _ hc q=>by exact mod_int' ∅ (by rw[Int.fmod_eq_emod_of_nonneg i ∅];exact q)
def YX:kz X (binaryOp .Pow) (rI ad1 λi j=>.int (i^j.toNat)):=UH λ_ _ _ _ _ _ _ hc q=>pow_int_small hc.1 hc.2.1 hc.2.2 q
def YA:V->V->Bool
 | .cb,.cb=>true| .cb,.int _=>true| .int _,.cb=>true| .cb,.bl _=>true| .bl _,.cb=>true| .cb,.str _=>true| .str _,.cb=>true
 | .int _,.int _=>true| .bl _,.bl _=>true| .str _,.str _=>true| .tE _,.tE _=>true
 | .int _,.str _=>true| .str _,.int _=>true| .bl _,.str _=>true| .str _,.bl _=>true
 |_,_=>false
def rEq:R2:=λx y H Q=>YA x y=true/\Q (.bl (decide (x=y))) H
def rNe:R2:=λx y H Q=>YA x y=true/\Q (.bl (!decide (x=y))) H
def Mv:decide (V.int i=V.int j)=(i==j):=by rw[fJ];simp
def Q4:decide (V.bl i=V.bl j)=(i==j):=by rw[fJ];simp
def Mu:decide (V.str i=V.str j)=(i==j):=by rw[fJ];simp
def Mw:decide (V.tE i=V.tE j)=(i.toList==j.toList):=by rw[fJ];cases i;cases j;simp
variable{c:Expr}{tc:TE}
def dC(I:Inv X pins Z H s)(q:Q (.bl k) H)(e:k=k'):EP X pins Z Q (.bool k') s:=by subst e;exact{.bl k,H,I,rfl,q}
def tV:kz X (compareOp .Eq) rEq:=by
 intro pins s Z H x y v u Q I rx ry h;obtain⟨hs,q⟩:=h;cases x with
 |cb=>
  cases rx;cases y with
  |cb=>cases ry;exact PySem.EqNone.eq_none_none (dC I q (by simp))
  |bl j=>cases ry;exact PySem.EqNone.eq_none_bool (dC I q (by simp))
  |int j=>obtain⟨t',rfl⟩:=ry;exact PySem.EqNone.eq_none_int (dC I q (by simp))
  |str j=>obtain⟨t',rfl⟩:=ry;exact PySem.EqNone.eq_none_str (dC I q (by simp))
  |_=>exact absurd (show false=true from hs) bA
 |bl i=>
  cases rx;cases y with
  |cb=>cases ry;exact PySem.EqNone.eq_bool_none (dC I q (by simp))
  |bl j=>cases ry;exact eq_bool (dC I q Q4)
  |str j=>obtain⟨t',rfl⟩:=ry;exact PySem.EqMixed.eq_bool_str (dC I q (by simp))
  |_=>exact absurd (show false=true from hs) bA
 |int i=>
  obtain⟨t,rfl⟩:=rx;cases y with
  |cb=>cases ry;exact PySem.EqNone.eq_int_none (dC I q (by simp))
  |int j=>obtain⟨t',rfl⟩:=ry;exact eq_int (dC I q Mv)
  |str j=>obtain⟨t',rfl⟩:=ry;exact PySem.EqMixed.eq_int_str (dC I q (by simp))
  |_=>exact absurd (show false=true from hs) bA
 |str i=>
  obtain⟨t,rfl⟩:=rx;cases y with
  |cb=>cases ry;exact PySem.EqNone.eq_str_none (dC I q (by simp))
  |bl j=>cases ry;exact PySem.EqMixed.eq_str_bool (dC I q (by simp))
  |int j=>obtain⟨t',rfl⟩:=ry;exact PySem.EqMixed.eq_str_int (dC I q (by simp))
  |str j=>obtain⟨t',rfl⟩:=ry;exact eq_str (dC I q Mu)
  |_=>exact absurd (show false=true from hs) bA
 |tE i=>
  obtain⟨t,rfl⟩:=rx;cases y with
  |tE j=>obtain⟨t',rfl⟩:=ry;exact PySem.W.eq_bytes (dC I q Mw)
  |_=>exact absurd (show false=true from hs) bA
 |_=>cases y<;>exact absurd (show false=true from hs) bA
def yt:kz X (compareOp .NotEq) rNe:=by
 intro pins s Z H x y v u Q I rx ry h;obtain⟨hs,q⟩:=h;cases x with
 |cb=>
  cases rx;cases y with
  |cb=>cases ry;exact PySem.EqNone.ne_none_none (dC I q (by simp))
  |bl j=>cases ry;exact PySem.EqNone.ne_none_bool (dC I q (by simp))
  |int j=>obtain⟨t',rfl⟩:=ry;exact PySem.EqNone.ne_none_int (dC I q (by simp))
  |str j=>obtain⟨t',rfl⟩:=ry;exact PySem.EqNone.ne_none_str (dC I q (by simp))
  |_=>exact absurd (show false=true from hs) bA
 |bl i=>
  cases rx;cases y with
  |cb=>cases ry;exact PySem.EqNone.ne_bool_none (dC I q (by simp))
  |bl j=>cases ry;exact ne_bool (dC I q (cc not Q4))
  |str j=>obtain⟨t',rfl⟩:=ry;exact PySem.EqMixed.ne_bool_str (dC I q (by simp))
  |_=>exact absurd (show false=true from hs) bA
 |int i=>
  obtain⟨t,rfl⟩:=rx;cases y with
  |cb=>cases ry;exact PySem.EqNone.ne_int_none (dC I q (by simp))
  |int j=>obtain⟨t',rfl⟩:=ry;exact ne_int (dC I q (cc not Mv))
  |str j=>obtain⟨t',rfl⟩:=ry;exact PySem.EqMixed.ne_int_str (dC I q (by simp))
  |_=>exact absurd (show false=true from hs) bA
 |str i=>
  obtain⟨t,rfl⟩:=rx;cases y with
  |cb=>cases ry;exact PySem.EqNone.ne_str_none (dC I q (by simp))
  |bl j=>cases ry;exact PySem.EqMixed.ne_str_bool (dC I q (by simp))
  |int j=>obtain⟨t',rfl⟩:=ry;exact PySem.EqMixed.ne_str_int (dC I q (by simp))
  |str j=>obtain⟨t',rfl⟩:=ry;exact ne_str (dC I q (cc not Mu))
  |_=>exact absurd (show false=true from hs) bA
 |tE i=>
  obtain⟨t,rfl⟩:=rx;cases y with
  |tE j=>obtain⟨t',rfl⟩:=ry;exact PySem.W.ne_bytes (dC I q (cc not Mw))
  |_=>exact absurd (show false=true from hs) bA
 |_=>cases y<;>exact absurd (show false=true from hs) bA
def UG:kz X (compareOp .Lt) (LH λi j=>.bl (decide (i<j))):=Ss λ_ _ _ _ _ _ _ q=>lt_int q
def Ni:kz X (compareOp .LtE) (LH λi j=>.bl (decide (i<=j))):=Ss λ_ _ _ _ _ _ _ q=>le_int q
def Ef:kz X (compareOp .Gt) (LH λi j=>.bl (decide (j<i))):=Ss λ_ _ _ _ _ _ _ q=>gt_int q
def Pe:kz X (compareOp .In) (λx y H Q=>∃i j,x=.str i/\y=.str j/\Q (.bl (!(Builtin.Str.occurrences j i 0 j.length 1).isEmpty)) H):=by intro pins s Z H x y v u Q I rx ry h;obtain⟨i,j,rfl,rfl,q⟩:=h;obtain⟨t,rfl⟩:=rx;obtain⟨t',rfl⟩:=ry;exact in_str (dC I q rfl)
def IK:kz X (compareOp .Is) (λx y H Q=>y=.cb/\Q (.bl (decide (x=.cb))) H):=by
 intro pins s Z H x y v u Q I rx ry h;obtain⟨rfl,q⟩:=h;cases ry;refine is_none_gen (dC I q ?_);cases x<;>first
  |(cases rx;rfl)
  |(obtain⟨t,rfl⟩:=rx;rfl)
def WM:kz X (compareOp .IsNot) (λx y H Q=>y=.cb/\Q (.bl (!decide (x=.cb))) H):=by
 intro pins s Z H x y v u Q I rx ry h;obtain⟨rfl,q⟩:=h;cases ry;refine isnot_none_gen (dC I q ?_);cases x<;>first
  |(cases rx;rfl)
  |(obtain⟨t,rfl⟩:=rx;rfl)
def dG(b:Expr)(h:op≠ .In:=by decide)(h2:op≠ .NotIn:=by decide):behindInMarks op b=false:=by
 have e1:(op==CmpOp.In)=false:=by cases op<;>first|rfl|exact absurd rfl h
 have e2:(op==CmpOp.NotIn)=false:=by cases op<;>first|rfl|exact absurd rfl h2
 cases b<;>simp[behindInMarks,e1,e2]
def rg(ho:kz X (compareOp op) r)(ha:PE X a ta)(hb:PE X b tb)(hm:behindInMarks op b=false):PE X (.Compare a [op] [b] pos) (Uq r ta tb):=by intro pins s Z H Q I h;exact wpAny_Compare1 (T6 ha hb I h λv u s2 x y H2 I2 rx ry q=>ho pins s2 Z H2 x y v u Q I2 rx ry q) hm
inductive Yi(Q:Bool->Hp->Prop)(x:V)(H':Hp):Prop
 |mk k (_:x=.bl k) (_:Q k H')
def abg(t:TE):TT:=λZ H Q=>t Z H λx H'=>Yi Q x H'
def c7(ho:kz X (compareOp op) r)(ha:PE X a ta)(hb:PE X b tb)(hm:behindInMarks op b=false):PT X (.Compare a [op] [b] pos) (abg (Uq r ta tb)):=by intro pins s Z H Q I h;refine xa (cX (ha pins s Z H _ I h) λv s1 x H1 I1 r1 q1=>cX (hb pins s1 Z H1 _ I1 q1) λu s2 y H2 I2 r2 q2=>iB (ho pins s2 Z H2 x y v u _ I2 r1 r2 q2) λc s3 hz6=>?_) hm;obtain⟨z,H3,I3,r3,k,e,q3⟩:=hz6;subst e;cases r3;exact f7 ⟨H3,I3,q3⟩
def Ys(r r':R2)(ta tb tc:TE):TE:=λZ H Q=>ta Z H λx H1=>tb Z H1 λy H2=>r x y H2 λz H3=>∃k,z=.bl k/\
 (if k=true then tc Z H3 λw' H4=>r' y w' H4 Q else Q (.bl false) H3)
def Sq(ho:kz X (compareOp op) r)(Ex:kz X (compareOp op') r')(ha:PE X a ta)(hb:PE X b tb)(hc:PE X c tc)
  (hm:lastMarks [op,op'] [b,c]=false:=by with_unfolding_all rfl):PE X (.Compare a [op,op'] [b,c] pos) (Ys r r' ta tb tc):=by
 intro pins s Z H Q I h;refine Compare_chain (cX (ha pins s Z H _ I h) λv s1 x H1 I1 r1 q1=>chain_link (cX (hb pins s1 Z H1 _ I1 q1) λu s2 y H2 I2 r2 q2=>iB (ho pins s2 Z H2 x y v u _ I2 r1 r2 q2) λd s3 U3=>?_)) hm;obtain⟨z,H3,I3,r3,k,e,q3⟩:=U3;subst e;cases r3;refine f7 ?_;cases k with
 |false=>exact ite_ff {.bl false,H3,I3,rfl,q3}
 |true=>exact ite_tt (chain_last (iB (hc pins s3 Z H3 _ I3 q3) λw' s4 ⟨z',H4,I4,r4,q4⟩=>Ex pins s4 Z H4 y z' u w' Q I4 r2 r4 q4))
def aa1(K:Frag)(x:V)(H:Hp)(k:Bool):Prop:=
 match x with
 | .cb=>k=false
 | .bl b=>k=b
 | .int i=>k=(i !=0)
 | .str y=>y.length<=sizeLine/\k=((y.length:Int) !=0)
 | .tE y=>y.size<=sizeLine/\k=((y.size:Int) !=0)
 | .ref p=>(∃xs,br K H p xs/\k=!xs.isEmpty)\/(∃xs,bf K H p xs/\k=!xs.isEmpty)\/∃kvs,H p=some (.dK kvs)/\k=!kvs.isEmpty
 |_=>False
def Ny(r:KV kvs vs):(!vs.isEmpty)=!kvs.isEmpty:=by cases r<;>rfl
def El(r:Vals xs aP):(!aP.toArray.isEmpty)=!xs.isEmpty:=by cases r<;>simp
def Ay:(sizeLine:Nat)<2^63:=by rw[bU];decide
def X5:adY X (λx H Q=>∃k,aa1 X.K x H k/\Q k H):=by
 intro pins s Z H x v Q I rx h;obtain⟨k,e,q⟩:=h;have hl:=Ay;have hs:sizeLine=16777216:=bU;cases x with
 |cb=>
  cases rx;have e':k=false:=e;subst e';exact truthy_none ⟨H,I,q⟩
 |bl b=>
  cases rx;have e':k=b:=e;subst e';exact f7 ⟨H,I,q⟩
 |int i=>
  obtain⟨t,rfl⟩:=rx;have e':k=(i !=0):=e;subst e';exact PySem.P.truthy_int ⟨H,I,q⟩
 |str y=>
  obtain⟨t,rfl⟩:=rx;obtain⟨hy,e'⟩:y.length<=sizeLine/\k=((y.length:Int) !=0):=e;subst e';exact PySem.P.truthy_str ∅ {H,I.tok _,q}
 |tE y=>
  obtain⟨t,rfl⟩:=rx;obtain⟨hy,e'⟩:y.size<=sizeLine/\k=((y.size:Int) !=0):=e;subst e';exact PySem.W.truthy_bytes ∅ {H,I.tok _,q}
 |ref p=>
  cases rx;have e':(∃xs,br X.K H p xs/\k=!xs.isEmpty)\/(∃xs,bf X.K H p xs/\k=!xs.isEmpty)\/∃kvs,H p=some (.dK kvs)/\k=!kvs.isEmpty:=e;rcases e' with⟨xs,hx,e'⟩|⟨xs,hx,e'⟩|⟨kvs,hx,e'⟩
  ·subst e';obtain⟨aP,r,pl,hz⟩:=I.list hx;have hlen:=r.length;exact wpAny_truthy_list pl.isList (by simp only[aO];lia) {H,I.tok _,by rw[El r];exact q}
  ·subst e';obtain⟨aP,r,pl,hz⟩:=I.tuple hx;have hlen:=r.length;exact truthy_tuple pl (by simp only[aO];lia) {H,I.tok _,by rw[El r];exact q}
  ·subst e';obtain⟨hz,hS,vs,r,m⟩:kvs.length<=sizeLine/\(p==sysModules)=false/\∃vs,KV kvs vs/\s.heap.DictOf (bJ X.prog X.w) p vs:=I.bw p _ hx;have hlen:kvs.length=vs.length:=a9 r;exact wpAny_truthy_dict hS m ∅ {H,I.tok _,by rw[Ny r];exact q}
 |_=>exact(show False from e).elim
def Iq(ha:PE X a ta)(he:∀whole,isTrue a X.env whole=(do let v<-whole;standAt a.pos;holding [v] (truthy v))):
  PT X a (λZ H Q=>ta Z H λx H'=>∃k,aa1 X.K x H' k/\Q k H'):=by
 intro pins s Z H Q I h;exact isTrue_plain (cX (ha pins s Z H _ I h) λv s1 x H1 I1 r1 q1=>X5 pins s1 Z H1 x v Q I1 r1 q1) (he _)
def jY(r:Vals [x] us):∃u,us=[u]/\RelV x u:=by
 cases r with
 |cons r1 r2=>cases r2;exact⟨_,rfl,r1⟩
def tP(r:Vals [x,y] us):∃u w',us=[u,w']/\RelV x u/\RelV y w':=by
 cases r with
 |cons r1 r2=>
  cases r2 with
  |cons r3 r4=>cases r4;exact⟨_,_,rfl,r1,r3⟩
def Ro(hc:X.calm=true):gA X (.builtin "max") (λxs H Q=>∃i j,xs=[.int i,.int j]/\Q (.int (if j>i then j else i)) H):=by
 intro pins s Z H xs us Q I r h;obtain⟨i,j,rfl,q⟩:=h;obtain⟨u,w',rfl,⟨t,rfl⟩,⟨t',rfl⟩⟩:=tP r;refine max_two_ints (I.ok.hd hc) λh' tk k=>{_,H,I.kept k,?_,q};by_cases hj:j>i
 ·rw[aA hj,aA hj];exact⟨_,rfl⟩
 ·rw[ax hj,ax hj];exact⟨_,rfl⟩
def Rn(hc:X.calm=true):gA X (.builtin "min") (λxs H Q=>∃i j,xs=[.int i,.int j]/\Q (.int (if j<i then j else i)) H):=by
 intro pins s Z H xs us Q I r h;obtain⟨i,j,rfl,q⟩:=h;obtain⟨u,w',rfl,⟨t,rfl⟩,⟨t',rfl⟩⟩:=tP r;refine min_two_ints (I.ok.hd hc) λh' tk k=>{_,H,I.kept k,?_,q};by_cases hj:j<i
 ·rw[aA hj,aA hj];exact⟨_,rfl⟩
 ·rw[ax hj,ax hj];exact⟨_,rfl⟩
def Oq(K:Frag)(x:V)(H:Hp)(n:Nat):Prop:=
 match x with
 | .str y=>y.length<=sizeLine/\n=y.length
 | .tE y=>y.size<=sizeLine/\n=y.size
 | .ref p=>(∃xs,br K H p xs/\n=xs.length)\/∃xs,bf K H p xs/\n=xs.length
 |_=>False
def fk:gA X (.builtin "len") (λxs H Q=>∃x n,xs=[x]/\Oq X.K x H n/\Q (.int n) H):=by
 intro pins s Z H xs us Q I r h;obtain⟨x,n,rfl,e,q⟩:=h;obtain⟨u,rfl,rx⟩:=jY r;have hs:sizeLine=16777216:=bU;cases x with
 |str y=>
  obtain⟨t,rfl⟩:=rx;obtain⟨hy,e'⟩:y.length<=sizeLine/\n=y.length:=e;subst e';exact len_str ∅ {.int _,H,I.tok _,⟨_,rfl⟩,q}
 |tE y=>
  obtain⟨t,rfl⟩:=rx;obtain⟨hy,e'⟩:y.size<=sizeLine/\n=y.size:=e;subst e';exact PySem.W.len_bytes ∅ {.int _,H,I.tok _,⟨_,rfl⟩,q}
 |ref p=>
  cases rx;have e':(∃xs,br X.K H p xs/\n=xs.length)\/∃xs,bf X.K H p xs/\n=xs.length:=e;rcases e' with⟨xs,hx,e'⟩|⟨xs,hx,e'⟩
  ·subst e';obtain⟨aP,r',pl,hz⟩:=I.list hx;have hlen:=r'.length;exact Calls.call_len_list pl.isList (by simp only[aO];lia) {.int xs.length,H,I.tok _,{_,by simp only[aO];rw[hlen]},q}
  ·subst e';obtain⟨aP,r',pl,hz⟩:=I.tuple hx;have hlen:=r'.length;exact len_tuple pl (by simp only[aO];lia) {.int xs.length,H,I.tok _,{_,by simp only[aO];rw[hlen]},q}
 |_=>exact(show False from e).elim
structure DL(h:Heap)(x dx C:Addr)(mA:Aab):Prop where
 obj:h.get? x=some (instObj C dx)
 ns:h.Ns1 dx mA
 ne:dx≠x
def PK{h:Heap}(n:h.Ns1 dx mA):∃od,h.get? dx=some od/\∀name,lookIn name od=some (mA name):=by
 obtain⟨o,es,ep,ho,hd,hk,_,hm⟩:=n;refine{o,ho,λname=>?_};have e:=hm name;unfold nsFind findBy at e;rw[<-Array.find?_toList]at e;unfold lookIn;rw[hd];dsimp only;split
 ·rename_i y q;rw[q]at e;exact cc some e
 ·rename_i q;rw[q]at e;have a:es.toList.any (·.refKey)=false:=by rw[B1];intro y hy;obtain⟨z,t,Di⟩:=hk y (yZ.mp hy);simp[DictEntry.refKey,Di]
  rw[ax (by rw[a];exact bA)];exact cc some e
def DL.look(I:DL h x dx C mA):∃od,PySem.W.InstAt h x (instObj C dx) C (some od)/\∀name,lookIn name od=some (mA name):=
 let⟨od,ho,hl⟩:=PK I.ns
 {od,{I.obj,rfl,rfl,ho},hl}
variable{prog:Program}{w:World}{A:Around}{E:Aac}{s:Shared}{K:Frag}{x dx C f:Addr}{mA:Aab}{name:Str}{v:Value}
def get_map(X:K.In s.heap)(I:DL s.heap x dx C mA)(hg:plainGet K C name=true)(hh:hasDictIn K C=true)
  (ha:findIn K (.ref C) name=some none) (hv:mA name=some v) (hv':PySem.W.handedIn v=true) (h:Q v {s with toks:=s.toks+1}):
  wpAny (model prog w) A (getAttr (.ref x) name expr) Q E s:=by
 obtain⟨od,J,hl⟩:=I.look;exact PySem.W.get_value X J (qQ hg).1 (PySem.W.findObj_own hh ha rfl (by rw[hl,hv])) hv' h
def Tu(X:K.In s.heap)(I:DL s.heap x dx C mA)(hg:plainGet K C name=true)
  (hf:findIn K (.ref C) name=some (some (.ref f))) (ht:isFn K (.ref f)=true) (hv:mA name=none) (h:Q (.ref f,[.ref x]) s):
  wpAny (model prog w) A (getMethod (.ref x) name pl) Q E s:=by
 obtain⟨od,J,hl⟩:=I.look;exact PySem.W.method_fn X J (qQ hg).1 (qQ hg).2 hf (nY.mp ht) (by show(lookIn name od).map (·.isSome)=some false;rw[hl,hv];rfl) h
def Wg(X:K.In s.heap)(I:DL s.heap x dx C mA)
  (hs:findIn K (.ref C) "__setattr__"=some (some (.builtin "object.__setattr__"))) (hp:PySem.W.plainOver K C=true) (ht:PySem.W.takerIn K C name=some none) (hh:hasDictIn K C=true)
  (hw:PySem.Within mA ns) (hsz:ns.length<=sizeLine)
  (h:∀h',DL h' x dx C (λy=>if y=name then some v else mA y)->Heap.SameBut dx s.heap h'->Q () {s with heap:=h',toks:=s.toks+2}):
  wpAny (model prog w) A (setAttr (.ref x) name v) Q E s:=by
 obtain⟨od,J,hl⟩:=I.look;refine PySem.W.set_plain X J hs (PySem.W.osa_open X J hp ht λb=>?_);obtain⟨cd,hc,EE⟩:=PySem.W.any_some hh;refine ae (af (ae (ae (wpAny_loadPart I.obj (ae (PySem.W.Looks.here (PySem.W.looks_clsIn X hc) ?_))))));rw[EE];refine af (ae (af (ae ?_)));refine wpAny_nsSet1 I.ns λh' GG kR=>?_;obtain⟨oD,esD,epD,hoD,hdD,hcD⟩:=GG.count (PySem.Within.cons name v hw);exact ae (wpAny_lookBehind hoD (by rw[hdD];exact pastItsLine_dict (aL hcD (by rw[bu];lia))) (af (h _ {(kR.2 _ (bY I.ne)).trans I.obj,GG,I.ne} kR)))
def SJ(X:K.In s.heap)(hm:PySem.W.makesIn K C=true)
  (hi:findIn K (.ref C) "__init__"=some (some (.ref f))) (hf:PySem.W.typeIn K (.ref f)=some (.type "function"))
  (h:codeAny (model prog w) (A.under (.builtin "type.__call__" {.ref C::vs,kw})) (.call (.ref f) {.ref (s.heap.objs.size+1)::vs,kw}) (PySem.W.InitBack (s.heap.objs.size+1) R)
   {s with heap:=(s.heap.push emptyDict).push (instObj C s.heap.objs.size)}):
  codeAny (model prog w) A (.call (.ref C) ⟨vs,kw⟩) R s:=by
 obtain⟨hh,g,d,t,os⟩:=s;exact PySem.W.make_core (PySem.W.makes_of X hm) (PySem.W.looks_findIn X hi) (λself=>PySem.W.bind_fn X self hf) (.inl rfl) h
end
def c8(f:Str)(v:V):List (Str×V)->List (Str×V)
 |[]=>[(f,v)]
 |(g,x)::r=>if g=f then(g,v)::r else(g,x)::c8 f v r
theorem Ci(f g:Str)(v:V):∀fs:List (Str×V),(c8 f v fs).lookup g=if g=f then some v else fs.lookup g
 |[]=>by
  show List.lookup g [(f,v)]=_;by_cases h:g=f
  ·have hb:=nY.mpr h;simp only[List.lookup,hb,aA h]
  ·have hb:=du.mpr h;simp only[List.lookup,hb,ax h]
 |(k,x)::r=>by
  rw[show c8 f v ((k,x)::r)=(if k=f then(k,v)::r else(k,x)::c8 f v r)from rfl];by_cases hk:k=f
  ·rw[aA hk];by_cases h:g=k
   ·have hb:=nY.mpr h;simp only[List.lookup,hb,aA (h.trans hk)]
   ·have hb:=du.mpr h;simp only[List.lookup,hb,ax (λe:g=f=>h (e.trans hk.symm))]
  ·rw[ax hk];by_cases h:g=k
   ·have hb:=nY.mpr h;simp only[List.lookup,hb,ax (λe:g=f=>hk (h.symm.trans e))]
   ·have hb:=du.mpr h;simp only[List.lookup,hb];exact(Ci f g v r)
theorem AA(f:Str)(v:V):∀fs:List (Str×V),f∈(c8 f v fs).map (·.1)/\∀g,g∈fs.map (·.1)->g∈(c8 f v fs).map (·.1)
 |[]=>{by simp[c8],λg h=>by simp at h}
 |(k,x)::r=>by
  obtain⟨i1,i2⟩:=AA f v r;rw[show c8 f v ((k,x)::r)=(if k=f then(k,v)::r else(k,x)::c8 f v r)from rfl];by_cases hk:k=f
  ·rw[aA hk];subst hk;exact{by simp,λg h=>by simpa using h}
  ·rw[ax hk];refine{?_,λg h=>?_}
   ·rw[bo];exact az _ i1
   ·rw[bo]at h⊢;rcases aF.mp h with e|e
    ·exact aF.mpr (.inl e)
    ·exact az _ (i2 g e)
theorem Ck(f:Str)(v:V):∀fs:List (Str×V),(c8 f v fs).length<=fs.length+1
 |[]=>by simp[c8]
 |(k,x)::r=>by
  have ih:=Ck f v r;rw[show c8 f v ((k,x)::r)=(if k=f then(k,v)::r else(k,x)::c8 f v r)from rfl];by_cases hk:k=f
  ·rw[aA hk,bu,bu];lia
  ·rw[ax hk,bu,bu];lia
def kW.some_of(r:kW (some v) o):∃u,o=some u/\RelV v u:=by
 cases o with
 |none=>exact(show False from r).elim
 |some u=>exact⟨u,rfl,r⟩
def kW.none_of(r:kW none o):o=none:=by
 cases o with
 |none=>rfl
 |some u=>exact(show False from r).elim
def QJ(r:RelV v u):PySem.W.handedIn u=true:=by
 cases v with
 |cb=>cases(show u=Value.none from r);rfl
 |bl b=>cases(show u=Value.bool b from r);rfl
 |int i=>obtain⟨t,e⟩:=(show∃t,u=Value.int i t from r);cases e;rfl
 |str x=>obtain⟨t,e⟩:=(show∃t,u=Value.str x t from r);cases e;rfl
 |tE b=>obtain⟨t,e⟩:=(show∃t,u=Value.bytes b t from r);cases e;rfl
 |GK b=>obtain⟨t,e⟩:=(show∃t,u=Value.float b t from r);cases e;rfl
 |ref a=>cases(show u=Value.ref a from r);rfl
 |ty n=>cases(show u=Value.type n from r);rfl
section
variable{P:Program}{w:World}{H:Hp}{h:Heap}{a C dx:Addr}{fs:List (Str×V)}
def xy(bw:jI P w H h)(e:H a=some (.ins C dx fs)):∃mA,DL h a dx C mA/\(∀f,kW (fs.lookup f) (mA f))/\PySem.Within mA (fs.map (·.1))/\fs.length<=1000/\H dx=some (.own a):=by obtain⟨d,z,ne,ob,mA,n,r,q⟩:=(show cI P w H h a (.ins C dx fs)from bw a _ e);exact{mA,⟨ob,n,ne⟩,r,q,z,d}
end
structure Bv(K:Frag)(C:Addr):Prop where
 pg:plainGet K C Str.empty=true
 hd:hasDictIn K C=true
 po:PySem.W.plainOver K C=true
 sa:findIn K (.ref C) "__setattr__"=some (some (.builtin "object.__setattr__"))
def Bv.get{K:Frag}(c:Bv K C)(f:Str):plainGet K C f=true:=c.pg
def oX(K:Frag)(C:Addr)(f:Str):Prop:=findIn K (.ref C) f=some none
def oX.abe{K:Frag}(n:oX K C f):PySem.W.takerIn K C f=some none:=by unfold PySem.W.takerIn;rw[show findIn K (.ref C) f=some none from n];rfl
structure Con(K:Frag)(C:Addr)(f:Str)(v:V)(u:Value):Prop where
 at_:findIn K (.ref C) f=some (some u)
 rel:RelV v u
 get:PySem.W.specialIn K u "__get__"=some none
 cp:PySem.W.copiedNames.contains f=false
structure Meth(K:Frag)(C:Addr)(m:Str)(f:Addr):Prop where
 at_:findIn K (.ref C) m=some (some (.ref f))
 fn:isFn K (.ref f)=true
 kp:keepIn K (.ref f)=true
section
variable{X:Cx}{pins:Aaa}{Z:St}{H:Hp}{s:Shared}{a C dx:Addr}{fs:List (Str×V)}{f:Str}{v:V}{A:Around}{E:Aac}
def NZ(I:Inv X pins Z H s)(e:H a=some (.ins C dx fs))(c:Bv X.K C)(n:oX X.K C f)(l:fs.lookup f=some v)
  (h:∀u s',Inv X pins Z H s'->RelV v u->Q u s'):wpAny (model X.prog X.w) A (getAttr (.ref a) f b) Q E s:=by
 obtain⟨mA,O,r,_,_,_⟩:=xy I.bw e;obtain⟨u,hu,ru⟩:=kW.some_of (l▸r f);exact get_map I.k9 O (c.get f) c.hd n hu (QJ ru) (h u _ (I.tok _) ru)
def NY(I:Inv X pins Z H s)(e:H a=some (.ins C dx fs))(c:Bv X.K C)(k:Meth X.K C m g)(l:fs.lookup m=none)
  (h:Q (.ref g,[.ref a]) s):wpAny (model X.prog X.w) A (getMethod (.ref a) m pl) Q E s:=by
 obtain⟨mA,O,r,_,_,_⟩:=xy I.bw e;exact Tu I.k9 O (c.get m) k.at_ k.fn (kW.none_of (by rw[<-l];exact r m)) h
def MY(I:Inv X pins Z H s)(e:H a=some (.ins C dx fs))(c:Bv X.K C)(n:oX X.K C f)(hl:fs.length<1000)(ry:RelV y u)
  (h:∀s',Inv X pins Z (upd H a (.ins C dx (c8 f y fs))) s'->Q () s'):wpAny (model X.prog X.w) A (setAttr (.ref a) f u) Q E s:=by
 obtain⟨mA,O,r,wi,_,ho⟩:=xy I.bw e;refine Wg I.k9 O c.sa c.po n.abe c.hd wi (by rw[ak,bU];lia) λh' O' sb=>h _ ?_;refine I.write (e▸True.intro) (.inr ho) (λb q hb z=>(sb.2 b hb).trans z) (let⟨o,_,_,e',_⟩:=O'.ns;⟨o,e'⟩) ?_;refine{aH O.ne▸ho,?_,O.ne,O'.obj,_,O'.ns,λg=>?_,λg hg=>?_}
 ·have:=Ck f y fs;lia
 ·show kW ((c8 f y fs).lookup g) (if g=f then some u else mA g);rw[Ci];by_cases q:g=f
  ·rw[aA q,aA q];exact ry
  ·rw[ax q,ax q];exact r g
 ·by_cases q:g=f
  ·rw[q];exact(AA f y fs).1
  ·refine(AA f y fs).2 g (wi g λz=>hg ?_);show(if g=f then some u else mA g)=none;rw[ax q];exact z
def Inv.made(I:Inv X pins Z H s):Inv X pins Z (upd (upd H s.heap.objs.size (.own (s.heap.objs.size+1))) (s.heap.objs.size+1) (.ins C s.heap.objs.size []))
  {s with heap:=(s.heap.push emptyDict).push (instObj C s.heap.objs.size)}:=by
 have e1:(s.heap.push emptyDict).get? s.heap.objs.size=some emptyDict:=aB s.heap rfl;have e2:((s.heap.push emptyDict).push (instObj C s.heap.objs.size)).get? (s.heap.objs.size+1)=some (instObj C s.heap.objs.size):=by have:=aB (s.heap.push emptyDict) (o:=instObj C s.heap.objs.size) rfl;rwa [cy]at this
 have I1:=I.laid (o:=.own (s.heap.objs.size+1)) (t':=s.toks) (λb u q=>ah _ q) (ao _) ⟨_,e1⟩;refine I1.laid (λb u q=>ah _ q) (Bm (cy _ _)) ?_;have ne:s.heap.objs.size≠s.heap.objs.size+1:=aG (dw _);refine{by rw[aH ne,ar],aR _,ne,e2,λ_=>none,(Heap.Ns1.of_empty ({emptyDict,#[],_,e1,rfl,(λe he=>absurd he (by simp)),λ_=>rfl})).at λo q=>ah _ q,λ_=>True.intro,λy hy=>absurd rfl hy}
def Xw(hb:attributeBase e f env (eval e env)=eval e env)
  (h:wpAny (model prog w) A (eval e env) (λo aaa=>wpAny (model prog w) A (getAttr o f true) Q E aaa) E s):wpAny (model prog w) A (eval (.Attribute e f pos) env) Q E s:=
 Attribute_any_ h (by rw[arm_eval_Attribute,hb])
end
inductive abl(K:Frag)(f:Str)(Q:VK)(x:V)(H1:Hp):Prop
 |mk a C dx fs v (_:x=.ref a) (_:H1 a=some (.ins C dx fs)) (_:Bv K C) (_:oX K C f) (_:fs.lookup f=some v) (_:Q v H1)
def RQ(K:Frag)(ta:TE)(f:Str):TE:=λZ H Q=>ta Z H λx H1=>abl K f Q x H1
inductive abu(K:Frag)(f:Str)(D:Ends)(Z:St)(y:V)(x:V)(H2:Hp):Prop
 |mk a C dx fs (_:x=.ref a) (_:H2 a=some (.ins C dx fs)) (_:Bv K C) (_:oX K C f) (_:fs.length<1000) (_:D.nx Z (upd H2 a (.ins C dx (c8 f y fs))))
def acp(K:Frag)(ta tv:TE)(f:Str):TS:=λD Z H=>tv Z H λy H1=>ta Z H1 λx H2=>abu K f D Z y x H2
section
variable{X:Cx}{o e value:Expr}{f:Str}{pos pos':Pos}{ta tv:TE}
def lU(he:PE X e ta)(hb:attributeBase e f X.env (eval e X.env)=eval e X.env):PE X (.Attribute e f pos) (RQ X.K ta f):=by intro pins s Z H Q I h;refine Xw hb (cX (he pins s Z H _ I h) λu s1 x H1 I1 rx hz8=>?_);obtain⟨a,C,dx,fs,v,ex,ea,c,n,l,q⟩:=hz8;subst ex;obtain rfl:u=Value.ref a:=rx;exact NZ I1 ea c n l λu' s2 I2 ru=>⟨v,H1,I2,ru,q⟩
def xk(ha:PE X o ta)(hv:PE X value tv)(hs:swapsWith value (some (.Attribute o f pos')) pos.line X.env=pure false):PS X (.Assign [.Attribute o f pos'] value pos) (acp X.K ta tv f):=by intro pins s Z H D I h;refine plainObj_wpAny_Assign_Attribute (cX (hv pins s Z H _ I h) λu s1 y H1 I1 ry q=>cX (ha pins s1 Z H1 _ I1 q) λov s2 x H2 I2 rx Qe=>?_) hs;obtain⟨a,C,dx,fs,ex,ea,c,n,l,q2⟩:=Qe;subst ex;obtain rfl:ov=Value.ref a:=rx;exact MY I2 ea c n l ry λs3 I3=>⟨Z,_,I3,q2⟩
end
section
variable{X:Cx}{pins:Aaa}{Z:St}{H:Hp}{s:Shared}{A:Around}{E Q:Aac}{c:Value}{b:Bool}
inductive oF(K:Frag)(H:Hp):V->Value->Prop where
 |cb:oF K H .cb (.type "NoneType")
 |bl (x:Bool):oF K H (.bl x) (.type "bool")
 |int (i:Int):oF K H (.int i) (.type "int")
 |str (x:Str):oF K H (.str x) (.type "str")
 |GK (x:UInt64):oF K H (.GK x) (.type "float")
 |lst {a:Addr} {xs:Aam} (e:H a=some (.lst xs)):oF K H (.ref a) (.type "list")
 |fA {a:Addr} {o:Obj} {xs:Aam} (e:H a=some (.fA o (.lst xs))):oF K H (.ref a) (.type "list")
 |tup {a:Addr} {xs:Aam} (e:H a=some (.tup xs)):oF K H (.ref a) (.type "tuple")
 |dK {a:Addr} {kvs:List (Key×V)} (e:H a=some (.dK kvs)):oF K H (.ref a) (.type "dict")
 |dT {a:Addr} {kvs:List (List Key×V)} (e:H a=some (.dT kvs)):oF K H (.ref a) (.type "dict")
 |ins {a C dx:Addr} {fs:List (Str×V)} (e:H a=some (.ins C dx fs)) (cl:Bv K C) (ha:findIn K (.ref C) "__class__"=some (some (.builtin "object.__class__")))
   (hn:PySem.W.specialIn K (.builtin "object.__class__") "__get__"=some (some (.builtin "getset_descriptor.__get__"))) (L9:PySem.W.takesIn K (.builtin "object.__class__")=some true)
   (hm:PySem.W.mroIn K C (.type "object")=some true):oF K H (.ref a) (.ref C)
def P6(I:Inv X pins Z H s)(rx:RelV x u)(ty:oF X.K H x t)(e:kitOne X.K t c=some b)(h:∀tk,Q (.bool b) {s with toks:=tk}):
  wpAny (model X.prog X.w) A (call (.builtin "isinstance") [u,c]) Q E s:=by
 cases ty with
 |cb=>cases(show u=Value.none from rx);exact eY PySem.W.kitx_none I.k9 True.intro e (λz=>nomatch z) h
 |bl y=>cases(show u=Value.bool y from rx);exact eY PySem.W.kitx_bool I.k9 True.intro e (λz=>nomatch z) h
 |int i=>obtain⟨t,q⟩:=(show∃t,u=Value.int i t from rx);cases q;exact eY PySem.W.kitx_int I.k9 True.intro e (λz=>nomatch z) h
 |str y=>obtain⟨t,q⟩:=(show∃t,u=Value.str y t from rx);cases q;exact eY PySem.W.kitx_str I.k9 True.intro e (λz=>nomatch z) h
 |GK y=>obtain⟨t,q⟩:=(show∃t,u=Value.float y t from rx);cases q;exact eY PySem.W.kitx_float I.k9 True.intro e (λz=>nomatch z) h
 |@lst a xs ea=>
  cases(show u=Value.ref a from rx);obtain⟨_,_,n,_,h1⟩:=(show cI X.prog X.w H s.heap a (.lst xs)from I.bw a _ ea);exact eY BU I.k9 ⟨_,h1,rfl⟩ e (λz=>nomatch z) h
 |@fA a ob xs ea=>
  cases(show u=Value.ref a from rx);obtain⟨_,_,_,n,_,h1⟩:=(show cI X.prog X.w H s.heap a (.fA ob (.lst xs))from I.bw a _ ea);exact eY BU I.k9 ⟨_,h1,rfl⟩ e (λz=>nomatch z) h
 |@tup a xs ea=>
  cases(show u=Value.ref a from rx);obtain⟨_,_,_,p,_⟩:=(show cI X.prog X.w H s.heap a (.tup xs)from I.bw a _ ea);obtain⟨o,h1,h2,_⟩:=p;exact eY PySem.W.kitx_tuple I.k9 ⟨o,h1,h2⟩ e (λz=>nomatch z) h
 |@dK a kvs ea=>
  cases(show u=Value.ref a from rx);obtain⟨_,_,vs,_,p⟩:=(show cI X.prog X.w H s.heap a (.dK kvs)from I.bw a _ ea);obtain⟨o,es,ep,h1,h2,_⟩:=p;exact eY BV I.k9 {o,h1,h2.1} e (λz=>nomatch z) h
 |@dT a kvs ea=>
  cases(show u=Value.ref a from rx);obtain⟨_,_,xs,_,o,es,ep,h1,h2,_⟩:=(show cI X.prog X.w H s.heap a (.dT kvs)from I.bw a _ ea);exact eY BV I.k9 {o,h1,h2.1} e (λz=>nomatch z) h
 |@ins a C dx fs ea cl ha hn L9 hm=>
  cases(show u=Value.ref a from rx);obtain⟨mA,O,_⟩:=xy I.bw ea;obtain⟨od,J,_⟩:=O.look;exact eY (PySem.W.kitx_own (cl.get _) cl.hd ha hn L9 hm) I.k9 J e (λz=>nomatch z) h
end
structure gx(k:Nat)(A:Around):Prop where
 hd:A.handled=none
 dp:A.depth+3*k+5<recursionLimit
 un:A.units+16*k+200<cLine
def gx.mono(r:gx k A)(h:j<=k):gx j A:={r.hd,by have:=r.dp;lia,by have:=r.un;lia}
def gx.deeper(r:gx (k+1) A)(env:Env):gx k (A.deeper env):=
 {r.hd,by have:=r.dp;show A.depth+1+3*k+5<_;lia,by have:=r.un;show A.units+3+16*k+200<_;lia}
def Nu{A:Around}:(A.under (.builtin "type.__call__" {.ref C::us,kw})).depth=A.depth+1:=by
 first|rfl|simp[Around.under,Code.weight,Code.isCreation,Code.isGuard,Code.isCaller,Code.frames,Code.isFrame,guardIds]
def Nt{A:Around}:(A.under (.builtin "type.__call__" {.ref C::us,kw})).units=A.units+1:=by
 first|rfl|simp[Around.under,Code.cUnits,Code.frames,Code.isFrame]
def gx.make(r:gx (k+1) A)(C:Addr)(us:Aae)(kw:List (Str×Value)):gx k (A.under (.builtin "type.__call__" {.ref C::us,kw})):=
 {r.hd,by have:=r.dp;rw[Nu];lia,by have:=r.un;rw[Nt];lia}
def gx.depth(r:gx k A):A.depth<recursionLimit:=by have:=r.dp;lia
def gx.units(r:gx k A):A.units+64<cLine:=by have:=r.un;lia
def gx.Ox(r:gx k A):A.units<cLine:=by have:=r.un;lia
def MS:TA:=λ_ H Q=>Q [] H
def xY(ta:TE)(tr:TA):TA:=λZ H Q=>ta Z H λx H1=>tr Z H1 λxs H2=>Q (x::xs) H2
section
variable{X:Cx}{e:Expr}{es:List Expr}{te:TE}{t:TA}{pos:Pos}
def gZ:PA X [] MS:=λ_ _ _ _ H Q I h=>kK {[],H,I,.nil,h}
def jc(ha:PE X e te)(hr:PA X es t)(hs:starEach (e::es) X.env=(false,eval e X.env)::starEach es X.env:=by rfl):PA X (e::es) (xY te t):=by intro pos pins s Z H Q I h;rw[hs];exact fU (cX (ha pins s Z H _ I h) λu s1 x H1 I1 r1 q1=>pR (hr pos pins s1 Z H1 _ I1 q1) λus s2 xs H2 I2 r2 q2=>{x::xs,H2,I2,.cons r1 r2,q2})
def b5{X:Cx}{e:Expr}{te:TE}(ha:PE X e te)(hs:starEach [e] X.env=(false,eval e X.env)::starEach [] X.env:=by rfl):PA X [e] (xY te MS):=jc ha gZ hs
def cD{X:Cx}{e f:Expr}{te tf:TE}(ha:PE X e te)(hb:PE X f tf)(hs:starEach [e,f] X.env=(false,eval e X.env)::starEach [f] X.env:=by rfl)(ht:starEach [f] X.env=(false,eval f X.env)::starEach [] X.env:=by rfl):PA X [e,f] (xY te (xY tf MS)):=jc ha (b5 hb ht) hs
def uI{X:Cx}{e f g:Expr}{te tf tg:TE}(ha:PE X e te)(hb:PE X f tf)(hc:PE X g tg)(hs:starEach [e,f,g] X.env=(false,eval e X.env)::starEach [f,g] X.env:=by rfl)(ht:starEach [f,g] X.env=(false,eval f X.env)::starEach [g] X.env:=by rfl)(hu:starEach [g] X.env=(false,eval g X.env)::starEach [] X.env:=by rfl):PA X [e,f,g] (xY te (xY tf (xY tg MS))):=jc ha (cD hb hc ht hu) hs
def acb(t:TA):TE:=λZ H Q=>t Z H λxs H1=>xs.length<=sizeLine/\∀p,H1 p=none->Q (.ref p) (upd H1 p (.tup xs))
def acg(t:TA):TE:=λZ H Q=>t Z H λxs H1=>xs.length<=sizeLine/\∀p,H1 p=none->Q (.ref p) (upd H1 p (.lst xs))
def dX{x1}(h:PA X es t):PE X (.Tuple es x1 pos) (acb t):=by intro pins s Z H Q I hq;refine wpAny_Tuple_spliced (pR (h pos pins s Z H _ I hq) λus s1 xs H1 I1 r ⟨z,q⟩=>{r.length▸z,?_});refine{.ref s1.heap.objs.size,upd H1 s1.heap.objs.size (.tup xs),I1.laid (λb u e=>ah _ e) (ao _) ?_,rfl,q _ (I1.bw.fresh (ao _))};exact{z,us,r,{_,aB _ rfl,rfl,_,rfl},_,aB _ rfl,rfl}
def fq(h:PA X es t):PE X (.List es pos) (acg t):=by intro pins s Z H Q I hq;refine wpAny_List_spliced (pR (h pos pins s Z H _ I hq) λus s1 xs H1 I1 r ⟨z,q⟩=>{r.length▸z,?_});refine{.ref s1.heap.objs.size,upd H1 s1.heap.objs.size (.lst xs),I1.laid (λb u e=>ah _ e) (ao _) ?_,rfl,q _ (I1.bw.fresh (ao _))};exact{z,us,0,r,aB _ rfl}
abbrev Sp:=Aam->Hp->VK->XK->Prop
abbrev Kw:=List Env->Hp->Shared->XK->Aac
structure FU(P:Program)(w:World)(K:Frag)(mg:Aab)(base:Heap)(A:Around)(outer:List Env)(s:Shared)(H:Hp):Prop where
 frames:A.frames=some outer
 mod:Mod K mg base
 bs:∀b o,base.get? b=some o->s.heap.get? b=some o/\H b=none
 CD:base.objs.size<=s.heap.objs.size
 rA:s.heap.FunFrames base outer
 GJ:∀b∈AS outer,H b=none
 bw:jI P w H s.heap
 bare:AllBare s.gens
def CE(outer:List Env)(P:Program)(w:World)(H:Hp)(s:Shared)(Q:VK)(u:Value)(s':Shared):Prop:=
 ∃v H',s'.os=s.os/\AllBare s'.gens/\Un (AS outer) [] H H' s.heap s'.heap/\jI P w H' s'.heap/\RelV v u/\Q v H'
end
def CR(CX:Kw)(outer:List Env)(P:Program)(w:World)(H:Hp)(s:Shared)(Q:VK)(E:XK)(r:Result)(s':Shared):Prop:=
 match r with
 | .ok (.ret u)=>CE outer P w H s Q u s'
 | .ok _=>False
 | .error e=>CX outer H s E e s'
structure cU(P:Program)(w:World)(K:Frag)(mg:Aab)(base:Heap)(CX:Kw)(k:Nat)(f:Addr)(fd:FuncData)(ps:Aaf)(sp:Sp):Prop where
 len:∀vs H Q E,sp vs H Q E->vs.length=ps.length
 run:∀(A:Around)(outer:List Env)(s:Shared)(H:Hp)(args:Args)(us:Aae)(vs:Aam)(Q:VK)(E:XK),gx k A->FU P w K mg base A outer s H->BindsTo s fd args (ps.zip us)->Vals vs us->sp vs H Q E->
  codeAny (model P w) A (.call (.ref f) args) (CR CX outer P w H s Q E) s
def FU.make{K:Frag}(e:FU P w K mg base A outer s H)(C:Addr)(us:Aae)(kw:List (Str×Value)):
  FU P w K mg base (A.under (.builtin "type.__call__" {.ref C::us,kw})) outer s H:={by first|exact e.frames|(simpa[Around.under,Code.envs,Code.isFrame,pushEnvs]using e.frames),e.mod,e.bs,e.CD,e.rA,e.GJ,e.bw,e.bare}
section
variable{X:Cx}{pins:Aaa}{Z:St}{H:Hp}{s s':Shared}
def Inv.env0(I:Inv X pins Z H s):FU X.prog X.w X.K X.mg X.base X.A X.stack s H:=
 {I.ok.frames,I.ok.mod,I.bs,aL I.ok.CD I.sz,I.stack,I.Ls,I.bw,I.bare}
def Inv.after(I:Inv X pins Z H s)(h:CE X.stack X.prog X.w H s Q u s'):EP X pins Z Q u s':=by obtain⟨v,H',os,bare,un,bw,r,q⟩:=h;obtain⟨hh,g,d,t,UE⟩:=s';obtain rfl:UE=s.os:=os;exact{v,H',I.call un bw bare (λb z=>absurd z (by simp)),r,q}
end
def Ut(sp:Sp)(pM:Aam)(E:XK)(t:TA):TE:=λZ H Q=>t Z H λvs H1=>sp (vs++pM) H1 Q E
inductive Yl(C:Addr)(m:Str)(sp:Sp)(pM:Aam)(E:XK)(t:TA)(Z:St)(Q:VK)(x:V)(H1:Hp):Prop
 |mk a dx fs (_:x=.ref a) (_:H1 a=some (.ins C dx fs)) (_:fs.lookup m=none) (_:t Z H1 λvs H2=>sp (x::(vs++pM)) H2 Q E)
def Ur(C:Addr)(m:Str)(sp:Sp)(pM:Aam)(E:XK)(ta:TE)(t:TA):TE:=λZ H Q=>ta Z H λx H1=>Yl C m sp pM E t Z Q x H1
def Us(C:Addr)(sp:Sp)(pM:Aam)(E:XK)(t:TA):TE:=λZ H Q=>t Z H λvs H1=>∀x dx,H1 x=none->H1 dx=none->dx≠x->
 sp (.ref x::(vs++pM)) (upd (upd H1 dx (.own x)) x (.ins C dx [])) (λv H2=>v=.cb/\Q (.ref x) H2) E
def Binds(K:Frag)(fd:FuncData)(ps:Aaf)(ds:Aae):Prop:=
 ∀(s:Shared)(us:Aae),K.In s.heap->(us++ds).length=ps.length->BindsTo s fd {us,[]} (ps.zip (us++ds))
def Binds.all{K:Frag}(h:∀us:Aae,us.length=ps.length->bindArgs fd {us,[]}=pure (ps.zip us)):Binds K fd ps []:=λs us _ hl=>by rw[cJ]at hl⊢;exact .of_eq (h us hl)
def Passes(CX:Kw)(X:Cx)(E:XK):Prop:=∀(pins:Aaa)(Z:St)(H:Hp)(s:Shared)(e:Value)(s':Shared),Inv X pins Z H s->CX X.stack H s E e s'->X.xe e s'
section
variable{X:Cx}{CX:Kw}{k:Nat}{f C:Addr}{fd:FuncData}{ps:Aaf}{sp:Sp}{pM:Aam}{ds:Aae}{E:XK}{x m:Str}{p pos apos:Pos}{e o:Expr}{es:List Expr}{ta:TE}{t:TA}
def OW(F:cU X.prog X.w X.K X.mg X.base CX k f fd ps sp)(hr:gx k X.A)(hb:Binds X.K fd ps ds)(hd:Vals pM ds)(hx:Passes CX X E)
  (I:Inv X pins Z H s) (r:Vals vs us) (h:sp (vs++pM) H Q E):wpAny (model X.prog X.w) X.A (call (.ref f) us) (EP X pins Z Q) X.xe s:=by
 have r2:=r.append hd;refine DP (kU (F.run X.A X.stack s H {us,[]} (us++ds) (vs++pM) Q E hr I.env0 (hb s us I.k9 (by rw[<-r2.length];exact F.len _ _ _ _ h)) r2 h) λr s' hq=>?_);cases r with
 |error e=>exact hx pins Z H s e s' I hq
 |ok fl=>
  cases fl with
  |ret u=>exact I.after hq
  |next=>exact False.elim hq
  |brk=>exact False.elim hq
  |cont=>exact False.elim hq
def WJ(F:cU X.prog X.w X.K X.mg X.base CX k f fd ps sp)(hr:gx k X.A)(hg:Gl X x)(hm:X.mg x=some (.ref f))(hk:keepIn X.K (.ref f)=true)(hb:Binds X.K fd ps ds)(hd:Vals pM ds)(hx:Passes CX X E)
  (ha:PA X (e::es) t) (AM:(x==("__debug__":Str))=false:=by decide) (he:starEach (e::es) X.env=(false,eval e X.env)::starEach es X.env:=by rfl) (nh:(backTo pos (starEach es X.env)).any (·.1)=false:=by rfl):
  PE X (.Call (.Name x p) (e::es) [] pos) (Ut sp pM E t):=by
 intro pins s Z H Q I h;refine mW (Ft I hg hm ?_ AM);exact sE I.ok.mod.PX hk (pR (ha pos pins s Z H _ I h) λus s1 vs H1 I1 r q=>{I1.k9,OW F hr hb hd hx I1 r q}) he nh
def WG(he:PE X o ta)(c:Bv X.K C)(hm:Meth X.K C m f)(F:cU X.prog X.w X.K X.mg X.base CX k f fd ps sp)(hr:gx k X.A)(hb:Binds X.K fd ps ds)(hd:Vals pM ds)(hx:Passes CX X E)(ha:PA X (e::es) t)
  (g7:starEach (e::es) X.env=(false,eval e X.env)::starEach es X.env:=by rfl) (nh:(backTo pos (starEach es X.env)).any (·.1)=false:=by rfl)
  (ht:eval (.Call (.Attribute o m apos) (e::es) [] pos) X.env=(do
   let ov<-eval o X.env
   standAt apos.atName
   let(f,first)<-holding [ov] (getMethod ov m pl)
   callWith pos f first (backTo pos (starEach (e::es) X.env)) (backToKw pos (keywordEach [] X.env))):=by rfl):
  PE X (.Call (.Attribute o m apos) (e::es) [] pos) (Ur C m sp pM E ta t):=by
 intro pins s Z H Q I h;refine PySem.W.methodCall_KW (cX (he pins s Z H _ I h) λu s1 x H1 I1 rx NB=>?_) ht;obtain⟨a,dx,fs,ex,ea,l,q⟩:=NB;subst ex;obtain rfl:u=Value.ref a:=rx;refine NY I1 ea c hm l ?_;refine sE I.ok.mod.PX hm.kp (pR (ha pos pins s1 Z H1 _ I1 q) λus s2 vs H2 I2 r q2=>{I2.k9,?_}) g7 nh;exact OW (vs:=.ref a::vs) F hr hb hd hx I2 (.cons rfl r) q2
structure Mk(K:Frag)(C f:Addr):Prop where
 makes:PySem.W.makesIn K C=true
 init:findIn K (.ref C) "__init__"=some (some (.ref f))
 fn:isFn K (.ref f)=true
 kp:keepIn K (.ref C)=true
def R3(M:Mk X.K C f)(F:cU X.prog X.w X.K X.mg X.base CX k f fd ps sp)(hr:gx (k+1) X.A)(hb:Binds X.K fd ps ds)(hd:Vals pM ds)
  (hx:Passes CX X E) (I:Inv X pins Z H s) (r:Vals vs us)
  (h:∀x dx,H x=none->H dx=none->dx≠x->sp (.ref x::(vs++pM)) (upd (upd H dx (.own x)) x (.ins C dx [])) (λv H2=>v=.cb/\Q (.ref x) H2) E):
  wpAny (model X.prog X.w) X.A (call (.ref C) us) (EP X pins Z Q) X.xe s:=by
 have hq:=h (s.heap.objs.size+1) s.heap.objs.size (I.bw.fresh (iM _)) (I.bw.fresh (ao _)) (aG (dw _));have I2:=Inv.made (C:=C) I;have r2:Vals (V.ref (s.heap.objs.size+1)::(vs++pM)) (Value.ref (s.heap.objs.size+1)::(us++ds)):=.cons rfl (r.append hd);have hl:(Value.ref (s.heap.objs.size+1)::us++ds).length=ps.length:=by have e:=r2.length;rw[F.len _ _ _ _ hq]at e;exact e.symm
 refine DP (SJ I.k9 M.makes M.init (nY.mp M.fn) (kU (F.run _ X.stack _ _ {Value.ref (s.heap.objs.size+1)::us,[]} (Value.ref (s.heap.objs.size+1)::(us++ds)) _ _ E (hr.make C us [])
  (I2.env0.make C us []) (hb _ (Value.ref (s.heap.objs.size+1)::us) I2.k9 hl) r2 hq) λr s' Eu=>?_))
 cases r with
 |error e=>exact hx pins Z _ _ e s' I2 Eu
 |ok fl=>
  cases fl with
  |ret u=>
   obtain⟨v,H',I3,rv,ev,q3⟩:=I2.after Eu;subst ev;exact{rv,{V.ref (s.heap.objs.size+1),H',I3,rfl,q3}}
  |next=>exact False.elim Eu
  |brk=>exact False.elim Eu
  |cont=>exact False.elim Eu
def WH(M:Mk X.K C f)(F:cU X.prog X.w X.K X.mg X.base CX k f fd ps sp)(hr:gx (k+1) X.A)(hg:Gl X x)(hm:X.mg x=some (.ref C))(hb:Binds X.K fd ps ds)(hd:Vals pM ds)(hx:Passes CX X E)
  (ha:PA X (e::es) t) (AM:(x==("__debug__":Str))=false:=by decide) (he:starEach (e::es) X.env=(false,eval e X.env)::starEach es X.env:=by rfl) (nh:(backTo pos (starEach es X.env)).any (·.1)=false:=by rfl):
  PE X (.Call (.Name x p) (e::es) [] pos) (Us C sp pM E t):=by
 intro pins s Z H Q I h;refine mW (Ft I hg hm ?_ AM);exact sE I.ok.mod.PX M.kp (pR (ha pos pins s Z H _ I h) λus s1 vs H1 I1 r q=>{I1.k9,R3 M F hr hb hd hx I1 r q}) he nh
variable{ks:Aaf}
structure ad4(K:Frag)(fd:FuncData)(ps ks:Aaf)(g:Aae->Aae->Aae)(gV:Aam->Aam->Aam):Prop where
 to:∀(s:Shared)(us ws:Aae),K.In s.heap->(g us ws).length=ps.length->BindsTo s fd {us,ks.zip ws} (ps.zip (g us ws))
 rel:∀{vs:Aam}{us:Aae}{zs:Aam}{ws:Aae},Vals vs us->Vals zs ws->Vals (gV vs zs) (g us ws)
end
structure cv(N P:Aaf)(sc:Scope):Prop where
 kind:sc.kind=.function
 co:sc.isCoroutine=false
 gen:sc.isGenerator=false
 nd:N.Nodup
 pre:N.take P.length=P
 par:∀x∈P,sc.names.lookup x=some .local\/sc.names.lookup x=some .cell
 Y9:∀y∈sc.names,y.2≠ .free
def iO{N P:Aaf}{sc:Scope}(h:sc.kind=.function/\sc.isCoroutine=false/\sc.isGenerator=false/\N.Nodup/\N.take P.length=P/\(∀x∈P,sc.names.lookup x=some .local\/sc.names.lookup x=some .cell)/\∀y∈sc.names,y.2≠ .free):cv N P sc:={h.1,h.2.1,h.2.2.1,h.2.2.2.1,h.2.2.2.2.1,h.2.2.2.2.2.1,h.2.2.2.2.2.2}
def iZ{X:Cx}{x:Str}{pos:Pos}{ps:Aaf}{sc:Scope}(i:Nat)(S:cv X.N ps sc)(hi:X.N[i]?=some x:=by rfl)(hx:X.env.scope.names.lookup x=some .local:=by rfl):PG X (.Name x pos) (uc i):=mh S.nd hi (Or.inl hx) (Or.inr hx)
def d8{X:Cx}{x:Str}{pos pos':Pos}{e:Expr}{te:TE}{ps:Aaf}{sc:Scope}(i:Nat)(S:cv X.N ps sc)(he:PE X e te)(hi:X.N[i]?=some x:=by rfl)(hx:X.env.scope.names.lookup x=some .local:=by rfl)(hs:swapsWith e (some (.Name x pos')) pos.line X.env=pure false:=by rfl):PS X (.Assign [.Name x pos'] e pos) (RS te (uc i)):=pX S.nd hi (Or.inl hx) he hs (Or.inr hx)
theorem GX{kindOf:Str->Option NameKind}:∀{binds:List (Str×Value)}{m:Aab},(∀v,(x,v)∉binds)->bindL kindOf binds m x=m x
 |[],_,_=>rfl
 |(n,v)::r,m,h=>by
  unfold bindL;rw[GX λw hw=>h w (az _ hw)];split
  ·have:x≠n:=by rintro rfl;exact h v ay
   simp[this]
  ·rfl
theorem GZ{kindOf:Str->Option NameKind}:∀{binds:List (Str×Value)}{m:Aab},(∀v,(x,v)∉binds)->bindC kindOf binds m x=m x
 |[],_,_=>rfl
 |(n,v)::r,m,h=>by
  unfold bindC;rw[GZ λw hw=>h w (az _ hw)];split
  ·rfl
  ·have:x≠n:=by rintro rfl;exact h v ay
   simp[this]
theorem GY{kindOf:Str->Option NameKind}:∀{P:Aaf}{vs:Aae}{i:Nat}{m:Aab},P.Nodup->P[i]?=some x->vs[i]?=some v->kindOf x=some .local->
  bindL kindOf (P.zip vs) m x=some v
 |[],_,_,_,_,h,_,_=>by simp at h
 |_::_,[],_,_,_,_,h,_=>by simp at h
 |p::P,w::vs,0,m,nd,h1,h2,hk=>by simp at h1 h2;subst h1;subst h2;show bindL kindOf ((p,w)::P.zip vs) m p=_;unfold bindL;rw[GX λv hv=>(cP.mp nd).1 (wk hv).1,aA hk];simp
 |p::P,w::vs,i+1,m,nd,h1,h2,hk=>by unfold bindL;exact GY (cP.mp nd).2 (by simpa using h1) (by simpa using h2) hk
theorem G0{kindOf:Str->Option NameKind}:∀{P:Aaf}{vs:Aae}{i:Nat}{m:Aab},P.Nodup->P[i]?=some x->vs[i]?=some v->kindOf x≠some .local->
  bindC kindOf (P.zip vs) m x=some v
 |[],_,_,_,_,h,_,_=>by simp at h
 |_::_,[],_,_,_,_,h,_=>by simp at h
 |p::P,w::vs,0,m,nd,h1,h2,hk=>by simp at h1 h2;subst h1;subst h2;show bindC kindOf ((p,w)::P.zip vs) m p=_;unfold bindC;rw[GZ λv hv=>(cP.mp nd).1 (wk hv).1,ax hk];simp
 |p::P,w::vs,i+1,m,nd,h1,h2,hk=>by unfold bindC;exact G0 (cP.mp nd).2 (by simpa using h1) (by simpa using h2) hk
def start(N:Aaf)(vs:Aam):St:=vs.map some++List.replicate (N.length -vs.length) none
noncomputable def FD(CX:Kw)(P:Program)(w:World)(K:Frag)(mg:Aab)(base:Heap)(N:Aaf)(qual:Str)(scope:Scope)(f:Addr)(cd:Value)(A:Around)(outer:List Env)(s:Shared)(H:Hp)(E:XK):Cx where
 prog:=P
 w:=w
 K:=K
 mg:=mg
 base:=base
 A:=A.deeper (envOfC qual scope s.heap.objs.size f cd)
 N:=N
 aab:=s
 aaf:=H
 env:=envOfC qual scope s.heap.objs.size f cd
 outer:=outer
 stack:=envOfC qual scope s.heap.objs.size f cd::outer
 ex:=[]
 calm:=true
 fn:=λ_=>true
 pn:=[]
 xe:=λe s'=>wpAny (model P w) (A.deeper (envOfC qual scope s.heap.objs.size f cd)) (leaving (envOfC qual scope s.heap.objs.size f cd) e) (λ_ YF=>CX outer H s E e YF) (λe' YF=>CX outer H s E e' YF) s'
def Kc{sc:Scope}(h:sc.names.lookup x=some .cell):∃c,(cellsFrom n sc.names []).lookup x=some c:=by exact jP.mp (wN sc.names n [] (.inl h))
def P9{K:Frag}
  (S:cv N ps scope) (hd:A.handled=none) (e0:FU P w K mg base A outer s H) (hl:vs.length=ps.length) (r:Vals vs us)
  (x:InCallC s s.heap.objs.size (bindL (envOfC qual scope s.heap.objs.size f cd).kindOf (ps.zip us) λ_=>none) (cellsFrom (s.heap.objs.size+1) scope.names []) (bindC (envOfC qual scope s.heap.objs.size f cd).kindOf (ps.zip us) λ_=>none) s1):
  Inv (FD CX P w K mg base N qual scope f cd A outer s H E) [] (start N vs) H s1:=by
 have nh:ps.length<=N.length:=by have:=cc List.length S.pre;rw[aU]at this;lia
 obtain⟨h1,tk,rfl,hk⟩:=x.done;have Pr:∀b:Addr,b∉(FD CX P w K mg base N qual scope f cd A outer s H E).ex:=λb z=>absurd (show b∈([]:Aah)from z) (by simp);refine{{e0.mod,S.kind,rfl,rfl,ao _,λy z c h1 h2=>?_,λy hy=>?_,λy c _ h=>?_,λ_=>hd,Around.frames_deeper e0.frames,.inr ⟨rfl,rfl⟩,λb z=>absurd z (Pr b),e0.bs,e0.CD,λb _ _=>Pr b,λb z=>absurd z (Pr b),e0.rA,e0.GJ},
  rfl,e0.bare,Un.kept hk,{_,x.toInCall.ns,λi y v h1 h2 h3=>?_},λy c h=>{_,x.cell y c h},e0.bw.fresh (ao _),λy c h=>?_,λp hp=>absurd (show p∈([]:Aaa)from hp) (by simp),e0.bw.kept hk,?_}
 ·exact name_of_addr x.apart (jZ h1) (jZ h2)
 ·have hy:=hy;rcases hy with hy|hy
  ·exact Kc hy
  ·exact absurd rfl (S.Y9 _ (jZ hy))
 ·exact bI (x.above y c (jZ h))
 ·have hi:i<vs.length:=by
   unfold start at h2;by_cases hi:i<vs.length
   ·exact hi
   ·rw[fC (by simpa using hi)]at h2;rw[vG]at h2;split at h2<;>cases h2
  have ha:vs[i]?=some v:=by
   unfold start at h2;rw[gP (by simpa using hi),aI]at h2;cases e:vs[i]? with
   |none=>rw[e]at h2;cases h2
   |some a=>rw[e]at h2;cases h2;rfl
  obtain⟨u,hu,rv⟩:=r.get ha;have hp:ps[i]?=some y:=by rw[<-S.pre,vy ∅];exact h1
  have ndP:ps.Nodup:=by rw[<-S.pre];exact S.nd.sublist (BW _ _)
  refine{u,rv,?_};rcases S.par y (aE hp)with k|k
  ·exact .inl {k,GY ndP hp hu k}
  ·obtain⟨c,e⟩:=Kc k;refine .inr {.inl k,c,e,?_};have q:=x.cell y c e;rw[G0 ndP hp hu (by show scope.names.lookup y≠_;rw[k];decide)]at q;exact q
 ·exact e0.bw.fresh (bI (x.above y c (jZ h)))
 ·unfold start;show _=N.length;rw[aM,ak,gM];lia
def abX{K:Frag}{dV kV doc pm c6 ct oc:Value}
     (lk:K.lookup f=some {oc,od,.func (fnOf name qual params body scope dV kV doc pm an c6 ct),An}) (AN:codeIn K c6 qual=true) (S:cv N ps scope)
  (len:∀vs H Q E,sp vs H Q E->vs.length=ps.length)
  (NT:∀(A:Around)(outer:List Env)(s:Shared)(H:Hp)(vs:Aam)(Q:VK)(E:XK),gx k (A.deeper (envOfC qual scope s.heap.objs.size f c6))->sp vs H Q E->
   ∃t,nK (FD CX P w K mg base N qual scope f c6 A outer s H E) body t/\t {nx:=λ_ H'=>Q .cb H',rt:=Q} (start N vs) H):
  cU P w K mg base CX (k+1) f (fnOf name qual params body scope dV kV doc pm an c6 ct) ps sp:=by
 refine{len,λA outer s H args us vs Q E hr e0 hb r GF=>?_};have hl:=len _ _ _ _ GF;have KX:=e0.mod.PX.keeps λb o e=>(e0.bs b o e).1;have abR:∀y∈ps.zip us,scope.names.lookup y.1=some .local\/(scope.names.lookup y.1=some .cell/\((cellsFrom (s.heap.objs.size+1) scope.names []).lookup y.1).isSome=true):=λ⟨n,v⟩ hy=>by
  rcases S.par n (wk hy).1 with q|q
  ·exact .inl q
  ·exact .inr {q,wN _ _ _ (.inl q)}
 refine codeAny_call_function hr.depth (KX _ _ lk) rfl S.co S.gen rfl (PySem.W.codeRec_of KX AN) (hb _ _ _ _ ?_);refine wpAny_newFunctionEnv_cells S.kind abR λenv he s1 x=>?_;subst he;refine{(e0.mod.nolimit.keeps λb o e=>(e0.bs b o e).1).keeps x.toInCall.keep,codeAny_func ?_};obtain⟨t,ht,hq⟩:=NT A outer s H vs Q E (hr.deeper _) GF;refine df (ht [] s1 (start N vs) H _ (P9 S hr.hd e0 hl r x) hq) (λfl s' hs=>?_) λe s' hs=>hs;have fin:∀{σ':St}{H':Hp}{v:V}{u:Value},Inv (FD CX P w K mg base N qual scope f c6 A outer s H E) [] σ' H' s'->RelV v u->Q v H'->CE outer P w H s Q u s':=
  λ{σ' H' v u} J rv q=>{v,H',J.os,J.bare,J.base,J.bw,rv,q}
 cases fl with
 |ret u=>
  obtain⟨v,σ',H',J,rv,q⟩:=hs;exact fin J rv q
 |next=>
  obtain⟨σ',H',J,q⟩:=hs;exact fin (v:=V.cb) J rfl q
 |brk=>
  obtain⟨_,_,_,q⟩:=hs;exact False.elim q
 |cont=>
  obtain⟨_,_,_,q⟩:=hs;exact False.elim q
section
variable{X:Cx}{x:Str}{p pos:Pos}{e:Expr}{es:List Expr}{t:TA}{id T:String}{r:Aam->Hp->VK->Prop}
def tCB(r:Aam->Hp->VK->Prop)(t:TA):TE:=λZ H Q=>t Z H λvs H1=>r vs H1 Q
def bP(hc:gA X (.builtin id) r)(hg:Gl X x)(hm:X.mg x=none)(hv:bootBuiltins x=some (.builtin id))(ha:PA X (e::es) t)(hn:x≠"__name__":=by decide)(AM:(x==("__debug__":Str))=false:=by decide)
  (he:starEach (e::es) X.env=(false,eval e X.env)::starEach es X.env:=by rfl) (nh:(backTo pos (starEach es X.env)).any (·.1)=false:=by rfl):PE X (.Call (.Name x p) (e::es) [] pos) (tCB r t):=by
 intro pins s Z H Q I h;exact mW (qd I hg hm hv (PyProof.Rows.callWith_builtin1 (pR (ha pos pins s Z H _ I h) λus s1 vs H1 I1 r1 q1=>hc pins s1 Z H1 vs us Q I1 r1 q1) he nh) hn AM)
def da(hc:gA X (.type T) r)(hg:Gl X x)(hm:X.mg x=none)(hv:bootBuiltins x=some (.type T))(ha:PA X (e::es) t)(hn:x≠"__name__":=by decide)(AM:(x==("__debug__":Str))=false:=by decide)
  (he:starEach (e::es) X.env=(false,eval e X.env)::starEach es X.env:=by rfl) (nh:(backTo pos (starEach es X.env)).any (·.1)=false:=by rfl):PE X (.Call (.Name x p) (e::es) [] pos) (tCB r t):=by
 intro pins s Z H Q I h;exact mW (qd I hg hm hv (dP (pR (ha pos pins s Z H _ I h) λus s1 vs H1 I1 r1 q1=>hc pins s1 Z H1 vs us Q I1 r1 q1) he nh) hn AM)
end
end L2
namespace HT
open PySem PyProof.Rows
section
open PySem.SeqAt
open PySem.AutoSeq1 (wpAny_loadPart')
open PySem.MeetsSeq PySem.MeetsSeq2 PySem.MeetsSeq3
end
section
variable{prog:Program}{w:World}{A:Around}{E:Aac}{s:Shared}
def Xu(ht:IsTup s.heap t vs.toArray)(hb:IsTup s.heap b ws.toArray)(hv:vs≠[])
  (h1:ws=[]->Q (.ref t) s) (h2:ws≠[]->Q (.ref s.heap.objs.size) {s with heap:=s.heap.push {cls:=.type "tuple",data:=.seq (vs++ws).toArray}})
  (hsz:vs.length+ws.length<=sizeLine):wpAny (model prog w) A (binaryOp .Add (.ref t) (.ref b)) Q E s:=by
 obtain⟨⟨cls,dd,data,sl⟩,ho,hc,n,hd⟩:=id ht;obtain⟨⟨adR,Mx,data2,Uy⟩,xD,xG,n2,hd2⟩:=id hb;simp only at hc hd xG hd2;subst hc hd xG hd2;have e:vs.toArray++ws.toArray=(vs++ws).toArray:=by simp
 by_cases hw:ws=[]
 ·exact A2 ⟨_,ho,rfl⟩ ⟨_,xD,rfl⟩ uK y9 oV oy (nF _ _)
   (tuple_addW1 t b vs.toArray ws.toArray n n2 dd Mx sl Uy (by simpa using hv) (by simp[hw])) {ho,xD,h1 hw}
 ·refine A2 ⟨_,ho,rfl⟩ ⟨_,xD,rfl⟩ uK y9 oV oy (nF _ _)
   (tuple_addW2 t b vs.toArray ws.toArray n n2 dd Mx sl Uy (by simpa using hv) (by simpa using hw) (by rw[aO,aO];exact hsz)) {ho,xD,?_}
  rw[e];exact h2 hw
def dN(n d:Nat):Option Int->Nat
 |none=>d
 |some v=>if v<0 then(v+(n:Int)).toNat else min v.toNat n
def RZ(n d:Nat):dN n d none=d:=rfl
def Fh(n d k:Nat):dN n d (some (k:Int))=min k n:=by show(if(k:Int)<0 then((k:Int)+(n:Int)).toNat else min (k:Int).toNat n)=min k n;rw[ax ∅,cA]
def MA(v:Int)(n d:Nat):(if v<0 then max (v+(n:Int)) 0 else min v (n:Int))=((dN n d (some v):Nat):Int):=by
 show(if v<0 then max (v+(n:Int)) 0 else min v (n:Int))=(((if v<0 then(v+(n:Int)).toNat else min v.toNat n):Nat):Int);by_cases hv:v<0
 ·simp only[aA hv];lia
 ·simp only[ax hv];lia
def Oj(lo hi:Option Int)(n:Nat):Builtin.Slice.sliceAdjust lo hi 1 (n:Int)=(((dN n 0 lo:Nat):Int),((dN n n hi:Nat):Int)):=by
 have h1:¬((1:Int)<0):=by lia
 unfold Builtin.Slice.sliceAdjust;refine DJ ?_ ?_
 ·cases lo with
  |none=>rfl
  |some v=>exact MA v n 0
 ·cases hi with
  |none=>rfl
  |some v=>exact MA v n n
def M8(i j:Nat):Builtin.Slice.slicePlaces (i:Int) (j:Int) 1=j -i:=by
 unfold Builtin.Slice.slicePlaces;have h1:(1:Int)>0:=by lia
 split<;>lia
def DY{v:Value}{o:Option Int}{Q:Option Int->Shared->Prop}(p:IsPart v o)(h:Q o s):wpAny (model prog w) A (Builtin.Slice.slicePartIndex v) Q E s:=by
 cases p with
 |none=>exact slicePart_none h
 |int i t=>exact slicePart_int h
def uy{sl:Addr}{vl vu:Value}{lo hi:Option Int}{n:Nat}{Q:Int×Int×Nat->Shared->Prop}(hs:s.heap.IsSliceOf sl vl vu .none)(pl:IsPart vl lo)(pu:IsPart vu hi)
  (h:Q (((dN n 0 lo:Nat):Int),1,dN n n hi -dN n 0 lo) s):wpAny (model prog w) A (Builtin.Slice.sliceApplied (.ref sl) (pure (n:Int))) Q E s:=by
 obtain⟨os,JC,qm,QB⟩:=id hs;refine ae (ae (bH JC QB rfl (ae (bH JC QB rfl (ae (bH JC QB rfl (af ?_)))))));refine ae (slicePart_none ?_);refine ae (DY pl (ae (DY pu (ae (af ?_)))));show wpAny _ _ (match Builtin.Slice.sliceAdjust lo hi 1 (n:Int)with|(lo,hi)=>pure (lo,(1:Int),Builtin.Slice.slicePlaces lo hi 1)) _ _ s;rw[Oj lo hi n];show wpAny _ _ (pure (((dN n 0 lo:Nat):Int),(1:Int),Builtin.Slice.slicePlaces ((dN n 0 lo:Nat):Int) ((dN n n hi:Nat):Int) 1)) _ _ s;rw[M8];exact af h
def Sh(xs:Aaj)(i k:Nat):((List.range k).filterMap λ(m:Nat)=>xs[((i:Int)+(m:Int)*1).toNat]?).toArray=((xs.toList.drop i).take k).toArray:=by
 have e:(λ(m:Nat)=>xs[((i:Int)+(m:Int)*1).toNat]?)=λm=>xs[i+m]?:=by
  funext m;have:((i:Int)+(m:Int)*1).toNat=i+m:=by lia
  rw[this]
 rw[e];have:=pick_run xs i k;rw[sH]at this;have e2:((λx=>xs[x]?)∘λx=>i+x)=λm=>xs[i+m]?:=rfl;rw[e2]at this;rw[this]
def BN{t sl:Addr}{items:Aaj}{vl vu:Value}{lo hi:Option Int}{Q:Aac}(ht:IsTup s.heap t items)(hs:s.heap.IsSliceOf sl vl vu .none)(pl:IsPart vl lo)(pu:IsPart vu hi)
  (hw:¬(dN items.size 0 lo=0/\dN items.size items.size hi=items.size))
  (h:Q (.ref s.heap.objs.size) {s with heap:=s.heap.push {cls:=.type "tuple",data:=.seq ((items.toList.drop (dN items.size 0 lo)).take (dN items.size items.size hi -dN items.size 0 lo)).toArray}})
  (hsz:items.size<=sizeLine):wpAny (model prog w) A (getItem (.ref t) (.ref sl)) Q E s:=by
 have Hm:sizeOk (.seq ((items.toList.drop (dN items.size 0 lo)).take (dN items.size items.size hi -dN items.size 0 lo)).toArray):=by show((items.toList.drop (dN items.size 0 lo)).take (dN items.size items.size hi -dN items.size 0 lo)).toArray.size<=sizeLine;rw[aO,aU,jT,aZ];lia
 obtain⟨os,JC,qm,QB⟩:=id hs;unfold getItem
 try with_reducible refine bL ?_
 first|refine ae (af ?_)|skip
 refine ae (BJ ht.typeIs (by decide) ?_);refine ae (wpAny_callSpecial?_slot ht.typeIs dY
  (ba dY ht.typeIs zy ?_ (Bc _ _)))
 show wpAny _ _ (Builtin.Tuple.tupleItemsOf (.ref t)>>=_) _ _ s;refine ae (tupleItemsOf_ ht ?_);refine ae (gu (⟨os,JC,qm⟩) ?_);refine ae (uy hs pl pu ?_);have Ey:¬((((dN items.size 0 lo:Nat):Int)==0&&(1:Int)==1&&(dN items.size items.size hi -dN items.size 0 lo)==items.size)=true):=by intro q;rw[bF,bF]at q;have q1:=iq q.1.1;have q2:=iq q.2;exact hw {by lia,by lia}
 show wpAny _ _ (if(((dN items.size 0 lo:Nat):Int)==0&&(1:Int)==1&&(dN items.size items.size hi -dN items.size 0 lo)==items.size)=true then _ else _) _ _ s;rw[ax Ey,Sh]
 first
  |exact ae (bV (af ⟨_,rfl,af h⟩) Hm)
  |exact ae (bV (ae (af (af ⟨_,rfl,af h⟩))) Hm)
  |exact ae (ae (bV (af (af ⟨_,rfl,af h⟩)) Hm))
  |exact ae (ae (bV (af ⟨_,rfl,af h⟩) Hm))
end
end HT
namespace L2
open PySem PySem.Spec PyProof.Rows
abbrev TO:=St->Hp->(Option Int->Hp->Prop)->Prop
def PO(X:Cx)(e:Option Expr)(t:TO):Prop:=
 ∀(pins:Aaa)(s:Shared)(Z:St)(H:Hp)(Q:Option Int->Hp->Prop),Inv X pins Z H s->t Z H Q->
  wpAny (model X.prog X.w) X.A (evalPart e X.env) (λu s'=>∃o H',Inv X pins Z H' s'/\IsPart u o/\Q o H') X.xe s
def Lm:TO:=λ_ H Q=>Q none H
inductive Yj(Q:Option Int->Hp->Prop)(x:V)(H1:Hp):Prop
 |mk i (_:x=.int i) (_:Q (some i) H1)
def abh(t:TE):TO:=λZ H Q=>t Z H λx H1=>Yj Q x H1
section
variable{X:Cx}{e:Expr}{te:TE}{lo hi:Option Expr}{tl th:TO}{pos p2:Pos}
def Bx:PO X none Lm:=by intro pins s Z H Q I h;exact af {none,H,I,.none,h}
def ui(h:PE X e te):PO X (some e) (abh te):=by intro pins s Z H Q I hw;refine cX (h pins s Z H _ I hw) λu s1 x H1 I1 r1 q1=>?_;obtain⟨i,rfl,q⟩:=q1;obtain⟨t,rfl⟩:=r1;exact{some i,H1,I1,.int i t,q}
def Ry(X:Cx)(r:V->Option Int->Option Int->Hp->VK->Prop):Prop:=
 ∀(pins:Aaa)(s:Shared)(Z:St)(H:Hp)(x:V)(v vl vu:Value)(lo hi:Option Int)(sl:Addr)(Q:VK),Inv X pins Z H s->RelV x v->s.heap.IsSliceOf sl vl vu .none->IsPart vl lo->IsPart vu hi->r x lo hi H Q->
  ∃T id,typeLookup (.type T) "__getitem__"=pure (some (.builtin id))/\s.TypeIs v T/\wpAny (model X.prog X.w) X.A (getItem v (.ref sl)) (EP X pins Z Q) X.xe s
def tSl(r:V->Option Int->Option Int->Hp->VK->Prop)(te:TE)(tl th:TO):TE:=λZ H Q=>te Z H λx H1=>tl Z H1 λl H2=>th Z H2 λu H3=>r x l u H3 Q
def uG(hr:Ry X r)(he:PE X e te)(hl:PO X lo tl)(hu:PO X hi th):PE X (.Subscript e (.Slice lo hi none p2) pos) (tSl r te tl th):=by intro pins s Z H Q I h;refine E1 (cX (he pins s Z H _ I h) λv s1 x H1 I1 r1 q1=>?_);refine wpAny_Slice (iB (hl pins s1 Z H1 _ I1 q1) λvl s2 adb=>?_);obtain⟨l,H2,I2,pl,q2⟩:=adb;refine iB (hu pins s2 Z H2 _ I2 q2) λvu s3 SW=>?_;obtain⟨u,H3,I3,pu,q3⟩:=SW;refine af ?_;have I4:Inv X pins Z H3 {s3 with heap:=s3.heap.push {cls:=.type "slice",data:=.fields #[vl,vu,.none]}}:=I3.kept λb ob q=>ah _ q;obtain⟨T,id,hT,ht,hg⟩:=hr pins {s3 with heap:=s3.heap.push {cls:=.type "slice",data:=.fields #[vl,vu,.none]}} Z H3 x v vl vu l u s3.heap.objs.size Q I4 r1 (Heap.IsSliceOf.new ..) pl pu q3;exact tail_any ht hT hg (by with_unfolding_all rfl)
def mx(xs:Aam)(lo hi:Option Int):Aam:=(xs.drop (HT.dN xs.length 0 lo)).take (HT.dN xs.length xs.length hi -HT.dN xs.length 0 lo)
def CB(xs:Aam)(lo hi:Option Int):(mx xs lo hi).length<=xs.length:=by unfold mx;rw[aU,jT];lia
def acq(K:Frag):V->Option Int->Option Int->Hp->VK->Prop:=λx lo hi H Q=>∃a xs,x=.ref a/\bf K H a xs/\
 ¬(HT.dN xs.length 0 lo=0/\HT.dN xs.length xs.length hi=xs.length)/\∀p,H p=none->Q (.ref p) (upd H p (.tup (mx xs lo hi)))
def Yw:Ry X (acq X.K):=by intro pins s Z H x v vl vu lo hi sl Q I rx hs pl pu h;obtain⟨a,xs,rfl,hx,hw,q⟩:=h;cases rx;obtain⟨aP,r,ht,hz⟩:=I.tuple hx;have hlen:aP.toArray.size=xs.length:=aO▸r.length.symm;refine{"tuple",_,dY.lookup,ht.typeIs,?_};refine HT.BN ht hs pl pu (hlen▸hw) ?_ (hlen▸hz);rw[hlen];refine{.ref s.heap.objs.size,_,I.laid (λb ob q=>ah _ q) (ao _) ?_,rfl,q _ (I.bw.fresh (ao _))};exact{aL (CB xs lo hi) hz,_,(r.drop (HT.dN xs.length 0 lo)).take (HT.dN xs.length xs.length hi -HT.dN xs.length 0 lo),Bs _ _,_,aB _ rfl,rfl}
def Vals.xp(r:Vals xs us):us=[]↔xs=[]:=by
 cases r with
 |nil=>simp
 |cons _ _=>simp
def Gx(n:Nat)(i:Int):Option Nat:=if 0<=i then(if i<n then some i.toNat else none)else if -(n:Int)<=i then some (i+n).toNat else none
def wc(xs:List α)(i:Int):Option α:=(Gx xs.length i).bind λj=>xs[j]?
def L5(h:Gx n i=some j):seqIndex? i n=some j/\j<n/\-(n:Int)<=i/\i<n:=by
 unfold Gx at h;by_cases h0:0<=i
 ·rw[aA h0]at h;by_cases h1:i<n
  ·rw[aA h1]at h;have e:=bM h;exact{by rw[B8 h0 h1,e],by lia,by lia,h1}
  ·rw[ax h1]at h;cases h
 ·rw[ax h0]at h;by_cases h1:-(n:Int)<=i
  ·rw[aA h1]at h;have e:=bM h;exact{by rw[zV ∅ h1,e],by lia,h1,by lia}
  ·rw[ax h1]at h;cases h
def FO(h:wc xs i=some v):∃j,seqIndex? i xs.length=some j/\xs[j]?=some v/\j<xs.length/\-(xs.length:Int)<=i/\i<xs.length:=by
 unfold wc at h;cases e:Gx xs.length i with
 |none=>rw[e]at h;cases h
 |some j=>
  rw[e]at h;obtain⟨h1,h2,h3,h4⟩:=L5 e;exact⟨j,h1,h,h2,h3,h4⟩
def iG{xs:List α}{j:Nat}{v:α}(h:xs[j]?=some v):wc xs (j:Int)=some v:=by
 have hj:=(aw.mp h).1;have e:Gx xs.length (j:Int)=some j:=by unfold Gx;rw[aA ∅,aA ∅];simp
 unfold wc;rw[e];exact h
def XB(b:Expr):Prop:=∀o i,subscripted b false o i=operate [o,i] (getItem o i)
end
def Kr(X:Cx)(r:R2):Prop:=
 ∀(value slice:Expr)(pins:Aaa)(s:Shared)(Z:St)(H:Hp)(x y:V)(v u:Value)(Q:VK),Inv X pins Z H s->RelV x v->RelV y u->r x y H Q->
  subscripted slice false v u=operate [v,u] (getItem v u)->wpAny (model X.prog X.w) X.A (subscriptTail value slice v u) (EP X pins Z Q) X.xe s
def MH(X:Cx)(id:String)(r:V->Aam->Hp->VK->Prop):Prop:=
 ∀(pins:Aaa)(s:Shared)(Z:St)(H:Hp)(x:V)(xs:Aam)(v:Value)(us:Aae)(Q:VK),Inv X pins Z H s->RelV x v->Vals xs us->r x xs H Q->
  wpAny (model X.prog X.w) X.A (call (.builtin id) (v::us)) (EP X pins Z Q) X.xe s
section
variable{X:Cx}{a b:Expr}{ta tb:TE}{pos:Pos}
def cB(hr:Kr X r)(ha:PE X a ta)(hb:PE X b tb)(hs:XB b):PE X (.Subscript a b pos) (Uq r ta tb):=by intro pins s Z H Q I h;exact E1 (T6 ha hb I h λv u s2 x y H2 I2 rx ry q=>hr a b pins s2 Z H2 x y v u Q I2 rx ry q (hs _ _))
inductive R8(K:Frag)(x:V)(y:V)(H:Hp)(Q:VK):Prop
 |mk p xs i v (_:x=.ref p) (_:y=.int i) (_:br K H p xs) (_:wc xs i=some v) (_:Q v H)
inductive R7(K:Frag)(x:V)(y:V)(H:Hp)(Q:VK):Prop
 |mk p xs i v (_:x=.ref p) (_:y=.int i) (_:bf K H p xs) (_:wc xs i=some v) (_:Q v H)
inductive acv(x:V)(y:V)(H:Hp)(Q:VK):Prop
 |mk z i c (_:x=.str z) (_:y=.int i) (_:z.length<=sizeLine) (_:wc z.cps.toList i=some c) (_:Q (.str ⟨#[c]⟩) H)
def fY:Kr X (R8 X.K):=by
 intro value slice pins s Z H x y v u Q I rx ry h hs;obtain⟨p,xs,i,z,rfl,rfl,hq,he,q⟩:=h;cases rx;obtain⟨t,rfl⟩:=ry;obtain⟨aP,r,pl,hz⟩:=I.list hq;obtain⟨j,h1,h2,h3,h4,h5⟩:=FO he;obtain⟨w,ew,lT⟩:=r.get h2;have hl:=r.length;have hn:=Ay;have fin:EP X pins Z Q w s:=⟨z,H,I,lT,q⟩;by_cases h0:0<=i
 ·have hj:i.toNat=j:=by rw[B8 h0 h5]at h1;exact bM h1
  exact item_listR pl.isList h0 ∅ (by rw[hj];simpa using ew) fin hs
 ·have hj:(i+(aP.toArray.size:Int)).toNat=j:=by rw[zV ∅ h4]at h1;rw[aO,<-hl];exact bM h1
  exact wt pl.isList.typeIs slot_list_getitem.lookup
   (wpAny_getItem_list_neg pl.isList ∅ (by rw[aO]<;>lia) ∅ (by rw[hj];simpa using ew) ⟨rfl,fin⟩) hs
def eU:Kr X (R7 X.K):=by
 intro value slice pins s Z H x y v u Q I rx ry h hs;obtain⟨p,xs,i,z,rfl,rfl,hq,he,q⟩:=h;cases rx;obtain⟨t,rfl⟩:=ry;obtain⟨aP,r,pl,hz⟩:=I.tuple hq;obtain⟨j,h1,h2,h3,h4,h5⟩:=FO he;obtain⟨w,ew,lT⟩:=r.get h2;have hn:=Ay;exact wt pl.typeIs slot_tuple_getitem.lookup
  (getItem_tuple pl ∅ ∅ (by rw[aO,<-r.length];exact h1) (by simpa using ew) {rfl,(⟨z,H,I,lT,q⟩)}) hs
def P4:Kr X acv:=by
 intro value slice pins s Z H x y v u Q I rx ry h hs;obtain⟨z,i,c,rfl,rfl,hz,he,q⟩:=h;obtain⟨t,rfl⟩:=rx;obtain⟨t',rfl⟩:=ry;obtain⟨j,h1,h2,h3,h4,h5⟩:=FO he;have hl:z.cps.toList.length=z.length:=by simp[Str.length]
 rw[hl]at h1 h4 h5;have hn:=Ay;exact tail_any (nQ s z t) slot_str_getitem.lookup (getItem_str (by
  rw[(bB ∅),(bB ∅),zu]) (by rw[h1];simpa using h2) {.str ⟨#[c]⟩,H,I.tok _,⟨_,rfl⟩,q}) hs
def Nq(aP:Aae)(n j:Nat)(u:Value):Obj.mapSeq (·.setIfInBounds j u) {cls:=.type "list",data:=.seq aP.toArray n}={cls:=.type "list",data:=.seq (aP.set j u).toArray n}:=by simp[Obj.mapSeq]
def Inv.lst(I:Inv X pins Z H s)(h:H p=some (.lst xs)):
  ∃(aP:Aae)(n:Nat),Vals xs aP/\s.heap.get? p=some {cls:=.type "list",data:=.seq aP.toArray n}/\xs.length<=sizeLine:=by
 obtain⟨z,aP,n,r,e⟩:=I.bw p _ h;exact⟨aP,n,r,e,z⟩
def Inv.Zr{aP its':Aae}(I:Inv X pins Z H s)(h:H p=some (.lst xs))
  (ho:s.heap.get? p=some {cls:=.type "list",data:=.seq aP.toArray n}) (hf:f {cls:=.type "list",data:=.seq aP.toArray n}={cls:=.type "list",data:=.seq its'.toArray n'}) (r:Vals ys its') (hz:ys.length<=sizeLine) (t:Nat):
  Inv X pins Z (upd H p (.lst ys)) {s with heap:=s.heap.update p f,toks:=t}:=by
 have e:(s.heap.update p f).get? p=some {cls:=.type "list",data:=.seq its'.toArray n'}:=by rw[cj f ho (by rw[hf]<;>rfl),hf]
 refine I.write (by rw[h];trivial) (.inl rfl) (λb u hb q=>(bD _ _ (bY hb)).trans q) ⟨_,e⟩ ?_;exact⟨hz,its',n',r,e⟩
inductive abw(o:V)(i:V)(v:V)(H:Hp)(Q:Hp->Prop):Prop
 |mk p xs k j (_:o=.ref p) (_:i=.int k) (_:H p=some (.lst xs)) (_:Gx xs.length k=some j) (_:Q (upd H p (.lst (xs.set j v))))
def set_list:aa4 X abw:=by
 intro pins s Z H o i v ov iv u Q I ro ri rv h;obtain⟨p,xs,k,j,rfl,rfl,hp,hj,q⟩:=h;cases ro;obtain⟨t,rfl⟩:=ri;obtain⟨aP,n,r,ho,hz⟩:=I.lst hp;obtain⟨h1,h2,h3,h4⟩:=L5 hj;have hl:=r.length;have hn:=Ay;have I':Inv X pins Z (upd H p (.lst (xs.set j v))) {s with heap:=s.heap.update p (Obj.mapSeq (·.setIfInBounds j u))}:=
  I.Zr hp ho (Nq aP n j u) (r.set rv j) (by rw[List.length_set];exact hz) s.toks
 by_cases h0:0<=k
 ·have hk:k.toNat=j:=by rw[B8 h0 h4]at h1;exact bM h1
  exact PySem.W.ki_setAt ho h0 ∅ (by rw[aO,<-hl];exact h4) (by rw[hk];exact⟨_,I',q⟩)
 ·have hk:(k+(aP.toArray.size:Int)).toNat=j:=by rw[zV ∅ h3]at h1;rw[aO,<-hl];exact bM h1
  exact PySem.W.ki_setBack ho ∅ (by rw[aO,<-hl];exact h3) ∅ (by rw[hk];exact⟨_,I',q⟩)
def HY(lo hi:Option Int)(n:Nat):(sliceBounds lo hi none n).1=((HT.dN n 0 lo:Nat):Int)/\(sliceBounds lo hi none n).2.1=((HT.dN n n hi:Nat):Int)/\(sliceBounds lo hi none n).2.2=1:=by
 refine{?_,?_,rfl}
 ·cases lo with
  |none=>simp[sliceBounds,HT.dN]
  |some i=>
   simp only[sliceBounds,HT.dN,Option.getD_none,show(1:Int)>0 by decide,jJ];by_cases h:i<0
   ·simp only[h,jJ]<;>lia
   ·simp only[h,cN]<;>lia
 ·cases hi with
  |none=>simp[sliceBounds,HT.dN]
  |some i=>
   simp only[sliceBounds,HT.dN,Option.getD_none,show(1:Int)>0 by decide,jJ];by_cases h:i<0
   ·simp only[h,jJ]<;>lia
   ·simp only[h,cN]<;>lia
def G6(aP:Aae)(lo hi:Option Int):slicePick aP.toArray lo hi none=((aP.drop (HT.dN aP.length 0 lo)).take (HT.dN aP.length aP.length hi -HT.dN aP.length 0 lo)).toArray:=by obtain⟨h1,h2,h3⟩:=HY lo hi aP.toArray.size;unfold slicePick;rw[h1,h2,h3];simp only[sliceRange_one,pick_run,aO]<;>rfl
inductive acs(K:Frag)(x:V)(lo:Option Int)(hi:Option Int)(H:Hp)(Q:VK):Prop
 |mk a xs (_:x=.ref a) (_:br K H a xs) (_:∀p,H p=none->Q (.ref p) (upd H p (.lst (mx xs lo hi))))
def Fc:Ry X (acs X.K):=by intro pins s Z H x v vl vu lo hi sl Q I rx hs pl pu h;obtain⟨a,xs,rfl,hx,q⟩:=h;cases rx;obtain⟨aP,r,ht,hz⟩:=I.list hx;have hlen:=r.length;refine{"list",_,slot_list_getitem.lookup,ht.isList.typeIs,?_};refine wpAny_getItem_list_slice ht.isList hs pl pu .none (by simp) ?_ (by rw[aO]<;>lia);rw[G6,<-hlen];refine{.ref s.heap.objs.size,_,I.laid (λb ob q=>ah _ q) (ao _) ?_,rfl,q _ (I.bw.fresh (ao _))};exact{aL (CB xs lo hi) hz,_,0,(r.drop (HT.dN xs.length 0 lo)).take (HT.dN xs.length xs.length hi -HT.dN xs.length 0 lo),aB _ rfl}
def rR:V->Bool
 | .cb=>true
 | .bl _=>true
 | .int _=>true
 | .str _=>true
 |_=>false
def GN:V->V->Bool
 | .cb,.cb=>true
 | .bl a,.bl b=>a==b
 | .bl a,.int b=>(if a then 1 else 0)==b
 | .int a,.bl b=>a==(if b then 1 else 0)
 | .int a,.int b=>a==b
 | .str a,.str b=>a==b
 |_,_=>false
def aaQ(ry:RelV y u)(rx:RelV x v)(fy:rR y=true)(fx:rR x=true):SeqAt.EqAt A s u v (GN y x):=by
 cases y with
 |cb=>
  cases ry;cases x with
  |cb=>cases rx;exact SeqAt.EqAt.same _
  |bl b=>cases rx;exact SeqAt.EqAt.none_bool b
  |int b=>obtain⟨t,rfl⟩:=rx;exact SeqAt.EqAt.none_int b t
  |str b=>obtain⟨t,rfl⟩:=rx;exact SeqAt.EqAt.none_str b t
  |_=>exact absurd (show false=true from fx) bA
 |bl a=>
  cases ry;cases x with
  |cb=>cases rx;exact SeqAt.EqAt.bool_none a
  |bl b=>cases rx;exact SeqAt.EqAt.bool_bool a b
  |int b=>obtain⟨t,rfl⟩:=rx;exact SeqAt.EqAt.bool_int a b t
  |str b=>obtain⟨t,rfl⟩:=rx;exact SeqAt.EqAt.bool_str a b t
  |_=>exact absurd (show false=true from fx) bA
 |int a=>
  obtain⟨t',rfl⟩:=ry;cases x with
  |cb=>cases rx;exact SeqAt.EqAt.int_none a t'
  |bl b=>cases rx;exact SeqAt.EqAt.int_bool a t' b
  |int b=>obtain⟨t,rfl⟩:=rx;exact SeqAt.EqAt.int_int a t' b t
  |str b=>obtain⟨t,rfl⟩:=rx;exact Bh a t' b t
  |_=>exact absurd (show false=true from fx) bA
 |str a=>
  obtain⟨t',rfl⟩:=ry;cases x with
  |cb=>cases rx;exact SeqAt.EqAt.str_none a t'
  |bl b=>cases rx;exact SeqAt.EqAt.str_bool a t' b
  |int b=>obtain⟨t,rfl⟩:=rx;exact Bg a t' b t
  |str b=>obtain⟨t,rfl⟩:=rx;exact Bf a t' b t
  |_=>exact absurd (show false=true from fx) bA
 |_=>exact absurd (show false=true from fy) bA
def EM(x:V)(u:Value):Bool:=match u with
 | .none=>GN .cb x
 | .bool b=>GN (.bl b) x
 | .int i _=>GN (.int i) x
 | .str z _=>GN (.str z) x
 |_=>false
def Q0(r:RelV y u)(f:rR y=true):EM x u=GN y x:=by
 cases y with
 |cb=>cases r;rfl
 |bl b=>cases r;rfl
 |int i=>obtain⟨t,rfl⟩:=r;rfl
 |str z=>obtain⟨t,rfl⟩:=r;rfl
 |_=>exact absurd (show false=true from f) bA
theorem FQ:∀{xs:Aam}{us:Aae},Vals xs us->xs.all rR=true->us.any (EM x)=xs.any λy=>GN y x
 |_,_,.nil,_=>rfl
 |y::xs,u::us,.cons r t,f=>by rw[List.all_cons,bF]at f;rw[pj,pj,Q0 r f.1,FQ t f.2]
theorem Dd(rx:RelV x v)(fx:rR x=true):∀{xs:Aam}{us:Aae},Vals xs us->xs.all rR=true->∀u∈us,SeqAt.EqAt A s u v (EM x u)
 |_,_,.nil,_=>λu hu=>by cases hu
 |y::xs,u::us,.cons r t,f=>λu' hu=>by
  rw[List.all_cons,bF]at f;rcases aF.mp hu with rfl|hu
  ·rw[Q0 r f.1];exact aaQ r rx f.1 fx
  ·exact Dd rx fx t f.2 u' hu
def Jr(x:V)(xs:Aam):Bool:=xs.any λy=>GN y x
inductive rIn(K:Frag)(neg:Bool)(x:V)(y:V)(H:Hp)(Q:VK):Prop
 |mk p xs (_:y=.ref p) (_:(br K H p xs\/bf K H p xs)) (_:rR x=true) (_:xs.all rR=true) (_:Q (.bl (if neg then !Jr x xs else Jr x xs)) H)
def uJ:kz X (compareOp .NotIn) (rIn X.K true):=by
 intro pins s Z H x y v u Q I rx ry h;obtain⟨p,xs,rfl,hq,fx,fs,q⟩:=h;cases ry;rcases hq with hq|hq
 ·obtain⟨aP,r,pl,hz⟩:=I.list hq;refine SeqAt.notIn_listAt (EM x) pl.isList (λw hw=>Dd rx fx r fs w (by simpa using hw)) {.bl _,H,I,rfl,?_};rw[show aP.toArray.any (EM x)=aP.any (EM x) by simp,FQ r fs];exact q
 ·obtain⟨aP,r,pl,hz⟩:=I.tuple hq;refine SeqAt.notIn_tupleAt (EM x) pl (λw hw=>Dd rx fx r fs w (by simpa using hw)) {.bl _,H,I,rfl,?_};rw[show aP.toArray.any (EM x)=aP.any (EM x) by simp,FQ r fs];exact q
def u0:gA X (.type "list") (λxs H Q=>∃p ys,xs=[.ref p]/\(br X.K H p ys\/bf X.K H p ys)/\∀l,H l=none->Q (.ref l) (upd H l (.lst ys))):=by
 intro pins s Z H xs us Q I r h;obtain⟨p,ys,rfl,hq,q⟩:=h;obtain⟨u,rfl,rx⟩:=jY r;cases rx;have fin:∀(aP:Aae),Vals ys aP->ys.length<=sizeLine->∀(h':Heap)(c':Nat),(∀b o',s.heap.get? b=some o'->h'.get? b=some o')->
   h'.get? s.heap.objs.size=some {cls:=.type "list",dict:=none,data:=.seq aP.toArray c',slots:=#[]}->EP X pins Z Q (.ref s.heap.objs.size) {s with heap:=h'}:=λaP r' hz h' c' kp e=>
  {.ref s.heap.objs.size,_,I.laid kp (ao _) (show cI X.prog X.w _ h' _ (.lst ys)from⟨hz,aP,c',r',e⟩),rfl,q _ (I.bw.fresh (ao _))}
 rcases hq with hq|hq
 ·obtain⟨aP,r',pl,hz⟩:=I.list hq;have hlen:=r'.length;obtain⟨o,ho,hc,n,hd⟩:=pl.isList;exact call_list_seq p (.inl rfl) ho hc hd (λh' c' kp e=>fin aP r' hz h' c' kp e) (by simp only[aO]<;>lia)
 ·obtain⟨aP,r',pl,hz⟩:=I.tuple hq;have hlen:=r'.length;obtain⟨o,ho,hc,n,hd⟩:=pl;exact call_list_seq p (.inr rfl) ho hc hd (λh' c' kp e=>fin aP r' hz h' c' kp e) (by simp only[aO]<;>lia)
def d6:gA X (.type "tuple") (λxs H Q=>∃p ys,xs=[.ref p]/\((br X.K H p ys/\∀l,H l=none->Q (.ref l) (upd H l (.tup ys)))\/(bf X.K H p ys/\Q (.ref p) H))):=by
 intro pins s Z H xs us Q I r h;obtain⟨p,ys,rfl,h⟩:=h;obtain⟨u,rfl,rx⟩:=jY r;cases rx;rcases h with⟨hq,q⟩|⟨hq,q⟩
 ·obtain⟨aP,r',pl,hz⟩:=I.list hq;have hlen:=r'.length;refine call_tuple_list pl.isList (λh' kp=>?_) (by simp only[aO]<;>lia);have I1:=I.kept (t':=s.toks) kp;have I2:Inv X pins Z (upd H h'.objs.size (.tup ys)) {s with heap:=h'.push {cls:=.type "tuple",data:=.seq aP.toArray}}:=
   I1.laid (λb o e=>ah _ e) (ao _) (show cI X.prog X.w _ _ _ (.tup ys)from{hz,aP,r',Bs _ _,_,aB _ rfl,rfl})
  exact{.ref h'.objs.size,_,I2,rfl,q _ (I1.bw.fresh (ao _))}
 ·obtain⟨aP,r',pl,hz⟩:=I.tuple hq;exact call_tuple_same pl {.ref p,H,I,rfl,q}
noncomputable def X1(K:Frag)(T:String)(x:V)(H:Hp):Prop:=match x with
 | .str _=>T="str"
 | .int _=>T="int"
 | .ref p=>(T="list"/\∃xs,br K H p xs)\/(T="tuple"/\((∃xs,H p=some (.tup xs))\/∃o,K.lookup p=some o/\o.cls=.type "tuple"/\o.dict=none))\/
   (T="dict"/\((∃kvs,H p=some (.dK kvs))\/∃kvs,H p=some (.dT kvs)))\/(T="set"/\∃S n,H p=some (.set S n))
 |_=>False
def Oy(I:Inv X pins Z H s)(r:RelV x v)(ty:X1 X.K T x H):
  s.TypeIs v T/\∀a,v=.ref a->∃ob,s.heap.get? a=some ob/\ob.dict=none:=by
 cases x with
 |str z=>
  obtain⟨t,rfl⟩:=r;cases(show T="str"from ty);exact{nQ s z t,λ_ e=>nomatch e}
 |int i=>
  obtain⟨t,rfl⟩:=r;cases(show T="int"from ty);exact{typeIs_int s i t,λ_ e=>nomatch e}
 |ref p=>
  cases r;rcases ty with⟨rfl,xs,hq⟩|⟨rfl,⟨xs,hq⟩|⟨o,hk,hc,hd⟩⟩|⟨rfl,hk⟩|⟨rfl,S,n,hk⟩
  ·obtain⟨aP,_,pl,_⟩:=I.list hq;refine{pl.isList.typeIs,λa e=>?_};cases e;obtain⟨o,n,e,c,hd,_⟩:=pl;exact⟨o,e,hd⟩
  ·obtain⟨_,_,_,⟨o1,e1,c1,_⟩,o,e,hd⟩:=I.bw p _ hq;refine{⟨o1,e1,c1⟩,λa e2=>?_};cases e2;exact⟨o,e,hd⟩
  ·refine{{o,I.k9 p o hk,hc},λa e=>?_};cases e;exact{o,I.k9 _ o hk,hd}
  ·have z:∃o,s.heap.get? p=some o/\o.ExactDict:=by
    rcases hk with⟨kvs,hk⟩|⟨kvs,hk⟩
    ·obtain⟨_,_,_,_,o,_,_,e,ex,_⟩:=I.bw p _ hk;exact⟨o,e,ex⟩
    ·obtain⟨_,_,_,_,o,_,_,e,ex,_⟩:=I.bw p _ hk;exact⟨o,e,ex⟩
   obtain⟨o,e,ex⟩:=z;refine{{o,e,ex.1},λa e2=>?_};cases e2;exact{o,e,ex.2.1}
  ·obtain⟨o,_,_,_,e,ex,_⟩:=I.bw p _ hk;refine{{o,e,ex.1},λa e2=>?_};cases e2;exact{o,e,ex.2.1}
 |_=>exact False.elim ty
def acm(K:Frag)(T:String)(r:V->Aam->Hp->VK->Prop)(to:TE):TE:=λZ H Q=>to Z H λx H1=>X1 K T x H1/\r x [] H1 Q
def tBM(K:Frag)(T:String)(r:V->Aam->Hp->VK->Prop)(to:TE)(t:TA):TE:=λZ H Q=>to Z H λx H1=>X1 K T x H1/\t Z H1 λxs H2=>r x xs H2 Q
variable{o e:Expr}{es:List Expr}{to:TE}{t:TA}{name:Str}{apos dU:Pos}{T id:String}{r:V->Aam->Hp->VK->Prop}
def Pb(pa:PlainAttrs T)(slot:Slot T name id)(Qj:typeOf (.builtin id)=pure (.type "method_descriptor"))(hm:MH X id r)(ho:PE X o to)
  (qo:attributeBase o name X.env (eval o X.env)=eval o X.env:=by rfl) (qi:(apos.endLine==dU.line)=true:=by rfl):PE X (.Call (.Attribute o name apos) [] [] dU) (acm X.K T r to):=by
 intro pins s Z H Q I h;refine j6 qo qi (cX (ho pins s Z H _ I h) λv s1 x H1 I1 r1 ada=>?_);obtain⟨ty,q1⟩:=ada;obtain⟨h1,h2⟩:=Oy I1 r1 ty;exact{T,id,pa,slot,Qj,h1,h2,eM rfl (mz (hm pins s1 Z H1 x [] v [] Q I1 r1 .nil q1))}
def lG(pa:PlainAttrs T)(slot:Slot T name id)(Qj:typeOf (.builtin id)=pure (.type "method_descriptor"))(hm:MH X id r)(ho:PE X o to)(ha:PA X (e::es) t)
  (qo:attributeBase o name X.env (eval o X.env)=eval o X.env:=by rfl)
  (To:((backTo dU (starEach (e::es) X.env)).all (λx=>!x.1)&&(backToKw dU (keywordEach [] X.env)).all (λx=>x.1.isSome)
   &&decide ((e::es).length+([]:List Keyword).length+(if([]:List Keyword).isEmpty then 0 else 1)<30))=true:=by rfl)
  (qi:(apos.endLine==dU.line)=true:=by rfl) (hs:starEach (e::es) X.env=(false,eval e X.env)::starEach es X.env:=by rfl) (JB:(backTo dU (starEach es X.env)).any (·.1)=false:=by rfl):
  PE X (.Call (.Attribute o name apos) (e::es) [] dU) (tBM X.K T r to t):=by
 intro pins s Z H Q I h;refine wpAny_Call_method_late qo To qi rfl (cX (ho pins s Z H _ I h) λv s1 x H1 I1 r1 ac9=>?_);obtain⟨ty,q1⟩:=ac9;obtain⟨h1,h2⟩:=Oy I1 r1 ty;refine{T,id,pa,slot,Qj,h1,h2,?_};have hA:=ha dU pins s1 Z H1 _ I1 q1;rw[hs]at hA⊢;exact eM (by show(false||(backTo dU (starEach es X.env)).any (·.1))=false;rw[JB]<;>rfl) (lK (iB hA λus s2 ⟨vs,H2,I2,r2,q2⟩=>hm pins s2 Z H2 x vs v us Q I2 r1 r2 q2))
end
def Ko(X:Cx)(id:String)(r:V->Aam->Hp->VK->Prop):Prop:=
 ∀(pins:Aaa)(s:Shared)(Z:St)(H:Hp)(x:V)(xs:Aam)(v:Value)(us:Aae)(Q:VK),Inv X pins Z H s->RelV x v->Vals xs us->r x xs H Q->
  wpAny (model X.prog X.w) X.A (call (.builtin id) (v::us)) (EP X pins Z Q) X.xe s
theorem Vals.one:∀{x:V}{us:Aae},Vals [x] us->∃u,us=[u]/\RelV x u
 |_,_,.cons r .nil=>⟨_,rfl,r⟩
theorem Vals.two:∀{x y:V}{us:Aae},Vals [x,y] us->∃u v,us=[u,v]/\RelV x u/\RelV y v
 |_,_,_,.cons r (.cons q .nil)=>⟨_,_,rfl,r,q⟩
theorem Vals.zero:∀{us:Aae},Vals [] us->us=[]
 |_,.nil=>rfl
theorem Vals.eraseIdx:∀{xs:Aam}{us:Aae}(i:Nat),Vals xs us->Vals (xs.eraseIdx i) (us.eraseIdx i)
 |_,_,_,.nil=>.nil
 |_,_,0,.cons _ t=>t
 |_,_,i+1,.cons r t=>.cons r (Vals.eraseIdx i t)
def Vals.reverse{xs:Aam}{us:Aae}(h:Vals xs us):Vals xs.reverse us.reverse:=by
 induction h with
 |nil=>exact .nil
 |cons r t ih=>rw[tH,tH];exact Vals.append ih (.cons r .nil)
theorem Gv{α:Type}:∀(l:List α)(i:Nat),(l.eraseIdx i).length<=l.length
 |[],_=>ao _
 |_::_,0=>iM _
 |_::r,i+1=>vj (Gv r i)
section
variable{X:Cx}{pins:Aaa}{Z:St}{H:Hp}{s:Shared}{l:Addr}{xs ys:Aam}
def Inv.Jg{aP its':Aae}(I:Inv X pins Z H s)(hH:H l=some (.lst xs))
  (e:s.heap.get? l=some {cls:=.type "list",data:=.seq aP.toArray n}) (hf:f aP.toArray=its'.toArray) (hv:Vals ys its') (hz:ys.length<=sizeLine):
  Inv X pins Z (upd H l (.lst ys)) {s with heap:=s.heap.update l (Obj.mapSeq f),toks:=t'}:=by
 have q:=PySem.IsL.update e f;rw[hf]at q;refine I.write (hH▸trivial) (.inl rfl) (λb' u hb hu=>(bD s.heap (Obj.mapSeq f) (bY hb)).trans hu) ⟨_,q⟩ ?_;exact⟨hz,its',_,hv,q⟩
def Inv.acD(I:Inv X pins Z H s)(hv:Vals ys aP)(hz:ys.length<=sizeLine):
  Inv X pins Z (upd H s.heap.objs.size (.lst ys)) {s with heap:=s.heap.push {cls:=.type "list",data:=.seq aP.toArray},toks:=t'}:=
 I.laid (λ_ _ q=>ah _ q) (ao _) {hz,aP,0,hv,aB _ rfl}
def Inv.fresh(I:Inv X pins Z H s):H s.heap.objs.size=none:=I.bw.fresh (ao _)
def Inv.Av(I:Inv X pins Z H s)(hH:H l=some (.lst xs)):xs.length<=sizeLine/\∃(aP:Aae)(n:Nat),Vals xs aP/\xs.length=aP.length/\s.heap.get? l=some {cls:=.type "list",data:=.seq aP.toArray n}:=by obtain⟨z,aP,n,r,e⟩:=I.bw l _ hH;exact{z,aP,n,r,r.length,e}
def SG(h:n<=sizeLine):Builtin.List.listTooLong n=false:=by exact bB ∅
end
section
variable{X:Cx}
inductive Wv(x:V)(vs:Aam)(H:Hp)(Q:VK):Prop
 |mk l xs y (_:x=.ref l) (_:vs=[y]) (_:H l=some (.lst xs)) (_:xs.length<sizeLine) (_:Q .cb (upd H l (.lst (xs++[y]))))
def k7:Ko X "list.append" Wv:=by intro pins s Z H x vs v us Q I rx rv h;obtain⟨l,xs,y,rfl,rfl,hH,hz,q⟩:=h;cases rx;obtain⟨u,rfl,ru⟩:=rv.one;obtain⟨z,aP,n,r,hl,e⟩:=I.Av hH;refine qu Bu ⟨_,e,rfl⟩ zG (yX _ _) (BS l aP.toArray n u (by rw[aO];lia)) {e,?_};refine{.cb,_,I.Jg hH e (by simp) (r.append (.cons ru .nil)) ?_,rfl,q};rw[aM,cV];lia
inductive Wu(x:V)(vs:Aam)(H:Hp)(Q:VK):Prop
 |mk l b xs zs (_:x=.ref l) (_:vs=[.ref b]) (_:H l=some (.lst xs)) (_:H b=some (.lst zs)) (_:xs.length+zs.length<=sizeLine) (_:Q .cb (upd H l (.lst (xs++zs))))
def Gr:Ko X "list.extend" Wu:=by
 intro pins s Z H x vs v us Q I rx rv h;obtain⟨l,b,xs,zs,rfl,rfl,hH,hB,hz,q⟩:=h;cases rx;obtain⟨u,rfl,ru⟩:=rv.one;cases ru;obtain⟨z,aP,n,r,hl,e⟩:=I.Av hH;obtain⟨z2,AF,n2,r2,ip,e2⟩:=I.Av hB;have hsz:aP.toArray.size+AF.toArray.size<=sizeLine:=by rw[aO,aO];lia
 have abQ:¬(!aP.toArray.isEmpty&&Builtin.List.listTooLong (aP.toArray.size+AF.toArray.size))=true:=by rw[SG hsz,rL];exact bA
 refine qu F.slot_list_extend ⟨_,e,rfl⟩ F.entry_list_extend (F.args_list_extend_2 _ _)
  (AutoSeq1.list_extend_list_list_0 l aP.toArray n b AF.toArray n2 abQ (by rw[aO];lia) ∅) {e,e2,?_}
 refine{.cb,_,I.Jg hH e (by simp) (r.append r2) ?_,rfl,q};rw[aM];lia
inductive YM(x:V)(vs:Aam)(H:Hp)(Q:VK):Prop
 |mk l xs i k y (_:x=.ref l) (_:vs=[.int i]) (_:H l=some (.lst xs)) (_:-(2^63)<=i) (_:i<2^63) (_:seqIndex? i xs.length=some k) (_:xs[k]?=some y) (_:Q y (upd H l (.lst (xs.eraseIdx k))))
def SH:Ko X "list.pop" YM:=by
 intro pins s Z H x vs v us Q I rx rv h;obtain⟨l,xs,i,k,y,rfl,rfl,hH,h1,h2,hk,hy,q⟩:=h;cases rx;obtain⟨u,rfl,ru⟩:=rv.one;obtain⟨t,rfl⟩:=ru;obtain⟨z,aP,n,r,hl,e⟩:=I.Av hH;obtain⟨w,hw,lT⟩:=r.get hy;refine qu F.slot_list_pop ⟨_,e,rfl⟩ F.entry_list_pop (F.args_list_pop_2 _ _)
  (MeetsSeq.list_pop_at l aP.toArray n i t k w (fitsIndex_both h1 h2) (by rw[aO,<-hl];exact hk) (by rw[<-bK];exact hw) (by rw[aO];lia)) {e,?_}
 refine{y,_,I.Jg hH e ?_ (r.eraseIdx k) ?_,lT,q}
 ·show aP.toArray.eraseIdxIfInBounds k=(aP.eraseIdx k).toArray;rw[List.eraseIdxIfInBounds_toArray]
 ·have:=Gv xs k;lia
inductive R6(x:V)(vs:Aam)(H:Hp)(Q:VK):Prop
 |mk l xs (_:x=.ref l) (_:vs=[]) (_:H l=some (.lst xs)) (_:Q .cb (upd H l (.lst xs.reverse)))
def Np:Ko X "list.reverse" R6:=by intro pins s Z H x vs v us Q I rx rv h;obtain⟨l,xs,rfl,rfl,hH,q⟩:=h;cases rx;have Eo:=rv.zero;subst Eo;obtain⟨z,aP,n,r,hl,e⟩:=I.Av hH;refine qu F.slot_list_reverse ⟨_,e,rfl⟩ F.entry_list_reverse (F.args_list_reverse_1 _) (AutoSeq1.list_reverse_list_0 l aP.toArray n (by rw[aO];lia)) {e,?_};refine{.cb,_,I.Jg (its':=aP.reverse) hH e (by simp) r.reverse ?_,rfl,q};rw[zF];lia
inductive YN(x:V)(vs:Aam)(H:Hp)(Q:VK):Prop
 |mk l xs (_:x=.ref l) (_:vs=[]) (_:H l=some (.lst xs)) (_:Q .cb (upd H l (.lst [])))
def SI:Ko X "list.clear" YN:=by intro pins s Z H x vs v us Q I rx rv h;obtain⟨l,xs,rfl,rfl,hH,q⟩:=h;cases rx;have Eo:=rv.zero;subst Eo;obtain⟨z,aP,n,r,hl,e⟩:=I.Av hH;refine qu F.slot_list_clear ⟨_,e,rfl⟩ F.entry_list_clear (F.args_list_clear_1 _) (AutoSeq1.list_clear_list_0 l aP.toArray n (by rw[aO];lia)) {e,?_};exact{.cb,_,I.Jg (its':=[]) (ys:=[]) hH e rfl .nil (aR _),rfl,q}
inductive acy(x:V)(y:V)(H:Hp)(Q:VK):Prop
 |mk l b xs zs (_:x=.ref l) (_:y=.ref b) (_:H l=some (.lst xs)) (_:H b=some (.lst zs)) (_:xs.length+zs.length<=sizeLine) (_:∀p,H p=none->Q (.ref p) (upd H p (.lst (xs++zs))))
def Pg:kz X (binaryOp .Add) acy:=by
 intro pins s Z H x y v u Q I rx ry h;obtain⟨l,b,xs,zs,rfl,rfl,hH,hB,hz,q⟩:=h;cases rx;cases ry;obtain⟨z,aP,n,r,hl,e⟩:=I.Av hH;obtain⟨z2,AF,n2,r2,ip,e2⟩:=I.Av hB;refine PySem.P.add_list e e2 ?_ (by rw[aO,aO];lia);have ea:aP.toArray++AF.toArray=(aP++AF).toArray:=by simp
 rw[ea];exact{.ref _,_,I.acD (r.append r2) (by rw[aM];lia),rfl,q _ I.fresh}
end
section
variable{κ:Type}[DecidableEq κ]
def d7(kvs:List (κ×V))(k:κ):Aan:=(kvs.find? λkv=>decide (kv.1=k)).map (·.2)
def putK(kvs:List (κ×V))(k:κ)(v:V):List (κ×V):=
 if(kvs.any λkv=>decide (kv.1=k))=true then kvs.map (λkv=>if kv.1=k then(kv.1,v)else kv)else kvs++[(k,v)]
def gE{p:κ×V}{k:κ}(e:p.1=k):d7 (p::r) k=some p.2:=by simp[d7,hU,e]
def f9{p:κ×V}{k:κ}(e:¬p.1=k):d7 (p::r) k=d7 r k:=by simp[d7,hU,e]
theorem mX(k:κ):∀kvs:List (κ×V),(kvs.any λkv=>decide (kv.1=k))=(d7 kvs k).isSome
 |[]=>rfl
 |p::r=>by
  rw[pj];by_cases e:p.1=k
  ·simp only[gE e,aX e,Bool.true_or,Option.isSome_some]
  ·rw[f9 e,bB e,Bool.false_or];exact mX k r
theorem Ht(k j:κ)(y:V):∀kvs:List (κ×V),d7 (kvs.map λkv=>if kv.1=k then(kv.1,y)else kv) j=(d7 kvs j).map λx=>if j=k then y else x
 |[]=>rfl
 |p::r=>by
  have ih:=Ht k j y r;rw[bo];by_cases h:p.1=k
  ·rw[aA h];by_cases e:p.1=j
   ·rw[gE (p:=(p.1,y)) e,gE e,eC,aA (e.symm.trans h)]
   ·rw[f9 (p:=(p.1,y)) e,f9 e,ih]
  ·rw[ax h];by_cases e:p.1=j
   ·rw[gE e,gE e,eC,ax (λz=>h (e.trans z))]
   ·rw[f9 e,f9 e,ih]
theorem FY(k j:κ)(y:V):∀kvs:List (κ×V),d7 kvs k=none->d7 (kvs++[(k,y)]) j=if j=k then some y else d7 kvs j
 |[],_=>by
  by_cases e:k=j
  ·rw[aA e.symm];exact gE e
  ·rw[ax (λz=>e z.symm)];exact f9 e
 |p::r,hn=>by
  rw[lJ];have hk:¬p.1=k:=λz=>by rw[gE z]at hn;cases hn
  rw[f9 hk]at hn;by_cases e:p.1=j
  ·rw[gE e,gE e,ax (λz=>hk (e.trans z))]
  ·rw[f9 e,f9 e,(FY k j y r hn)]
def RF(kvs:List (κ×V))(k j:κ)(y:V):d7 (putK kvs k y) j=if j=k then some y else d7 kvs j:=by
 unfold putK;by_cases a:(kvs.any λkv=>decide (kv.1=k))=true
 ·rw[aA a,Ht];rw[mX]at a;by_cases e:j=k
  ·obtain⟨x,hx⟩:=jP.mp a;rw[aA e,e,hx,eC,aA rfl]
  ·rw[ax e];cases d7 kvs j with
   |none=>rfl
   |some x=>rw[eC,ax e]
 ·rw[ax a];refine FY k j y kvs ?_;rw[mX]at a;cases q:d7 kvs k with
  |none=>rfl
  |some x=>rw[q]at a;exact(a rfl).elim
def rP(kvs:List (κ×V))(k:κ)(v:V):(putK kvs k v).length<=kvs.length+1:=by
 unfold putK;split
 ·rw[ak];lia
 ·rw[aM,bu,gk];lia
def yl{k:κ}(v:V)(h:d7 kvs k=none):putK kvs k v=kvs++[(k,v)]:=by unfold putK;rw[mX,h];exact ax (by decide)
def kW.se(r:kW o u):o.isSome=u.isSome:=by
 cases o with
 |none=>cases u with
  |none=>rfl
  |some _=>exact(show False from r).elim
 |some _=>cases u with
  |none=>exact(show False from r).elim
  |some _=>rfl
def kW.getD(r:kW o u)(rd:RelV d d'):RelV (o.getD d) (u.getD d'):=by
 cases o with
 |none=>cases u with
  |none=>exact rd
  |some _=>exact(show False from r).elim
 |some _=>cases u with
  |none=>exact(show False from r).elim
  |some _=>exact r
def KV.val(r:KV kvs vs)(k:κ):kW (d7 kvs k) (valueAt vs k):=by
 induction r with
 |nil=>exact True.intro
 |@cons p q ps qs h t ih=>
  obtain⟨h1,h2⟩:=h;by_cases e:p.1=k
  ·have e':=h1.symm.trans e;have b:valueAt (q::qs) k=some q.2:=by simp[valueAt,hU,e']
   rw[gE e,b];exact h2
  ·have e':¬q.1=k:=λz=>e (h1.trans z);have b:valueAt (q::qs) k=valueAt qs k:=by simp[valueAt,hU,e']
   rw[f9 e,b];exact ih
def KV.any(r:KV kvs vs)(k:κ):(kvs.any λkv=>decide (kv.1=k))=vs.any λkv=>decide (kv.1=k):=by
 unfold KV at r
 induction r with
 |nil=>rfl
 |cons h t ih=>rw[pj,pj,ih,h.1]
def KV.R4(r:KV kvs vs)(k:κ)(ry:RelV y u):
  KV (kvs.map λkv=>if kv.1=k then(kv.1,y)else kv) (vs.map λkv=>if kv.1=k then(kv.1,u)else kv):=by
 induction r with
 |nil=>exact .nil
 |@cons p q ps qs h t ih=>
  rw[bo,bo];refine .cons ?_ ih;obtain⟨h1,h2⟩:=h;by_cases e:p.1=k
  ·rw[aA e,aA (h1.symm.trans e)];exact⟨h1,ry⟩
  ·rw[ax e,ax (λz=>e (h1.trans z))];exact⟨h1,h2⟩
def KV.put(r:KV kvs vs)(k:κ)(ry:RelV y u):KV (putK kvs k y) (stored vs k u):=by
 unfold putK stored;rw[r.any k];by_cases e:(vs.any λkv=>decide (kv.1=k))=true
 ·rw[aA e,aA e];exact r.R4 k ry
 ·rw[ax e,ax e];exact wQ r ⟨rfl,ry⟩
def KV.keys{kvs:List (κ×V)}(r:KV kvs vs):kvs.map (·.1)=vs.map (·.1):=by
 induction r with
 |nil=>rfl
 |cons h t ih=>rw[bo,bo,ih,h.1]
def KV.length{kvs:List (κ×V)}(r:KV kvs vs):kvs.length=vs.length:=a9 r
end
def vT(r:RelV (kV k) u):(bJ P w).is k u=true:=by
 cases k with
 |inl i=>obtain⟨t,e⟩:=(show∃t,u=Value.int i t from r);subst e;exact KN P w i t
 |inr x=>obtain⟨t,e⟩:=(show∃t,u=Value.str x t from r);subst e;exact Cg P w x t
theorem Gy:∀{ks:List Key}{us:Aae},Vals (ks.map kV) us->ItemsAre (bJ P w) ks us
 |[],_,r=>by rw[jS]at r;cases r;exact .nil
 |k::ks,_,r=>by
  cases r with
  |cons h t=>exact .cons (vT h) (Gy t)
abbrev KT(H:Hp):List (List Key×V)->List (List Key×Addr×Value)->Prop:=Paired λp q=>p.1=q.1/\H q.2.1=some (.tup (p.1.map kV))/\RelV p.2 q.2.2
def KT.val(r:KT H kvs xs)(k:List Key):kW (d7 kvs k) ((atKey xs k).map (·.2)):=by
 induction r with
 |nil=>exact True.intro
 |@cons p q ps qs h t ih=>
  obtain⟨h1,_,h2⟩:=h;by_cases e:p.1=k
  ·have e':=h1.symm.trans e;have b:atKey (q::qs) k=some q.2:=by simp[atKey,hU,e']
   rw[gE e,b];exact h2
  ·have e':¬q.1=k:=λz=>e (h1.trans z);have b:atKey (q::qs) k=atKey qs k:=by simp[atKey,hU,e']
   rw[f9 e,b];exact ih
def KT.R4(r:KT H kvs xs)(k:List Key)(ry:RelV y u):
  KT H (kvs.map λkv=>if kv.1=k then(kv.1,y)else kv) (xs.map (putAt k u)):=by
 induction r with
 |nil=>exact .nil
 |@cons p q ps qs h t ih=>
  rw[bo,bo];refine .cons ?_ ih;obtain⟨h1,h2,h3⟩:=h;unfold putAt;by_cases e:p.1=k
  ·rw[aA e,aA (h1.symm.trans e)];exact⟨h1,h2,ry⟩
  ·rw[ax e,ax (λz=>e (h1.trans z))];exact⟨h1,h2,h3⟩
def KT.put(r:KT H kvs xs)(k:List Key)(hb:H b=some (.tup (k.map kV)))(ry:RelV y u):
  KT H (putK kvs k y) (storedH xs k b u):=by
 have e:(kvs.any λkv=>decide (kv.1=k))=(atKey xs k).isSome:=by rw[mX,(r.val k).se,hZ]
 unfold putK storedH;rw[e];by_cases q:(atKey xs k).isSome=true
 ·rw[aA q,aA q];exact r.R4 k ry
 ·rw[ax q,ax q];exact wQ r ⟨rfl,hb,ry⟩
def KT.keeps(r:KT H kvs xs)(ht:∀b ys,H b=some (.tup ys)->H' b=some (.tup ys)):KT H' kvs xs:=
 Paired.Nr r λ_ _ z=>{z.1,ht _ _ z.2.1,z.2.2}
section
variable{P:Program}{w:World}{H:Hp}{h:Heap}{a:Addr}
def UC(ok:jI P w H h)(e:Rd H a u):cI P w H h a u:=e.ok ok
def yF(ok:jI P w H h)(e:Rd H a (.dK kvs)):kvs.length<=sizeLine/\(a==sysModules)=false/\∃vs,KV kvs vs/\h.DictOf (bJ P w) a vs:=
 show cI P w H h a (.dK kvs)from UC ok e
def wb(ok:jI P w H h)(e:H a=some (.dK kvs)):kvs.length<=sizeLine/\(a==sysModules)=false/\∃vs,KV kvs vs/\h.DictOf (bJ P w) a vs:=yF ok (.inl e)
def AB(ok:jI P w H h)(e:H a=some (.tup (ks.map kV))):(tupleKind (bJ P w)).is h ks a:=by obtain⟨_,aP,r,⟨o,h1,h2,n,h3⟩,_⟩:=(show cI P w H h a (.tup (ks.map kV))from ok a _ e);exact{o,aP.toArray,n,h1,h2,h3,by simpa using Gy r}
def BE(ok:jI P w H h)(e:Rd H a (.dT kvs)):kvs.length<=sizeLine/\(a==sysModules)=false/\
  ∃xs,KT H kvs xs/\h.DictOfH (tupleKind (bJ P w)) a xs:=by
 obtain⟨z,y,xs,r,o,es,ep,h1,h2,h3,h4,h5⟩:=(show cI P w H h a (.dT kvs)from UC ok e);refine{z,y,xs,r,o,es,ep,h1,h2,h3,h4,λx hx=>?_,h5};have all:∀{l:List (List Key×V)}{m:List (List Key×Addr×Value)},KT H l m->∀x∈m,(tupleKind (bJ P w)).is h x.1 x.2.1:=by
  intro l m q
  induction q with
  |nil=>intro x hx;exact nomatch hx
  |@cons p q ps qs hq t ih=>
   intro x hx;rcases aF.mp hx with e|hx
   ·subst e;exact AB ok (hq.1▸hq.2.1)
   ·exact ih x hx
 exact all r x hx
def ab2(ok:jI P w H h)(e:H a=some (.dT kvs)):kvs.length<=sizeLine/\(a==sysModules)=false/\
  ∃xs,KT H kvs xs/\h.DictOfH (tupleKind (bJ P w)) a xs:=BE ok (.inl e)
end
def oK(H:Hp)(a:Addr)(y:V)(r:Aan):Prop:=
 (∃kvs k,Rd H a (.dK kvs)/\y=kV k/\r=d7 kvs k)\/∃kvs k b,Rd H a (.dT kvs)/\y=.ref b/\H b=some (.tup (k.map kV))/\r=d7 kvs k
def yY(H:Hp)(a:Addr)(y v:V)(H':Hp):Prop:=
 (∃kvs k,H a=some (.dK kvs)/\y=kV k/\kvs.length<sizeLine/\H'=upd H a (.dK (putK kvs k v)))\/
 ∃kvs k b,H a=some (.dT kvs)/\y=.ref b/\H b=some (.tup (k.map kV))/\kvs.length<sizeLine/\H'=upd H a (.dT (putK kvs k v))
theorem oK.k{H:Hp}{a:Addr}{kvs:List (Key×V)}{k:Key}(e:H a=some (.dK kvs)):oK H a (kV k) (d7 kvs k):=.inl {kvs,k,.inl e,rfl,rfl}
theorem yY.k{H:Hp}{a:Addr}{kvs:List (Key×V)}{k:Key}{v:V}(e:H a=some (.dK kvs))(hl:kvs.length<sizeLine):yY H a (kV k) v (upd H a (.dK (putK kvs k v))):=.inl ⟨kvs,k,e,rfl,hl,rfl⟩
section
variable{X:Cx}{pins:Aaa}{Z:St}{H:Hp}{s:Shared}{a:Addr}{y v:V}{u r:Value}{o:Aan}{A:Around}{E:Aac}
def Inv.big(I:Inv X pins Z H s):sysModules<s.heap.objs.size:=by exact fB (by decide) ((I.mod.glob.keeps I.bk).lt)
def Rg(hu:A.units+1<cLine)(I:Inv X pins Z H s)(g:oK H a y (some v))(ry:RelV y u)(h:∀w' s',Inv X pins Z H s'->RelV v w'->Q w' s'):
  wpAny (model X.prog X.w) A (getItem (.ref a) u) Q E s:=by
 rcases g with⟨kvs,k,e,ey,l⟩|⟨kvs,k,b,e,ey,eb,l⟩
 ·subst ey;obtain⟨z,hd,vs,rel,dd⟩:=yF I.bw e;obtain⟨w',hw,lT⟩:=kW.some_of (l▸rel.val k);exact wpAny_getItem_of (vT ry) dd.mapOf hw (h w' _ (I.tok _) lT)
 ·subst ey;cases(show u=Value.ref b from ry);obtain⟨z,hd,xs,rel,dd⟩:=BE I.bw e;obtain⟨w',hw,lT⟩:=kW.some_of (l▸rel.val k);obtain⟨p,hp,lW⟩:=bb.mp hw;refine zJ (mZ hu) (AB I.bw eb) dd hp ?_;rw[lW];exact h w' _ (I.tok _) lT
def adQ(hu:A.units+1<cLine)(I:Inv X pins Z H s)(g:oK H a y o)(ry:RelV y u)(h:∀s',Inv X pins Z H s'->Q (.bool o.isSome) s'):
  wpAny (model X.prog X.w) A (compareOp .In u (.ref a)) Q E s:=by
 rcases g with⟨kvs,k,e,ey,l⟩|⟨kvs,k,b,e,ey,eb,l⟩
 ·subst ey;obtain⟨z,hd,vs,rel,dd⟩:=yF I.bw e;refine wpAny_in_of (vT ry) hd dd.mapOf ?_;rw[<-(rel.val k).se,<-l];exact h _ (I.tok _)
 ·subst ey;cases(show u=Value.ref b from ry);obtain⟨z,hd,xs,rel,dd⟩:=BE I.bw e;refine wpAny_in_heap (mZ hu) (AB I.bw eb) hd dd ?_;have q:=(rel.val k).se;rw[hZ]at q;rw[<-q,<-l];exact h _ (I.tok _)
def rB(I:Inv X pins Z H s)(mu:RA (H a))(hs:Heap.SameBut a s.heap h')(he:∃q,h'.get? a=some q)(new:cI X.prog X.w (upd H a ob) h' a ob):
  Inv X pins Z (upd H a ob) {s with heap:=h',toks:=t'}:=
 I.write mu (.inl rfl) (λb q hb z=>(hs.2 b hb).trans z) he new
def AX(z:kvs.length<=sizeLine)(hd:(a==sysModules)=false)(rel:KV kvs vs)(dd:h'.DictOf (bJ P w) a vs):
  cI P w H' h' a (.dK kvs):=⟨z,hd,vs,rel,dd⟩
def Q5(hu:A.units+1<cLine)(I:Inv X pins Z H s)(g:yY H a y v H')(ry:RelV y u)(rv:RelV v r)(h:∀s',Inv X pins Z H' s'->Q () s'):
  wpAny (model X.prog X.w) A (setItem (.ref a) u r) Q E s:=by
 rcases g with⟨kvs,k,e,ey,l,eH⟩|⟨kvs,k,b,e,ey,eb,l,eH⟩
 ·subst ey eH;obtain⟨z,hd,vs,rel,dd⟩:=wb I.bw e;refine wpAny_setItem_pairs (hsz:=(by rw[<-rel.length];exact z)) (vT ry) dd λh' qP hs=>h _ ?_;exact rB I (e▸True.intro) hs (let⟨q,_,_,hq,_⟩:=qP;⟨q,hq⟩) (AX (by have:=rP kvs k v;lia) hd (rel.put k rv) qP)
 ·subst ey eH;cases(show u=Value.ref b from ry);obtain⟨z,hd,xs,rel,dd⟩:=ab2 I.bw e;refine zI (hsz:=(by rw[<-a9 rel];exact z)) (mZ hu) (AB I.bw eb) dd λh' qP hs=>h _ ?_;obtain⟨q,es,ep,hq,h2,h3,h4,_,h5⟩:=qP;refine rB I (e▸True.intro) hs ⟨q,hq⟩ {(by have:=rP kvs k v;lia),hd,_,(rel.put k eb rv).keeps λc ys ec=>?_,q,es,ep,hq,h2,h3,h4,h5};rw[aH (Nm ec e (λz=>nomatch z))];exact ec
def T8(i:Expr):Prop:=∀ov iv,subscripted i false ov iv=operate [ov,iv] (getItem ov iv)
end
def Lq{T id:String}
  (hl:typeLookup (.type T) "__getitem__"=pure (some (.builtin id))) (hs:T8 slice)
  (h:wpAny (model prog w) A (eval value env) (λo aaa=>wpAny (model prog w) A (eval slice env) (λi aae=>aae.TypeIs o T/\wpAny (model prog w) A (getItem o i) Q E aae) E aaa) E s):
  wpAny (model prog w) A (eval (.Subscript value slice pos) env) Q E s:=by
 refine E1 (df h (λo aaa acN=>df acN (λi aae aag=>?_) λ_ _ x=>x) λ_ _ x=>x);obtain⟨hT,aag⟩:=aag;refine ae ?_;refine ae (gg hT hl ?_);have fin:wpAny (model prog w) A (subscripted slice false o i) (λr aah=>wpAny (model prog w) A (letTemporaryGo value o r>>=λ_=>pure r) Q E aah) E aae:=by rw[hs o i];exact wpAny_operating (df aag (λr aah acM=>ae (wpAny_letTemporaryGo (af acM))) λ_ _ x=>x)
 first
  |exact af (ae fin)
  |exact ae (af (ae fin))
  |exact ae fin
def KW(I:Inv X pins Z H s)(g:oK H a y o):s.TypeIs (.ref a) "dict":=by
 rcases g with⟨kvs,k,e,_,_⟩|⟨kvs,k,b,e,_,_,_⟩
 ·obtain⟨_,_,vs,_,dd⟩:=yF I.bw e;exact dd.typeIs
 ·obtain⟨_,_,xs,_,dd⟩:=BE I.bw e;exact dd.typeIs
inductive Yr(Q:VK)(x:V)(y:V)(H2:Hp):Prop
 |mk a v (_:x=.ref a) (_:oK H2 a y (some v)) (_:Q v H2)
def abp(td ty:TE):TE:=λZ H Q=>td Z H λx H1=>ty Z H1 λy H2=>Yr Q x y H2
inductive abo(Q:VK)(y:V)(x:V)(H2:Hp):Prop
 |mk a o (_:x=.ref a) (_:oK H2 a y o) (_:Q (.bl o.isSome) H2)
def ack(ty td:TE):TE:=λZ H Q=>ty Z H λy H1=>td Z H1 λx H2=>abo Q y x H2
inductive YC(D:Ends)(Z:St)(v:V)(x:V)(y:V)(H3:Hp):Prop
 |mk a H4 (_:x=.ref a) (_:yY H3 a y v H4) (_:D.nx Z H4)
def abv(td ty tv:TE):TS:=λD Z H=>tv Z H λv H1=>td Z H1 λx H2=>ty Z H2 λy H3=>YC D Z v x y H3
section
variable{X:Cx}{o i value:Expr}{pos pos':Pos}{td ty tv:TE}
def Fn(hu:X.A.units+1<cLine)(ho:PE X o td)(hi:PE X i ty)(hs:T8 i):PE X (.Subscript o i pos) (abp td ty):=by intro pins s Z H Q I h;refine Lq PySem.F.slot_dict_getitem.lookup hs (cX (ho pins s Z H _ I h) λu s1 x H1 I1 rx q1=>cX (hi pins s1 Z H1 _ I1 q1) λiv s2 y H2 I2 ry ac8=>?_);obtain⟨a,v,ex,g,q2⟩:=ac8;subst ex;obtain rfl:u=Value.ref a:=rx;exact{KW I2 g,Rg hu I2 g ry λw' s3 I3 lT=>⟨v,H2,I3,lT,q2⟩}
def Ed(hu:X.A.units+1<cLine)(hi:PE X i ty)(ho:PE X o td):PC X .In i o (ack ty td):=by intro pins s Z H Q I h;refine cX (hi pins s Z H _ I h) λiv s1 y H1 I1 ry q1=>cX (ho pins s1 Z H1 _ I1 q1) λu s2 x H2 I2 rx ac7=>?_;obtain⟨a,ov,ex,g,q2⟩:=ac7;subst ex;obtain rfl:u=Value.ref a:=rx;exact adQ hu I2 g ry λs3 I3=>{.bl ov.isSome,H2,I3,rfl,q2}
def xl(hu:X.A.units+1<cLine)(ho:PE X o td)(hi:PE X i ty)(hv:PE X value tv)(hs:swapsWith value (some (.Subscript o i pos')) pos.line X.env=pure false):
  PS X (.Assign [.Subscript o i pos'] value pos) (abv td ty tv):=by
 intro pins s Z H D I h;refine wq (cX (hv pins s Z H _ I h) λr s1 v H1 I1 rv q1=>cX (ho pins s1 Z H1 _ I1 q1) λu s2 x H2 I2 rx q2=>cX (hi pins s2 Z H2 _ I2 q2) λiv s3 y H3 I3 ry ac6=>?_) hs;obtain⟨a,H4,ex,g,q3⟩:=ac6;subst ex;obtain rfl:u=Value.ref a:=rx;exact Q5 hu I3 g ry rv λs4 I4=>⟨Z,H4,I4,q3⟩
def J3(h:Heap)(hb:sysModules<h.objs.size):cI P w H (h.push {cls:=.type "dict",data:=.dict #[]}) h.objs.size (.dK []):=
 {aR _,du.mpr (bY (aG hb)),[],.nil,Heap.DictOf.new h}
def Yo:TE:=λ_ H Q=>∀p,H p=none->Q (.ref p) (upd H p (.dK []))
def kD:PE X (.Dict [] [] pos) Yo:=λpins s Z H Q I h=>
 wpAny_Dict_empty {.ref s.heap.objs.size,_,I.laid (λ_ _ q=>ah _ q) (ao _) (J3 s.heap I.big),rfl,h _ (I.bw.fresh (ao _))}
end
def HI:List (TE×TE)->St->Hp->(Aak->Hp->Prop)->Prop
 |[],_,H,Q=>Q [] H
 |(tk,tv)::r,Z,H,Q=>tk Z H λx H1=>tv Z H1 λy H2=>HI r Z H2 λps H3=>Q ((x,y)::ps) H3
abbrev VV:Aak->List (Value×Value)->Prop:=Paired λp q=>RelV p.1 q.1/\RelV p.2 q.2
def MF(X:Cx)(pos:Pos)(keys:List (Option Expr))(values:List Expr)(Hx:List (TE×TE)):Prop:=
 ∀(pins:Aaa)(s:Shared)(Z:St)(H:Hp)(Q:Aak->Hp->Prop),Inv X pins Z H s->HI Hx Z H Q->
  wpAny (model X.prog X.w) X.A (evalPairs (pairTrees keys values X.env pos)) (λvs s'=>∃ps H',Inv X pins Z H' s'/\VV ps vs/\Q ps H') X.xe s
def WA:MF X pos [] [] []:=λpins s Z H Q I h=>pairTrees_nil_walk {[],H,I,.nil,h}
def Sg(hk:PE X k tk)(hv:PE X v tv)(hr:MF X pos ks vs Hx):
  MF X pos (some k::ks) (v::vs) ((tk,tv)::Hx):=λpins s Z H Q I h=>
 pairTrees_cons_walk (cX (hk pins s Z H _ I h) λu s1 x H1 I1 rx q1=>cX (hv pins s1 Z H1 _ I1 q1) λw2 s2 y H2 I2 ry q2=>
  iB (hr pins s2 Z H2 _ I2 q2) λws s3 ⟨ps,H3,I3,rel,q3⟩=>{(x,y)::ps,H3,I3,.cons ⟨rx,ry⟩ rel,q3})
def kP(kvs more:List (Key×V)):List (Key×V):=more.foldl (λacc kv=>putK acc kv.1 kv.2) kvs
def KV.merge:∀{more:List (Key×V)}{rs:List (Key×Value)}{kvs:List (Key×V)}{vs:List (Key×Value)},KV more rs->KV kvs vs->KV (kP kvs more) (merged vs rs):=by
 intro more rs kvs vs r
 induction r generalizing kvs vs with
 |nil=>intro q;exact q
 |@cons p q ps qs h t ih=>
  intro r0;have e:KV (putK kvs p.1 p.2) (stored vs q.1 q.2):=by have:=r0.put p.1 h.2;rw[<-h.1];exact this
  exact ih e
theorem lV:∀(more kvs:List (Key×V)),(kP kvs more).length<=kvs.length+more.length
 |[],kvs=>by show kvs.length<=kvs.length+0;lia
 |p::r,kvs=>by have h1:=lV r (putK kvs p.1 p.2);have h2:=rP kvs p.1 p.2;show(kP (putK kvs p.1 p.2) r).length<=_;rw[bu];lia
structure M1(X:Cx)(o:Expr)(m:Str)(apos:Pos)(e:Expr)(dU:Pos):Prop where
 base:attributeBase o m X.env (eval o X.env)=eval o X.env
 gj:((backTo dU (starEach [e] X.env)).all (λx=>!x.1)&&(backToKw dU (keywordEach [] X.env)).all (λx=>x.1.isSome)
  &&decide (([e]:List Expr).length+([]:List Keyword).length+(if([]:List Keyword).isEmpty then 0 else 1)<30))=true
 line:(apos.endLine==dU.line)=true
 trees:backTo dU (starEach [e] X.env)=[(false,eval e X.env)]
structure M2(X:Cx)(o:Expr)(m:Str)(apos:Pos)(e f:Expr)(dU:Pos):Prop where
 base:attributeBase o m X.env (eval o X.env)=eval o X.env
 gj:((backTo dU (starEach [e,f] X.env)).all (λx=>!x.1)&&(backToKw dU (keywordEach [] X.env)).all (λx=>x.1.isSome)
  &&decide (([e,f]:List Expr).length+([]:List Keyword).length+(if([]:List Keyword).isEmpty then 0 else 1)<30))=true
 line:(apos.endLine==dU.line)=true
 trees:backTo dU (starEach [e,f] X.env)=[(false,eval e X.env),(false,eval f X.env)]
def IsD(H:Hp)(a:Addr):Prop:=(∃kvs,Rd H a (.dK kvs))\/∃kvs,Rd H a (.dT kvs)
def ZR(I:Inv X pins Z H s)(d:IsD H a):
  s.TypeIs (.ref a) "dict"/\(∀b,Value.ref a=.ref b->∃ob,s.heap.get? b=some ob/\ob.dict=none)/\(a==sysModules)=false:=by
 rcases d with⟨kvs,e⟩|⟨kvs,e⟩
 ·obtain⟨_,hd,vs,_,dd⟩:=yF I.bw e;refine{dd.typeIs,λb q=>?_,hd};cases q;obtain⟨ob,_,_,h1,h2,_⟩:=dd;exact{ob,h1,h2.2.1}
 ·obtain⟨_,hd,xs,_,dd⟩:=BE I.bw e;refine{dd.typeIs,λb q=>?_,hd};cases q;obtain⟨ob,_,_,h1,h2,_⟩:=dd;exact{ob,h1,h2.2.1}
section
variable{X:Cx}{pins:Aaa}{Z:St}{H:Hp}{s:Shared}{a:Addr}{y d:V}{u r:Value}{o:Aan}{A:Around}{E:Aac}
def aaW(hu:A.units+1<cLine)(I:Inv X pins Z H s)(g:oK H a y o)(ry:RelV y u)(rd:RelV d r)(h:∀w' s',Inv X pins Z H s'->RelV (o.getD d) w'->Q w' s'):
  wpAny (model X.prog X.w) A (call (.builtin "dict.get") [.ref a,u,r]) Q E s:=by
 rcases g with⟨kvs,k,e,ey,l⟩|⟨kvs,k,b,e,ey,eb,l⟩
 ·subst ey;obtain⟨z,hd,vs,rel,dd⟩:=yF I.bw e;refine nv jl dd.typeIs oW (oA _ _ _) (meets_dict_get_default (bJ X.prog X.w) a (vT ry) hd r) {_,dd.mapOf,h _ _ (I.tok _) ?_};rw[l];exact(rel.val k).getD rd
 ·subst ey;cases(show u=Value.ref b from ry);obtain⟨z,hd,xs,rel,dd⟩:=BE I.bw e;refine nv jl dd.typeIs oW (oA _ _ _) (vB (tupleKind (bJ X.prog X.w)) a b hd r) {mZ hu,k,xs,AB I.bw eb,dd,h _ _ (I.tok _) ?_};rw[l];exact(rel.val k).getD rd
end
inductive Wd(ty:TE)(tx:TE)(Z:St)(Q:VK)(x:V)(H1:Hp):Prop
 |mk a (_:x=.ref a) (_:IsD H1 a) (_:ty Z H1 λy H2=>tx Z H2 λz H3=>∃o,oK H3 a y o/\Q (o.getD z) H3)
def Yq(td ty tx:TE):TE:=λZ H Q=>td Z H λx H1=>Wd ty tx Z Q x H1
section
variable{X:Cx}{o e f:Expr}{apos dU:Pos}{td ty tx:TE}
def C8(hu:X.A.units+1<cLine)(ho:PE X o td)(he:PE X e ty)(hf:PE X f tx)(m:M2 X o "get" apos e f dU):PE X (.Call (.Attribute o "get" apos) [e,f] [] dU) (Yq td ty tx):=by intro pins s Z H Q I h;refine sY m.base m.gj m.line dZ jl xP (cX (ho pins s Z H _ I h) λu s1 x H1 I1 rx ac5=>?_);obtain⟨a,ex,d,q1⟩:=ac5;subst ex;obtain rfl:u=Value.ref a:=rx;obtain⟨t1,t2,_⟩:=ZR I1 d;refine{t1,t2,?_};rw[m.trees];refine eM rfl (lK (fU (cX (he pins s1 Z H1 _ I1 q1) λiv s2 y H2 I2 ry q2=>fU (cX (hf pins s2 Z H2 _ I2 q2) λfv s3 z H3 I3 rz ⟨ov,g,q3⟩=>kK ?_))));exact aaW hu I3 g ry rz λw' s4 I4 lT=>⟨_,H3,I4,lT,q3⟩
variable{pins:Aaa}{Z:St}{H:Hp}{s:Shared}{a:Addr}{kvs:List (Key×V)}{A:Around}{E:Aac}
def TR(I:Inv X pins Z H s)(e:Rd H a (.dK kvs))(h:∀p s',H p=none->Inv X pins Z (upd H p (.dK kvs)) s'->Q (.ref p) s'):wpAny (model X.prog X.w) A (call (.type "dict") [.ref a]) Q E s:=by obtain⟨z,hd,vs,rel,dd⟩:=yF I.bw e;refine kt_call_dict hd dd (rel.length▸z) λh' qP hs=>?_;exact h _ _ (I.bw.fresh (ao _)) (I.laid (λb q hq=>(hs.2 b (aG (aD hq))).trans (ah _ hq)) (ao _) (AX z (du.mpr (bY (aG I.big))) rel qP))
end
end L2
namespace Att
open PySem PySem.W PySem.Calls PyProof.Rows
def Em:∀(ns:List Int)(vs:Aae),WellAll P h vs (ns.map WData.int)->IntsAre vs ns:=by
 intro ns
 induction ns with
 |nil=>
  intro vs w;cases w;exact .nil
 |cons n ns ih=>
  intro vs w;cases w with
  |cons a b=>
   cases a;exact .cons _ _ (ih _ b)
def OS{l:OpenLaw}(hn:l.most=some n)
  (NN:l.row.toRowW.claim.pre args=true) (Z6:WellAll P h vals args):
  ∃a vs ns,vals=[Value.ref a]/\args=[WData.list (ns.map WData.int)]/\h.get? a=some {cls:=.type "list",data:=.seq vs.toArray}/\IntsAre vs ns/\ns.length<=n:=by
 have hc:l.pre.holds [] {args:=args}=true:=(pre_splitW NN).2;obtain⟨d,r,rfl,h1,h2⟩:=hasAllW_cons ((pre_splitW NN).1);obtain rfl:=hasAllW_nil h2;obtain⟨xs,rfl,h3⟩:=hasW_list h1;obtain⟨ns,rfl⟩:=items_int h3;have hlen:ns.length<=n:=by
  have h4:(WTm.not (.lt (.lit (.int (n:Int))) (.len (.arg 0)))).holds [] {args:=[.list (ns.map .int)]}=true:=by have h4:=(holds_andW hc).1;rw[hn]at h4;exact h4
  have h5:=condW_of h4 (w_not (w_lt w_lit (w_len_list (w_arg rfl))));refine jQ λq=>?_
  first
   |(rw[aX q']at h5;exact absurd h5 (by decide))
   |(simp at h5;lia)
 cases Z6 with
 |cons w1 w2=>
  cases w2;cases w1 with
  |list ho mw=>exact{_,_,ns,rfl,rfl,ho,Em ns _ mw,hlen}
def O7(l:OpenLaw)(args:List WData):l.row.toRowW.claim.post args (.bool true) args=true:=
 postW_of
  (show WShape.has [] (.bool true) .bool=true by first|rfl|decide|simp[WShape.has,WShape.arms,WShape.armsAll])
  (show(WTm.eq .res (.lit (.bool true))).value [] {args:=args,res:=some (.bool true),after:=args}=some (.bool (true==true))from w_eq_bool (w_res rfl) w_lit) rfl
def K3{l:OpenLaw}
  (hn:l.most=some n) (QC:d.params.defaults=[])
  (call:∀(w:World)(aab aaa:Shared)(mg mb:Aab)(fa:Addr)(o:Obj)(pm cd doc:Value)(a:Addr)(vs:Aae)(ns:List Int),
   Ground q loose [] XP w aab mg mb aaa.heap->YP w aaa.heap->
   aaa.heap.get? fa=some o->o.data=.func (docDef d.name d.params d.body d.scope pm cd doc)->aaa.heap.CodeRec cd d.name->mg d.name=some (.ref fa)->
   aaa.heap.get? a=some {cls:=.type "list",data:=.seq vs.toArray}->IntsAre vs ns->ns.length<=n->aaa.gens=#[]->
   codeAny (model l.prog w) callerA (.call (.ref fa) {[.ref a],[]}) (λr s'=>r=.ok (.ret (.bool true))/\OldK aaa.heap s'.heap/\s'.os=aaa.os/\AllBare s'.gens) aaa):
  WalkO q loose XP YP l.row.toRowW d [] (λf vs=>PySem.call f vs):=by
 intro w aab aaa mg mb G Y fa o pm cd doc dV kV ho hd AN hD Qs hg args vals as NN aeh Md Z6 Qu;obtain rfl:dV=.none:=Dflts.none hD QC;obtain rfl:kV=.none:=Dflts.noKw hD;obtain⟨a,vs,ns,rfl,rfl,S9,hints,hlen⟩:=OS hn NN Z6;refine enter_call (kU (call w aab aaa mg mb fa o pm cd doc a vs ns G Y ho (fd_plain hd) AN Qs S9 hints hlen hg) λr s' hq=>?_);obtain⟨rfl,h2,h3,h4⟩:=hq;exact{.inl {.bool true,.bool true,[],rfl,λ_=>rfl,.bool true,O7 l _,λ_=>{List.Pairwise.nil,λ_ hm=>(nomatch hm)}},h2,h3,h4}
section
def ledger(h:Heap)(L d:Addr):Aaa:=(List.range h.objs.size).filterMap λa=>if a=L\/a=d then none else(h.get? a).map λo=>(a,o)
end
end Att
namespace L2
open PySem PySem.Spec PyProof.Rows
theorem FX:∀{vs:Aae}{ns:List Int},IntsAre vs ns->Vals (ns.map V.int) vs
 |_,_,.nil=>.nil
 |_,_,.cons n t h=>.cons ⟨t,rfl⟩ (FX h)
def Oo(H:Hp):Prop:=∀b,H b=none\/∃o xs,H b=some (.fA o (.lst xs))
def SQ{K:Frag}
  (KX:K.In aaa.heap) (hns:aaa.heap.Ns mainGlobals mg) (hb:aaa.heap.Ns builtinsNs mb) (hbb:∀x:Str,x≠"__name__"->mb x=bootBuiltins x) (adw:aaa.heap.NoLimit) (hg:aaa.gens=#[])
  (ha:aaa.heap.get? a=some {cls:=.type "list",data:=.seq vs.toArray}) (hi:IntsAre vs ns) (hl:ns.length<=sizeLine) (hr:gx k callerA)
  (F:∀base:Heap,K.In base->base.Ns mainGlobals mg->cU P w K mg base CX k fa fd [x] sp) (abS:∀(s:Shared)(u:Value),BindsTo s fd {[u],[]} [(x,u)])
  (GF:∀H:Hp,Oo H->br K H a (ns.map V.int)->sp [.ref a] H (λv _=>v=.bl true) λ_ _ _=>False)
  (hCX:∀H e s',CX [] H aaa (λ_ _ _=>False) e s'->False):
  codeAny (model P w) callerA (.call (.ref fa) {[.ref a],[]}) (λr s'=>r=.ok (.ret (.bool true))/\OldK aaa.heap s'.heap/\s'.os=aaa.os/\AllBare s'.gens) aaa:=by
 have rv:=FX hi;have core:∀H:Hp,Oo H->br K H a (ns.map V.int)->jI P w H aaa.heap->(∀b,H b≠none->b=a)->(H a≠none->K.lookup a=none)->
   codeAny (model P w) callerA (.call (.ref fa) {[.ref a],[]}) (λr s'=>r=.ok (.ret (.bool true))/\OldK aaa.heap s'.heap/\s'.os=aaa.os/\AllBare s'.gens) aaa:=by
  intro H hO hS bw hA hK;have MD:∀{b:Addr}{o:Obj},aaa.heap.get? b=some o->H b=none->(Dj aaa.heap H).get? b=some o:=λe n=>Ti e n;have Pr:∀{b:Addr}{o:Obj}{es:Array DictEntry}{ep:Nat},aaa.heap.get? b=some o->o.data=.dict es ep->H b=none:=λ{b o es ep} e d=>by
   cases q:H b with
   |none=>rfl
   |some u=>
    have e':=hA b (by rw[q];simp);subst e';rw[ha]at e;cases e;have d':=d;cases d'
  have UJ:∀{b:Addr}{m:Aab},aaa.heap.Ns b m->(Dj aaa.heap H).Ns b m:=λ{b m} ⟨o,es,ep,e,d,r⟩=>{o,es,ep,MD e (Pr e d),d,r};have hKb:=λb o e=>MD (KX b o e) (by
   cases q:H b with
   |none=>rfl
   |some u=>
    have e':=hA b (by rw[q];simp);subst e';rw[hK (by rw[q];simp)]at e;cases e)
  have hM:Mod K mg (Dj aaa.heap H):={hKb,UJ hns,{mb,UJ hb,hbb},let⟨mc,h1,h2⟩:=adw;{mc,UJ h1,h2}};refine kU ((F _ hKb (UJ hns)).run callerA [] aaa H {[.ref a],[]} [.ref a] [.ref a] _ _ hr ({rfl,hM,λb o e=>WS e,Bm (Qx _ _),trivial,λb hb=>absurd (show b∈([]:Aah)from hb) (by simp),bw,.of_eq hg}) (abS aaa (.ref a)) (.cons rfl .nil) (GF H hO hS)) λr s' h=>?_;cases r with
  |error e=>exact(hCX H e s' h).elim
  |ok fl=>
   cases fl with
   |next=>exact False.elim h
   |brk=>exact False.elim h
   |cont=>exact False.elim h
   |ret u=>
    obtain⟨v,H',os,bare,un,ads,r',q⟩:=h;have q':=q;subst q';obtain rfl:u=Value.bool true:=r';refine{rfl,OldK.of_keep λb o e=>?_,os,bare};cases q:H b with
    |none=>exact un.keep b o e q (by intro z;exact absurd (show b∈([]:Aah)from z) (by simp)) (by simp)
    |some u=>
     rcases hO b with z|⟨ob,xs,z⟩
     ·rw[q]at z;cases z
     ·have z2:=un.sQ b ob _ z;obtain⟨e1,_⟩:=bw b _ z;obtain⟨e2,_⟩:=ads b _ z2;rw[e]at e1;cases e1;exact e2
 cases hk:K.lookup a with
 |some o=>
  have e:=KX a o hk;rw[ha]at e;cases e;refine core (λ_=>none) (λ_=>.inl rfl) (.inr {_,vs.toArray,_,hk,rfl,rfl,rfl,by rw[aO,hi.length];exact hl,by simpa using rv}) (λb u z=>by have z':=z;cases z') (λb z=>absurd rfl z) λz=>absurd rfl z
 |none=>
  refine core (λb=>if b=a then some (.fA {cls:=.type "list",data:=.seq vs.toArray} (.lst (ns.map V.int)))else none) (λb=>?_) (.inl (.inr ⟨{cls:=.type "list",data:=.seq vs.toArray},aA rfl⟩)) (λb u z=>?_) (λb z=>?_) λ_=>hk
  ·by_cases hb:b=a
   ·exact .inr {_,_,aA hb}
   ·exact .inl (ax hb)
  ·by_cases hb:b=a
   ·have z':=(aA hb).symm.trans z;cases z';subst hb;exact{ha,by rw[ak];exact hl,vs,_,rv,ha}
   ·have z':=(ax hb).symm.trans z;cases z'
  ·by_cases hb:b=a
   ·exact hb
   ·exact absurd (ax hb) z
abbrev KOf{K:Frag}{h:Heap}(_:K.In h):Frag:=K
def V2{l:PySem.W.OpenLaw}{K:Params->Frag}{CX:World->Kw}{sp:World->Sp}
  (hn:l.most=some n) (GG:n<=sizeLine) (QC:d.params.defaults=[]) (hr:gx k callerA)
  (hY:∀(w:World)(h:Heap),YP w h->(K w.params).In h)
  (F:∀(w:World)(mg:Aab)(fa:Addr)(h:Heap),(K w.params).In h->h.Ns mainGlobals mg->mg d.name=some (.ref fa)->
   ∃fd:FuncData,(∀(s:Shared)(u:Value),BindsTo s fd {[u],[]} [(x,u)])/\
    ∀base:Heap,(K w.params).In base->base.Ns mainGlobals mg->cU l.prog w (K w.params) mg base (CX w) k fa fd [x] (sp w))
  (GF:∀(w:World)(H:Hp)(a:Addr)(ns:List Int),ns.length<=n->Oo H->br (K w.params) H a (ns.map V.int)->sp w [.ref a] H (λv _=>v=.bl true) λ_ _ _=>False)
  (hCX:∀(w:World)(H:Hp)(s:Shared)(e:Value)(s':Shared),CX w [] H s (λ_ _ _=>False) e s'->False):
  PySem.W.WalkO q loose XP YP l.row.toRowW d [] (λf vs=>PySem.call f vs):=by
 refine Att.K3 hn QC λw aab aaa mg mb fa o pm cd doc a vs ns G Y ho hd AN Qs S9 hints hlen hg=>?_;have KX:=hY w _ Y;obtain⟨fd,hb,hF⟩:=F w mg fa _ KX G.T.g Qs;exact SQ KX G.T.g G.T.b G.T.builtins G.T.nolimit hg S9 hints (aL hlen GG) hr hF hb (λH hO hS=>GF w H a ns hlen hO hS) λH e s'=>hCX w H aaa e s'
def inClass(s:Stmt)(j:Nat):Stmt:=match s with
 | .ClassDef _ _ _ body _ _ _ _ _ _ _=>body.getD j (.Pass {0,0,0,0})
 |_=>.Pass {0,0,0,0}
def defArgs(s:Stmt):Arguments:=match s with
 | .FunctionDef _ a _ _ _ _ _ _ _ _=>a
 |_=>{posonlyargs:=[],args:=[],vararg:=none,kwonlyargs:=[],kw_defaults:=[],kwarg:=none,defaults:=[]}
def defBody(s:Stmt):List Stmt:=match s with
 | .FunctionDef _ _ b _ _ _ _ _ _ _=>b
 |_=>[]
def defScope(s:Stmt):Scope:=match s with
 | .FunctionDef _ _ _ _ _ _ sc _ _ _=>sc
 |_=>{kind:=.function,names:=[],isGenerator:=false,isCoroutine:=false}
abbrev fm:Kw:=λ_ _ _ _ _ _=>False
abbrev E0:XK:=λ_ _ _=>False
def Nc:Passes fm X E0:=λ_ _ _ _ _ _ _ h=>h.elim
structure eX(K:Frag)(x qual:Str)(st:Stmt)(f:Addr)(fd:FuncData):Prop where
 ex:∃(oc:Value)(od:Aai)(kV doc pm:Value)(an:Aai)(c6 ct:Value)(An:Array (Aag)),
  fd=fnOf x qual (defArgs st) (defBody st) (defScope st) .none kV doc pm an c6 ct/\K.lookup f=some {oc,od,.func fd,An}/\codeIn K c6 qual=true
 kp:keepIn K (.ref f)=true
section
variable{P:Program}{w:World}{K:Frag}{mg:Aab}{base:Heap}
def eX.ok{st:Stmt}(F:eX K x qual st f fd)(S:cv N ps (defScope st))(len:∀vs H Q E,sp vs H Q E->vs.length=ps.length)
  (NT:∀(c6:Value)(A:Around)(outer:List Env)(s:Shared)(H:Hp)(vs:Aam)(Q:VK)(E:XK),gx k (A.deeper (envOfC qual (defScope st) s.heap.objs.size f c6))->sp vs H Q E->
   ∃t,nK (FD fm P w K mg base N qual (defScope st) f c6 A outer s H E).Po (defBody st) t/\t {nx:=λ_ H'=>Q .cb H',rt:=Q} (start N vs) H):cU P w K mg base fm (k+1) f fd ps sp:=by
 obtain⟨oc,od,kV,doc,pm,an,c6,ct,An,rfl,lk,AN⟩:=F.ex;refine abX lk AN S len λA outer s H vs Q E hr GF=>?_;obtain⟨t,h,q⟩:=NT c6 A outer s H vs Q E hr GF;exact{t,h.Po,q}
def eX.binds{st:Stmt}(F:eX K x qual st f fd)
  (h:∀(kV doc pm:Value)(an:Aai)(c6 ct:Value)(us:Aae),us.length=ps.length->bindArgs (fnOf x qual (defArgs st) (defBody st) (defScope st) .none kV doc pm an c6 ct) {us,[]}=pure (ps.zip us)):Binds K fd ps []:=by
 obtain⟨oc,od,kV,doc,pm,an,c6,ct,An,rfl,lk,AN⟩:=F.ex;exact .all (h kV doc pm an c6 ct)
def QQ{st:Stmt}{kV doc pm c6 ct:Value}(l:K.lookup f=some {oc,od,.func (fnOf x qual (defArgs st) (defBody st) (defScope st) .none kV doc pm an c6 ct),An})
  (c:codeIn K c6 qual=true) (k:keepIn K (.ref f)=true):eX K x qual st f (fnOf x qual (defArgs st) (defBody st) (defScope st) .none kV doc pm an c6 ct):={⟨oc,od,kV,doc,pm,an,c6,ct,An,rfl,l,c⟩,k}
def qh(hr:gx k A):A.units+1<cLine:=cL (zD (by decide:1<=64) _) hr.units
def bN(h:n<=1000):n<sizeLine:=cL h (by decide)
variable{X:Cx}
def pv(i:Nat)(hN:X.N[i]?=some x:=by rfl)(hv:Vis X.env.scope x:=by first|exact Or.inl rfl|exact Or.inr (Or.inl rfl)|exact Or.inr (Or.inr rfl))(hd:(x==("__debug__":Str))=false:=by decide)
  (AN:(x==("__classdict__":Str))=false:=by decide):PE X (.Name x pos) (Yd i):=YV hN hv hd AN
def uS{A B:Prop}(h:B):if false=true then A else B:=by exact h
def wG{A B:Prop}(h:A):if true=true then A else B:=by exact h
def eZ{c A B:Prop}[Decidable c](h1:c->A)(h2:¬c->B):if c then A else B:=by
 by_cases h:c
 ·rw[aA h];exact h1 h
 ·rw[ax h];exact h2 h
def aQ(H H':Hp):Prop:=∀b o,H b=some o->H' b=some o
def aQ.refl(H:Hp):aQ H H:=λ_ _ h=>h
def aQ.trans(a:aQ H H1)(b:aQ H1 H2):aQ H H2:=λc o h=>b c o (a c o h)
def aQ.free(e:aQ H H')(h:H' l=Option.none):H l=Option.none:=by
 cases q:H l with
 |none=>rfl
 |some o=>
  rw[e l o q]at h;cases h
end
section
variable{κ:Type}[DecidableEq κ]
def RG{k:κ}(h:d7 kvs k=none):¬k∈kvs.map (·.1):=by intro m;obtain⟨p,hp,e⟩:=aJ.mp m;have q:(kvs.any λkv=>decide (kv.1=k))=true:=pC.mpr {p,hp,aX e};rw[mX,h]at q;exact absurd q (by simp)
def V4{k:κ}{v:V}(h:d7 kvs k=some v):k∈kvs.map (·.1):=by
 have q:(kvs.any λkv=>decide (kv.1=k))=true:=by rw[mX,h];all_goals rfl
 obtain⟨p,hp,e⟩:=pC.mp q;exact aJ.mpr {p,hp,aW e}
end
def Its(z:Str):It:={λi _=>i<z.cps.size,λi H x H'=>H'=H/\∃c,z.cps[i]?=some c/\x=.str ⟨#[c]⟩,λi _=>i=z.cps.size}
def FW(hh:A.handled=none)(I:Addr)(x:Str)(t:Tok):
  Walks prog w A I [I] [I] x.cps.size (SignAt x) (λi h=>h.IsStrIter I (strIterType x) x t i):=by
 unfold strIterType;cases x.cps.all (·<128)with
 |true=>exact Walks.strAscii hh I x t
 |false=>exact Walks.strWide hh I x t
def G5(x:Str):["enumerate","zip","dict_itemiterator","dict_reverseitemiterator","odict_iterator","itertools.zip_longest","itertools.pairwise"].contains (strIterType x)=false:=by
 unfold strIterType;cases x.cps.all (·<128)with
 |true=>decide
 |false=>decide
def RK{K:Frag}(it:Addr)(z:Str)(t:Tok):Turn P w K tg (Its z) [it] it (λi h=>h.IsStrIter it (strIterType z) z t i) where
 mem:=by simp
 obj:=λi h st b hb=>by
  have e:b=it:=by simpa using hb
  subst e;obtain⟨o,e,c,d⟩:=st;exact{o,e,λv z=>by rw[d]at z;cases z}
 keep:=λi h h' st k=>by obtain⟨o,e,r⟩:=st;exact{o,k it (by simp) o e,r}
 item:=by intro X hP hw hK hc i pins s Z H E I hf st hg;subst hP hw hK;obtain⟨f0,f1,f2,f3,f4,f5⟩:=hf it (by simp);refine(FW (prog:=X.prog) (w:=X.w) (I.ok.hd hc) it z t).item i s _ _ hg st λv h' tk hv lO kk=>?_;obtain⟨c,u,zk,rfl⟩:=hv;obtain⟨o,e,c1,d1⟩:=id lO;exact{_,rfl,EF e c1 d1 (G5 z) {.str ⟨#[c]⟩,H,(I.turned (λb o hb e=>kk b o (by simpa using hb) e) f0 f1 f3 f4 f5),⟨u,rfl⟩,⟨rfl,c,zk,rfl⟩,lO,λb hb=>(hf b hb).1}}
 done:=by intro X hP hw hK hc i pins s Z H E I hf st hg;subst hP hw hK;obtain⟨f0,f1,f2,f3,f4,f5⟩:=hf it (by simp);have e:=hg;subst e;exact(FW (prog:=X.prog) (w:=X.w) (I.ok.hd hc) it z t).done s _ _ st λh' tk kk=>{rfl,I.turned (λb o hb e=>kk b o (by simpa using hb) e) f0 f1 f3 f4 f5}
 self:=λA i s Q E st h=>by
  unfold strIterType at st;cases hx:z.cps.all (·<128)with
  |true=>rw[hx]at st;exact wpAny_pyIter_striter_ascii st h
  |false=>rw[hx]at st;exact wpAny_pyIter_striter_wide st h
section
variable{X:Cx}{tg:Expr}
inductive abK(R:It->Hp->Prop)(x:V)(H1:Hp):Prop
 |mk z (_:x=.str z) (_:R (Its z) H1)
def acL(tl:TE):TI:=λZ H R=>tl Z H λx H1=>abK R x H1
def YU(hl:PE X l tl):PI X tg l (acL tl):=by
 intro pins s Z H R I h;refine cX (hl pins s Z H _ I h) λv s1 x H1 I1 r1 q1=>?_;obtain⟨z,e,q⟩:=q1;subst e;obtain⟨t,rfl⟩:=r1;refine wpAny_pyIter_strU ?_;have I2:Inv X pins Z H1 {s1 with heap:=s1.heap.push {cls:=.type (strIterType z),data:=.fields #[.str z t,.int 0 0]}}:=I1.kept λb o e=>ah _ e;refine{s1.heap.objs.size,[s1.heap.objs.size],_,Its z,H1,rfl,I2,RK s1.heap.objs.size z t,{_,aB _ rfl,rfl,rfl},λb hb=>?_,q};have e:b=s1.heap.objs.size:=by simpa using hb
 subst e;exact I1.uZ (ao _) (I1.bw.fresh (ao _))
def frees(scope:Scope):Aaf:=(scope.names.filter λp=>p.2==.free).map (·.1)
def Dx(scope:Scope)(env:Env):List (Str×Addr):=(frees scope).reverse.map λn=>(n,(env.cells.lookup n).getD 0)
theorem FG(env:Env):∀(names:List (Str×NameKind))(cs:List (Str×Addr)),(∀n∈(names.filter λp=>p.2==.free).map (·.1),∃c,env.cells.lookup n=some c)->
  (forIn names cs λ(x:Str×NameKind)(r:List (Str×Addr))=>(if x.2==.free then do let c<-cellOf env x.1;pure (ForInStep.yield ((x.1,c)::r))else pure (ForInStep.yield r):Sem (ForInStep (List (Str×Addr)))))=
   pure ((((names.filter λp=>p.2==.free).map (·.1)).reverse.map λn=>(n,(env.cells.lookup n).getD 0))++cs)
 |[],cs,_=>rfl
 |(n,k)::r,cs,h=>by
  rw[List.forIn_cons];cases hk:(k==NameKind.free)with
  |false=>
   have ih:=FG env r cs (λm hm=>h m (by simpa[iI,hk]using hm));simp only[hk,bE,cN,iI,pure_bind];exact ih
  |true=>
   obtain⟨c,hc⟩:=h n (by simp[iI,hk]);have h':=λm hm=>h m (by
    simp only[iI,hk,jJ,bo];exact az _ hm)
   have ec:cellOf env n=pure c:=by unfold cellOf;rw[hc]
   simp only[hk,jJ,iI,bo,tH,aN,jS,jx,lJ,mQ,ec,pure_bind,hc,Option.getD_some];exact(FG env r ((n,c)::cs) h')
def ET(h:∀n∈frees scope,∃c,env.cells.lookup n=some c):closureFor scope env=pure (Dx scope env):=by have e:=FG env scope.names [] h;rw[cJ]at e;have q:closureFor scope env=((forIn scope.names ([]:List (Str×Addr)) λ(x:Str×NameKind)(r:List (Str×Addr))=>(if x.2==.free then do let c<-cellOf env x.1;pure (ForInStep.yield ((x.1,c)::r))else pure (ForInStep.yield r):Sem (ForInStep (List (Str×Addr)))))>>=λr=>pure r):=rfl;rw[q,bind_pure];exact e
theorem Aw{β:Type}(g:Str->β)(y:Str):∀l:Aaf,(l.map λn=>(n,g n)).lookup y=if y∈l then some (g y)else none
 |[]=>by simp
 |n::r=>by
  rw[bo,vt];cases e:(y==n)with
  |true=>
   have e':=iq e;subst e';simp
  |false=>
   have e':y≠n:=λq=>by rw[q]at e;simp at e
   rw[(Aw g y r)];simp[e']
def rS(h:∀n∈frees scope,∃c,env.cells.lookup n=some c):(Dx scope env).lookup y=some c↔y∈frees scope/\env.cells.lookup y=some c:=by
 unfold Dx;rw[Aw (λn=>(env.cells.lookup n).getD 0)];by_cases hy:y∈frees scope
 ·obtain⟨d,hd⟩:=h y hy;rw[aA (vp.mpr hy),hd];simp[hy]
 ·rw[ax λq=>hy (vp.mp q)];simp[hy]
theorem Ax(f:Str->NameKind->NameKind)(y:Str):∀names:List (Str×NameKind),(names.map λp=>(p.1,f p.1 p.2)).lookup y=(names.lookup y).map (f y)
 |[]=>rfl
 |(n,k)::r=>by
  rw[bo,vt,vt];cases e:(y==n)with
  |true=>
   have e':=iq e;subst e';rfl
  |false=>exact(Ax f y r)
def xi(scope:Scope)(env:Env)(y:Str):(relabel scope env).names.lookup y=(scope.names.lookup y).map λk=>if(k==.free&&env.scope.kind==.function&&env.kindOf y==some .cell)=true then NameKind.cell else k:=by
 have e:(relabel scope env).names=scope.names.map λp=>(p.1,(λ(n:Str)(k:NameKind)=>if(k==.free&&env.scope.kind==.function&&env.kindOf n==some .cell)=true then NameKind.cell else k) p.1 p.2):=by refine bC λp _=>?_;obtain⟨n,k⟩:=p;show(if(k==.free&&env.scope.kind==.function&&env.kindOf n==some .cell)=true then(n,NameKind.cell)else(n,k))=_;split<;>simp_all
 rw[e];exact Ax (λ(n:Str)(k:NameKind)=>if(k==.free&&env.scope.kind==.function&&env.kindOf n==some .cell)=true then NameKind.cell else k) y scope.names
end
structure qG(X:Cx)(scope:Scope)(x:Str)(fs:Aaf)(fr:List Nat):Prop where
 kind:scope.kind=.function
 loc:scope.names.lookup x=some .local
 names:∀y∈scope.names,y.2=.local->scope.names.lookup y.1=some .local
 Pp:∀y∈scope.names,y.2≠ .cell
 free:∀n∈frees scope,X.env.kindOf n=some .cell/\scope.names.lookup n=some .free
 nd:(x::fs).Nodup
 len:fr.length=fs.length
 slots:∀(j:Nat)(y:Str)(k:Nat),fs[j]?=some y->fr[j]?=some k->X.N[k]?=some y/\y∈frees scope
abbrev d9(X:Cx)(N':Aaf)(scope:Scope)(C:Addr)(s:Shared)(H:Hp)(ex:Aah):Cx:=
 {X with N:=N',aab:=s,aaf:=H,env:=compEnvC scope (Dx scope X.env) C X.env,outer:=X.stack,stack:=X.stack,ex:=ex,fn:=λ_=>false,pn:=[],xe:=λ_ _=>False}
def CT(X:Cx)(ifs:List Expr)(tt:TT):Prop:=
 ∀(pins:Aaa)(s:Shared)(Z:St)(H:Hp)(Q:Bool->Hp->Prop),Inv X pins Z H s->tt Z H Q->
  wpAny (model X.prog X.w) X.A (forIn ifs true λc r=>if r=true then do let ok<-isTrue c X.env (eval c X.env);pure (ForInStep.yield ok)else pure (ForInStep.yield r)) (TP X pins Z Q) X.xe s
def DV:TT:=λ_ H Q=>Q true H
def Ka:CT X [] DV:=λ_ _ _ H _ I h=>wpAny_tests_nil ⟨H,I,h⟩
def aaX(h:PT X c tc):CT X [c] tc:=λpins s Z H Q I hq=>wpAny_tests_one (h pins s Z H Q I hq)
def slotsOf(fr:List Nat)(Z:St):St:=fr.map λk=>(Z[k]?).getD none
def xZ(wi:TI)(fr:List Nat)(tt:TT)(te:TE):TE:=λZ H Q=>wi Z H λJ H1=>∃W:Nat->Nat->Aam->Hp->Prop,(∃m,W 0 m [] H1)/\∀i m ys H2,W i m ys H2->
 (J.stop i H2/\ys.length<=sizeLine/\∀l,H2 l=none->Q (.ref l) (upd H2 l (.lst ys)))\/
 (J.go i H2/\ys.length<sizeLine/\∀v H3,J.FV i H2 v H3->tt (some v::slotsOf fr Z) H3 λb H4=>
  if b=true then te (some v::slotsOf fr Z) H4 (λy H5=>∃m',m'<m/\W (i+1) m' (ys++[y]) H5)else∃m',m'<m/\W (i+1) m' ys H4)
section
variable{X:Cx}
def Cp{h h':Heap}(k:∀b o,h.get? b=some o->h'.get? b=some o)(z:h.IsCell c v):h'.IsCell c v:=by obtain⟨o,e,d⟩:=z;exact{o,k _ _ e,d}
def Inv.adopt(I:Inv X pins Z H s)(hn:H D=none)(e:s.heap.get? D=some {cls:=.type "list",data:=.seq vs.toArray k})(r:Vals ys vs)(hz:ys.length<=sizeLine)
  (h1:X.aab.heap.objs.size<=D) (hL:D≠X.env.locals) (h2:∀x c,X.env.cells.lookup x=some c->c≠D) (h3:∀p∈X.pn++pins,p.1≠D):Inv X pins Z (upd H D (.lst ys)) s:=by
 have nD:∀b u,H b=some u->b≠D:=λb u q z=>by rw[z,hn]at q;cases q
 have bw:jI X.prog X.w (upd H D (.lst ys)) s.heap:=λb u q=>by
  by_cases hb:b=D
  ·subst hb;rw[ar]at q;cases q;exact⟨hz,vs,k,r,e⟩
  ·rw[aH hb]at q;exact(I.bw b u q).j7 (λ_ _ _ z=>z) (λc z=>by rw[aH (nD c _ z)];exact z) λc xs z=>by rw[aH (nD c _ z)];exact z
 have J:=I.step (t':=s.toks) (d':=s.drawn) (ch:=[D])
  (λb hb=>by
   have e':b=D:=by simpa using hb
   subst e';exact{.inr h1,hL,h2,h3})
  (λb o _ _ _ q _=>q) (λb o _ _ _ q _=>{o.slots,q}) (λb o hc _ n=>by rw[aH λz=>hc (by simp[z])];exact n) (λb o _ q=>⟨o,q⟩)
  (λb xs q=>by rw[aH (nD b _ q)];exact q) (λb o u q=>by rw[aH (nD b _ q)];exact q) (λb ps q=>{#[],by rw[aH (nD b _ q),q];simp}) (λm hm=>hm) bw I.bare
 exact J
def Xr(S:qG X scope x fs fr)(I2:Inv X pins Z H s2)(I3:Inv X pins Z H s)
  (hD:D=s2.heap.objs.size) (hs:s.heap.objs.size=D+1) (cw:∀b∈fp,b<D) (f2:∀b∈fp,pD X pins H b):(d9 X (x::fs) scope s.heap.objs.size s H (D::fp)).Ok:=by
 have zj:=λn hn=>I3.ok.has n (.inl (S.free n hn).1);have sub:∀{y:Str}{c:Addr},(Dx scope X.env).lookup y=some c->X.env.cells.lookup y=some c:=λh=>((rS zj).mp h).2;refine{I3.ok.mod,S.kind,I3.ok.glob,I3.ok.blt,ao _,λa b c h1 h2=>I3.ok.inj a b c (sub h1) (sub h2),λy hy=>?_,(λ_ _ h=>by cases h),I3.ok.hd,I3.ok.frames,.inl rfl,λb hb=>?_,I3.bs,aL I3.ok.CD I3.sz,λb o e hb=>?_,λb hb hf=>?_,I3.stack,I3.Ls}
 ·have q:(relabel scope X.env).names.lookup y=some .cell\/(relabel scope X.env).names.lookup y=some .free:=hy;have nf:scope.names.lookup y=some .free:=by
   rw[xi]at q;cases e:scope.names.lookup y with
   |none=>rw[e]at q;simp at q
   |some k=>
    rw[e]at q;cases k with
    |free=>rfl
    |cell=>
     have hm:(y,NameKind.cell)∈scope.names:=by have:=vF.mp e;obtain⟨l1,l2,z,_⟩:=this;rw[z];simp
     exact absurd rfl (S.Pp _ hm)
    |_=>simp at q
  have hm:y∈frees scope:=by obtain⟨l1,l2,z,_⟩:=vF.mp nf;unfold frees;rw[z];simp
  obtain⟨c,hc⟩:=zj y hm;exact{c,(rS zj).mpr ⟨hm,hc⟩}
 ·rcases aF.mp hb with rfl|hb
  ·refine{λz=>?_,λy c h z=>?_}
   ·exact absurd (hs.symm.trans z.symm:b+1=b) (Nat.succ_ne_self b)
   ·obtain⟨v,q⟩:=I2.cell y c (sub h);have:=q.lt;rw[z,hD]at this;exact absurd this (dy _)
  ·refine{λz=>?_,λy c h=>(f2 b hb).2.2.2.2.1 y c (sub h)};have q:=dD (cw b hb);rw[z]at q;exact absurd q (by show ¬s.heap.objs.size<D+1;rw[hs];exact dy _)
 ·have gJ:=aD e;have h1:=I2.ok.CD;rcases aF.mp hb with rfl|hb
  ·rw[hD]at gJ;exact absurd (aV gJ (aL h1 I2.sz)) (dy _)
  ·rcases(f2 b hb).2.2.2.1 with z|z
   ·exact I2.ok.Fq b o e z
   ·exact absurd (aV gJ (aL h1 z)) (dy _)
 ·have hf':=hf;rcases aF.mp (I2.HK b hf')with z|z
  ·rcases aF.mp hb with rfl|hb
   ·have:=I2.lt;rw[<-z,hD]at this;exact absurd this (dy _)
   ·exact(f2 b hb).2.1 z
  ·rcases aF.mp hb with rfl|hb
   ·exact I2.Y8 (Bm hD.symm) z
   ·exact(f2 b hb).2.2.1 z
def TZ(S:qG X scope x fs fr)(I3:Inv X pins Z H s)
  (ok:(d9 X (x::fs) scope s.heap.objs.size s H ex).Ok) (hn:h4.Ns s.heap.objs.size m) (old:∀b o,s.heap.get? b=some o->h4.get? b=some o):
  Inv (d9 X (x::fs) scope s.heap.objs.size s H ex) [] (none::slotsOf fr Z) H {s with heap:=h4,toks:=t}:=by
 have zj:=λn hn=>I3.ok.has n (.inl (S.free n hn).1);have sub:∀{y:Str}{c:Addr},(Dx scope X.env).lookup y=some c->X.env.cells.lookup y=some c:=λh=>((rS zj).mp h).2;refine{ok,rfl,I3.bare,Un.kept old,{m,hn,λi y v e1 e2 e3=>?_},λy c h=>?_,I3.bw.fresh (ao _),λy c h=>I3.nX y c (sub h),λp hp=>absurd hp (by simp),I3.bw.kept old,?_}
 ·cases i with
  |zero=>
   have GO:(none:Aan)=some v:=by simpa using e2
   cases GO
  |succ j=>
   have GO:(slotsOf fr Z)[j]?=some (some v):=by simpa using e2
   unfold slotsOf at GO;rw[aI]at GO;cases hk:fr[j]? with
   |none=>rw[hk]at GO;cases GO
   |some k=>
    rw[hk]at GO;have e4:(Z[k]?).getD none=some v:=by simpa using GO
    have e5:Z[k]?=some (some v):=by
     cases q:Z[k]? with
     |none=>rw[q]at e4;cases e4
     |some z=>rw[q]at e4;exact cc some e4
    obtain⟨n1,n2⟩:=S.slots j y k (by simpa using e1) hk;obtain⟨m0,_,hl⟩:=I3.loc;obtain⟨u,ru,l⟩:=hl k y v n1 e5 (.inr (.inl (S.free y n2).1));have kc:=(S.free y n2).1;rcases l with⟨l,_⟩|⟨_,c,hc,cl⟩
    ·rw[kc]at l;cases l
    ·refine{u,ru,.inr {.inl ?_,c,(rS zj).mpr ⟨n2,hc⟩,Cp old cl}};show(relabel scope X.env).names.lookup y=some .cell;rw[xi,(S.free y n2).2,I3.ok.kind,kc];rfl
 ·obtain⟨v,z⟩:=I3.cell y c (sub h);exact{v,Cp old z}
 ·show(none::slotsOf fr Z).length=(x::fs).length;simp[slotsOf,S.len]
abbrev lobj(vs:Aae)(k:Nat):Obj:={cls:=.type "list",data:=.seq vs.toArray k}
theorem Lf:∀(xs:Aam)(us:Aae),xs.length=us.length->(∀(j:Nat)(x:V)(u:Value),xs[j]?=some x->us[j]?=some u->RelV x u)->Vals xs us
 |[],[],_,_=>.nil
 |[],_::_,h,_=>by cases h
 |_::_,[],h,_=>by cases h
 |x::xs,u::us,h,f=>.cons (f 0 x u rfl rfl) (Lf xs us (by simpa using h) λj a b e1 e2=>f (j+1) a b (by simpa using e1) (by simpa using e2))
def q9(h:yA k v=true):RelV (kV k) v:=by
 rcases gR h with⟨i,t,rfl,rfl⟩|⟨x,t,rfl,rfl⟩
 ·exact⟨t,rfl⟩
 ·exact⟨t,rfl⟩
def range_all(bs:List Bool):((List.range bs.length).all λi=>(bs[i]?).getD true)=bs.all id:=by
 rw[fJ,cQ,cQ];constructor
 ·intro h b hb;obtain⟨i,hi⟩:=dQ.mp hb;have:=h i (dm.mpr (aw.mp hi).1);rw[hi]at this;exact this
 ·intro h i hi;have cw:=dm.mp hi;rw[aq cw];exact h _ (jU cw)
def FI(hc:X.calm=true):gA X (.type "list") (λxs H Q=>∃a kvs,xs=[.ref a]/\H a=some (.dK kvs)/\∀l,H l=none->Q (.ref l) (upd H l (.lst (kvs.map λkv=>kV kv.1)))):=by
 intro pins s Z H xs us Q I r h;obtain⟨a,kvs,rfl,ha,q⟩:=h;obtain⟨u,rfl,ru⟩:=jY r;cases ru;obtain⟨hz,lo,vs,rel,o,es,ep,m⟩:=wb I.bw ha;have hl:=rel.length;refine PySem.W.kdl_call (PySem.W.kdl_dict lo) (I.ok.hd hc) (⟨o,es,m⟩) (hl▸hz) λh' tk sT c' kp e it=>?_;have rv:Vals (kvs.map λkv=>kV kv.1) sT.toList:=by
  refine Lf _ _ (by simp[it.1,hl]) λj x v e1 e2=>?_;obtain⟨k,y,e3,e4⟩:=it.2 j v (by rw[<-bK];exact e2);have e5:(kvs.map (·.1))[j]?=some k:=by rw[rel.keys,aI,e3];rfl
  rw[aI]at e1 e5;cases e6:kvs[j]? with
  |none=>rw[e6]at e1;cases e1
  |some p=>
   rw[e6]at e1 e5;obtain rfl:kV p.1=x:=bM e1;obtain rfl:p.1=k:=bM e5;exact q9 e4
 exact{.ref s.heap.objs.size,_,I.laid kp (ao _) (show cI X.prog X.w _ h' _ (.lst _)from{by rw[ak];exact hz,sT.toList,c',rv,by simpa using e}),rfl,q _ I.fresh}
def xN(hc:X.calm=true):gA X (.builtin "all") (λxs H Q=>∃(a:Addr)(bs:List Bool),xs=[.ref a]/\br X.K H a (bs.map V.bl)/\Q (.bl (bs.all id)) H):=by
 intro pins s Z H xs us Q I r h;obtain⟨a,bs,rfl,ha,q⟩:=h;obtain⟨u,rfl,ru⟩:=jY r;cases ru;obtain⟨aP,rv,p,hz⟩:=I.list ha;have hl:aP.length=bs.length:=by have:=rv.length;simpa using this.symm
 have jw:a≠s.heap.objs.size:=by obtain⟨o,n,e,_⟩:=id p;exact aG (aD e)
 refine call_all_walk (oB p.isList ?_);refine{s.heap.objs.size,_,_,aP.toArray.size,_,_,λi=>(bs[i]?).getD true,rfl,Walks.list (show X.A.in1.handled=none from I.ok.hd hc) s.heap.objs.size a jw aP.toArray,{{_,aB _ rfl,rfl,rfl},p.isList.at λo e=>ah _ e},?_,λh' tk kp=>?_}
 ·intro i v s' Q' E' hP hQ;have hP':aP[i]?=some v:=by simpa using hP
  have hi:i<bs.length:=by rw[<-hl];exact(aw.mp hP').1
  obtain⟨u,hu,ru⟩:=rv.get (by rw[aI,aq hi];rfl);rw[hP']at hu;cases hu;cases ru;refine f7 ?_;have e2:(bs[i]?).getD true=bs[i]:=by rw[aq hi];rfl
  rw[<-e2];exact hQ
 ·refine{.bl (bs.all id),H,I.kept λb o e=>kp b o (by simpa using aG (aD e)) (ah _ e),?_,q};show Value.bool _=Value.bool _;rw[aO,hl,range_all]
def jH:gA X (.builtin "isinstance") (λxs H Q=>∃x n t b,xs=[x,.ty n]/\oF X.K H x t/\kitOne X.K t (.type n)=some b/\Q (.bl b) H):=by intro pins s Z H xs us Q I r h;obtain⟨x,n,t,b,rfl,ty,e,q⟩:=h;obtain⟨u,w',rfl,ru,lT⟩:=tP r;cases lT;exact P6 I ru ty e λtk=>{.bl b,H,I.tok tk,rfl,q}
inductive Ws(x:V)(vs:Aam)(H:Hp)(Q:VK):Prop
 |mk a b (_:x=.str a) (_:vs=[.str b]) (_:Q (.bl (Txt.startswith a b)) H)
def Hb:MH X "str.startswith" Ws:=by intro pins s Z H x vs v us Q I rx rv h;obtain⟨a,b,rfl,rfl,q⟩:=h;obtain⟨t,rfl⟩:=rx;obtain⟨u,rfl,ru⟩:=rv.one;obtain⟨t',rfl⟩:=ru;exact call_gives F.slot_str_startswith (nQ s a t) F.entry_str_startswith (F.args_str_startswith_2 _ _) (gives_str_startswith a b t t') {.bl _,H,I,rfl,q}
inductive acr(x:V)(lo:Option Int)(hi:Option Int)(H:Hp)(Q:VK):Prop
 |mk z (_:x=.str z) (_:z.length<=sizeLine) (_:Q (.str (Txt.slice z lo hi)) H)
def Yx:Ry X acr:=by
 intro pins s Z H x v vl vu lo hi sl Q I rx hs pl pu h;obtain⟨z,rfl,hz,q⟩:=h;obtain⟨t,rfl⟩:=rx;cases pl with
 |none=>
  cases pu with
  |none=>exact{"str",_,F.slot_str_getitem.lookup,nQ _ _ _,j5 (l:=none) (u:=none) (st:=none) hs rfl (pY {aL (qy z _ _) hz,λt' k=>{.str _,H,I.tok k,⟨_,rfl⟩,q}})}
  |int j tj=>exact{"str",_,F.slot_str_getitem.lookup,nQ _ _ _,j5 (l:=none) (u:=some (j,tj)) (st:=none) hs rfl (pY {aL (qy z _ _) hz,λt' k=>{.str _,H,I.tok k,⟨_,rfl⟩,q}})}
 |int i ti=>
  cases pu with
  |none=>exact{"str",_,F.slot_str_getitem.lookup,nQ _ _ _,j5 (l:=some (i,ti)) (u:=none) (st:=none) hs rfl (pY {aL (qy z _ _) hz,λt' k=>{.str _,H,I.tok k,⟨_,rfl⟩,q}})}
  |int j tj=>exact{"str",_,F.slot_str_getitem.lookup,nQ _ _ _,j5 (l:=some (i,ti)) (u:=some (j,tj)) (st:=none) hs rfl (pY {aL (qy z _ _) hz,λt' k=>{.str _,H,I.tok k,⟨_,rfl⟩,q}})}
def ab7(_i j:Int):Prop:=0<j/\j.natAbs.log2<9000
def C9:kz X (binaryOp .FloorDiv) (rI ab7 λi j=>.int (i/j)):=UH λi j _ _ _ _ _ hc q=>by have h1:=hc.1;exact floordiv_int ∅ (by rw[Int.fdiv_eq_ediv_of_nonneg i ∅];exact q) (.inl (PyProof.noPylong_of_log2 hc.2))
mutual
def Dt(K:Frag)(H:Hp):PyData->V->Prop
 | .none,x=>x=.cb
 | .bool b,x=>x=.bl b
 | .int i,x=>x=.int i
 | .str z,x=>x=.str z
 | .list ds,x=>∃a xs,x=.ref a/\br K H a xs/\kJ K H ds xs
 | .tuple ds,x=>∃a xs,x=.ref a/\bf K H a xs/\kJ K H ds xs
 | .dict _,_=>False
def kJ(K:Frag)(H:Hp):List PyData->Aam->Prop
 |[],xs=>xs=[]
 |d::ds,xs=>∃x r,xs=x::r/\Dt K H d x/\kJ K H ds r
end
mutual
theorem C2(I:Inv X pins Z H s):∀(d:PyData)(x:V)(v:Value),Dt X.K H d x->RelV x v->∃as,Reads s.heap v d as
 | .none,x,v,h,r=>by rw[Dt]at h;subst h;cases r;exact{_,.none}
 | .bool b,x,v,h,r=>by rw[Dt]at h;subst h;cases r;exact{_,.bool b}
 | .int i,x,v,h,r=>by rw[Dt]at h;subst h;obtain⟨t,rfl⟩:=r;exact{_,.int i t}
 | .str z,x,v,h,r=>by rw[Dt]at h;subst h;obtain⟨t,rfl⟩:=r;exact{_,.str z t}
 | .list ds,x,v,h,r=>by rw[Dt]at h;obtain⟨a,xs,rfl,hq,ha⟩:=h;cases r;obtain⟨aP,rv,⟨o,n,e,c,_,d⟩,_⟩:=I.list hq;obtain⟨as,ra⟩:=wF I ds xs aP ha rv;exact{_,.list e c d (by simpa using ra)}
 | .tuple ds,x,v,h,r=>by rw[Dt]at h;obtain⟨a,xs,rfl,hq,ha⟩:=h;cases r;obtain⟨aP,rv,⟨o,e,c,n,d⟩,_⟩:=I.tuple hq;obtain⟨as,ra⟩:=wF I ds xs aP ha rv;exact{_,.tuple e c d (by simpa using ra)}
 | .dict _,x,v,h,r=>by rw[Dt]at h;exact h.elim
theorem wF(I:Inv X pins Z H s):∀(ds:List PyData)(xs:Aam)(vs:Aae),kJ X.K H ds xs->Vals xs vs->∃as,ReadsAll s.heap vs ds as
 |[],xs,vs,h,r=>by rw[kJ]at h;subst h;cases r;exact{_,.nil}
 |d::ds,xs,vs,h,r=>by
  rw[kJ]at h;obtain⟨x,r',rfl,h1,h2⟩:=h;cases r with
  |cons r1 r2=>
   obtain⟨as,q1⟩:=C2 I d x _ h1 r1;obtain⟨bs,q2⟩:=wF I ds r' _ h2 r2;exact{_,.cons q1 q2}
end
inductive acx(K:Frag)(neg:Bool)(x:V)(y:V)(H:Hp)(Q:VK):Prop
 |mk d e (_:Dt K H d x) (_:Dt K H e y) (_:SeqAt.shaped d=true) (_:SeqAt.shaped e=true) (_:Q (.bl (if neg then !PyData.eqv d e else PyData.eqv d e)) H)
def YY(hu:X.A.units+64<cLine):kz X (compareOp .NotEq) (acx X.K true):=by intro pins s Z H x y v u Q I rx ry h;obtain⟨d,e,h1,h2,h3,h4,q⟩:=h;obtain⟨as,r1⟩:=C2 I d x v h1 rx;obtain⟨bs,r2⟩:=C2 I e y u h2 ry;exact ne_dataH r1 r2 h3 h4 hu {.bl _,H,I,rfl,q}
theorem yD{K:Frag}:∀zs:Aaf,kJ K H (zs.map PyData.str) (zs.map V.str)
 |[]=>by rw[jS,kJ];rfl
 |z::r=>by exact{_,_,rfl,by rw[Dt],yD r}
theorem Dg:∀zs:Aaf,(∀z∈zs,PyData.strOk z=true)->PyData.canLayAll0 (zs.map PyData.str)=true
 |[],_=>rfl
 |z::r,h=>by simp[PyData.canLayAll0,PyData.canLay0,(h z ay),(Dg r λy hy=>h y (az _ hy))]
theorem yG:∀zs:Aaf,PyData.depthAll (zs.map PyData.str)=0
 |[]=>rfl
 |_::r=>by simp[PyData.depthAll,PyData.depth,yG r]
def Ob(osc:Scope)(N:Aaf)(scope:Scope)(x:Str)(fs:Aaf)(fr:List Nat):Bool:=
 scope.kind==.function&&scope.names.lookup x==some .local&&scope.names.all (λy=>!(y.2==.local)||scope.names.lookup y.1==some .local)&&scope.names.all (λy=>!(y.2==.cell))&&
  (frees scope).all (λn=>osc.names.lookup n==some .cell&&scope.names.lookup n==some .free)&&decide ((x::fs).Nodup)&&fr.length==fs.length&&
  (List.range fs.length).all (λj=>match fs[j]?,fr[j]? with|some y,some k=>N[k]?==some y&&decide (y∈frees scope)|_,_=>false)
end
def dO(h:Ob X.env.scope X.N scope x fs fr=true:=by kernel_rfl):qG X scope x fs fr:=by
 unfold Ob at h;simp only[bF]at h;obtain⟨⟨⟨⟨⟨⟨⟨h1,h2⟩,h3⟩,h4⟩,h5⟩,h6⟩,h7⟩,h8⟩:=h;refine{iq h1,iq h2,λy hy e=>?_,λy hy e=>?_,λn hn=>?_,aW h6,iq h7,λj y k e1 e2=>?_}
 ·have:=cQ.mp h3 y hy;rw[e]at this;simpa using this
 ·have:=cQ.mp h4 y hy;rw[e]at this;simp at this
 ·have:=cQ.mp h5 n hn;rw[bF]at this;exact{iq this.1,iq this.2}
 ·have:=cQ.mp h8 j (dm.mpr (aw.mp e1).1);rw[e1,e2]at this;simp only[bF]at this;exact{iq this.1,aW this.2}
def cR(P:Program)(w:World)(K:Frag)(mg:Aab)(base:Heap)(k:Nat)(x:Str)(ps:Aaf)(sp:Sp):Prop:=
 ∃f fd,cU P w K mg base fm k f fd ps sp/\mg x=some (.ref f)/\keepIn K (.ref f)=true/\Binds K fd ps []
def cl(D:cR X.prog X.w X.K X.mg X.base k x ps sp)(hr:gx j X.A)(ha:PA X (e::es) t)(hk:k<=j:=by decide)(hg:Gl X x:=by rfl)
  (AM:(x==("__debug__":Str))=false:=by decide) (he:starEach (e::es) X.env=(false,eval e X.env)::starEach es X.env:=by rfl) (nh:(backTo pos (starEach es X.env)).any (·.1)=false:=by rfl):
  PE X (.Call (.Name x p) (e::es) [] pos) (Ut sp [] E0 t):=by
 obtain⟨f,fd,F,m,kp,b⟩:=D;exact WJ F (hr.mono hk) hg m kp b .nil Nc ha AM he nh
def cut(n:Nat)(C:St->Hp->Prop)(ht:∃t2,nK X (body.drop n) t2/\∀Z H,C Z H->t2 D Z H)
  (hh:∀t2,nK X (body.drop n) t2->∃t,nK X body t/\((∀Z H,C Z H->t2 D Z H)->t D σ0 H0)):∃t,nK X body t/\t D σ0 H0:=by
 obtain⟨t2,p,q⟩:=ht;obtain⟨t,p',q'⟩:=hh t2 p;exact{t,p',q' q}
def TU{B:St->Hp->Prop}(n:Nat)(C:St->Hp->Prop)(ht:∃t2,nK X (body.drop n) t2/\∀Z H,C Z H->t2 D Z H)
  (hh:∀t2,nK X (body.drop n) t2->∃t,nK X body t/\((∀Z H,C Z H->t2 D Z H)->∀Z H,B Z H->t D Z H)):∃t,nK X body t/\∀Z H,B Z H->t D Z H:=by
 obtain⟨t2,p,q⟩:=ht;obtain⟨t,p',q'⟩:=hh t2 p;exact{t,p',q' q}
def Sm(hg:Gl X x)(hm:∃t,X.mg x=some (.int i t))(hd:(x==("__debug__":Str))=false:=by decide):PE X (.Name x pos) (tC (.int i)):=by obtain⟨t,hm⟩:=hm;exact LN hg hm ⟨t,rfl⟩ hd
def Sl(hg:Gl X x)(hm:∃t,X.mg x=some (.str z t))(hd:(x==("__debug__":Str))=false:=by decide):PE X (.Name x pos) (tC (.str z)):=by obtain⟨t,hm⟩:=hm;exact LN hg hm ⟨t,rfl⟩ hd
section
variable{X:Cx}{K:Frag}
def SV(h:X.K=K:=by rfl):Kr X (R8 K):=h▸fY
def uj(h:X.K=K:=by rfl):Kr X (R7 K):=h▸eU
def Rq(h:X.K=K:=by rfl):gA X (.builtin "len") (λxs H Q=>∃x n,xs=[x]/\Oq K x H n/\Q (.int n) H):=h▸fk
def za(h:X.K=K:=by rfl):kz X (compareOp .NotIn) (rIn K true):=h▸uJ
def pH{A B:Hp->Prop}(h:A H):DV Z H (λb H4=>if b=true then A H4 else B H4):=by show(if true=true then A H else B H);exact h
end
end L2
namespace HT
open PySem PySem.Spec PyProof.Rows
section
variable{prog:Program}{w:World}{A:Around}{E:Aac}{s:Shared}
def zx{t sl:Addr}{items:Aaj}{vl vu:Value}{lo hi:Option Int}{Q:Aac}(ht:IsTup s.heap t items)(hs:s.heap.IsSliceOf sl vl vu .none)(pl:IsPart vl lo)(pu:IsPart vu hi)
  (hw:dN items.size 0 lo=0/\dN items.size items.size hi=items.size) (h:Q (.ref t) s):wpAny (model prog w) A (getItem (.ref t) (.ref sl)) Q E s:=by
 obtain⟨os,JC,qm,QB⟩:=id hs;unfold getItem
 try with_reducible refine bL ?_
 first|refine ae (af ?_)|skip
 refine ae (BJ ht.typeIs (by decide) ?_);refine ae (wpAny_callSpecial?_slot ht.typeIs dY
  (ba dY ht.typeIs zy ?_ (Bc _ _)))
 show wpAny _ _ (Builtin.Tuple.tupleItemsOf (.ref t)>>=_) _ _ s;refine ae (tupleItemsOf_ ht ?_);refine ae (gu (⟨os,JC,qm⟩) ?_);refine ae (uy hs pl pu ?_);have adf:(((dN items.size 0 lo:Nat):Int)==0&&(1:Int)==1&&(dN items.size items.size hi -dN items.size 0 lo)==items.size)=true:=by rw[hw.1,hw.2];simp
 show wpAny _ _ (if(((dN items.size 0 lo:Nat):Int)==0&&(1:Int)==1&&(dN items.size items.size hi -dN items.size 0 lo)==items.size)=true then _ else _) _ _ s;rw[aA adf];refine ae (ae (gu ht.typeIs ?_));refine af ?_
 wp_walk
 exact{_,rfl,af h}
def T4(ht:IsTup s.heap t vs.toArray)(hb:IsTup s.heap b ws.toArray)(h0:vs=[]->Q (.ref b) s)
  (h1:vs≠[]->ws=[]->Q (.ref t) s) (h2:vs≠[]->ws≠[]->Q (.ref s.heap.objs.size) {s with heap:=s.heap.push {cls:=.type "tuple",data:=.seq (vs++ws).toArray}})
  (hsz:vs.length+ws.length<=sizeLine):wpAny (model prog w) A (binaryOp .Add (.ref t) (.ref b)) Q E s:=by
 by_cases hv:vs=[]
 ·obtain⟨⟨cls,dd,data,sl⟩,ho,hc,n,hd⟩:=id ht;obtain⟨⟨adR,Mx,data2,Uy⟩,xD,xG,n2,hd2⟩:=id hb;simp only at hc hd xG hd2;subst hc hd xG hd2;exact A2 ⟨_,ho,rfl⟩ ⟨_,xD,rfl⟩ uK y9 oV oy (nF _ _)
   (tuple_addW0 t b vs.toArray ws.toArray n n2 dd Mx sl Uy (by simp[hv])) {ho,xD,h0 hv}
 ·exact Xu ht hb hv (h1 hv) (h2 hv) hsz
end
end HT
namespace L2
open PySem PySem.Spec PyProof.Rows
section
variable{X:Cx}
inductive YL(K:Frag)(x:V)(lo:Option Int)(hi:Option Int)(H:Hp)(Q:VK):Prop
 |mk a xs (_:x=.ref a) (_:bf K H a xs) (_:((HT.dN xs.length 0 lo=0/\HT.dN xs.length xs.length hi=xs.length)->Q (.ref a) H)) (_:(¬(HT.dN xs.length 0 lo=0/\HT.dN xs.length xs.length hi=xs.length)->∀p,H p=none->Q (.ref p) (upd H p (.tup (mx xs lo hi)))))
def Wf:Ry X (YL X.K):=by
 intro pins s Z H x v vl vu lo hi sl Q I rx hs pl pu h;obtain⟨a,xs,rfl,hx,q1,q2⟩:=h;by_cases hw:HT.dN xs.length 0 lo=0/\HT.dN xs.length xs.length hi=xs.length
 ·cases rx;obtain⟨aP,r,ht,hz⟩:=I.tuple hx;have hlen:aP.toArray.size=xs.length:=aO▸r.length.symm;exact{"tuple",_,dY.lookup,ht.typeIs,HT.zx ht hs pl pu (by rw[hlen];exact hw) {.ref a,H,I,rfl,q1 hw}}
 ·exact Yw pins s Z H (.ref a) v vl vu lo hi sl Q I rx hs pl pu {a,xs,rfl,hx,hw,q2 hw}
inductive UD(K:Frag)(x:V)(y:V)(H:Hp)(Q:VK):Prop
 |mk a b xs ys (_:x=.ref a) (_:y=.ref b) (_:bf K H a xs) (_:bf K H b ys) (_:xs.length+ys.length<=sizeLine) (_:(xs=[]->Q (.ref b) H)) (_:(xs≠[]->ys=[]->Q (.ref a) H)) (_:(xs≠[]->ys≠[]->∀p,H p=none->Q (.ref p) (upd H p (.tup (xs++ys)))))
def WN:kz X (binaryOp .Add) (UD X.K):=by intro pins s Z H x y v u Q I rx ry h;obtain⟨a,b,xs,ys,rfl,rfl,ha,hb,hz,q0,q1,q2⟩:=h;cases rx;cases ry;obtain⟨aP,r1,p1,_⟩:=I.tuple ha;obtain⟨AF,r2,p2,_⟩:=I.tuple hb;refine HT.T4 p1 p2 (λz=>{.ref b,H,I,rfl,q0 (r1.xp.mp z)}) (λn z=>{.ref a,H,I,rfl,q1 (λz=>n (r1.xp.mpr z)) (r2.xp.mp z)}) (λn z=>?_) (by rw[<-r1.length,<-r2.length];exact hz);refine{.ref s.heap.objs.size,_,I.laid (λb ob q=>ah _ q) (ao _) ?_,rfl,q2 (λz=>n (r1.xp.mpr z)) (λw=>z (r2.xp.mpr w)) _ (I.bw.fresh (ao _))};exact{aM▸hz,_,r1.append r2,Bs _ _,_,aB _ rfl,rfl}
inductive acu(K:Frag)(neg:Bool)(x:V)(y:V)(H:Hp)(Q:VK):Prop
 |mk a b xs (_:x=.ref a) (_:y=.ref b) (_:br K H a xs) (_:br K H b []) (_:Q (.bl (if neg then !xs.isEmpty else xs.isEmpty)) H)
def Pf(hu:X.A.units<cLine):kz X (compareOp .Eq) (acu X.K false):=by
 intro pins s Z H x y v u Q I rx ry h;obtain⟨a,b,xs,rfl,rfl,ha,hb,q⟩:=h;cases rx;cases ry;obtain⟨aP,r1,p1,_⟩:=I.list ha;obtain⟨AF,r2,p2,_⟩:=I.list hb;cases r2;cases xs with
 |nil=>
  cases r1;exact SeqAt.eq_listAt (e:=λ_=>true) p1.isList p2.isList rfl hu (λj h1 _=>absurd h1 (hG _)) {.bl true,H,I,rfl,q}
 |cons c l=>
  cases r1 with
  |cons r0 r1=>exact SeqAt.eq_list_lengthsAt p1.isList p2.isList (by simp) hu {.bl false,H,I,rfl,q}
variable{K:Frag}{a:Addr}{xs:Aam}{fr:List Nat}{tt:TT}{te:TE}{Z:St}{H1:Hp}{R:Addr->Aam->Hp->Prop}
abbrev DM(J:It)(fr:List Nat)(tt:TT)(te:TE)(Z:St)(H1:Hp)(R:Addr->Aam->Hp->Prop):Prop:=
 ∃W:Nat->Nat->Aam->Hp->Prop,(∃m,W 0 m [] H1)/\∀i m ys H2,W i m ys H2->
 (J.stop i H2/\ys.length<=sizeLine/\∀l,H2 l=none->R l ys H2)\/
 (J.go i H2/\ys.length<sizeLine/\∀v H3,J.FV i H2 v H3->tt (some v::slotsOf fr Z) H3 λb H4=>
  if b=true then te (some v::slotsOf fr Z) H4 (λy H5=>∃m',m'<m/\W (i+1) m' (ys++[y]) H5)else∃m',m'<m/\W (i+1) m' ys H4)
def yJ(Pv:Nat->Aam->Hp->Prop)(hx:xs.length<sizeLine)(h0:Pv 0 [] H1)(hl:∀i ys H,i<=xs.length->Pv i ys H->bf K H a xs/\ys.length<=i)
  (hs:∀(i:Nat)(x:V)(ys:Aam)(H:Hp)(N:Aam->Hp->Prop),xs[i]?=some x->Pv i ys H->(∀lL H',Pv (i+1) lL H'->N lL H')->
   tt (some x::slotsOf fr Z) H λb H4=>if b=true then te (some x::slotsOf fr Z) H4 (λy H5=>N (ys++[y]) H5)else N ys H4)
  (hd:∀ys H,Pv xs.length ys H->∀l,H l=none->R l ys H):DM (VM K a) fr tt te Z H1 R:=by
 refine{λi m ys H=>m=xs.length -i/\i<=xs.length/\Pv i ys H,{xs.length,by simp,aR _,h0},?_};rintro i m ys H ⟨rfl,hi,p⟩;obtain⟨q,hy⟩:=hl i ys H hi p;by_cases cw:i<xs.length
 ·refine .inr {{xs,_,q,aq cw},by lia,?_};rintro v H3 ⟨rfl,hv⟩;exact hs i v ys H3 (λlL H'=>∃m',m'<xs.length -i/\m'=xs.length -(i+1)/\i+1<=xs.length/\Pv (i+1) lL H') (hv xs q) p λlL H' p'=>{_,by lia,rfl,cw,p'}
 ·have e:i=xs.length:=by lia
  subst e;exact .inl {{xs,q,ao _},by lia,hd ys H p}
def jG(Pv:Nat->Aam->Hp->Prop)(hx:xs.length<sizeLine)(h0:Pv 0 [] H1)(hl:∀i ys H,i<=xs.length->Pv i ys H->br K H a xs/\ys.length<=i)
  (hs:∀(i:Nat)(x:V)(ys:Aam)(H:Hp)(N:Aam->Hp->Prop),xs[i]?=some x->Pv i ys H->(∀lL H',Pv (i+1) lL H'->N lL H')->
   tt (some x::slotsOf fr Z) H λb H4=>if b=true then te (some x::slotsOf fr Z) H4 (λy H5=>N (ys++[y]) H5)else N ys H4)
  (hd:∀ys H,Pv xs.length ys H->∀l,H l=none->R l ys H):DM (VO K a) fr tt te Z H1 R:=by
 refine{λi m ys H=>m=xs.length -i/\i<=xs.length/\Pv i ys H,{xs.length,by simp,aR _,h0},?_};rintro i m ys H ⟨rfl,hi,p⟩;obtain⟨q,hy⟩:=hl i ys H hi p;by_cases cw:i<xs.length
 ·refine .inr {{xs,_,q,aq cw},by lia,?_};rintro v H3 ⟨rfl,hv⟩;exact hs i v ys H3 (λlL H'=>∃m',m'<xs.length -i/\m'=xs.length -(i+1)/\i+1<=xs.length/\Pv (i+1) lL H') (hv xs q) p λlL H' p'=>{_,by lia,rfl,cw,p'}
 ·have e:i=xs.length:=by lia
  subst e;exact .inl {{xs,q,ao _},by lia,hd ys H p}
variable{P:Program}{w:World}{A:Around}{E:Aac}{z:Shared}
def tY(g:z.heap.IsTupleIter j p k)(gp:z.heap.IsTuple p aP)(gy:aP[k]?=some y)
  (q:∀h',h'.IsTupleIter j p (k+1)->Heap.SameBut j z.heap h'->Q y {z with heap:=h'}):wpAny (model P w) A (Builtin.SmallTypes.nextOf (.ref j)) Q E z:=by
 obtain⟨ob,g0,g1,g2⟩:=id g;obtain⟨op,p0,_,np,p2⟩:=gp;refine ae (wpAny_callSpecial?_slot g.typeIs js (ba js g.typeIs sJ ?_ (rK _)));show wpAny _ _ (field (.ref j) 0>>=_) _ _ z;refine ae (bH g0 g2 rfl ?_);refine ae (bH g0 g2 rfl ?_);refine ae (bQ p0 p2 ?_);simp only[cA,gy];exact ae (d5 g0 g2 (by simp) (af {y,rfl,af (q _ ({_,cj _ g0 (pN (iR g2 _)),(tF ..).trans g1,by rw[iR g2];simp[rawInt]}) (bG ..))}))
def xq(hd:A.handled=none)(g:z.heap.IsTupleIter j p k)(gp:z.heap.IsTuple p aP)(gy:aP[k]?=none)
  (q:∀h' e,Heap.ExtBut j z.heap h'->(∃o,h'.get? e=some o/\o.cls=.type "StopIteration")->E (.ref e) {z with heap:=h'}):wpAny (model P w) A (Builtin.SmallTypes.nextOf (.ref j)) Q E z:=by
 obtain⟨ob,g0,g1,g2⟩:=id g;obtain⟨op,p0,_,np,p2⟩:=gp;refine ae (wpAny_callSpecial?_slot g.typeIs js (ba js g.typeIs sJ ?_ (rK _)));show wpAny _ _ (field (.ref j) 0>>=_) _ _ z;refine ae (bH g0 g2 rfl ?_);refine ae (bH g0 g2 rfl ?_);refine ae (bQ p0 p2 ?_);simp only[cA,gy];refine ae (gz (ae (d5 g0 g2 (by simp) ?_)));refine ae ?_;refine ae (bV ?_ (by size_fits));refine ae (B3 (by first|rfl|(simp only[firstArgMember];rfl)) ?_);refine bV ?_ (by size_fits);refine ae (wpAny_handled ?_)
 first|rw[show A.in1.handled=none from hd]|rw[hd]
 exact ae (af (wpAny_throw (q _ _ (((bG ..).extBut.push _).push _) {_,aB _ rfl,rfl})))
end
section
variable{X:Cx}{pins:Aaa}{Z:St}{H:Hp}{s:Shared}{h':Heap}
def Inv.V5(I:Inv X pins Z H s)(k:∀b o,b≠e->b≠j->s.heap.get? b=some o->h'.get? b=some o)(fe:pD X pins H e)(fj:pD X pins H j)
  (hp:s.heap.objs.size<=p) (ht:IsTup h' p us.toArray/\∃o,h'.get? p=some o/\o.dict=none) (r:Vals xs us) (hz:xs.length<=sizeLine):Inv X pins Z (upd H p (.tup xs)) {s with heap:=h',toks:=t'}:=by
 have hn:=I.bw.fresh hp;have fp:=I.uZ hp hn;have nH:∀b u,H b=some u->b≠e/\b≠j/\b≠p:=λb u g=>{(λz=>by rw[z,fe.1]at g;cases g),(λz=>by rw[z,fj.1]at g;cases g),λz=>by rw[z,hn]at g;cases g};refine I.step (ch:=[e,j,p]) (λb hb=>?_) (λb o _ _ hc g _=>k b o (λz=>hc (by simp[z])) (λz=>hc (by simp[z])) g) (λb o _ _ hc g _=>{o.slots,k b o (λz=>hc (by simp[z])) (λz=>hc (by simp[z])) g})
  (λb o hc g n=>by rw[aH λz=>hc (by simp[z])];exact n) (λb o hc g=>{o,k b o (λz=>hc (by simp[z])) (λz=>hc (by simp[z])) g})
  (λb ys g=>by rw[aH (nH b _ g).2.2];exact g) (λb o u g=>by rw[aH (nH b _ g).2.2];exact g) (λb ps g=>{#[],by rw[aH (nH b _ g).2.2,g];simp}) (λm hm=>?_) (λb u g=>?_) I.bare
 ·have gJ:b=e\/b=j\/b=p:=by simpa using hb
  rcases gJ with rfl|rfl|rfl
  ·exact{fe.2.2.2.1,fe.2.1,fe.2.2.2.2.1,fe.2.2.2.2.2}
  ·exact{fj.2.2.2.1,fj.2.1,fj.2.2.2.2.1,fj.2.2.2.2.2}
  ·exact{fp.2.2.2.1,fp.2.1,fp.2.2.2.2.1,fp.2.2.2.2.2}
 ·obtain⟨o,es,ep,ho,r'⟩:=hm;exact{o,es,ep,k _ o (bY fe.2.1) (bY fj.2.1) ho,r'}
 ·by_cases hb:b=p
  ·subst hb;rw[ar]at g;cases g;exact⟨hz,us,r,ht⟩
  ·rw[aH hb]at g;refine(I.bw b u g).j7 (λc v hc q=>?_) (λc q=>?_) λc ys q=>?_
   ·rcases hc with z|z
    ·rw[z];rw[z]at q;exact k b v (nH b _ g).1 (nH b _ g).2.1 q
    ·exact k c v (nH c _ z).1 (nH c _ z).2.1 q
   ·rw[aH (nH c _ q).2.2];exact q
   ·rw[aH (nH c _ q).2.2];exact q
def Q1{D:Addr->Prop}{E:Aac}{e j:Addr}{fp:Aah}{n i:Nat}{Pv:Nat->Value->Prop}{St':Nat->Heap->Prop}{old:Value}{elts:List Expr}{kk:Nat}{ps:Pos}{y:V}
  (W:Draws X.prog X.w X.A.in1 j fp n Pv St') (he:IsEnum s.heap e j i old) (st:St' i s.heap) (hi:i<n) (jw:e≠j) (hef:e∉fp) (I:Inv X pins Z H s) (fe:pD X pins H e) (fj:pD X pins H j) (hP:∀u,Pv i u->RelV y u):
  wpAny (model X.prog X.w) X.A (pyNext (.ref e)) (λr s1=>∃u,r=some u/\
   wpAny (model X.prog X.w) X.A (letOwnedTupleGo (.Tuple elts kk ps) (.ref e) u) (λ_ s2=>∃p,u=.ref p/\H p=none/\Inv X pins Z (upd H p (.tup [.int i,y])) s2/\(∃acA,IsEnum s2.heap e j ((i:Int)+1) acA)/\St' (i+1) s2.heap/\e≠p/\j≠p) E s1) E s:=by
 refine wpAny_pyNext_enum_itemD W he st hi jw hef λx h1 tk hx ho st1 hT hsz hk=>?_;refine{_,rfl,wpAny_letOwnedTupleGo_enum ho λh2 Cv kR=>?_};have Vl:=aD he;have oU:j<s.heap.objs.size:=by obtain⟨o,z⟩:=W.live _ _ st;exact aD z
 have NJ:=kR;exact{s.heap.objs.size,rfl,I.bw.fresh (ao _),I.V5 (λb o n1 n2 g=>NJ.extBut b o n1 (hk b o n1 n2 g)) fe fj (ao _) ({{_,NJ.extBut _ _ (bx Vl) hT,rfl,_,rfl},_,NJ.extBut _ _ (bx Vl) hT,rfl}) (.cons ⟨tk,rfl⟩ (.cons (hP x hx) .nil)) (by show 2<=sizeLine;decide),⟨_,Cv⟩,W.frame _ _ _ st1 λb hb o g=>NJ.extBut b o (λz=>hef (z▸hb)) g,aG Vl,aG oU}
end
def Ite(K:Frag)(a:Addr):It:=
 {λi H=>∃xs x,br K H a xs/\xs[i]?=some x,λi H x H'=>∃p y,x=.ref p/\H p=none/\H'=upd H p (.tup [.int i,y])/\∀xs,br K H a xs->xs[i]?=some y,λi H=>∃xs,br K H a xs/\xs.length=i}
def Rj{h:Heap}(e:h.get? a=some o)(e':h.get? b=some o')(n:o.cls≠o'.cls):a≠b:=λz=>by rw[z,e']at e;cases e;exact n rfl
def OA{K:Frag}(a e j:Addr):Turn P w K (.Tuple elts kk ps) (Ite K a) [e,j] e (λi h=>(∃old,IsEnum h e j i old)/\h.IsListIter j a i/\e≠j) where
 mem:=by simp
 obj:=λi h st b hb=>by
  obtain⟨⟨old,he⟩,⟨o,g,c,d⟩,_⟩:=st;rcases(by simpa using hb)with rfl|rfl
  ·exact{_,he,λv z=>by cases z}
  ·exact{o,g,λv z=>by rw[d]at z;cases z}
 keep:=λi h h' st k=>by obtain⟨⟨old,he⟩,⟨o,g,r⟩,n⟩:=st;exact{{old,k e (by simp) _ he},{o,k j (by simp) o g,r},n}
 item:=by
  intro X hP hw hK hc i pins s Z H E I hf st hg;subst hP hw hK;obtain⟨xs,x,hq,hx⟩:=hg;obtain⟨aP,rv,pl,hz⟩:=I.list hq;obtain⟨⟨old,he⟩,hj,jw⟩:=st;have hl:=rv.length;have hil:=(aw.mp hx).1;obtain⟨o0,g0,c0,_⟩:=id pl.isList;obtain⟨o1,g1,c1,_⟩:=id hj;have W:=Draws.list (prog:=X.prog) (w:=X.w) (show X.A.in1.handled=none from I.ok.hd hc) j a (Rj g0 g1 (by rw[c0,c1];decide)) aP.toArray;refine iB (Q1 (D:=λ_=>True) (y:=x) W he {hj,pl.isList} (by rw[aO];lia) jw (by simp[jw,(Rj g0 he (by rw[c0];show Value.type "list"≠Value.type "enumerate";decide)).symm]) I (hf e (by simp)) (hf j (by simp)) λu hu=>?_) λr s1 ⟨u,er,h1⟩=>{u,er,iB h1 λ_ s2 ⟨p,eu,hp,I2,Cv,pF,n1,n2⟩=>?_}
  ·obtain⟨u',sg,ru⟩:=rv.get hx;have AH:aP[i]?=some u:=by simpa using hu
   rw[AH]at sg;cases sg;exact ru
  ·subst eu;refine{.ref p,_,I2,rfl,{p,x,rfl,hp,rfl,λys hy=>by rw[I.De hy hq];exact hx},{Cv,pF.1,jw},λb hb=>?_};rcases(by simpa using hb)with rfl|rfl
   ·rw[aH n1];exact(hf b (by simp)).1
   ·rw[aH n2];exact(hf b (by simp)).1
 done:=by intro X hP hw hK hc i pins s Z H E I hf st hg;subst hP hw hK;obtain⟨xs,hq,hx⟩:=hg;obtain⟨aP,rv,pl,hz⟩:=I.list hq;obtain⟨⟨old,he⟩,hj,jw⟩:=st;have hl:=rv.length;obtain⟨f0,f1,f2,f3,f4,f5⟩:=hf j (by simp);exact wpAny_pyNext_enum_end (I.ok.hd hc) he hj pl.isList (by simp;lia) λh' eb=>{rfl,I.turned (λb o hb g=>eb b o hb g) f0 f1 f3 f4 f5}
 self:=λ_ _ _ _ _ st h=>by obtain⟨⟨old,he⟩,_⟩:=st;exact BK he h
section
variable{X:Cx}{elts:List Expr}{kk:Nat}{ps:Pos}
inductive Z0(K:Frag)(R:It->Hp->Prop)(vs:Aam)(H1:Hp):Prop
 |mk a (_:vs=[.ref a]) (_:(∃xs,br K H1 a xs)) (_:R (Ite K a) H1)
def abN(K:Frag)(ta:TA):TI:=λZ H R=>ta Z H λvs H1=>Z0 K R vs H1
def Xi(I:Inv X pins Z H s):∀b∈[s.heap.objs.size+1,s.heap.objs.size],pD X pins H b:=λb hb=>by
 rcases(by simpa using hb)with rfl|rfl
 ·exact I.uZ (iM _) (I.bw.fresh (iM _))
 ·exact I.uZ (ao _) (I.bw.fresh (ao _))
def LK(hg:Gl X "enumerate")(hm:X.mg "enumerate"=none)(ha:PA X [a] ta)(hs:starEach [a] X.env=[(false,eval a X.env)]:=by rfl):PI X (.Tuple elts kk ps) (.Call (.Name "enumerate" p) [a] [] pos) (abN X.K ta):=by intro pins s Z H R I h;refine E3 (qd I hg hm boot_enumerate (dP (pR (ha pos pins s Z H _ I h) λus s1 vs H1 I1 r1 q1=>?_) hs rfl));obtain⟨l,e,⟨xs,hq⟩,q⟩:=q1;subst e;obtain⟨u,rfl,ru⟩:=jY r1;cases ru;obtain⟨aP,rv,pl,hz⟩:=I1.list hq;refine call_enumerate_list pl.isList λh' he hj _ hk=>?_;refine BK he ?_;exact{_,_,_,_,H1,rfl,(I1.kept (t':=s1.toks) hk),OA l _ s1.heap.objs.size,{⟨_,he⟩,hj,Nat.succ_ne_self _},Xi I1,q}
def JW{K:Frag}{g:TG}{tb:TS}{D:Ends}(Pv:Nat->St->Hp->Prop)(h0:Pv 0 Z H)(hl:∀i Z H,i<=xs.length->Pv i Z H->br K H a xs)
  (hs:∀i x p Z H,xs[i]?=some x->Pv i Z H->H p=none->g (.ref p) Z (upd H p (.tup [.int i,x])) λσ2 H2=>tb {D with nx:=Pv (i+1),ct:=Pv (i+1),bk:=D.nx} σ2 H2) (hd:∀Z H,Pv xs.length Z H->D.nx Z H):uo (Ite K a) g tb D Z H:=by
 refine AU Pv h0 (λi Z H hi p=>?_) λZ H p=>{{xs,hl _ Z H (ao _) p,rfl},hd Z H p};have q:=hl i Z H (bI hi) p;refine{{xs,_,q,aq hi},?_};rintro x H' ⟨r,z,rfl,hr,rfl,y⟩;exact hs i z r Z H (y xs q) p hr
def MR(j:Nat)(t:TE):TS:=λD Z H=>t Z H λv H1=>D.nx (Z.set j (some v)) H1
theorem Paired.at':∀{aad:List α}{aac:List β}{i:Nat}{x:α},Paired F aad aac->aad[i]?=some x->∃y,aac[i]?=some y/\F x y
 |_,_,_,_,.nil,e=>by simp at e
 |_,_,0,_,.cons r _,e=>by simp at e;subst e;exact⟨_,rfl,r⟩
 |_,_,i+1,x,.cons _ t,e=>by obtain⟨y,h1,h2⟩:=Paired.at' t (by simpa using e);exact{y,by simpa using h1,h2}
def yE:entryFor table "dict.update.loop"=some Builtin.«dict.update.loop»:=entryFor_of_tree (by kernel_rfl)
variable{prog:Program}{w:World}{A:Around}{s:Shared}{R:Result->Shared->Prop}
theorem Oc(Iv:Nat->Shared->Prop)
  (turn:∀n z,Iv n z->wpAny (model prog w) A (pyNext it) (λr z1=>match r with
   |none=>R (.ok .next) z1
   |some v=>wpAny (model prog w) A (letOwnedTupleGo tg it v) (λ_ y2=>wpAny (model prog w) A (assign tg env v) (λ_ z2=>
     wpAny (model prog w) A (forIn ifs true λc r=>if r=true then do let ok<-isTrue c env (eval c env);pure (ForInStep.yield ok)else pure (ForInStep.yield r)) (λok z3=>
      if ok=true then wpAny (model prog w) A (eval elt env) (λx z4=>
       wpAny (model prog w) A (call (.builtin "list.append") [acc,x]) (λ_ z5=>∃m,m<n/\Iv m z5) (notedBy (model prog w) A env λe z'=>R (.error e) z') z4) (notedBy (model prog w) A env λe z'=>R (.error e) z') z3
      else∃m,m<n/\Iv m z3) (notedBy (model prog w) A env λe z'=>R (.error e) z') z2) (notedBy (model prog w) A env λe z'=>R (.error e) z') y2) (notedBy (model prog w) A env λe z'=>R (.error e) z') z1) (notedBy (model prog w) A env λe z'=>R (.error e) z') z)
  (n:Nat) (h:Iv n s):codeAny (model prog w) A (.compLoop (.ListComp elt [{tg,iter,ifs,0}] scope pos) 0 it acc env) R s:=by
 refine codeAny_loop rfl Iv (λn z hI=>?_) n h;refine wpAny_noted ?_;refine ae (sM (ae (df (turn n z hI) (λr z1 q1=>?_) λ_ _ q=>q)));cases r with
 |none=>exact af q1
 |some v=>
  refine ae (df q1 (λ_ z2 q3=>ae (df q3 (λ_ z3 q4=>ae (df q4 (λok z4 q5=>?_) λ_ _ q=>q)) λ_ _ q=>q)) λ_ _ q=>q);cases ok with
  |false=>exact af ⟨rfl,q5⟩
  |true=>exact ae (ae (df q5 (λx z5 q6=>ae (df q6 (λ_ z6 q7=>af (af ⟨rfl,q7⟩)) λ_ _ q=>q)) λ_ _ q=>q))
end
structure uq(X:Cx)(scope:Scope)(x:Str)(more fs:Aaf)(fr:List Nat):Prop where
 one:qG X scope x fs fr
 Gq:(x::more++fs).Nodup
def uv(wi:TI)(k:Nat)(fr:List Nat)(g:TG)(tt:TT)(te:TE):TE:=λZ H Q=>wi Z H λJ H1=>∃W:Nat->Nat->Aam->Hp->Prop,(∃m,W 0 m [] H1)/\∀i m ys H2,W i m ys H2->
 (J.stop i H2/\ys.length<=sizeLine/\∀l,H2 l=none->Q (.ref l) (upd H2 l (.lst ys)))\/
 (J.go i H2/\ys.length<sizeLine/\∀v H3,J.FV i H2 v H3->∀own:St,own.length=k->g v (own++slotsOf fr Z) H3 λσ4 H4=>∃IJ,σ4=IJ++slotsOf fr Z/\IJ.length=k/\tt σ4 H4 λb H5=>
  if b=true then te σ4 H5 (λy H6=>∃m',m'<m/\W (i+1) m' (ys++[y]) H6)else∃m',m'<m/\W (i+1) m' ys H5)
section
variable{X:Cx}
def IS(N2:Aaf)(h:(d9 X N1 scope C s H ex).Ok):(d9 X N2 scope C s H ex).Ok:=
 {h.mod,h.kind,h.glob,h.blt,h.above,h.inj,h.has,h.MC,h.hd,h.frames,h.OE,h.QT,h.bs,h.CD,h.Fq,h.Dp,h.rA,h.GJ}
def Ri(S:uq X scope x more fs fr)(I3:Inv X pins Z H s)
  (ok:(d9 X (x::fs) scope s.heap.objs.size s H ex).Ok) (hn:h4.Ns s.heap.objs.size m) (old:∀b o,s.heap.get? b=some o->h4.get? b=some o):
  Inv (d9 X (x::more++fs) scope s.heap.objs.size s H ex) [] (List.replicate (more.length+1) none++slotsOf fr Z) H {s with heap:=h4,toks:=t}:=by
 have J:=TZ (t:=t) S.one I3 ok hn old;refine{IS _ J.ok,J.os,J.bare,J.base,?_,J.cell,J.free,J.nX,J.pin,J.bw,?_}
 ·obtain⟨m1,hn1,hl⟩:=J.loc;refine{m1,hn1,λi y v e1 e2 e3=>?_};by_cases hi:i<more.length+1
  ·have e2:=e2;rw[gP (gM▸hi),vG,aA hi]at e2;cases e2
  ·obtain⟨j,rfl⟩:∃j,i=more.length+1+j:={i -(more.length+1),by lia};rw[fC (by rw[gM];lia),gM,vD]at e2;rw[fC (by rw[bu];lia),bu,vD]at e1;exact hl (j+1) y v (by simpa using e1) (by simpa using e2) e3
 ·show(List.replicate (more.length+1) none++slotsOf fr Z).length=((x::more)++fs).length;simp[slotsOf,S.one.len];lia
def GR{elt iter tg:Expr}{x:Str}{more:Aaf}{g:TG}{ifs:List Expr}{scope:Scope}{pos:Pos}{wi:TI}{fs:Aaf}{fr:List Nat}{tt:TT}{te:TE}{use:Option (Value->Sem Unit)}{R:Aac}{pins:Aaa}{s:Shared}{Z:St}{H:Hp}{Q:VK}{Iz:Pos}(hc:X.calm=true)(ST:uq X scope x more fs fr)(hi:PI X tg iter wi)(hg:∀C s H ex,PG (d9 X (x::more++fs) scope C s H ex) tg g)
  (ht:∀C s H ex,CT (d9 X (x::more++fs) scope C s H ex) ifs tt) (he:∀C s H ex,PE (d9 X (x::more++fs) scope C s H ex) elt te) (hs:∀z,foldedSetIterable iter X.env z=pure z)
  (I:Inv X pins Z H s) (h:uv wi (more.length+1) fr g tt te Z H Q)
  (adE:∀(D C:Addr)(s':Shared)(H':Hp)(ys:Aam)(vs:Aae)(k:Nat)(m:Aab),Inv X pins Z H' s'->D<C->X.aab.heap.objs.size<=D->X.env.locals<D->(∀y c,X.env.cells.lookup y=some c->c<D)->(∀p∈X.pn++pins,p.1<D)->
   s'.heap.get? D=some (lobj vs k)->H' D=none->H' C=none->s'.heap.Ns C m->Vals ys vs->ys.length<=sizeLine->(∀l,H' l=none->Q (.ref l) (upd H' l (.lst ys)))->compPost (model X.prog X.w) X.A X.xe use R (.ref D) C (.ok .next) s'):
  wpAny (model X.prog X.w) X.A (comprehension (.ListComp elt [{tg,iter,ifs,0}] scope pos) scope X.env Iz (newList []) false (eval iter X.env) use) R X.xe s:=by
 have S:=ST.one;refine wpAny_comprehension_free (use:=use) rfl hs (ET λn hn=>I.ok.has n (.inl (S.free n hn).1)) S.kind S.names ?_;refine iB (hi pins s Z H _ I h) λv s1 h1=>iB h1 λZP s2 h2=>?_;obtain⟨it,fp,tn,J,H2,e,I2,T,pF,f2,W,⟨m0,w0⟩,turn⟩:=h2;subst e;have cw:∀b∈fp,b<s2.heap.objs.size:=λb hb=>by obtain⟨o,e,_⟩:=T.obj 0 _ pF b hb;exact aD e
 refine bV (wpAny_newFunctionEnv S.Pp (by intro y hy;simp at hy) (λh4 Ta S6=>?_) S.kind);dsimp only at Ta S6⊢;generalize hH3:s2.heap.push {cls:=.type "list",dict:=none,data:=.seq ([]:Aae).toArray}=g3 at Ta S6⊢;have hC:g3.objs.size=s2.heap.objs.size+1:=by rw[<-hH3,cy]
 have Fo:∀b o,s2.heap.get? b=some o->g3.get? b=some o:=λb o e=>hH3▸ah _ e;have I3:Inv X pins Z H2 {s2 with heap:=g3}:=I2.kept (t':=s2.toks) Fo;have adW:g3.get? s2.heap.objs.size=some (lobj [] 0):=hH3▸aB _ rfl;have Su:∀b o,g3.get? b=some o->h4.get? b=some o:=λb o e=>S6.extBut b o (aG (aD e)) (ah _ e);have ok1:=Xr (s:={s2 with heap:=g3}) (D:=s2.heap.objs.size) (fp:=fp) S I2 I3 rfl hC cw f2;have ok:=IS (x::more++fs) ok1;have I4:=Ri (t:=s2.toks+([]:List (Str×Value)).length) ST I3 ok1 Ta Su;have VD:=ok.QT s2.heap.objs.size ay;have dnf:=ok.Dp s2.heap.objs.size ay;have Tx:∀{H':Hp}{vs:Aae}{k:Nat},(∀b∈fp,H' b=none)->∀b∈fp,pD (d9 X (x::more++fs) scope g3.objs.size {s2 with heap:=g3} H2 (s2.heap.objs.size::fp)) [(s2.heap.objs.size,lobj vs k)] H' b:=λ{H' vs k} hn b hb=>by
  have q:=ok.QT b (az _ hb);refine{hn b hb,q.1,ok.Dp b (az _ hb),.inl (az _ hb),q.2,λp hp=>?_};have e:p=(s2.heap.objs.size,lobj vs k):=by simpa using hp
  rw[e];exact bx (cw b hb)
 have start:Inv (d9 X (x::more++fs) scope g3.objs.size {s2 with heap:=g3} H2 (s2.heap.objs.size::fp)) [(s2.heap.objs.size,lobj [] 0)] (List.replicate (more.length+1) none++slotsOf fr Z) H2 {s2 with heap:=h4,toks:=s2.toks+([]:List (Str×Value)).length}:=
  I4.xn λp hp=>by
   have e:p=(s2.heap.objs.size,lobj [] 0):=by simpa using hp
   subst e;exact{Su _ _ adW,I2.bw.fresh (ao _),VD.1,dnf,λv z=>by cases z}
 have stn:tn 0 h4:=T.keep 0 _ _ pF λb _ o e=>Su b o (Fo b o e);have fin:∀{i:Nat}{σ0:St}{H':Hp}{ys:Aam}{vs:Aae}{k:Nat}{s':Shared},Inv (d9 X (x::more++fs) scope g3.objs.size {s2 with heap:=g3} H2 (s2.heap.objs.size::fp)) [(s2.heap.objs.size,lobj vs k)] (σ0++slotsOf fr Z) H' s'->Vals ys vs->ys.length<=sizeLine->
   (∀l,H' l=none->Q (.ref l) (upd H' l (.lst ys)))->compPost (model X.prog X.w) X.A X.xe use R (.ref s2.heap.objs.size) g3.objs.size (.ok .next) s':=by
  intro i σ0 H' ys vs k s' J1 rv hz q;obtain⟨m,hn,_⟩:=id J1.loc;have below:∀y c,X.env.cells.lookup y=some c->c<s2.heap.objs.size:=λy c z=>by obtain⟨v,q⟩:=I2.cell y c z;exact q.lt
  have rX:∀p∈X.pn++pins,p.1<s2.heap.objs.size:=λp hp=>aD (I2.pin p hp).1;have I5:Inv X pins Z H' s':=I3.ab4 (ch:=s2.heap.objs.size::fp) J1.os J1.base J1.bw J1.bare λb hb=>by
   rcases aF.mp hb with e|hb
   ·rw[e];exact{.inr I2.sz,bx I2.lt,λy c z=>aG (below y c z),λp hp=>aG (rX p hp)}
   ·exact{(f2 b hb).2.2.2.1,(f2 b hb).2.1,(f2 b hb).2.2.2.2.1,(f2 b hb).2.2.2.2.2}
  have uw:s2.heap.objs.size<g3.objs.size:=by(first|lia|omega)
  obtain⟨eD,nD,_⟩:=J1.pin (s2.heap.objs.size,lobj vs k) (by simp);exact adE _ _ s' H' ys vs k m I5 uw I2.sz I2.lt below rX eD nD J1.free hn rv hz q
 have loop:∀s4:Shared,s4={s2 with heap:=h4,toks:=s2.toks+([]:List (Str×Value)).length}->
   codeAny (model X.prog X.w) X.A (.compLoop (.ListComp elt [{tg,iter,ifs,0}] scope pos) 0 (.ref it) (.ref s2.heap.objs.size) (compEnvC scope (Dx scope X.env) g3.objs.size X.env))
    (compPost (model X.prog X.w) X.A X.xe use R (.ref s2.heap.objs.size) g3.objs.size) s4:=by
  rintro s4 rfl;refine Oc (λn s'=>∃i σ0 H' ys vs k,σ0.length=more.length+1/\Inv (d9 X (x::more++fs) scope g3.objs.size {s2 with heap:=g3} H2 (s2.heap.objs.size::fp)) [(s2.heap.objs.size,lobj vs k)] (σ0++slotsOf fr Z) H' s'/\tn i s'.heap/\(∀b∈fp,H' b=none)/\Vals ys vs/\W i n ys H') ?_ m0
   {0,List.replicate (more.length+1) none,H2,[],[],0,gM,start,stn,λb hb=>(f2 b hb).1,.nil,w0}
  rintro n s' ⟨i,σ0,H',ys,vs,k,h0,J1,st,fr1,rv,w1⟩;rcases turn i n ys H' w1 with⟨stop,hz,q⟩|⟨go,hz,step⟩
  ·refine iB (T.done (d9 X (x::more++fs) scope g3.objs.size {s2 with heap:=g3} H2 (s2.heap.objs.size::fp)) rfl rfl rfl hc i _ s' _ H' _ J1 (Tx fr1) st stop) λr s5 ac4=>?_;obtain⟨hr,J2⟩:=ac4;subst hr;exact fin (i:=i) J2 rv hz q
  ·refine iB (T.item (d9 X (x::more++fs) scope g3.objs.size {s2 with heap:=g3} H2 (s2.heap.objs.size::fp)) rfl rfl rfl hc i _ s' _ H' _ J1 (Tx fr1) st go) λr s5 ac3=>?_;obtain⟨u,hr,h5⟩:=ac3;subst hr;refine iB h5 λ_ s6 ac2=>?_;obtain⟨v,H6,J6,r6,y6,lN,fr6⟩:=ac2;have J6':=J6.pinned (fp:=fp) (Tx fr6) (T.obj _ _ lN);refine df (hg _ _ _ _ _ s6 _ H6 v u _ J6' r6 (step v H6 y6 σ0 h0)) (λ_ s7 ac1=>?_) (λ_ _ z=>z.elim);obtain⟨σ7,H7,J7,own,e7,l7,q7⟩:=ac1;subst e7;have pfp:∀{σ8:St}{H8:Hp}{s8:Shared},Inv (d9 X (x::more++fs) scope g3.objs.size {s2 with heap:=g3} H2 (s2.heap.objs.size::fp)) ([(s2.heap.objs.size,lobj vs k)]++Aj fp s6.heap) σ8 H8 s8->
     tn (i+1) s8.heap/\∀b∈fp,H8 b=none:=λ{σ8 H8 s8} J8=>by
    refine{T.keep _ _ _ lN λb hb o e=>(J8.pin (b,o) (bZ _ (bZ _ (tZ hb e)))).1,λb hb=>?_};obtain⟨o,e,d⟩:=T.obj _ _ lN b hb;exact(J8.pin (b,o) (bZ _ (bZ _ (tZ hb e)))).2.1
   refine df (ht _ _ _ _ _ s7 _ H7 _ J7 q7) (λok8 s8 ac0=>?_) (λ_ _ z=>z.elim);obtain⟨H8,J8,q8⟩:=ac0;cases ok8 with
   |false=>
    rw[ax bA]at q8;rw[ax bA];obtain⟨m',hm,w8⟩:=q8;obtain⟨t8,n8⟩:=pfp J8;exact{m',hm,i+1,own,H8,ys,vs,k,l7,J8.xW,t8,n8,rv,w8}
   |true=>
    rw[aA rfl]at q8;rw[aA rfl];refine df (he _ _ _ _ _ s8 _ H8 _ J8 q8) (λy s9 acZ=>?_) (λ_ _ z=>z.elim);obtain⟨yv,H9,J9,r9,m',hm,w9⟩:=acZ;obtain⟨t9,n9⟩:=pfp J9;obtain⟨eD,nD,_⟩:=J9.pin (s2.heap.objs.size,lobj vs k) (by simp);have hl:=rv.length;refine qu Bu ⟨_,eD,rfl⟩ zG (yX _ _) (BS s2.heap.objs.size vs.toArray k y (by rw[aO];(first|lia|omega))) {eD,?_};have eN:=PySem.IsL.update (h:=s9.heap) (l:=s2.heap.objs.size) (items:=vs.toArray) (n:=k) eD (·.push y);have eV:vs.toArray.push y=(vs++[y]).toArray:=by simp
    rw[eV]at eN;obtain⟨k',eN⟩:∃k',(s9.heap.update s2.heap.objs.size (Obj.mapSeq (·.push y))).get? s2.heap.objs.size=some (lobj (vs++[y]) k'):=⟨_,eN⟩;have K9:Inv (d9 X (x::more++fs) scope g3.objs.size {s2 with heap:=g3} H2 (s2.heap.objs.size::fp)) [] (own++slotsOf fr Z) H9 s9:=J9.xn λp hp=>absurd hp (by simp);have VL:Inv (d9 X (x::more++fs) scope g3.objs.size {s2 with heap:=g3} H2 (s2.heap.objs.size::fp)) [] (own++slotsOf fr Z) H9 {s9 with heap:=s9.heap.update s2.heap.objs.size (Obj.mapSeq (·.push y))}:=
     K9.turned (t':=s9.toks) (it:=s2.heap.objs.size) (λb o hb e=>(bD s9.heap (Obj.mapSeq (·.push y)) (bY hb)).trans e) nD VD.1 (.inl ay) VD.2 (λp hp=>absurd hp (by simp))
    refine{m',hm,i+1,own,H9,ys++[yv],vs++[y],k',l7,VL.xn λp hp=>?_,T.keep _ _ _ t9 λb hb o e=>(bD s9.heap (Obj.mapSeq (·.push y)) (bx (cw b hb))).trans e,n9,rv.append (.cons r9 .nil),w9};have e:p=(s2.heap.objs.size,lobj (vs++[y]) k'):=au.mp hp;rw[e];exact{eN,nD,VD.1,dnf,λv z=>by cases z}
 exact codeAny_compStart_list (loop _ rfl) (T.self X.A 0 _ _ _ stn (loop _ rfl))
def Gj(hc:X.calm=true)(ST:uq X scope x more fs fr)(hi:PI X tg iter wi)(hg:∀C s H ex,PG (d9 X (x::more++fs) scope C s H ex) tg g)
  (ht:∀C s H ex,CT (d9 X (x::more++fs) scope C s H ex) ifs tt) (he:∀C s H ex,PE (d9 X (x::more++fs) scope C s H ex) elt te) (hs:∀z,foldedSetIterable iter X.env z=pure z:=by intro _;rfl):
  PE X (.ListComp elt [{tg,iter,ifs,0}] scope pos) (uv wi (more.length+1) fr g tt te):=by
 intro pins s Z H Q I h;rw[eval_ListComp];refine GR hc ST hi hg ht he hs I h ?_;intro D C s' H' ys vs k m I5 uw lo lt below rX eD nD nC hn rv hz q;refine{m,hn,λh' sb=>?_};have I6:Inv X pins Z H' {s' with heap:=h'}:=I5.turned (t':=s'.toks) (it:=C) (λb o hb e=>sb.extBut b o hb e) nC (bx (fB lt uw)) (.inr (bI (cL lo uw))) (λy c z=>aG (fB (below y c z) uw)) (λp hp=>aG (fB (rX p hp) uw));have eD':h'.get? D=some (lobj vs k):=sb.extBut _ _ (aG uw) eD;exact{.ref D,_,I6.adopt nD eD' rv hz lo (bx lt) (λy c z=>aG (below y c z)) (λp hp=>aG (rX p hp)),rfl,q _ nD}
def Ir{elt iter tg:Expr}{x y:Str}{py CM:Pos}{j:Nat}{more:Aaf}{g:TG}{ifs:List Expr}{scope:Scope}{pos:Pos}{wi:TI}{fs:Aaf}{fr:List Nat}{tt:TT}{te:TE}(hN:X.N.Nodup)(hj:X.N[j]?=some y)(hy:X.env.scope.names.lookup y=some .local)(hc:X.calm=true)(ST:uq X scope x more fs fr)(hi:PI X tg iter wi)(hg:∀C s H ex,PG (d9 X (x::more++fs) scope C s H ex) tg g)
  (ht:∀C s H ex,CT (d9 X (x::more++fs) scope C s H ex) ifs tt) (he:∀C s H ex,PE (d9 X (x::more++fs) scope C s H ex) elt te) (hs:∀z,foldedSetIterable iter X.env z=pure z:=by intro _;rfl)
  (Qm:swapsWith (.ListComp elt [{tg,iter,ifs,0}] scope pos) (some (.Name y py)) CM.line X.env=pure true:=by rfl):PS X (.Assign [.Name y py] (.ListComp elt [{tg,iter,ifs,0}] scope pos) CM) (MR j (uv wi (more.length+1) fr g tt te)):=by
 intro pins s Z H D I h;obtain⟨Q,eQ⟩:∃Q:VK,Q=λv H1=>D.nx (Z.set j (some v)) H1:=⟨_,rfl⟩;have h:uv wi (more.length+1) fr g tt te Z H Q:=by rw[eQ];exact h
 have S:=ST.one;rw[exec_Assign_Name_used _ _ _ _ Qm];refine ae (sM (ae ?_));show wpAny _ _ (comprehension (.ListComp elt [{tg,iter,ifs,0}] scope pos) scope X.env _ (newList []) false (eval iter X.env) (some (assign (.Name y py) X.env))>>=λ_=>pure ()) _ _ s;refine ae (df (GR (Q:=Q) (R:=λ_ s'=>SP X pins D .next s') hc ST hi hg ht he hs I h ?_) (λ_ s' hq=>af (af hq)) λ_ _ e=>e);intro D1 C s' H' ys vs k m I5 uw lo lt below rX eD nD nC hn rv hz q;have I7:=I5.adopt nD eD rv hz lo (bx lt) (λy c z=>aG (below y c z)) (λp hp=>aG (rX p hp));refine BL (F1 (v:=.ref D1) I7 hN hj (.inl hy) rfl (λs3 I8 vY=>?_) (.inr hy));obtain⟨a,sb,ha⟩:=vY;refine{m,hn.sameBut sb ?_,λh' pV=>?_}
 ·rcases ha with e|e
  ·rw[e];exact bx (fB lt uw)
  ·exact bx (fB (below _ _ e) uw)
 ·have nC2:upd H' D1 (.lst ys) C=none:=by rw[aH (bx uw)];exact nC
  have I9:Inv X pins (Z.set j (some (.ref D1))) (upd H' D1 (.lst ys)) {s3 with heap:=h'}:=I8.turned (t':=s3.toks) (it:=C) (λb o hb e=>pV.extBut b o hb e) nC2 (bx (fB lt uw)) (.inr (bI (cL lo uw)))
   (λy c z=>aG (fB (below y c z) uw)) (λp hp=>aG (fB (rX p hp) uw))
  have q':=q _ nD;rw[eQ]at q';exact⟨_,_,I9,q'⟩
def F0(wi:TI)(fr:List Nat)(tt:TT)(te:TE):xZ wi fr tt te=uv wi 1 fr (uc 0) tt te:=by
 funext Z H Q;unfold xZ uv;congr 1;funext J H1;refine propext (exists_congr λW=>mL λ_=>?_);refine jq λi=>jq λm=>jq λys=>jq λH2=>jq λ_=>?_;refine or_congr FT (mL λ_=>mL λ_=>jq λv=>jq λH3=>jq λ_=>?_);constructor
 ·intro h own ho
  match own,ho with
  |[o],_=>exact{[some v],rfl,rfl,h}
 ·intro h;obtain⟨o4,e,l,q⟩:=h [none] rfl;exact q
def ID(hc:X.calm=true)(S:qG X scope x fs fr)(hi:PI X (.Name x px) iter wi)
  (ht:∀C s H ex,CT (d9 X (x::fs) scope C s H ex) ifs tt) (he:∀C s H ex,PE (d9 X (x::fs) scope C s H ex) elt te) (hs:∀z,foldedSetIterable iter X.env z=pure z:=by intro _;rfl):
  PE X (.ListComp elt [{.Name x px,iter,ifs,0}] scope pos) (xZ wi fr tt te):=by
 rw[F0];exact Gj (more:=[]) hc {S,S.nd} hi (λC s H ex=>mh (i:=0) S.nd rfl (Or.inl (jB S.loc)) (.inr (jB S.loc))) ht he hs
def kg(hc:X.calm=true)(S:qG X scope x fs fr)(hi:PI X (.Name x px) iter wi)
  (he:∀C s H ex,PE (d9 X (x::fs) scope C s H ex) elt te) (hs:∀z,foldedSetIterable iter X.env z=pure z:=by intro _;rfl):
  PE X (.ListComp elt [{.Name x px,iter,[],0}] scope pos) (xZ wi fr DV te):=ID hc S hi (λ_ _ _ _=>Ka) he hs
def vR(hc:X.calm=true)(S:qG X scope x fs fr)(hi:PI X (.Name x px) iter wi)
  (ht:∀C s H ex,PT (d9 X (x::fs) scope C s H ex) c tc) (he:∀C s H ex,PE (d9 X (x::fs) scope C s H ex) elt te) (hs:∀z,foldedSetIterable iter X.env z=pure z:=by intro _;rfl):
  PE X (.ListComp elt [{.Name x px,iter,[c],0}] scope pos) (xZ wi fr tc te):=ID hc S hi (λC s H ex=>aaX (ht C s H ex)) he hs
def KG(hN:X.N.Nodup)(hj:X.N[j]?=some y)(hy:X.env.scope.names.lookup y=some .local)
  (hc:X.calm=true) (S:qG X scope x fs fr) (hi:PI X (.Name x px) iter wi)
  (ht:∀C s H ex,CT (d9 X (x::fs) scope C s H ex) ifs tt) (he:∀C s H ex,PE (d9 X (x::fs) scope C s H ex) elt te) (hs:∀z,foldedSetIterable iter X.env z=pure z:=by intro _;rfl)
  (Qm:swapsWith (.ListComp elt [{.Name x px,iter,ifs,0}] scope pos) (some (.Name y py)) CM.line X.env=pure true:=by rfl):
  PS X (.Assign [.Name y py] (.ListComp elt [{.Name x px,iter,ifs,0}] scope pos) CM) (MR j (xZ wi fr tt te)):=by
 rw[F0];exact Ir (more:=[]) hN hj hy hc {S,S.nd} hi (λC s H ex=>mh (i:=0) S.nd rfl (Or.inl (jB S.loc)) (.inr (jB S.loc))) ht he hs Qm
def yn{elt iter:Expr}{x y:Str}{px py CM:Pos}{scope:Scope}{pos:Pos}{wi:TI}{fs:Aaf}{fr:List Nat}{te:TE}{j:Nat}(hN:X.N.Nodup)(hj:X.N[j]?=some y)(hy:X.env.scope.names.lookup y=some .local)
  (hc:X.calm=true) (S:qG X scope x fs fr) (hi:PI X (.Name x px) iter wi)
  (he:∀C s H ex,PE (d9 X (x::fs) scope C s H ex) elt te) (hs:∀z,foldedSetIterable iter X.env z=pure z:=by intro _;rfl)
  (Qm:swapsWith (.ListComp elt [{.Name x px,iter,[],0}] scope pos) (some (.Name y py)) CM.line X.env=pure true:=by rfl):
  PS X (.Assign [.Name y py] (.ListComp elt [{.Name x px,iter,[],0}] scope pos) CM) (MR j (xZ wi fr DV te)):=KG hN hj hy hc S hi (λ_ _ _ _=>Ka) he hs Qm
def So(hc:X.calm=true)(S:uq X scope x more fs fr)(hi:PI X tg iter wi)(hg:∀C s H ex,PG (d9 X (x::more++fs) scope C s H ex) tg g)
  (he:∀C s H ex,PE (d9 X (x::more++fs) scope C s H ex) elt te) (hs:∀z,foldedSetIterable iter X.env z=pure z:=by intro _;rfl):
  PE X (.ListComp elt [{tg,iter,[],0}] scope pos) (uv wi (more.length+1) fr g DV te):=Gj hc S hi hg (λ_ _ _ _=>Ka) he hs
def Oe(h:Ob X.env.scope X.N scope x fs fr=true:=by kernel_rfl)(h2:decide (x::more++fs).Nodup=true:=by kernel_rfl):uq X scope x more fs fr:={dO h,aW h2}
def WE{K:Frag}(hc:X.calm=true)(h:Kk X es t)(hK:X.K=K:=by rfl)
  (hn:(assignEach es X.env).length=n:=by rfl) (g7:(assignEach es X.env).findIdx? (·.1)=none:=by rfl):PG X (.Tuple es k pos) (Tw K n t):=hK▸ko hc h hn g7
def IB(hN:decide X.N.Nodup=true:=by kernel_rfl)(hi:X.N[i]?=some x:=by rfl)(hl:X.env.scope.names.lookup x=some .local:=by first|rfl|exact jB rfl):PG X (.Name x pos) (uc i):=
 mh (aW hN) hi (.inl hl) (.inr hl)
variable{K:Frag}{fr:List Nat}{tt:TT}{te:TE}{Z:St}{H1:Hp}{R:Addr->Aam->Hp->Prop}
abbrev Vx(K:Frag):TG:=Tw K 2 (N0 (uc 0) (N0 (uc 1) aaL))
abbrev RB(J:It)(k:Nat)(fr:List Nat)(g:TG)(tt:TT)(te:TE)(Z:St)(H1:Hp)(R:Addr->Aam->Hp->Prop):Prop:=
 ∃W:Nat->Nat->Aam->Hp->Prop,(∃m,W 0 m [] H1)/\∀i m ys H2,W i m ys H2->
 (J.stop i H2/\ys.length<=sizeLine/\∀l,H2 l=none->R l ys H2)\/
 (J.go i H2/\ys.length<sizeLine/\∀v H3,J.FV i H2 v H3->∀own:St,own.length=k->g v (own++slotsOf fr Z) H3 λσ4 H4=>∃IJ,σ4=IJ++slotsOf fr Z/\IJ.length=k/\tt σ4 H4 λb H5=>
  if b=true then te σ4 H5 (λy H6=>∃m',m'<m/\W (i+1) m' (ys++[y]) H6)else∃m',m'<m/\W (i+1) m' ys H5)
def WL{v a b:V}{own rest:St}(ho:own.length=2)(ev:v=.ref p)(hp:bf K H p [a,b])(h:Q (some a::some b::rest) H):Vx K v (own++rest) H Q:=by
 match own,ho with
 |[o1,o2],_=>exact⟨p,_,ev,hp,rfl,_,_,rfl,_,_,rfl,rfl,h⟩
def rZ(a b:Str):Bool:=!decide (b.cps.toList<a.cps.toList)
def BA(a b:Str):rZ a b=true↔a.cps.toList<=b.cps.toList:=by unfold rZ;rw[Bool.not_eq_true',decide_eq_false_iff_not];exact FT
def Gw(a b c:Str)(h1:rZ a b=true)(h2:rZ b c=true):rZ a c=true:=by rw[BA]at*;exact List.le_trans h1 h2
def SO{a b:Str}(h1:rZ a b=true)(h2:rZ b a=true):a=b:=by rw[BA]at*;exact ext_toList (List.le_antisymm h1 h2)
def PM(a b:Str):(rZ a b||rZ b a)=true:=by
 rcases List.le_total a.cps.toList b.cps.toList with h|h
 ·rw[(BA a b).mpr h,Bool.true_or]
 ·rw[(BA b a).mpr h,Bool.or_true]
def jA(zs:Aaf):Aaf:=zs.mergeSort rZ
def tR(zs:Aaf):(jA zs).Perm zs:=zE zs rZ
def MX(zs:Aaf):(jA zs).Pairwise (λa b=>rZ a b=true):=vE Gw PM zs
theorem Cb:∀(r:Aaf)(p:Str),risingS p r=true->(p::r).Pairwise (λa b=>rZ a b=true)
 |[],p,_=>by simp
 |x::r,p,h=>by
  have h':(!ltCps x.cps.toList p.cps.toList&&risingS x r)=true:=h;rw[bF]at h';have ih:=Cb r x h'.2;have h1:rZ p x=true:=by have:=h'.1;rw[ltCps_eq]at this;exact this
  refine kA.mpr {λy hy=>?_,ih};rcases aF.mp hy with rfl|hy
  ·exact h1
  ·exact Gw p x y h1 (gO ih hy)
theorem KA:∀(l:Aaf),sortedS l=true->l.Pairwise (λa b=>rZ a b=true)
 |[],_=>.nil
 |x::r,h=>Cb r x h
theorem LM:∀{l m:Aaf},l.Perm m->l.Pairwise (λa b=>rZ a b=true)->m.Pairwise (λa b=>rZ a b=true)->l=m
 |[],m,h,_,_=>(List.nil_perm.mp h).symm
 |a::l,[],h,_,_=>absurd h.length_eq (by simp)
 |a::l,b::m,h,h1,h2=>by
  have e:a=b:=by
   rcases aF.mp (h.mem_iff.mp (ay))with e|e
   ·exact e
   ·rcases aF.mp (h.mem_iff.mpr (ay))with q|q
    ·exact q.symm
    ·exact SO (gO h1 q) (gO h2 e)
  subst e;rw[LM (List.perm_cons a|>.mp h) (kA.mp h1).2 (kA.mp h2).2]
def RW{l zs:Aaf}(h:l.Perm zs)(hs:sortedS l=true):l=jA zs:=LM (h.trans (tR zs).symm) (KA l hs) (MX zs)
theorem HJ:∀{zs:Aaf}{us:Aae},StrsAre us zs->Vals (zs.map V.str) us
 |_,_,.nil=>.nil
 |_,_,.cons y t h=>.cons ⟨t,rfl⟩ (HJ h)
def UO(hl:(apos.endLine==dU.line)=true:=by rfl)(hb:attributeBase (.Name d pd) "get" X.env (eval (.Name d pd) X.env)=eval (.Name d pd) X.env:=by rfl):M2 X (.Name d pd) "get" apos (.Name x px) (.Name y py) dU:=⟨hb,rfl,hl,rfl⟩
end
end L2
namespace L2
open PySem PySem.Spec PyProof.Rows PySem.W Builtin Builtin.ObjectAttr
noncomputable def QU:Aae->Bool
 | .ref _::r=>QU r
 |l=>l==[.type "ValueError",.type "Exception",.type "BaseException",.type "object"]
structure ael(K:Frag)(C:Addr):Prop where
 ga:findIn K (.ref C) "__getattribute__"=some (some (.builtin "BaseException.__getattribute__"))
 gt:findIn K (.ref C) "__getattr__"=some none
 sa:findIn K (.ref C) "__setattr__"=some (some (.builtin "object.__setattr__"))
 be:mroIn K C (.type "BaseException")=some true
 ob:mroIn K C (.type "object")=some true
 hd:hasDictIn K C=true
 tl:(clsIn K C).any (λcd=>QU cd.mro)=true
 cl:findIn K (.ref C) "__class__"=some (some (.builtin "object.__class__"))
 cg:specialIn K (.builtin "object.__class__") "__get__"=some (some (.builtin "getset_descriptor.__get__"))
 ct:takesIn K (.builtin "object.__class__")=some true
end L2
namespace L2
open PySem PySem.Spec PyProof.Rows PySem.W
abbrev adN(C:Addr)(dd:Aai)(t:Addr)(tb:Value):Obj:={cls:=.ref C,dict:=dd,data:=.fields #[.ref t,tb,.none,.none,.bool false,.none]}
def ad0(e C:Addr)(dd:Aai):Heap->Prop:=λh=>∃t tb,h.get? e=some (adN C dd t tb)
def gone(H:Hp)(e C:Addr)(dd:Aai):Hp:=upd H e (.ext (ad0 e C dd))
abbrev Cx.held(X:Cx)(q:Aaa)(E:Aac):Cx:={X with pn:=q,xe:=E}
section
variable{X:Cx}{K:Frag}
def IE{T id:String}(pa:PlainAttrs T)(slot:Slot T name id)(Qj:typeOf (.builtin id)=pure (.type "method_descriptor"))(hm:MH X id r)(ho:PE X o to)(ha:PA X (e::es) t)
  (qo:attributeBase o name X.env (eval o X.env)=eval o X.env:=by rfl)
  (To:((backTo dU (starEach (e::es) X.env)).all (λx=>!x.1)&&(backToKw dU (keywordEach [] X.env)).all (λx=>x.1.isSome)&&decide ((e::es).length+([]:List Keyword).length+(if([]:List Keyword).isEmpty then 0 else 1)<30))=true:=by rfl)
  (qi:(apos.endLine==dU.line)=true:=by rfl) (hs:starEach (e::es) X.env=(false,eval e X.env)::starEach es X.env:=by rfl) (JB:(backTo dU (starEach es X.env)).any (·.1)=false:=by rfl) (h:X.K=K:=by rfl):
  PE X (.Call (.Attribute o name apos) (e::es) [] dU) (tBM K T r to t):=h▸lG pa slot Qj hm ho ha qo To qi hs JB
end
end L2
namespace L2
open PySem PySem.Spec PyProof.Rows
section
variable{P:Program}{w:World}{A:Around}{E:Aac}{v:Shared}
structure Zt(h:Heap)(z ti to i1 i2 l1 l2:Addr)(f:Value)(k:Nat):Prop where
 self:IsZip h z ti to f
 ins:IsPair h ti (.ref i1) (.ref i2)
 outs:∃a b,IsPair h to a b
 w1:h.IsTupleIter i1 l1 k
 w2:h.IsTupleIter i2 l2 k
structure Rx(z ti to i1 i2 l1 l2:Addr):Prop where
 IX:ti≠to
 LR:i1≠i2
 nl1:l1≠to
 nl2:l2≠to
def cK{h:Heap}(e:h.get? a=some o)(e':h.get? b=some o')(c:o.cls=.type m)(c':o'.cls=.type n)(d:m≠n):a≠b:=λg=>by rw[g,e']at e;cases e;rw[c]at c';cases c';exact d rfl
def Zt.ne(g:Zt h z ti to i1 i2 l1 l2 f k):(ti≠z/\to≠z/\i1≠z/\i2≠z)/\(ti≠i1/\ti≠i2/\to≠i1/\to≠i2):=by
 obtain⟨gs,gi,⟨a,b,go⟩,⟨o1,q1,c1,_⟩,⟨o2,q2,c2,_⟩⟩:=g;exact{{cK gi gs rfl rfl (by decide),cK go gs rfl rfl (by decide),cK q1 gs c1 rfl (by decide),cK q2 gs c2 rfl (by decide)},
  cK gi q1 rfl c1 (by decide),cK gi q2 rfl c2 (by decide),cK go q1 rfl c1 (by decide),cK go q2 rfl c2 (by decide)}
def tup_ne(g:Zt h z ti to i1 i2 l1 l2 f k)(t:h.IsTuple l xs):l≠z/\l≠i1/\l≠i2:=by obtain⟨gs,_,_,⟨o1,q1,c1,_⟩,⟨o2,q2,c2,_⟩⟩:=g;obtain⟨o,q,c,_⟩:=t;exact{cK q gs c rfl (by decide),cK q q1 c c1 (by decide),cK q q2 c c2 (by decide)}
def jg(g:h.IsTupleIter j p k)(s:Heap.SameBut b h h')(n:j≠b):h'.IsTupleIter j p k:=by obtain⟨o,q,r⟩:=g;exact{o,s.extBut _ _ n q,r}
def nR(g:h.IsTuple l xs)(s:Heap.SameBut b h h')(n:l≠b):h'.IsTuple l xs:=by obtain⟨o,q,r⟩:=g;exact{o,s.extBut _ _ n q,r}
def yq(g:IsPair v.heap t a b)
  (q:∀h',h'.get? t=some {cls:=.type "tuple",data:=.seq ((#[a,b]:Aaj).setIfInBounds k x)}->Heap.SameBut t v.heap h'->Q () {v with heap:=h'}):
  wpAny (model P w) A (updateSeq t (·.setIfInBounds k x)) Q E v:=wpAny_updateSeq_pair g q
def VU{Q:Aac}(d:Rx z ti to i1 i2 l1 l2)(g:Zt v.heap z ti to i1 i2 l1 l2 .none k)
  (t1:v.heap.IsTuple l1 xs) (t2:v.heap.IsTuple l2 ys) (ex:xs[k]?=some x) (ey:ys[k]?=some y)
  (q:∀h',Zt h' z ti to i1 i2 l1 l2 (rawInt v.heap.objs.size) (k+1)->IsPair h' v.heap.objs.size x y->(∀c o,c≠z->c≠to->c≠i1->c≠i2->v.heap.get? c=some o->h'.get? c=some o)->Q (.ref v.heap.objs.size) {v with heap:=h'}):
  wpAny (model P w) A (Builtin.«zip.__next__» {[.ref z],[]}) (λfin s'=>∃u,fin=.done (.ret u)/\Q u s') E v:=by
 obtain⟨⟨a1,a2,a3,a4⟩,a5,a6,a7,a8⟩:=g.ne;obtain⟨b1,b2,b3⟩:=tup_ne g t1;obtain⟨c1,c2,c3⟩:=tup_ne g t2;obtain⟨gs,gi,⟨a,b,go⟩,g1,g2⟩:=g;show wpAny _ _ (field (.ref z) 2>>=_) _ _ _;refine ae (bH gs rfl rfl ?_);refine ae (bH gs rfl rfl ?_);refine ae (bQ gi rfl ?_);refine ae ?_;refine ae (bH gs rfl rfl (af ?_));refine ae (gz ?_);refine ae (bH gs rfl rfl ?_);refine ae (b6 gs (by simp) λp1 k1 r1=>?_)
 replace k1:IsZip p1 z ti to .ellipsis:=k1
 refine ae ?_;refine ae (ae (lM ?_));refine ae (tY (jg g1 r1 a3) (nR t1 r1 b1) ex λp2 k2 r2=>af ?_);have o2:=r2.extBut _ _ a7 (r1.extBut _ _ a2 go);refine ae (bQ o2 rfl ?_);refine ae (yq o2 λp3 o3 r3=>?_)
 replace o3:IsPair p3 to x b:=o3
 refine ae (l9 (af ?_));refine ae (ae (lM ?_));refine ae (tY (jg (jg (jg g2 r1 a4) r2 d.LR.symm) r3 a8.symm) (nR (nR (nR t2 r1 c1) r2 c2) r3 d.nl2) ey λp4 k4 r4=>af ?_);have o4:=r4.extBut _ _ a8 o3;refine ae (bQ o4 rfl ?_);refine ae (yq o4 λp5 o5 r5=>?_)
 replace o5:IsPair p5 to x y:=o5
 refine ae (l9 (af (af ?_)));refine ae (bQ o5 rfl ?_);refine ae (kL ?_);have sz:p5.objs.size=v.heap.objs.size:=by rw[r5.1,r4.1,r3.1,r2.1,r1.1]
 have z5:=r5.extBut _ _ a2.symm (r4.extBut _ _ a4.symm (r3.extBut _ _ a2.symm (r2.extBut _ _ a3.symm k1)));have st:∀c o,c≠z->c≠to->c≠i1->c≠i2->v.heap.get? c=some o->p5.get? c=some o:=λc o m1 m2 m3 m4 e=>
  r5.extBut _ _ m2 (r4.extBut _ _ m4 (r3.extBut _ _ m2 (r2.extBut _ _ m3 (r1.extBut _ _ m1 e))))
 have lz:=aD z5;refine ae ?_;have z6:IsZip (p5.push {cls:=.type "tuple",data:=.seq #[x,y]}) z ti to .ellipsis:=ah _ z5;refine ae (b6 z6 (by simp) λp7 z7 r7=>?_)
 replace z7:IsZip p7 z ti to (rawInt p5.objs.size):=z7
 refine b6 z7 (by simp) λp8 z8 r8=>?_
 replace z8:IsZip p8 z ti to (rawInt p5.objs.size):=z8
 have up:∀c o,c≠z->p5.get? c=some o->p8.get? c=some o:=λc o m e=>r8.extBut _ _ m (r7.extBut _ _ m (ah _ e));have n8:=r8.extBut _ _ (bx lz) (r7.extBut _ _ (bx lz) (aB _ rfl));rw[sz]at z8 n8;refine af {_,rfl,?_};rw[sz];obtain⟨oa,ja,ra⟩:=(jg (jg (jg k2 r3 a7.symm) r4 d.LR) r5 a7.symm);obtain⟨ob,jb,rb⟩:=(jg k4 r5 a8.symm);exact q p8 {z8,up _ _ a1 (st _ _ a1 d.IX a5 a6 gi),{x,y,up _ _ a2 o5},{oa,up _ _ a3 ja,ra},{ob,up _ _ a4 jb,rb}} n8 λc o m1 m2 m3 m4 e=>up c o m1 (st c o m1 m2 m3 m4 e)
def XE{z ti to i1 i2 l1 l2:Addr}{k:Nat}{xs ys:Aaj}{Q:Fin->Shared->Prop}(hh:A.handled=none)(d:Rx z ti to i1 i2 l1 l2)(g:Zt v.heap z ti to i1 i2 l1 l2 .none k)
  (t1:v.heap.IsTuple l1 xs) (ex:xs[k]?=none)
  (q:∀h' e,(∀c o,c≠z->c≠to->c≠i1->c≠i2->v.heap.get? c=some o->h'.get? c=some o)->(∃o,h'.get? e=some o/\o.cls=.type "StopIteration")->E (.ref e) {v with heap:=h'}):
  wpAny (model P w) A (Builtin.«zip.__next__» {[.ref z],[]}) Q E v:=by
 obtain⟨⟨a1,a2,a3,a4⟩,a5,a6,a7,a8⟩:=g.ne;obtain⟨b1,b2,b3⟩:=tup_ne g t1;obtain⟨gs,gi,⟨a,b,go⟩,g1,g2⟩:=g;show wpAny _ _ (field (.ref z) 2>>=_) _ _ _;refine ae (bH gs rfl rfl ?_);refine ae (bH gs rfl rfl ?_);refine ae (bQ gi rfl ?_);refine ae ?_;refine ae (bH gs rfl rfl (af ?_));refine ae (gz ?_);refine ae (bH gs rfl rfl ?_);refine ae (b6 gs (by simp) λp1 k1 r1=>?_)
 replace k1:IsZip p1 z ti to .ellipsis:=k1
 refine ae ?_;refine ae (ae (lM ?_));refine ae (xq hh (jg g1 r1 a3) (nR t1 r1 b1) ex λp2 e r2 he=>?_);obtain⟨oe,ge,ce⟩:=he;have z2:=r2 _ _ a3.symm k1;refine b6 z2 (by simp) λp3 _ r3=>q p3 e (λc o m1 _ m3 _ e=>r3.extBut _ _ m1 (r2 _ _ m3 (r1.extBut _ _ m1 e))) {oe,r3.extBut _ _ (cK ge z2 ce rfl (by decide)) ge,ce}
variable{X:Cx}{pins:Aaa}{Z:St}{H:Hp}{s:Shared}
def Inv.freeze(I:Inv X pins Z H s)(hd:H d=some (.dK kvs))(ho:s.heap.get? d=some o):Inv X pins Z (upd H d (.fA o (.dK kvs))) s:=by
 have nd:∀b u,H b=some u->(∀l,u≠ .dK l)->b≠d:=λb u q n z=>by rw[z,hd]at q;exact n kvs (bM q).symm
 refine I.un {λb u e _ _ _=>e,λb u e _ _ _=>{u.slots,e},λb u e n _=>by rw[aH ((λb q z=>by rw[z,hd]at q;cases q) b n)];exact n,λb u e _=>⟨u,e⟩,λb xs q=>by rw[aH (nd b _ q λl z=>by cases z)];exact q,λb u v q=>by rw[aH (nd b _ q λl z=>by cases z)];exact q,λb ps q=>{#[],by rw[aH (nd b _ q λl z=>by cases z),q];simp}} λb u g=>?_;by_cases hb:b=d
 ·subst hb;rw[ar]at g;cases g;exact{ho,I.bw b _ hd}
 ·rw[aH hb]at g;exact(I.bw b u g).j7 (λc v hc q=>q) (λc q=>by rw[aH (nd c _ q λl z=>by cases z)];exact q) λc ys q=>by rw[aH (nd c _ q λl z=>by cases z)];exact q
end
section
variable{X:Cx}
theorem ints_of:∀{ns:List Int}{us:Aae},Vals (ns.map V.int) us->IntsAre us ns
 |[],_,.nil=>.nil
 |n::ns,_,.cons ⟨t,r⟩ q=>by subst r;exact .cons _ _ (ints_of q)
def T5(hc:X.calm=true):gA X (.builtin "sum") (λxs H Q=>∃(a:Addr)(ns:List Int),xs=[.ref a]/\br X.K H a (ns.map V.int)/\Q (.int ns.sum) H):=by
 intro pins s Z H xs us Q I r h;obtain⟨a,ns,rfl,hq,q⟩:=h;obtain⟨u,rfl,ru⟩:=jY r;cases ru;obtain⟨aP,rv,pl,hz⟩:=I.list hq;have ia:=ints_of rv;obtain⟨ws,ex⟩:=ia.allInts.items;have en:ws.toList.map (·.1)=ns:=by rw[<-nums_intItems,<-ex];exact ia.numsOf
 refine sum_intListG (I.ok.hd hc) (ex▸pl.isList) λh' tk t' hk=>?_;have e:preSum (numAt ws) ws.size=ns.sum:=by rw[preSum_eq,eI (by simp),en]
 rw[e];exact{.int ns.sum,H,I.kept hk,⟨_,rfl⟩,q}
variable{pins:Aaa}{Z:St}{H:Hp}{s:Shared}{h':Heap}
def Inv.Lh{ch:Aah}(I:Inv X pins Z H s)(k:∀b o,b∉ch->s.heap.get? b=some o->h'.get? b=some o)(fc:∀b∈ch,pD X pins H b)
  (hp:s.heap.objs.size<=p) (ht:IsTup h' p us.toArray/\∃o,h'.get? p=some o/\o.dict=none) (r:Vals xs us) (hz:xs.length<=sizeLine):Inv X pins Z (upd H p (.tup xs)) {s with heap:=h',toks:=t'}:=by
 have hn:=I.bw.fresh hp;have fp:=I.uZ hp hn;have nH:∀b u,H b=some u->b∉ch/\b≠p:=λb u g=>{(λz=>by rw[(fc b z).1]at g;cases g),λz=>by rw[z,hn]at g;cases g};refine I.step (λb hb=>?_) (λb o _ _ hc g _=>k b o (λz=>hc (az _ z)) g) (λb o _ _ hc g _=>{o.slots,k b o (λz=>hc (az _ z)) g})
  (λb o hc g n=>by rw[aH λz=>hc (by rw[z];exact ay)];exact n) (λb o hc g=>{o,k b o (λz=>hc (az _ z)) g})
  (λb ys g=>by rw[aH (nH b _ g).2];exact g) (λb o u g=>by rw[aH (nH b _ g).2];exact g) (λb ps g=>{#[],by rw[aH (nH b _ g).2,g];simp}) (λm hm=>?_) (λb u g=>?_) I.bare
 ·rcases aF.mp hb with rfl|z
  ·exact{fp.2.2.2.1,fp.2.1,fp.2.2.2.2.1,fp.2.2.2.2.2}
  ·have f:=fc b z;exact{f.2.2.2.1,f.2.1,f.2.2.2.2.1,f.2.2.2.2.2}
 ·obtain⟨o,es,ep,ho,r'⟩:=hm;exact{o,es,ep,k _ o (λz=>(fc _ z).2.1 rfl) ho,r'}
 ·by_cases hb:b=p
  ·subst hb;rw[ar]at g;cases g;exact⟨hz,us,r,ht⟩
  ·rw[aH hb]at g;refine(I.bw b u g).j7 (λc v hc q=>?_) (λc q=>?_) λc ys q=>?_
   ·rcases hc with z|z
    ·rw[z];rw[z]at q;exact k b v (nH b _ g).1 q
    ·exact k c v (nH c _ z).1 q
   ·rw[aH (nH c _ q).2];exact q
   ·rw[aH (nH c _ q).2];exact q
def Inv.Li{ch:Aah}(I:Inv X pins Z H s)(k:∀b o,b∉ch->s.heap.get? b=some o->h'.get? b=some o)(fc:∀b∈ch,pD X pins H b):Inv X pins Z H {s with heap:=h',toks:=t'}:=by
 have nH:∀b u,H b=some u->b∉ch:=λb u g z=>by rw[(fc b z).1]at g;cases g
 refine I.step (λb z=>?_) (λb o _ _ hc g _=>k b o hc g) (λb o _ _ hc g _=>{o.slots,k b o hc g}) (λ_ _ _ _ n=>n) (λb o hc g=>{o,k b o hc g})
  (λ_ _ g=>g) (λ_ _ _ g=>g) (λb ps g=>{#[],by rw[g];simp}) (λm hm=>?_) (λb u g=>?_) I.bare
 ·have f:=fc b z;exact{f.2.2.2.1,f.2.1,f.2.2.2.2.1,f.2.2.2.2.2}
 ·obtain⟨o,es,ep,ho,r'⟩:=hm;exact{o,es,ep,k _ o (λz=>(fc _ z).2.1 rfl) ho,r'}
 ·refine(I.bw b u g).j7 (λc v hc q=>k c v ?_ q) (λ_ q=>q) λ_ _ q=>q;rcases hc with z|z
  ·rw[z];exact nH b _ g
  ·exact nH c _ z
end
section
variable{P:Program}{w:World}{A:Around}{E:Aac}{v:Shared}
def K6(d:Rx z ti to i1 i2 l1 l2)(g:Zt v.heap z ti to i1 i2 l1 l2 .none k)
  (t1:v.heap.IsTuple l1 xs) (t2:v.heap.IsTuple l2 ys) (ex:xs[k]?=some x) (ey:ys[k]?=some y)
  (q:∀h',Zt h' z ti to i1 i2 l1 l2 (rawInt v.heap.objs.size) (k+1)->IsPair h' v.heap.objs.size x y->(∀c o,c≠z->c≠to->c≠i1->c≠i2->v.heap.get? c=some o->h'.get? c=some o)->Q (some (.ref v.heap.objs.size)) {v with heap:=h'}):
  wpAny (model P w) A (pyNext (.ref z)) Q E v:=by
 have ty:v.TypeIs (.ref z) "zip":={_,g.self,rfl};exact ae (dv (wpAny_callSpecial?_slot ty eG (ba eG ty jW (VU d g t1 t2 ex ey λh' b1 b2 b3=>af (q h' b1 b2 b3)) (jz _))))
def K4(hh:A.handled=none)(d:Rx z ti to i1 i2 l1 l2)(g:Zt v.heap z ti to i1 i2 l1 l2 .none k)
  (t1:v.heap.IsTuple l1 xs) (ex:xs[k]?=none)
  (q:∀h',(∀c o,c≠z->c≠to->c≠i1->c≠i2->v.heap.get? c=some o->h'.get? c=some o)->Q none {v with heap:=h'}):
  wpAny (model P w) A (pyNext (.ref z)) Q E v:=by
 have ty:v.TypeIs (.ref z) "zip":={_,g.self,rfl};refine ae (dv (wpAny_callSpecial?_slot ty eG (ba eG ty jW (XE (ys:=#[]) hh d g t1 ex λh' e hk he=>?_) (jz _))));obtain⟨o,ho,hc⟩:=he;exact ae (fg ⟨o,ho,hc⟩ iF (af (q _ hk)))
abbrev Ug(h:Heap)(l1:Addr):Heap:=h.push {cls:=.type "tuple_iterator",data:=.fields #[.ref l1,.int 0 0]}
abbrev Ue(h:Heap)(l1 l2:Addr):Heap:=(Ug h l1).push {cls:=.type "tuple_iterator",data:=.fields #[.ref l2,.int 0 0]}
abbrev Ud(h:Heap)(l1 l2:Addr):Heap:=(Ue h l1 l2).push {cls:=.type "tuple",data:=.seq #[.ref h.objs.size,.ref (Ug h l1).objs.size]}
abbrev Uc(h:Heap)(l1 l2:Addr):Heap:=(Ud h l1 l2).push {cls:=.type "tuple",data:=.seq #[.none,.none]}
abbrev La(h:Heap)(l1 l2:Addr):Heap:=(Uc h l1 l2).push {cls:=.type "zip",data:=.fields #[.none,.bool false,.bool false,.ref (Ue h l1 l2).objs.size,.ref (Ud h l1 l2).objs.size]}
def XG(l1 l2:Addr)(xs ys:Aaj):
  Meets (Builtin.«zip.__new__» {[.type "zip",.ref l1,.ref l2],[]}) (λ_ R s=>s.heap.IsTuple l1 xs/\s.heap.IsTuple l2 ys/\R (.ok (.ret (.ref (Uc s.heap l1 l2).objs.size))) {s with heap:=La s.heap l1 l2}):=
 .of_wp λprog w A R s h=>by
  obtain⟨hp,g,d,tk,os⟩:=s;obtain⟨qj,ip,h⟩:=h;have S5:=sub_zip;have hL2:Heap.IsTuple (Shared.heap ⟨hp.push {cls:=.type "tuple_iterator",data:=.fields #[.ref l1,.int 0 0]},g,d,tk,os⟩) l2 ys:=by obtain⟨o,e,r⟩:=ip;exact{o,ah _ e,r}
  wp_walk using mV qj,mV hL2
  exact⟨_,rfl,h⟩
def K8(h1:v.heap.IsTuple l1 xs)(h2:v.heap.IsTuple l2 ys)
  (q:∀h' n,n=v.heap.objs.size->Zt h' (n+4) (n+2) (n+3) n (n+1) l1 l2 .none 0->(∀c o,v.heap.get? c=some o->h'.get? c=some o)->Q (.ref (n+4)) {v with heap:=h'}):
  wpAny (model P w) A (call (.type "zip") [.ref l1,.ref l2]) Q E v:=by
 refine callType_new F.called_zip (by decide) (F.typeCall_zip_2 _ _) (F.newCall_zip_2 _ _) (λobj=>yW obj _ _) F.entry_zip_new (XG l1 l2 xs ys) {h1,h2,?_};have e1:(Ug v.heap l1).objs.size=v.heap.objs.size+1:=cy ..;have e2:(Ue v.heap l1 l2).objs.size=v.heap.objs.size+2:=by rw[cy,e1]
 have e3:(Ud v.heap l1 l2).objs.size=v.heap.objs.size+3:=by rw[cy,e2]
 have e4:(Uc v.heap l1 l2).objs.size=v.heap.objs.size+4:=by rw[cy,e3]
 have g5:(La v.heap l1 l2).get? (Uc v.heap l1 l2).objs.size=some _:=aB _ rfl;have g4:(La v.heap l1 l2).get? (Ud v.heap l1 l2).objs.size=some _:=ah _ (aB _ rfl);have g3:(La v.heap l1 l2).get? (Ue v.heap l1 l2).objs.size=some _:=ah _ (ah _ (aB _ rfl));have g2:(La v.heap l1 l2).get? (Ug v.heap l1).objs.size=some _:=ah _ (ah _ (ah _ (aB _ rfl)));have g1:(La v.heap l1 l2).get? v.heap.objs.size=some _:=ah _ (ah _ (ah _ (ah _ (aB _ rfl))));rw[e2,e3,e4]at g5;rw[e1,e2]at g3;rw[e3]at g4;rw[e1]at g2;rw[e4];exact{⟨_,g5,rfl⟩,q _ _ rfl {g5,g3,⟨_,_,g4⟩,⟨_,g1,rfl,rfl⟩,⟨_,g2,rfl,rfl⟩} λc o x=>ah _ (ah _ (ah _ (ah _ (ah _ x))))}
def Itz(K:Frag)(a b:Addr):It:=
 {λi H=>∃xs ys x y,bf K H a xs/\bf K H b ys/\xs[i]?=some x/\ys[i]?=some y,
  λi H u H'=>∃p x y,u=.ref p/\H p=none/\H'=upd H p (.tup [x,y])/\(∀xs,bf K H a xs->xs[i]?=some x)/\∀ys,bf K H b ys->ys[i]?=some y,
  λi H=>∃xs,bf K H a xs/\xs.length=i}
def gQ(z ti to i1 i2:Addr):Aah:=[z,ti,to,i1,i2]
end
def RJ{K:Frag}(a b z ti to i1 i2:Addr)(dd:Rx z ti to i1 i2 a b):Turn P w K (.Tuple elts kk ps) (Itz K a b) (gQ z ti to i1 i2) z (λi h=>Zt h z ti to i1 i2 a b .none i) where
 mem:=ay
 obj:=λi h st c hc=>by
  obtain⟨gs,gi,⟨u,v,go⟩,⟨o1,q1,c1,d1⟩,⟨o2,q2,c2,d2⟩⟩:=st;rcases(by simpa[gQ]using hc)with rfl|rfl|rfl|rfl|rfl
  ·exact{_,gs,λv z=>by cases z}
  ·exact{_,gi,λv z=>by cases z}
  ·exact{_,go,λv z=>by cases z}
  ·exact{_,q1,λv z=>by rw[d1]at z;cases z}
  ·exact{_,q2,λv z=>by rw[d2]at z;cases z}
 keep:=λi h h' st k=>by obtain⟨gs,gi,⟨u,v,go⟩,⟨o1,q1,r1⟩,⟨o2,q2,r2⟩⟩:=st;exact{k z (by simp[gQ]) _ gs,k ti (by simp[gQ]) _ gi,{u,v,k to (by simp[gQ]) _ go},{o1,k i1 (by simp[gQ]) _ q1,r1},{o2,k i2 (by simp[gQ]) _ q2,r2}}
 item:=by
  intro X hP hw hK hc i pins s Z H E I hf st hg;subst hP hw hK;obtain⟨xs,ys,x,y,ha,hb,hx,hy⟩:=hg;obtain⟨Gz,Ii,Ec,vY⟩:=I.tuple ha;obtain⟨Cq,Ih,Ai,sf⟩:=I.tuple hb;obtain⟨u1,U6,Ij⟩:=Ii.get hx;obtain⟨u2,AH,D7⟩:=Ih.get hy;refine K6 dd st (show s.heap.IsTuple a Gz.toArray from Ec) (show s.heap.IsTuple b Cq.toArray from Ai) (by simpa using U6) (by simpa using AH) λh1 g1 pr kp=>{_,rfl,?_};refine tN g1.self λh2 z2 sb=>?_;have pV:=sb;have lz:=aD st.self;have al:∀c∈gQ z ti to i1 i2,c<s.heap.objs.size:=λc hc=>by
   obtain⟨gs,gi,⟨u,v,go⟩,⟨o1,q1,r1⟩,⟨o2,q2,r2⟩⟩:=id st;rcases(by simpa[gQ]using hc)with rfl|rfl|rfl|rfl|rfl
   ·exact aD gs
   ·exact aD gi
   ·exact aD go
   ·exact aD q1
   ·exact aD q2
  have uR:∀c o,c∉gQ z ti to i1 i2->s.heap.get? c=some o->h2.get? c=some o:=λc o hc e=>
   pV.extBut c o (λt=>hc (by simp[gQ,t])) (kp c o (λt=>hc (by simp[gQ,t])) (λt=>hc (by simp[gQ,t])) (λt=>hc (by simp[gQ,t])) (λt=>hc (by simp[gQ,t])) e)
  have I2:=I.Lh (t':=s.toks) uR hf (ao _) ({{_,pV.extBut _ _ (bx lz) pr,rfl,_,rfl},_,pV.extBut _ _ (bx lz) pr,rfl}) (.cons Ij (.cons D7 .nil)) (by show 2<=sizeLine;decide);obtain⟨⟨n1,n2,n3,n4⟩,n5,n6,n7,n8⟩:=g1.ne;obtain⟨gs,gi,⟨u,v,go⟩,⟨o1,q1,r1⟩,⟨o2,q2,r2⟩⟩:=g1;refine{.ref s.heap.objs.size,_,I2,rfl,{_,x,y,rfl,I.bw.fresh (ao _),rfl,λzs hz=>by rw[I.vL hz ha];exact hx,λzs hz=>by rw[I.vL hz hb];exact hy},{z2,pV.extBut _ _ n1 gi,{u,v,pV.extBut _ _ n2 go},{o1,pV.extBut _ _ n3 q1,r1},{o2,pV.extBut _ _ n4 q2,r2}},λc hc=>?_};rw[aH (aG (al c hc))];exact(hf c hc).1
 done:=by intro X hP hw hK hc i pins s Z H E I hf st hg;subst hP hw hK;obtain⟨xs,ha,hx⟩:=hg;obtain⟨Gz,Ii,Ec,vY⟩:=I.tuple ha;have hl:=Ii.length;refine K4 (I.ok.hd hc) dd st (show s.heap.IsTuple a Gz.toArray from Ec) (by simp;lia) λh1 kp=>{rfl,I.Li (λc o hc e=>kp c o (λt=>hc (by simp[gQ,t])) (λt=>hc (by simp[gQ,t])) (λt=>hc (by simp[gQ,t])) (λt=>hc (by simp[gQ,t])) e) hf}
 self:=λ_ _ _ _ _ st h=>lB st.self h
inductive ZV(K:Frag)(R:It->Hp->Prop)(vs:Aam)(H1:Hp):Prop
 |mk a b (_:vs=[.ref a,.ref b]) (_:(∃xs,bf K H1 a xs)) (_:(∃ys,bf K H1 b ys)) (_:R (Itz K a b) H1)
def abH(K:Frag)(ta:TA):TI:=λZ H R=>ta Z H λvs H1=>ZV K R vs H1
def WC(hg:Gl X "zip")(hm:X.mg "zip"=none)(ha:PA X [a,b] ta)(hs:starEach [a,b] X.env=[(false,eval a X.env),(false,eval b X.env)]:=by rfl)(kR:starEach [b] X.env=[(false,eval b X.env)]:=by rfl):
  PI X (.Tuple elts kk ps) (.Call (.Name "zip" p) [a,b] [] pos) (abH X.K ta):=by
 intro pins s Z H R I h;refine E3 (qd I hg hm boot_zip (dP (pR (ha pos pins s Z H _ I h) λus s1 vs H1 I1 r1 q1=>?_) (by rw[hs,kR]) (by rw[kR];rfl)));obtain⟨l1,l2,e,⟨xs,ha⟩,⟨ys,hb⟩,q⟩:=q1;subst e;obtain⟨u1,u2,rfl,Ij,D7⟩:=tP r1;cases Ij;cases D7;obtain⟨Gz,Ii,Ec,vY⟩:=I1.tuple ha;obtain⟨Cq,Ih,Ai,sf⟩:=I1.tuple hb;have t1:=Ec;have t2:=Ai;have b1:l1<s1.heap.objs.size:=by obtain⟨o,e,_⟩:=t1;exact aD e
 have b2:l2<s1.heap.objs.size:=by obtain⟨o,e,_⟩:=t2;exact aD e
 refine K8 t1 t2 λh' n en g kp=>?_;subst en;refine lB g.self ?_;refine{_,_,_,_,H1,rfl,(I1.kept (t':=s1.toks) kp),RJ l1 l2 _ _ _ _ _ {?_,λt=>absurd t (aG (dw _)),aG (aV b1 (dM _ _)),aG (aV b2 (dM _ _))},g,λc hc=>?_,q}
 ·exactλt=>absurd t (aG (dw _))
 ·have zk:c=s1.heap.objs.size+4\/c=s1.heap.objs.size+2\/c=s1.heap.objs.size+3\/c=s1.heap.objs.size\/c=s1.heap.objs.size+1:=by simpa[gQ]using hc
  have lc:s1.heap.objs.size<=c:=by rcases zk with e|e|e|e|e<;>rw[e]<;>first|exact ao _|exact dM _ _
  exact I1.uZ lc (I1.bw.fresh lc)
section
variable{P:Program}{w:World}{A:Around}{E:Aac}{v:Shared}
def B5(h:Q (v.heap.get? a) v):wpAny M A (loadIfAlive a) Q E v:=λΓ p _=>by show Sem.wp M Γ (Sem.loadIfAlive a Sem.pure) _ _ p v;exact h
abbrev xU(f0:Value)(b:Bool)(ti to:Addr):Obj:={cls:=.type "zip",dict:=none,data:=.fields #[f0,.bool b,.bool false,.ref ti,.ref to],slots:=#[]}
structure Zs(h:Heap)(z ti to i1 i2 l1 l2 T:Addr)(k:Nat):Prop where
 self:∃b,h.get? z=some (xU (rawInt T) b ti to)
 live:∃o,h.get? T=some o
 ins:IsPair h ti (.ref i1) (.ref i2)
 w1:h.IsListIter i1 l1 k
 w2:h.IsListIter i2 l2 k
def K7{z ti to T:Addr}(g:v.heap.get? z=some (xU (rawInt T) b ti to))(l:∃o,v.heap.get? T=some o)
  (q:∀h',h'.get? z=some (xU (rawInt T) true ti to)->Heap.SameBut z v.heap h'->Q false {v with heap:=h'}):wpAny (model P w) A (Builtin.SmallTypes.ownedTupleIsFree (.ref z)) Q E v:=by
 obtain⟨o,l⟩:=l;refine ae (bH g rfl rfl ?_);refine ae (B5 ?_);rw[cA,l];refine ae (bH g rfl rfl ?_);cases b with
 |true=>
  exact af (q v.heap g (tL _ _))
 |false=>
  refine ae (b6 g (by simp) λh1 g1 s1=>af (q h1 g1 s1))
variable{prog:Program}
def N7:typeLookup (.type "zip") "__getattr__"=pure none:=by rw[mD,ji];kernel_rfl
def Xl:typeLookup (.type "zip") "keys"=pure none:=by rw[mD,ji];kernel_rfl
def ab0:entryFor table "zip.__getattribute__"=some Builtin.«object.__getattribute__»:=xM (id':="object.__getattribute__") (by kernel_rfl) (by decide+kernel) (by decide+kernel) (by kernel_rfl)
def Xk{os:OsState}(hx:h.get? a=some (xU f0 b ti to))(hA:A.handled=none)
  (k:∀h' tk e,Heap.NewAttrErr h h' e (.ref a) "keys"->E (.ref e) ⟨h',g,d,tk,os⟩):
  wpAny (model prog w) A (Builtin.«object.__getattribute__» {[.ref a,.str "keys" u],[]}) Q E ⟨h,g,d,t,os⟩:=by
 have f4:=Xl
 repeat (any_goals (first|(assumption)|(wp_step)))
 exact wpAny_raiseAttrError hA k (attrMsg_fits (by decide+kernel) (by size_fits))
def Xm{os:OsState}(hx:h.get? a=some (xU f0 b ti to))(hA:A.handled=none)
  (k:∀h' tk e,Heap.NewAttrErr h h' e (.ref a) "keys"->R (.error (.ref e)) ⟨h',g,d,tk,os⟩):
  codeAny (model prog w) A (.call (.builtin "zip.__getattribute__") {[.ref a,.str "keys" u],[]}) R ⟨h,g,d,t,os⟩:=
 yK F.slot_zip_getattribute.plain ab0 (F.slot_zip_getattribute.check _ _ _ _ _ _ _ _ (show(⟨h,g,d,t,os⟩:Shared).TypeIs (.ref a) "zip"from⟨_,hx,rfl⟩) (F.args_zip_getattribute_2 _ _) (Xk hx hA k))
def ab1{os:OsState}(hx:h.get? a=some (xU f0 b ti to))(hA:A.handled=none)
  (k:∀h' tk e,Heap.NewAttrErr h h' e (.ref a) "keys"->E (.ref e) ⟨h',g,d,tk,os⟩):
  wpAny (model prog w) A (getAttrBy (.ref a) (.str "keys" u) false) Q E ⟨h,g,d,t,os⟩:=by
 have g2:=F.slot_zip_getattribute.lookup;have g3:=F.slot_zip_getattribute.bind (.ref a);have f5:=N7;have f1:=zO
 repeat (any_goals (first|(assumption)|(wp_step)))
 refine Xm hx hA λh' tk e ne=>?_;obtain⟨t',u',he⟩:=ne.there
 repeat (any_goals (first|(assumption)|(wp_step)))
 exact k _ _ _ ne
def Xn{os:OsState}(hx:h.get? a=some (xU f0 b ti to))(hA:A.handled=none)
  (k:∀h' tk e,Heap.NewAttrErr h h' e (.ref a) "keys"->Q none ⟨h',g,d,tk,os⟩):
  wpAny (model prog w) A (getAttr? (.ref a) "keys") Q E ⟨h,g,d,t,os⟩:=by
 have f1:=zO
 repeat (any_goals (first|assumption|(with_reducible refine ab1 hx hA λh' tk e ne=>?_)|wp_step))
 obtain⟨t',u',he⟩:=ne.there
 repeat (any_goals (first|(assumption)|(wp_step)))
 exact k _ _ _ ne
end
section
theorem Lb:∀{ks:List Key}{ys:Aam}{us vs:Aae},Vals (ks.map kV) us->Vals ys vs->ks.length=ys.length->∃pairs:List (Key×Value),Paired (λ(u:Value)(p:Key×Value)=>(bJ P w).is p.1 u=true) us pairs/\vs=pairs.map (·.2)/\KV (ks.zip ys) pairs/\pairs.length=ks.length
 |[],[],_,_,.nil,.nil,_=>{[],.nil,rfl,.nil,rfl}
 |k::ks,y::ys,_,_,.cons r1 t1,.cons (b:=v) r2 t2,h=>by obtain⟨ps,h1,h2,h3,h4⟩:=Lb t1 t2 (Nat.succ.inj h);exact{(k,v)::ps,.cons (vT r1) h1,by rw[bo,<-h2],.cons ⟨rfl,r2⟩ h3,cc Nat.succ h4}
end
end L2
namespace Tb
open PySem PySem.SetTable
def S:Nat->Nat
 |0=>0
 |n+1=>5*S n+1
def F:Nat->Nat->Nat
 |0,i=>i
 |n+1,i=>5*F n i+1
theorem Ku:∀n i,F n i=i+S n*(4*i+1)
 |0,i=>by simp[F,S]
 |n+1,i=>by show 5*F n i+1=i+(5*S n+1)*(4*i+1);rw[Ku n i,wV,kh,oY];lia
def VQ(m:Nat):∀n i,F (m+n) i=F m (F n i):=by
 intro n i
 induction m with
 |zero=>simp[F]
 |succ m ih=>
  rw[show m+1+n=(m+n)+1 by lia];show 5*F (m+n) i+1=5*F m (F n i)+1;rw[ih]
def ab5(n:Nat):S (n+n)=2*S n*(2*S n+1):=by have h:=VQ n n 0;rw[Ku,Ku n (F n 0),Ku n 0]at h;simp only[Nat.mul_zero,vi,Nat.mul_one]at h;rw[h];generalize S n=x;rw[oY,oY,show x*(4*x)=2*x*(2*x) by rw[tG,show(4:Nat)=2*2 from rfl,kh,kh,tG x 2 x]];lia
theorem VJ:∀k,∃c,S (2^k)=2^k*(2*c+1)
 |0=>{0,rfl}
 |k+1=>by
  obtain⟨c,hc⟩:=VJ k;refine{2*c*S (2^k)+c+S (2^k),?_};rw[show 2^(k+1)=2^k+2^k by rw[iS];lia,ab5];generalize hs:S (2^k)=s at hc;have e:2*s*(2*s+1)=2*(2^k*(2*c+1))*(2*s+1):=by rw[<-hc]
  rw[e,<-Nat.two_mul,<-kh,kh (2*2^k)];congr 1;rw[wV,oY,oY,oY];have:2*c*(2*s)=2*(2*c*s):=by rw[tG]
  lia
theorem cover:∀(k i j:Nat),∃n,n<2^k/\F n i % 2^k=j % 2^k
 |0,i,j=>{0,by decide,by simp[Nat.mod_one]}
 |k+1,i,j=>by
  obtain⟨n,hn,e⟩:=cover k i j;rw[iS];by_cases c:F n i/2^k % 2=j/2^k % 2
  ·exact{n,by lia,by rw[wU,wU,e,c]}
  ·obtain⟨z,hz⟩:=VJ k;refine{2^k+n,by lia,?_};have e2:F (2^k+n) i=F n i+2^k*(2*(z*(4*F n i+1)+2*F n i)+1):=by rw[VQ,Ku (2^k),hz,kh];congr 2;rw[wV,Nat.one_mul,kh];lia
   rw[e2,wU,wU,Nat.add_mul_mod_self_left,Nat.add_mul_div_left _ _ (Nat.two_pow_pos k),e];congr 2;lia
def CF(mask:Nat)(p:Probe):Probe:=
 if p.more>0 then{p with j:=p.j+1,more:=p.more -1}else
 {p with j:=(leap mask p.i p.perturb).1,more:=runEnd mask (leap mask p.i p.perturb).1 -(leap mask p.i p.perturb).1,i:=(leap mask p.i p.perturb).1,perturb:=(leap mask p.i p.perturb).2}
abbrev Lr(mask i q:Nat):Probe:={j:=i,more:=runEnd mask i -i,i:=i,perturb:=q,dummy:=none}
def pr(mask:Nat)(h:Int):Nat->Probe
 |0=>Lr mask (bits h %(mask+1)) (bits h)
 |d+1=>CF mask (pr mask h d)
def RU(t:SetTable)(h:Int):t.probeStart h=pr t.mask h 0:=rfl
def ps(mask:Nat)(h:Int)(d:Nat):Nat:=(pr mask h d).j
def lp(mask:Nat)(h:Int):Nat->Nat×Nat
 |0=>(bits h %(mask+1),bits h)
 |n+1=>leap mask (lp mask h n).1 (lp mask h n).2
def run(mask i:Nat):Nat:=runEnd mask i -i
def Tn(mask:Nat)(h:Int):Nat->Nat
 |0=>0
 |n+1=>Tn mask h n+run mask (lp mask h n).1+1
def YH(mask i:Nat):run mask i<=9:=by unfold run runEnd;split<;>lia
theorem VH(mask:Nat)(h:Int):∀n,Tn mask h n<=10*n
 |0=>ao _
 |n+1=>by have:=VH mask h n;have:=YH mask (lp mask h n).1;show Tn mask h n+run mask (lp mask h n).1+1<=_;lia
def Wy(mask:Nat)(h:Int):∀n,pr mask h (Tn mask h n)=Lr mask (lp mask h n).1 (lp mask h n).2/\∀e,e<=run mask (lp mask h n).1->pr mask h (Tn mask h n+e)={j:=(lp mask h n).1+e,more:=run mask (lp mask h n).1 -e,i:=(lp mask h n).1,perturb:=(lp mask h n).2,dummy:=none}:=by
 have OV:∀n,pr mask h (Tn mask h n)=Lr mask (lp mask h n).1 (lp mask h n).2->∀e,e<=run mask (lp mask h n).1->pr mask h (Tn mask h n+e)={j:=(lp mask h n).1+e,more:=run mask (lp mask h n).1 -e,i:=(lp mask h n).1,perturb:=(lp mask h n).2,dummy:=none}:=by
  intro n h0 e
  induction e with
  |zero=>intro _;rw[vn,h0];rfl
  |succ e ih=>
   intro he;show CF mask (pr mask h (Tn mask h n+e))=_;rw[ih ∅];unfold CF;rw[aA (show run mask (lp mask h n).1 -e>0 by lia)];congr 1
 intro n
 induction n with
 |zero=>exact{rfl,OV 0 rfl}
 |succ n ih=>
  have h1:pr mask h (Tn mask h (n+1))=Lr mask (lp mask h (n+1)).1 (lp mask h (n+1)).2:=by show CF mask (pr mask h (Tn mask h n+run mask (lp mask h n).1))=_;rw[ih.2 _ (ao _)];unfold CF;rw[ax (by simp)];rfl
  exact{h1,OV _ h1}
def Eb{mask:Nat}(he:e<=run mask (lp mask h n).1):ps mask h (Tn mask h n+e)=(lp mask h n).1+e:=by unfold ps;rw[(Wy mask h n).2 e he]
theorem abE(mask:Nat)(h:Int):∀n,(lp mask h n).1<mask+1
 |0=>qB _ (qA _)
 |n+1=>qB _ (qA _)
theorem Zv(mask:Nat)(h:Int):∀n,(lp mask h n).2=bits h/32^n
 |0=>by simp[lp]
 |n+1=>by show(lp mask h n).2/32=_;rw[Zv mask h n,Nat.div_div_eq_div_mul,iS]
def Xv(h:Int):bits h<2^64:=by unfold bits;lia
theorem LV{mask k:Nat}(hk:mask+1=2^k)(h:Int):∀n,(lp mask h (13+n)).1=F n (lp mask h 13).1 % 2^k
 |0=>by have:=abE mask h 13;show(lp mask h 13).1=(lp mask h 13).1 % 2^k;rw[Nat.mod_eq_of_lt ∅]
 |n+1=>by
  show((lp mask h (13+n)).1*5+1+(lp mask h (13+n)).2/32) %(mask+1)=(5*F n (lp mask h 13).1+1) % 2^k;have q0:(lp mask h (13+n)).2/32=0:=by rw[Zv];have h2:32^13<=32^(13+n):=fZ (by decide) ∅;rw[Nat.div_eq_of_lt (show bits h<32^(13+n)from aV (fB (Xv h) (by decide)) h2)]
  rw[q0,LV hk h n,hk,vn,Nat.add_mod,Nat.mul_mod,Nat.mod_mod,<-Nat.mul_mod,<-Nat.add_mod,Bl]
def hits{mask k:Nat}(hk:mask+1=2^k)(h:Int)(hj:j<=mask):∃n,n<=13+mask/\(lp mask h n).1=j/\ps mask h (Tn mask h n)=j:=by obtain⟨n,hn,e⟩:=cover k (lp mask h 13).1 j;have e2:=LV hk h n;rw[e,Nat.mod_eq_of_lt ∅]at e2;refine{13+n,by lia,e2,?_};have:=Eb (mask:=mask) (h:=h) (n:=13+n) (aR _);rw[vn,vn]at this;rw[this,e2]
def M7{mask:Nat}:ps mask h d<=mask:=by
 have key:∀d,(pr mask h d).j+(pr mask h d).more<=mask:=by
  have base:∀i q,i<mask+1->(Lr mask i q).j+(Lr mask i q).more<=mask:=λi q hi=>by show i+(runEnd mask i -i)<=mask;unfold runEnd;split<;>lia
  intro d
  induction d with
  |zero=>exact base _ _ (qB _ (qA _))
  |succ d ih=>
   show(CF mask (pr mask h d)).j+(CF mask (pr mask h d)).more<=mask;unfold CF;split
   ·show(pr mask h d).j+1+((pr mask h d).more -1)<=mask;lia
   ·exact base _ 0 (qB _ (qA _))
 have:=key d;unfold ps;lia
def least{p:Nat->Prop}:∀{n},p n->∃m,m<=n/\p m/\∀e,e<m->¬p e:=by
 intro n
 induction n using Nat.strongRecOn with
 |ind n ih=>
  intro hn;by_cases c:∃e,e<n/\p e
  ·obtain⟨e,he,pe⟩:=c;obtain⟨m,h1,h2,h3⟩:=ih e he pe;exact{m,by lia,h2,h3}
  ·exact{n,ao _,hn,λe he pe=>c ⟨e,he,pe⟩}
def my(xs:Array Nat):Prop:=∀i k,i<k->k<xs.size->xs.getD i 0<xs.getD k 0
def Tv{xs:Array Nat}(h:i<xs.size):xs.getD i a=xs.getD i b:=by simp[Array.getD,h]
def getD_some{xs:Array Nat}:xs[i]?=some j↔i<xs.size/\xs.getD i 0=j:=by
 constructor
 ·intro e;obtain⟨h,e⟩:=gB.mp e;exact{h,by simp[Array.getD,h,e]}
 ·rintro⟨h,e⟩;simpa[Array.getD,h]using e
theorem DA(hr:my xs)(j:Nat):∀(f lo hi:Nat),lo<=hi->hi<=xs.size->hi -lo<=f->(∀i,i<lo->xs.getD i 0<j)->(∀i,hi<=i->i<xs.size->j<=xs.getD i 0)->
  below.go xs j f lo hi<=xs.size/\(∀i,i<below.go xs j f lo hi->xs.getD i 0<j)/\∀i,below.go xs j f lo hi<=i->i<xs.size->j<=xs.getD i 0
 |0,lo,hi,h1,h2,h3,h4,h5=>by show lo<=xs.size/\(∀i,i<lo->xs.getD i 0<j)/\∀i,lo<=i->i<xs.size->j<=xs.getD i 0;exact{by lia,h4,λi a b=>h5 i ∅ b}
 |f+1,lo,hi,h1,h2,h3,h4,h5=>by
  unfold below.go;by_cases c:lo<hi
  ·simp only[aA c];have hm:(lo+hi)/2<xs.size:=by lia
   rw[Tv (b:=0) hm];by_cases d:xs.getD ((lo+hi)/2) 0<j
   ·simp only[aA d];refine DA hr j f _ _ ∅ h2 ∅ (λi hi'=>?_) h5;by_cases e:i=(lo+hi)/2
    ·rw[e];exact d
    ·exact fB (hr i _ ∅ hm) d
   ·simp only[ax d];refine DA hr j f _ _ ∅ ∅ ∅ h4 λi a b=>?_;by_cases e:i=(lo+hi)/2
    ·rw[e];lia
    ·have:=hr ((lo+hi)/2) i ∅ b;lia
  ·simp only[ax c];exact{by lia,h4,λi a b=>h5 i ∅ b}
def ud(hr:my xs)(j:Nat):below xs j<=xs.size/\(∀i,i<below xs j->xs.getD i 0<j)/\∀i,below xs j<=i->i<xs.size->j<=xs.getD i 0:=
 DA hr j xs.size 0 xs.size (aR _) (ao _) ∅ (λi h=>absurd h (hG _)) λi a b=>by lia
def below_at(hr:my xs)(e:xs[i]?=some j):below xs j=i:=by
 obtain⟨h1,h2,h3⟩:=ud hr j;obtain⟨hi,e⟩:=getD_some.mp e;rcases kI (below xs j) i with c|c|c
 ·have:=h3 _ (ao _) ∅;have:=hr _ _ c hi;lia
 ·exact c
 ·have:=h2 i c;lia
def F8{t:SetTable}(hr:my t.place)(e:t.place[i]?=some j):t.slot j=.live i:=by unfold SetTable.slot;rw[below_at hr e];simp[e]
def OQ{t:SetTable}(hd:t.dummies=#[])(e:∀i:Nat,t.place[i]?≠some j):t.slot j=.empty:=by unfold SetTable.slot;rw[ax (λh=>e _ (iq h)),hd];rw[ax (by simp[has])]
def N3{mask:Nat}(hr:my xs)(hs:xs.size<=mask):∃j:Nat,j<=mask/\∀i:Nat,xs[i]?≠some j:=by
 by_cases c:∃j:Nat,j<=mask/\∀i:Nat,xs[i]?≠some j
 ·exact c
 ·exfalso;have all:∀j:Nat,j<=mask->∃i:Nat,xs[i]?=some j:=λj hj=>mT λn=>c {j,hj,λi e=>n ⟨i,e⟩};have key:∀m:Nat,m<=mask->xs[m]?=some m:=by
   intro m
   induction m using Nat.strongRecOn with
   |ind m ih=>
    intro hm;obtain⟨i,e⟩:=all m hm;rcases kI i m with q|q|q
    ·have:=ih i q ∅;rw[this]at e;cases e;lia
    ·rw[<-q];rw[q]at e⊢;exact e
    ·obtain⟨hi,ei⟩:=getD_some.mp e;have h1:=hr m i q hi;have h2:m<=xs.getD m 0:=by
      cases m with
      |zero=>exact aR _
      |succ m=>
       obtain⟨_,e3⟩:=getD_some.mp (ih m ∅ ∅);have:=hr m (m+1) ∅ ∅;lia
     lia
  obtain⟨h,_⟩:=getD_some.mp (key mask (ao _));lia
structure Tab(t:SetTable)(hs:List Int):Prop where
 pow:∃k,t.mask+1=2^k
 big:7<=t.mask
 Q3:t.dummies=#[]
 rise:my t.place
 sz:t.place.size=hs.length
 gj:hs.length<=t.mask
 le:∀i j:Nat,t.place[i]?=some j->j<=t.mask
 reach:∀(i:Nat)(h:Int),hs[i]?=some h->∃d,t.place[i]?=some (ps t.mask h d)/\∀e,e<d->∃i':Nat,t.place[i']?=some (ps t.mask h e)
def Tab.fits(T:Tab t hs):t.fits hs.length=true:=by unfold SetTable.fits SetTable.fill;have h1:=T.sz;have h2:=T.gj;rw[T.Q3,h1];simp[h2]
def Tab.way(T:Tab t hs):t.gaveWay=false:=by
 obtain⟨k,hk⟩:=T.pow;have:=T.big;unfold SetTable.gaveWay;cases k with
 |zero=>rw[Nat.pow_zero]at hk;lia
 |succ k=>rw[iS]at hk;simp;lia
def Tab.fresh(finger moves:Nat)(led:Bool):Tab (.fresh finger moves led) [] where
 pow:={3,rfl}
 big:=ao 7
 Q3:=rfl
 rise:=λi k _ h=>absurd h (hG _)
 sz:=rfl
 gj:=aR _
 le:=λi j e=>by simp[SetTable.fresh]at e
 reach:=λi h e=>by simp at e
structure Ot(t:SetTable)(h:Int)(D:Nat):Prop where
 lt:D<10*turns t.mask
 no:∀i:Nat,t.place[i]?≠some (ps t.mask h D)
 ahead:∀e,e<D->∃i:Nat,t.place[i]?=some (ps t.mask h e)
def Tab.free(T:Tab t hs)(h:Int):∃D,Ot t h D:=by obtain⟨k,hk⟩:=T.pow;obtain⟨j,hj,hn⟩:=N3 T.rise (show t.place.size<=t.mask by rw[T.sz];exact T.gj);obtain⟨n,hn1,_,e⟩:=hits hk h hj;obtain⟨D,h1,h2,h3⟩:=least (p:=λd=>∀i:Nat,t.place[i]?≠some (ps t.mask h d)) (n:=Tn t.mask h n) (by rw[e];exact hn);have:=VH t.mask h n;refine{D,by unfold turns;lia,h2,λe he=>mT λq=>h3 e he λi z=>q ⟨i,z⟩}
theorem Iw(mask:Nat)(h:Int):∀d,(pr mask h d).dummy=none
 |0=>rfl
 |d+1=>by show(CF mask (pr mask h d)).dummy=none;unfold CF;split<;>exact Iw mask h d
def Tab.live(T:Tab t hs){i j:Nat}(e:t.place[i]?=some j):∃h,hs[i]?=some h:=by obtain⟨hi,_⟩:=getD_some.mp e;rw[T.sz]at hi;exact{_,aq hi}
theorem Iu(T:Tab t hs)(fr:Ot t h D)(ha:∀(i:Nat)(g:Int),hs[i]?=some g->hashAt i=g):∀(f d:Nat),d<=D->D -d<f->
  (probe.go t hashAt h f (pr t.mask h d)=some (.empty (ps t.mask h D) none)/\∀e,d<=e->e<D->∀i:Nat,t.place[i]?=some (ps t.mask h e)->hs[i]?≠some h)\/
  ∃e i,d<=e/\e<D/\t.place[i]?=some (ps t.mask h e)/\hs[i]?=some h/\probe.go t hashAt h f (pr t.mask h d)=some (.candidate (ps t.mask h e) i (pr t.mask h (e+1)))/\∀e',d<=e'->e'<e->∀i':Nat,t.place[i']?=some (ps t.mask h e')->hs[i']?≠some h
 |0,d,_,hf=>absurd hf (hG _)
 |f+1,d,hd,hf=>by
  unfold probe.go;by_cases c:d=D
  ·subst c;have e:t.slot (pr t.mask h d).j=.empty:=OQ T.Q3 fr.no;rw[e];refine .inl {?_,λe a b=>by lia};show some (Met.empty (ps t.mask h d) (pr t.mask h d).dummy)=_;rw[Iw]
  ·obtain⟨i,hi⟩:=fr.ahead d ∅;have e:t.slot (pr t.mask h d).j=.live i:=F8 T.rise hi;rw[e];obtain⟨g,hg⟩:=T.live hi;have hu:∀i':Nat,t.place[i']?=some (ps t.mask h d)->i'=i:=λi' q=>by rw[<-below_at T.rise q,<-below_at T.rise hi]
   by_cases c2:hashAt i=h
   ·refine .inr {d,i,ao _,by lia,hi,?_,?_,λe' a b=>by lia}
    ·rw[ha i g hg]at c2;rw[hg,c2]
    ·show(if(hashAt i==h)=true then some (Met.candidate (ps t.mask h d) i (t.advance (pr t.mask h d)))else probe.go t hashAt h f (t.advance (pr t.mask h d)))=_;rw[aA (c2▸BEq.rfl)];rfl
   ·have no:∀i':Nat,t.place[i']?=some (ps t.mask h d)->hs[i']?≠some h:=λi' q z=>by rw[hu i' q]at z;exact c2 (ha i h z)
    have eq:(if(hashAt i==h)=true then some (Met.candidate (ps t.mask h d) i (t.advance (pr t.mask h d)))else probe.go t hashAt h f (t.advance (pr t.mask h d)))=probe.go t hashAt h f (pr t.mask h (d+1)):=by rw[ax (by simpa using c2)];rfl
    rcases(Iu T fr ha f (d+1) ∅ ∅)with⟨h1,h2⟩|⟨e,i2,h1,h2,h3,h4,h5,h6⟩
    ·refine .inl {eq.trans h1,λe a b i' q=>?_};by_cases z:e=d
     ·rw[z]at q;exact no i' q
     ·exact h2 e ∅ b i' q
    ·refine .inr {e,i2,by lia,h2,h3,h4,eq.trans h5,λe' a b i' q=>?_};by_cases z:e'=d
     ·rw[z]at q;exact no i' q
     ·exact h6 e' ∅ b i' q
def iP(l:List α)(p:Nat)(x:α):List α:=l.take p++x::l.drop p
def Jq(l:List α)(x:α)(hp:p<=l.length)(i:Nat):(iP l p x)[i]?=if i<p then l[i]? else if i=p then some x else l[i -1]?:=by
 unfold iP;by_cases c:i<p
 ·rw[aA c,gP (by rw[aU];lia),vy c]
 ·rw[ax c,fC (by rw[aU];lia),aU,mO hp];by_cases c2:i=p
  ·rw[aA c2,c2,Bk];rfl
  ·rw[ax c2,show i -p=(i -p -1)+1 by lia,List.getElem?_cons_succ,List.getElem?_drop];congr 1;lia
def wH(l:List α)(x:α)(hp:p<=l.length):(iP l p x).length=l.length+1:=by unfold iP;rw[aM,bu,aU,jT];lia
def Qa(l:List α)(p:Nat)(x:α):(iP l p x).Perm (x::l):=by refine List.perm_middle.trans ?_;rw[pO]
def Jp(f:α->β)(l:List α)(p:Nat)(x:α):(iP l p x).map f=iP (l.map f) p (f x):=by unfold iP;simp
def qg(xs:Array α)(p:Nat)(x:α):(insertAt xs p x).toList=iP xs.toList p x:=by unfold insertAt iP;simp[eI]
def my.of_get(h:∀i k a b:Nat,i<k->xs[i]?=some a->xs[k]?=some b->a<b):my xs:=λi k JK hk=>
 h i k _ _ JK (getD_some.mpr {by lia,rfl}) (getD_some.mpr ⟨hk,rfl⟩)
def my.get(h:my xs){i k a b:Nat}(JK:i<k)(ha:xs[i]?=some a)(hb:xs[k]?=some b):a<b:=by obtain⟨h1,e1⟩:=getD_some.mp ha;obtain⟨h2,e2⟩:=getD_some.mp hb;have:=h i k JK h2;lia
def Ag{t:SetTable}(hr:my t.place)(j i:Nat):(t.put j).1.place[i]?=if i<below t.place j then t.place[i]? else if i=below t.place j then some j else t.place[i -1]?:=by show(insertAt t.place (below t.place j) j)[i]?=_;rw[<-bK,qg,Jq _ _ (by rw[aZ];exact(ud hr j).1)];simp only[bK]
def Fm{t:SetTable}(hr:my t.place){i v:Nat}(e:t.place[i]?=some v):∃i':Nat,(t.put j).1.place[i']?=some v:=by
 by_cases c:i<below t.place j
 ·exact{i,by rw[Ag hr,aA c,e]}
 ·exact{i+1,by rw[Ag hr,ax ∅,ax ∅,Nat.add_sub_cancel,e]}
def Tab.put(T:Tab t hs)(fr:Ot t h D)(room:hs.length+1<=t.mask):Tab (t.put (ps t.mask h D)).1 (iP hs (t.put (ps t.mask h D)).2 h):=by
 have hb:=ud T.rise (ps t.mask h D);have hp:(t.put (ps t.mask h D)).2=below t.place (ps t.mask h D):=rfl;have vZ:below t.place (ps t.mask h D)<=hs.length:=by rw[<-T.sz];exact hb.1
 rw[hp];have pl:=λi=>Ag T.rise (ps t.mask h D) i;have hl:=Jq hs h vZ;have at_:(t.put (ps t.mask h D)).1.place[below t.place (ps t.mask h D)]?=some (ps t.mask h D):=by rw[pl,ax (dy _),aA rfl]
 have lo:∀i a:Nat,i<below t.place (ps t.mask h D)->t.place[i]?=some a->a<ps t.mask h D:=λi a c e=>by obtain⟨_,e⟩:=getD_some.mp e;have:=hb.2.1 i c;lia
 have hi:∀i a:Nat,below t.place (ps t.mask h D)<=i->t.place[i]?=some a->ps t.mask h D<a:=λi a c e=>by obtain⟨l,e'⟩:=getD_some.mp e;have:=hb.2.2 i c l;have ne:a≠ps t.mask h D:=λz=>fr.no i (by rw[e,z]);lia
 refine{T.pow,T.big,?_,?_,?_,?_,λi j e=>?_,λi g e=>?_}
 ·show(if has t.dummies (ps t.mask h D)=true then _ else t.dummies)=_;rw[T.Q3];simp[has]
 ·refine my.of_get λi k a b JK ha gJ=>?_;rw[pl]at ha gJ;by_cases c1:i<below t.place (ps t.mask h D)
  ·rw[aA c1]at ha;by_cases c2:k<below t.place (ps t.mask h D)
   ·rw[aA c2]at gJ;exact T.rise.get JK ha gJ
   ·rw[ax c2]at gJ;by_cases c3:k=below t.place (ps t.mask h D)
    ·rw[aA c3]at gJ;cases gJ;exact lo i a c1 ha
    ·rw[ax c3]at gJ;exact fB (lo i a c1 ha) (hi _ b ∅ gJ)
  ·rw[ax c1]at ha;rw[ax ∅,ax ∅]at gJ;by_cases c3:i=below t.place (ps t.mask h D)
   ·rw[aA c3]at ha;cases ha;exact hi _ b ∅ gJ
   ·rw[ax c3]at ha;exact T.rise.get ∅ ha gJ
 ·rw[wH _ _ vZ,<-T.sz,<-aZ];show(insertAt t.place (below t.place (ps t.mask h D)) (ps t.mask h D)).toList.length=_;rw[qg,wH _ _ (by rw[aZ];exact hb.1),aZ]
 ·rw[wH _ _ vZ];exact room
 ·rw[pl]at e;by_cases c1:i<below t.place (ps t.mask h D)
  ·rw[aA c1]at e;exact T.le i j e
  ·rw[ax c1]at e;by_cases c3:i=below t.place (ps t.mask h D)
   ·rw[aA c3]at e;cases e;exact M7
   ·rw[ax c3]at e;exact T.le _ j e
 ·have mk:(t.put (ps t.mask h D)).1.mask=t.mask:=rfl;rw[mk];rw[hl]at e;by_cases c1:i<below t.place (ps t.mask h D)
  ·rw[aA c1]at e;obtain⟨d,h1,h2⟩:=T.reach i g e;exact{d,by rw[pl,aA c1];exact h1,λx hx=>let⟨_,q⟩:=h2 x hx;Fm T.rise q}
  ·rw[ax c1]at e;by_cases c3:i=below t.place (ps t.mask h D)
   ·rw[aA c3]at e;cases e;exact{D,by rw[c3];exact at_,λx hx=>let⟨_,q⟩:=fr.ahead x hx;Fm T.rise q}
   ·rw[ax c3]at e;obtain⟨d,h1,h2⟩:=T.reach _ g e;exact{d,by rw[pl,ax c1,ax c3];exact h1,λx hx=>let⟨_,q⟩:=h2 x hx;Fm T.rise q}
def Tab.of_eq(T:Tab t hs)(h1:t'.mask=t.mask)(h2:t'.place=t.place)(h3:t'.dummies=t.dummies):Tab t' hs:=by obtain⟨a1,a2,a3,a4,a5,a6,a7,a8⟩:=T;rw[<-h1]at a1 a2 a6 a7 a8;rw[<-h2]at a4 a5 a7 a8;rw[<-h3]at a3;exact⟨a1,a2,a3,a4,a5,a6,a7,a8⟩
structure Own(mask:Nat)(ow:Array (Option Nat))(hs:List Int):Prop where
 sz:ow.size=mask+1
 lt:∀j i:Nat,ow[j]?=some (some i)->i<hs.length
 inj:∀j j' i:Nat,ow[j]?=some (some i)->ow[j']?=some (some i)->j=j'
 at_:∀(i:Nat)(h:Int),hs[i]?=some h->∃d,ow[ps mask h d]?=some (some i)/\∀e,e<d->∃i':Nat,ow[ps mask h e]?=some (some i')
def Own.empty{mask:Nat}(O:Own mask ow hs)(gj:hs.length<=mask):∃j:Nat,j<=mask/\ow[j]?=some none:=by
 by_cases c:∃j:Nat,j<=mask/\ow[j]?=some none
 ·exact c
 ·exfalso;have all:∀j:Nat,j<=mask->ow[j]?=some (some ((ow.getD j none).getD 0)):=λj hj=>by
   have hl:j<ow.size:=by rw[O.sz];lia
   have e:ow[j]?=some (ow.getD j none):=by rw[bq hl];simp[Array.getD,hl]
   cases q:ow.getD j none with
   |none=>exact(c {j,hj,by rw[e,q]}).elim
   |some i=>rw[e,q];rfl
  have nd:((List.range (mask+1)).map λj=>(ow.getD j none).getD 0).Nodup:=by
   refine gc.mpr (List.Pairwise.imp_of_mem (λ{a b} ha hb ne e=>ne (O.inj a b _ (all a ?_) (e▸all b ?_))) List.nodup_range)
   ·have:=dm.mp ha;lia
   ·have:=dm.mp hb;lia
  have sub:((List.range (mask+1)).map λj=>(ow.getD j none).getD 0)⊆List.range hs.length:=λx hx=>by obtain⟨j,hj,rfl⟩:=aJ.mp hx;have:=dm.mp hj;exact dm.mpr (O.lt j _ (all j ∅))
  have:=List.Nodup.length_le_of_subset nd sub;rw[ak,gf,gf]at this;lia
def XA(mask:Nat)(h:Int)(hmn:m<=n):Tn mask h m<=Tn mask h n:=by
 induction n with
 |zero=>rw[Nat.le_zero.mp hmn];exact ao _
 |succ n ih=>
  by_cases c:m=n+1
  ·rw[c];exact ao _
  ·have:=ih ∅;show _<=Tn mask h n+run mask (lp mask h n).1+1;lia
def Wm(mask i:Nat):runEnd mask i+1 -i=run mask i+1:=by unfold run runEnd;split<;>lia
theorem Mr{mask:Nat}(hD:ow[ps mask h D]?=some none)(hb:∀e,e<D->∃i':Nat,ow[ps mask h e]?=some (some i'))(hn0:D<=Tn mask h n0):∀(f n:Nat),Tn mask h n<=D->n0 -n<f->layClean.free mask ow f (lp mask h n).1 (lp mask h n).2=some (ps mask h D)
 |0,n,_,hf=>absurd hf (hG _)
 |f+1,n,hn,hf=>by
  have own:∀e,e<=run mask (lp mask h n).1->Tn mask h n+e<D->(ow.getD ((lp mask h n).1+e) (some 0)).isNone=false:=λe he cw=>by obtain⟨i',q⟩:=hb _ cw;rw[Eb he]at q;obtain⟨l,q⟩:=gB.mp q;simp[Array.getD,l,q]
  unfold layClean.free;rw[Wm];by_cases c:D<=Tn mask h n+run mask (lp mask h n).1
  ·have e1:(List.range (run mask (lp mask h n).1+1)).find? (λk=>(ow.getD ((lp mask h n).1+k) (some 0)).isNone)=some (D -Tn mask h n):=by
    refine List.find?_range_eq_some.mpr {?_,dm.mpr ∅,λj hj=>?_}
    ·have q:=hD;rw[show D=Tn mask h n+(D -Tn mask h n) by lia,Eb ∅]at q;obtain⟨l,q⟩:=gB.mp q;simp[Array.getD,l,q]
    ·rw[own j ∅ ∅];rfl
   simp only[e1];rw[<-Eb ∅,show Tn mask h n+(D -Tn mask h n)=D by lia]
  ·have e1:(List.range (run mask (lp mask h n).1+1)).find? (λk=>(ow.getD ((lp mask h n).1+k) (some 0)).isNone)=none:=by refine List.find?_range_eq_none.mpr λj hj=>?_;rw[own j ∅ ∅];rfl
   simp only[e1];have lt:n<n0:=by
    rcases Nat.lt_or_ge n n0 with q|q
    ·exact q
    ·have:=XA mask h q;lia
   exact Mr hD hb hn0 f (n+1) (by show Tn mask h n+run mask (lp mask h n).1+1<=D;lia) ∅
abbrev xt(mask:Nat)(acc:Option (Array (Option Nat)×Nat))(h:Int):Option (Array (Option Nat)×Nat):=do
  let(owner,k)<-acc
  let j<-layClean.free mask owner (turns mask) (bits h %(mask+1)) (bits h)
  pure (owner.setIfInBounds j (some k),k+1)
def KQ(mask:Nat)(hashes:Array Int):layClean mask hashes=(hashes.toList.foldl (xt mask) (some (Array.replicate (mask+1) none,0))).map (·.1):=by rw[Array.foldl_toList];rfl
def Own.step{mask k:Nat}(hk:mask+1=2^k)(O:Own mask ow hs)(gj:hs.length<mask)(h:Int):∃Pc,xt mask (some (ow,hs.length)) h=some (Pc,hs.length+1)/\Own mask Pc (hs++[h]):=by
 obtain⟨j,hj,ej⟩:=O.empty (bI gj);obtain⟨n0,hn0,_,e0⟩:=hits hk h hj;obtain⟨D,h1,h2,h3⟩:=least (p:=λd=>ow[ps mask h d]?=some none) (e0▸ej);have hb:∀e,e<D->∃i':Nat,ow[ps mask h e]?=some (some i'):=λe he=>by
  have l:ps mask h e<ow.size:=by rw[O.sz];have:=M7 (mask:=mask) (h:=h) (d:=e);lia
  cases q:ow[ps mask h e]with
  |none=>exact(h3 e he (by rw[bq l,q])).elim
  |some i=>exact{i,by rw[bq l,q]}
 have ef':layClean.free mask ow (turns mask) (bits h %(mask+1)) (bits h)=some (ps mask h D):=(Mr h2 hb h1 (turns mask) 0 (aR _) (by unfold turns;lia));refine{ow.setIfInBounds (ps mask h D) (some hs.length),by simp[xt,ef'],?_};have get:∀x:Nat,(ow.setIfInBounds (ps mask h D) (some hs.length))[x]?=if x=ps mask h D then some (some hs.length)else ow[x]?:=λx=>by
  rw[Array.getElem?_setIfInBounds];by_cases c:x=ps mask h D
  ·rw[aA c,aA c.symm,aA (by rw[O.sz];have:=M7 (mask:=mask) (h:=h) (d:=D);lia)]
  ·rw[ax c,ax (bY c)]
 have keep:∀x i:Nat,ow[x]?=some (some i)->(ow.setIfInBounds (ps mask h D) (some hs.length))[x]?=some (some i):=λx i e=>by rw[get,ax λz=>by rw[z,h2]at e;cases e];exact e
 refine{by simp[O.sz],λx i e=>?_,λx y i ex ey=>?_,λi g e=>?_}
 ·rw[get]at e;rw[aM,cV];by_cases c:x=ps mask h D
  ·rw[aA c]at e;cases e;lia
  ·rw[ax c]at e;have:=O.lt x i e;lia
 ·rw[get]at ex ey;by_cases c:x=ps mask h D
  ·rw[aA c]at ex;cases ex;by_cases c2:y=ps mask h D
   ·rw[c,c2]
   ·rw[ax c2]at ey;exact absurd (O.lt y _ ey) (dy _)
  ·rw[ax c]at ex;by_cases c2:y=ps mask h D
   ·rw[aA c2]at ey;cases ey;exact absurd (O.lt x _ ex) (dy _)
   ·rw[ax c2]at ey;exact O.inj x y i ex ey
 ·by_cases c:i<hs.length
  ·rw[gP c]at e;obtain⟨d,q1,q2⟩:=O.at_ i g e;exact{d,keep _ _ q1,λx hx=>let⟨i',q⟩:=q2 x hx;{i',keep _ _ q}}
  ·rw[fC ∅]at e;have ei:i=hs.length:=by
    rcases kI i hs.length with q|q|q
    ·lia
    ·exact q
    ·rw[fM (by rw[cV];lia)]at e;cases e
   subst ei;rw[Bk]at e;cases e;exact{D,by rw[get,aA rfl],λx hx=>let⟨i',q⟩:=hb x hx;{i',keep _ _ q}}
theorem II{mask k:Nat}(hk:mask+1=2^k):∀(rest:List Int)(ow:Array (Option Nat))(hs:List Int),Own mask ow hs->(hs++rest).length<=mask->∃Pc,rest.foldl (xt mask) (some (ow,hs.length))=some (Pc,(hs++rest).length)/\Own mask Pc (hs++rest)
 |[],ow,hs,O,_=>{ow,by simp,by simpa using O}
 |h::rest,ow,hs,O,gj=>by rw[aM,bu]at gj;obtain⟨ow1,e1,O1⟩:=O.step hk ∅ h;obtain⟨ow2,e2,O2⟩:=II hk rest ow1 (hs++[h]) O1 (by rw[aM,aM,cV];lia);rw[jx]at e2 O2;refine{ow2,?_,O2};rw[mR,e1];rw[aM,cV]at e2;exact e2
def W9{mask k:Nat}(hk:mask+1=2^k)(big:7<=mask)(finger moves:Nat)(led plain:Bool)(hs:List Int)(gj:hs.length<=mask):
  ∃t order,laid mask finger moves led plain hs.toArray=some (t,order)/\t.mask=mask/\t.finger=finger/\t.led=led/\t.moves=moves/\t.plain=plain/\order.toList.Perm (List.range hs.length)/\Tab t (order.toList.map λi=>hs.getD i 0):=by
 have O0:Own mask (Array.replicate (mask+1) none) []:={by simp,λj i e=>by simp[vA]at e,λj j' i e=>by simp[vA]at e,λi h e=>by simp at e};obtain⟨ow,e,O⟩:=II hk hs _ _ O0 (by simpa using gj);rw[mQ]at e O;have el:layClean mask hs.toArray=some ow:=by rw[KQ];have e':(hs.toArray.toList.foldl (xt mask) (some (Array.replicate (mask+1) none,0)))=some (ow,hs.length):=e;rw[e'];rfl
 obtain⟨live,Vf⟩:∃live,live=(List.range (mask+1)).filterMap λj=>(ow.getD j none).map (j,·):=⟨_,rfl⟩;have mem:∀p:Nat×Nat,p∈live↔ow[p.1]?=some (some p.2):=λp=>by
  rw[Vf,sG];constructor
  ·rintro⟨j,hj,q⟩;have lj:j<ow.size:=O.sz▸dm.mp hj;obtain⟨i,q1,q2⟩:=bb.mp q;subst q2;rw[bq lj];have q3:ow[j]=some i:=by simpa[Array.getD,lj]using q1
   rw[q3]
  ·intro q;obtain⟨l,q'⟩:=gB.mp q;refine{p.1,dm.mpr (O.sz▸l),?_};have q3:ow.getD p.1 none=some p.2:=by simp[Array.getD,l,q']
   rw[q3];rfl
 have sub:∀(j:Nat)(b:Nat×Nat),(ow.getD j none).map (j,·)=some b->b.1=j/\ow[j]?=some (some b.2):=λj b q=>by
  obtain⟨i,q1,q2⟩:=bb.mp q;subst q2;refine{rfl,?_};by_cases l:j<ow.size
  ·rw[bq l];have q3:ow[j]=some i:=by simpa[Array.getD,l]using q1
   rw[q3]
  ·simp[Array.getD,l]at q1
 have p1:live.Pairwise (λa b=>a.1<b.1):=by rw[Vf];refine vI _ (λa a' cw b hb b' gJ=>?_) wY;rw[(sub a b hb).1,(sub a' b' gJ).1];exact cw
 have p2:live.Pairwise (λa b=>a.2≠b.2):=by rw[Vf];refine vI _ (λa a' cw b hb b' gJ ne=>?_) wY;have q2:=(sub a' b' gJ).2;rw[<-ne]at q2;have:=O.inj a a' _ ((sub a b hb).2) q2;lia
 have perm:(live.map (·.2)).Perm (List.range hs.length):=by
  refine(lY (gc.mpr p2) List.nodup_range).mpr λi=>?_;rw[dm,aJ];constructor
  ·rintro⟨p,hp,rfl⟩;exact O.lt _ _ ((mem p).mp hp)
  ·intro hi;obtain⟨d,q,_⟩:=O.at_ i _ (aq hi);exact{(_,i),(mem (_,i)).mpr q,rfl}
 have ll:live.length=hs.length:=by have:=perm.length_eq;rwa [ak,gf]at this
 have pl:∀m:Nat,((live.map (·.1)).toArray)[m]?=live[m]?.map (·.1):=λm=>by simp
 refine⟨{mask,place:=(live.map (·.1)).toArray,dummies:=#[],finger,led,moves,plain},(live.map (·.2)).toArray,?_,rfl,rfl,rfl,rfl,rfl,by simpa using perm,?_⟩
 ·unfold laid;rw[el,Vf];rfl
 ·refine{⟨k,hk⟩,big,rfl,?_,?_,?_,λi j q=>?_,λm h q=>?_}
  ·refine my.of_get λi k a b JK ha hb=>?_;rw[pl]at ha hb;obtain⟨x,hx,rfl⟩:=bb.mp ha;obtain⟨y,hy,rfl⟩:=bb.mp hb;obtain⟨lx,ex⟩:=aw.mp hx;obtain⟨ly,ey⟩:=aw.mp hy;subst ex ey;exact mP.mp p1 i k lx ly JK
  ·simp
  ·simp[ll,gj]
  ·rw[pl]at q;obtain⟨x,hx,rfl⟩:=bb.mp q;have:=(mem x).mp (aE hx);obtain⟨l,_⟩:=gB.mp this;rw[O.sz]at l;show x.1<=mask;lia
  ·have q':(live.map λp=>hs.getD p.2 0)[m]?=some h:=by
    have e3:(live.map (·.2)).toArray.toList.map (λi=>hs.getD i 0)=live.map λp=>hs.getD p.2 0:=by simp
    rw[<-e3];exact q
   rw[aI]at q';obtain⟨x,hx,rfl⟩:=bb.mp q';have hw:=(mem x).mp (aE hx);have hl:=O.lt _ _ hw;have eh:hs[x.2]?=some (hs.getD x.2 0):=by rw[aq hl];simp[hl]
   obtain⟨d,d1,d2⟩:=O.at_ x.2 _ eh;refine{d,?_,λe he=>?_}
   ·show((live.map (·.1)).toArray)[m]?=some (ps mask (hs.getD x.2 0) d);rw[pl,hx,(O.inj _ _ _ d1 hw)];rfl
   ·obtain⟨i',q3⟩:=d2 e he;obtain⟨m',hm'⟩:=dQ.mp ((mem (_,i')).mpr q3);refine{m',?_};rw[pl,hm'];rfl
theorem zS(n:Nat):∀(f j:Nat),n<2^(j+f)->∃k,j<=k/\sizeAbove.go n f (2^j)=2^k/\n<2^k/\(k=j\/2^k<=2*n)
 |0,j,h=>{j,ao _,rfl,h,.inl rfl}
 |f+1,j,h=>by
  unfold sizeAbove.go;by_cases c:2^j<=n
  ·rw[aA c,<-iS];obtain⟨k,h1,h2,h3,h4⟩:=zS n f (j+1) (by rw[show j+1+f=j+(f+1) by lia];exact h);refine{k,by lia,h2,h3,.inr ?_};rcases h4 with h4|h4
   ·rw[h4,iS];lia
   ·exact h4
  ·rw[ax c];exact{j,ao _,rfl,by lia,.inl rfl}
def zR(h:n<2^64):∃k,sizeAbove n=2^k/\8<=2^k/\n<2^k/\2^k<=2*n+8:=by
 obtain⟨k,h1,h2,h3,h4⟩:=zS n 64 3 (aV h (by decide));have:2^3<=2^k:=fZ (by decide) h1;refine{k,h2,this,h3,?_};rcases h4 with h4|h4
 ·rw[h4];lia
 ·lia
def O4(t:SetTable)(hs:List Int)(h:n<2^64)(gj:hs.length<n):∃t' order,t.relaid hs.toArray n=some (t',order)/\n<=t'.mask/\t'.mask<=2*n+7/\t'.finger=t.finger/\t'.led=t.led/\t'.plain=t.plain/\order.toList.Perm (List.range hs.length)/\Tab t' (order.toList.map λi=>hs.getD i 0):=by obtain⟨k,e,h1,h2,h3⟩:=zR h;obtain⟨t',order,q1,q2,q3,q4,_,q5,q6,q7⟩:=W9 (mask:=sizeAbove n -1) (k:=k) (by rw[e];lia) (by rw[e];lia) t.finger (t.movedTo (sizeAbove n -1)) t.led t.plain hs (by rw[e];lia);exact{t',order,q1,by rw[q2,e];lia,by rw[q2,e];lia,q3,q4,q5,q6,q7}
theorem Af{α:Type}:∀l:List α,(List.range l.length).filterMap (λi=>l[i]?)=l
 |[]=>rfl
 |x::l=>by rw[bu,wX,gn];show x::_=_;rw[sH];congr 1;exact Af l
def Nh{α:Type}{es:Array α}{order:Array Nat}(hp:order.toList.Perm (List.range es.size)):(order.filterMap (es[·]?)).toList.Perm es.toList/\∀(g:α->Int),(order.filterMap (es[·]?)).toList.map g=order.toList.map λi=>(es.toList.map g).getD i 0:=by
 have e1:(order.filterMap (es[·]?)).toList=order.toList.filterMap (es.toList[·]?):=by simp
 rw[e1];constructor
 ·have:=hp.filterMap (es.toList[·]?);rw[<-aZ]at this;rwa [Af]at this
 ·intro g;have lt:∀i∈order.toList,i<es.toList.length:=λi hi=>by rw[aZ];exact dm.mp (hp.mem_iff.mp hi)
  generalize order.toList=l at lt
  induction l with
  |nil=>rfl
  |cons i l ih=>
   have li:=lt i (ay ..);rw[gn,aq li];show g _::_=_;rw[bo,ih λj hj=>lt j (az _ hj)];congr 1;rw[cS,aI,aq li];rfl
structure SK(prog:Program)(w:World)(κ:Type)[DecidableEq κ] where
 hash:κ->Int
 draws:κ->Nat
 room:Around->Prop
 is:Heap->κ->Addr->Prop
 keep:∀{h h':Heap}{k:κ}{b:Addr},is h k b->(∀c o,(∃aP n,o.data=.seq aP n)->h.get? c=some o->h'.get? c=some o)->is h' k b
 cls:∀{A:Around}{E:Aac}{s:Shared}{k:κ}{b:Addr}{Q:Bool->Shared->Prop},is s.heap k b->Q false s->wpAny (model prog w) A (ofAClassStatement 8 (.ref b)) Q E s
 quiet:∀{A:Around}{E:Aac}{s:Shared}{k:κ}{b:Addr}{Q:Bool->Shared->Prop},is s.heap k b->Q true s->wpAny (model prog w) A (eqIsQuiet 8 (.ref b)) Q E s
 eq:∀{A:Around}{E:Aac}{s:Shared}{x y:κ}{a b:Addr}{Q:Bool->Shared->Prop},room A->is s.heap x a->is s.heap y b->Q (decide (x=y)) s->wpAny (model prog w) A (eqBool (.ref a) (.ref b)) Q E s
 hashes:∀{A:Around}{E:Aac}{s:Shared}{k:κ}{b:Addr}{Q:Int->Shared->Prop},room A->is s.heap k b->Q (hash k) {s with toks:=s.toks+draws k}->wpAny (model prog w) A (pyHash (.ref b)) Q E s
 QG:∀{A:Around}{E:Aac}{s:Shared}{k:κ}{b:Addr}{Q:Bool->Shared->Prop},is s.heap k b->(∀c,Q c s)->wpAny (model prog w) A (hashByValue 8 (.ref b)) Q E s
section
variable{prog:Program}{w:World}{κ:Type}[DecidableEq κ]{knd:SK prog w κ}{A:Around}{E:Aac}{s:Shared}
abbrev ent(knd:SK prog w κ)(x:κ×Addr):Int×Value:=(knd.hash x.1,Value.ref x.2)
structure va(knd:SK prog w κ)(h:Heap)(a:Addr)(o:Obj)(ep:Nat)(t:SetTable)(xs:List (κ×Addr)):Prop where
 ob:h.get? a=some o
 ex:o.ExactSet
 data:o.data=.set (xs.map (ent knd)).toArray ep t
 tab:Tab t (xs.map λx=>knd.hash x.1)
 gj:xs.length*5<t.mask*3
 cap:t.mask<=8*xs.length+15
 nd:(xs.map (·.1)).Nodup
 is:∀x∈xs,knd.is h x.1 x.2
def va.fits{h:Heap}{a:Addr}{o:Obj}{ep:Nat}{t:SetTable}{xs:List (κ×Addr)}(S:va knd h a o ep t xs):t.fits ((xs.map (ent knd)).toArray).size=true:=by have:=S.tab.fits;rw[ak]at this;simpa using this
def va.state{a:Addr}{o:Obj}{ep:Nat}{t:SetTable}{xs:List (κ×Addr)}{Q:(Array (Int×Value)×Nat×SetTable)->Shared->Prop}(S:va knd s.heap a o ep t xs)(h:Q ((xs.map (ent knd)).toArray,ep,t) s):wpAny (model prog w) A (setState a) Q E s:=
 sX S.ob S.data S.fits h
def L1{h h':Heap}{a:Addr}{o:Obj}{es:Array (Int×Value)}{ep:Nat}{t:SetTable}{x:κ}{b:Addr}(ob:h.get? a=some o)(hd:o.data=.set es ep t)(sb:Heap.SameBut a h h')(h1:knd.is h x b):knd.is h' x b:=
 knd.keep h1 λc p ⟨aP,n,e⟩ q=>(sb.2 c λz=>by rw[z,ob]at q;cases q;rw[hd]at e;cases e).trans q
def V0{x:κ}{b:Addr}{Q:Bool->Shared->Prop}(hx:knd.is s.heap x b)(l:Aae)(hl:∀v∈l,∃ks c,v=Value.ref c/\knd.is s.heap ks c)(h:Q false s):wpAny (model prog w) A (searchCouldBeSeen (.ref b) l) Q E s:=by
 unfold searchCouldBeSeen;refine ae ?_;refine fP _ (λrest r s'=>r.1=none/\s'=s/\∀v∈rest,∃ks c,v=Value.ref c/\knd.is s.heap ks c) _ ?_ ?_ _ _ ⟨rfl,rfl,hl⟩
 ·rintro v rest r s' ⟨hr,rfl,mw⟩;obtain⟨ks,c,rfl,hk⟩:=mw v ay;have UB:∀v∈rest,∃ks c,v=Value.ref c/\knd.is s'.heap ks c:=λu sg=>mw u (az _ sg);dsimp only;by_cases e:(b==c||(carriedByValue (.ref b)&&carriedByValue (.ref c)))=true
  ·rw[aA e];exact af ⟨rfl,rfl,UB⟩
  ·rw[ax e];refine ae (knd.quiet hx ?_);simp only[kj,bE,cN];refine ae (knd.quiet hk ?_);simp only[kj,bE,cN];refine ae (knd.cls hx ?_);simp only[bE,cN];refine ae (knd.cls hk ?_);simp only[bE,cN];exact af ⟨rfl,rfl,UB⟩
 ·rintro⟨r1,r2⟩ s' ⟨hr,rfl,_⟩;simp only at hr;subst hr;exact af h
def Ow{a b:Addr}{o:Obj}{ep:Nat}{t:SetTable}{xs:List (κ×Addr)}{k:κ}{Q:SetFound->Shared->Prop}(hu:knd.room A)(S:va knd s.heap a o ep t xs)(hk:knd.is s.heap k b){D:Nat}(fr:Ot t (knd.hash k) D)
  (h1:(∃x∈xs,x.1=k)->Q (.there none) s) (h2:(∀x∈xs,x.1≠k)->Q (.free (ps t.mask (knd.hash k) D) false) s):
  ∀(m fuel d:Nat)(st:Option Probe),D -d=m->d<=D->m<fuel->st.getD (t.probeStart (knd.hash k))=pr t.mask (knd.hash k) d->(∀e,e<d->∀(i:Nat)(x:κ×Addr),t.place[i]?=some (ps t.mask (knd.hash k) e)->xs[i]?=some x->x.1≠k)->
   wpAny (model prog w) A (setSearchFrom a (.ref b) (knd.hash k) true fuel st) Q E s:=by
 intro m
 induction m using Nat.strongRecOn with
 |ind m ih=>
  intro fuel d st hm hd hf g7 Ey;cases fuel with
  |zero=>exact absurd hf (hG _)
  |succ fuel=>
   unfold setSearchFrom;refine ae (S.state ?_);dsimp only;rw[S.tab.way];simp only[bE,cN];rw[g7];have hsL:∀(i:Nat)(x:κ×Addr),xs[i]?=some x->(xs.map λx=>knd.hash x.1)[i]?=some (knd.hash x.1):=λi x e=>by rw[aI,e];rfl
   have hsR:∀(i:Nat)(g:Int),(xs.map λx=>knd.hash x.1)[i]?=some g->∃x,xs[i]?=some x/\knd.hash x.1=g:=λi g e=>by rw[aI]at e;exact bb.mp e
   rcases Iu S.tab fr (hashAt:=λi=>((((xs.map (ent knd)).toArray)[i]?).map (·.1)).getD 0) (λi g e=>by obtain⟨x,hx,rfl⟩:=hsR i g e;simp[hx]) (10*turns t.mask) d hd (by have:=fr.lt;lia)with⟨e1,e2⟩|⟨e,i,a1,a2,a3,a4,a5,a6⟩
   ·have e1':t.probe (λi=>((((xs.map (ent knd)).toArray)[i]?).map (·.1)).getD 0) (knd.hash k) (pr t.mask (knd.hash k) d)=some (.empty (ps t.mask (knd.hash k) D) none):=e1;show wpAny (model prog w) A (match t.probe (λi=>((((xs.map (ent knd)).toArray)[i]?).map (·.1)).getD 0) (knd.hash k) (pr t.mask (knd.hash k) d)with|some met=>_|_=>_) Q E s;rw[e1'];refine af (h2 λx hx ex=>?_);obtain⟨i,hi⟩:=dQ.mp hx;obtain⟨d',q1,q2⟩:=S.tab.reach i _ (hsL i x hi);rw[ex]at q1 q2;have lt:d'<D:=by
     rcases kI d' D with q|q|q
     ·exact q
     ·rw[q]at q1;exact(fr.no i q1).elim
     ·obtain⟨i',z⟩:=q2 D q;exact(fr.no i' z).elim
    by_cases c:d'<d
    ·exact Ey d' c i x q1 hi ex
    ·exact e2 d' ∅ lt i q1 (by rw[hsL i x hi,ex])
   ·obtain⟨y,hy,ey⟩:=hsR i _ a4;have a5':t.probe (λi=>((((xs.map (ent knd)).toArray)[i]?).map (·.1)).getD 0) (knd.hash k) (pr t.mask (knd.hash k) d)=some (.candidate (ps t.mask (knd.hash k) e) i (pr t.mask (knd.hash k) (e+1))):=a5;show wpAny (model prog w) A (match t.probe (λi=>((((xs.map (ent knd)).toArray)[i]?).map (·.1)).getD 0) (knd.hash k) (pr t.mask (knd.hash k) d)with|some met=>_|_=>_) Q E s;rw[a5'];dsimp only;have ym:=aE hy;have yk:=S.is y ym;have eL:((xs.map (ent knd)).toArray)[i]?=some (ent knd y):=by simp[hy]
    have cont:wpAny (model prog w) A (do
      let some (_,y):=((xs.map (ent knd)).toArray)[i]?|unsupported "internal:set-entry"
      let equal<-holding [y] (eqBool y (.ref b))
      let(QY,_,t')<-setState a
      if true&&equal then return .there none
      let some same:=t'.sameMemory t.moves t.mask|unsupported "set.changed-during-lookup:is-the-new-block-at-the-old-address"
      let abr<-match(if same then t'.slot (ps t.mask (knd.hash k) e)else .empty)with
       | .live i'=>match QY[i']? with
        |some (_,y')=>do pure (if<-isSame y' y then some i' else none)
        |none=>pure none
       |_=>pure none
      match abr with
      |none=>rule "set.search.anew";setSearchFrom a (.ref b) (knd.hash k) true fuel none
      |some i'=>if equal then return .there (some i')else setSearchFrom a (.ref b) (knd.hash k) true fuel (some (pr t.mask (knd.hash k) (e+1)))) Q E s:=by
     rw[eL];dsimp only;refine ae (bL (knd.eq hu yk hk ?_));refine ae (S.state ?_);by_cases c:y.1=k
     ·rw[aX c];simp only[Bool.and_self,jJ];exact af (h1 ⟨y,ym,c⟩)
     ·rw[bB c];simp only[rL,bE,cN];have sm:t.sameMemory t.moves t.mask=some true:=by simp[SetTable.sameMemory]
      rw[sm];simp only[jJ];rw[F8 S.tab.rise a3];dsimp only;rw[eL];dsimp only;have iss:isSame (Value.ref y.2) (Value.ref y.2)=pure true:=aA (beq_self_eq_true _);rw[iss];refine ae (af ?_);simp only[jJ];refine ae (af ?_);dsimp only;refine ih (D -(e+1)) ∅ fuel (e+1) _ rfl ∅ ∅ rfl λe' Mm i' x q1 q2 qk=>?_;by_cases c2:e'<d
      ·exact Ey e' c2 i' x q1 q2 qk
      ·by_cases c3:e'=e
       ·rw[c3]at q1;have:i'=i:=by rw[<-below_at S.tab.rise q1,<-below_at S.tab.rise a3]
        rw[this,hy]at q2;cases q2;exact c qk
       ·exact a6 e' ∅ ∅ i' q1 (by rw[hsL i' x q2,qk])
    by_cases led:t.led=true
    ·rw[led];simp only[kj,bE,cN];exact cont
    ·have lf:t.led=false:=by cases q:t.led with|false=>rfl|true=>exact(led q).elim
     rw[lf];simp only[xS,jJ];refine ae (V0 hk _ (λv hv=>?_) ?_)
     ·obtain⟨p,hp,rfl⟩:=aJ.mp hv;have hp':p∈xs.map (ent knd):=by have:=(Array.mem_filter.mp (yZ.mp hp)).1;simpa using this
      obtain⟨x,hx,rfl⟩:=aJ.mp hp';exact{x.1,x.2,rfl,S.is x hx}
     ·simp only[bE,cN];exact cont
end
section
variable{prog:Program}{w:World}{κ:Type}[DecidableEq κ]{knd:SK prog w κ}{A:Around}{E:Aac}{s:Shared}
def RC{a:Addr}{o:Obj}{ep:Nat}{t:SetTable}{xs:List (κ×Addr)}{n:Nat}{Q:Unit->Shared->Prop}(ob:s.heap.get? a=some o)(ex:o.ExactSet)(hd:o.data=.set (xs.map (ent knd)).toArray ep t)(tab:Tab t (xs.map λx=>knd.hash x.1))(nd:(xs.map (·.1)).Nodup)(is:∀x∈xs,knd.is s.heap x.1 x.2)
  (hn:xs.length*2<=n) (hn4:n<=xs.length*4) (h0:0<n) (hx:xs.length<=100000) (GG:n<=100000) (h:∀h' ys o' AW t',Heap.SameBut a s.heap h'->va knd h' a o' AW t' ys->t'.led=t.led->ys.Perm xs->Q () {s with heap:=h'}):wpAny (model prog w) A (setRelay a n) Q E s:=by
 have fits:t.fits ((xs.map (ent knd)).toArray).size=true:=by have:=tab.fits;rw[ak]at this;simpa using this
 unfold setRelay;refine ae (sX ob hd fits ?_);dsimp only;obtain⟨k,e1,e2,e3,e4⟩:=zR (n:=n) ∅;rw[ax (by rw[e1,bU];lia)];have hm:((xs.map (ent knd)).toArray).map (·.1)=(xs.map λx=>knd.hash x.1).toArray:=by simp[oH]
 obtain⟨t',order,q1,q2,qc,q3,q4,q5,q6,q7⟩:=O4 t (xs.map λx=>knd.hash x.1) (n:=n) ∅ (by rw[ak];lia);rw[hm,q1];rw[ak]at q6;have oz:order.toList.Perm (List.range ((xs.map (ent knd)).toArray).size):=by simpa using q6
 obtain⟨o1,o2⟩:=Nh oz;have ng:(order.filterMap (((xs.map (ent knd)).toArray)[·]?))=((order.toList.filterMap (xs[·]?)).map (ent knd)).toArray:=by apply vz.mp;simp[List.map_filterMap]
 have py:(order.toList.filterMap (xs[·]?)).Perm xs:=by have:=q6.filterMap (xs[·]?);rwa [Af]at this
 have ly:=py.length_eq;have hh:(order.toList.filterMap (xs[·]?)).map (λx=>knd.hash x.1)=order.toList.map λi=>(xs.map λx=>knd.hash x.1).getD i 0:=by have:=o2 (·.1);rw[ng]at this;simpa[oH]using this
 rw[<-hh]at q7;generalize order.toList.filterMap (xs[·]?)=ys at*;refine ae ?_;show wpAny (model prog w) A (if((order.filterMap (((xs.map (ent knd)).toArray)[·]?)).size !=((xs.map (ent knd)).toArray).size)=true then unsupported _ else pure (order.filterMap (((xs.map (ent knd)).toArray)[·]?),t')) _ E s;rw[ng,ax (by simp[ly])];refine af ?_;dsimp only;refine BI ob hd ?_ (by rw[aO,ak,ly,bU];lia);have S2:va knd (s.heap.update a (Obj.putSet (ys.map (ent knd)).toArray t')) a {o with data:=.set (ys.map (ent knd)).toArray (ep+1) t'} (ep+1) t' ys:=by
  have sb:=bG s.heap a (Obj.putSet (ys.map (ent knd)).toArray t');refine{?_,ex,rfl,q7,by lia,by lia,(py.map _).nodup_iff.mpr nd,λx hx=>?_}
  ·have:=cj (Obj.putSet (ys.map (ent knd)).toArray t') ob (by rw[Ah _ t' hd];rfl);rw[Ah _ t' hd]at this;exact this
  ·exact L1 ob hd sb (is x (py.mem_iff.mp hx))
 exact h _ ys _ _ _ (bG s.heap a _) S2 q4 py
def XU{a b:Addr}{o:Obj}{ep:Nat}{t:SetTable}{xs:List (κ×Addr)}{k:κ}{Q:Bool->Shared->Prop}(hu:knd.room A)(S:va knd s.heap a o ep t xs)(hk:knd.is s.heap k b)(hx:xs.length<=1000)
  (h1:(∃x∈xs,x.1=k)->Q false s) (h2:(∀x∈xs,x.1≠k)->∀h' ys o' AW t',Heap.SameBut a s.heap h'->va knd h' a o' AW t' ys->t'.led=t.led->ys.Perm ((k,b)::xs)->Q true {s with heap:=h'}):
  wpAny (model prog w) A (setAddHashed a (.ref b) (knd.hash k)) Q E s:=by
 unfold setAddHashed setAddHashedIn;refine bL (ae (S.state ?_));dsimp only;have nb:byScan (.ref b) (xs.map (ent knd)).toArray=false:=by simp[byScan,Value.scannable]
 rw[nb];simp only[bE,cN];obtain⟨D,fr⟩:=S.tab.free (knd.hash k);unfold setSearch;have bound:=fr.lt;have hm:=S.cap;unfold turns at bound;refine ae (Ow hu S hk fr (λq=>af (h1 q)) (λq=>?_) D 100000 0 none rfl (aR _) ∅ (RU t _) λe he=>absurd he (hG _));dsimp only;refine ae (S.state ?_);dsimp only;have big:=S.tab.big;have gj:=S.gj;have room:(xs.map λx=>knd.hash x.1).length+1<=t.mask:=by rw[ak];lia
 have tb:=S.tab.put fr room;generalize ep1:t.put (ps t.mask (knd.hash k) D)=tp at tb;obtain⟨t1,p⟩:=tp;have Zm:t1.mask=t.mask:=by have:(t.put (ps t.mask (knd.hash k) D)).1.mask=t.mask:=rfl;rw[ep1]at this;exact this
 have ld1:t1.led=t.led:=by have:(t.put (ps t.mask (knd.hash k) D)).1.led=t.led:=rfl;rw[ep1]at this;exact this
 dsimp only at tb⊢;have esz:((xs.map (ent knd)).toArray).size=xs.length:=by simp
 have ins:insertAt (xs.map (ent knd)).toArray p (knd.hash k,Value.ref b)=((iP xs p (k,b)).map (ent knd)).toArray:=by apply vz.mp;rw[qg,Jp]
 have hsI:(iP xs p (k,b)).map (λx=>knd.hash x.1)=iP (xs.map λx=>knd.hash x.1) p (knd.hash k):=Jp _ _ _ _;have pI:=Qa xs p (k,b);have nI:((iP xs p (k,b)).map (·.1)).Nodup:=by refine(pI.map _).nodup_iff.mpr ?_;rw[bo];refine cP.mpr {λz=>?_,S.nd};obtain⟨x,hx,e⟩:=aJ.mp z;exact q x hx e
 have isI:∀x∈iP xs p (k,b),knd.is s.heap x.1 x.2:=λx hx=>by
  rcases aF.mp (pI.mem_iff.mp hx)with rfl|hx
  ·exact hk
  ·exact S.is x hx
 have lI:(iP xs p (k,b)).length=xs.length+1:=by rw[pI.length_eq];rfl
 have fin:∀t2:SetTable,t2.mask=t1.mask->t2.place=t1.place->t2.dummies=t1.dummies->t2.led=t1.led->wpAny (model prog w) A (do
   storeSet a (insertAt (xs.map (ent knd)).toArray p (knd.hash k,Value.ref b)) t2
   if(!false&&t2.tooFull)=true then
    setRelay a (SetTable.grown (((xs.map (ent knd)).toArray).size+1))
    pure true
   else pure true) Q E s:=λt2 e1 e2 e3 e4=>by
  have Uo:Tab t2 ((iP xs p (k,b)).map λx=>knd.hash x.1):=by rw[hsI];exact tb.of_eq e1 e2 e3
  rw[ins];refine ae (BI S.ob S.data ?_ (by rw[aO,ak,lI,bU];lia));have sb:=bG s.heap a (Obj.putSet ((iP xs p (k,b)).map (ent knd)).toArray t2);have ob2:(s.heap.update a (Obj.putSet ((iP xs p (k,b)).map (ent knd)).toArray t2)).get? a=some {o with data:=.set ((iP xs p (k,b)).map (ent knd)).toArray (ep+1) t2}:=by have:=cj (Obj.putSet ((iP xs p (k,b)).map (ent knd)).toArray t2) S.ob (by rw[Ah _ t2 S.data];rfl);rw[Ah _ t2 S.data]at this;exact this
  have fl:t2.tooFull=decide ((xs.length+1)*5≥t.mask*3):=by unfold SetTable.tooFull SetTable.fill;rw[Uo.Q3,Uo.sz,ak,lI,e1,Zm];rfl
  have Cq:∀x∈iP xs p (k,b),knd.is (s.heap.update a (Obj.putSet ((iP xs p (k,b)).map (ent knd)).toArray t2)) x.1 x.2:=λx hx=>L1 S.ob S.data sb (isI x hx);by_cases c:t2.tooFull=true
  ·rw[c];simp only[xS,Bool.and_self,jJ];have g:SetTable.grown (((xs.map (ent knd)).toArray).size+1)=(xs.length+1)*4:=by unfold SetTable.grown;rw[esz,ax ∅]
   rw[g];refine ae (RC (s:={s with heap:=s.heap.update a (Obj.putSet ((iP xs p (k,b)).map (ent knd)).toArray t2)}) ob2 S.ex rfl Uo nI Cq ∅ ∅ ∅ ∅ ∅ λh' ys o' AW t' pV S' l' py=>?_);exact af (h2 q h' ys o' AW t' (sb.trans pV) S' (l'.trans (e4.trans ld1)) (py.trans pI))
  ·rw[ig.mpr c];simp only[rL,bE,cN];rw[fl]at c;have c':¬(xs.length+1)*5≥t.mask*3:=λz=>c (aX z);exact af (h2 q _ (iP xs p (k,b)) _ _ _ sb {ob2,S.ex,rfl,Uo,by rw[lI,e1,Zm];lia,by rw[lI,e1,Zm];lia,nI,Cq} (e4.trans ld1) pI)
 by_cases c:t1.plain=true
 ·rw[aA c];refine ae (knd.QG hk λbv=>?_);cases bv with
  |true=>exact fin t1 rfl rfl rfl rfl
  |false=>exact fin {t1 with plain:=false} rfl rfl rfl rfl
 ·rw[ax c];refine ae (af ?_);exact fin t1 rfl rfl rfl rfl
end
end Tb
namespace Tb
open PySem
def EL{α:Type}{l:List α}(h:i<l.length):(l[i]::l.eraseIdx i).Perm l:=by rw[pP];refine List.perm_middle.symm.trans ?_;rw[List.getElem_cons_drop,pO]
theorem LJ(next:Nat->Nat):∀(f k:Nat)(left:List α)(out:Array α),f=left.length->(pickOrder.go next f k left out).toList.Perm (out.toList++left)
 |0,k,left,out,h=>by rw[ff.mp h.symm,cJ];exact .refl _
 |f+1,k,left,out,h=>by
  have hl:next k % left.length<left.length:=qB _ ∅
  unfold pickOrder.go;rw[aq hl];refine(LJ next f (k+1) (left.eraseIdx (next k % left.length)) (out.push left[next k % left.length]) (by rw[lZ hl];lia)).trans ?_;rw[tM,jx];exact(EL hl).append_left _
def O8(next:Nat->Nat)(xs:Array α):(pickOrder next xs).toList.Perm xs.toList:=by
 have:=LJ next xs.size 0 xs.toList #[] (by simp)
 rw[mQ]at this;exact this
section
variable{M:Model}{A:Around}{E:Aac}
theorem Le:∀(n:Nat)(xs:List α)(s:Shared){Q:List α->Shared->Prop},n=xs.length->(∀ys d,ys.Perm xs->Q ys {s with drawn:=d})->wpAny M A (drawOrder n xs) Q E s
 |0,xs,s,Q,hn,h=>by have e:xs=[]:=ff.mp hn.symm;subst e;unfold drawOrder;exact af (h [] s.drawn (.refl _))
 |n+1,[],s,Q,hn,h=>by simp at hn
 |n+1,x::xs,s,Q,hn,h=>by
  unfold drawOrder;refine ae (λΓ p hΓ=>?_);refine{by simp,?_};have hl:M.w.draws .order (s.drawn.get .order) %(x::xs).length<(x::xs).length:=qB _ (by simp);generalize M.w.draws .order (s.drawn.get .order) %(x::xs).length=i at hl;have key:wpAny M A (match(x::xs)[i]? with
   |some y=>do return y::(<-drawOrder n ((x::xs).eraseIdx i))
   |none=>unsupported "internal:drawOrder") Q E {s with drawn:=s.drawn.bump .order}:=by
   rw[aq hl];dsimp only;refine ae (Le n _ _ (by rw[lZ hl];lia) λys d hp=>af ?_);exact h _ d ((hp.cons _).trans (EL hl))
  exact key
end
end Tb
namespace L2
def Ak{α β:Type}{f:α->β}:∀{l k:List β},l.Perm k->∀{m:List α},k=m.map f->∃m':List α,m'.Perm m/\l=m'.map f:=by
 intro l k h
 induction h with
 |nil=>intro m e;exact{m,.refl _,e}
 |@cons x l1 l2 _ ih=>
  intro m e;cases m with
  |nil=>cases e
  |cons a m=>
   injection e with e1 e2;obtain⟨m',p,q⟩:=ih e2;exact{a::m',p.cons a,by rw[e1,q];rfl}
 |swap x y l=>
  intro m e
  match m,e with
  |a::b::m,e=>
   injection e with e1 e2;injection e2 with e2 e3;exact{b::a::m,.swap _ _ _,by rw[e1,e2,e3];rfl}
 |trans _ _ ih1 Qc=>
  intro m e;obtain⟨m1,p1,q1⟩:=Qc e;obtain⟨m2,p2,q2⟩:=ih1 q1;exact{m2,p2.trans p1,q2}
end L2
namespace Tb
open PySem PySem.SetTable PyProof.Rows
section
variable{prog:Program}{w:World}
section
variable{A:Around}{R:Result->Shared->Prop}{I:Addr}{fp wr:Aah}{G:Array GenState->Array GenState->Prop}{n:Nat}{P:Nat->Value->Prop}{St:Nat->Shared->Prop}
def abF(W:WalksS prog w A.in1 I fp wr G n P St)(S:Addr)(nS:S∉fp)(C:Nat->Heap->Prop)(keep:∀i h h',C i h->(∀b o,b∉wr->h.get? b=some o->h'.get? b=some o)->C i h')
  (step:∀(i:Nat) v(s:Shared)(Q:Bool->Shared->Prop)(E:Aac),i<n->P i v->C i s.heap->(∀c h' tk,s.toks<=tk->Heap.SameBut S s.heap h'->C (i+1) h'->Q c {s with heap:=h',toks:=tk})->wpAny (model prog w) A.in1 (setAdd S v) Q E s) (m:Nat):
  ∀(i:Nat)(s:Shared),n -i=m->i<=n->St i s->C i s.heap->(∀s',Moved (S::wr) G s s'->C n s'.heap->R (.ok (.ret .none)) s')->codeAny (model prog w) A (.builtin "set.update.loop" {[.ref S,.ref I],[]}) R s:=by
 have sub:∀b∈wr,b∈S::wr:=λb q=>az _ q
 induction m with
 |zero=>
  intro i s hm hi st hC hR;have e:i=n:=by lia
  subst e;refine eA nJ ?_;exact ae (W.done s _ _ st λs' hm=>af (hR s' (hm.mono sub) (keep _ _ _ hC hm.heap)))
 |succ m ih=>
  intro i s hm hi st hC hR;have cw:i<n:=by lia
  refine eA nJ ?_;refine ae (W.item i s _ _ cw st λv s' hP lO hm=>?_);refine ae (bL (step i v s' _ _ cw hP (keep _ _ _ hC hm.heap) λc h' tk le sb hC'=>?_));refine af {ik PyProof.Rows.F.plain_set_update_loop _,ih (i+1) _ ∅ cw (W.frame _ s' h' _ lO le λb q o e=>?_) hC' λs2 m2 c2=>hR s2 (Moved.trans W.gtrans ((hm.mono sub).then_heap le λb o q e=>?_) m2) c2}
  ·rw[sb.2 b λh:b=S=>nS (h▸q)];exact e
  ·rw[sb.2 b λh:b=S=>q (h▸ay)];exact e
end
section
variable{A:Around}{E:Aac}{s:Shared}
abbrev mq(w:World):Bool:=!w.params.followText "set-order"
abbrev rM(led:Bool):Obj:={cls:=.type "set",dict:=none,data:=.set #[] 0 (.fresh 0 0 led)}
def code_set_new(a:Value)(h:Q₁ (.ref s.heap.objs.size) {s with heap:=s.heap.push (rM (mq w))}):
  codeAny (model prog w) A (.call (.builtin "set.__new__") {[.type "set",a],[]}) (wants Q₁ E) s:=by
 refine codeAny_of_tree ?_;show wpAny _ A.in1 (do checkBuiltinCall "set.__new__" {[.type "set",a],[]};again (.builtin "set.__new__" {[.type "set",a],[]})) _ _ s;refine ae (B3 (PySem.F.newCall_set_1 a) (af {ik xQ _,eA PySem.F.entry_set_new ?_}));rw[Around.under_plainId xQ _];unfold Builtin.«set.__new__» Builtin.Frozenset.newClass;have S5:=sub_set_self;obtain⟨hp,g,d,tk,os⟩:=s;dsimp only
 wp_walk
 refine ur (af ?_);dsimp only;simp only[newObj];refine ae (wpAny_alloc (af ?_));exact af h
def Rm{l:Addr}{items:Aaj}{Q:Aac}(C:Nat->Heap->Prop)(hA:A.handled=none)(hl:s.heap.IsList l items\/s.heap.IsTuple l items)
  (keep:∀i h h',C i h->(∀b o,b≠s.heap.objs.size+1->h.get? b=some o->h'.get? b=some o)->C i h')
  (step:∀(i:Nat) v(s':Shared)(Q:Bool->Shared->Prop)(E:Aac),items[i]?=some v->C i s'.heap->(∀c h' tk,s'.toks<=tk->Heap.SameBut s.heap.objs.size s'.heap h'->C (i+1) h'->Q c {s' with heap:=h',toks:=tk})->wpAny (model prog w) A.in1.in1.in1 (setAdd s.heap.objs.size v) Q E s')
  (c0:∀o,C 0 ((s.heap.push (rM (mq w))).push o)) (k:∀(h':Heap)(tk:Nat),C items.size h'->(∀b o,s.heap.get? b=some o->h'.get? b=some o)->Q (.ref s.heap.objs.size) {s with heap:=h',toks:=tk}):
  wpAny (model prog w) A (call (.type "set") [.ref l]) Q E s:=by
 obtain⟨c,tl,aeg⟩:=Bi.mro;have ft:=Bi;have ad6:=ft.made;have S5:=ft.sub;refine DP (codeAny_of_tree ?_);show wpAny _ _ (callAny (.type "set") _) _ _ _;refine af {nP _ (by decide+kernel),eA PySem.F.entry_type_call ?_};rw[Around.under_plain (weight_type_call_type "set" [.ref l] []) rfl];have h1:=ft.notType;have h2:=ft.canCreate;have hct:=PySem.F.typeCall_set_1 (.ref l)
 repeat (any_goals (first|assumption|wp_step))
 refine kU (code_set_new (.ref l) (E:=E) (Q₁:=λx z=>x=.ref s.heap.objs.size/\z={s with heap:=s.heap.push (rM (mq w))}) ⟨rfl,rfl⟩) λr z hr=>?_;cases r with
 |error e=>exact hr
 |ok fl=>
  cases fl with
  |ret x=>
   obtain⟨rfl,rfl⟩:=hr;have hS:(s.heap.push (rM (mq w))).get? s.heap.objs.size=some (rM (mq w)):=aB _ rfl;have hT:Shared.TypeIs {s with heap:=s.heap.push (rM (mq w))} (.ref s.heap.objs.size) "set":=⟨_,hS,rfl⟩;have hli:=ft.init.lookup;have Vo:=ft.init.bind (.ref s.heap.objs.size)
   repeat (any_goals (first|assumption|wp_step))
   refine kU (yK (R:=wants (λr z=>r=.none/\∃h' tk,z={s with heap:=h',toks:=tk}/\C items.size h'/\(∀b o,s.heap.get? b=some o->h'.get? b=some o)) E) ft.init.plain PySem.F.entry_set_init (check_set_init_1 hT ?_)) λr2 z2 Me=>?_
   ·obtain⟨T,⟨oc,od,oda,An⟩,hol,zj,aec,aed,jw,oI,St,hit,hW,g7⟩:∃(T:String)(o:Obj),s.heap.get? l=some o/\o.cls=.type T/\isSubtype (.type T) (.type "set")=pure false/\isSubtype (.type T) (.type "frozenset")=pure false/\(Value.type T==Value.type "dict")=false/\∃(oI:Obj)(St:Addr->Nat->Heap->Prop),(∀(A':Around)(E Q:Aac)(s':Shared),(∀b o,s.heap.get? b=some o->s'.heap.get? b=some o)->Q (.ref s'.heap.objs.size) {s' with heap:=s'.heap.push oI}->wpAny (model prog w) A' (pyIter (.ref l)) Q E s')/\(∀(A':Around)(I:Addr),A'.handled=none->l≠I->Walks prog w A' I [I,l] [I] items.size (λi v=>items[i]?=some v) (St I))/\∀h:Heap,(∀b o,s.heap.get? b=some o->h.get? b=some o)->St h.objs.size 0 (h.push oI):=by
     rcases hl with⟨o,h1,h2,n,h3⟩|⟨o,h1,h2,n,h3⟩
     ·exact{"list",o,h1,h2,PySem.F.sub_list_set,PySem.F.sub_list_frozenset,by decide,_,λI i h=>h.IsListIter I l i/\h.IsList l items,λA' E Q s' k q=>oB {o,k _ _ h1,h2,n,h3} q,λA' I hh ne=>Walks.list hh I l ne items,λh k=>{{_,aB _ rfl,rfl,rfl},o,ah _ (k _ _ h1),h2,n,h3}}
     ·exact{"tuple",o,h1,h2,PySem.F.sub_tuple_set,PySem.F.sub_tuple_frozenset,by decide,_,λI i h=>h.IsTupleIter I l i/\h.IsTuple l items,λA' E Q s' k q=>mV {o,k _ _ h1,h2,n,h3} q,λA' I hh ne=>Walks.tuple hh I l ne items,λh k=>{{_,aB _ rfl,rfl,rfl},o,ah _ (k _ _ h1),h2,n,h3}}
    simp only at zj;subst zj;have aef:=ah (rM (mq w)) hol;have hh3:A.in1.in1.in1.handled=none:=by simp[hA]
    unfold Builtin.«set.__init__» noKeywords Builtin.Frozenset.updateFrom;generalize hPI:pyIter=PI
    wp_walk
    subst hPI;refine hit _ _ _ _ (λb o e=>ah _ e) (ae (wpAny_runValue ?_));have hlS:l<s.heap.objs.size:=aD hol;have nI:l≠(s.heap.push (rM (mq w))).objs.size:=by rw[cy];exact aG (dD hlS)
    have nS:s.heap.objs.size∉[(s.heap.push (rM (mq w))).objs.size,l]:=by
     rw[cy];intro hm;rcases aF.mp hm with hm|hm
     ·exact absurd hm (aG (dw _))
     ·exact absurd (au.mp hm) (bx hlS)
    refine abF ((hW _ _ hh3 nI).toS) s.heap.objs.size nS C (λi h h' hC q=>keep i h h' hC λb o nb e=>q b o (λz=>nb ((au.mp z).trans (cy _ _))) e) (λi v s' Q E _ hv=>step i v s' Q E hv) items.size 0 _ rfl (aR _) (g7 _ λb o e=>ah _ e) (c0 _) λs' hm hC=>?_;obtain⟨h',g',d',HC,UE⟩:=s';have eg:g'=s.gens:=hm.gens;have ed:d'=s.drawn:=hm.drawn;have eo:UE=s.os:=hm.os;subst eg ed eo;refine af (af {rfl,h',HC,rfl,hC,λb o e=>hm.heap b o ?_ (ah _ (ah _ e))});have lt:=aD e;rintro(_|⟨_,q⟩)
    ·exact dy _ lt
    ·rw[au.mp q,cy]at lt;exact absurd lt (yS.mpr (iM _))
   ·cases r2 with
    |error e=>exact Me
    |ok fl2=>
     cases fl2 with
     |ret r=>
      obtain⟨rfl,h',tk,rfl,hC,AL⟩:=Me
      repeat (any_goals (first|assumption|wp_step))
      exact k _ _ hC AL
     |_=>exact Me.elim
  |_=>exact hr.elim
end
end
section
variable{prog:Program}{w:World}{κ:Type}[DecidableEq κ]{knd:SK prog w κ}
structure aa6(knd:SK prog w κ)(ks:List κ)(bs:Aah)(i:Nat)(xs:List (κ×Addr)):Prop where
 len:xs.length<=i
 mem:∀k,k∈xs.map (·.1)↔k∈ks.take i
 EG:∀x∈xs,∃j:Nat,ks[j]?=some x.1/\bs[j]?=some x.2
section
variable{A:Around}{E:Aac}{s:Shared}
def GV{l:Addr}{bs:Aah}{ks:List κ}{items:Aaj}{Q:Aac}(hA:A.handled=none)(hu:knd.room A.in1.in1.in1)(hl:s.heap.IsList l items\/s.heap.IsTuple l items)(hi:items.toList=bs.map Value.ref)(lb:ks.length=bs.length)(hk:∀(i:Nat) k b,ks[i]?=some k->bs[i]?=some b->knd.is s.heap k b)(hb:bs.length<=1000)
  (k:∀(h':Heap)(tk:Nat) o ep t xs,va knd h' s.heap.objs.size o ep t xs->t.led=mq w->aa6 knd ks bs bs.length xs->(∀b o,s.heap.get? b=some o->h'.get? b=some o)->Q (.ref s.heap.objs.size) {s with heap:=h',toks:=tk}):
  wpAny (model prog w) A (call (.type "set") [.ref l]) Q E s:=by
 have hsz:items.size=bs.length:=by rw[<-aZ,hi,ak]
 refine Rm (λi h=>(∀b o,s.heap.get? b=some o->h.get? b=some o)/\∃o ep t xs,va knd h s.heap.objs.size o ep t xs/\t.led=mq w/\aa6 knd ks bs i xs) hA hl (λi h h' ⟨kp,o,ep,t,xs,hS,oS,hH⟩ q=>?_) (λi v s' Q E hv ⟨kp,o,ep,t,xs,hS,oS,hH⟩ k=>?_) (λo=>{λb o e=>ah _ (ah _ e),rM (mq w),0,.fresh 0 0 (mq w),[],{ah _ (aB _ rfl),⟨rfl,rfl,rfl⟩,rfl,Tab.fresh 0 0 _,by show 0*5<7*3;decide,by show 7<=15;decide,jL,λx hx=>nomatch hx},rfl,{ao _,λk=>by simp,λx hx=>nomatch hx}}) λh' tk ⟨kp,o,ep,t,xs,hS,oS,hH⟩ LY=>k h' tk o ep t xs hS oS (hsz▸hH) LY
 ·have LY:∀b o,s.heap.get? b=some o->h'.get? b=some o:=λb o e=>q b o (aG (dD (aD e))) (kp b o e);refine{LY,o,ep,t,xs,{q _ _ (aG (dw _)) hS.ob,hS.ex,hS.data,hS.tab,hS.gj,hS.cap,hS.nd,λx hx=>?_},oS,hH};obtain⟨j,j1,j2⟩:=hH.EG x hx;exact knd.keep (hk j _ _ j1 j2) λc o _ e=>LY c o e
 ·have e:items.toList[i]?=some v:=by rw[bK];exact hv
  rw[hi,aI]at e;obtain⟨b,gJ,rfl⟩:=bb.mp e;have ib:=(aw.mp gJ).1;obtain⟨k',AL⟩:∃k,ks[i]?=some k:={_,aq ∅};have kb:knd.is s'.heap k' b:=knd.keep (hk i k' b AL gJ) λc o _ e=>kp c o e;have et:ks.take (i+1)=ks.take i++[k']:=by rw[bg,AL];rfl
  have qj:=hH.len;unfold setAdd;refine bL (ae (knd.hashes hu kb ?_));refine XU (s:={s' with toks:=s'.toks+knd.draws k'}) hu hS kb ∅ (λq=>?_) λq h' ys o' AW t' sb S2 acE py=>?_
  ·refine k _ s'.heap _ (dM _ _) (tL _ _) {kp,o,ep,t,xs,hS,oS,by lia,λz=>?_,hH.EG};rw[et,aY,<-hH.mem,au];exact{.inl,λc=>c.elim id λe=>by obtain⟨x,hx,ex⟩:=q;rw[e,<-ex];exact aJ.mpr ⟨x,hx,rfl⟩}
  ·refine k _ h' _ (dM _ _) sb {λb o e=>?_,o',AW,t',ys,S2,acE.trans oS,by rw[py.length_eq,bu];lia,λz=>?_,λx hx=>?_}
   ·rw[sb.2 b (aG (aD e))];exact kp b o e
   ·rw[et,aY,<-hH.mem,au,(py.map (·.1)).mem_iff,bo,aF];exact Or.comm
   ·rcases aF.mp (py.mem_iff.mp hx)with rfl|hx
    ·exact⟨i,AL,gJ⟩
    ·exact hH.EG x hx
end
end
section
variable{prog:Program}{w:World}{K:Type}[DecidableEq K]{knd:KeyKind prog w K}{A:Around}{E:Aac}{s:Shared}
def RD(hx:IsTupleKey knd s.heap ks b)(h:Q false s):wpAny (model prog w) A (ofAClassStatement 8 (.ref b)) Q E s:=by
 have hT:=hx.typeIs;obtain⟨o,items,n,ho,_,hd,hi⟩:=hx;unfold ofAClassStatement;refine ae (gu hT ?_);dsimp only;refine ae (af ?_);refine ae (bQ ho hd ?_);refine ae ?_;rw[<-iU];refine fP _ (λrest r s'=>r.1=none/\s'=s/\∀v∈rest,carriedByValue v=true) _ ?_ ?_ _ _ {rfl,rfl,hi.byValue}
 ·rintro v rest r s' ⟨hr,rfl,mw⟩;have hv:=mw v ay;have e:ofAClassStatement 7 v=pure false:=by
   cases v with
   |ref a=>simp[carriedByValue]at hv
   |_=>first|rfl|(unfold ofAClassStatement;rfl)
  rw[e];refine ae (af ?_);exact af {rfl,rfl,λu sg=>mw u (az _ sg)}
 ·rintro⟨r1,r2⟩ s' ⟨hr,rfl,_⟩;simp only at hr;subst hr;exact af h
def wI(n:Nat)(h:carriedByValue v=true):∃b,hashByValue n v=pure b:=by
 cases v with
 |ref a=>simp[carriedByValue]at h
 |_=>cases n<;>exact⟨_,rfl⟩
def XT(hx:IsTupleKey knd s.heap ks b)(h:∀c,Q c s):wpAny (model prog w) A (hashByValue 8 (.ref b)) Q E s:=by
 have hT:=hx.typeIs;obtain⟨o,items,n,ho,_,hd,hi⟩:=hx;refine ae (gg hT jy.lookup ?_);refine ae (bQ ho hd ?_);refine ae ?_;rw[<-iU];refine fP _ (λrest r s'=>r.1=none/\s'=s/\∀v∈rest,carriedByValue v=true) _ ?_ ?_ _ _ {rfl,rfl,hi.byValue}
 ·rintro v rest r s' ⟨hr,rfl,mw⟩;obtain⟨c,e⟩:=wI 7 (mw v ay);rw[e];refine ae (af ?_);cases c with
  |false=>
   exact af (af (h false))
  |true=>
   exact af {rfl,rfl,λu sg=>mw u (az _ sg)}
 ·rintro⟨r1,r2⟩ s' ⟨hr,rfl,_⟩;simp only at hr;subst hr;exact af (h true)
def DU(knd:KeyKind prog w K):SK prog w (List K) where
 hash:=tupleKeyHash knd
 draws:=λk=>k.length+1
 room:=λA=>A.units<cLine
 is:=IsTupleKey knd
 keep:=λ⟨o,aP,n,ho,hc,hd,hi⟩ k=>{o,aP,n,k _ _ ⟨aP,n,hd⟩ ho,hc,hd,hi}
 cls:=RD
 quiet:=wpAny_eqIsQuiet_tuple
 eq:=zK
 hashes:=wpAny_pyHash_tuple
 QG:=XT
end
section
variable{prog:Program}{w:World}
abbrev adP(prog:Program)(w:World)(x:Str×Tok):Int×Value:=((strKind prog w).hash x.1,.str x.1 x.2)
structure aek(prog:Program)(w:World)(h:Heap)(a:Addr)(o:Obj)(es:Array (Int×Value))(ep:Nat)(t:SetTable)(xs:List (Str×Tok)):Prop where
 ob:h.get? a=some o
 ex:o.ExactSet
 data:o.data=.set es ep t
 en:es.toList=xs.map (adP prog w)
 gj:xs.length<=1000
 fits:t.fits es.size=true
 pl:t.plain=false\/xs=[]
 led:t.led=mq w
end
end Tb
namespace Tb
open PySem PySem.SetTable
def Fy:entryFor table "set.__iter__"=some Builtin.«frozenset.__iter__»:=
 xM (id':="frozenset.__iter__") (by kernel_rfl) rfl (by decide+kernel) (by kernel_rfl)
def eT:Slot "set_iterator" "__next__" "set_iterator.__next__":=
 .of (owner:="set_iterator") (n:="__next__") (by rw[mD,ji];kernel_rfl) (by decide+kernel) (by decide+kernel) (by decide+kernel)
  (by first|exact .inl (by decide+kernel)|exact .inr (by decide+kernel)) (by rw[xx];kernel_rfl)
def mK:entryFor table "set_iterator.__next__"=some Builtin.«set_iterator.__next__»:=entryFor_of_tree (by kernel_rfl)
def nZ(a:Value):argsOk "set_iterator.__next__" {[a],[]}:=by unfold argsOk;kernel_rfl
def xf:Slot "set_iterator" "__iter__" "set_iterator.__iter__":=
 .of (owner:="set_iterator") (n:="__iter__") (by rw[mD,ji];kernel_rfl) (by decide+kernel) (by decide+kernel) (by decide+kernel)
  (by first|exact .inl (by decide+kernel)|exact .inr (by decide+kernel)) (by rw[xx];kernel_rfl)
def EN:entryFor table "set_iterator.__iter__"=some Builtin.«dict_keyiterator.__iter__»:=
 xM (id':="dict_keyiterator.__iter__") (by kernel_rfl) rfl (by decide+kernel) (by kernel_rfl)
def FP(a:Value):argsOk "set_iterator.__iter__" {[a],[]}:=by unfold argsOk;kernel_rfl
def Wh:typeLookup (.type "set") "__len__"=pure (some (.builtin "set.__len__")):=by rw[mD,ji];kernel_rfl
section
variable{prog:Program}{w:World}{A:Around}{E:Aac}{s:Shared}
structure Sat(w:World)(h:Heap)(S:Addr)(es:Array (Int×Value))(ep:Nat)(t:SetTable):Prop where
 ob:∃o,h.get? S=some o/\o.ExactSet/\o.data=.set es ep t
 fits:t.fits es.size=true
 lr:w.params.followText "set-order"=false->(!t.plain&&decide (es.size>1))=false->t.led=true/\my t.place
def Sat.keep{S:Addr}(x:Sat w h S es ep t)(k:∀o,h.get? S=some o->h'.get? S=some o):Sat w h' S es ep t:=by obtain⟨⟨o,ho,r⟩,a,b⟩:=x;exact{{o,k o ho,r},a,b}
def Sat.state{S:Addr}(x:Sat w s.heap S es ep t)(h:Q (es,ep,t) s):wpAny (model prog w) A (setState S) Q E s:=by obtain⟨⟨o,ho,_,hd⟩,hf,_⟩:=x;exact sX ho hd hf h
def zH(h:Q (w.params.followText "set-order") s):wpAny (model prog w) A setsByText Q E s:=by exact ae (ur (af h))
def tU(w:World)(S:Addr)(es:Array (Int×Value))(ep:Nat):List (Int×Value):=if w.params.followText "set-order"=true then(pickOrder (w.params.setOrder S ep) es).toList else es.toList
def wx(w:World)(t:SetTable):Nat->Nat
 |0=>0
 |i+1=>if w.params.followText "set-order"=true then 0 else t.place.getD i 0+1
def yr(w:World)(S:Addr)(es:Array (Int×Value))(ep:Nat):(tU w S es ep).Perm es.toList:=by
 unfold tU;split
 ·exact O8 _ _
 ·exact .refl _
def HZ(t:SetTable):Nat->Nat
 |0=>0
 |i+1=>t.place.getD i 0+1
def T7(hr:my t.place):∀i,i<=t.place.size->below t.place (HZ t i)=i:=by
 intro i hi;obtain⟨h1,h2,h3⟩:=ud hr (HZ t i);generalize eb:below t.place (HZ t i)=b at h1 h2 h3⊢;rcases kI b i with c|c|c
 ·cases i with
  |zero=>lia
  |succ i=>
   have:=h3 b (ao _) ∅;rw[show HZ t (i+1)=t.place.getD i 0+1 from rfl]at this;by_cases e:b=i
   ·rw[e]at this;lia
   ·have:=hr b i ∅ ∅;lia
 ·exact c
 ·have:=h2 i c;cases i with
  |zero=>rw[show HZ t 0=0 from rfl]at this;lia
  |succ i=>
   rw[show HZ t (i+1)=t.place.getD i 0+1 from rfl]at this;have:=hr i (i+1) ∅ ∅;lia
def Ld{S:Addr}(x:Sat w s.heap S es ep t)(hi:i<=es.size)(hd:w.params.followText "set-order"=true\/(!t.plain&&decide (es.size>1))=false)
  (h:Q ((tU w S es ep)[i]?.map λe=>(e.2,wx w t (i+1))) s):wpAny (model prog w) A (setNext S (wx w t i) i ep) Q E s:=by
 refine ae (x.state ?_);refine ae (zH ?_);by_cases c:w.params.followText "set-order"=true
 ·rw[aA c];rw[ax (by simp)];refine ae ?_;refine ae (x.state ?_);refine ae (zH ?_);rw[aA c];refine ae (ur (af (af ?_)));have e1:tU w S es ep=(pickOrder (w.params.setOrder S ep) es).toList:=aA c;have e2:wx w t (i+1)=wx w t i:=by
   cases i with
   |zero=>exact aA c
   |succ i=>exact(aA c).trans (aA c).symm
  rw[e1,e2,bK]at h;exact h
 ·rw[ax c];have EE:=hd.resolve_left c;have cf:=ig.mpr c;have fz:=x.fits;have sz:t.place.size=es.size:=by have:=(qH.mp fz).1;exact iq this
  show wpAny (model prog w) A (if(!t.plain&&decide (es.size>1))=true then _ else _) Q E s;rw[EE];refine ae ?_;show wpAny (model prog w) A (if(!t.led&&!es.isEmpty)=true then _ else _) _ E s;rw[(x.lr cf EE).1];refine af (af ?_);have e0:wx w t i=HZ t i:=by
   cases i with
   |zero=>rfl
   |succ i=>exact ax c
  rw[e0,T7 (x.lr cf EE).2 i ∅];have e1:tU w S es ep=es.toList:=ax c;rw[e1,bK]at h;by_cases lt:i<es.size
  ·have g1:=bq lt;have g3:wx w t (i+1)=t.place.getD i 0+1:=ax c;rw[g1]at h⊢;rw[(getD_some.mpr {by lia,rfl})];rw[eC,g3]at h;exact h
  ·have g1:es[i]?=none:=iN ∅;rw[g1]at h⊢;exact h
def F9(hT:s.TypeIs (.ref I) "set_iterator")(h:Q (.ref I) s):wpAny (model prog w) A (pyIter (.ref I)) Q E s:=by refine kG hT xf (ba xf hT EN ?_ (FP _));exact af {_,rfl,"set_iterator",_,hT,eT.lookup,h}
abbrev oq(first:Value)(i:Nat)(S:Addr)(n ep:Nat):Obj:={cls:=.type "set_iterator",data:=.fields #[first,.int i 0,.ref S,.int n 0,.int ep 0]}
def w6(hh:A.handled=none)(k:∀(h':Heap)(e:Addr),(∀b o,h.get? b=some o->h'.get? b=some o)->(∃o,h'.get? e=some o/\o.cls=.type "StopIteration")->E (.ref e) {s with heap:=h'}):
  wpAny (model prog w) A (newExc (.type "StopIteration") []>>=λe=>(raiseNew e:Sem α)) Q E {s with heap:=h}:=by
 refine ae ?_;refine ae (bV ?_ (by size_fits));refine ae (B3 (by first|rfl|(simp only[firstArgMember];rfl)) ?_);refine bV ?_ (by size_fits);refine ae (wpAny_handled ?_);rw[hh];exact ae (af (wpAny_throw (k _ _ (λb o e=>ah _ (ah _ e)) {_,aB _ rfl,rfl})))
def tQ{h:Heap}(ho:h.get? a=some {cls:=cls,data:=.fields vs}):(h.update a (Obj.mapFields (·.setIfInBounds i x))).get? a=some {cls:=cls,data:=.fields (vs.setIfInBounds i x)}:=cj _ ho rfl
def aba(hh:A.handled=none){S I:Addr}(ne:S≠I)(hd:w.params.followText "set-order"=true\/(!t.plain&&decide (es.size>1))=false):
  WalksS prog w A I [I,S] [I] (λa b=>b=a) es.size (λi v=>((tU w S es ep).map (·.2))[i]?=some v) (λi s=>Sat w s.heap S es ep t/\s.heap.get? I=some (oq (.int (wx w t i) 0) i S es.size ep)) where
 sub:=λb hb=>au.mp hb▸ay
 grefl:=λ_=>rfl
 gtrans:=λ_ _ _ h1 h2=>h2.trans h1
 frame:=λi s h' tk st _ hk=>{st.1.keep λo e=>hk S (by simp) o e,hk I (by simp) _ st.2}
 item:=by
  intro i s Q E hi ⟨x,hI⟩ k;have hT:s.TypeIs (.ref I) "set_iterator":=⟨_,hI,rfl⟩;refine ae (dv (wpAny_callSpecial?_slot hT eT (ba eT hT mK ?_ (nZ _))));refine ae (ae (af (af ?_)));refine ae (fW hI rfl ?_);refine ae ?_;refine ae (x.state (af ?_));rw[ax (by simp)];simp only[cA];refine ae (Ld x (bI hi) hd ?_);have lo:i<(tU w S es ep).length:=by rw[(yr w S es ep).length_eq,aZ];exact hi
  rw[aq lo,eC];refine ae (d5 hI rfl (by simp) ?_);have hI1:=tQ (i:=0) (x:=rawInt (wx w t (i+1))) hI;refine ae (d5 hI1 rfl (by simp) ?_);refine af {_,rfl,af ?_};have xo:∀b o,b≠I->s.heap.get? b=some o->((s.heap.update I (Obj.mapFields (·.setIfInBounds 0 (rawInt (wx w t (i+1)))))).update I (Obj.mapFields (·.setIfInBounds 1 (rawInt ((i:Int)+1))))).get? b=some o:=λb o nb e=>(bD _ _ (bY nb)).trans ((bD _ _ (bY nb)).trans e);refine k _ _ (by rw[aI,aq lo];rfl) {x.keep λo e=>xo S o ne e,?_} {λb o hb e=>xo b o (λz=>hb (au.mpr z)) e,rfl,rfl,rfl,ao _};exact(tQ (i:=1) (x:=rawInt ((i:Int)+1)) hI1)
 done:=by intro s Q E ⟨x,hI⟩ k;have hT:s.TypeIs (.ref I) "set_iterator":=⟨_,hI,rfl⟩;refine ae (dv (wpAny_callSpecial?_slot hT eT (ba eT hT mK ?_ (nZ _))));refine ae (ae (af (af ?_)));refine ae (fW hI rfl ?_);refine ae ?_;refine ae (x.state (af ?_));rw[ax (by simp)];simp only[cA];refine ae (Ld x (ao _) hd ?_);have lo:=fM (by rw[(yr w S es ep).length_eq,aZ];exact ao _);rw[lo,Option.map_none];refine ae (d5 hI rfl (by simp) ?_);have xo:∀b o,b≠I->s.heap.get? b=some o->(s.heap.update I (Obj.mapFields (·.setIfInBounds 2 Value.none))).get? b=some o:=λb o nb e=>(bD _ _ (bY nb)).trans e;refine w6 (show A.in1.handled=none from hh) λh' e kp acY=>?_;obtain⟨o,ho,hc⟩:=acY;refine ae (fg ⟨o,ho,hc⟩ iF (af (k _ {λb o hb q=>kp b o (xo b o (λz=>hb (au.mpr z)) q),rfl,rfl,rfl,ao _})))
 self:=by intro i s Q E ⟨x,hI⟩ h;exact F9 ⟨_,hI,rfl⟩ h
def aa9(hh:A.handled=none){S I T:Addr}(ne:S≠I)(nT:T≠I){ps:List Nat}(hp:ps.Perm (List.range es.size)):
  WalksS prog w A I [I,S,T] [I] (λa b=>b=a) es.size (λi v=>((ps.filterMap (es[·]?)).map (·.2))[i]?=some v) (λi s=>Sat w s.heap S es ep t/\s.heap.get? I=some (oq (.ref T) i S es.size ep)/\s.heap.get? T=some {cls:=.type "tuple",data:=.seq (ps.map λ(i:Nat)=>rawInt i).toArray}) where
 sub:=λb hb=>au.mp hb▸ay
 grefl:=λ_=>rfl
 gtrans:=λ_ _ _ h1 h2=>h2.trans h1
 frame:=λi s h' tk st _ hk=>{st.1.keep λo e=>hk S (by simp) o e,hk I (by simp) _ st.2.1,hk T (by simp) _ st.2.2}
 item:=by
  intro i s Q E hi ⟨x,hI,Vr⟩ k;have hT:s.TypeIs (.ref I) "set_iterator":=⟨_,hI,rfl⟩;refine ae (dv (wpAny_callSpecial?_slot hT eT (ba eT hT mK ?_ (nZ _))));refine ae (ae (af (af ?_)));refine ae (fW hI rfl ?_);refine ae ?_;refine ae (x.state (af ?_));rw[ax (by simp)];simp only[cA];refine ae (bQ Vr rfl ?_);have lp:ps.length=es.size:=by rw[hp.length_eq,gf]
  have li:i<ps.length:=by lia
  have lpi:=dm.mp (hp.mem_iff.mp (jU li));have e1:((ps.map λ(i:Nat)=>rawInt i).toArray)[i]?=some (.int (ps[i]:Nat) 0):=by simp[li,rawInt]
  dsimp only;rw[e1];refine ae ?_;refine ae (x.state ?_);dsimp only;rw[ax (by simp)];simp only[cA];rw[bq lpi];refine af ?_;refine ae (d5 hI rfl (by simp) ?_);refine af {_,rfl,af ?_};have xo:∀b o,b≠I->s.heap.get? b=some o->(s.heap.update I (Obj.mapFields (·.setIfInBounds 1 (rawInt ((i:Int)+1))))).get? b=some o:=λb o nb e=>(bD _ _ (bY nb)).trans e;refine k _ _ ?_ {x.keep λo e=>xo S o ne e,(tQ (i:=1) (x:=rawInt ((i:Int)+1)) hI),xo T _ nT Vr} {λb o hb e=>xo b o (λz=>hb (au.mpr z)) e,rfl,rfl,rfl,ao _};have all:∀(l:List Nat),(∀p∈l,p<es.size)->∀j:Nat,(l.filterMap (es[·]?))[j]?=(l[j]?).bind (es[·]?):=by
   intro l
   induction l with
   |nil=>intro _ j;simp
   |cons p l ih=>
    intro hl j;have lp:=hl p ay;rw[gn,bq lp];cases j with
    |zero=>simp[lp]
    |succ j=>
     exact ih (λq hq=>hl q (az _ hq)) j
  rw[aI,all ps (λp hq=>dm.mp (hp.mem_iff.mp hq)) i,aq li];simp[lpi]
 done:=by
  intro s Q E ⟨x,hI,Vr⟩ k;have hT:s.TypeIs (.ref I) "set_iterator":=⟨_,hI,rfl⟩;refine ae (dv (wpAny_callSpecial?_slot hT eT (ba eT hT mK ?_ (nZ _))));refine ae (ae (af (af ?_)));refine ae (fW hI rfl ?_);refine ae ?_;refine ae (x.state (af ?_));rw[ax (by simp)];simp only[cA];refine ae (bQ Vr rfl ?_);have lp:ps.length=es.size:=by rw[hp.length_eq,gf]
  have e1:((ps.map λ(i:Nat)=>rawInt i).toArray)[es.size]?=none:=by simp[lp]
  dsimp only;rw[e1];refine ae (d5 hI rfl (by simp) ?_);refine ae (d5 (tQ (i:=0) (x:=rawInt 0) hI) rfl (by simp) ?_);have xo:∀b o,b≠I->s.heap.get? b=some o->((s.heap.update I (Obj.mapFields (·.setIfInBounds 0 (rawInt 0)))).update I (Obj.mapFields (·.setIfInBounds 2 Value.none))).get? b=some o:=λb o nb e=>(bD _ _ (bY nb)).trans ((bD _ _ (bY nb)).trans e);refine w6 (show A.in1.handled=none from hh) λh' e kp acX=>?_;obtain⟨o,ho,hc⟩:=acX;refine ae (fg ⟨o,ho,hc⟩ iF (af (k _ {λb o hb q=>kp b o (xo b o (λz=>hb (au.mpr z)) q),rfl,rfl,rfl,ao _})))
 self:=by intro i s Q E ⟨x,hI,_⟩ h;exact F9 ⟨_,hI,rfl⟩ h
def JJ(hT:s.TypeIs (.ref r) "set")(h:Q false s):wpAny (model prog w) A (Builtin.List.listLengthHint (.ref r)) Q E s:=by
 refine ae (gg hT Wh ?_);generalize hid:("set.__len__":String)=id0
 wp_delta
 subst hid;refine ae (fg (b:=true) hT (by rw[xx];kernel_rfl) ?_);refine mC (λQL=>absurd QL (by decide)) (λ_=>?_);refine mC (λ_=>?_) (λQL=>absurd (by decide+kernel) QL);exact ae (gu hT (af h))
def V1{S:Addr}(x:Sat w s.heap S es ep t)(hn:es.size<=100000)
  (h1:(w.params.followText "set-order"=true\/(!t.plain&&decide (es.size>1))=false)->Q (.ref s.heap.objs.size) {s with heap:=s.heap.push (oq (.int 0 0) 0 S es.size ep)})
  (h2:∀(ps:List Nat) d,ps.Perm (List.range es.size)->Q (.ref (s.heap.objs.size+1)) {s with heap:=(s.heap.push {cls:=.type "tuple",data:=.seq (ps.map λ(i:Nat)=>rawInt i).toArray}).push (oq (.ref s.heap.objs.size) 0 S es.size ep),drawn:=d}):
  wpAny (model prog w) A (pyIter (.ref S)) Q E s:=by
 obtain⟨o,ho,hex,hd⟩:=x.ob;have hT:s.TypeIs (.ref S) "set":={o,ho,hex.1};refine kG hT F.slot_set_iter (ba F.slot_set_iter hT Fy ?_ (F.args_set_iter_1 _));unfold Builtin.«frozenset.__iter__» Builtin.Frozenset.slot0 slotArgs;refine ae (ae (af (af ?_)));refine ae ?_;refine ae (ae (x.state (af (af ?_))));refine ae ?_;refine ae (x.state ?_);refine ae (zH ?_);refine af ?_;show wpAny (model prog w) _ (if(!w.params.followText "set-order"&&(!t.plain&&decide (es.size>1)))=true then _ else _) _ _ s;by_cases c:(!w.params.followText "set-order"&&(!t.plain&&decide (es.size>1)))=true
 ·rw[aA c];refine ae (Le es.size (List.range es.size) s (by simp) λps d hp=>?_);refine ae (bV ?_ (by show(ps.map _).toArray.size<=_;rw[aO,ak,hp.length_eq,gf,bU];lia));have x2:Sat w (s.heap.push {cls:=.type "tuple",data:=.seq (ps.map λ(i:Nat)=>rawInt i).toArray}) S es ep t:=x.keep λo e=>ah _ e;refine ae ?_;refine ae (Sat.state x2 (af ?_));refine ae (bV (af {_,rfl,"set_iterator",_,{_,aB _ rfl,rfl},eT.lookup,?_}));have:=h2 ps d hp;rw[cy];exact this
 ·rw[ax c];refine ae (af ?_);refine ae ?_;refine ae (x.state (af ?_));refine ae (bV (af {_,rfl,"set_iterator",_,{_,aB _ rfl,rfl},eT.lookup,h1 ?_}));cases q:w.params.followText "set-order"with
  |true=>exact .inl rfl
  |false=>
   rw[q]at c;exact .inr (ig.mpr c)
def LL(l:Aae)(acc:Aaj)(ha:ItemsOf (λi v=>l[i]?=some v) acc l.length):acc.toList=l:=by
 refine tK λi=>?_;by_cases c:i<l.length
 ·have ci:i<acc.size:=ha.1▸c;have:=ha.2 i acc[i] (bq ci);rw[this,bK,bq ci]
 ·rw[fM (by rw[aZ,ha.1];lia),fM ∅]
theorem O3{α:Type}:∀l:List α,(List.range l.length).filterMap (λi=>l[i]?)=l
 |[]=>rfl
 |x::l=>by rw[bu,wX,gn];show x::_=_;rw[sH];congr 1;exact O3 l
def N5{S L:Addr}(hh:A.handled=none)(x:Sat w s.heap S es ep t)(hn:es.size<=100000)(LS:L≠S)(hL:s.heap.get? L=some {cls:=.type "list",data:=.seq #[] c₀})
  (hR:∀h' tk d acc c,(∀b o,b≠L->s.heap.get? b=some o->h'.get? b=some o)->h'.get? L=some {cls:=.type "list",dict:=none,data:=.seq acc c,slots:=#[]}->acc.toList.Perm (es.toList.map (·.2))->R (.ok (.ret res)) {s with heap:=h',toks:=tk,drawn:=d}):
  wpAny (model prog w) A.in1 (Builtin.List.listExtendWith (.ref L) (.ref S) res)
   (λfin s'=>match fin with| .done f=>R (.ok f) s'| .again c'=>c'.quiet=true/\codeAny (model prog w) A c' R s') (λe s'=>R (.error e) s') s:=by
 obtain⟨o,ho,hex,hd⟩:=x.ob;have hS:=aD ho;have hLl:=aD hL;have key:∀(I:Addr)(fp:Aah)(P:Nat->Value->Prop)(St:Nat->Shared->Prop),WalksS prog w A.in1 I fp [I] (λa b=>b=a) es.size P St->s.heap.objs.size<=I->L∉fp->(∀acc:Aaj,ItemsOf P acc es.size->acc.toList.Perm (es.toList.map (·.2)))->
   ∀(h:Heap)(d:Drawn)(c₁ tk:Nat),(∀b o,b≠L->s.heap.get? b=some o->h.get? b=some o)->h.get? L=some {cls:=.type "list",data:=.seq #[] c₁}->St 0 {s with heap:=h,toks:=tk,drawn:=d}->
   codeAny (model prog w) A (.builtin "list.extend.loop" {[.ref L,.ref I,res],[]}) R {s with heap:=h,toks:=tk,drawn:=d}:=by
  intro I fp P St W hI nf hP h d c₁ tk hk abW st;refine codeAny_extend_loopS W (by rw[bU];lia) _ nf _ es.size 0 _ _ _ rfl (aR _) st abW (ItemsOf.nil P) λs' sT c' hm QN JQ=>?_;obtain⟨h',g',d',HC,UE⟩:=s';have eg:=hm.gens;have ed:d'=d:=hm.drawn;have eo:=hm.os;subst eg ed eo;refine hR h' HC d' sT c' (λb o hb e=>hm.heap b o ?_ (hk b o hb e)) QN (hP sT JQ);have lt:=aD e;intro q;rcases aF.mp q with q|q
  ·exact hb q
  ·rw[au.mp q]at lt;exact absurd (aV lt hI) (dy _)
 have tail:∀(I:Addr)(fp:Aah)(P:Nat->Value->Prop)(St:Nat->Shared->Prop),WalksS prog w A.in1 I fp [I] (λa b=>b=a) es.size P St->s.heap.objs.size<=I->L∉fp->(∀acc:Aaj,ItemsOf P acc es.size->acc.toList.Perm (es.toList.map (·.2)))->
   ∀(h:Heap)(d:Drawn),(∀b o,s.heap.get? b=some o->h.get? b=some o)->St 0 {s with heap:=h,drawn:=d}->
   wpAny (model prog w) A.in1 (Builtin.List.listTouch (.ref L)>>=λ_=>again (.builtin "list.extend.loop" {[.ref L,.ref I,res],[]})) (λfin s'=>match fin with| .done f=>R (.ok f) s'| .again c'=>c'.quiet=true/\codeAny (model prog w) A c' R s') (λe s'=>R (.error e) s') {s with heap:=h,drawn:=d}:=by
  intro I fp P St W hI nf hP h d hk st;refine ae ?_;have Vt:=hk _ _ hL;refine ae (km Vt rfl ?_);have Vs:=cj (Obj.mapSeq (·.push Value.none)) Vt rfl;refine km Vs rfl ?_;have abV:=cj (Obj.mapSeq (·.pop)) Vs rfl;have xo:∀b o,b≠L->h.get? b=some o->((h.update L (Obj.mapSeq (·.push Value.none))).update L (Obj.mapSeq (·.pop))).get? b=some o:=
   λb o hb e=>(bD _ _ (bY hb)).trans ((bD _ _ (bY hb)).trans e)
  exact af {ik qT _,key I fp P St W hI nf hP _ d _ s.toks (λb o hb e=>xo b o hb (hk b o e)) abV (W.frame 0 {s with heap:=h,drawn:=d} _ s.toks st (ao _) λb hb o e=>xo b o (λz=>nf (z▸hb)) e)}
 have e1:Builtin.List.listSameRef (.ref L) (.ref S)=false:=by simp[Builtin.List.listSameRef,LS]
 have e2:(Value.type "set"==Value.type "list")=false:=by decide
 have e3:(Value.type "set"==Value.type "tuple")=false:=by decide
 refine ae (gu ({o,ho,hex.1}) ?_);simp only[e1,e2,e3,zu,bE,cN];refine ae (V1 x hn (λhc=>?_) λps d hp=>?_)
 ·have W:=aba (prog:=prog) (A:=A.in1) (ep:=ep) (by simpa using hh) (aG hS) hc;have nf:L∉[s.heap.objs.size,S]:=λhb=>by
   rcases aF.mp hb with q|q
   ·exact absurd q (aG hLl)
   ·exact LS (au.mp q)
  have hP:∀acc:Aaj,ItemsOf (λi v=>((tU w S es ep).map (·.2))[i]?=some v) acc es.size->acc.toList.Perm (es.toList.map (·.2)):=λacc ha=>by
   have lo:((tU w S es ep).map (·.2)).length=es.size:=by rw[ak,(yr w S es ep).length_eq,aZ]
   rw[<-lo]at ha;rw[LL _ acc ha];exact(yr w S es ep).map _
  have kp:∀b o,s.heap.get? b=some o->(s.heap.push (oq (.int 0 0) 0 S es.size ep)).get? b=some o:=λb o e=>ah _ e;have st:Sat w (s.heap.push (oq (.int 0 0) 0 S es.size ep)) S es ep t/\(s.heap.push (oq (.int 0 0) 0 S es.size ep)).get? s.heap.objs.size=some (oq (.int (wx w t 0) 0) 0 S es.size ep):={x.keep λo e=>kp _ _ e,aB _ rfl};refine ae (bL (JJ {o,kp _ _ ho,hex.1} ?_));exact mC (λ_=>ae (gz (tail _ _ _ _ W (ao _) nf hP _ s.drawn kp st))) (λ_=>af {ik qT _,key _ _ _ _ W (ao _) nf hP _ s.drawn c₀ s.toks (λb o _ e=>kp b o e) (kp _ _ hL) st})
 ·have nT:s.heap.objs.size≠s.heap.objs.size+1:=aG (dw _);have W:=aa9 (prog:=prog) (w:=w) (A:=A.in1) (ep:=ep) (t:=t) (by simpa using hh) (aG (dD hS)) nT hp;have nf:L∉[s.heap.objs.size+1,S,s.heap.objs.size]:=λhb=>by
   rcases aF.mp hb with q|q
   ·exact absurd q (aG (dD hLl))
   ·rcases aF.mp q with q|q
    ·exact LS q
    ·exact absurd (au.mp q) (aG hLl)
  have hP:∀acc:Aaj,ItemsOf (λi v=>((ps.filterMap (es[·]?)).map (·.2))[i]?=some v) acc es.size->acc.toList.Perm (es.toList.map (·.2)):=λacc ha=>by
   have hl:(ps.filterMap (es[·]?)).Perm es.toList:=by
    have:=hp.filterMap (es.toList[·]?);rw[<-aZ]at this;have e4:(ps.filterMap (es[·]?))=ps.filterMap (es.toList[·]?):=by simp
    rw[e4];rwa [O3]at this
   have lo:((ps.filterMap (es[·]?)).map (·.2)).length=es.size:=by rw[ak,hl.length_eq,aZ]
   rw[<-lo]at ha;rw[LL _ acc ha];exact hl.map _
  generalize EB:(s.heap.push {cls:=.type "tuple",data:=.seq (ps.map λ(i:Nat)=>rawInt i).toArray}).push (oq (.ref s.heap.objs.size) 0 S es.size ep)=lW;have kp:∀b o,s.heap.get? b=some o->lW.get? b=some o:=λb o e=>by rw[<-EB];exact ah _ (ah _ e)
  have gI:lW.get? (s.heap.objs.size+1)=some (oq (.ref s.heap.objs.size) 0 S es.size ep):=by have:=aB (s.heap.push {cls:=.type "tuple",data:=.seq (ps.map λ(i:Nat)=>rawInt i).toArray}) (o:=oq (.ref s.heap.objs.size) 0 S es.size ep) rfl;rw[cy]at this;rw[<-EB];exact this
  have st:Sat w lW S es ep t/\lW.get? (s.heap.objs.size+1)=some (oq (.ref s.heap.objs.size) 0 S es.size ep)/\lW.get? s.heap.objs.size=some {cls:=.type "tuple",data:=.seq (ps.map λ(i:Nat)=>rawInt i).toArray}:={x.keep λo e=>kp _ _ e,gI,(by rw[<-EB];exact ah _ (aB _ rfl))};refine ae (bL (JJ {o,kp _ _ ho,hex.1} ?_));exact mC (λ_=>ae (gz (tail _ _ _ _ W (iM _) nf hP lW d kp st))) (λ_=>af {ik qT _,key _ _ _ _ W (iM _) nf hP lW d c₀ s.toks (λb o _ e=>kp b o e) (kp _ _ hL) st})
def CC{S:Addr}(hh:A.handled=none)(x:Sat w s.heap S es ep t)(hn:es.size<=100000)
  (h:∀h' tk d vs,vs.Perm (es.toList.map (·.2))->(∀b o,s.heap.get? b=some o->h'.get? b=some o)->R vs {s with heap:=h',toks:=tk,drawn:=d}):wpAny (model prog w) A (collect (.ref S)) R E s:=by
 obtain⟨o,ho,hex,hd⟩:=x.ob;refine ae (wpAny_runValue (eA F.entry_proto_collect ?_));refine ae (bV ?_);refine af {ik F.plain_list_iadd _,eA F.entry_list_iadd ?_};have k1:∀b o,s.heap.get? b=some o->(s.heap.push {cls:=.type "list",data:=.seq ([]:Aae).toArray}).get? b=some o:=λb o e=>ah _ e;have hL:(s.heap.push {cls:=.type "list",data:=.seq ([]:Aae).toArray}).get? s.heap.objs.size=some {cls:=.type "list",data:=.seq #[]}:=aB _ rfl;have key:=N5 (prog:=prog) (s:={s with heap:=s.heap.push {cls:=.type "list",data:=.seq ([]:Aae).toArray}})
  (R:=λ(q:Result)(s':Shared)=>∃(h':Heap)(tk:Nat)(d:Drawn)(sT:Aaj)(c':Nat),q=.ok (.ret (.ref s.heap.objs.size))/\s'={s with heap:=h',toks:=tk,drawn:=d}/\
   (∀b o,s.heap.get? b=some o->h'.get? b=some o)/\h'.get? s.heap.objs.size=some {cls:=.type "list",dict:=none,data:=.seq sT c',slots:=#[]}/\sT.toList.Perm (es.toList.map (·.2)))
  hh (x.keep λo e=>k1 _ _ e) hn (bx (aD ho)) hL λh' tk d acc c kp g pm=>{h',tk,d,acc,c,rfl,rfl,λb o e=>kp b o (aG (aD e)) (k1 _ _ e),g,pm}
 refine df key (λfin s' x=>?_) λe s' x=>?_
 ·cases fin with
  |done f=>
   obtain⟨h',tk,d,sT,c',e,rfl,hk,QN,pm⟩:=x;cases e;exact ae (DO QN (af (h h' tk d sT.toList pm hk)))
  |again c₁=>
   refine{x.1,kU x.2 λq aae y=>?_};obtain⟨h',tk,d,sT,c',rfl,rfl,hk,QN,pm⟩:=y;exact ae (DO QN (af (h h' tk d sT.toList pm hk)))
 ·obtain⟨_,_,_,_,_,e',_⟩:=x;cases e'
end
end Tb
namespace f6
open PySem PySem.W PyProof.Rows
def ev{α:Type}(lt:Nat->Nat->Bool):KasT α->α
 | .ret a=>a
 | .ask i j k=>ev lt (k (lt i j))
theorem uk{α β:Type}{lt:Nat->Nat->Bool}{f:α->KasT β}:∀t:KasT α,ev lt (t.bind f)=ev lt (f (ev lt t))
 | .ret _=>rfl
 | .ask i j k=>uk (k (lt i j))
section
variable{rk:Nat->Nat}
abbrev gC(rk:Nat->Nat)(i j:Nat):Bool:=decide (rk i<rk j)
abbrev gK(rk:Nat->Nat)(p:Array Nat)(k:Nat):Nat:=rk (p.getD k 0)
def uY{p q:Array Nat}{i j:Nat}(h:p[i]?=q[j]?):gK rk p i=gK rk q j:=by unfold gK;rw[sL,sL,h]
def QP{p:Array Nat}{src d:Nat}(hs:src<p.size)(hd:d<=src)(k:Nat):gK rk (bubble p src d) k=if k=src -d then gK rk p src else if src -d<k/\k<=src then gK rk p (k -1)else gK rk p k:=by
 have e:=getElem?_bubble hs d hd k;by_cases h1:k=src -d
 ·rw[aA h1]at e⊢;exact uY e
 ·rw[ax h1]at e⊢;by_cases h2:src -d<k/\k<=src
  ·rw[aA h2]at e⊢;exact uY e
  ·rw[ax h2]at e⊢;exact uY e
def JU{p:Array Nat}{i j:Nat}(hj:j<=p.size)(k:Nat):gK rk (kas_rev p i j) k=if i<=k/\k<j then gK rk p (i+j -1 -k)else gK rk p k:=by
 have e:=getElem?_mirror_all (i:=i) hj k;by_cases h1:i<=k/\k<j
 ·rw[aA h1]at e⊢;exact uY e
 ·rw[ax h1]at e⊢;exact uY e
def CZ(p:Array Nat)(i j:Nat):(kas_rev p i j).size=p.size:=mirror_size _ _ _ _
def lF(p:Array Nat)(i j:Nat):(kas_rev p i j).Perm p:=mirror_perm _ _ _ _
def Up(rk:Nat->Nat)(p:Array Nat)(n:Nat):Prop:=∀i j,i<=j->j<n->gK rk p i<=gK rk p j
def Dn(rk:Nat->Nat)(p:Array Nat)(n:Nat):Prop:=∀i j,i<=j->j<n->gK rk p j<=gK rk p i
def Up.more{p:Array Nat}{n:Nat}(h:Up rk p n)(h1:1<=n)(hn:gK rk p (n -1)<=gK rk p n):Up rk p (n+1):=λi j xE hj=>by
 by_cases e:j=n
 ·subst e;by_cases e2:i=j
  ·rw[e2];exact ao _
  ·exact aL (h i (j -1) ∅ ∅) hn
 ·exact h i j xE ∅
def Dn.more{p:Array Nat}{n:Nat}(h:Dn rk p n)(h1:1<=n)(hn:gK rk p n<=gK rk p (n -1)):Dn rk p (n+1):=λi j xE hj=>by
 by_cases e:j=n
 ·subst e;by_cases e2:i=j
  ·rw[e2];exact ao _
  ·exact aL hn (h i (j -1) ∅ ∅)
 ·exact h i j xE ∅
theorem JX{p:Array Nat}:∀(f n:Nat),1<=n->Up rk p n->n<=ev (gC rk) (kas_asc p f n)/\ev (gC rk) (kas_asc p f n)<=n+f/\Up rk p (ev (gC rk) (kas_asc p f n))/\(ev (gC rk) (kas_asc p f n)=n+f\/gK rk p (ev (gC rk) (kas_asc p f n))<gK rk p (ev (gC rk) (kas_asc p f n) -1))
 |0,n,_,hu=>{ao _,ao _,hu,.inl rfl}
 |f+1,n,h1,hu=>by
  show n<=ev (gC rk) (if gC rk (p.getD n 0) (p.getD (n -1) 0)=true then KasT.ret n else kas_asc p f (n+1))/\ev (gC rk) (if gC rk (p.getD n 0) (p.getD (n -1) 0)=true then KasT.ret n else kas_asc p f (n+1))<=n+(f+1)/\Up rk p (ev (gC rk) (if gC rk (p.getD n 0) (p.getD (n -1) 0)=true then KasT.ret n else kas_asc p f (n+1)))/\(ev (gC rk) (if gC rk (p.getD n 0) (p.getD (n -1) 0)=true then KasT.ret n else kas_asc p f (n+1))=n+(f+1)\/gK rk p (ev (gC rk) (if gC rk (p.getD n 0) (p.getD (n -1) 0)=true then KasT.ret n else kas_asc p f (n+1)))<gK rk p (ev (gC rk) (if gC rk (p.getD n 0) (p.getD (n -1) 0)=true then KasT.ret n else kas_asc p f (n+1)) -1));by_cases c:gC rk (p.getD n 0) (p.getD (n -1) 0)=true
  ·rw[aA c];exact{ao _,dM _ _,hu,.inr (aW c)}
  ·rw[ax c];obtain⟨a1,a2,a3,a4⟩:=JX f (n+1) ∅ (hu.more h1 (jQ λh=>c (aX h)));exact{by lia,by lia,a3,a4.imp (λe=>by lia) id}
structure aa8(rk:Nat->Nat)(p:Array Nat)(n q:Nat):Prop where
 dn:Dn rk p n
 q1:q+1<=n
 eq:∀k,n -(q+1)<=k->k<n->gK rk p k=gK rk p (n -1)
def Ae{p:Array Nat}{i j:Nat}(hj:j<=p.size)(he:∀k,i<=k->k<j->gK rk p k=gK rk p (j -1))(k:Nat):gK rk (kas_rev p i j) k=gK rk p k:=by
 rw[JU hj];split
 ·rw[he _ ∅ ∅,he k ∅ ∅]
 ·rfl
def Dn.of{p p':Array Nat}{n:Nat}(h:Dn rk p n)(e:∀k,gK rk p' k=gK rk p k):Dn rk p' n:=λi j xE hj=>by rw[e,e];exact h i j xE hj
theorem BC:∀(f:Nat)(p:Array Nat)(n q:Nat),n+f<=p.size->aa8 rk p n q->∃p' m q',ev (gC rk) (kas_desc f p n q)=(p',m,q')/\p'.Perm p/\n<=m/\m<=n+f/\aa8 rk p' m q'
 |0,p,n,q,_,hf=>{p,n,q,rfl,.refl _,ao _,ao _,hf}
 |f+1,p,n,q,hs,hf=>by
  have q1:=hf.q1;show∃p' m q',ev (gC rk) (if gC rk (p.getD n 0) (p.getD (n -1) 0)=true then(if q>0 then kas_desc f (kas_rev p (n -(q+1)) n) (n+1) 0 else kas_desc f p (n+1) 0)else .ask (p.getD (n -1) 0) (p.getD n 0) λd=>if d=true then .ret (p,n,q)else kas_desc f p (n+1) (q+1))=(p',m,q')/\_;by_cases c:gC rk (p.getD n 0) (p.getD (n -1) 0)=true
  ·rw[aA c];have c':gK rk p n<gK rk p (n -1):=aW c;by_cases hq:q>0
   ·rw[aA hq];have al:=Ae ∅ hf.eq;obtain⟨p',m,q',e,hp,h1,h2,h3⟩:=BC f (kas_rev p (n -(q+1)) n) (n+1) 0 (by rw[CZ];lia) {(hf.dn.of al).more ∅ (by rw[al,al];lia),by lia,λk hk1 Ez=>by rw[show k=n by lia];rfl};exact{p',m,q',e,hp.trans (lF _ _ _),by lia,by lia,h3}
   ·rw[ax hq];obtain⟨p',m,q',e,hp,h1,h2,h3⟩:=BC f p (n+1) 0 ∅ {hf.dn.more ∅ ∅,by lia,λk hk1 Ez=>by rw[show k=n by lia];rfl};exact{p',m,q',e,hp,by lia,by lia,h3}
  ·rw[ax c];have c':gK rk p (n -1)<=gK rk p n:=jQ λh=>c (aX h);show∃p' m q',ev (gC rk) (if gC rk (p.getD (n -1) 0) (p.getD n 0)=true then .ret (p,n,q)else kas_desc f p (n+1) (q+1))=(p',m,q')/\_;by_cases d:gC rk (p.getD (n -1) 0) (p.getD n 0)=true
   ·rw[aA d];exact{p,n,q,rfl,.refl _,ao _,dM _ _,hf}
   ·rw[ax d];have d':gK rk p n<=gK rk p (n -1):=jQ λh=>d (aX h);obtain⟨p',m,q',e,hp,h1,h2,h3⟩:=BC f p (n+1) (q+1) ∅ {hf.dn.more ∅ d',by lia,λk hk1 Ez=>by
     show gK rk p k=gK rk p n;by_cases ek:k=n
     ·rw[ek]
     ·rw[hf.eq k ∅ ∅];lia}
    exact{p',m,q',e,hp,by lia,by lia,h3}
def Mt{p:Array Nat}{n N:Nat}(h1:1<=n)(hn:n<=N)(hN:N<=p.size)(hd:Dn rk p n):∃m p',ev (gC rk) (kas_tail3 n N p)=(m,p')/\p'.Perm p/\1<=m/\m<=N/\Up rk p' m:=by
 unfold kas_tail3;rw[uk];have hu:Up rk (kas_rev p 0 n) n:=λi j xE hj=>by rw[JU ∅,JU ∅,aA ∅,aA ∅];exact hd _ _ ∅ ∅
 obtain⟨a1,a2,a3,_⟩:=JX (N -n) n h1 hu;exact{_,_,rfl,lF _ _ _,by lia,by lia,a3}
def Cz{p:Array Nat}{n N:Nat}(h1:1<=n)(hn:n<N)(hN:N<=p.size)(hd:Dn rk p (n+1)):∃m p',ev (gC rk) (kas_descPart n N p)=(m,p')/\p'.Perm p/\1<=m/\m<=N/\Up rk p' m:=by
 unfold kas_descPart;rw[uk];obtain⟨p',m,q',e,hp,a1,a2,hf⟩:=BC (N -(n+1)) p (n+1) 0 ∅ {hd,by lia,λk hk1 Ez=>by rw[show k=n by lia];rfl};rw[e];have sz:=hp.size_eq;by_cases hq:q'>0
 ·rw[aA hq];have al:=Ae ∅ hf.eq;obtain⟨m1,p1,e1,vZ,b1,b2,b3⟩:=Mt (N:=N) ∅ ∅ (by rw[CZ];lia) (hf.dn.of al);exact{m1,p1,e1,(vZ.trans (lF _ _ _)).trans hp,b1,b2,b3}
 ·rw[ax hq];obtain⟨m1,p1,e1,vZ,b1,b2,b3⟩:=Mt (N:=N) ∅ ∅ ∅ hf.dn;exact{m1,p1,e1,vZ.trans hp,b1,b2,b3}
def TH{p:Array Nat}{N:Nat}(h1:1<=N)(hN:N<=p.size):∃m p',ev (gC rk) (kas_count N p)=(m,p')/\p'.Perm p/\1<=m/\m<=N/\Up rk p' m:=by
 unfold kas_count;rw[uk];obtain⟨a1,a2,a3,a4⟩:=JX (rk:=rk) (p:=p) (N -1) 1 (ao _) (λi j xE hj=>by rw[show i=j by lia];exact ao _);generalize ev (gC rk) (kas_asc p (N -1) 1)=n at a1 a2 a3 a4;by_cases hnn:n=N
 ·rw[aA (by simpa using hnn)];exact{n,p,rfl,.refl _,by lia,by lia,a3}
 ·rw[ax (by simpa using hnn)];have cw:gK rk p n<gK rk p (n -1):=a4.resolve_left ∅;by_cases hgt:n>1
  ·rw[aA hgt];show∃m p',ev (gC rk) (if gC rk (p.getD 0 0) (p.getD (n -1) 0)=true then .ret (n,p)else kas_descPart n N (kas_rev p 0 n))=(m,p')/\_;by_cases c:gC rk (p.getD 0 0) (p.getD (n -1) 0)=true
   ·rw[aA c];exact{n,p,rfl,.refl _,by lia,by lia,a3}
   ·rw[ax c];have c':gK rk p (n -1)<=gK rk p 0:=jQ λh=>c (aX h);have mw:∀k,0<=k->k<n->gK rk p k=gK rk p (n -1):=λk _ hk=>by have b1:=a3 0 k ∅ hk;have b2:=a3 k (n -1) ∅ ∅;lia
    have al:=Ae (rk:=rk) (p:=p) (i:=0) (j:=n) ∅ mw;obtain⟨m1,p1,e1,vZ,b1,b2,b3⟩:=Cz (rk:=rk) (p:=kas_rev p 0 n) (n:=n) (N:=N) ∅ ∅ (by rw[CZ];lia) (λi j xE hj=>by
     rw[al,al];by_cases hjn:j=n
     ·by_cases hin:i=n
      ·rw[hin,hjn];exact ao _
      ·rw[hjn,mw i ∅ ∅];lia
     ·rw[mw i ∅ ∅,mw j ∅ ∅];exact ao _)
    exact{m1,p1,e1,vZ.trans (lF _ _ _),b1,b2,b3}
  ·rw[ax hgt];have e1:n=1:=by lia
   subst e1;have cw:gK rk p 1<gK rk p 0:=cw;exact Cz ∅ ∅ hN λi j xE hj=>by
    by_cases e:i=j
    ·rw[e];exact ao _
    ·rw[show i=0 by lia,show j=1 by lia];lia
theorem Du{p:Array Nat}{k:Nat}(hu:Up rk p k):∀(f l r:Nat),l<=r->r<=k->r -l<=f->(∀i,i<l->gK rk p i<=gK rk p k)->(∀i,r<=i->i<k->gK rk p k<=gK rk p i)->∃x,ev (gC rk) (kas_place p k f l r)=x/\x<=k/\(∀i,i<x->gK rk p i<=gK rk p k)/\∀i,x<=i->i<k->gK rk p k<=gK rk p i
 |0,l,r,h1,h2,h3,h4,h5=>{l,rfl,by lia,h4,λi a b=>h5 i ∅ b}
 |f+1,l,r,h1,h2,h3,h4,h5=>by
  show∃x,ev (gC rk) (if l≥r then KasT.ret l else .ask (p.getD k 0) (p.getD ((l+r)/2) 0) λc=>if c=true then kas_place p k f l ((l+r)/2)else kas_place p k f ((l+r)/2+1) r)=x/\_;by_cases c:l≥r
  ·rw[aA c];exact{l,rfl,by lia,h4,λi a b=>h5 i ∅ b}
  ·rw[ax c];show∃x,ev (gC rk) (if gC rk (p.getD k 0) (p.getD ((l+r)/2) 0)=true then kas_place p k f l ((l+r)/2)else kas_place p k f ((l+r)/2+1) r)=x/\_;by_cases d:gC rk (p.getD k 0) (p.getD ((l+r)/2) 0)=true
   ·rw[aA d];exact Du hu f l ((l+r)/2) ∅ ∅ ∅ h4 λi a b=>aL (bI (aW d)) (hu _ i a b)
   ·rw[ax d];exact Du hu f ((l+r)/2+1) r ∅ h2 ∅ (λi hi=>aL (hu i ((l+r)/2) ∅ ∅) (jQ λh=>d (aX h))) h5
theorem QX:∀(f:Nat)(p:Array Nat)(k:Nat),k+f<=p.size->Up rk p k->∃p',ev (gC rk) (kas_bin f p k)=p'/\p'.Perm p/\Up rk p' (k+f)
 |0,p,k,_,hu=>{p,rfl,.refl _,hu}
 |f+1,p,k,hs,hu=>by
  show∃p',ev (gC rk) ((kas_place p k k 0 k).bind λl=>kas_bin f (bubble p k (k -l)) (k+1))=p'/\_;rw[uk];obtain⟨x,e,hx,h1,h2⟩:=Du hu k 0 k (aR _) (ao _) ∅ (λi hi=>absurd hi (hG _)) λi a b=>by lia
  rw[e];have hb:=λj=>QP (rk:=rk) (p:=p) (src:=k) (d:=k -x) ∅ ∅ j;rw[show k -(k -x)=x by lia]at hb;have sg:Up rk (bubble p k (k -x)) (k+1):=λi j xE hj=>by
   rw[hb,hb];by_cases c1:i=x
   ·rw[aA c1];by_cases c2:j=x
    ·rw[aA c2];exact ao _
    ·rw[ax c2,aA ∅];exact h2 (j -1) ∅ ∅
   ·rw[ax c1];by_cases c3:x<i/\i<=k
    ·rw[aA c3,ax ∅,aA ∅];exact hu _ _ ∅ ∅
    ·rw[ax c3];by_cases c2:j=x
     ·rw[aA c2];exact h1 i ∅
     ·rw[ax c2];by_cases c4:x<j/\j<=k
      ·rw[aA c4];exact hu _ _ ∅ ∅
      ·rw[ax c4];exact hu _ _ xE ∅
  obtain⟨p',e',hp,AH⟩:=QX f (bubble p k (k -x)) (k+1) (by rw[bubble_size];lia) sg;exact{p',e',hp.trans (bubble_perm _ _ _),by rw[show k+(f+1)=k+1+f by lia];exact AH}
def Xh{n:Nat}(h1:1<=n):∃p,ev (gC rk) (kas_sort n)=p/\p.toList.Perm (List.range n)/\Up rk p n:=by
 unfold kas_sort;rw[uk];have sz:(List.toArray (List.range n)).size=n:=by simp
 obtain⟨m,p,e,hp,b1,b2,hu⟩:=TH (p:=List.toArray (List.range n)) h1 ∅;rw[e];have sp:p.size=n:=by rw[hp.size_eq,sz]
 have hl:p.toList.Perm (List.range n):=by have:=sW.mp hp;simpa using this
 by_cases c:m<n
 ·rw[aA c,show max m 1=m by lia];obtain⟨p',e',hp',sg⟩:=QX (n -m) p m ∅ hu;exact{p',e',(sW.mp hp').trans hl,by rw[show n=m+(n -m) by lia];exact sg}
 ·rw[ax c];exact{p,rfl,hl,by rw[show n=m by lia];exact hu}
def oN{α:Type}(n:Nat)(P:α->Prop):KasT α->Prop
 | .ret a=>P a
 | .ask i j k=>i<n/\j<n/\∀b,oN n P (k b)
theorem oN.bind{α β:Type}{n:Nat}{P:α->Prop}{R:β->Prop}{f:α->KasT β}:∀{t:KasT α},oN n P t->(∀a,P a->oN n R (f a))->oN n R (t.bind f)
 | .ret a,h,k=>k a h
 | .ask i j g,h,k=>{h.1,h.2.1,λb=>oN.bind (h.2.2 b) k}
theorem QW{α:Type}{n:Nat}{P:α->Prop}{lt:Nat->Nat->Bool}{cmp:Nat->Nat->(Bool->Shared->Prop)->Shared->Prop}{J:Shared->Prop}{Q:α->Shared->Prop}(hc:∀i j C s,i<n->j<n->J s->(∀s',J s'->C (lt i j) s')->cmp i j C s):∀(t:KasT α)(s:Shared),oN n P t->J s->(∀s',J s'->Q (ev lt t) s')->t.kasWp cmp Q s
 | .ret _,s,_,hj,h=>h s hj
 | .ask i j k,s,a,hj,h=>hc i j _ s a.1 a.2.1 hj λs' JI=>QW hc (k (lt i j)) s' (a.2.2 _) JI h
def Bd(n:Nat)(p:Array Nat):Prop:=∀x∈p,x<n
def Bd.getD{n:Nat}{p:Array Nat}(h:Bd n p)(h0:0<n)(k:Nat):p.getD k 0<n:=by
 by_cases c:k<p.size
 ·have e:p.getD k 0=p[k]:=by simp[Array.getD,c]
  rw[e];exact h _ (Array.getElem_mem c)
 ·have e:p.getD k 0=0:=by simp[Array.getD,c]
  rw[e];exact h0
def Bd.perm{n:Nat}{p q:Array Nat}(h:Bd n p)(hp:q.Perm p):Bd n q:=λx hx=>h x (hp.mem_iff.mp hx)
end
section
variable{n:Nat}(h0:0<n)
include h0
theorem DI{p:Array Nat}(hb:Bd n p):∀f m,oN n (λ_=>True) (kas_asc p f m)
 |0,m=>trivial
 |f+1,m=>{hb.getD h0 _,hb.getD h0 _,λb=>by
  cases b with
  |true=>exact trivial
  |false=>exact DI hb f (m+1)}
theorem we:∀(f:Nat)(p:Array Nat)(m q:Nat),Bd n p->oN n (λr:Array Nat×Nat×Nat=>Bd n r.1) (kas_desc f p m q)
 |0,p,m,q,hb=>hb
 |f+1,p,m,q,hb=>{hb.getD h0 _,hb.getD h0 _,λb=>by
  cases b with
  |true=>
   show oN n _ (if q>0 then kas_desc f (kas_rev p (m -(q+1)) m) (m+1) 0 else kas_desc f p (m+1) 0);split
   ·exact we f _ _ _ (hb.perm (lF _ _ _))
   ·exact we f _ _ _ hb
  |false=>
   refine{hb.getD h0 _,hb.getD h0 _,λd=>?_};cases d with
   |true=>exact hb
   |false=>exact we f p (m+1) (q+1) hb}
def G1{p:Array Nat}(hb:Bd n p)(m N:Nat):oN n (λr:Nat×Array Nat=>Bd n r.2) (kas_tail3 m N p):=
 (DI h0 (hb.perm (lF _ _ _)) _ _).bind λ_ _=>hb.perm (lF _ _ _)
def zo{p:Array Nat}(hb:Bd n p)(m N:Nat):oN n (λr:Nat×Array Nat=>Bd n r.2) (kas_descPart m N p):=
 (we h0 _ _ _ _ hb).bind λr hr=>by
  split
  ·exact G1 h0 (hr.perm (lF _ _ _)) _ _
  ·exact G1 h0 hr _ _
def Oi{p:Array Nat}(hb:Bd n p)(N:Nat):oN n (λr:Nat×Array Nat=>Bd n r.2) (kas_count N p):=
 (DI h0 hb _ _).bind λm _=>by
  split
  ·exact hb
  ·split
   ·refine{hb.getD h0 _,hb.getD h0 _,λb=>?_};cases b with
    |true=>exact hb
    |false=>exact zo h0 (hb.perm (lF _ _ _)) _ _
   ·exact zo h0 hb _ _
theorem yO{p:Array Nat}(hb:Bd n p)(k:Nat):∀f l r,oN n (λ_=>True) (kas_place p k f l r)
 |0,l,r=>trivial
 |f+1,l,r=>by
  unfold kas_place;split
  ·exact trivial
  ·refine{hb.getD h0 _,hb.getD h0 _,λb=>?_};cases b with
   |true=>exact yO hb k f _ _
   |false=>exact yO hb k f _ _
theorem Ki:∀(f:Nat)(p:Array Nat)(k:Nat),Bd n p->oN n (Bd n) (kas_bin f p k)
 |0,p,k,hb=>hb
 |f+1,p,k,hb=>(yO h0 hb k _ _ _).bind λl _=>Ki f _ _ (hb.perm (bubble_perm _ _ _))
def Rt:oN n (Bd n) (kas_sort n):=
 (Oi h0 (p:=List.toArray (List.range n)) (λx hx=>by simpa using hx) n).bind λr hr=>by
  split
  ·exact Ki h0 _ _ _ hr
  ·exact hr
end
end f6
namespace f6
open PySem PySem.W PyProof.Rows PySem.Calls
section
variable{prog:Program}{w:World}{A:Around}{E:Aac}{s:Shared}{vs:Aae}
def Tk(s s':Shared):Prop:=∃t,s'={s with toks:=t}
def Tk.refl(s:Shared):Tk s s:={s.toks,rfl}
abbrev kS(h:Heap)(a:Addr)(vs:Aae):Heap:=((h.update a (Obj.mapSeq λ_=>(#[]:Aaj))).push (seqObj "tuple" vs.toArray 0)).push (seqObj "list" #[] 0)
def MW{a:Addr}{n:Nat}{P:PySem.Fin->Shared->Prop}{κ:SortKind}{rk:Nat->Nat}(ho:s.heap.get? a=some (seqObj "list" vs.toArray n))(h2:2<=vs.length)(su:vs.length<64)
  (hk:∀s',Tk {s with heap:=kS s.heap a vs} s'->wpAny (model prog w) A (keyKind' vs.toArray) (λk s2=>k=κ/\Tk {s with heap:=kS s.heap a vs} s2) (λ_ _=>False) s')
  (hc:∀i j C s',i<vs.length->j<vs.length->Tk {s with heap:=kS s.heap a vs} s'->(∀s2,Tk {s with heap:=kS s.heap a vs} s2->C (gC rk i j) s2)->kas_ask prog w A κ vs i j C s')
  (k:∀(p:Array Nat)(h':Heap)(tk c:Nat),p.toList.Perm (List.range vs.length)->Up rk p vs.length->h'.get? a=some (seqObj "list" (List.toArray (p.toList.map λi=>vs.getD i Value.none)) c)->(∀b o,b≠a->s.heap.get? b=some o->h'.get? b=some o)->P (.done (.ret .none)) {s with heap:=h',toks:=tk}):
  wpAny (model prog w) A (Builtin.«list.sort» {[.ref a],[]}) P E s:=by
 obtain⟨e1,JD⟩:∃e1,(s.heap.update a (Obj.mapSeq λ_=>(#[]:Aaj))).get? a=some (seqObj "list" #[] e1):={_,get?_update_seq ho λ_=>#[]};have JR:(kS s.heap a vs).get? a=some (seqObj "list" #[] e1):=ah _ (ah _ JD);have Fo:∀b o,b≠a->s.heap.get? b=some o->(kS s.heap a vs).get? b=some o:=λb o nb q=>ah _ (ah _ ((bG s.heap a _).extBut b o nb q));rw[list_sort_plain];refine ae (listItems_at ho rfl ?_);refine ae (sP ho rfl ?_ (by rw[aO,bU];lia) (aR _));refine ae (wy JD rfl ?_);refine ae (kL ?_ (by show vs.length<=_;rw[bU];lia));refine ae (o9 ?_ (aR _));refine bL ?_;have big:¬vs.toArray.size<2:=by rw[aO];lia
 rw[ax big,ax big];refine ae (df (hk _ (Tk.refl _)) (λkd s0 hq=>?_) λ_ _ x=>x.elim);obtain⟨rfl,t0⟩:=hq;obtain⟨p,ep,hp,hu⟩:=Xh (n:=vs.length) ∅;have adl:(kas_sort vs.length).kasWp (kas_ask prog w A kd vs) (λq s'=>q=p/\Tk {s with heap:=kS s.heap a vs} s') s0:=QW hc _ s0 (Rt ∅) t0 λs' t'=>⟨ep,t'⟩;refine ae (df (kat_run (Q:=λlO s'=>arrOf lO=p.map (kas_item (vs.toArray.zip vs.toArray))/\failedOf lO=none/\Tk {s with heap:=kS s.heap a vs} s') rfl h2 su (λp' lO s' a1 a2 a3 a4=>by obtain⟨rfl,t'⟩:=a4;exact⟨a2,a3,t'⟩) adl) ?_ λ_ _ e=>e)
 rintro⟨⟨⟩,lO⟩ s' ⟨har,hf,tk,rfl⟩;dsimp only;rw[kat_snds rfl har];have lp:(p.toList.map λi=>vs.getD i Value.none).length=vs.length:=by rw[ak,hp.length_eq,gf]
 obtain⟨out,eo⟩:∃out,out=p.toList.map λi=>vs.getD i Value.none:=⟨_,rfl⟩;obtain⟨c2,xG⟩:∃c2,((kS s.heap a vs).update a (Obj.mapSeq λ_=>out.toArray)).get? a=some (seqObj "list" out.toArray c2):={_,get?_update_seq JR λ_=>out.toArray};refine ae (wy JR rfl ?_);refine ae (sP JR rfl ?_ (aR _) (by rw[aO,lp,bU];lia));rw[hf];simp only[BP,bE,cN];refine af (k p _ tk c2 hp hu ?_ λb o nb q=>(bG (kS s.heap a vs) a _).extBut b o nb (Fo b o nb q));rw[<-eo];exact xG
def Ly{rk:Value->Nat}(ho:s.heap.get? a=some (seqObj "list" vs.toArray n))(h2:2<=vs.length)(su:vs.length<64)
  (hk:∀s',Tk {s with heap:=kS s.heap a vs} s'->wpAny (model prog w) A (keyKind' vs.toArray) (λk s2=>k=κ/\Tk {s with heap:=kS s.heap a vs} s2) (λ_ _=>False) s')
  (hc:∀x∈vs,∀y∈vs,∀s',Tk {s with heap:=kS s.heap a vs} s'->wpAny (model prog w) A (keyLt' κ x y) (λb s2=>b=decide (rk x<rk y)/\Tk {s with heap:=kS s.heap a vs} s2) (λ_ _=>False) s')
  (k:∀(us:Aae)(h':Heap)(tk c:Nat),us.Perm vs->us.Pairwise (λx y=>rk x<=rk y)->h'.get? a=some (seqObj "list" us.toArray c)->(∀b o,b≠a->s.heap.get? b=some o->h'.get? b=some o)->P (.done (.ret .none)) {s with heap:=h',toks:=tk}):
  wpAny (model prog w) A (Builtin.«list.sort» {[.ref a],[]}) P E s:=by
 have mem:∀i,i<vs.length->vs.getD i Value.none∈vs:=λi hi=>by rw[cS,aq hi];exact jU hi
 refine MW (rk:=λi=>rk (vs.getD i Value.none)) ho h2 su hk (λi j C s' hi hj tk q=>?_) λp h' tk c hp hu g kp=>k _ h' tk c ?_ ?_ g kp
 ·refine df (hc _ (mem i hi) _ (mem j hj) s' tk) (λb s2 acW=>?_) λ_ _ x=>x;obtain⟨e,t⟩:=acW;rw[e];exact q s2 t
 ·have:=hp.map λi=>vs.getD i Value.none;rwa [show(List.range vs.length).map (λi=>vs.getD i Value.none)=vs from pB (by simp) λi h1 h2=>by simp[h2]]at this
 ·have lp:p.size=vs.length:=by rw[<-aZ,hp.length_eq,gf]
  refine gc.mpr (mP.mpr λx y hx hy hxy=>?_);have GA:x<p.size:=by simpa using hx
  have Qf:y<p.size:=by simpa using hy
  have:=hu x y (bI hxy) ∅;unfold gK at this;have ex:p.getD x 0=p.toList[x]:=by simp[Array.getD,GA]
  have ey:p.getD y 0=p.toList[y]:=by simp[Array.getD,Qf]
  rw[ex,ey]at this;exact this
def HX(ho:s.heap.get? a=some (seqObj "list" vs.toArray n))(h2:vs.length<2)
  (k:∀(h':Heap)(c:Nat),h'.get? a=some (seqObj "list" vs.toArray c)->(∀b o,b≠a->s.heap.get? b=some o->h'.get? b=some o)->P (.done (.ret .none)) {s with heap:=h'}):
  wpAny (model prog w) A (Builtin.«list.sort» {[.ref a],[]}) P E s:=by
 obtain⟨e1,JD⟩:∃e1,(s.heap.update a (Obj.mapSeq λ_=>(#[]:Aaj))).get? a=some (seqObj "list" #[] e1):={_,get?_update_seq ho λ_=>#[]};have JR:(kS s.heap a vs).get? a=some (seqObj "list" #[] e1):=ah _ (ah _ JD);have Fo:∀b o,b≠a->s.heap.get? b=some o->(kS s.heap a vs).get? b=some o:=λb o nb q=>ah _ (ah _ ((bG s.heap a _).extBut b o nb q));rw[list_sort_plain];refine ae (listItems_at ho rfl ?_);refine ae (sP ho rfl ?_ (by rw[aO,bU];lia) (aR _));refine ae (wy JD rfl ?_);refine ae (kL ?_ (by show vs.length<=_;rw[bU];lia));refine ae (o9 ?_ (aR _));refine bL ?_;have gj:vs.toArray.size<2:=by rw[aO];lia
 rw[aA gj,aA gj];refine ae (af ?_);refine ae (af ?_);dsimp only;have es:(arrOf (SortSt.mk' general' (vs.toArray.zip vs.toArray) #[] 7 none)).map (·.2)=vs.toArray:=by apply vz.mp;simp[List.map_snd_zip]
 rw[es];obtain⟨c2,xG⟩:∃c2,((kS s.heap a vs).update a (Obj.mapSeq λ_=>vs.toArray)).get? a=some (seqObj "list" vs.toArray c2):={_,get?_update_seq JR λ_=>vs.toArray};refine ae (wy JR rfl ?_);refine ae (sP JR rfl ?_ (aR _) (by rw[aO,bU];lia));simp only[BP,bE,cN];exact af (k _ c2 xG λb o nb q=>(bG (kS s.heap a vs) a _).extBut b o nb (Fo b o nb q))
abbrev Gu(a b:Str):Bool:=decide (a.cps.toList<b.cps.toList)
def cY:Aaf->Aaf->Bool
 |_,[]=>false
 |[],_::_=>true
 |a::r,b::q=>if a=b then cY r q else Gu a b
def Nv(a:Str):Gu a a=false:=bB (List.lt_irrefl _)
def PH(h1:Gu a b=true)(h2:Gu b c=true):Gu a c=true:=aX (List.lt_trans (aW h1) (aW h2))
def PJ(h:Gu a b=false)(h2:Gu b a=false):a=b:=by exact ext_toList (List.le_antisymm (List.not_lt.mp (Ap h2)) (List.not_lt.mp (Ap h)))
theorem qb:∀a,cY a a=false
 |[]=>rfl
 |a::r=>by unfold cY;rw[aA rfl];exact qb r
theorem rN:∀{a b c:Aaf},cY a b=true->cY b c=true->cY a c=true
 |_,[],[],_,h=>by unfold cY at h;cases h
 |_,_::_,[],_,h=>by unfold cY at h;cases h
 |_,[],_::_,h,_=>by unfold cY at h;cases h
 |[],_::_,_::_,_,_=>rfl
 |a::r,b::q,c::p,h1,h2=>by
  unfold cY at h1 h2⊢;by_cases e1:a=b
  ·subst e1;rw[aA rfl]at h1;by_cases e2:a=c
   ·rw[aA e2]at h2⊢;exact rN h1 h2
   ·rw[ax e2]at h2⊢;exact h2
  ·rw[ax e1]at h1;by_cases e2:b=c
   ·subst e2;rw[ax e1];exact h1
   ·rw[ax e2]at h2;have h3:=PH h1 h2;rw[ax (λe=>by rw[e,Nv]at h3;cases h3)];exact h3
theorem rO:∀{a b:Aaf},cY a b=false->cY b a=false->a=b
 |[],[],_,_=>rfl
 |[],_::_,h,_=>by unfold cY at h;cases h
 |_::_,[],_,h=>by unfold cY at h;cases h
 |a::r,b::q,h1,h2=>by
  unfold cY at h1 h2;by_cases e:a=b
  ·subst e;rw[aA rfl]at h1 h2;rw[rO h1 h2]
  ·rw[ax e]at h1;rw[ax (bY e)]at h2;exact(e (PJ h1 h2)).elim
abbrev iL(a b:Aaf):Bool:=!cY b a
def KO(a b c:Aaf)(h1:iL a b=true)(h2:iL b c=true):iL a c=true:=by
 have h2':cY c b=false:=by simpa using h2
 cases q:cY c a with
 |false=>simp[iL,q]
 |true=>
  cases p:cY a b with
  |true=>rw[rN q p]at h2';cases h2'
  |false=>rw[rO p (by simpa using h1),h2']at q;cases q
def KP(a b:Aaf):(iL a b||iL b a)=true:=by
 cases q:cY b a with
 |false=>simp[iL,q]
 |true=>
  cases p:cY a b with
  |false=>simp[iL,p]
  |true=>have:=rN q p;rw[qb]at this;cases this
def Nx(h1:iL a b=true)(h2:iL b a=true):a=b:=rO (by simpa using h2) (by simpa using h1)
def dc(l:R1):R1:=l.mergeSort iL
def cW(l:R1):(dc l).Perm l:=zE l iL
def tS(l:R1):(dc l).Pairwise (λa b=>iL a b=true):=vE KO KP l
theorem C6:∀{l m:R1},l.Perm m->l.Pairwise (λa b=>iL a b=true)->m.Pairwise (λa b=>iL a b=true)->l=m
 |[],m,h,_,_=>(List.nil_perm.mp h).symm
 |a::l,[],h,_,_=>absurd h.length_eq (by simp)
 |a::l,b::m,h,h1,h2=>by
  have e:a=b:=by
   rcases aF.mp (h.mem_iff.mp (ay))with e|e
   ·exact e
   ·rcases aF.mp (h.mem_iff.mpr (ay))with q|q
    ·exact q.symm
    ·exact Nx (gO h1 q) (gO h2 e)
  subst e;rw[C6 (List.perm_cons a|>.mp h) (kA.mp h1).2 (kA.mp h2).2]
def pk(h:l.Perm zs)(hs:l.Pairwise (λa b=>iL a b=true)):l=dc zs:=C6 (h.trans (cW zs).symm) hs (tS zs)
def wu(h:l.Perm m):dc l=dc m:=pk ((cW l).trans h) (tS l)
def Im(rows:R1)(a:Aaf):Nat:=rows.countP λr=>cY r a
def Hh(ha:a∈rows)(hb:b∈rows):decide (Im rows a<Im rows b)=cY a b:=by
 have strict:∀{a b:Aaf},a∈rows->cY a b=true->Im rows a<Im rows b:=λ{a b} hm h=>by unfold Im;obtain⟨l1,l2,e⟩:=List.append_of_mem hm;have c1:∀l:R1,(l.countP λr=>cY r a)<=l.countP λr=>cY r b:=λl=>List.countP_mono_left λr _ hr=>rN hr h;rw[e,Bp,Bp,List.countP_cons,List.countP_cons,qb,h];have:=c1 l1;have:=c1 l2;simp;lia
 cases q:cY a b with
 |true=>exact aX (strict ha q)
 |false=>
  refine bB (yS.mpr ?_);cases p:cY b a with
  |true=>exact bI (strict hb p)
  |false=>rw[rO q p];exact ao _
end
inductive jk:Aaf->Aae->Prop where
 |nil:jk [] []
 |cons {z:Str} {t:Tok} {zs:Aaf} {vs:Aae}:jk zs vs->jk (z::zs) (.str z t::vs)
def TupIs(h:Heap)(v:Value)(zs:Aaf):Prop:=∃a o aP n,v=.ref a/\h.get? a=some o/\o.cls=.type "tuple"/\o.data=.seq aP n/\jk zs aP.toList
def TupIs.mono(x:TupIs h v zs)(kp:∀b o,h.get? b=some o->h'.get? b=some o):TupIs h' v zs:=by obtain⟨a,o,aP,n,e,ho,r⟩:=x;exact{a,o,aP,n,e,kp _ _ ho,r}
theorem jk.one:∀{xs ys:Aaf}{vs:Aae},jk xs vs->jk ys vs->xs=ys
 |_,_,_,.nil,.nil=>rfl
 |_,_,_,.cons a,.cons b=>by rw[a.one b]
def TupIs.one(a:TupIs h v xs)(b:TupIs h v ys):xs=ys:=by obtain⟨a,o,aP,n,rfl,h1,_,h2,h3⟩:=a;obtain⟨b,p,vU,m,e,q1,_,q2,q3⟩:=b;cases e;rw[h1]at q1;cases q1;rw[h2]at q2;cases q2;exact h3.one q3
open Classical in
def rowOf(h:Heap)(v:Value):Aaf:=if x:∃r,TupIs h v r then Classical.choose x else[]
def qZ(x:TupIs h v r):rowOf h v=r:=by unfold rowOf;rw[dif_pos ⟨r,x⟩];exact(xR (⟨r,x⟩:∃r,TupIs h v r)).one x
section
variable{prog:Program}{w:World}{A:Around}{E:Aac}{s:Shared}
def eq_str(h:Q (decide (a=b)) s):wpAny (model prog w) A (eqBool (.str a t) (.str b u)) Q E s:=
 (PySem.strKind prog w).eqBool (DW _ _ _ _) (DW _ _ _ _) h
def W5{xs:Aaf}{vs:Aae}(h1:jk xs vs):∀{ys:Aaf}{us:Aae}(i:Nat)(s:Shared),jk ys us->(fin=decide (xs.length<ys.length))->C (cY xs ys) s->KatLex prog w A true fin C (vs.zip us) i s:=by
 induction h1 with
 |nil=>
  intro ys us i s h2 hf h;refine kat_nil ?_;rw[hf];cases h2<;>exact h
 |@cons a xs vs t r1 ih=>
  intro ys us i s h2 hf h;cases h2 with
  |nil=>
   refine kat_nil ?_;rw[hf];exact h
  |@cons b ys us u r2=>
   refine kat_cons (eq_str ?_);unfold cY at h;by_cases e:a=b
   ·rw[aX e];rw[aA e]at h;refine kat_yes (ih (i+1) s r2 ?_ h);rw[hf];simp
   ·rw[bB e];rw[ax e]at h;refine kat_no ?_;cases i with
    |zero=>exact oneLt_str h
    |succ i=>
     have e2:(true&&(i+1==0))=false:=by simp
     exact kat_one _ _ (zC h)
def Zq(hx:TupIs s.heap x xs)(hy:TupIs s.heap y ys)(h:C (cY xs ys) s):wpAny (model prog w) A (keyLt' (tuples' true) x y) C E s:=by
 obtain⟨a,o,aP,n,rfl,ho,hc,hd,hr⟩:=hx;obtain⟨b,p,vU,m,rfl,hp,Vb,hpd,hq⟩:=hy;refine kat_lt ho hd hp hpd (W5 hr 0 s hq ?_ h);have len:∀{zs:Aaf}{vs:Aae},jk zs vs->zs.length=vs.length:=by
  intro zs vs r
  induction r with
  |nil=>rfl
  |cons _ ih=>simp[ih]
 rw[len hr,len hq,aZ,aZ]
def SR{vs:Aae}{rows:R1}(hl:vs.length=rows.length)(h2:2<=vs.length)(ht:∀(i:Nat) v r,vs[i]?=some v->rows[i]?=some r->TupIs s.heap v r)(jw:∀r∈rows,r≠[])(h:Q (tuples' true) s):wpAny (model prog w) A (keyKind' vs.toArray) Q E s:=by
 have key:∀(vs:Aae)(rows:R1),vs.length=rows.length->(∀(i:Nat) v r,vs[i]?=some v->rows[i]?=some r->TupIs s.heap v r)->(∀r∈rows,r≠[])->∃fs,KatTups s.heap vs fs/\fs.length=vs.length/\∀f∈fs,∃z t,f=Value.str z t:=by
  intro vs
  induction vs with
  |nil=>intro rows hl _ _;exact{[],KatTups.nil,rfl,λf hf=>nomatch hf}
  |cons v vs ih=>
   intro rows hl ht jw;cases rows with
   |nil=>simp at hl
   |cons r rows=>
    obtain⟨fs,h1,h2,h3⟩:=ih rows (by simpa using hl) (λi v' r' e1 e2=>ht (i+1) v' r' (by simpa using e1) (by simpa using e2)) λr' hr=>jw r' (az _ hr);obtain⟨a,o,aP,n,rfl,ho,hc,hd,hr⟩:=ht 0 v r rfl rfl;cases r with
    |nil=>exact(jw [] ay rfl).elim
    |cons z zs=>
     generalize eL:aP.toList=L at hr;cases hr with
     |@cons _ t _ kE JA=>
      refine{.str z t::fs,KatTups.cons ho hc hd (by rw[<-bK,eL];rfl) h1,by simp[h2],λf hf=>?_};rcases aF.mp hf with rfl|hf
      ·exact⟨z,t,rfl⟩
      ·exact h3 f hf
 obtain⟨fs,h1,h3,h4⟩:=key vs rows hl ht jw;refine kat_kind (T:=.type "str") h1 ∅ (λv hv=>?_) (by decide) ?_
 ·obtain⟨z,t,rfl⟩:=h4 v hv;exact Looks.of_pure rfl
 ·have e:((Value.type "str") !=Value.type "tuple")=true:=by decide
  exact h
def OL(ho:s.heap.get? a=some (seqObj "list" vs.toArray n))(hl:vs.length=rows.length)(ht:∀(i:Nat) v r,vs[i]?=some v->rows[i]?=some r->TupIs s.heap v r)(jw:2<=rows.length->∀r∈rows,r≠[])(su:vs.length<64)
  (k:∀(h':Heap)(tk c:Nat)(us:Aae),h'.get? a=some (seqObj "list" us.toArray c)->(∀b o,b≠a->s.heap.get? b=some o->h'.get? b=some o)->us.Perm vs->(∀(i:Nat) v r,us[i]?=some v->(dc rows)[i]?=some r->TupIs s.heap v r)->P (.done (.ret .none)) {s with heap:=h',toks:=tk}):
  wpAny (model prog w) A (Builtin.«list.sort» {[.ref a],[]}) P E s:=by
 by_cases c2:vs.length<2
 ·refine HX ho c2 λh' c g kp=>?_;have e:dc rows=rows:=by
   have:rows.length<2:=by lia
   match rows,this with
   |[],_=>exact(pk (.refl _) .nil).symm
   |[r],_=>exact(pk (.refl _) (by simp)).symm
   |_::_::_,q=>simp at q;lia
  rw[e]at k;exact k h' s.toks c vs g kp (.refl _) ht
 ·have na:∀v r,TupIs s.heap v r->v≠ .ref a:=λv r x z=>by obtain⟨b,o,aP,m,rfl,hb,hc,_⟩:=x;cases z;rw[ho]at hb;cases hb;injection hc with z;exact absurd z (by decide)
  have AJ:∀s',Tk {s with heap:=kS s.heap a vs} s'->∀(i:Nat) v r,vs[i]?=some v->rows[i]?=some r->TupIs s'.heap v r:=λs' ⟨t,e⟩ i v r e1 e2=>by subst e;have x:=ht i v r e1 e2;have ne:=na v r x;obtain⟨b,o,aP,m,rfl,hb,r⟩:=x;exact{b,o,aP,m,rfl,ah _ (ah _ ((bG s.heap a _).extBut b o (λz=>ne (by rw[z])) hb)),r}
  have mr:∀v∈vs,∃r,r∈rows/\TupIs s.heap v r/\∀s',Tk {s with heap:=kS s.heap a vs} s'->TupIs s'.heap v r:=λv hv=>by obtain⟨i,hi,rfl⟩:=jE.mp hv;have e1:=aq hi;have e2:=aq (l:=rows) (i:=i) ∅;exact{_,jU _,ht i _ _ e1 e2,λs' tk=>AJ s' tk i _ _ e1 e2}
  refine Ly (κ:=tuples' true) (rk:=λv=>Im rows (rowOf s.heap v)) ho ∅ su (λs' tk=>SR hl ∅ (AJ s' tk) (jw ∅) ⟨rfl,tk⟩) (λx hx y hy s' tk=>?_) λus h' tk c po so g kp=>?_
  ·obtain⟨r,m1,t1,k1⟩:=mr x hx;obtain⟨q,m2,t2,k2⟩:=mr y hy;refine Zq (k1 s' tk) (k2 s' tk) {?_,tk};rw[qZ t1,qZ t2,Hh m1 m2]
  ·have er:us.map (rowOf s.heap)=dc rows:=by
    have ev:vs.map (rowOf s.heap)=rows:=by refine pB (by simpa using hl) λi h1 h2=>?_;rw[pA];exact qZ (ht i _ _ (aq _) (aq h2))
    refine pk (ev▸po.map _) (gc.mpr (so.imp_of_mem λ{x y} hx hy q=>?_));obtain⟨r,m1,t1,k1⟩:=mr x (po.mem_iff.mp hx);obtain⟨p,m2,t2,k2⟩:=mr y (po.mem_iff.mp hy);rw[qZ t1,qZ t2]at q⊢;have z:=Hh m2 m1;rw[bB (yS.mpr q)]at z;show(!cY _ _)=true;rw[<-z];rfl
   refine k h' tk c us g kp po λi v r e1 e2=>?_;rw[<-er,aI,e1]at e2;cases e2;obtain⟨r,m1,t1,k1⟩:=mr v (po.mem_iff.mp (aE e1));rw[qZ t1];exact t1
end
end f6
namespace L2
open PySem PySem.Spec PyProof.Rows f6
abbrev eW(K:Frag)(H:Hp):Aam->R1->Prop:=Paired λ(y:V)(zs:Aaf)=>∃a,y=.ref a/\bf K H a (zs.map V.str)
theorem Il:∀{zs:Aaf}{us:Aae},Vals (zs.map V.str) us->jk zs us
 |[],_,.nil=>.nil
 |z::r,_,.cons ⟨t,e⟩ h=>by subst e;exact .cons (Il h)
theorem PZ:∀{zs:Aaf}{us:Aae},Vals (zs.map V.str) us->ItemsAre (bJ P w) (zs.map Sum.inr) us
 |[],_,.nil=>.nil
 |z::r,_,.cons ⟨t,e⟩ h=>by subst e;exact .cons (Cg _ _ _ _) (PZ h)
section
variable{X:Cx}{pins:Aaa}{Z:St}{H:Hp}{s:Shared}
def Inv.row(I:Inv X pins Z H s)(h:bf X.K H a (zs.map V.str)):TupIs s.heap (.ref a) zs/\IsTupleKey (bJ X.prog X.w) s.heap (zs.map Sum.inr) a:=by obtain⟨aP,r,⟨o,e,c,n,d⟩,_⟩:=I.tuple h;exact{{a,o,aP.toArray,n,rfl,e,c,d,by simpa using Il r},{o,aP.toArray,n,e,c,d,by simpa using PZ r}}
theorem Inv.rows(I:Inv X pins Z H s):∀{ys:Aam}{rows:R1}{us:Aae},eW X.K H ys rows->Vals ys us->∃bs:Aah,us=bs.map Value.ref/\ys=bs.map V.ref/\bs.length=rows.length/\∀(i:Nat) z b,rows[i]?=some z->bs[i]?=some b->bf X.K H b (z.map V.str)
 |_,_,_,.nil,.nil=>{[],rfl,rfl,rfl,λi z b e=>by simp at e}
 |_,_,_,.cons ⟨a,e,h⟩ r,.cons (b:=u) ru q=>by
  obtain⟨bs,h1,h2,h3,h4⟩:=I.rows r q;subst e;cases(show u=Value.ref a from ru);refine{a::bs,by rw[h1];rfl,by rw[h2];rfl,by simp[h3],λi z b e1 e2=>?_};cases i with
  |zero=>cases e1;cases e2;exact h
  |succ i=>exact h4 i z b (by simpa using e1) (by simpa using e2)
end
theorem LB{K:Frag}:∀{bs:Aah}{rows:R1},bs.length=rows.length->(∀(i:Nat) z b,rows[i]?=some z->bs[i]?=some b->bf K H b (z.map V.str))->eW K H (bs.map V.ref) rows
 |[],[],_,_=>.nil
 |[],_::_,h,_=>by simp at h
 |_::_,[],h,_=>by simp at h
 |b::bs,z::rows,h,k=>.cons {b,rfl,k 0 z b rfl rfl} (LB (by simpa using h) λi z' b' e1 e2=>k (i+1) z' b' (by simpa using e1) (by simpa using e2))
theorem E4:∀bs:Aah,Vals (bs.map V.ref) (bs.map Value.ref)
 |[]=>.nil
 |b::bs=>.cons rfl (E4 bs)
def abb:Value->Addr
 | .ref a=>a
 |_=>0
def LD(h:us.Perm (bs.map Value.ref)):∃cs:Aah,us=cs.map Value.ref/\cs.Perm bs:=by
 have all:∀{us:Aae},(∀u∈us,∃b,u=Value.ref b)->∃cs:Aah,us=cs.map Value.ref:=by
  intro us
  induction us with
  |nil=>intro _;exact{[],rfl}
  |cons u us ih=>
   intro hu;obtain⟨b,rfl⟩:=hu u ay;obtain⟨cs,rfl⟩:=ih λv hv=>hu v (az _ hv);exact{b::cs,rfl}
 obtain⟨cs,rfl⟩:=all λu hu=>by obtain⟨b,_,e⟩:=aJ.mp (h.mem_iff.mp hu);exact{b,e.symm}
 refine{cs,rfl,?_};have e:∀l:Aah,(l.map Value.ref).map abb=l:=λl=>by
  induction l with
  |nil=>rfl
  |cons a l ih=>exact cc (a::·) ih
 rw[<-e cs,<-e bs];exact h.map _
def yH:R1->R1
 |[]=>[]
 |r::l=>if r∈l then yH l else r::yH l
theorem uP(x:Aaf):∀l,x∈yH l↔x∈l
 |[]=>FT
 |r::l=>by
  unfold yH;by_cases c:r∈l
  ·rw[aA c,uP x l,aF];exact{.inr,λh=>h.elim (λe=>e▸c) id}
  ·rw[ax c,aF,aF,uP x l]
theorem tW:∀l,(yH l).Nodup
 |[]=>jL
 |r::l=>by
  unfold yH;by_cases c:r∈l
  ·rw[aA c];exact tW l
  ·rw[ax c];exact cP.mpr {λh=>c ((uP r l).mp h),tW l}
def iz(l:R1):R1:=dc (yH l)
def RH(nd:l.Nodup)(h:∀r,r∈l↔r∈rows):dc l=iz rows:=
 wu ((lY nd (tW rows)).mpr λr=>by rw[h,uP])
def ku(x:Aaf)(l:R1):x∈iz l↔x∈l:=by unfold iz;rw[(cW _).mem_iff,uP]
section
variable{prog:Program}{w:World}{A:Around}{E:Aac}{s:Shared}
def Kz{Q:Aac}(hl:vs.length=rows.length)(ht:∀(i:Nat) v r,vs[i]?=some v->rows[i]?=some r->TupIs s.heap v r)(jw:2<=rows.length->∀r∈rows,r≠[])(su:vs.length<64)
  (k:∀(h':Heap)(tk c:Nat)(us:Aae),h'.get? s.heap.objs.size=some (seqObj "list" us.toArray c)->(∀b o,s.heap.get? b=some o->h'.get? b=some o)->us.Perm vs->(∀(i:Nat) v r,us[i]?=some v->(dc rows)[i]?=some r->TupIs s.heap v r)->Q (.ref s.heap.objs.size) {s with heap:=h',toks:=tk}):
  wpAny (model prog w) A (newList vs>>=λl=>holding [l] (call (.builtin "list.sort") [l] [])>>=λ_=>ret l) (λfin s'=>∃v,fin=Fin.done (.ret v)/\Q v s') E s:=by
 refine ae (o9 ?_ (by rw[bU];lia));have zg:(s.heap.push (seqObj "list" vs.toArray 0)).get? s.heap.objs.size=some (seqObj "list" vs.toArray 0):=aB _ rfl;refine ae (bL (ba xg ⟨_,zg,rfl⟩ wa (OL (s:={s with heap:=s.heap.push (seqObj "list" vs.toArray 0)}) zg hl (λi v r e1 e2=>(ht i v r e1 e2).mono λb o e=>ah _ e) jw su λh' tk c us g kp pm q=>{_,rfl,?_}) (xO _)));refine af {_,rfl,k h' tk c us g (λb o e=>kp b o (aG (aD e)) (ah _ e)) pm λi v r e1 e2=>?_};have x:=q i v r e1 e2;have hv:v∈vs:=pm.mem_iff.mp (aE e1);obtain⟨j,hj⟩:=dQ.mp hv;have oU:j<rows.length:=by have:=(aw.mp hj).1;lia
 have y:=ht j v _ hj (aq oU);obtain⟨b,o,aP,m,rfl,hb,r1⟩:=y;obtain⟨b',o',its',m',e',gJ,r1'⟩:=x;cases e';have:o'=o:=by have:=ah (seqObj "list" vs.toArray 0) hb;exact bM (gJ.symm.trans this)
 subst this;exact⟨b,o',its',m',rfl,hb,r1'⟩
variable{X:Cx}
def SortedTo(K:Frag)(H:Hp)(ys:Aam)(rows:R1)(Q:VK):Prop:=∀l zs,H l=none->eW K H zs (dc rows)->(∀z∈zs,z∈ys)->Q (.ref l) (upd H l (.lst zs))
def yc{pins:Aaa}{Z:St}{H:Hp}{s s1:Shared}{bs:Aah}{rows:R1}{Q:VK}(I:Inv X pins Z H s1)(lb:bs.length=rows.length)(hb:∀(i:Nat) z b,rows[i]?=some z->bs[i]?=some b->bf X.K H b (z.map V.str))(jw:2<=rows.length->∀r∈rows,r≠[])(su:rows.length<64)(q:SortedTo X.K H (bs.map V.ref) rows Q){A:Around}{E:Aac}:
  wpAny (model X.prog X.w) A (newList (bs.map Value.ref)>>=λl=>holding [l] (call (.builtin "list.sort") [l] [])>>=λ_=>ret l) (λfin s'=>∃v,fin=Fin.done (.ret v)/\EP X pins Z Q v s') E s1:=by
 refine Kz (rows:=rows) (by rw[ak];exact lb) (λi v r e1 e2=>?_) jw (by rw[ak];lia) λh' tk c us g kp pm srt=>?_
 ·rw[aI]at e1;obtain⟨b,e3,rfl⟩:=bb.mp e1;exact(I.row (hb i r b e2 e3)).1
 ·obtain⟨cs,rfl,pc⟩:=LD pm;have lc:cs.length=rows.length:=by rw[pc.length_eq,lb]
  have lz:(cs.map V.ref).length<=sizeLine:=by rw[ak,bU];lia
  refine{.ref s1.heap.objs.size,_,I.laid (t':=tk) kp (ao _) (show cI X.prog X.w _ _ _ (.lst (cs.map V.ref))from{lz,cs.map Value.ref,c,E4 cs,g}),rfl,q _ (cs.map V.ref) (I.bw.fresh (ao _)) (LB (by rw[lc,(cW rows).length_eq]) λi z b e1 e2=>?_) λz hz=>(pc.map _).mem_iff.mp hz};have t:=srt i (.ref b) z (by rw[aI,e2];rfl) e1;obtain⟨j,hj⟩:=dQ.mp (pc.mem_iff.mp (aE e2));have oU:j<rows.length:=by have:=(aw.mp hj).1;lia
  have hr:=hb j _ b (aq oU) hj;have t2:=(I.row hr).1;have e:rows[j]=z:=by
   obtain⟨b1,o1,i1,n1,e1,g1,c1,d1,r1⟩:=t;obtain⟨b2,o2,i2,n2,e2,g2,c2,d2,r2⟩:=t2;cases e1;cases e2;rw[g1]at g2;cases g2;rw[d1]at d2;cases d2;have inj:∀{x y:Aaf}{vs:Aae},jk x vs->jk y vs->x=y:=by
    intro x y vs hx
    induction hx generalizing y with
    |nil=>intro hy;cases hy;rfl
    |cons _ ih=>intro hy;cases hy with|cons hy=>rw[ih hy]
   exact inj r2 r1
  rw[<-e];exact hr
def pb:Key->Str
 | .inr z=>z
 | .inl _=>""
def vK(z:Aaf):(z.map (Sum.inr:Str->Key)).map pb=z:=by
 induction z with
 |nil=>rfl
 |cons a z ih=>exact cc (a::·) ih
end
def yQ(P:Program)(w:World)(a:Addr)(us:List (Aaf×Addr)):Heap->Prop:=λh=>∃o ep t,h.get? a=some o/\o.ExactSet/\o.data=.set (us.map λx=>Tb.ent (Tb.DU (bJ P w)) (x.1.map Sum.inr,x.2)).toArray ep t/\t.fits us.length=true/\t.led=Tb.mq w/\Tb.my t.place
def Wi(x:yQ P w a us h):cI P w H h a (.ext (yQ P w a us)):=
 {x,let⟨o,_,_,q,_⟩:=x;⟨o,q⟩,λ_ _ ⟨o,ep,t,q,r⟩ k=>{o,ep,t,k _ q,r}}
section
variable{X:Cx}{pins:Aaa}{Z:St}{H:Hp}{s:Shared}{h':Heap}
def Inv.UY(I:Inv X pins Z H s)(k:∀b u,s.heap.get? b=some u->h'.get? b=some u):Inv X pins Z H {s with heap:=h',drawn:=d',toks:=t'}:=
 I.step (ch:=[]) (λ_ z=>nomatch z) (λb o _ _ _ e _=>k b o e) (λb o _ _ _ e _=>{o.slots,k b o e}) (λ_ _ _ _ n=>n) (λb o _ e=>{o,k b o e}) (λ_ _ e=>e) (λ_ _ _ e=>e) (λb ps e=>{#[],by rw[e];simp}) (λm hm=>by obtain⟨o,es,ep,ho,r⟩:=hm;exact{o,es,ep,k _ _ ho,r}) (I.bw.kept k) I.bare
end
section
variable{X:Cx}
def Rl(hA:X.A.handled=none)(hu:X.A.units+64<cLine):gA X (.type "set") (λxs H Q=>∃p ys rows,xs=[.ref p]/\br X.K H p ys/\eW X.K H ys rows/\rows.length<=1000/\∀a us,H a=none->(us.map (·.1)).Nodup->(∀r,r∈us.map (·.1)↔r∈rows)->us.length<=rows.length->(∀x∈us,bf X.K H x.2 (x.1.map V.str)/\V.ref x.2∈ys)->Q (.ref a) (upd H a (.ext (yQ X.prog X.w a us)))):=by
 intro pins s Z H xs us Q I r h;obtain⟨p,ys,rows,rfl,hq,hr,hz,q⟩:=h;obtain⟨u,rfl,rx⟩:=jY r;cases rx;obtain⟨aP,r',pl,_⟩:=I.list hq;obtain⟨bs,rfl,rfl,lb,hb⟩:=I.rows hr r';refine Tb.GV (knd:=Tb.DU (bJ X.prog X.w)) (ks:=rows.map λz=>z.map Sum.inr) (bs:=bs) hA (by show X.A.units+1+1+1<cLine;lia) (.inl pl.isList) (by simp) (by rw[ak,lb]) (λi k b e1 e2=>?_) ∅ λh' tk o ep t xs S hl hH kp=>?_
 ·rw[aI]at e1;obtain⟨z,e3,rfl⟩:=bb.mp e1;exact(I.row (hb i z b e3 e2)).2
 ·have inj:∀x∈xs,∃(j:Nat)(z:Aaf),rows[j]?=some z/\x.1=z.map Sum.inr/\bs[j]?=some x.2:=λx hx=>by obtain⟨j,j1,j2⟩:=hH.EG x hx;rw[aI]at j1;obtain⟨z,e3,e4⟩:=bb.mp j1;exact{j,z,e3,e4.symm,j2}
  have back:(xs.map λx=>(x.1.map pb,x.2)).map (λx=>((x.1.map Sum.inr:List Key),x.2))=xs:=by
   rw[bW];have:∀x∈xs,((λx:Aaf×Addr=>((x.1.map Sum.inr:List Key),x.2))∘λx:List Key×Addr=>(x.1.map pb,x.2)) x=x:=λx hx=>by obtain⟨j,z,_,e,_⟩:=inj x hx;show((x.1.map pb).map Sum.inr,x.2)=x;rw[e,vK];exact DJ e.symm rfl
   rw[bC this,List.map_id']
  have fst:∀r,r∈(xs.map λx=>(x.1.map pb,x.2)).map (·.1)↔r∈rows:=λr=>by
   rw[bW,aJ];constructor
   ·rintro⟨x,hx,rfl⟩;obtain⟨j,z,e1,e,_⟩:=inj x hx;show x.1.map pb∈rows;rw[e,vK];exact aE e1
   ·intro hr;have:r.map Sum.inr∈xs.map (·.1):=(hH.mem _).mpr (by
     rw[eI (by rw[ak,lb];exact ao _)];exact aJ.mpr ⟨r,hr,rfl⟩)
    obtain⟨x,hx,e⟩:=aJ.mp this;exact{x,hx,by show x.1.map pb=r;rw[e,vK]}
  have nd:((xs.map λx=>(x.1.map pb,x.2)).map (·.1)).Nodup:=by
   have h1:=S.nd;rw[<-back,bW]at h1;have h2:((xs.map λx=>(x.1.map pb,x.2)).map ((·.1)∘λx:Aaf×Addr=>((x.1.map Sum.inr:List Key),x.2)))=((xs.map λx=>(x.1.map pb,x.2)).map (·.1)).map λz=>z.map Sum.inr:=by simp only[bW];rfl
   rw[h2]at h1;exact(gc.mp h1).imp λne e=>ne (by rw[e])
  have hd:o.data=.set ((xs.map λx=>(x.1.map pb,x.2)).map λx=>Tb.ent (Tb.DU (bJ X.prog X.w)) (x.1.map Sum.inr,x.2)).toArray ep t:=by rw[S.data];congr 2;have:=cc (List.map (Tb.ent (Tb.DU (bJ X.prog X.w)))) back;rw[bW]at this;exact this.symm
  refine{.ref s.heap.objs.size,_,I.laid (t':=tk) kp (ao _) (Wi {o,ep,t,S.ob,S.ex,hd,?_,hl,S.tab.rise}),rfl,q _ _ (I.bw.fresh (ao _)) nd fst ?_ λx hx=>?_}
  ·have:=S.fits;simpa using this
  ·rw[ak];have:=hH.len;lia
  ·obtain⟨y,hy,rfl⟩:=aJ.mp hx;obtain⟨j,z,e1,e,e2⟩:=inj y hy;refine{?_,aJ.mpr {y.2,aE e2,rfl}};show bf X.K H y.2 ((y.1.map pb).map V.str);rw[e,vK];exact hb j z y.2 e1 e2
def FH(hA:X.A.handled=none):gA X (.builtin "sorted") (λxs H Q=>∃a us ys,xs=[.ref a]/\H a=some (.ext (yQ X.prog X.w a us))/\(∀x∈us,bf X.K H x.2 (x.1.map V.str)/\V.ref x.2∈ys)/\(2<=us.length->∀x∈us,x.1≠[])/\us.length<64/\SortedTo X.K H ys (us.map (·.1)) Q):=by
 intro pins s Z H xs us Q I r h;obtain⟨a,y4,ys,rfl,ha,hx,jw,su,q⟩:=h;obtain⟨u,rfl,rx⟩:=jY r;cases rx;obtain⟨⟨o,ep,t,ho,hex,hd,hf,hl,NL⟩,_⟩:=(show cI X.prog X.w H s.heap a (.ext (yQ X.prog X.w a y4))from I.bw a _ ha);refine fI rQ pZ qr (qx _) ?_;unfold Builtin.«sorted»;refine ae (m:=checkCount "sorted" 1 1 _) (af ?_);refine ae (Tb.CC (A:=X.A.in1) (by simpa using hA) {⟨o,ho,hex,hd⟩,by simpa using hf,λcf _=>{by rw[hl,Tb.mq,cf];rfl,NL}} (by simp;lia) λh' tk d vs pm kp=>?_);have e0:(y4.map λx=>Tb.ent (Tb.DU (bJ X.prog X.w)) (x.1.map Sum.inr,x.2)).toArray.toList.map (·.2)=y4.map λx=>Value.ref x.2:=by simp[oH]
 rw[e0]at pm;obtain⟨kE,pv,rfl⟩:=Ak pm rfl;have lb:(kE.map (·.2)).length=(kE.map (·.1)).length:=by rw[ak,ak]
 have lu:=pv.length_eq;have e1:(kE.map λx=>Value.ref x.2)=(kE.map (·.2)).map Value.ref:=by rw[bW];rfl
 rw[e1];have sc:dc (kE.map (·.1))=dc (y4.map (·.1)):=wu (pv.map _);refine yc (s:=s) (I.UY (t':=tk) (d':=d) kp) lb (λi z b e2 e3=>?_) (λh2 r hr=>?_) (by rw[ak];lia) λl zs ip hz hm=>?_
 ·rw[aI]at e2 e3;obtain⟨x,ex,rfl⟩:=bb.mp e2;rw[ex]at e3;cases e3;exact(hx x (pv.mem_iff.mp (aE ex))).1
 ·obtain⟨x,Z5,rfl⟩:=aJ.mp hr;exact jw (by rw[ak]at h2;lia) x (pv.mem_iff.mp Z5)
 ·rw[sc]at hz;refine q l zs ip hz λz hzm=>?_;obtain⟨b,hb,rfl⟩:=aJ.mp (hm z hzm);obtain⟨x,Z5,rfl⟩:=aJ.mp hb;exact(hx x (pv.mem_iff.mp Z5)).2
def Kf(hA:X.A.handled=none):gA X (.builtin "sorted") (λxs H Q=>∃(a:Addr)(kvs:List (Key×V))(zs:Aaf),xs=[.ref a]/\H a=some (.dK kvs)/\kvs.map (·.1)=zs.map Sum.inr/\zs.length<64/\∀l,H l=none->Q (.ref l) (upd H l (.lst ((jA zs).map V.str)))):=by
 intro pins s Z H xs us Q I r h;obtain⟨a,kvs,zs,rfl,ha,hk,su,q⟩:=h;obtain⟨u,rfl,ru⟩:=jY r;cases ru;obtain⟨hz,lo,vs,rel,o,es,ep,m⟩:=wb I.bw ha;have at':s.heap.DictAt (bJ X.prog X.w) a vs ep:=⟨o,es,m⟩;have hl:kvs.length=vs.length:=rel.length;have Ez:kvs.map (·.1)=vs.map (·.1):=rel.keys;refine fI rQ pZ qr (qx _) ?_;unfold Builtin.«sorted»;refine ae (m:=checkCount "sorted" 1 1 _) (af ?_);refine ae (zB (A:=X.A.in1) (PySem.W.kdl_dict lo) (by simpa using hA) at' (by rw[<-hl];exact hz) λh' tk acc kp it=>?_);have hS:StrsAre acc.toList zs:=by
  have len:acc.toList.length=zs.length:=by have e1:=cc List.length hk;simp only[ak]at e1;rw[aZ,it.1];lia
  have at_:∀(j:Nat)(v:Value),acc.toList[j]?=some v->∃t,v=.str (zs.getD j "") t:=λj v e=>by
   obtain⟨k,y,e3,e4⟩:=it.2 j v (by rw[<-bK];exact e);have e5:(zs.map (Sum.inr:Str->Key))[j]?=some k:=by rw[<-hk,Ez,aI,e3];rfl
   rw[aI]at e5;obtain⟨z,e6,rfl⟩:=bb.mp e5;have e8:RelV (kV (Sum.inr z)) v:=q9 (k:=Sum.inr z) e4;obtain⟨t,e7⟩:=(show∃t,v=Value.str z t from e8);exact{t,by rw[e7,cS,e6];rfl}
  have go:∀(us:Aae)(zs:Aaf),us.length=zs.length->(∀(j:Nat)(v:Value),us[j]?=some v->∃t,v=.str (zs.getD j "") t)->StrsAre us zs:=by
   intro us
   induction us with
   |nil=>intro zs hl _;rw[ff.mp hl.symm];exact .nil
   |cons u us ih=>
    intro zs hl hk;cases zs with
    |nil=>simp at hl
    |cons z zs=>
     obtain⟨t,rfl⟩:=hk 0 u rfl;exact .cons z t (ih zs (by simpa using hl) λj v e=>by obtain⟨t,e'⟩:=hk (j+1) v (by simpa using e);exact{t,by simpa using e'})
  exact go _ _ len at_
 have adx:acc.toList.length<64:=by have:=hS.strs;rw[<-this,ak]at su;exact su
 refine ae (o9 ?_ (by rw[bU];lia));have zg:(h'.push (seqObj "list" acc.toList.toArray 0)).get? h'.objs.size=some (seqObj "list" acc.toList.toArray 0):=aB _ rfl;have I1:Inv X pins Z H {s with heap:=h',toks:=tk}:=I.kept kp;refine ae (bL (ba xg ⟨_,zg,rfl⟩ wa (list_sort_treeK strKind_oneLt (s:={s with heap:=h'.push (seqObj "list" acc.toList.toArray 0),toks:=tk}) zg hS.keysOf (λad8 ad7 rest e=>keyKind_strs (by rw[<-e];exact hS)) adx λlO hp hs=>{_,rfl,?_}) (xO _)));obtain⟨ss',h1,h2,h3⟩:=sorted_out_str hS hp hs;have e:=RW h2 h3;subst e;generalize (arrOf lO).map (·.2)=out at h1;have lt:h'.objs.size<(h'.push (seqObj "list" acc.toList.toArray 0)).objs.size:=aD zg;have ln:((jA zs).map V.str).length<=sizeLine:=by rw[ak,(tR zs).length_eq];exact bI (bN ∅)
 obtain⟨n,he⟩:∃n,(sortedHeap (h'.push (seqObj "list" acc.toList.toArray 0)) h'.objs.size acc.toList out).get? h'.objs.size=some (seqObj "list" out n):=by obtain⟨e1,JD⟩:∃e1,((h'.push (seqObj "list" acc.toList.toArray 0)).update h'.objs.size (Obj.mapSeq λ_=>(#[]:Aaj))).get? h'.objs.size=some (seqObj "list" #[] e1):={_,get?_update_seq zg λ_=>#[]};have ho3:=ah (seqObj "list" #[] 0) (ah (seqObj "tuple" acc.toList.toArray 0) JD);exact{_,get?_update_seq ho3 λ_=>out}
 have old:∀b o,h'.get? b=some o->(sortedHeap (h'.push (seqObj "list" acc.toList.toArray 0)) h'.objs.size acc.toList out).get? b=some o:=λb o e=>by have nb:b≠h'.objs.size:=aG (aD e);have g1:=ah (seqObj "list" acc.toList.toArray 0) e;have g2:=(bG (h'.push (seqObj "list" acc.toList.toArray 0)) h'.objs.size (Obj.mapSeq λ_=>(#[]:Aaj))).extBut b o nb g1;have g3:=ah (seqObj "list" #[] 0) (ah (seqObj "tuple" acc.toList.toArray 0) g2);exact(bG _ h'.objs.size (Obj.mapSeq λ_=>out)).extBut b o nb g3
 refine af {_,rfl,.ref h'.objs.size,_,I1.laid (t':=tk) old (ao _) (show cI X.prog X.w _ _ _ (.lst ((jA zs).map V.str))from{ln,out.toList,n,HJ h1,?_}),rfl,q _ (I1.bw.fresh (ao _))};exact he
end
def abD(hl:(apos.endLine==dU.line)=true:=by rfl)(hb:attributeBase (.Name d pd) "get" X.env (eval (.Name d pd) X.env)=eval (.Name d pd) X.env:=by rfl):M2 X (.Name d pd) "get" apos (.Name x px) (.List [] pl) dU:=⟨hb,rfl,hl,rfl⟩
section
variable{prog:Program}{w:World}{A:Around}{E:Aac}{s:Shared}{d it:Addr}{o:Obj}{es:Array DictEntry}{ep i:Nat}
def LA(lo:(d==sysModules)=false)(ho:s.heap.get? d=some o)(hx:o.ExactDict)(hd:o.data=.dict es ep)
  (q:Q (.ref s.heap.objs.size) {s with heap:=s.heap.push {cls:=.type "dict_keyiterator",data:=.fields #[.ref d,.int 0 0,.int es.size 0,.int ep 0]}}):wpAny (model prog w) A (pyIter (.ref d)) Q E s:=by
 have ty:s.TypeIs (.ref d) "dict":={o,ho,hx.1};refine kG ty wO (ba wO ty PySem.F.entry_dict_iter ?_ (PySem.F.args_dict_iter_1 _));refine ae (ae (gF ty (af ?_)));show wpAny _ _ (Builtin.Dict.showsAll d>>=_) _ _ s;unfold Builtin.Dict.showsAll;rw[lo];exact ae (af (ae (dW ho hd (ae (gh ho hd (ae (bV (af {_,rfl,"dict_keyiterator",_,{_,aB _ rfl,rfl},eO.lookup,q}))))))))
def OU(hit:s.heap.IsKeyIter it d i es.size ep)(ho:s.heap.get? d=some o)(hd:o.data=.dict es ep)(hi:i<es.size)
  (q:∀h',h'.IsKeyIter it d (i+1) es.size ep->Heap.SameBut it s.heap h'->Q (some es[i].key) {s with heap:=h'}):wpAny (model prog w) A (pyNext (.ref it)) Q E s:=by
 obtain⟨oi,xC,ci,di⟩:=id hit;refine ae (dv (wpAny_callSpecial?_slot hit.typeIs eO (ba eO hit.typeIs oh ?_ (nG _))));refine ae (af (ae (ae (ae (iw hit.typeIs (af ?_))))));refine ae (fW xC di ?_);have own:Builtin.Dict_items.ownsTuple "dict_keyiterator"=false:=by decide
 show wpAny _ _ (if(Value.ref d==Value.none)=true then _ else _) _ _ s;refine ae (af (ae (dW ho hd ?_)));rw[ax (by simp)];refine ae (af (ae (gh ho hd ?_)));rw[ax (by simp)];refine af ?_;simp only[show ¬((i:Int)<0)from by lia,cN,cA,bq hi];refine ae (ae (iw hit.typeIs (af (ae (xb hit.typeIs ?_)))));show wpAny _ _ (setField (.ref it) 1 (rawInt ((i:Int)+1))>>=_) _ _ s;refine ae (d5 xC di (by simp) ?_);have Fx:(s.heap.update it (Obj.mapFields (·.setIfInBounds 1 (rawInt ((i:Int)+1))))).IsKeyIter it d (i+1) es.size ep:=
  {_,cj _ xC (pN (iR di _)),(tF ..).trans ci,by rw[iR di];simp[rawInt]}
 refine ae (bL (ae (xb Fx.typeIs ?_)));exact af (af {_,rfl,af (q _ Fx (bG ..))})
def Gd(hh:A.handled=none)(hit:s.heap.IsKeyIter it d i es.size ep)(ho:s.heap.get? d=some o)(hd:o.data=.dict es ep)(hi:es.size<=i)
  (q:∀h',(∀b x,b≠it->s.heap.get? b=some x->h'.get? b=some x)->Q none {s with heap:=h'}):wpAny (model prog w) A (pyNext (.ref it)) Q E s:=by
 obtain⟨oi,xC,ci,di⟩:=id hit;refine ae (dv (wpAny_callSpecial?_slot hit.typeIs eO (ba eO hit.typeIs oh ?_ (nG _))));refine ae (af (ae (ae (ae (iw hit.typeIs (af ?_))))));refine ae (fW xC di ?_);have own:Builtin.Dict_items.ownsTuple "dict_keyiterator"=false:=by decide
 show wpAny _ _ (if(Value.ref d==Value.none)=true then _ else _) _ _ s;refine ae (af (ae (dW ho hd ?_)));rw[ax (by simp)];refine ae (af (ae (gh ho hd ?_)));rw[ax (by simp)];refine af ?_;simp only[show ¬((i:Int)<0)from by lia,cN,cA,iN hi];refine ae (ae (iw hit.typeIs (af ?_)));show wpAny _ _ (setField (.ref it) 0 .none>>=_) _ _ s;refine ae (d5 xC di (by simp) ?_);refine Tb.w6 (show A.in1.handled=none from hh) λh' e kp acV=>?_;obtain⟨oe,he,ce⟩:=acV;exact ae (fg ⟨oe,he,ce⟩ iF (af (q _ λb x nb g=>kp b x ((bD _ _ (bY nb)).trans g))))
end
def DX(P:Program)(w:World)(d:Addr)(kvs:List (Key×V))(ok ov:V):Heap->Prop:=λh=>(d==sysModules)=false/\∃o es ep vs e,h.get? d=some o/\o.ExactDict/\o.data=.dict (es.push e) ep/\KV kvs vs/\KeysOf (bJ P w) es/\Pairs (bJ P w) es.toList vs/\(vs.map (·.1)).Nodup/\RelV ok e.key/\RelV ov e.val/\kvs.length<=1000
section
variable{X:Cx}{pins:Aaa}{Z:St}{H:Hp}{s:Shared}
def Inv.Mq(I:Inv X pins Z H s)(hd:H d=some (.ext φ))(ho:s.heap.get? d=some o):Inv X pins Z (upd H d (.fA o (.ext φ))) s:=by
 have nd:∀b u,H b=some u->(∀l,u≠ .ext l)->b≠d:=λb u q n z=>by rw[z,hd]at q;exact n φ (bM q).symm
 refine I.un {λb u e _ _ _=>e,λb u e _ _ _=>{u.slots,e},λb u e n _=>by rw[aH ((λb q z=>by rw[z,hd]at q;cases q) b n)];exact n,λb u e _=>⟨u,e⟩,λb xs q=>by rw[aH (nd b _ q λl z=>by cases z)];exact q,λb u v q=>by rw[aH (nd b _ q λl z=>by cases z)];exact q,λb ps q=>{#[],by rw[aH (nd b _ q λl z=>by cases z),q];simp}} λb u g=>?_;by_cases hb:b=d
 ·subst hb;rw[ar]at g;cases g;exact{ho,I.bw b _ hd}
 ·rw[aH hb]at g;exact(I.bw b u g).j7 (λc v hc q=>q) (λc q=>by rw[aH (nd c _ q λl z=>by cases z)];exact q) λc ys q=>by rw[aH (nd c _ q λl z=>by cases z)];exact q
def Inv.ML(I:Inv X pins Z H s)(hd:H d=some (.fA o u))(hn:∀u v,X.aaf d≠some (.fA u v)):Inv X pins Z (upd H d u) s:=by
 have nd:∀b u,H b=some u->(∀v l,u≠ .fA v l)->b≠d:=λb u q n z=>by rw[z,hd]at q;exact n _ _ (bM q).symm
 have jw:∀b,H b=none->b≠d:=λb q z=>by rw[z,hd]at q;cases q
 refine{I.ok,I.os,I.bare,{I.base.keep,I.base.slot,λb u e n hx=>?_,I.base.there,λb xs q=>?_,λb u v q=>?_,λb ps q=>?_},I.loc,I.cell,?_,λx c e=>?_,λp hp=>?_,λb v g=>?_,I.len}
 ·have z:=I.base.free b u e n hx;rw[aH (jw b z)];exact z
 ·have z:=I.base.jM b xs q;rw[aH (nd b _ z λv l t=>by cases t)];exact z
 ·have z:=I.base.sQ b u v q;rw[aH (show b≠d fromλt=>hn u v (t▸q))];exact z
 ·obtain⟨m,z⟩:=I.base.xX b ps q;exact{m,by rw[aH (nd b _ z λv l t=>by cases t)];exact z}
 ·rw[aH (jw _ I.free)];exact I.free
 ·rw[aH (jw _ (I.nX x c e))];exact I.nX x c e
 ·obtain⟨a1,a2,a3,a4,a5⟩:=I.pin p hp;exact{a1,by rw[aH (jw _ a2)];exact a2,a3,a4,a5}
 ·by_cases hb:b=d
  ·subst hb;rw[ar]at g;cases g;exact((I.bw b _ hd).2).j7 (λc v hc q=>q) (λc q=>by rw[aH (nd c _ q λv l z=>by cases z)];exact q) λc ys q=>by rw[aH (nd c _ q λv l z=>by cases z)];exact q
  ·rw[aH hb]at g;exact(I.bw b v g).j7 (λc v hc q=>q) (λc q=>by rw[aH (nd c _ q λv l z=>by cases z)];exact q) λc ys q=>by rw[aH (nd c _ q λv l z=>by cases z)];exact q
end
inductive Yg(t:TE)(Z:St)(H:Hp)(Q:VK):Prop
 |mk (d:Addr) (_:(∀u v,H d≠some (.fA u v))) (_:t Z H λv H'=>∃o u,H' d=some (.fA o u)/\Q v (upd H' d u))
def Sj(h:PE X e t):PE X e (Yg t):=by intro pins s Z H Q I ht;obtain⟨d,hd,ht⟩:=ht;refine cX (h pins s Z H _ I ht) λv s1 x H1 I1 r1 ⟨o,u,e,q⟩=>{x,_,I1.ML e (λu v e=>hd u v (I.base.sQ d u v e)),r1,q}
def ItK(d:Addr)(o:Obj)(u:HO)(kvs:Aak):It:=
 {λi H=>H d=some (.fA o u)/\i<kvs.length,λi H x H'=>H'=H/\∃kv,kvs[i]?=some kv/\x=kv.1,λi H=>H d=some (.fA o u)/\kvs.length<=i}
def Kv(o:Obj)(es:Array DictEntry)(ep:Nat)(kvs:Aak):Prop:=o.ExactDict/\o.data=.dict es ep/\Paired (λ(p:V×V)(e:DictEntry)=>RelV p.1 e.key/\RelV p.2 e.val) kvs es.toList
def X3{K:Frag}(m:Kv o es ep kvs):Turn P w K tg (ItK d o u kvs) [it] it (λi h=>h.IsKeyIter it d i es.size ep) where
 mem:=by simp
 obj:=λi h st b hb=>by
  have e:b=it:=by simpa using hb
  subst e;obtain⟨v,e,c,q⟩:=st;exact{v,e,λv z=>by rw[q]at z;cases z}
 keep:=λi h h' st k=>by obtain⟨v,e,r⟩:=st;exact{v,k it (by simp) v e,r}
 item:=by
  intro X hP hw hK hc i pins s Z H E I hf st hg;obtain⟨hd,hi⟩:=hg;have hl:kvs.length=es.size:=by rw[a9 m.2.2,aZ]
  obtain⟨f0,f1,f2,f3,f4,f5⟩:=hf it (by simp);obtain⟨kv,ou⟩:∃kv,kvs[i]?=some kv:={_,aq hi};have Qw:i<es.size:=by lia
  obtain⟨e,he,r⟩:=Paired.at' m.2.2 ou;have ee:es[i]=e:=by rw[bK,bq Qw]at he;exact bM he
  refine OU st ((I.bw d _ hd).1) m.2.1 Qw λh' lO sb=>?_;obtain⟨v,ev,c,q⟩:=id lO;exact{_,rfl,EF ev c q (by decide) {kv.1,H,(I.turned (t':=s.toks) (λb o hb e=>(sb.2 b hb).trans e) f0 f1 f3 f4 f5),ee▸r.1,⟨rfl,kv,ou,rfl⟩,lO,λb hb=>(hf b hb).1}}
 done:=by
  intro X hP hw hK hc i pins s Z H E I hf st hg;obtain⟨hd,hi⟩:=hg;have hl:kvs.length=es.size:=by rw[a9 m.2.2,aZ]
  obtain⟨f0,f1,f2,f3,f4,f5⟩:=hf it (by simp);exact Gd (I.ok.hd hc) st ((I.bw d _ hd).1) m.2.1 ∅ λh' eb=>{rfl,I.turned (λb o hb e=>eb b o hb e) f0 f1 f3 f4 f5}
 self:=λ_ _ _ _ _ st h=>xV st h
def ab6(P:Program)(w:World)(d:Addr)(u:HO)(kvs:Aak):Prop:=(∃l,u=.dK l/\kvs=l.map λp=>(kV p.1,p.2))\/∃l ok ov,u=.ext (DX P w d l ok ov)/\kvs=(l.map λp=>(kV p.1,p.2))++[(ok,ov)]
def Ee(rel:KV kvs vs)(hp:Pairs (bJ P w) es vs):Paired (λ(p:V×V)(e:DictEntry)=>RelV p.1 e.key/\RelV p.2 e.val) (kvs.map λp=>(kV p.1,p.2)) es:=by
 induction hp generalizing kvs with
 |nil=>cases rel;exact .nil
 |@cons e kv es vs hk hv _ ih=>
  cases rel with
  |@cons p _ ps _ hr t=>exact .cons {q9 (hr.1▸hk),hv▸hr.2} (ih t)
def Xj(x:cI P w H h d u)(hv:ab6 P w d u kvs):(d==sysModules)=false/\∃o es ep,h.get? d=some o/\Kv o es ep kvs:=by
 rcases hv with⟨l,rfl,rfl⟩|⟨l,ok,ov,rfl,rfl⟩
 ·obtain⟨_,lo,vs,rel,o,es,ep,ga,hx,hd,_,hp,_⟩:=x;exact{lo,o,es,ep,ga,hx,hd,Ee rel hp}
 ·obtain⟨⟨lo,o,es,ep,vs,e,ga,hx,hd,rel,_,hp,_,r1,r2,_⟩,_⟩:=x;refine{lo,o,_,ep,ga,hx,hd,?_};rw[tM];exact wQ (Ee rel hp) ⟨r1,r2⟩
def Ig(hv:s.heap.IsItemsView v d)(ho:s.heap.get? d=some o)(hd:o.data=.dict es ep)
  (q:Q (.ref s.heap.objs.size) {s with heap:=s.heap.push {cls:=.type "dict_itemiterator",data:=.fields #[.none,.bool false,.ref d,.int 0 0,.int es.size 0,.int ep 0,.none,.none]}}):wpAny (model prog w) A (pyIter (.ref v)) Q E s:=by
 obtain⟨ov,hov,hcv,hdv⟩:=id hv;refine kG hv.typeIs rH (ba rH hv.typeIs PySem.F.entry_dict_items_iter ?_ (PySem.F.args_dict_items_iter_1 _));refine ae (af (ae (ae (bH hov hdv rfl (af ?_)))));refine ae (ae (dW ho hd (ae (gh ho hd ?_))));have own:Builtin.Dict_items.ownsTuple "dict_itemiterator"=true:=by decide
 simp only[own,jJ];refine bV (af {_,rfl,"dict_itemiterator",_,{_,aB _ rfl,rfl},bX.lookup,?_}) (by simp only[sizeOk,Builtin.Dict_items.ownedTupleFields,aO,aM,bu,gk,bU];lia);simpa[rawInt,Builtin.Dict_items.ownedTupleFields]using q
inductive Yh(t:TS)(D:Ends)(Z:St)(H:Hp):Prop
 |mk (d:Addr) (_:(∀u v,H d≠some (.fA u v))) (_:t {D with nx:=λσ' H'=>∃o u,H' d=some (.fA o u)/\D.nx σ' (upd H' d u),rt:=λv H'=>∃o u,H' d=some (.fA o u)/\D.rt v (upd H' d u)} Z H)
def Sf{st:Stmt}(h:PS X st t):PS X st (Yh t):=by
 intro pins s Z H D I ht;obtain⟨d,hd,ht⟩:=ht;have h0:=λu v e=>hd u v (I.base.sQ d u v e);refine iB (h pins s Z H _ I ht) λf s1 q=>?_;cases f with
 |next=>
  obtain⟨σ',H',J,o,u,e,n⟩:=q;exact{σ',_,J.ML e h0,n}
 |brk=>exact q
 |cont=>exact q
 |ret u=>
  obtain⟨v,σ',H',J,r,o,u',e,n⟩:=q;exact{v,σ',_,J.ML e h0,r,n}
section
variable{d:Addr}{o:Obj}{u:HO}{kvs:Aak}
def Od(Pv:Nat->Aam->Hp->Prop)(hx:kvs.length<sizeLine)(h0:Pv 0 [] H1)(hl:∀i ys H,i<=kvs.length->Pv i ys H->H d=some (.fA o u)/\ys.length<=i)
  (hs:∀(i:Nat)(kv:V×V)(ys:Aam)(H:Hp)(N:Aam->Hp->Prop),kvs[i]?=some kv->Pv i ys H->(∀lL H',Pv (i+1) lL H'->N lL H')->
   tt (some kv.1::slotsOf fr Z) H λb H4=>if b=true then te (some kv.1::slotsOf fr Z) H4 (λy H5=>N (ys++[y]) H5)else N ys H4)
  (hd:∀ys H,Pv kvs.length ys H->∀l,H l=none->R l ys H):DM (ItK d o u kvs) fr tt te Z H1 R:=by
 refine{λi m ys H=>m=kvs.length -i/\i<=kvs.length/\Pv i ys H,{kvs.length,by simp,aR _,h0},?_};rintro i m ys H ⟨rfl,hi,p⟩;obtain⟨q,hy⟩:=hl i ys H hi p;by_cases cw:i<kvs.length
 ·refine .inr {⟨q,cw⟩,by lia,?_};rintro v H3 ⟨rfl,kv,ou,rfl⟩;exact hs i kv ys H3 (λlL H'=>∃m',m'<kvs.length -i/\m'=kvs.length -(i+1)/\i+1<=kvs.length/\Pv (i+1) lL H') ou p λlL H' p'=>{_,by lia,rfl,cw,p'}
 ·have e:i=kvs.length:=by lia
  subst e;exact .inl {{q,ao _},by lia,hd ys H p}
def eW.keep{K:Frag}(h:eW K H ys rows)(k:∀a xs,bf K H a xs->bf K H' a xs):eW K H' ys rows:=by
 induction h with
 |nil=>exact .nil
 |cons hr _ ih=>
  obtain⟨a,e,hr⟩:=hr;exact .cons {a,e,k _ _ hr} ih
inductive NK:Type
 |cb
 |key (k:Key)
 |tup (ks:List NK)
noncomputable instance:DecidableEq NK:=λa b=>Classical.propDecidable (a=b)
end
section
variable(P:Program)(w:World)
mutual
inductive jm(h:Heap):NK->Value->Prop
 |cb:jm h .cb .none
 |key {k:Key} {v:Value}:(bJ P w).is k v=true->jm h (.key k) v
 |tup {ks:List NK} {a:Addr} {o:Obj} {items:Aaj} {n:Nat}:h.get? a=some o->o.cls=.type "tuple"->o.data=.seq items n->jR h ks items.toList->jm h (.tup ks) (.ref a)
inductive jR(h:Heap):List NK->Aae->Prop
 |nil:jR h [] []
 |cons {k:NK} {v:Value} {ks:List NK} {vs:Aae}:jm h k v->jR h ks vs->jR h (k::ks) (v::vs)
end
mutual
def NK.hash:NK->Int
 | .cb=>0xFCA86420
 | .key k=>(bJ P w).hash k
 | .tup ks=>reduceHash (Builtin.Tuple.tupleHashOf (NK.hashes ks))
def NK.hashes:List NK->List Int
 |[]=>[]
 |k::ks=>NK.hash k::NK.hashes ks
end
mutual
def NK.draws:NK->Nat
 | .cb=>1
 | .key _=>1
 | .tup ks=>NK.nr ks+1
def NK.nr:List NK->Nat
 |[]=>0
 |k::ks=>NK.draws k+NK.nr ks
end
mutual
def NK.deep:NK->Nat
 | .cb=>0
 | .key _=>0
 | .tup ks=>NK.jK ks+1
def NK.jK:List NK->Nat
 |[]=>0
 |k::ks=>max (NK.deep k) (NK.jK ks)
end
end
section
variable{P:Program}{w:World}{A:Around}{E:Aac}{s:Shared}
def NW(q:Q 0xFCA86420 {s with toks:=s.toks+1}):wpAny (model P w) A (pyHash .none) Q E s:=by have ty:s.TypeIs .none "NoneType":=rfl;refine ae (wpAny_cRoomFor_byValue rfl (ae (gg ty jr.lookup ?_)));refine ae (gg ty jr.lookup ?_);refine ae (wpAny_callSpecialIfBoundUnlessNone?_slot ty jr (ba jr ty PySem.F.entry_NoneType_hash (show wpAny _ _ (do ret (<-mkInt 0xFCA86420)) _ _ s from wpAny_ret_mkInt ?_) (PySem.F.args_NoneType_hash_1 _)));exact af q
def NK.Tr(ks:List NK):NK.hash P w (.tup ks)=reduceHash (Builtin.Tuple.tupleHashOf (NK.hashes P w ks)):=by rw[NK.hash]
def QH(hu:A.units<cLine)(ho:s.heap.get? a=some o)(hc:o.cls=.type "tuple")(hd:o.data=.seq items n)(hi:jR P w s.heap ks items.toList)
  (ih:∀(A':Around)(k:NK)(v:Value)(t:Nat)(E':Aac)(R:Int->Shared->Prop),A'.units<=A.units+4->k∈ks->jm P w s.heap k v->R (NK.hash P w k) {s with toks:=t+NK.draws k}->wpAny (model P w) A' (pyHash v) R E' {s with toks:=t})
  (h:Q (NK.hash P w (.tup ks)) {s with toks:=s.toks+NK.draws (.tup ks)}):wpAny (model P w) A (pyHash (.ref a)) Q E s:=by
 have hT:s.TypeIs (.ref a) "tuple":=⟨o,ho,hc⟩;refine ae (wpAny_cRoomFor_or (.inr hu) ?_);refine ae (gg hT jy.lookup ?_);refine ae (gg hT jy.lookup ?_);refine ae (wpAny_callSpecialIfBoundUnlessNone?_slot hT jy (ba jy hT F.entry_tuple_hash ?_ (F.args_tuple_hash_1 _)));show wpAny _ _ (Builtin.Tuple.tupleItemsOf (.ref a)>>=_) _ _ s;refine ae (wpAny_tupleItemsOf ho hd ?_);refine ae ?_;rw[<-iU];refine fP _
  (λrest(b:Array Int) s'=>∃done left,ks=done++left/\jR P w s.heap left rest/\b.toList=NK.hashes P w done/\s'={s with toks:=s.toks+NK.nr done})
  _ ?_ ?_ _ _ {[],ks,rfl,hi,by simp[NK.hashes],by simp[NK.nr]}
 ·rintro x rest b s' ⟨done,left,e,hl,hb,rfl⟩;cases hl with
  |@cons k _ Jl _ h1 oS=>
   have e2:NK.hashes P w (done++[k])=NK.hashes P w done++[NK.hash P w k]:=by
    clear e hb
    induction done with
    |nil=>simp[NK.hashes]
    |cons a r Qc=>simp only[lJ,NK.hashes,Qc]
   have e3:NK.nr (done++[k])=NK.nr done+NK.draws k:=by
    clear e hb e2
    induction done with
    |nil=>simp[NK.nr]
    |cons a r Qc=>simp only[lJ,NK.nr,Qc];lia
   refine ae (ih _ k x _ _ _ ?_ (by rw[e];simp) h1 (af {done++[k],Jl,by rw[e];simp,oS,by simp[hb,e2],by rw[e3,sU]}))
   ·show A.units+1<=A.units+4;lia
 ·rintro b s' ⟨done,left,rfl,hl,hb,rfl⟩;cases hl;rw[cJ]at h;show wpAny _ _ (retInt (Builtin.Tuple.tupleHashOf b.toList)) _ _ _;rw[hb];refine wpAny_ret_mkInt ?_;show wpAny _ _ (if(decide (-(2:Int)^63<=Builtin.Tuple.tupleHashOf (NK.hashes P w done))&&decide (Builtin.Tuple.tupleHashOf (NK.hashes P w done)<2^63))=true then _ else _) Q E _;rw[NK.Tr,NK.draws]at h;unfold reduceHash at h;by_cases hr:(decide (-(2:Int)^63<=Builtin.Tuple.tupleHashOf (NK.hashes P w done))&&decide (Builtin.Tuple.tupleHashOf (NK.hashes P w done)<2^63))=true
  ·rw[aA hr];rw[aA hr]at h;exact af (by simpa[sU]using h)
  ·rw[ax hr];rw[ax hr]at h;exact ae (gz (af (by simpa[sU]using h)))
mutual
theorem QI:∀(k:NK)(A:Around)(E:Aac)(s:Shared)(v:Value)(Q:Int->Shared->Prop),A.units+4*NK.deep k<cLine->jm P w s.heap k v->Q (NK.hash P w k) {s with toks:=s.toks+NK.draws k}->wpAny (model P w) A (pyHash v) Q E s
 | .cb,A,E,s,v,Q,hu,r,q=>by cases r;rw[NK.hash,NK.draws]at q;exact NW q
 | .key k,A,E,s,v,Q,hu,r,q=>by
  cases r with
  |key h=>
   rw[NK.hash,NK.draws]at q;exact(bJ P w).pyHash h q
 | .tup ks,A,E,s,v,Q,hu,r,q=>by
  cases r with
  |tup ho hc hd hi=>
   rw[NK.deep]at hu;exact QH ∅ ho hc hd hi (λA' k v t E' R hA hk r q=>JP ks k hk A' E' {s with toks:=t} v R ∅ r q) q
theorem JP:∀(ks:List NK)(k:NK),k∈ks->∀(A:Around)(E:Aac)(s:Shared)(v:Value)(Q:Int->Shared->Prop),A.units+4*NK.jK ks<cLine->jm P w s.heap k v->Q (NK.hash P w k) {s with toks:=s.toks+NK.draws k}->wpAny (model P w) A (pyHash v) Q E s
 |[],k,h,A,E,s,v,Q,hu,r,q=>by cases h
 |k0::ks,k,h,A,E,s,v,Q,hu,r,q=>by
  rw[NK.jK]at hu;rcases aF.mp h with e|h
  ·rw[e]at r q;exact QI k0 A E s v Q ∅ r q
  ·exact JP ks k h A E s v Q ∅ r q
end
end
section
variable{P:Program}{w:World}
mutual
theorem LI:∀(k:NK)(n:Nat)(A:Around)(E:Aac)(s:Shared)(v:Value)(Q:Bool->Shared->Prop),jm P w s.heap k v->NK.deep k<=n->Q true s->wpAny (model P w) A (eqIsQuiet n v) Q E s
 | .cb,n,A,E,s,v,Q,r,_,q=>by cases r;rw[BO n rfl];exact af q
 | .key k,n,A,E,s,v,Q,r,_,q=>by
  cases r with
  |key h=>
   rw[BO n ((bJ P w).byValue _ _ h)];exact af q
 | .tup ks,0,A,E,s,v,Q,r,hn,q=>by rw[NK.deep]at hn;exact absurd hn ∅
 | .tup ks,n+1,A,E,s,v,Q,r,hn,q=>by
  cases r with
  |@tup _ a o items m ho hc hd hi=>
   rw[NK.deep]at hn;have hT:s.TypeIs (.ref a) "tuple":=⟨o,ho,hc⟩;unfold eqIsQuiet;refine ae (gg hT F.slot_tuple_eq.lookup ?_);show wpAny _ _ (isInstance (.ref a) (.type "tuple")>>=_) _ _ s;refine ae (fg hT isSubtype_tuple_tuple ?_);simp only[kj,bE,cN];refine ae (bQ ho hd ?_);refine ae ?_;show wpAny _ _ (forIn items _ _) _ _ s;rw[<-iU];refine fP _ (λrest r s'=>r.1=none/\s'=s/\∃left,jR P w s.heap left rest/\∀k∈left,k∈ks) _ ?_ ?_ _ _ {rfl,rfl,ks,hi,λ_ h=>h}
   ·rintro v rest r s' ⟨hr,rfl,left,hl,hm⟩;cases hl with
    |@cons k _ Jl _ h1 oS=>
     refine ae (Ge ks k (hm k ay) n _ _ _ v _ h1 ∅ ?_);simp only[kj,bE,cN];exact af {rfl,rfl,Jl,oS,λk' AL=>hm k' (az _ AL)}
   ·rintro⟨r1,r2⟩ s' ⟨hr,rfl,_⟩;simp only at hr;subst hr;exact af q
theorem Ge:∀(ks:List NK)(k:NK),k∈ks->∀(n:Nat)(A:Around)(E:Aac)(s:Shared)(v:Value)(Q:Bool->Shared->Prop),jm P w s.heap k v->NK.jK ks<=n->Q true s->wpAny (model P w) A (eqIsQuiet n v) Q E s
 |[],k,h,n,A,E,s,v,Q,r,hn,q=>by cases h
 |k0::ks,k,h,n,A,E,s,v,Q,r,hn,q=>by
  rw[NK.jK]at hn;rcases aF.mp h with e|h
  ·rw[e]at r;exact LI k0 n A E s v Q r ∅ q
  ·exact Ge ks k h n A E s v Q r ∅ q
end
mutual
def NK.toD:NK->PyData
 | .cb=>.none
 | .key (.inl i)=>.int i
 | .key (.inr z)=>.str z
 | .tup ks=>.tuple (NK.mn ks)
def NK.mn:List NK->List PyData
 |[]=>[]
 |k::ks=>NK.toD k::NK.mn ks
end
mutual
theorem Fj:∀(k:NK){h:Heap}{v:Value},jm P w h k v->∃as,Reads h v (NK.toD k) as
 | .cb,h,v,r=>by cases r;rw[NK.toD];exact{_,.none}
 | .key (.inl i),h,v,r=>by
  cases r with
  |key q=>
   obtain⟨t,rfl⟩:=(show RelV (.int i) v from q9 (k:=Sum.inl i) q);rw[NK.toD];exact{_,.int i t}
 | .key (.inr z),h,v,r=>by
  cases r with
  |key q=>
   obtain⟨t,rfl⟩:=(show RelV (.str z) v from q9 (k:=Sum.inr z) q);rw[NK.toD];exact{_,.str z t}
 | .tup ks,h,v,r=>by
  cases r with
  |tup ho hc hd hi=>
   obtain⟨as,q⟩:=Io ks hi;rw[NK.toD];exact{_,.tuple ho hc hd q}
theorem Io:∀(ks:List NK){h:Heap}{vs:Aae},jR P w h ks vs->∃as,ReadsAll h vs (NK.mn ks) as
 |[],h,vs,r=>by cases r;rw[NK.mn];exact{_,.nil}
 |k::ks,h,vs,r=>by
  cases r with
  |cons r1 r2=>
   obtain⟨as,q1⟩:=Fj k r1;obtain⟨bs,q2⟩:=Io ks r2;rw[NK.mn];exact{_,.cons q1 q2}
end
mutual
theorem VB:∀(x y:NK),PyData.eqv (NK.toD x) (NK.toD y)=true↔x=y
 | .cb,.cb=>by simp[NK.toD,PyData.eqv]
 | .cb,.key (.inl _)=>by simp[NK.toD,PyData.eqv]
 | .cb,.key (.inr _)=>by simp[NK.toD,PyData.eqv]
 | .cb,.tup _=>by simp[NK.toD,PyData.eqv]
 | .key (.inl _),.cb=>by simp[NK.toD,PyData.eqv]
 | .key (.inl i),.key (.inl j)=>by simp[NK.toD,PyData.eqv]
 | .key (.inl _),.key (.inr _)=>by simp[NK.toD,PyData.eqv]
 | .key (.inl _),.tup _=>by simp[NK.toD,PyData.eqv]
 | .key (.inr _),.cb=>by simp[NK.toD,PyData.eqv]
 | .key (.inr _),.key (.inl _)=>by simp[NK.toD,PyData.eqv]
 | .key (.inr a),.key (.inr b)=>by simp[NK.toD,PyData.eqv]
 | .key (.inr _),.tup _=>by simp[NK.toD,PyData.eqv]
 | .tup _,.cb=>by simp[NK.toD,PyData.eqv]
 | .tup _,.key (.inl _)=>by simp[NK.toD,PyData.eqv]
 | .tup _,.key (.inr _)=>by simp[NK.toD,PyData.eqv]
 | .tup xs,.tup ys=>by rw[NK.toD,NK.toD,PyData.eqv,QZ xs ys];exact{cc NK.tup,λh=>by injection h}
theorem QZ:∀(xs ys:List NK),PyData.eqvAll (NK.mn xs) (NK.mn ys)=true↔xs=ys
 |[],[]=>by simp[NK.mn,PyData.eqvAll]
 |[],_::_=>by simp[NK.mn,PyData.eqvAll]
 |_::_,[]=>by simp[NK.mn,PyData.eqvAll]
 |x::xs,y::ys=>by rw[NK.mn,NK.mn,PyData.eqvAll,bF,VB x y,QZ xs ys];simp
end
def Co(h:(bJ P w).is k (.ref a)=true):False:=by have:=(bJ P w).byValue _ _ h;cases this
def AD(h:(bJ P w).is k .none=true):False:=by
 have:=q9 (k:=k) h;cases k with
 |inl i=>obtain⟨t,e⟩:=(show∃t,Value.none=Value.int i t from this);cases e
 |inr z=>obtain⟨t,e⟩:=(show∃t,Value.none=Value.str z t from this);cases e
mutual
theorem U1:∀(x y:NK){h:Heap}{v:Value},jm P w h x v->jm P w h y v->x=y
 | .cb,y,h,v,r1,r2=>by
  cases r1;cases r2 with
  |cb=>rfl
  |key q=>exact(AD q).elim
 | .key k,y,h,v,r1,r2=>by
  cases r1 with
  |key q=>
   cases r2 with
   |cb=>exact(AD q).elim
   |key q2=>rw[(bJ P w).inj _ _ _ q q2]
   |tup=>exact(Co q).elim
 | .tup ks,y,h,v,r1,r2=>by
  cases r1 with
  |tup ho hc hd hi=>
   cases r2 with
   |key q=>exact(Co q).elim
   |@tup ks2 _ o2 ad3 n2 xD xG hd2 Vi=>
    rw[ho]at xD;cases xD;rw[hd]at hd2;injection hd2 with e1 _;subst e1;rw[Qb ks ks2 hi Vi]
theorem Qb:∀(xs ys:List NK){h:Heap}{vs:Aae},jR P w h xs vs->jR P w h ys vs->xs=ys
 |[],ys,h,vs,r1,r2=>by cases r1;cases r2;rfl
 |x::xs,ys,h,vs,r1,r2=>by
  cases r1 with
  |cons a b=>
   cases r2 with
   |@cons y _ ys _ c d=>rw[U1 x y a c,Qb xs ys b d]
end
mutual
theorem Jo(h h':Heap)(k:∀b o,(∃aP n,o.data=.seq aP n)->h.get? b=some o->h'.get? b=some o):∀(x:NK){v:Value},jm P w h x v->jm P w h' x v
 | .cb,v,r=>by cases r;exact .cb
 | .key _,v,r=>by
  cases r with
  |key q=>exact .key q
 | .tup ks,v,r=>by
  cases r with
  |tup ho hc hd hi=>exact .tup (k _ _ ⟨_,_,hd⟩ ho) hc hd (L0 h h' k ks hi)
theorem L0(h h':Heap)(k:∀b o,(∃aP n,o.data=.seq aP n)->h.get? b=some o->h'.get? b=some o):∀(xs:List NK){vs:Aae},jR P w h xs vs->jR P w h' xs vs
 |[],vs,r=>by cases r;exact .nil
 |x::xs,vs,r=>by
  cases r with
  |cons a b=>exact .cons (Jo h h' k x a) (L0 h h' k xs b)
end
def Km(P:Program)(w:World)(h:Heap)(k:NK)(a:Addr):Prop:=jm P w h k (.ref a)/\(NK.toD k).canLay0=true/\(NK.toD k).depth<=7/\NK.deep k<=7
noncomputable def jN(P:Program)(w:World):HeapKind P w NK where
 is:=Km P w
 hash:=NK.hash P w
 draws:=NK.draws
 room:=λA=>A.units+100<cLine
 inj:=λhx hy=>U1 _ _ hx.1 hy.1
 keeps:=λx ho hd hs=>⟨Jo _ _ (λb o' n e=>by refine(hs.2 b ?_).trans e;rintro rfl;rw[ho]at e;cases e;obtain⟨_,_,z⟩:=n;rw[hd]at z;cases z) _ x.1,x.2⟩
 pyHash:=λhu hk h=>QI _ _ _ _ _ _ (by have:=hk.2.2.2;lia) hk.1 h
 eqBool:=λ{A E s x y a b Q} hu hx hy h=>by
  obtain⟨as,r1⟩:=Fj x hx.1;obtain⟨bs,r2⟩:=Fj y hy.1;have e:PyData.eqv (NK.toD x) (NK.toD y)=decide (x=y):=by rw[fJ,VB,iQ]
  have:=SeqAt.eqAt_reads _ _ A s _ _ as bs r1 r2 hx.2.1 hy.2.1 (by have:=hx.2.2.1;have:=Nat.min_le_left (NK.toD x).depth (NK.toD y).depth;lia);rw[e]at this;exact this P w E Q h
 quiet:=λhk h=>LI _ 8 _ _ _ _ _ hk.1 (by have:=hk.2.2.2;lia) h
end
def DN(P:Program)(w:World)(d:Addr)(kvs:List (NK×Addr×V)):Heap->Prop:=λh=>(d==sysModules)=false/\∃xs:List (NK×Addr×Value),Paired (λ(p:NK×Addr×V)(q:NK×Addr×Value)=>p.1=q.1/\p.2.1=q.2.1/\RelV p.2.2 q.2.2) kvs xs/\kvs.length<=10000000/\
 ∃o es ep,h.get? d=some o/\o.ExactDict/\o.data=.dict es ep/\es.toList=xs.map (entryOfKey (jN P w))/\(xs.map (·.1)).Nodup
def N8(x:DN P w d kvs h):cI P w H h d (.ext (DN P w d kvs)):=
 {x,let⟨_,_,_,_,o,_,_,q,_⟩:=x;⟨o,q⟩,λ_ _ ⟨l,xs,p,n,o,es,ep,q,r⟩ k=>{l,xs,p,n,o,es,ep,k _ q,r}}
mutual
def NV(K:Frag)(H:Hp):NK->V->Prop
 | .cb,v=>v=.cb
 | .key k,v=>v=kV k
 | .tup ks,v=>∃a xs,v=.ref a/\bf K H a xs/\oZ K H ks xs
def oZ(K:Frag)(H:Hp):List NK->Aam->Prop
 |[],xs=>xs=[]
 |k::ks,xs=>∃x r,xs=x::r/\NV K H k x/\oZ K H ks r
end
section
variable{X:Cx}{pins:Aaa}{Z:St}{H:Hp}{s:Shared}
mutual
theorem IY(I:Inv X pins Z H s):∀(k:NK)(v:V)(u:Value),NV X.K H k v->RelV v u->jm X.prog X.w s.heap k u
 | .cb,v,u,h,r=>by rw[NV]at h;subst h;cases(show u=Value.none from r);exact .cb
 | .key k,v,u,h,r=>by rw[NV]at h;subst h;exact .key (vT r)
 | .tup ks,v,u,h,r=>by rw[NV]at h;obtain⟨a,xs,rfl,hq,ha⟩:=h;cases r;obtain⟨aP,rv,⟨o,e,c,n,d⟩,_⟩:=I.tuple hq;exact .tup e c d (by simpa using Gp I ks xs aP ha rv)
theorem Gp(I:Inv X pins Z H s):∀(ks:List NK)(xs:Aam)(us:Aae),oZ X.K H ks xs->Vals xs us->jR X.prog X.w s.heap ks us
 |[],xs,us,h,r=>by rw[oZ]at h;subst h;cases r;exact .nil
 |k::ks,xs,us,h,r=>by
  rw[oZ]at h;obtain⟨x,t,rfl,h1,h2⟩:=h;cases r with
  |cons r1 r2=>exact .cons (IY I k x _ h1 r1) (Gp I ks t _ h2 r2)
end
def VP(k:NK):Prop:=(NK.toD k).canLay0=true/\(NK.toD k).depth<=7/\NK.deep k<=7
end
def hV(K:Frag)(H:Hp)(k:NK)(a:Addr):Prop:=NV K H k (.ref a)/\VP k
def fK(P:Program)(w:World)(K:Frag)(H:Hp)(a:Addr)(kvs:List (NK×Addr×V)):Prop:=(H a=some (.ext (DN P w a kvs))\/(kvs=[]/\H a=some (.dK [])))/\∀p∈kvs,hV K H p.1 p.2.1
def valN(kvs:List (NK×Addr×V))(k:NK):Aan:=(kvs.find? λp=>decide (p.1=k)).map (·.2.2)
def putN(kvs:List (NK×Addr×V))(k:NK)(a:Addr)(v:V):List (NK×Addr×V):=if(valN kvs k).isSome then kvs.map (λp=>if p.1=k then(p.1,p.2.1,v)else p)else kvs++[(k,a,v)]
def xj(rel:Paired (λ(p:NK×Addr×V)(q:NK×Addr×Value)=>p.1=q.1/\p.2.1=q.2.1/\RelV p.2.2 q.2.2) kvs xs)(k:NK):kW (valN kvs k) ((atKey xs k).map (·.2)):=by
 unfold valN atKey
 induction rel with
 |nil=>exact trivial
 |@cons p q ps qs h _ ih=>
  by_cases c:p.1=k
  ·rw[eJ (p:=λp:NK×Addr×V=>decide (p.1=k)) (aX c),eJ (p:=λx:NK×Addr×Value=>decide (x.1=k)) (aX (h.1.symm.trans c))];exact h.2.2
  ·rw[eK (p:=λp:NK×Addr×V=>decide (p.1=k)) (λd=>c (aW d)),eK (p:=λx:NK×Addr×Value=>decide (x.1=k)) (λd=>c (h.1.trans (aW d)))];exact ih
section
variable{X:Cx}{pins:Aaa}{Z:St}{H:Hp}{s:Shared}{A:Around}{E:Aac}{a b:Addr}{kvs:List (NK×Addr×V)}{k:NK}{v:V}
def Inv.AE(I:Inv X pins Z H s)(h:hV X.K H k b):(jN X.prog X.w).is s.heap k b:={IY I k (.ref b) (.ref b) h.1 rfl,h.2}
def Inv.qt(I:Inv X pins Z H s)(h:fK X.prog X.w X.K H a kvs):(a==sysModules)=false/\∃xs,Paired (λ(p:NK×Addr×V)(q:NK×Addr×Value)=>p.1=q.1/\p.2.1=q.2.1/\RelV p.2.2 q.2.2) kvs xs/\kvs.length<=10000000/\s.heap.DictOfH (jN X.prog X.w) a xs:=by
 obtain⟨h1,h2⟩:=h;have keys:∀{l:List (NK×Addr×V)}{xs:List (NK×Addr×Value)},Paired (λ(p:NK×Addr×V)(q:NK×Addr×Value)=>p.1=q.1/\p.2.1=q.2.1/\RelV p.2.2 q.2.2) l xs->(∀p∈l,hV X.K H p.1 p.2.1)->∀x∈xs,(jN X.prog X.w).is s.heap x.1 x.2.1:=λr=>by
  induction r with
  |nil=>intro _ x hx;cases hx
  |@cons p q ps qs h _ ih=>
   intro hk x hx;rcases aF.mp hx with rfl|hx
   ·rw[<-h.1,<-h.2.1];exact I.AE (hk p ay)
   ·exact ih (λp hp=>hk p (az _ hp)) x hx
 rcases h1 with h1|⟨rfl,h1⟩
 ·obtain⟨⟨lo,xs,rel,hl,o,es,ep,g,hx,hd,he,nd⟩,_⟩:=(show cI X.prog X.w H s.heap a (.ext (DN X.prog X.w a kvs))from I.bw a _ h1);exact{lo,xs,rel,hl,o,es,ep,g,hx,hd,he,keys rel h2,nd}
 ·obtain⟨_,lo,vs,rel,o,es,ep,g,hx,hd,_,hp,_⟩:=wb I.bw h1;cases rel;have e0:es.toList=[]:=by have:=hp.length;exact ff.mp this
  exact{lo,[],.nil,aR _,o,es,ep,g,hx,hd,by rw[e0];rfl,λx h=>(by cases h),jL}
def aaV(hu:A.units+101<cLine)(I:Inv X pins Z H s)(h:fK X.prog X.w X.K H a kvs)(hk:hV X.K H k b)(hv:valN kvs k=some v)(q:∀w' s',Inv X pins Z H s'->RelV v w'->Q w' s'):wpAny (model X.prog X.w) A (getItem (.ref a) (.ref b)) Q E s:=by obtain⟨lo,xs,rel,hl,dd⟩:=I.qt h;obtain⟨w',hw,lT⟩:=kW.some_of (hv▸xj rel k);obtain⟨p,hp,lW⟩:=bb.mp hw;refine zJ (show A.units+1+100<cLine by lia) (I.AE hk) dd hp ?_;rw[lW];exact q w' _ (I.tok _) lT
def TL(hu:A.units+101<cLine)(I:Inv X pins Z H s)(h:fK X.prog X.w X.K H a kvs)(hk:hV X.K H k b)(q:∀s',Inv X pins Z H s'->Q (.bool (!(valN kvs k).isSome)) s'):wpAny (model X.prog X.w) A (compareOp .NotIn (.ref b) (.ref a)) Q E s:=by obtain⟨lo,xs,rel,hl,dd⟩:=I.qt h;refine wpAny_notIn_heap (show A.units+1+100<cLine by lia) (I.AE hk) lo dd ?_;have e:=(xj rel k).se;rw[hZ]at e;rw[<-e];exact q _ (I.tok _)
def C1(rel:Paired (λ(p:NK×Addr×V)(q:NK×Addr×Value)=>p.1=q.1/\p.2.1=q.2.1/\RelV p.2.2 q.2.2) kvs xs)(rv:RelV v r):Paired (λ(p:NK×Addr×V)(q:NK×Addr×Value)=>p.1=q.1/\p.2.1=q.2.1/\RelV p.2.2 q.2.2) (putN kvs k b v) (storedH xs k b r):=by
 have e:=(xj rel k).se;rw[hZ]at e;unfold putN storedH;rw[e];split
 next hs=>
  clear e hs
  induction rel with
  |nil=>exact .nil
  |@cons p q ps qs h _ ih=>
   refine .cons ?_ ih;show(if p.1=k then(p.1,p.2.1,v)else p).1=(if q.1=k then(q.1,q.2.1,r)else q).1/\(if p.1=k then(p.1,p.2.1,v)else p).2.1=(if q.1=k then(q.1,q.2.1,r)else q).2.1/\RelV (if p.1=k then(p.1,p.2.1,v)else p).2.2 (if q.1=k then(q.1,q.2.1,r)else q).2.2;by_cases c:p.1=k
   ·rw[aA c,aA (h.1.symm.trans c)];exact{h.1,h.2.1,rv}
   ·rw[ax c,ax (λd=>c (h.1.trans d))];exact h
 next=>exact wQ rel ⟨rfl,rfl,rv⟩
def rf:(putN kvs k b v).length<=kvs.length+1:=by
 unfold putN;split
 ·rw[ak];lia
 ·rw[aM];exact ao _
def aaT(hu:A.units+101<cLine)(I:Inv X pins Z H s)(h:fK X.prog X.w X.K H a kvs)(hk:hV X.K H k b)(qj:kvs.length<10000000)(rv:RelV v r)
  (q:∀s',Inv X pins Z (upd H a (.ext (DN X.prog X.w a (putN kvs k b v)))) s'->Q () s'):wpAny (model X.prog X.w) A (setItem (.ref a) (.ref b) r) Q E s:=by
 obtain⟨lo,xs,rel,hl,dd⟩:=I.qt h;have lx:xs.length<=sizeLine:=by rw[<-rel.length,bU];lia
 refine zI (show A.units+1+100<cLine by lia) (I.AE hk) dd λh' qP hs=>q _ ?_;obtain⟨o,es,ep,g,h2,h3,h4,_,h5⟩:=qP;have lp:=rf (kvs:=kvs) (k:=k) (b:=b) (v:=v);refine rB I ?_ hs ⟨o,g⟩ (N8 {lo,_,C1 rel rv,by lia,o,es,ep,g,h2,h3,h4,h5});rcases h.1 with e|⟨_,e⟩<;>rw[e]<;>exact True.intro
end
inductive Wc(P:Program)(w:World)(K:Frag)(Q:VK)(x:V)(y:V)(H2:Hp):Prop
 |mk a b kvs k v (_:x=.ref a) (_:y=.ref b) (_:fK P w K H2 a kvs) (_:hV K H2 k b) (_:valN kvs k=some v) (_:Q v H2)
def Yp(P:Program)(w:World)(K:Frag)(td ty:TE):TE:=λZ H Q=>td Z H λx H1=>ty Z H1 λy H2=>Wc P w K Q x y H2
inductive acw(P:Program)(w:World)(K:Frag)(neg:Bool)(x:V)(y:V)(H:Hp)(Q:VK):Prop
 |mk a b kvs k (_:x=.ref b) (_:y=.ref a) (_:fK P w K H a kvs) (_:hV K H k b) (_:Q (.bl (if neg then !(valN kvs k).isSome else(valN kvs k).isSome)) H)
inductive Wj(P:Program)(w:World)(K:Frag)(D:Ends)(Z:St)(v:V)(x:V)(y:V)(H3:Hp):Prop
 |mk a b kvs k (_:x=.ref a) (_:y=.ref b) (_:fK P w K H3 a kvs) (_:hV K H3 k b) (_:kvs.length<10000000) (_:D.nx Z (upd H3 a (.ext (DN P w a (putN kvs k b v)))))
def YB(P:Program)(w:World)(K:Frag)(td ty tv:TE):TS:=λD Z H=>tv Z H λv H1=>td Z H1 λx H2=>ty Z H2 λy H3=>Wj P w K D Z v x y H3
section
variable{X:Cx}{o i value:Expr}{pos pos':Pos}{td ty tv:TE}
def abc(I:Inv X pins Z H s)(h:fK X.prog X.w X.K H a kvs):s.TypeIs (.ref a) "dict":=by obtain⟨_,_,_,_,o,_,_,g,hx,_⟩:=I.qt h;exact{o,g,hx.1}
def Sn(hu:X.A.units+101<cLine)(ho:PE X o td)(hi:PE X i ty)(hs:T8 i):PE X (.Subscript o i pos) (Yp X.prog X.w X.K td ty):=by intro pins s Z H Q I h;refine Lq PySem.F.slot_dict_getitem.lookup hs (cX (ho pins s Z H _ I h) λu s1 x H1 I1 rx q1=>cX (hi pins s1 Z H1 _ I1 q1) λiv s2 y H2 I2 ry acU=>?_);obtain⟨a,b,kvs,k,v,ex,ey,g,hk,hv,q2⟩:=acU;subst ex ey;obtain rfl:u=Value.ref a:=rx;obtain rfl:iv=Value.ref b:=ry;exact{abc I2 g,aaV hu I2 g hk hv λw' s3 I3 lT=>⟨v,H2,I3,lT,q2⟩}
def Pd(hu:X.A.units+101<cLine):kz X (compareOp .NotIn) (acw X.prog X.w X.K true):=by intro pins s Z H x y v u Q I rx ry h;obtain⟨a,b,kvs,k,rfl,rfl,g,hk,q⟩:=h;cases rx;cases ry;exact TL hu I g hk λs' I'=>{.bl _,H,I',rfl,q}
def C4(hu:X.A.units+101<cLine)(ho:PE X o td)(hi:PE X i ty)(hv:PE X value tv)(hs:swapsWith value (some (.Subscript o i pos')) pos.line X.env=pure false):
  PS X (.Assign [.Subscript o i pos'] value pos) (YB X.prog X.w X.K td ty tv):=by
 intro pins s Z H D I h;refine wq (cX (hv pins s Z H _ I h) λr s1 v H1 I1 rv q1=>cX (ho pins s1 Z H1 _ I1 q1) λu s2 x H2 I2 rx q2=>cX (hi pins s2 Z H2 _ I2 q2) λiv s3 y H3 I3 ry acT=>?_) hs;obtain⟨a,b,kvs,k,ex,ey,g,hk,hl,q⟩:=acT;subst ex ey;obtain rfl:u=Value.ref a:=rx;obtain rfl:iv=Value.ref b:=ry;exact aaT hu I3 g hk hl rv λs4 I4=>⟨Z,_,I4,q⟩
def Og:gA X (.type "dict") (λxs H Q=>∃a kvs,xs=[.ref a]/\Rd H a (.dK kvs)/\∀p,H p=none->Q (.ref p) (upd H p (.dK kvs))):=by intro pins s Z H xs us Q I r h;obtain⟨a,kvs,rfl,ha,q⟩:=h;obtain⟨u,rfl,ru⟩:=jY r;cases ru;exact TR I ha λp s' hp I'=>{.ref p,_,I',rfl,q p hp}
inductive Wt(x:V)(vs:Aam)(H:Hp)(Q:VK):Prop
 |mk (a:Addr) (k:Key) (z:V) (kvs:List (Key×V)) (_:x=.ref a) (_:vs=[kV k,z]) (_:H a=some (.dK kvs)) (_:kvs.length<sizeLine) (_:(∀v,d7 kvs k=some v->Q v H)) (_:(d7 kvs k=none->Q z (upd H a (.dK (putK kvs k z)))))
def Py:Ko X "dict.setdefault" Wt:=by
 intro pins s Z H x vs v us Q I rx rv h;obtain⟨a,k,z,kvs,rfl,rfl,hH,hl,q1,q2⟩:=h;cases rx;obtain⟨u1,u2,rfl,r1,r2⟩:=rv.two;obtain⟨zz,hd,ws,rel,dd⟩:=wb I.bw hH;refine nv iH dd.typeIs qJ (qz _ _ _) (kt_meets_setdefault (bJ X.prog X.w) a (vT r1) hd u2) {ws,dd,(by rw[<-rel.length];exact zz),λv hv=>?_,λhn h' qP hs=>?_}
 ·have:=rel.val k;rw[hv]at this;cases e:d7 kvs k with
  |none=>rw[e]at this;exact this.elim
  |some y=>
   rw[e]at this;exact{y,H,I.tok _,this,q1 y e}
 ·have:=rel.val k;rw[hn]at this;cases e:d7 kvs k with
  |some y=>rw[e]at this;exact this.elim
  |none=>
   exact{z,_,rB I (hH▸True.intro) hs (let⟨o,_,_,ho,_⟩:=qP;⟨o,ho⟩) (AX (by have:=rP kvs k z;lia) hd (rel.put k r2) qP),r2,q2 e}
end
end L2
namespace L2
open PySem PySem.Spec PyProof.Rows
structure ad2(X:Cx)(scope:Scope)(x:Str)(fs:Aaf)(fr:List Nat):Prop where
 kind:scope.kind=.function
 loc:scope.names.lookup x=some .cell
 names:∀y∈scope.names,y.2=.local->scope.names.lookup y.1=some .local
 one:∃a b,scope.names=a++(x,.cell)::b/\(∀y∈a,y.2≠ .cell)/\∀y∈b,y.2≠ .cell
 free:∀n∈frees scope,X.env.kindOf n=some .cell/\scope.names.lookup n=some .free
 nd:(x::fs).Nodup
 len:fr.length=fs.length
 slots:∀(j:Nat)(y:Str)(k:Nat),fs[j]?=some y->fr[j]?=some k->X.N[k]?=some y/\y∈frees scope
end L2
namespace L2
open PySem PySem.Spec PyProof.Rows f6
section
variable{prog:Program}{w:World}{κ:Type}[DecidableEq κ]{kd:HeapKind prog w κ}{A:Around}{E:Aac}{s:Shared}
def DZ(hu:kd.room A)(Di:kd.is s.heap k a)(hm:s.heap.DictOfH kd d xs)
  (h1:∀p,atKey xs k=some p->Q p.2 {s with toks:=s.toks+kd.draws k})
  (h2:atKey xs k=none->∀h',h'.DictOfH kd d (storedH xs k a v)->Heap.SameBut d s.heap h'->Q v {s with heap:=h',toks:=s.toks+kd.draws k}) (hsz:xs.length<=sizeLine):
  wpAny (model prog w) A (dictSetDefault d (.ref a) v) Q E s:=by
 obtain⟨o,es,ep,ho,hc,hd,he,his,hn⟩:=hm;unfold dictSetDefault
 try with_reducible refine bL ?_
 have lz:=vO he;refine ae (kd.pyHash hu Di (ae (wpAny_dictFind_heap hu Di ho hd he his hn (λEy=>?_) (λj p hj=>?_))))
 ·have nk:=not_mem_keys_of_get Ey;have e0:=atKey_none_of_get Ey;have e1:=storedH_new e0;refine ae (gz (ae (wpAny_updateDictKeys ho hd (af (h2 e0 _ {_,_,ep+1,cj _ ho (Obj.isFreed_of_dict (yR hd _)),hc.mapDictKeys _,yR hd _,?_,?_,?_} (bG ..))))))
  ·rw[e1,aN,<-he];simp[entryOfKey]
  ·rw[e1];intro x hx;rcases aY.mp hx with q|q
   ·exact kd.keeps (his x q) ho hd (bG ..)
   ·rw[au.mp q];exact kd.keeps Di ho hd (bG ..)
  ·rw[e1,aN];refine fE.mpr {hn,by simp,λx hx y hy e=>?_};have Qf:y=k:=by simpa using hy
   exact nk (by rw[<-Qf,<-e];exact hx)
 ·refine ae (dW ho hd ?_);rw[PySem.entry_at he j,hj];exact ae (gz (af (h1 p (atKey_of_get hn hj))))
def BM(kd:HeapKind prog w κ)(d a:Addr)(hd:(d==sysModules)=false)(z:Value):
  MeetsIn prog w (Builtin.«dict.setdefault» {[.ref d,.ref a,z],[]}) (λA R s=>kd.room A.in1/\∃k xs,kd.is s.heap k a/\s.heap.DictOfH kd d xs/\xs.length<=sizeLine/\
   (∀p,atKey xs k=some p->R (.ok (.ret p.2)) {s with toks:=s.toks+kd.draws k})/\
   (atKey xs k=none->∀h',h'.DictOfH kd d (storedH xs k a z)->Heap.SameBut d s.heap h'->R (.ok (.ret z)) {s with heap:=h',toks:=s.toks+kd.draws k})):=
 .of_wp λA R s ⟨hu,k,xs,Di,hm,hz,h1,h2⟩=>by refine ae ?_;refine ae (gF hm.typeIs ?_);refine af ?_;show wpAny _ _ (if(d==sysModules)=true then _ else(dictSetDefault d (.ref a) z>>=_)) _ _ s;rw[ax (hd▸bA)];exact ae (DZ hu Di hm (λp hp=>af {_,rfl,h1 p hp}) (λhn h' m' b'=>af {z,rfl,h2 hn h' m' b'}) hz)
def W6(hd:(d==sysModules)=false)(ho:s.heap.get? d=some o)(hx:o.ExactDict)(adG:o.data=.dict es ep)(aej:(es.size:Int)<2^63)
  (h:∀t t',Q (.int es.size t) {s with toks:=t'}):wpAny (model prog w) A (call (.builtin "len") [.ref d]) Q E s:=by
 have ty:s.TypeIs (.ref d) "dict":={o,ho,hx.1};refine fI kind_len plain_len entry_len (args_len1 _) ?_;refine ae (af ?_);refine ae (wpAny_callSpecial?_slot ty F.slot_dict_len
  (ba F.slot_dict_len ty F.entry_dict_len ?_ (F.args_dict_len_1 _)))
 show wpAny _ _ (dictSize d>>=_) _ _ s;refine ae (ae (dW ho adG (af ?_)));refine ae (wpAny_pendingCount_other hd ?_);refine ae (B4 (af {_,rfl,?_}));refine ae (bL (af ?_));refine ae (l9 ?_);rw[ax ∅];rw[ax ∅];exact ae (B4 (af {_,rfl,h _ _}))
end
section
variable{X:Cx}{pins:Aaa}{Z:St}{H:Hp}{s:Shared}{A:Around}{E:Aac}{a b:Addr}{kvs:List (NK×Addr×V)}{k:NK}{z:V}
def Q6(hu:A.units+101<cLine)(I:Inv X pins Z H s)(h:fK X.prog X.w X.K H a kvs)(hk:hV X.K H k b)(qj:kvs.length<10000000)(rv:RelV z r)
  (q1:∀v w' s',valN kvs k=some v->Inv X pins Z H s'->RelV v w'->Q w' s')
  (q2:valN kvs k=none->∀s',Inv X pins Z (upd H a (.ext (DN X.prog X.w a (putN kvs k b z)))) s'->Q r s'):wpAny (model X.prog X.w) A (call (.builtin "dict.setdefault") [.ref a,.ref b,r]) Q E s:=by
 obtain⟨lo,xs,rel,hl,dd⟩:=I.qt h;have lx:xs.length<=sizeLine:=by rw[<-rel.length,bU];lia
 have e:=xj rel k;refine nv iH dd.typeIs qJ (qz _ _ _) (BM (jN X.prog X.w) a b lo r)
  {show A.units+1+100<cLine by lia,k,xs,I.AE hk,dd,lx,λp hp=>?_,λhn h' qP hs=>?_}
 ·rw[hp]at e;cases ev:valN kvs k with
  |none=>rw[ev]at e;exact e.elim
  |some v=>rw[ev]at e;exact q1 v _ _ ev (I.tok _) e
 ·rw[hn]at e;cases ev:valN kvs k with
  |some v=>rw[ev]at e;exact e.elim
  |none=>
   obtain⟨o,es,ep,g,x2,x3,x4,_,x5⟩:=qP;have lp:=rf (kvs:=kvs) (k:=k) (b:=b) (v:=z);refine q2 ev _ (rB I ?_ hs ⟨o,g⟩ (N8 {lo,_,C1 rel rv,by lia,o,es,ep,g,x2,x3,x4,x5}));rcases h.1 with e|⟨_,e⟩<;>rw[e]<;>exact True.intro
def Xq(hu:A.units+101<cLine)(I:Inv X pins Z H s)(h:fK X.prog X.w X.K H a kvs)(hk:hV X.K H k b)(rv:RelV z r)(q:∀w' s',Inv X pins Z H s'->RelV ((valN kvs k).getD z) w'->Q w' s'):
  wpAny (model X.prog X.w) A (call (.builtin "dict.get") [.ref a,.ref b,r]) Q E s:=by
 obtain⟨lo,xs,rel,hl,dd⟩:=I.qt h;exact nv jl dd.typeIs oW (oA _ _ _) (vB (jN X.prog X.w) a b lo r)
  {show A.units+1+100<cLine by lia,k,xs,I.AE hk,dd,q _ _ (I.tok _) ((xj rel k).getD rv)}
def L6(I:Inv X pins Z H s)(h:fK X.prog X.w X.K H a kvs):s.TypeIs (.ref a) "dict"/\∀b,Value.ref a=.ref b->∃ob,s.heap.get? b=some ob/\ob.dict=none:=by obtain⟨lo,xs,rel,hl,dd⟩:=I.qt h;refine{dd.typeIs,λb q=>?_};cases q;obtain⟨ob,_,_,h1,h2,_⟩:=dd;exact{ob,h1,h2.2.1}
def aaU(I:Inv X pins Z H s)(h:fK X.prog X.w X.K H a kvs)(q:∀t s',Inv X pins Z H s'->Q (.int kvs.length t) s'):wpAny (model X.prog X.w) A (call (.builtin "len") [.ref a]) Q E s:=by
 obtain⟨lo,xs,rel,hl,o,es,ep,g,hx,hd,he,_⟩:=I.qt h;have l1:es.size=kvs.length:=by rw[vO he,rel.length]
 refine W6 lo g hx hd ∅ λt t'=>?_;rw[l1];exact q t _ (I.tok _)
end
inductive OD(P:Program)(w:World)(K:Frag)(ty:TE)(tz:TE)(Z:St)(Q:VK)(x:V)(H1:Hp):Prop
 |mk a Jk (_:x=.ref a) (_:fK P w K H1 a Jk) (_:ty Z H1 λy H2=>tz Z H2 λz H3=>∃b kvs k,y=.ref b/\fK P w K H3 a kvs/\hV K H3 k b/\kvs.length<10000000/\(∀v,valN kvs k=some v->Q v H3)/\(valN kvs k=none->Q z (upd H3 a (.ext (DN P w a (putN kvs k b z))))))
def RO(P:Program)(w:World)(K:Frag)(td ty tz:TE):TE:=λZ H Q=>td Z H λx H1=>OD P w K ty tz Z Q x H1
inductive RR(P:Program)(w:World)(K:Frag)(ty:TE)(tz:TE)(Z:St)(Q:VK)(x:V)(H1:Hp):Prop
 |mk a Jk (_:x=.ref a) (_:fK P w K H1 a Jk) (_:ty Z H1 λy H2=>tz Z H2 λz H3=>∃b kvs k,y=.ref b/\fK P w K H3 a kvs/\hV K H3 k b/\Q ((valN kvs k).getD z) H3)
def Lo(P:Program)(w:World)(K:Frag)(td ty tz:TE):TE:=λZ H Q=>td Z H λx H1=>RR P w K ty tz Z Q x H1
section
variable{X:Cx}{o e f:Expr}{apos dU:Pos}{td ty tz:TE}
def Na(hu:X.A.units+101<cLine)(ho:PE X o td)(he:PE X e ty)(hf:PE X f tz)(m:M2 X o "setdefault" apos e f dU):PE X (.Call (.Attribute o "setdefault" apos) [e,f] [] dU) (RO X.prog X.w X.K td ty tz):=by intro pins s Z H Q I h;refine sY m.base m.gj m.line dZ iH rG (cX (ho pins s Z H _ I h) λu s1 x H1 I1 rx acS=>?_);obtain⟨a,Jk,ex,d,q1⟩:=acS;subst ex;obtain rfl:u=Value.ref a:=rx;obtain⟨t1,t2⟩:=L6 I1 d;refine{t1,t2,?_};rw[m.trees];refine eM rfl (lK (fU (cX (he pins s1 Z H1 _ I1 q1) λiv s2 y H2 I2 ry q2=>fU (cX (hf pins s2 Z H2 _ I2 q2) λfv s3 z H3 I3 rz ⟨b,kvs,k,ey,g,hk,hl,k1,k2⟩=>kK ?_))));subst ey;obtain rfl:iv=Value.ref b:=ry;exact Q6 hu I3 g hk hl rz (λv w' s4 ev I4 r4=>{v,H3,I4,r4,k1 v ev}) λev s4 I4=>{z,_,I4,rz,k2 ev}
def Gi(hu:X.A.units+101<cLine)(ho:PE X o td)(he:PE X e ty)(hf:PE X f tz)(m:M2 X o "get" apos e f dU):PE X (.Call (.Attribute o "get" apos) [e,f] [] dU) (Lo X.prog X.w X.K td ty tz):=by intro pins s Z H Q I h;refine sY m.base m.gj m.line dZ jl xP (cX (ho pins s Z H _ I h) λu s1 x H1 I1 rx acR=>?_);obtain⟨a,Jk,ex,d,q1⟩:=acR;subst ex;obtain rfl:u=Value.ref a:=rx;obtain⟨t1,t2⟩:=L6 I1 d;refine{t1,t2,?_};rw[m.trees];refine eM rfl (lK (fU (cX (he pins s1 Z H1 _ I1 q1) λiv s2 y H2 I2 ry q2=>fU (cX (hf pins s2 Z H2 _ I2 q2) λfv s3 z H3 I3 rz ⟨b,kvs,k,ey,g,hk,k1⟩=>kK ?_))));subst ey;obtain rfl:iv=Value.ref b:=ry;exact Xq hu I3 g hk rz λw' s4 I4 r4=>⟨_,H3,I4,r4,k1⟩
def Rp:gA X (.builtin "len") (λxs H Q=>∃a kvs,xs=[V.ref a]/\fK X.prog X.w X.K H a kvs/\Q (.int kvs.length) H):=by intro pins s Z H xs us Q I r h;obtain⟨a,kvs,rfl,ha,q⟩:=h;obtain⟨u,rfl,ru⟩:=jY r;cases ru;exact aaU I ha λt s' I'=>{.int kvs.length,H,I',⟨t,rfl⟩,q}
inductive Xe(P:Program)(w:World)(K:Frag)(R:It->Hp->Prop)(x:V)(H1:Hp):Prop
 |mk d u kvs (_:x=.ref d) (_:H1 d=some u) (_:fK P w K H1 d kvs) (_:∀o,R (ItK d o u (kvs.map λp=>(.ref p.2.1,p.2.2))) (upd H1 d (.fA o u)))
def ZZ(P:Program)(w:World)(K:Frag)(tl:TE):TI:=λZ H R=>tl Z H λx H1=>Xe P w K R x H1
def Si(hl:PE X l tl):PI X tg l (ZZ X.prog X.w X.K tl):=by
 intro pins s Z H R I h;refine cX (hl pins s Z H _ I h) λv s1 x H1 I1 r1 q1=>?_;obtain⟨d,u,kvs,e,hd,hv,q⟩:=q1;subst e;cases r1;obtain⟨lo,xs,rel,_,o,es,ep,ga,hx,hdt,he,_⟩:=I1.qt hv;have ents:∀{l:List (NK×Addr×V)}{xs:List (NK×Addr×Value)},Paired (λ(p:NK×Addr×V)(q:NK×Addr×Value)=>p.1=q.1/\p.2.1=q.2.1/\RelV p.2.2 q.2.2) l xs->Paired (λ(p:V×V)(e:DictEntry)=>RelV p.1 e.key/\RelV p.2 e.val) (l.map λp=>(V.ref p.2.1,p.2.2)) (xs.map (entryOfKey (jN X.prog X.w))):=λr=>by
  induction r with
  |nil=>exact .nil
  |@cons p q ps qs h _ ih=>exact .cons {by show Value.ref q.2.1=Value.ref p.2.1;rw[h.2.1],h.2.2} ih
 have m:Kv o es ep (kvs.map λp=>(V.ref p.2.1,p.2.2)):={hx,hdt,he▸ents rel};have I2:Inv X pins Z (upd H1 d (.fA o u)) s1:=by
  rcases hv.1 with e|⟨_,e⟩
  ·rw[hd]at e;cases e;exact I1.Mq hd ga
  ·rw[hd]at e;cases e;exact I1.freeze hd ga
 refine LA lo ga m.1 m.2.1 ?_;refine{s1.heap.objs.size,[s1.heap.objs.size],_,_,_,rfl,I2.kept λb o e=>ah _ e,X3 m,{_,aB _ rfl,rfl,rfl},λb hb=>?_,q o};have e:b=s1.heap.objs.size:=by simpa using hb
 subst e;exact I2.uZ (ao _) (I2.bw.fresh (ao _))
def o8(n:Nat)(k:NK):Prop:=(NK.toD k).canLay0=true/\(NK.toD k).depth<=n/\NK.deep k<=n
def Dk(h:PyData.strOk z=true):o8 n (.key (.inr z)):={by simp[NK.toD,PyData.canLay0,h],by simp[NK.toD,PyData.depth],by simp[NK.deep]}
theorem JS:∀{ks:List NK},(∀k∈ks,o8 n k)->PyData.canLayAll0 (NK.mn ks)=true/\PyData.depthAll (NK.mn ks)<=n/\NK.jK ks<=n
 |[],_=>{by simp[NK.mn,PyData.canLayAll0],by simp[NK.mn,PyData.depthAll],by simp[NK.jK]}
 |k::ks,h=>by
  obtain⟨a1,a2,a3⟩:=h k ay;obtain⟨b1,b2,b3⟩:=JS λk hk=>h k (az _ hk);refine{by simp[NK.mn,PyData.canLayAll0,a1,b1],?_,?_}
  ·simp only[NK.mn,PyData.depthAll];lia
  ·simp only[NK.jK];lia
def uW(h:∀k∈ks,o8 n k):o8 (n+1) (.tup ks):=by obtain⟨b1,b2,b3⟩:=JS h;refine{by simp only[NK.toD,PyData.canLay0];exact b1,by simp only[NK.toD,PyData.depth];lia,by simp only[NK.deep];lia}
def o8.good(h:o8 n k)(hn:n<=7):VP k:={h.1,aL h.2.1 hn,aL h.2.2 hn}
def fD(zs:Aaf):NK:=.tup (zs.map λz=>.key (.inr z))
def rh(h:fD xs=fD ys):xs=ys:=by injection h with h;exact Bo (λa b e=>by injection e with e;injection e)|>.mp h
def uX(h:∀z∈zs,PyData.strOk z=true):o8 1 (fD zs):=uW λk hk=>by obtain⟨z,hz,rfl⟩:=aJ.mp hk;exact Dk (h z hz)
theorem IU{K:Frag}:∀zs:Aaf,oZ K H (zs.map λz=>NK.key (.inr z)) (zs.map V.str)
 |[]=>by rw[jS,oZ];rfl
 |z::r=>by exact{_,_,rfl,by rw[NV];rfl,IU r}
def Aq{K:Frag}(h:bf K H a (zs.map V.str)):NV K H (fD zs) (.ref a):=by unfold fD;exact{a,_,rfl,h,IU zs}
def yz{K:Frag}(h:bf K H a (zs.map V.str))(hz:∀z∈zs,PyData.strOk z=true):hV K H (fD zs) a:={Aq h,(uX hz).good (by decide)}
def Ej{K:Frag}(h:NV K H (fD zs) (.ref a)):bf K H a (zs.map V.str):=by
 have all:∀{zs:Aaf}{xs:Aam},oZ K H (zs.map λz=>NK.key (.inr z)) xs->xs=zs.map V.str:=by
  intro zs
  induction zs with
  |nil=>intro xs h;rw[jS,oZ]at h;exact h
  |cons z r ih=>
   intro xs h;obtain⟨x,t,rfl,h1,h2⟩:=h;rw[h1,ih h2];rfl
 unfold fD at h;obtain⟨b,xs,e,hq,h⟩:=h;cases e;rw[<-all h];exact hq
def lC(e:p.1=k):valN (p::r) k=some p.2.2:=by unfold valN;rw[eJ (p:=λp:NK×Addr×V=>decide (p.1=k)) (aX e)];rfl
def lD(e:¬p.1=k):valN (p::r) k=valN r k:=by unfold valN;rw[eK (p:=λp:NK×Addr×V=>decide (p.1=k)) (λq=>e (aW q))]
theorem Hu:∀kvs:List (NK×Addr×V),valN (kvs.map λp=>if p.1=k then(p.1,p.2.1,v)else p) j=(valN kvs j).map λx=>if j=k then v else x
 |[]=>rfl
 |p::r=>by
  have ih:=Hu (k:=k) (j:=j) (v:=v) r;rw[bo];by_cases h:p.1=k
  ·rw[aA h];by_cases e:p.1=j
   ·rw[lC (p:=(p.1,p.2.1,v)) e,lC e,eC,aA (e.symm.trans h)]
   ·rw[lD (p:=(p.1,p.2.1,v)) e,lD e,ih]
  ·rw[ax h];by_cases e:p.1=j
   ·rw[lC e,lC e,eC,ax (λz=>h (e.trans z))]
   ·rw[lD e,lD e,ih]
theorem FZ:∀kvs:List (NK×Addr×V),valN kvs k=none->valN (kvs++[(k,a,v)]) j=if j=k then some v else valN kvs j
 |[],_=>by
  by_cases e:k=j
  ·rw[aA e.symm];exact lC e
  ·rw[ax (λz=>e z.symm)];exact lD e
 |p::r,hn=>by
  rw[lJ];have hk:¬p.1=k:=λz=>by rw[lC z]at hn;cases hn
  rw[lD hk]at hn;by_cases e:p.1=j
  ·rw[lC e,lC e,ax (λz=>hk (e.trans z))]
  ·rw[lD e,lD e,(FZ (j:=j) (a:=a) (v:=v) r hn)]
def mY:valN (putN kvs k a v) j=if j=k then some v else valN kvs j:=by
 unfold putN;split
 ·next hs=>
  rw[Hu];by_cases c:j=k
  ·obtain⟨x,hx⟩:=jP.mp hs;rw[aA c,c,hx,eC,aA rfl]
  ·rw[ax c];cases valN kvs j with
   |none=>rfl
   |some x=>rw[eC,ax c]
 ·next hs=>
  refine FZ kvs ?_;cases e:valN kvs k with
  |none=>rfl
  |some x=>rw[e]at hs;exact absurd rfl hs
def Jd(h:p∈putN kvs k a v):(∃q∈kvs,p.1=q.1/\p.2.1=q.2.1)\/(p.1=k/\p.2.1=a):=by
 unfold putN at h;split at h
 ·obtain⟨q,hq,rfl⟩:=aJ.mp h;refine .inl {q,hq,?_};split<;>exact⟨rfl,rfl⟩
 ·rcases aY.mp h with h|h
  ·exact .inl ⟨p,h,rfl,rfl⟩
  ·rw[au.mp h];exact .inr ⟨rfl,rfl⟩
def Az{kvs:List (NK×Addr×V)}{k j:NK}{a:Addr}{v:V}:(∃p∈putN kvs k a v,p.1=j)↔j=k\/∃p∈kvs,p.1=j:=by
 have key:∀(l:List (NK×Addr×V))(j:NK),(∃p∈l,p.1=j)↔(valN l j).isSome=true:=by intro l j;unfold valN;rw[hZ,BZ];exact{λ⟨p,hp,e⟩=>{p,hp,aX e},λ⟨p,hp,e⟩=>{p,hp,aW e}}
 rw[key,key,mY];by_cases c:j=k
 ·rw[aA c];simp[c]
 ·rw[ax c];simp[c]
end
end L2
namespace L2
open PySem PySem.Spec PyProof.Rows PySem.W f6
section
variable{X:Cx}{pins:Aaa}{Z:St}{H:Hp}{s:Shared}
def Inv.EX(I:Inv X pins Z H s)(hn:H D=none)(new:cI X.prog X.w (upd H D o) s.heap D o)
  (h1:X.aab.heap.objs.size<=D) (hL:D≠X.env.locals) (h2:∀x c,X.env.cells.lookup x=some c->c≠D) (h3:∀p∈X.pn++pins,p.1≠D):Inv X pins Z (upd H D o) s:=by
 have nD:∀b u,H b=some u->b≠D:=λb u q z=>by rw[z,hn]at q;cases q
 have bw:jI X.prog X.w (upd H D o) s.heap:=λb u q=>by
  by_cases hb:b=D
  ·subst hb;rw[ar]at q;cases q;exact new
  ·rw[aH hb]at q;exact(I.bw b u q).j7 (λ_ _ _ z=>z) (λc z=>by rw[aH (nD c _ z)];exact z) λc xs z=>by rw[aH (nD c _ z)];exact z
 have J:=I.step (t':=s.toks) (d':=s.drawn) (ch:=[D])
  (λb hb=>by
   have e':b=D:=by simpa using hb
   subst e';exact{.inr h1,hL,h2,h3})
  (λb o _ _ _ q _=>q) (λb o _ _ _ q _=>{o.slots,q}) (λb o hc _ n=>by rw[aH λz=>hc (by simp[z])];exact n) (λb o _ q=>⟨o,q⟩)
  (λb xs q=>by rw[aH (nD b _ q)];exact q) (λb o u q=>by rw[aH (nD b _ q)];exact q) (λb ps q=>{#[],by rw[aH (nD b _ q),q];simp}) (λm hm=>hm) bw I.bare
 exact J
theorem Inv.EW{lo:Addr}(Qu:∀{H:Hp},Inv X pins Z H s->X.aab.heap.objs.size<=lo/\X.env.locals<lo/\(∀x c,X.env.cells.lookup x=some c->c<lo)/\∀p∈X.pn++pins,p.1<lo):
  ∀(as:Aah)(ps:List (Str×Str))(H:Hp),Inv X pins Z H s->as.length=ps.length->as.Nodup->(∀a∈as,lo<=a/\H a=none)->
   (∀(j:Nat) a p,as[j]?=some a->ps[j]?=some p->∃t u,s.heap.get? a=some {cls:=.type "tuple",data:=.seq #[.str p.1 t,.str p.2 u]})->
   ∃H',Inv X pins Z H' s/\(∀b u,H b=some u->H' b=some u)/\(∀b,b∉as->H' b=H b)/\∀(j:Nat) a p,as[j]?=some a->ps[j]?=some p->H' a=some (.tup [.str p.1,.str p.2])
 |[],[],H,I,_,_,_,_=>{H,I,λ_ _ h=>h,λ_ _=>rfl,λj a p e=>by simp at e}
 |[],_::_,_,_,e,_,_,_=>by simp at e
 |_::_,[],_,_,e,_,_,_=>by simp at e
 |a::as,p::ps,H,I,e,nd,fr,tp=>by
  obtain⟨n1,n2⟩:=cP.mp nd;obtain⟨l1,l2,l3,l4⟩:=Qu I;obtain⟨ha,Qq⟩:=fr a ay;obtain⟨t,u,g⟩:=tp 0 a p rfl rfl;have I1:=I.EX (o:=.tup [.str p.1,.str p.2]) Qq {by show 2<=sizeLine;decide,[.str p.1 t,.str p.2 u],.cons ⟨t,rfl⟩ (.cons ⟨u,rfl⟩ .nil),{_,g,rfl,0,rfl},_,g,rfl} (aL l1 ha) (bx (aV l2 ha))
   (λx c h=>aG (aV (l3 x c h) ha)) (λq hq=>aG (aV (l4 q hq) ha))
  obtain⟨H',I2,k1,k2,k3⟩:=Inv.EW Qu as ps _ I1 (by simpa using e) n2 (λb hb=>{(fr b (az _ hb)).1,by rw[aH (show b≠a fromλz=>n1 (z▸hb))];exact(fr b (az _ hb)).2})
   (λj b q e1 e2=>tp (j+1) b q (by simpa using e1) (by simpa using e2))
  refine{H',I2,λb v h=>k1 b v (by rw[aH (bc h Qq)];exact h),λb hb=>?_,λj b q e1 e2=>?_}
  ·rw[k2 b (λz=>hb (az _ z)),aH (λz=>hb (by rw[z];exact ay))]
  ·cases j with
   |zero=>
    obtain rfl:a=b:=by simpa using e1
    obtain rfl:p=q:=by simpa using e2
    rw[k2 a n1];exact ar
   |succ j=>exact k3 j b q (by simpa using e1) (by simpa using e2)
def nO(r d:Addr):Heap->Prop:=λh=>h.IsItemsView r d
end
def P5(x:nO r d h):cI P w H h r (.ext (nO r d)):=
 {x,let⟨o,q,_⟩:=x;⟨o,q⟩,λ_ _ ⟨o,q,z⟩ k=>{o,k _ q,z}}
inductive Wa(Q:VK)(x:V)(H1:Hp):Prop
 |mk d kvs (_:x=.ref d) (_:H1 d=some (.dK kvs)) (_:∀p,H1 p=none->Q (.ref p) (upd H1 p (.ext (nO p d))))
def Ym(td:TE):TE:=λZ H Q=>td Z H λx H1=>Wa Q x H1
def Sk{X:Cx}{apos dU:Pos}{l:Expr}{tl:TE}(hl:PE X l tl)(qo:attributeBase l "items" X.env (eval l X.env)=eval l X.env:=by rfl)(qi:(apos.endLine==dU.line)=true:=by rfl):
  PE X (.Call (.Attribute l "items" apos) [] [] dU) (Ym tl):=by
 intro pins s Z H R I h;refine j6 qo qi (cX (hl pins s Z H _ I h) λv s1 x H1 I1 r1 q1=>?_);obtain⟨d,kvs,e,hd,q⟩:=q1;subst e;cases r1;obtain⟨lo,o,es,ep,ga,m⟩:=Xj (I1.bw d _ hd) (.inl ⟨kvs,rfl,rfl⟩);have ty:s1.TypeIs (.ref d) "dict":={o,ga,m.1.1};refine{"dict","dict.items",dZ,j9,vC,ty,λb q=>?_,eM rfl (mz ?_)}
 ·cases q;exact{o,ga,m.1.2.1}
 ·refine ba j9 ty vf ?_ (uf _);refine ae (ae (gF ty (af ?_)));unfold Builtin.Dict.showsAll;rw[lo];refine ae (af (ae (bV (af {_,rfl,?_}))));exact{.ref s1.heap.objs.size,_,I1.laid (λb o e=>ah _ e) (ao _) (P5 {_,aB _ rfl,rfl,rfl}),rfl,q _ (I1.bw.fresh (ao _))}
def rowsOf(g:List (Str×Str)):R1:=g.map λp=>[p.1,p.2]
abbrev Ho(H:Hp):Aam->R1->Prop:=Paired λ(y:V)(zs:Aaf)=>∃a,y=.ref a/\H a=some (.tup (zs.map V.str))
theorem Ik{X:Cx}{pins:Aaa}{Z:St}{H:Hp}{s:Shared}(I:Inv X pins Z H s):∀{zs:Aam}{rows:R1},eW X.K H zs rows->(∀z∈zs,∃a xs,z=.ref a/\H a=some (.tup xs))->Ho H zs rows
 |_,_,.nil,_=>.nil
 |_,_,.cons ⟨a,e,hq⟩ t,h=>by subst e;obtain⟨a',xs,e',h'⟩:=h _ ay;cases e';refine .cons {a,rfl,?_} (Ik I t λz hz=>h z (az _ hz));rw[h',I.vL (bf.of h') hq]
def Dy{X:Cx}(hA:X.A.handled=none):gA X (.builtin "sorted") (λxs H Q=>∃(r d:Addr)(g:List (Str×Str)),xs=[.ref r]/\H r=some (.ext (nO r d))/\H d=some (.dK (g.map λp=>(Sum.inr p.1,.str p.2)))/\g.length<64/\
  ∀l zs H',(∀b u,H b=some u->H' b=some u)->H' l=none->H l=none->Ho H' zs (dc (rowsOf g))->Q (.ref l) (upd H' l (.lst zs))):=by
 intro pins s Z H xs us Q I r h;obtain⟨v,d,g,rfl,hv,hd,su,q⟩:=h;obtain⟨u,rfl,ru⟩:=jY r;cases ru;obtain⟨iv,_⟩:=(show cI X.prog X.w H s.heap v (.ext (nO v d))from I.bw v _ hv);obtain⟨hz,lo,vs,rel,o,es,ep,m⟩:=wb I.bw hd;have hl:g.length=vs.length:=by have:=rel.length;rw[ak]at this;exact this
 refine fI rQ pZ qr (qx _) ?_;refine ae (af ?_);refine ae (PySem.W.kdx_collect (by simpa using hA) iv (⟨o,es,m⟩) (by rw[<-hl,bU];lia) λh' tk as kp la G=>?_);have ZA:as.length=g.length:=by rw[la,hl]
 have bound:∀{H:Hp},Inv X pins Z H {s with heap:=h',toks:=tk}->X.aab.heap.objs.size<=s.heap.objs.size/\X.env.locals<s.heap.objs.size/\(∀x c,X.env.cells.lookup x=some c->c<s.heap.objs.size)/\∀p∈X.pn++pins,p.1<s.heap.objs.size:=λ_=>
  {I.sz,I.lt,λx c hc=>let⟨_,z⟩:=I.cell x c hc;z.lt,λp hp=>aD (I.pin p hp).1}
 obtain⟨H',I2,k1,k2,k3⟩:=Inv.EW bound as g H (I.kept (t':=tk) kp) ZA (G.rise.imp (λh=>aG h)) (λa ha=>{bI (G.above a ha),I.bw.fresh (bI (G.above a ha))}) (λj a p e1 e2=>by obtain⟨key,k,x,e3,e4,e5⟩:=G.pairs j a e1;have rj:∃ZG,(g.map λp=>((Sum.inr p.1:Key),V.str p.2))[j]?=some ZG/\ZG=(Sum.inr p.1,V.str p.2):={_,by rw[aI,e2];rfl,rfl};obtain⟨ZG,e6,rfl⟩:=rj;obtain⟨q',e7,e8,e9⟩:=Paired.at' rel e6;rw[e3]at e7;cases e7;subst e8;obtain⟨t,rfl⟩:=(show∃t,key=Value.str p.1 t from q9 (k:=Sum.inr p.1) e4);obtain⟨u,rfl⟩:=(show∃t,x=Value.str p.2 t from e9);exact⟨t,u,e5⟩)
 have lb:as.length=(rowsOf g).length:=by rw[ZA];exact(ak _).symm
 refine yc (s:=s) I2 lb (λi z b e1 e2=>?_) (λ_ r hr=>?_) (by rw[<-lb,ZA];lia) λl zs ip sf Qt=>q l zs H' k1 ip ?_ (Ik I2 sf λz hz=>?_)
 ·unfold rowsOf at e1;rw[aI]at e1;obtain⟨p,e3,rfl⟩:=bb.mp e1;exact bf.of (k3 i b p e2 e3)
 ·obtain⟨p,_,rfl⟩:=aJ.mp hr;simp
 ·cases e:H l with
  |none=>rfl
  |some o=>rw[k1 l o e]at ip;cases ip
 ·obtain⟨b,hb,rfl⟩:=aJ.mp (Qt z hz);obtain⟨j,hj⟩:=dQ.mp hb;have oU:j<g.length:=by have:=(aw.mp hj).1;lia
  exact{b,_,rfl,k3 j b _ hj (aq oU)}
section
variable{X:Cx}
def qC(P:Program)(w:World)(K:Frag)(mg:Aab)(base:Heap)(C:Addr)(k:Nat)(m:Str)(ps:Aaf)(sp:Sp):Prop:=
 ∃f fd,cU P w K mg base fm k f fd ps sp/\Meth K C m f/\Binds K fd ps []
def LU(c:Bv X.K C)(D:qC X.prog X.w X.K X.mg X.base C k m ps sp)(hr:gx j X.A)(ho:PE X o ta)(ha:PA X (e::es) t)(hk:k<=j:=by decide)
  (g7:starEach (e::es) X.env=(false,eval e X.env)::starEach es X.env:=by rfl) (nh:(backTo pos (starEach es X.env)).any (·.1)=false:=by rfl)
  (ht:eval (.Call (.Attribute o m apos) (e::es) [] pos) X.env=(do
   let ov<-eval o X.env
   standAt apos.atName
   let(f,first)<-holding [ov] (getMethod ov m pl)
   callWith pos f first (backTo pos (starEach (e::es) X.env)) (backToKw pos (keywordEach [] X.env))):=by rfl):
  PE X (.Call (.Attribute o m apos) (e::es) [] pos) (Ur C m sp [] E0 ta t):=by
 obtain⟨f,fd,F,me,b⟩:=D;exact WG ho c me F (hr.mono hk) b .nil Nc ha g7 nh ht
def yB(hr:gx k A):A.units+101<cLine:=by have:=hr.un;lia
theorem jf{α:Type}[DecidableEq α]:∀{l m:List α},l.Nodup->(∀x∈l,x∈m)->l.length<=m.length
 |[],m,_,_=>aR _
 |x::l,m,h,s=>by obtain⟨h1,h2⟩:=cP.mp h;have hx:=s x ay;have:=jf h2 λy hy=>(List.mem_erase_of_ne (show y≠x fromλe=>h1 (e▸hy))).mpr (s y (az _ hy));rw[List.length_erase_of_mem hx]at this;have hp:=List.length_pos_of_mem hx;rw[bu];lia
end
end L2
namespace L2
open PySem PySem.Spec PyProof.Rows
end L2
namespace AskP
section
variable{α:Type}[DecidableEq α]
abbrev Rw(α:Type):=List α
abbrev wo(α:Type):=α×List α
def xA(xs vs:List α)(t:α):α:=if t∈xs then vs.getD (xs.idxOf t) t else t
def image(xs vs ts:List α):List α:=ts.map (xA xs vs)
def sS(m:List (Rw α×Int))(r:Rw α)(c:Int):List (Rw α×Int):=if r∈m.map (·.1)then m.map (λx=>if x.1=r then(x.1,x.2+c)else x)else m++[(r,c)]
def narrowed(l:List (Rw α×Int))(xs ts:List α):List (Rw α×Int):=l.foldl (λm x=>sS m (image xs x.1 ts) x.2) []
def mH(r ts:List α):Bool:=decide (r.length=ts.length)&&(ts.zip r).all λx=>decide (r[ts.idxOf x.1]?=some x.2)
def atT(r ts:List α)(t:α):α:=r.getD (ts.idxOf t) t
def tails(rows:List (Rw α))(ts known fresh:List α)(key:Rw α):List (Rw α):=(rows.filter λr=>mH r ts&&decide (known.map (atT r ts)=key)).map λr=>fresh.map (atT r ts)
def longer(maps:List (Rw α×Int))(rows:List (Rw α))(ts kept known fresh:List α):List (Rw α×Int):=maps.flatMap λx=>(tails rows ts known fresh (image kept x.1 known)).map λt=>(x.1++t,x.2)
def Rv{r v:Rw α}{c:Int}:v∈(sS m r c).map (·.1)↔v∈m.map (·.1)\/v=r:=by
 unfold sS;split
 ·next h=>
  have e:(m.map λx=>if x.1=r then(x.1,x.2+c)else x).map (·.1)=m.map (·.1):=by rw[bW];refine bC λx _=>?_;show(if x.1=r then(x.1,x.2+c)else x).1=x.1;split<;>rfl
  rw[e];exact{.inl,λz=>z.elim id λz=>z▸h}
 ·rw[aN,aY,iT,au]
def Ol{r:Rw α}{c:Int}(h:(m.map (·.1)).Nodup):((sS m r c).map (·.1)).Nodup:=by
 unfold sS;split
 ·have e:(m.map λx=>if x.1=r then(x.1,x.2+c)else x).map (·.1)=m.map (·.1):=by rw[bW];refine bC λx _=>?_;show(if x.1=r then(x.1,x.2+c)else x).1=x.1;split<;>rfl
  rw[e];exact h
 ·next q=>
  rw[aN,iT];exact fE.mpr {h,ka _ _,λa ha b hb=>by rw[au.mp hb];exactλz=>q (by rw[<-show a=r from z];exact ha)}
def zb{xs ts:List α}{v:Rw α}:v∈(narrowed l xs ts).map (·.1)↔∃x∈l,v=image xs x.1 ts:=by
 unfold narrowed
 suffices H:∀m:List (Rw α×Int),v∈(l.foldl (λm x=>sS m (image xs x.1 ts) x.2) m).map (·.1)↔v∈m.map (·.1)\/∃x∈l,v=image xs x.1 ts by
  rw[H []];exact{λh=>h.elim (λz=>by cases z) id,.inr}
 induction l with
 |nil=>intro m;exact{.inl,λh=>h.elim id λ⟨x,hx,_⟩=>by cases hx}
 |cons x l ih=>
  intro m;rw[mR,ih,Rv];constructor
  ·rintro((h|h)|⟨y,hy,h⟩)
   ·exact .inl h
   ·exact .inr ⟨x,ay,h⟩
   ·exact .inr {y,az _ hy,h}
  ·rintro(h|⟨y,hy,h⟩)
   ·exact .inl (.inl h)
   ·rcases aF.mp hy with rfl|hy
    ·exact .inl (.inr h)
    ·exact .inr ⟨y,hy,h⟩
def rm{xs ts:List α}:((narrowed l xs ts).map (·.1)).Nodup:=by
 suffices H:∀m:List (Rw α×Int),(m.map (·.1)).Nodup->((l.foldl (λm x=>sS m (image xs x.1 ts) x.2) m).map (·.1)).Nodup from H [] .nil
 induction l with
 |nil=>intro m h;exact h
 |cons x l ih=>intro m h;exact ih _ (Ol h)
def Xd{g:α->α}{t:α}(h:t∈xs):xA xs (xs.map g) t=g t:=by unfold xA;have:=dR h;rw[aA h,cS,aI,aq this,kB];rfl
def vW{g:α->α}(h:∀t∈ts,t∉xs->g t=t):image xs (xs.map g) ts=ts.map g:=by
 refine bC λt ht=>?_;by_cases c:t∈xs
 ·exact Xd c
 ·unfold xA;rw[ax c,h t ht c]
def P7{g:α->α}:mH (ts.map g) ts=true:=by unfold mH;rw[ak,aX rfl,jt,cQ];intro x hx;obtain⟨i,hi,e⟩:=jE.mp hx;rw[List.getElem_zip,pA]at e;have m:x.1∈ts:=e▸jU _;have:=dR m;refine aX ?_;rw[aI,aq this,kB,eC,<-e]
def ME{g:α->α}{t:α}(h:t∈ts):atT (ts.map g) ts t=g t:=by unfold atT;have:=dR h;rw[cS,aI,aq this,kB];rfl
def WZ{r ts:List α}(h:mH r ts=true):ts.map (atT r ts)=r:=by unfold mH at h;rw[bF,cQ]at h;have hl:=aW h.1;refine pB (by rw[ak,hl]) λi h1 h2=>?_;rw[pA];have q:=aW (h.2 (ts[i]'(hl▸h2),r[i]) (jE.mpr {i,by rw[qD];lia,by rw[List.getElem_zip]}));unfold atT;rw[cS,q];rfl
def mM(un:α->Bool)(db:α->List (Rw α))(S:List (wo α))(g:α->α):Prop:=(∀t,un t=false->g t=t)/\∀a∈S,a.2.map g∈db a.1
def Kp(un:α->Bool)(db:α->List (Rw α))(S:List (wo α))(kept:List α)(maps:List (Rw α×Int)):Prop:=∀v,v∈maps.map (·.1)↔∃g,mM un db S g/\v=kept.map g
def V7{un:α->Bool}{db:α->List (Rw α)}{S:List (wo α)}{maps:List (Rw α×Int)}{a:wo α}(h:Kp un db S kept maps)
  (hf:∀t,t∈fresh↔t∈a.2/\un t=true/\t∉kept) (hk:known=a.2.filter (λt=>decide (t∉fresh))) (hu:∀t∈kept,un t=true) (hs:∀b∈S,∀t∈b.2,t∈a.2->un t=true->t∈kept) (h':∀t∈UZ,t∈kept++fresh):
  Kp un db (a::S) UZ (narrowed (longer maps (db a.1) a.2 kept known fresh) (kept++fresh) UZ):=by
 have kn:∀t,t∈known↔t∈a.2/\t∉fresh:=λt=>by rw[hk,bS,kH]
 have key:∀g:α->α,(∀t,un t=false->g t=t)->image kept (kept.map g) known=known.map g:=λg hg=>vW λt ht c=>by
  have⟨z1,z2⟩:=(kn t).mp ht;cases e:un t with
  |false=>exact hg t e
  |true=>exact absurd ((hf t).mpr ⟨z1,e,c⟩) z2
 intro v;rw[zb];constructor
 ·rintro⟨x,hx,rfl⟩;obtain⟨y,hy,hx⟩:=pz.mp hx;obtain⟨tl,ht,rfl⟩:=aJ.mp hx;obtain⟨r,hr,rfl⟩:=aJ.mp ht;obtain⟨hr,hc⟩:=bS.mp hr;rw[bF,kH]at hc;obtain⟨g,hg,eg⟩:=(h y.1).mp (aJ.mpr ⟨y,hy,rfl⟩);rw[eg,key g hg.1]at hc
  let g2:α->α:=λt=>if t∈fresh then atT r a.2 t else g t
  have e1:kept.map g=kept.map g2:=bC λt ht=>by show g t=if t∈fresh then _ else g t;rw[ax λz=>((hf t).mp z).2.2 ht]
  have e2:fresh.map (atT r a.2)=fresh.map g2:=bC λt ht=>by show _=if t∈fresh then _ else g t;rw[aA ht]
  have e3:a.2.map g2=r:=by
   conv=>rhs;rw[<-WZ hc.1]
   refine bC λt ht=>?_;show(if t∈fresh then atT r a.2 t else g t)=_;by_cases c:t∈fresh
   ·rw[aA c]
   ·rw[ax c];exact(tJ.mp hc.2 t ((kn t).mpr ⟨ht,c⟩)).symm
  refine{g2,{λt ht=>?_,λb hb=>?_},?_}
  ·show(if t∈fresh then atT r a.2 t else g t)=t;rw[ax λz=>by rw[((hf t).mp z).2.1]at ht;cases ht];exact hg.1 t ht
  ·rcases aF.mp hb with rfl|hb
   ·rw[e3];exact hr
   ·have:b.2.map g2=b.2.map g:=bC λt ht=>by show(if t∈fresh then _ else g t)=g t;rw[ax λz=>((hf t).mp z).2.2 (hs b hb t ht ((hf t).mp z).1 ((hf t).mp z).2.1)]
    rw[this];exact hg.2 b hb
  ·rw[eg,e1,e2,<-aN];exact vW λt ht c=>absurd (h' t ht) c
 ·rintro⟨g,hg,rfl⟩;obtain⟨y,hy,ey⟩:=aJ.mp ((h (kept.map g)).mpr {g,({hg.1,λb hb=>hg.2 b (az _ hb)}),rfl});refine{(y.1++fresh.map g,y.2),pz.mpr {y,hy,aJ.mpr {fresh.map g,aJ.mpr {a.2.map g,bS.mpr {hg.2 a ay,?_},bC λt ht=>ME ((hf t).mp ht).1},rfl}},?_}
  ·rw[P7,jt,ey,key g hg.1];exact aX (bC λt ht=>ME ((kn t).mp ht).1)
  ·rw[ey,<-aN];exact(vW λt ht c=>absurd (h' t ht) c).symm
end
section
variable{α:Type}[DecidableEq α]
def fits(un:α->Bool)(db:α->List (Rw α))(atoms:List (wo α))(known v:List α):Bool:=atoms.all λa=>!decide (a.2.filter (λt=>un t&&decide (t∉known))=[])||decide (image known v a.2∈db a.1)
def mM.of{un:α->Bool}{S T:List (wo α)}{g:α->α}(h:mM un db S g)(e:∀a∈T,a∈S):mM un db T g:={h.1,λa ha=>h.2 a (e a ha)}
def W8(h:Kp un db S kept maps)(hh:∀t∈head,un t=true->t∈kept)(row:Rw α):row∈(narrowed maps kept head).map (·.1)↔∃g,mM un db S g/\row=head.map g:=by
 have im:∀g,mM un db S g->image kept (kept.map g) head=head.map g:=λg hg=>vW λt ht c=>by
  cases e:un t with
  |false=>exact hg.1 t e
  |true=>exact absurd (hh t ht e) c
 rw[zb];constructor
 ·rintro⟨x,hx,rfl⟩;obtain⟨g,hg,e⟩:=(h x.1).mp (aJ.mpr ⟨x,hx,rfl⟩);exact{g,hg,by rw[e,im g hg]}
 ·rintro⟨g,hg,rfl⟩;obtain⟨y,hy,ey⟩:=aJ.mp ((h _).mpr ⟨g,hg,rfl⟩);exact{y,hy,by rw[ey,im g hg]}
end
section
variable{α:Type}[DecidableEq α]
def words(A:List α):Nat->List (List α)
 |0=>[[]]
 |k+1=>(words A k).flatMap λv=>A.map λx=>x::v
structure AskI(un:α->Bool)(db:α->List (Rw α))(atoms:List (wo α))(head:List α)(S left:List (wo α))(kept:List α)(maps:List (Rw α×Int)):Prop where
 kp:Kp un db S kept maps
 at_:∀a,a∈atoms↔a∈S\/a∈left
 kt:∀t,t∈kept↔un t=true/\(∃b∈S,t∈b.2)/\(t∈head\/∃b∈left,t∈b.2)
 nd:kept.Nodup
 md:(maps.map (·.1)).Nodup
variable{un:α->Bool}{db:α->List (Rw α)}{atoms:List (wo α)}{head:List α}{S left:List (wo α)}{kept:List α}{maps:List (Rw α×Int)}
def AskI.start:AskI un db atoms head [] atoms [] [([],1)]:={λv=>{λh=>{id,{λ_ _=>rfl,λa ha=>by cases ha},au.mp h},λ⟨_,_,e⟩=>au.mpr e},λa=>{.inr,λh=>h.elim (λz=>by cases z) id},λt=>{λh=>(by cases h),λ⟨_,⟨b,hb,_⟩,_⟩=>(by cases hb)},.nil,ka _ _}
def AskI.len(h:AskI un db atoms head S left kept maps)(hx:x∈maps):x.1.length=kept.length:=by obtain⟨g,_,e⟩:=(h.kp x.1).mp (aJ.mpr ⟨x,hx,rfl⟩);rw[e,ak]
theorem AskI.vals{vals:List α}(h:AskI un db atoms head S left kept maps)(hv:∀a∈atoms,∀r∈db a.1,∀x∈r,x∈vals)(hx:x∈maps):∀y∈x.1,y∈vals:=λy hy=>by obtain⟨g,hg,e⟩:=(h.kp x.1).mp (aJ.mpr ⟨x,hx,rfl⟩);rw[e]at hy;obtain⟨t,ht,rfl⟩:=aJ.mp hy;obtain⟨_,⟨b,hb,U7⟩,_⟩:=(h.kt t).mp ht;exact hv b ((h.at_ b).mpr (.inl hb)) _ (hg.2 b hb) _ (aJ.mpr ⟨t,U7,rfl⟩)
def AskI.step(h:AskI un db atoms head S (l1++a::l2) kept maps)(hf:∀t,t∈fresh↔t∈a.2/\un t=true/\t∉kept)(fn:fresh.Nodup)(hk:known=a.2.filter (λt=>decide (t∉fresh)))
  (hn:∀t,need t=true↔t∈head\/∃b∈l1++l2,t∈b.2):
  AskI un db atoms head (a::S) (l1++l2) ((kept++fresh).filter need) (narrowed (longer maps (db a.1) a.2 kept known fresh) (kept++fresh) ((kept++fresh).filter need)):=by
 have mid:∀b,b∈l1++a::l2↔b=a\/b∈l1++l2:=λb=>by rw[aY,aF,aY];exact{λh=>h.elim (λz=>.inr (.inl z)) λh=>h.elim .inl λz=>.inr (.inr z),λh=>h.elim (λz=>.inr (.inl z)) λh=>h.elim .inl λz=>.inr (.inr z)}
 refine{V7 h.kp hf hk (λt ht=>((h.kt t).mp ht).1) (λb hb t ht tm u=>(h.kt t).mpr {u,⟨b,hb,ht⟩,.inr {a,(mid a).mpr (.inl rfl),tm}}) λt ht=>(bS.mp ht).1,λb=>?_,λt=>?_,?_,rm}
 ·rw[h.at_ b,mid b,aF];exact{λh=>h.elim (λz=>.inl (.inr z)) λh=>h.elim (λz=>.inl (.inl z)) .inr,λh=>h.elim (λh=>h.elim (λz=>.inr (.inl z)) .inl) λz=>.inr (.inr z)}
 ·rw[bS,aY,hn,hf,h.kt];constructor
  ·rintro⟨⟨u,⟨b,hb,ht⟩,_⟩|⟨ht,u,_⟩,q⟩
   ·exact{u,{b,az _ hb,ht},q}
   ·exact{u,⟨a,ay,ht⟩,q}
  ·rintro⟨u,⟨b,hb,ht⟩,q⟩;refine{?_,q};rcases aF.mp hb with rfl|hb
   ·by_cases c:t∈kept
    ·exact .inl ((h.kt t).mp c)
    ·exact .inr {ht,u,λz=>c ((h.kt t).mpr z)}
   ·exact .inl {u,⟨b,hb,ht⟩,(q.imp id λ⟨b,hb,ht⟩=>{b,(mid b).mpr (.inr hb),ht})}
 ·refine List.Pairwise.sublist qS (fE.mpr {h.nd,fn,λx hx y hy e=>?_});subst e;exact((hf x).mp hy).2.2 hx
def AskI.end_(h:AskI un db atoms head S [] kept maps)(hh:∀t∈head,un t=true->∃a∈atoms,t∈a.2)(row:Rw α):row∈(narrowed maps kept head).map (·.1)↔∃g,mM un db atoms g/\row=head.map g:=by
 have e:∀a,a∈atoms↔a∈S:=λa=>by rw[h.at_ a];exact{λz=>z.elim id (λz=>by cases z),.inl}
 rw[W8 h.kp λt ht u=>(h.kt t).mpr {u,let⟨a,ha,q⟩:=hh t ht u;{a,(e a).mp ha,q},.inl ht}];exact{λ⟨g,hg,q⟩=>{g,hg.of λa ha=>(e a).mp ha,q},λ⟨g,hg,q⟩=>{g,hg.of λa ha=>(e a).mpr ha,q}}
end
section
variable{α:Type}[DecidableEq α]
def aco{β:Type}(l:List β)(f:β->Int):Int:=(l.map f).sum
abbrev ind(p:Prop)[Decidable p]:Int:=if p then 1 else 0
structure aem(un:α->Bool)(db:α->List (Rw α))(S:List (wo α))(kept:List α)(maps:List (Rw α×Int))(bs:List α)(L:List (Rw α)):Prop where
 bt:∀t,t∈bs↔un t=true/\∃b∈S,t∈b.2
 bn:bs.Nodup
 ln:L.Nodup
 lm:∀v,v∈L↔∃g,mM un db S g/\v=bs.map g
 ct:∀x∈maps,x.2=aco L λv=>ind (image bs v kept=x.1)
variable{un:α->Bool}{db:α->List (Rw α)}{atoms:List (wo α)}{head:List α}{S left:List (wo α)}{kept:List α}{maps:List (Rw α×Int)}{bs:List α}{L:List (Rw α)}
end
section
variable{α:Type}[DecidableEq α]
def Au{xs ts:List α}{l:List (Rw α×Int)}:(narrowed l xs ts).length<=l.length:=by
 have gen:∀(l m:List (Rw α×Int)),(l.foldl (λm x=>sS m (image xs x.1 ts) x.2) m).length<=m.length+l.length:=by
  intro l
  induction l with
  |nil=>intro m;exact ao _
  |cons y l ih=>
   intro m;refine aL (ih _) ?_;have:(sS m (image xs y.1 ts) y.2).length<=m.length+1:=by
    unfold sS;split
    ·rw[ak];lia
    ·rw[aM];exact ao _
   dsimp only;rw[bu];lia
 have:=gen l [];rw[gk,vi]at this;exact this
variable{un:α->Bool}{db:α->List (Rw α)}{S S1 S2:List (wo α)}{us us1 us2 vals h1 h2:List α}
end
end AskP
namespace cH
open PySem
abbrev Atom:=Str×Aaf
abbrev fV:=List (Str×Str)
section
variable(gw:Str->Bool)
def ap(h:Str->Str)(t:Str):Str:=if gw t then h t else t
def Fits(D:List Atom)(h:Str->Str)(as:List Atom):Prop:=∀a∈as,(a.1,a.2.map (ap gw h))∈D
def kC(g:fV)(h:Str->Str):Prop:=∀p∈g,h p.1=p.2
def zM(as:List Atom):Aaf:=(as.map λa=>a.2.filter gw).flatten
def keys(g:fV):Aaf:=g.map (·.1)
def get(g:fV)(u:Str):Option Str:=(g.find? λp=>decide (p.1=u)).map (·.2)
def nM(g g':fV):Prop:=∀u v,get g u=some v->get g' u=some v
end
section
variable{gw:Str->Bool}{D as bs:List Atom}{g g':fV}{h:Str->Str}
def uO{u:Str}:u∈zM gw as↔∃a∈as,u∈a.2/\gw u=true:=by
 unfold zM;rw[vq];constructor
 ·rintro⟨l,hl,hu⟩;obtain⟨a,ha,rfl⟩:=aJ.mp hl;exact{a,ha,bS.mp hu}
 ·rintro⟨a,ha,hu⟩;exact{_,bT ha,bS.mpr hu}
def Fits.app:Fits gw D h (as++bs)↔Fits gw D h as/\Fits gw D h bs:=
 {λf=>{λa ha=>f a (hJ _ ha),λa ha=>f a (bZ _ ha)},λf a ha=>(aY.mp ha).elim (f.1 a) (f.2 a)}
def get_some{u v:Str}(h:get g u=some v):(u,v)∈g:=by obtain⟨p,hp,rfl⟩:=bb.mp h;have:=List.find?_some hp;rw[<-(aW this)];exact jD hp
def get_none{u:Str}:get g u=none↔u∉keys g:=by
 unfold get keys;rw[wR,nN];constructor
 ·intro h q;obtain⟨p,hp,e⟩:=aJ.mp q;exact h p hp (aX e)
 ·intro h p hp q;exact h (aJ.mpr {p,hp,aW q})
def get_mem(nd:(keys g).Nodup){u v:Str}(h:(u,v)∈g):get g u=some v:=by
 induction g with
 |nil=>cases h
 |cons p r ih=>
  unfold keys at nd;rw[bo,cP]at nd;unfold get;rcases aF.mp h with e|h
  ·rw[eJ (p:=λp:Str×Str=>decide (p.1=u)) (aX (by rw[<-e]))];rw[<-e];rfl
  ·have ne:¬decide (p.1=u)=true:=λq=>nd.1 (by
    rw[aW q];exact aJ.mpr ⟨_,h,rfl⟩)
   rw[eK (p:=λp:Str×Str=>decide (p.1=u)) ne];exact ih nd.2 h
def kC.get(a:kC g h){u v:Str}(e:get g u=some v):h u=v:=a (u,v) (get_some e)
def G2(nd:(keys g).Nodup)(e:∀u v,get g u=some v->h u=v):kC g h:=λp hp=>e p.1 p.2 (get_mem nd hp)
def kC.longer(nd:(keys g).Nodup)(l:nM g g')(a:kC g' h):kC g h:=G2 nd λu v e=>a.get (l u v e)
def over(g:fV)(h:Str->Str)(u:Str):Str:=(get g u).getD (h u)
def Cc(nd:(keys g).Nodup):kC g (over g h):=G2 nd λu v e=>by unfold over;rw[e];rfl
def fit(gw:Str->Bool)(g:fV):Aaf->Aaf->Option fV
 |[],[]=>some g
 |t::ts,a::as=>if gw t then(match get g t with
   |some m=>if m=a then fit gw g ts as else none
   |none=>fit gw (g++[(t,a)]) ts as)else if t=a then fit gw g ts as else none
 |_,_=>none
def Mp{u v x:Str}(n:get g u=none):get (g++[(u,v)]) x=if x=u then some v else get g x:=by
 unfold get at n⊢;rw[List.find?_append];by_cases c:x=u
 ·subst c;rw[aA rfl,wR.mp n];simp
 ·rw[ax c];cases q:g.find? λp=>decide (p.1=x)with
  |none=>
   have:([(u,v)]:fV).find? (λp=>decide (p.1=x))=none:=by rw[nN];intro p hp;rw[au.mp hp];simpa usingλe=>c e.symm
   rw[this];rfl
  |some p=>rfl
def Nw{u v:Str}(n:get g u=none):nM g (g++[(u,v)]):=λx y e=>by
 rw[Mp n];split
 next c=>rw[c,n]at e;cases e
 next=>exact e
def nM.refl(g:fV):nM g g:=λ_ _ h=>h
def nM.trans{g1 g2 g3:fV}(a:nM g1 g2)(b:nM g2 g3):nM g1 g3:=λu v h=>b u v (a u v h)
def Ar{u v:Str}(nd:(keys g).Nodup)(n:get g u=none):(keys (g++[(u,v)])).Nodup:=by unfold keys;rw[aN];refine fE.mpr {nd,by simp,λa ha b hb=>?_};rw[iT,au]at hb;rw[hb];rintro rfl;exact get_none.mp n ha
theorem yC:∀{ts as:Aaf}{g g':fV},(keys g).Nodup->fit gw g ts as=some g'->(keys g').Nodup/\nM g g'/\(∀u,u∈keys g'↔u∈keys g\/(u∈ts/\gw u=true))/\∀h,kC g' h->ts.map (ap gw h)=as
 |[],[],g,g',nd,e=>by cases e;exact{nd,nM.refl g,λu=>by simp,λh _=>rfl}
 |[],_::_,g,g',nd,e=>by cases e
 |_::_,[],g,g',nd,e=>by cases e
 |t::ts,a::as,g,g',nd,e=>by
  unfold fit at e;split at e
  next ut=>
   split at e
   next m em=>
    split at e
    next ma=>
     obtain⟨n1,l1,k1,f1⟩:=yC nd e;have tk:t∈keys g:=by
      by_cases q:t∈keys g
      ·exact q
      ·rw[get_none.mpr q]at em;cases em
     refine{n1,l1,λu=>?_,λh ag=>?_}
     ·rw[k1];constructor
      ·rintro(h|⟨h,h2⟩)
       ·exact .inl h
       ·exact .inr {az _ h,h2}
      ·rintro(h|⟨h,h2⟩)
       ·exact .inl h
       ·rcases aF.mp h with rfl|h
        ·exact .inl tk
        ·exact .inr ⟨h,h2⟩
     ·rw[bo,f1 h ag];have:ap gw h t=a:=by unfold ap;rw[aA ut,ag.get (l1 t m em),ma]
      rw[this]
    next=>cases e
   next em=>
    obtain⟨n1,l1,k1,f1⟩:=yC (Ar nd em) e;refine{n1,(Nw em).trans l1,λu=>?_,λh ag=>?_}
    ·rw[k1];have:u∈keys (g++[(t,a)])↔u∈keys g\/u=t:=by unfold keys;rw[aN,aY];exact or_congr_right au
     rw[this];constructor
     ·rintro((h|rfl)|⟨h,h2⟩)
      ·exact .inl h
      ·exact .inr ⟨ay,ut⟩
      ·exact .inr {az _ h,h2}
     ·rintro(h|⟨h,h2⟩)
      ·exact .inl (.inl h)
      ·rcases aF.mp h with rfl|h
       ·exact .inl (.inr rfl)
       ·exact .inr ⟨h,h2⟩
    ·rw[bo,f1 h ag];have:ap gw h t=a:=by unfold ap;rw[aA ut];exact ag.get (l1 t a (by rw[Mp em,aA rfl]))
     rw[this]
  next ut=>
   split at e
   next ta=>
    obtain⟨n1,l1,k1,f1⟩:=yC nd e;refine{n1,l1,λu=>?_,λh ag=>?_}
    ·rw[k1];constructor
     ·rintro(h|⟨h,h2⟩)
      ·exact .inl h
      ·exact .inr {az _ h,h2}
     ·rintro(h|⟨h,h2⟩)
      ·exact .inl h
      ·rcases aF.mp h with rfl|h
       ·exact absurd h2 ut
       ·exact .inr ⟨h,h2⟩
    ·rw[bo,f1 h ag];have:ap gw h t=a:=by unfold ap;rw[ax ut,ta]
     rw[this]
   next=>cases e
theorem EJ:∀{ts:Aaf}{g:fV},(keys g).Nodup->kC g h->∃g',fit gw g ts (ts.map (ap gw h))=some g'/\kC g' h
 |[],g,nd,ag=>⟨g,rfl,ag⟩
 |t::ts,g,nd,ag=>by
  rw[bo];unfold fit;by_cases ut:gw t=true
  ·rw[aA ut];have ea:ap gw h t=h t:=by unfold ap;rw[aA ut]
   cases em:get g t with
   |some m=>
    rw[ea];show∃g',(if m=h t then fit gw g ts (ts.map (ap gw h))else none)=some g'/\_;rw[aA (ag.get em).symm];exact EJ nd ag
   |none=>
    refine EJ (Ar nd em) λp hp=>?_;rcases aY.mp hp with q|q
    ·exact ag p q
    ·rw[au.mp q];exact ea.symm
  ·rw[ax ut];have ea:ap gw h t=t:=by unfold ap;rw[ax ut]
   rw[ea,aA rfl];exact EJ nd ag
end
section
variable(gw:Str->Bool)(g:fV)
def abd(p:List Atom)(a:Atom):Bool:=p.any λo=>(a.2.filter λt=>gw t&&(get g t).isNone).any λt=>decide (t∈o.2)
def step(a:Atom):List (List Atom)->List Atom×List (List Atom)
 |[]=>([a],[])
 |ps=>ps.foldl (λacc p=>if abd gw g p a then(p++acc.1,acc.2)else(acc.1,acc.2++[p])) ([a],[])
def Apart(p q:List Atom):Prop:=∀u,u∈zM gw p->u∈zM gw q->u∈keys g
end
section
variable{gw:Str->Bool}{g:fV}
structure Stp(gw:Str->Bool)(g:fV)(a:Atom)(done:List (List Atom))(x:List Atom×List (List Atom)):Prop where
 mem:∀b,(b∈x.1\/∃p∈x.2,b∈p)↔(b=a\/∃p∈done,b∈p)
 len:x.1.length+(x.2.map List.length).sum=1+(done.map List.length).sum
 one:∀p∈x.2,Apart gw g p x.1
 two:x.2.Pairwise (Apart gw g)
 sub:∀p∈x.2,p∈done
 mrg:∀r,Apart gw g r [a]->(∀p∈done,Apart gw g r p)->Apart gw g r x.1
 ne:x.1≠[]
end
section
variable(gw:Str->Bool)(D:List Atom)
structure Got(g g':fV)(as:List Atom):Prop where
 nd:(keys g').Nodup
 lg:nM g g'
 ks:∀u,u∈keys g'↔u∈keys g\/u∈zM gw as
 ft:∀h,kC g' h->Fits gw D h as
end
end cH
namespace L2
open PySem PySem.Spec PyProof.Rows
section
variable{K:Frag}{a b:Addr}{xs zs:Aam}{fr:List Nat}{tt:TT}{te:TE}{Z:St}{H1:Hp}{R:Addr->Aam->Hp->Prop}
def Of(Pv:Nat->Aam->Hp->Prop)(hx:xs.length<sizeLine)(le:xs.length=zs.length)(h0:Pv 0 [] H1)(hl:∀i ys H,i<=xs.length->Pv i ys H->(bf K H a xs/\bf K H b zs)/\ys.length<=i)
  (hs:∀(i:Nat)(x z:V)(p:Addr)(ys:Aam)(H:Hp)(N:Aam->Hp->Prop),xs[i]?=some x->zs[i]?=some z->Pv i ys H->H p=none->(∀lL H',Pv (i+1) lL H'->N lL H')->
   tt (some x::some z::slotsOf fr Z) (upd H p (.tup [x,z])) λt H4=>if t=true then te (some x::some z::slotsOf fr Z) H4 (λy H5=>N (ys++[y]) H5)else N ys H4)
  (hd:∀ys H,Pv xs.length ys H->∀l,H l=none->R l ys H):RB (Itz K a b) 2 fr (Vx K) tt te Z H1 R:=by
 refine{λi m ys H=>m=xs.length -i/\i<=xs.length/\Pv i ys H,{xs.length,by simp,aR _,h0},?_};rintro i m ys H ⟨rfl,hi,p⟩;obtain⟨⟨q1,q2⟩,hy⟩:=hl i ys H hi p;by_cases cw:i<xs.length
 ·refine .inr {{xs,zs,xs[i],zs[i]'∅,q1,q2,aq cw,aq _},by lia,?_};rintro v H3 ⟨r,u,z,rfl,hr,rfl,y1,y2⟩ own ho;have h:=hs i u z r ys H (λlL H'=>∃m',m'<xs.length -i/\m'=xs.length -(i+1)/\i+1<=xs.length/\Pv (i+1) lL H') (y1 xs q1) (y2 zs q2) p hr λlL H' p'=>{_,by lia,rfl,cw,p'};exact WL ho rfl (bf.of ar) {[some u,some z],rfl,rfl,h}
 ·have e:i=xs.length:=by lia
  subst e;exact .inl {⟨xs,q1,rfl⟩,by lia,hd ys H p}
end
end L2
namespace L2
open PySem PySem.Spec PyProof.Rows PySem.W
section
variable{X:Cx}
inductive LG(K:Frag)(x:V)(vs:Aam)(H:Hp)(Q:VK):Prop
 |mk (l:Addr) (zs:Aaf) (z:Str) (j:Nat) (_:x=.ref l) (_:vs=[.str z]) (_:bf K H l (zs.map V.str)) (_:zs[j]?=some z) (_:(∀m,m<j->zs[m]?≠some z)) (_:Q (.int (j:Int)) H)
def Pz:MH X "tuple.index" (LG X.K):=by
 intro pins s Z H x vs v us Q I rx rv h;obtain⟨l,zs,z,j,rfl,rfl,hH,hj,Ey,q⟩:=h;cases rx;obtain⟨u,rfl,ru⟩:=rv.one;obtain⟨t,rfl⟩:=ru;obtain⟨aP,r,ht,hl⟩:=I.tuple hH;obtain⟨o,ho,hc,n,hd⟩:=ht;have lz:=r.length;rw[ak]at lz;have eat:∀m:Nat,m<aP.length->∃y t',aP[m]?=some (.str y t')/\zs[m]?=some y:=λm hm=>by
  have hz:m<zs.length:=by lia
  obtain⟨u',sg,t',rfl⟩:=r.get (i:=m) (x:=.str zs[m]) (by rw[aI,aq hz];rfl);exact{zs[m],t',sg,aq hz}
 have oU:j<aP.length:=by have:=(aw.mp hj).1;lia
 refine ba F.slot_tuple_index ⟨_,ho,hc⟩ F.entry_tuple_index ?_ (F.args_tuple_index_2 _ _);unfold Builtin.«tuple.index»;refine ae (af ?_);refine ae (ae (bQ ho hd (af ?_)));refine ae (af (ae (af ?_)));dsimp only;rw[Nat.min_self,Std.Legacy.Range.forIn_eq_forIn_range'];have hsz:([0:aP.toArray.size]:Std.Legacy.Range).size=aP.length:=by simp[Std.Legacy.Range.size]
 refine ae (df (fP _ (λl b s'=>∃m,l=List.range' m (aP.length -m) 1/\m<=j/\b=(none,())/\s'=s) (λb s'=>∃tk,b=(some (PySem.Fin.done (Flow.ret (.int j tk))),())/\s'={s with toks:=s.toks+1}) ?_ ?_ _ _ {0,?_,aR _,rfl,rfl}) ?_ λ_ _ e=>e)
 ·rintro x rest b s' ⟨m,el,mj,rfl,rfl⟩;obtain⟨k,hk⟩:∃k,aP.length -m=k+1:={aP.length -m -1,by lia};rw[hk,List.range'_succ]at el;obtain⟨rfl,rfl⟩:=List.cons.inj el;obtain⟨y,t',e1,e2⟩:=eat x ∅;have e3:aP.toArray[x]?=some (.str y t'):=by rw[<-e1];simp
  rw[e3];refine ae (f6.eq_str ?_);by_cases e:x=j
  ·subst e;rw[hj]at e2;cases e2;rw[aX rfl];exact ae (ae (B4 (af (af ⟨_,rfl,rfl⟩))))
  ·have ne:y≠z:=λq=>Ey x ∅ (by rw[e2,q]);rw[bB ne];exact af {x+1,by rw[show aP.length -(x+1)=k by lia],by lia,rfl,rfl}
 ·rintro b s' ⟨m,el,mj,rfl,rfl⟩;have:aP.length -m=0:=by have:=cc List.length el;simpa using this.symm
  lia
 ·show List.range' 0 ([0:aP.toArray.size]:Std.Legacy.Range).size 1=_;rw[hsz];rfl
 ·rintro b s' ⟨tk,rfl,rfl⟩;exact af {_,rfl,{.int _,H,I.tok _,⟨_,rfl⟩,q}}
def yx{K:Frag}(h:X.K=K:=by rfl):MH X "tuple.index" (LG K):=h▸Pz
end
end L2
namespace L2
open PySem PySem.Spec PyProof.Rows
section
variable{P:Program}{w:World}{A:Around}{E:Aac}{v:Shared}
structure Zu(h:Heap)(z ti to i1 i2 l1 l2 T:Addr)(k:Nat):Prop where
 self:∃b,h.get? z=some (xU (rawInt T) b ti to)
 live:∃o,h.get? T=some o
 ins:IsPair h ti (.ref i1) (.ref i2)
 w1:h.IsTupleIter i1 l1 k
 w2:h.IsTupleIter i2 l2 k
def VT{Q:Aac}(D:ZipApart z ti to i1 i2 l1 l2)(nT:T≠z)(g:Zu v.heap z ti to i1 i2 l1 l2 T k)
  (t1:v.heap.IsTuple l1 xs) (t2:v.heap.IsTuple l2 ys) (ex:xs[k]?=some x) (ey:ys[k]?=some y)
  (q:∀h',Zu h' z ti to i1 i2 l1 l2 T (k+1)->IsPair h' v.heap.objs.size x y->(∀c o,c≠z->c≠i1->c≠i2->v.heap.get? c=some o->h'.get? c=some o)->Q (.ref v.heap.objs.size) {v with heap:=h'}):
  wpAny (model P w) A (Builtin.«zip.__next__» {[.ref z],[]}) (λfin s'=>∃u,fin=.done (.ret u)/\Q u s') E v:=by
 obtain⟨⟨b,gs⟩,gT,gi,g1,g2⟩:=g;show wpAny _ _ (field (.ref z) 2>>=_) _ _ _;refine ae (bH gs rfl rfl ?_);refine ae (bH gs rfl rfl ?_);refine ae (bQ gi rfl ?_);refine ae (K7 gs gT λp1 z1 r1=>?_);refine ae ?_;refine ae (ae (bL ?_));refine ae (tY (jg g1 r1 D.i1z) (nR t1 r1 D.l1z) ex λp2 k2 r2=>af ?_);refine af ?_;refine ae (ae (bL ?_));refine ae (tY (jg (jg g2 r1 D.i2z) r2 D.i12.symm) (nR (nR t2 r1 D.l2z) r2 D.l2i1) ey λp3 k3 r3=>af ?_);refine af (af ?_);show wpAny _ _ (newTuple [x,y]>>=_) _ _ _;refine ae (kL (af {_,rfl,?_}));have sz:p3.objs.size=v.heap.objs.size:=by rw[r3.1,r2.1,r1.1]
 have st:∀c o,c≠z->c≠i1->c≠i2->v.heap.get? c=some o->p3.get? c=some o:=λc o m1 m2 m3 e=>r3.extBut _ _ m3 (r2.extBut _ _ m2 (r1.extBut _ _ m1 e));rw[sz];obtain⟨oa,ja,ra⟩:=(jg k2 r3 D.i12);obtain⟨ob,jb,rb⟩:=k3;obtain⟨oT,gT⟩:=gT;obtain⟨o1,e1,c1,_⟩:=g1;obtain⟨o2,e2,c2,_⟩:=g2;refine q _ {{true,ah _ (r3.extBut _ _ D.i2z.symm (r2.extBut _ _ D.i1z.symm z1))},?_,ah _ (st _ _ D.TIz D.TIi1 D.TIi2 gi),{oa,ah _ ja,ra},{ob,ah _ jb,rb}} ?_ λc o m1 m2 m3 e=>ah _ (st c o m1 m2 m3 e)
 ·by_cases n1:T=i1
  ·rw[n1];exact{oa,ah _ ja}
  ·by_cases n2:T=i2
   ·rw[n2];exact{ob,ah _ jb}
   ·exact{oT,ah _ (st _ _ nT n1 n2 gT)}
 ·have:=aB p3 (o:={cls:=.type "tuple",data:=.seq #[x,y]}) rfl;rw[sz]at this;exact this
def XD(hh:A.handled=none)(D:ZipApart z ti to i1 i2 l1 l2)(g:Zu v.heap z ti to i1 i2 l1 l2 T k)
  (t1:v.heap.IsTuple l1 xs) (ex:xs[k]?=none)
  (q:∀h' e,(∀c o,c≠z->c≠i1->c≠i2->v.heap.get? c=some o->h'.get? c=some o)->(∃o,h'.get? e=some o/\o.cls=.type "StopIteration")->E (.ref e) {v with heap:=h'}):
  wpAny (model P w) A (Builtin.«zip.__next__» {[.ref z],[]}) Q E v:=by
 obtain⟨⟨b,gs⟩,gT,gi,g1,g2⟩:=g;show wpAny _ _ (field (.ref z) 2>>=_) _ _ _;refine ae (bH gs rfl rfl ?_);refine ae (bH gs rfl rfl ?_);refine ae (bQ gi rfl ?_);refine ae (K7 gs gT λp1 z1 r1=>?_);refine ae ?_;refine ae (ae (bL ?_));exact ae (xq hh (jg g1 r1 D.i1z) (nR t1 r1 D.l1z) ex λp2 e r2 he=>q p2 e (λc o m1 m2 m3 x=>r2 _ _ m2 (r1.extBut _ _ m1 x)) he)
def VS(D:ZipApart z ti to i1 i2 l1 l2)(nT:T≠z)(g:Zu v.heap z ti to i1 i2 l1 l2 T k)
  (t1:v.heap.IsTuple l1 xs) (t2:v.heap.IsTuple l2 ys) (ex:xs[k]?=some x) (ey:ys[k]?=some y)
  (q:∀h',Zu h' z ti to i1 i2 l1 l2 T (k+1)->IsPair h' v.heap.objs.size x y->(∀c o,c≠z->c≠i1->c≠i2->v.heap.get? c=some o->h'.get? c=some o)->Q (some (.ref v.heap.objs.size)) {v with heap:=h'}):
  wpAny (model P w) A (pyNext (.ref z)) Q E v:=by
 obtain⟨b,gs⟩:=g.self;have ty:v.TypeIs (.ref z) "zip":=⟨_,gs,rfl⟩;exact ae (dv (wpAny_callSpecial?_slot ty eG (ba eG ty jW (VT D nT g t1 t2 ex ey λh' b1 b2 b3=>af (q h' b1 b2 b3)) (jz _))))
def VR(hh:A.handled=none)(D:ZipApart z ti to i1 i2 l1 l2)(g:Zu v.heap z ti to i1 i2 l1 l2 T k)
  (t1:v.heap.IsTuple l1 xs) (ex:xs[k]?=none) (q:∀h',(∀c o,c≠z->c≠i1->c≠i2->v.heap.get? c=some o->h'.get? c=some o)->Q none {v with heap:=h'}):
  wpAny (model P w) A (pyNext (.ref z)) Q E v:=by
 obtain⟨b,gs⟩:=g.self;have ty:v.TypeIs (.ref z) "zip":=⟨_,gs,rfl⟩;refine ae (dv (wpAny_callSpecial?_slot ty eG (ba eG ty jW (XD hh D g t1 ex λh' e hk he=>?_) (jz _))));obtain⟨o,ho,hc⟩:=he;exact ae (fg ⟨o,ho,hc⟩ iF (af (q _ hk)))
variable{prog:Program}
def Xo{h0:Heap}(hA:A.handled=none)(D:ZipApart z ti to i1 i2 l1 l2)(gH:h0.get? d=none)(n1:d≠z)(n2:d≠i1)(n3:d≠i2)(n4:d≠ti)
  (qj:h0.IsTuple l1 us.toArray) (ip:h0.IsTuple l2 vs.toArray) (hp:Paired (λ(u:Value)(p:Key×Value)=>(bJ prog w).is p.1 u=true) us pairs) (hv:vs=pairs.map (·.2)) (hsz:pairs.length<=sizeLine) (g:Array GenState) (dr:Drawn) (os:OsState)
  (k:∀h' tk,(∀b o,b≠z->b≠to->b≠i1->b≠i2->h0.get? b=some o->h'.get? b=some o)->h'.DictOf (bJ prog w) d (merged [] pairs)->R (.ok (.ret .none)) ⟨h',g,dr,tk,os⟩):
  ∀(m i:Nat)(h:Heap)(tk:Nat)(T:Addr),us.length -i=m->i<=us.length->(∀b o,b≠z->b≠to->b≠i1->b≠i2->h0.get? b=some o->h.get? b=some o)->T≠z->Zu h z ti to i1 i2 l1 l2 T i->h.DictOf (bJ prog w) d (merged [] (pairs.take i))->
   codeAny (model prog w) A (.builtin "dict.update.loop" {[.ref d,.ref z,rawInt i,.none],[]}) R ⟨h,g,dr,tk,os⟩:=by
 intro m;have U0:∀(h:Heap),(∀b o,b≠z->b≠to->b≠i1->b≠i2->h0.get? b=some o->h.get? b=some o)->h.IsTuple l1 us.toArray/\h.IsTuple l2 vs.toArray:=λh kp=>by obtain⟨o1,e1,r1⟩:=qj;obtain⟨o2,e2,r2⟩:=ip;exact{{o1,kp _ _ D.l1z D.l1TO D.l1i1 D.l1i2 e1,r1},{o2,kp _ _ D.l2z D.l2TO D.l2i1 D.l2i2 e2,r2}}
 induction m with
 |zero=>
  intro i h tk T em hi kp nT hz hd;have ei:i=us.length:=by lia
  refine eA yE ?_;refine ae (VR (show(A.under _).handled=none from hA) D hz (U0 h kp).1 (by rw[ei];simp) λh' hs=>?_);refine ae (af (af ?_));rw[ei,(a9 hp),bh]at hd;obtain⟨o,es,ep,e,r⟩:=hd;exact k h' _ (λb o m1 m2 m3 m4 hb=>hs b o m1 m3 m4 (kp b o m1 m2 m3 m4 hb)) {o,es,ep,hs _ _ n1 n2 n3 e,r}
 |succ m ih=>
  intro i h tk T em hi kp nT hz hd;have cw:i<us.length:=by lia
  obtain⟨x,hx⟩:∃x,us[i]?=some x:={_,aq cw};obtain⟨kv,ou,hku⟩:=Paired.at' hp hx;refine eA yE ?_;obtain⟨t1,t2⟩:=U0 h kp;refine ae (VS D nT hz t1 t2 (by simpa using hx) (by simpa using(by rw[hv,aI,ou];rfl)) λh1 vY pr Es=>?_);obtain⟨od,es,ep,ed,rd⟩:=hd;refine ae (bL (ae (wpAny_tryCatch ?_)));refine ae (gu ⟨_,pr,rfl⟩ ?_);refine ae (bQ pr rfl (af ?_));have lm:(merged [] (pairs.take i)).length<=sizeLine:=by have e1:=merged_length_le [] (pairs.take i);rw[aU]at e1;simp only[gk]at e1;lia
  refine bL (zv hku ({od,es,ep,Es _ _ n1 n2 n3 ed,rd}) λh2 hd2 kR=>?_);refine af {nP _ (by decide+kernel),?_};have st:∀b o,b≠d->h1.get? b=some o->h2.get? b=some o:=λb o n e=>(kR.2 b n).trans e;have uR:=λb o m1 m2 m3 m4 hb=>st b o (λe=>by rw[e,gH]at hb;cases hb) ((λb o m1 m2 m3 m4 hb=>Es b o m1 m3 m4 (kp b o m1 m2 m3 m4 hb)) b o m1 m2 m3 m4 hb);obtain⟨⟨b,gs⟩,⟨oT,gT⟩,gi,⟨oa,ja,ra⟩,⟨ob,jb,rb⟩⟩:=vY;have sf:Zu h2 z ti to i1 i2 l1 l2 T (i+1):=by
   refine{{b,st _ _ (bY n1) gs},?_,st _ _ (bY n4) gi,{oa,st _ _ (bY n2) ja,ra},{ob,st _ _ (bY n3) jb,rb}};by_cases nd:T=d
   ·obtain⟨o',_,_,e',_⟩:=hd2;rw[nd];exact⟨o',e'⟩
   ·exact{oT,st _ _ nd gT}
  exact ih (i+1) h2 _ T ∅ cw uR nT sf (by rw[merged_take_succ [] pairs i kv ou];exact hd2)
def TJ{h0 h:Heap}(hA:A.handled=none)(D:ZipApart z ti to i1 i2 l1 l2)(gH:h0.get? d=none)(n1:d≠z)(n2:d≠i1)(n3:d≠i2)(n4:d≠ti)(n5:d≠to)
  (qj:h0.IsTuple l1 us.toArray) (ip:h0.IsTuple l2 vs.toArray) (hp:Paired (λ(u:Value)(p:Key×Value)=>(bJ prog w).is p.1 u=true) us pairs) (hv:vs=pairs.map (·.2)) (hsz:pairs.length<=sizeLine) (h1l:1<=us.length) (g:Array GenState) (dr:Drawn) (os:OsState)
  (k:∀h' tk,(∀b o,b≠z->b≠to->b≠i1->b≠i2->h0.get? b=some o->h'.get? b=some o)->h'.DictOf (bJ prog w) d (merged [] pairs)->R (.ok (.ret .none)) ⟨h',g,dr,tk,os⟩)
  (kp:∀b o,b≠z->b≠to->b≠i1->b≠i2->h0.get? b=some o->h.get? b=some o) (hz:IsZip h z ti to .none) (hi:IsPair h ti (.ref i1) (.ref i2)) (ho:∃a b,IsPair h to a b) (j1:h.IsTupleIter i1 l1 0) (j2:h.IsTupleIter i2 l2 0) (hd:h.DictOf (bJ prog w) d []):
   codeAny (model prog w) A (.builtin "dict.update.loop" {[.ref d,.ref z,rawInt 0,.none],[]}) R ⟨h,g,dr,tk,os⟩:=by
 obtain⟨x,hx⟩:∃x,us[0]?=some x:={_,aq ∅};obtain⟨kv,ou,hku⟩:=Paired.at' hp hx;have t1:h.IsTuple l1 us.toArray:=by obtain⟨o1,e1,r1⟩:=qj;exact{o1,kp _ _ D.l1z D.l1TO D.l1i1 D.l1i2 e1,r1}
 have t2:h.IsTuple l2 vs.toArray:=by obtain⟨o2,e2,r2⟩:=ip;exact{o2,kp _ _ D.l2z D.l2TO D.l2i1 D.l2i2 e2,r2}
 refine eA yE ?_;obtain⟨a,b,ho⟩:=ho;refine ae (K6 {D.TITO,D.i12,D.l1TO,D.l2TO} {hz,hi,⟨a,b,ho⟩,j1,j2} t1 t2 (by simpa using hx) (by simpa using(by rw[hv,aI,ou];rfl)) λh1 ⟨a1,_,_,a3,a4⟩ a5 Es=>?_);obtain⟨od,es,ep,ed,rd⟩:=hd;refine ae (bL (ae (wpAny_tryCatch ?_)));refine ae (gu ⟨_,a5,rfl⟩ ?_);refine ae (bQ a5 rfl (af ?_));refine bL (zv hku ({od,es,ep,Es _ _ n1 n5 n2 n3 ed,rd}) λh2 hd2 kR=>?_);refine af {nP _ (by decide+kernel),?_};have st:∀b o,b≠d->h1.get? b=some o->h2.get? b=some o:=λb o n e=>(kR.2 b n).trans e;obtain⟨oa,ja,ra⟩:=a3;obtain⟨ob,jb,rb⟩:=a4;have sf:Zu h2 z ti to i1 i2 l1 l2 h.objs.size 1:=by
  refine{{false,st _ _ (bY n1) a1},?_,st _ _ (bY n4) (Es _ _ D.TIz D.TITO D.TIi1 D.TIi2 hi),{oa,st _ _ (bY n2) ja,ra},{ob,st _ _ (bY n3) jb,rb}};by_cases nd:h.objs.size=d
  ·obtain⟨o',_,_,e',_⟩:=hd2;rw[nd];exact⟨o',e'⟩
  ·exact{_,st _ _ nd a5}
 exact Xo hA D gH n1 n2 n3 n4 qj ip hp hv hsz g dr os k (us.length -1) 1 h2 _ h.objs.size rfl ∅ (λb o m1 m2 m3 m4 hb=>st b o (λe=>by rw[e,gH]at hb;cases hb) (Es b o m1 m2 m3 m4 (kp b o m1 m2 m3 m4 hb))) (bx (aD hz)) sf (by rw[merged_take_succ [] pairs 0 kv ou];exact hd2)
def aaS{h0 h:Heap}(hA:A.handled=none)(D:ZipApart z ti to i1 i2 l1 l2)(gH:h0.get? d=none)(n1:d≠z)(n2:d≠i1)(n3:d≠i2)(n4:d≠ti)(n5:d≠to)
  (qj:h0.IsTuple l1 us.toArray) (ip:h0.IsTuple l2 vs.toArray) (hp:Paired (λ(u:Value)(p:Key×Value)=>(bJ prog w).is p.1 u=true) us pairs) (hv:vs=pairs.map (·.2)) (hsz:pairs.length<=sizeLine) (g:Array GenState) (dr:Drawn) (os:OsState)
  (k:∀h' tk,(∀b o,b≠z->b≠to->b≠i1->b≠i2->h0.get? b=some o->h'.get? b=some o)->h'.DictOf (bJ prog w) d (merged [] pairs)->R (.ok (.ret .none)) ⟨h',g,dr,tk,os⟩)
  (kp:∀b o,b≠z->b≠to->b≠i1->b≠i2->h0.get? b=some o->h.get? b=some o) (hz:IsZip h z ti to .none) (hi:IsPair h ti (.ref i1) (.ref i2)) (ho:∃a b,IsPair h to a b) (j1:h.IsTupleIter i1 l1 0) (j2:h.IsTupleIter i2 l2 0) (hd:h.DictOf (bJ prog w) d []):
   codeAny (model prog w) A (.builtin "dict.update.loop" {[.ref d,.ref z,rawInt 0,.none],[]}) R ⟨h,g,dr,tk,os⟩:=by
 by_cases h1l:1<=us.length
 ·exact TJ hA D gH n1 n2 n3 n4 n5 qj ip hp hv hsz h1l g dr os k kp hz hi ho j1 j2 hd
 ·have lp:=a9 hp;have e1:us=[]:=ff.mp ∅;have e2:pairs=[]:=ff.mp ∅;subst e1 e2;have t1:h.IsTuple l1 ([]:Aae).toArray:=by obtain⟨o1,e1,r1⟩:=qj;exact{o1,kp _ _ D.l1z D.l1TO D.l1i1 D.l1i2 e1,r1}
  have t2:h.IsTuple l2 vs.toArray:=by obtain⟨o2,e2,r2⟩:=ip;exact{o2,kp _ _ D.l2z D.l2TO D.l2i1 D.l2i2 e2,r2}
  refine eA yE ?_;obtain⟨a,b,ho⟩:=ho;refine ae (K4 (show(A.under _).handled=none from hA) {D.TITO,D.i12,D.l1TO,D.l2TO} {hz,hi,⟨a,b,ho⟩,j1,j2} t1 (by simp) λh' hs=>?_);refine ae (af (af ?_));obtain⟨o,es,ep,e,r⟩:=hd;exact k h' _ (λb o m1 m2 m3 m4 hb=>hs b o m1 m2 m3 m4 (kp b o m1 m2 m3 m4 hb)) {o,es,ep,hs _ _ n1 n5 n2 n3 e,r}
def TK(hA:A.handled=none)(D:ZipApart z ti to i1 i2 l1 l2)
  (qj:s.heap.IsTuple l1 us.toArray) (ip:s.heap.IsTuple l2 vs.toArray) (hp:Paired (λ(u:Value)(p:Key×Value)=>(bJ prog w).is p.1 u=true) us pairs) (hv:vs=pairs.map (·.2)) (hsz:pairs.length<=sizeLine)
  (hz:IsZip s.heap z ti to .none) (hi:IsPair s.heap ti (.ref i1) (.ref i2)) (ho:∃a b,IsPair s.heap to a b) (j1:s.heap.IsTupleIter i1 l1 0) (j2:s.heap.IsTupleIter i2 l2 0)
  (k:∀h' tk,(∀b o,b≠z->b≠to->b≠i1->b≠i2->s.heap.get? b=some o->h'.get? b=some o)->h'.DictOf (bJ prog w) s.heap.objs.size (merged [] pairs)->Q (.ref s.heap.objs.size) {s with heap:=h',toks:=tk}):
  wpAny (model prog w) A (call (.type "dict") [.ref z]) Q E s:=by
 refine callType_codes (Q₁:=λv1 z1=>v1=.ref s.heap.objs.size/\z1={s with heap:=s.heap.push {cls:=.type "dict",data:=.dict #[]}}) F.kt_called_dict (F.kt_typeCall_dict_1 _) F.entry_dict_init (kt_code_dict_new _ ⟨rfl,rfl⟩) ?_;rintro v1 z1 ⟨rfl,rfl⟩;obtain⟨zf,g,dr,tk,os⟩:=s;have Tc:(zf.push {cls:=.type "dict",data:=.dict #[]}).DictOf (bJ prog w) zf.objs.size []:=Heap.DictOf.new zf;have vY:(zf.push {cls:=.type "dict",data:=.dict #[]}).get? z=some (xU .none false ti to):=ah _ hz;refine{Tc.typeIs,F.args_dict_init_2 _ _,?_};refine ae ?_;refine ae (gF Tc.typeIs (af ?_));show wpAny (model prog w) _ (Builtin.Dict.updateFrom "dict.__init__" zf.objs.size (.ref z) [] .none) _ _ _;refine ae (gu ⟨_,vY,rfl⟩ ?_);refine ae (Xn vY hA λh2 tk2 e ne=>?_);refine ae (gz ?_);have kp:∀b o,zf.get? b=some o->h2.get? b=some o:=λb o hb=>ne.keeps _ _ (ah _ hb);have sf:=kp _ _ hz;refine ae (lB sf ?_);have hd2:h2.DictOf (bJ prog w) zf.objs.size []:=by obtain⟨o',es,ep,h',r⟩:=Tc;exact{o',es,ep,ne.keeps _ _ h',r}
 refine af {nP _ (by decide+kernel),?_};obtain⟨a,b,ho⟩:=ho;obtain⟨oa,ja,ra⟩:=j1;obtain⟨ob,jb,rb⟩:=j2;have nz:∀{c:Addr}{o:Obj},zf.get? c=some o->zf.objs.size≠c:=λe=>bx (aD e);exact aaS (show A.in1.handled=none from hA) D (yV (ao _)) (nz hz) (nz ja) (nz jb) (nz hi) (nz ho) qj ip hp hv hsz g dr os (λh' HC LY EE=>{rfl,k h' HC LY EE}) (λb o _ _ _ _ hb=>kp b o hb) sf (kp _ _ hi) {a,b,kp _ _ ho} {oa,kp _ _ ja,ra} {ob,kp _ _ jb,rb} hd2
inductive abn(K:Frag)(Q:VK)(vs:Aam)(H1:Hp):Prop
 |mk (l1 l2:Addr) (ks:List Key) (ys:Aam) (_:vs=[.ref l1,.ref l2]) (_:bf K H1 l1 (ks.map kV)) (_:bf K H1 l2 ys) (_:ks.length=ys.length) (_:∀d,H1 d=none->Q (.ref d) (upd H1 d (.dK (kP [] (ks.zip ys)))))
def acj(K:Frag)(ta:TA):TE:=λZ H Q=>ta Z H λvs H1=>abn K Q vs H1
variable{X:Cx}
def IC(hg:Gl X "dict")(hm:X.mg "dict"=none)(hg2:Gl X "zip")(Qt:X.mg "zip"=none)(hA:X.A.handled=none)(ha:PA X [a,b] ta)
  (hs:starEach [a,b] X.env=[(false,eval a X.env),(false,eval b X.env)]:=by rfl) (kR:starEach [b] X.env=[(false,eval b X.env)]:=by rfl) (Mb:starEach [.Call (.Name "zip" p2) [a,b] [] Iz] X.env=[(false,eval (.Call (.Name "zip" p2) [a,b] [] Iz) X.env)]:=by rfl):
  PE X (.Call (.Name "dict" p) [.Call (.Name "zip" p2) [a,b] [] Iz] [] pos) (acj X.K ta):=by
 intro pins s Z H Q I h;refine E3 (qd I hg hm (by decide+kernel:bootBuiltins "dict"=some (.type "dict")) (dP ?_ Mb rfl));refine fU (E3 (qd I hg2 Qt boot_zip (dP (pR (ha Iz pins s Z H _ I h) λus s1 vs H1 I1 r1 q1=>?_) (by rw[hs,kR]) (by rw[kR];rfl))));obtain⟨l1,l2,ks,ys,e,h1,h2,hkl,q⟩:=q1;subst e;obtain⟨u1,u2,rfl,Ij,D7⟩:=tP r1;cases Ij;cases D7;obtain⟨Gz,Ii,Ec,vY⟩:=I1.tuple h1;obtain⟨Cq,Ih,Ai,sf⟩:=I1.tuple h2;obtain⟨pairs,vZ,lW,kS,hp4⟩:=Lb Ii Ih hkl;have b1:l1<s1.heap.objs.size:=by obtain⟨o,e,_⟩:=id Ec;exact aD e
 have b2:l2<s1.heap.objs.size:=by obtain⟨o,e,_⟩:=id Ai;exact aD e
 have lz:ks.length<=sizeLine:=by rw[ak]at vY;exact vY
 refine K8 (show s1.heap.IsTuple l1 Gz.toArray from Ec) (show s1.heap.IsTuple l2 Cq.toArray from Ai) λh' n en zt kp=>?_;subst en;refine kK ?_;have t1:h'.IsTuple l1 Gz.toArray:=by obtain⟨o,e,r⟩:=id Ec;exact{o,kp _ _ e,r}
 have t2:h'.IsTuple l2 Cq.toArray:=by obtain⟨o,e,r⟩:=id Ai;exact{o,kp _ _ e,r}
 have l0:Gz.length=ks.length:=by have:=Ii.length;rw[ak]at this;exact this.symm
 refine TK hA (zipApart_new b1 b2) t1 t2 vZ lW ∅ zt.self zt.ins zt.outs zt.w1 zt.w2 λh2 tk uR hd=>?_;have rel:=KV.merge kS .nil;have lzm:(kP [] (ks.zip ys)).length<=sizeLine:=by have e1:=merged_length_le [] pairs;rw[rel.length];simp only[gk]at e1;lia
 have kpA:∀c o,s1.heap.get? c=some o->h2.get? c=some o:=λc o e=>by have lc:=aD e;exact uR c o (aG (aV lc (dM _ _))) (aG (aV lc (dM _ _))) (aG lc) (aG (aV lc (dM _ _))) (kp c o e)
 have ld:s1.heap.objs.size<=h'.objs.size:=by exact aL (dM _ 4) (bI (aD zt.self))
 exact{.ref h'.objs.size,_,I1.laid kpA ld (AX lzm (du.mpr (bY (aG (aV I1.big ld)))) rel hd),rfl,q _ (I1.bw.fresh ld)}
inductive Wr(x:V)(vs:Aam)(H:Hp)(Q:VK):Prop
 |mk (a b:Addr) (kvs more:List (Key×V)) (_:x=.ref a) (_:vs=[.ref b]) (_:a≠b) (_:H a=some (.dK kvs)) (_:H b=some (.dK more)) (_:kvs.length+more.length<=sizeLine) (_:Q .cb (upd H a (.dK (kP kvs more))))
def Px:Ko X "dict.update" Wr:=by intro pins s Z H x vs v us Q I rx rv h;obtain⟨a,b,kvs,more,rfl,rfl,ne,hH,hb,hl,q⟩:=h;cases rx;obtain⟨u,rfl,r1⟩:=rv.one;cases r1;obtain⟨zz,hd,ws,rel,dd⟩:=wb I.bw hH;obtain⟨Ub,hd2,ws2,YJ,Mx⟩:=wb I.bw hb;refine nv ve dd.typeIs PySem.F.entry_dict_update (PySem.F.args_dict_update_2 _ _) (meets_dict_update (bJ X.prog X.w) a b ne hd2) {ws,ws2,dd,Mx,by rw[<-rel.length,<-YJ.length];exact hl,λh' qP _ hs=>?_};exact{.cb,_,rB I (hH▸True.intro) hs (let⟨o,_,_,ho,_⟩:=qP;⟨o,ho⟩) (AX (aL (lV more kvs) hl) hd (YJ.merge rel) qP),rfl,q}
variable{s:Shared}{it d:Addr}{i ep:Nat}{es:Array DictEntry}{o:Obj}
abbrev oq(f0:Value)(b:Bool)(d:Addr)(i n ep:Nat)(ok ov:Value):Obj:={cls:=.type "dict_itemiterator",dict:=none,data:=.fields #[f0,.bool b,.ref d,.int i 0,.int n 0,.int ep 0,ok,ov],slots:=#[]}
def RI(h:Heap)(it d:Addr)(i n ep:Nat):Prop:=∃f0 b ok ov,h.get? it=some (oq f0 b d i n ep ok ov)/\(f0=.none\/∃a:Nat,f0=rawInt a)
def RI.ty(x:RI s.heap it d i es.size ep):s.TypeIs (.ref it) "dict_itemiterator":=by obtain⟨_,_,_,_,e,_⟩:=x;exact⟨_,e,rfl⟩
def RI.j7(x:RI h it d i n ep)(k:∀o,h.get? it=some o->h'.get? it=some o):RI h' it d i n ep:=by obtain⟨f0,b,ok,ov,e,c⟩:=x;exact{f0,b,ok,ov,k _ e,c}
def Wq(g:s.heap.get? it=some (oq f0 b d i n ep ok ov))(hf:f0=.none\/∃a:Nat,f0=rawInt a)(q1:Q true s)
  (q2:∀h',h'.get? it=some (oq f0 true d i n ep ok ov)->Heap.SameBut it s.heap h'->Q false {s with heap:=h'}):wpAny (model P w) A (Builtin.Dict_items.ownedTupleIsFree (.ref it)) Q E s:=by
 rcases hf with rfl|⟨a,rfl⟩
 ·exact ae (bH g rfl rfl (af q1))
 ·refine ae (bH g rfl rfl ?_);refine ae (B5 ?_);rw[cA];cases s.heap.get? a with
  |none=>exact af q1
  |some u=>
   refine ae (bH g rfl rfl ?_);cases b with
   |true=>exact af (q2 s.heap g (tL _ _))
   |false=>exact ae (b6 g (by simp) λh1 g1 s1=>af (q2 h1 g1 s1))
def LC{Q:Aac}(g7:RI s.heap it d i es.size ep)(ho:s.heap.get? d=some o)(hd:o.data=.dict es ep)(hi:i<es.size)
  (q:∀h',RI h' it d (i+1) es.size ep->h'.get? s.heap.objs.size=some {cls:=.type "tuple",data:=.seq #[es[i].key,es[i].val]}->(∀b x,b≠it->s.heap.get? b=some x->h'.get? b=some x)->h'.objs.size=s.heap.objs.size+1->Q (.ref s.heap.objs.size) {s with heap:=h'}):
  wpAny (model P w) A (Builtin.«dict_itemiterator.__next__» {[.ref it],[]}) (λfin s'=>∃u,fin=.done (.ret u)/\Q u s') E s:=by
 have hT:=g7.ty;obtain⟨f0,b,ok,ov,hit,hf⟩:=g7;obtain⟨hp,g,dr,tk,os⟩:=s;refine ae (af (ae (ae (ae (gW hT (af ?_))))));refine ae (fW hit rfl ?_);have own:Builtin.Dict_items.ownsTuple "dict_itemiterator"=true:=by decide
 show wpAny _ _ (if(Value.ref d==Value.none)=true then _ else _) _ _ _;refine ae (af (ae (dW ho hd ?_)));rw[ax (by simp)];refine ae (af (ae (gh ho hd ?_)));rw[ax (by simp)];refine af ?_;simp only[show ¬((i:Int)<0)from by lia,cN,cA,bq hi];refine ae (ae (gW hT (af (ae (oO hT ?_)))));show wpAny _ _ (setField (.ref it) 3 (rawInt ((i:Int)+1))>>=_) _ _ ⟨hp,g,dr,tk,os⟩;refine ae (b6 hit (by simp) λh1 e1 s1=>?_);have e1:h1.get? it=some (oq f0 b d (i+1) es.size ep ok ov):=by
  have e:((i+1:Nat):Int)=(i:Int)+1:=by lia
  unfold oq;simpa[rawInt]using e1
 have hT1:Shared.TypeIs ⟨h1,g,dr,tk,os⟩ (.ref it) "dict_itemiterator":=⟨_,e1,rfl⟩;refine ae (bL (ae (oO hT1 (ae (oO hT1 ?_)))));refine ae (kL ?_);have lt:=aD hit;have z1:=s1.1;obtain⟨h2,EB⟩:∃h2,h2=h1.push {cls:=.type "tuple",data:=.seq #[es[i].key,es[i].val]}:=⟨_,rfl⟩;have e2:h2.get? it=some (oq f0 b d (i+1) es.size ep ok ov):=by rw[EB];exact ah _ e1
 have t2:h2.get? hp.objs.size=some {cls:=.type "tuple",data:=.seq #[es[i].key,es[i].val]}:=by rw[EB,<-z1];exact aB _ rfl
 have k2:∀b x,b≠it->hp.get? b=some x->h2.get? b=some x:=λb x nb e=>by rw[EB];exact ah _ (s1.extBut b x nb e)
 have z2:h2.objs.size=hp.objs.size+1:=by rw[EB,cy,z1]
 rw[<-EB,z1];refine ae (Wq e2 hf ?_ λh3 e3 s3=>?_)
 ·simp only[jJ];refine ae (bH e2 rfl rfl (ae (bH e2 rfl rfl ?_)));refine ae (b6 e2 (by simp) λh3 e3 s3=>?_);refine ae (b6 e3 (by simp) λh4 e4 s4=>?_);refine ae (b6 e4 (by simp) λh5 e5 s5=>?_);refine ae (b6 e5 (by simp) λh6 e6 s6=>?_);have up:=λb x nb e=>s6.extBut b x nb (s5.extBut b x nb (s4.extBut b x nb (s3.extBut b x nb e)));exact ae (l9 (af (af {_,rfl,q h6 {_,_,_,_,e6,.inr ⟨_,rfl⟩} (up _ _ (bx lt) t2) (λb x nb e=>up b x nb (k2 b x nb e)) (by rw[s6.1,s5.1,s4.1,s3.1,z2])})))
 ·have s3:=s3;exact af (af {_,rfl,q h3 ⟨_,_,_,_,e3,hf⟩ (s3.extBut _ _ (bx lt) t2) (λb x nb e=>s3.extBut b x nb (k2 b x nb e)) (by rw[s3.1,z2])})
def OZ(hh:A.handled=none)(g7:RI s.heap it d i es.size ep)(ho:s.heap.get? d=some o)(hd:o.data=.dict es ep)(hi:es.size<=i)
  (q:∀h' e,(∀b x,b≠it->s.heap.get? b=some x->h'.get? b=some x)->(∃o,h'.get? e=some o/\o.cls=.type "StopIteration")->E (.ref e) {s with heap:=h'}):
  wpAny (model P w) A (Builtin.«dict_itemiterator.__next__» {[.ref it],[]}) Q E s:=by
 have hT:=g7.ty;obtain⟨f0,b,ok,ov,hit,hf⟩:=g7;refine ae (af (ae (ae (ae (gW hT (af ?_))))));refine ae (fW hit rfl ?_);have own:Builtin.Dict_items.ownsTuple "dict_itemiterator"=true:=by decide
 show wpAny _ _ (if(Value.ref d==Value.none)=true then _ else _) _ _ s;refine ae (af (ae (dW ho hd ?_)));rw[ax (by simp)];refine ae (af (ae (gh ho hd ?_)));rw[ax (by simp)];refine af ?_;simp only[show ¬((i:Int)<0)from by lia,cN,cA,iN hi];refine ae (ae (gW hT (af ?_)));show wpAny _ _ (setField (.ref it) 2 .none>>=_) _ _ s;exact ae (d5 hit rfl (by simp) (Tb.w6 (s:=s) hh λh' e kp he=>q h' e (λb x nb g=>kp b x ((bD _ _ (bY nb)).trans g)) he))
def Wo(g7:RI s.heap it d i es.size ep)(ho:s.heap.get? d=some o)(hd:o.data=.dict es ep)(hi:i<es.size)
  (q:∀h',RI h' it d (i+1) es.size ep->h'.get? s.heap.objs.size=some {cls:=.type "tuple",data:=.seq #[es[i].key,es[i].val]}->(∀b x,b≠it->s.heap.get? b=some x->h'.get? b=some x)->h'.objs.size=s.heap.objs.size+1->Q (some (.ref s.heap.objs.size)) {s with heap:=h'}):
  wpAny (model P w) A (pyNext (.ref it)) Q E s:=by
 exact ae (dv (wpAny_callSpecial?_slot g7.ty bX (ba bX g7.ty fT (LC g7 ho hd hi λh' a b c e=>af (q h' a b c e)) (fL _))))
def OY(g7:RI s.heap it d i es.size ep)(ho:s.heap.get? d=some o)(hd:o.data=.dict es ep)(hi:i<es.size)
  (q:∀h',RI h' it d (i+1) es.size ep->h'.get? s.heap.objs.size=some {cls:=.type "tuple",data:=.seq #[es[i].key,es[i].val]}->(∀b x,b≠it->s.heap.get? b=some x->h'.get? b=some x)->h'.objs.size=s.heap.objs.size+1->Q (.ref s.heap.objs.size) {s with heap:=h'}):
  wpAny (model P w) A (Builtin.SmallTypes.nextOf (.ref it)) Q E s:=by
 exact ae (wpAny_callSpecial?_slot g7.ty bX (ba bX g7.ty fT (LC g7 ho hd hi λh' a b c e=>af (q h' a b c e)) (fL _)))
def Wn(hh:A.handled=none)(g7:RI s.heap it d i es.size ep)(ho:s.heap.get? d=some o)(hd:o.data=.dict es ep)(hi:es.size<=i)
  (q:∀h',(∀b x,b≠it->s.heap.get? b=some x->h'.get? b=some x)->Q none {s with heap:=h'}):wpAny (model P w) A (pyNext (.ref it)) Q E s:=by
 refine ae (dv (wpAny_callSpecial?_slot g7.ty bX (ba bX g7.ty fT (OZ (show A.in1.handled=none from hh) g7 ho hd hi λh' e kp ⟨oe,he,ce⟩=>?_) (fL _))));exact ae (fg ⟨oe,he,ce⟩ iF (af (q _ kp)))
def OX(hh:A.handled=none)(g7:RI s.heap it d i es.size ep)(ho:s.heap.get? d=some o)(hd:o.data=.dict es ep)(hi:es.size<=i)
  (q:∀h' e,(∀b x,b≠it->s.heap.get? b=some x->h'.get? b=some x)->(∃o,h'.get? e=some o/\o.cls=.type "StopIteration")->E (.ref e) {s with heap:=h'}):wpAny (model P w) A (Builtin.SmallTypes.nextOf (.ref it)) Q E s:=by
 exact ae (wpAny_callSpecial?_slot g7.ty bX (ba bX g7.ty fT (OZ (show A.in1.handled=none from hh) g7 ho hd hi λh' e kp he=>q h' e kp he) (fL _)))
end
structure Tk(es:Array DictEntry)(lo:Addr)(h:Heap)(as:Aah):Prop where
 up:as.Pairwise (·<·)
 ab:∀a∈as,lo<=a
 tp:∀(j:Nat)(a:Addr),as[j]?=some a->∃hj:j<es.size,h.get? a=some {cls:=.type "tuple",data:=.seq #[es[j].key,es[j].val]}
section
variable{P:Program}{w:World}{A:Around}{s:Shared}{R:Result->Shared->Prop}{es:Array DictEntry}{ep:Nat}{d:Addr}{o:Obj}
def Tk.low{lo lo':Addr}(x:Tk es lo h as)(l:lo'<=lo):Tk es lo' h as:={x.up,λa ha=>aL l (x.ab a ha),x.tp}
abbrev ze(acc:Aaj)(c:Nat):Obj:={cls:=.type "list",dict:=none,data:=.seq acc c,slots:=#[]}
def W2(hh:A.handled=none)(Zk:S≠I)(dS:d≠S)(dI:d≠I)(si:o.data=.dict es ep)(hz:es.size<=sizeLine)(res:Value){h0:Heap}(lS:S<h0.objs.size)(lI:I<h0.objs.size)
  (k:∀h' tk acc c as,(∀b x,b≠S->b≠I->h0.get? b=some x->h'.get? b=some x)->h'.get? S=some (ze acc c)->as.length=es.size->Tk es h0.objs.size h' as->acc.toList=as.map Value.ref->R (.ok (.ret res)) {s with heap:=h',toks:=tk}):
  ∀(n i:Nat)(h:Heap)(tk c:Nat)(acc:Aaj)(as:Aah),es.size -i=n->i<=es.size->RI h I d i es.size ep->h.get? d=some o->(∀b x,b≠S->b≠I->h0.get? b=some x->h.get? b=some x)->h.get? S=some (ze acc c)->
   acc.toList=as.map Value.ref->as.length=i->Tk es h0.objs.size h as->h0.objs.size<=h.objs.size->codeAny (model P w) A (.builtin "list.extend.loop" {[.ref S,.ref I,res],[]}) R {s with heap:=h,toks:=tk}:=by
 intro n
 induction n with
 |zero=>
  intro i h tk c acc as en hi st gd kp gS ea la T lh;refine eA ue ?_;exact ae (Wn hh st gd si ∅ λh' kq=>af (k h' tk acc c as (λb x n1 n2 e=>kq b x n2 (kp b x n1 n2 e)) (kq _ _ Zk gS) ∅ {T.up,T.ab,λj a hj=>(T.tp j a hj).imp λ_ e=>kq a _ (bx (aV lI (T.ab a (aE hj)))) e} ea))
 |succ n ih=>
  intro i h tk c acc as en hi st gd kp gS ea la T lh;have cw:i<es.size:=by lia
  have la2:acc.size=i:=by rw[<-aZ,ea,ak,la]
  refine eA ue ?_;refine ae (Wo st gd si cw λh' lO gt kq zq=>?_);have gS':=kq S _ Zk gS;obtain⟨h2,eh⟩:∃h2,h2=h'.update S (Obj.mapSeq (·.push (Value.ref h.objs.size))):=⟨_,rfl⟩;have go:∀b x,b≠S->h'.get? b=some x->h2.get? b=some x:=λb x nb e=>by rw[eh];exact(bD _ _ (bY nb)).trans e
  have gU:=cj (Obj.mapSeq (·.push (Value.ref h.objs.size))) gS' rfl;rw[<-eh]at gU;obtain⟨c2,gS2⟩:∃c,h2.get? S=some (ze (acc.push (Value.ref h.objs.size)) c):=⟨_,gU⟩;refine ae (km gS' rfl (af {ik mN _,?_}) (by rw[la2];lia) (by show(acc.push (Value.ref h.objs.size)).size<=sizeLine+1;rw[Array.size_push,la2];lia));have nS:=bx (aV lS lh);have fin:=ih (i+1) h2 tk _ (acc.push (Value.ref h.objs.size)) (as++[h.objs.size]) ∅ cw (lO.j7 λx e=>go I x (bY Zk) e) (go d o dS (kq d o dI gd)) (λb x n1 n2 e=>go b x n1 (kq b x n2 (kp b x n1 n2 e))) gS2
   (by rw[tM,ea,aN];rfl) (by rw[aM,la];rfl) {List.pairwise_append.mpr {T.up,ka _ _,λa ha b hb=>?_},λa ha=>?_,λj a hj=>?_} (bI (cL lh (aD (go _ _ nS gt))))
  ·rw[eh]at fin;exact fin
  ·rw[au.mp hb];obtain⟨j,hj⟩:=dQ.mp ha;obtain⟨_,e⟩:=T.tp j a hj;exact aD e
  ·rcases aY.mp ha with ha|ha
   ·exact T.ab a ha
   ·rw[au.mp ha];exact lh
  ·by_cases q:j<as.length
   ·rw[gP q]at hj;have l1:=T.ab a (aE hj);exact(T.tp j a hj).imp λ_ e=>go a _ (bx (aV lS l1)) (kq a _ (bx (aV lI l1)) e)
   ·have ej:j=i:=by have:=(aw.mp hj).1;rw[aM,cV]at this;lia
    subst ej;rw[fC ∅,la,Bk]at hj;have hb:h.objs.size=a:=by simpa using hj
    subst hb;exact{cw,go _ _ nS gt}
variable{E:Aac}{r:Addr}
def W3(hh:A.handled=none)(hv:s.heap.IsItemsView r d)(gd:s.heap.get? d=some o)(si:o.data=.dict es ep)(hz:es.size<=sizeLine)
  (q:∀h' tk acc c as,(∀b x,s.heap.get? b=some x->h'.get? b=some x)->h'.get? s.heap.objs.size=some (ze acc c)->as.length=es.size->Tk es (s.heap.objs.size+1) h' as->acc.toList=as.map Value.ref->Q (.ref s.heap.objs.size) {s with heap:=h',toks:=tk}):
  wpAny (model P w) A (call (.type "list") [.ref r]) Q E s:=by
 refine callType_codes (Q₁:=λv z=>v=.ref s.heap.objs.size/\z={s with heap:=s.heap.push (ze #[] 0)}) PySem.F.called_list (PySem.F.typeCall_list_1 _) PySem.F.entry_list_init (code_list_new _ ⟨rfl,rfl⟩) ?_;rintro v z ⟨rfl,rfl⟩;have g1:(s.heap.push (ze #[] 0)).get? s.heap.objs.size=some (ze #[] 0):=aB _ rfl;refine{⟨_,g1,rfl⟩,PySem.F.args_list_init_2 _ _,?_};obtain⟨ov,go,hc,hd⟩:=id hv;have lr:=aD go;have ld:=aD gd;obtain⟨S,eS⟩:∃S,S=s.heap.objs.size:=⟨_,rfl⟩;rw[<-eS]at g1 q lr ld⊢;have PU:∀b x,s.heap.get? b=some x->(s.heap.push (ze #[] 0)).get? b=some x:=λb x e=>ah _ e;have z1:(s.heap.push (ze #[] 0)).objs.size=S+1:=by rw[cy,eS]
 generalize (s.heap.push (ze #[] 0))=h1 at g1 PU z1⊢;show wpAny _ _ (do let old<-Builtin.List.listItems (.ref S);Builtin.List.listUpdate (.ref S) (λ_=>#[]);letGo old.toList.reverse;Builtin.List.listExtendWith (.ref S) (.ref r) .none) _ _ _;unfold Builtin.List.listItems;refine ae (ae (bQ g1 rfl (af ?_)));refine ae (m:=updateSeq S (λ_=>#[])) (km g1 rfl (ae (l9 ?_)));have g2:=cj (Obj.mapSeq λ_=>(#[]:Aaj)) g1 rfl;have uR:∀b x,b≠S->h1.get? b=some x->(h1.update S (Obj.mapSeq λ_=>(#[]:Aaj))).get? b=some x:=λb x nb e=>(bD _ _ (bY nb)).trans e;have z2:(h1.update S (Obj.mapSeq λ_=>(#[]:Aaj))).objs.size=S+1:=by rw[<-z1];exact(bG ..).1
 generalize (h1.update S (Obj.mapSeq λ_=>(#[]:Aaj)))=h2 at g2 uR z2⊢;obtain⟨c2,g2⟩:∃c,h2.get? S=some (ze #[] c):=⟨_,g2⟩;unfold Builtin.List.listExtendWith;have hv2:h2.IsItemsView r d:={ov,uR _ _ (aG lr) (PU _ _ go),hc,hd};refine ae (gu hv2.typeIs ?_);have a1:Builtin.List.listSameRef (.ref S) (.ref r)=false:=by simp[Builtin.List.listSameRef,bx lr]
 have a2:(Value.type "dict_items"==Value.type "list")=false:=by decide
 have a3:(Value.type "dict_items"==Value.type "tuple")=false:=by decide
 simp only[a1,a2,a3,zu,bE,cN];have gd2:=uR _ _ (aG ld) (PU _ _ gd);refine ae (Ig (s:={s with heap:=h2}) hv2 gd2 si ?_);obtain⟨h3,VC⟩:∃h3,h3=h2.push (oq .none false d 0 es.size ep .none .none):=⟨_,rfl⟩;have UX:∀b x,h2.get? b=some x->h3.get? b=some x:=λb x e=>by rw[VC];exact ah _ e
 have g3:h3.get? (S+1)=some (oq .none false d 0 es.size ep .none .none):=by rw[VC,<-z2];exact aB _ rfl
 have z3:h3.objs.size=S+2:=by rw[VC,cy,z2]
 show wpAny _ _ _ _ _ {s with heap:=h2.push (oq .none false d 0 es.size ep .none .none)};rw[<-VC];show wpAny _ _ (holding _ (Builtin.List.listLengthHint (.ref r))>>=_) _ _ _;rw[show({s with heap:=h2}:Shared).heap.objs.size=S+1 from z2];have key:∀(h:Heap)(c tk:Nat),(∀b x,b≠S->h3.get? b=some x->h.get? b=some x)->h.get? S=some (ze #[] c)->h.objs.size=S+2->
   codeAny (model P w) A.in1 (.builtin "list.extend.loop" {[.ref S,.ref (S+1),.none],[]}) (wants (λr aae=>r=Value.none/\Q (Value.ref S) aae) E) {s with heap:=h,toks:=tk}:=λh c tk kp gS zh=>by
  refine W2 (show A.in1.handled=none from hh) (aG (dw S)) (aG ld) (aG (dD ld)) si hz .none (by rw[zh];exact Nat.lt_add_of_pos_right (by decide)) (zh▸dw _) (λh' HC acc c' as k1 k2 k3 k4 k5=>{rfl,q h' HC acc c' as (λb x e=>?_) k2 k3 (k4.low (zh▸iM _)) k5})
   es.size 0 h tk c #[] [] (Bj _) (aR _) {_,_,_,_,kp _ _ (bx (dw S)) g3,.inl rfl} (kp _ _ (aG ld) (UX _ _ gd2)) (λb x _ _ e=>e) gS rfl rfl {.nil,λa ha=>(by cases ha),λj a hj=>(by simp at hj)} (ao _)
  have lb:b<S:=eS▸aD e;exact k1 b x (aG lb) (aG (dD lb)) (kp _ _ (aG lb) (UX _ _ (uR _ _ (aG lb) (PU _ _ e))))
 have gS3:=UX _ _ g2;refine ae (bL (PySem.W.kdx_hint {_,UX _ _ (uR _ _ (aG lr) (PU _ _ go)),hc} ?_));refine mC (λ_=>?_) (λ_=>af {ik mN _,key _ c2 _ (λb x _ e=>e) gS3 z3});refine ae (gz (ae ?_));show wpAny _ _ (updateSeq S (·.push .none)>>=λ_=>updateSeq S (·.pop)) _ _ _;refine ae (km gS3 rfl ?_);have g4:=cj (Obj.mapSeq (·.push Value.none)) gS3 rfl;refine km g4 rfl ?_;refine af {ik mN _,key _ _ _ (λb x nb e=>?_) (cj (Obj.mapSeq (·.pop)) g4 rfl) ?_}
 ·exact(bD _ _ (bY nb)).trans ((bD _ _ (bY nb)).trans e)
 ·rw[(bG ..).1,(bG ..).1,z3]
end
section
variable{X:Cx}{pins:Aaa}{Z:St}{H:Hp}{s:Shared}
theorem Inv.Ru{lo:Addr}(Qu:X.aab.heap.objs.size<=lo/\X.env.locals<lo/\(∀x c,X.env.cells.lookup x=some c->c<lo)/\∀p∈X.pn++pins,p.1<lo):
  ∀(as:Aah)(ps:Aak)(H:Hp),Inv X pins Z H s->as.length=ps.length->as.Nodup->(∀a∈as,lo<=a/\H a=none)->
   (∀(j:Nat) a p,as[j]?=some a->ps[j]?=some p->∃t u,RelV p.1 t/\RelV p.2 u/\s.heap.get? a=some {cls:=.type "tuple",data:=.seq #[t,u]})->
   ∃H',Inv X pins Z H' s/\(∀b u,H b=some u->H' b=some u)/\(∀b,b∉as->H' b=H b)/\∀(j:Nat) a p,as[j]?=some a->ps[j]?=some p->H' a=some (.tup [p.1,p.2])
 |[],[],H,I,_,_,_,_=>{H,I,λ_ _ h=>h,λ_ _=>rfl,λj a p e=>by simp at e}
 |[],_::_,_,_,e,_,_,_=>by simp at e
 |_::_,[],_,_,e,_,_,_=>by simp at e
 |a::as,p::ps,H,I,e,nd,fr,tp=>by
  obtain⟨n1,n2⟩:=cP.mp nd;obtain⟨l1,l2,l3,l4⟩:=Qu;obtain⟨ha,Qq⟩:=fr a ay;obtain⟨t,u,r1,r2,g⟩:=tp 0 a p rfl rfl;have I1:=I.EX (o:=.tup [p.1,p.2]) Qq {by show 2<=sizeLine;decide,[t,u],.cons r1 (.cons r2 .nil),{_,g,rfl,0,rfl},_,g,rfl} (aL l1 ha) (bx (aV l2 ha))
   (λx c h=>aG (aV (l3 x c h) ha)) (λq hq=>aG (aV (l4 q hq) ha))
  obtain⟨H',I2,k1,k2,k3⟩:=Inv.Ru ⟨l1,l2,l3,l4⟩ as ps _ I1 (by simpa using e) n2 (λb hb=>{(fr b (az _ hb)).1,by rw[aH (show b≠a fromλz=>n1 (z▸hb))];exact(fr b (az _ hb)).2})
   (λj b q e1 e2=>tp (j+1) b q (by simpa using e1) (by simpa using e2))
  refine{H',I2,λb v h=>k1 b v (by rw[aH (bc h Qq)];exact h),λb hb=>?_,λj b q e1 e2=>?_}
  ·rw[k2 b (λz=>hb (az _ z)),aH (λz=>hb (by rw[z];exact ay))]
  ·cases j with
   |zero=>
    obtain rfl:a=b:=by simpa using e1
    obtain rfl:p=q:=by simpa using e2
    rw[k2 a n1];exact ar
   |succ j=>exact k3 j b q (by simpa using e1) (by simpa using e2)
def Inv.low(I:Inv X pins Z H s):X.aab.heap.objs.size<=s.heap.objs.size/\X.env.locals<s.heap.objs.size/\(∀x c,X.env.cells.lookup x=some c->c<s.heap.objs.size)/\∀p∈X.pn++pins,p.1<s.heap.objs.size:=
 {I.sz,I.lt,λx c hc=>let⟨_,z⟩:=I.cell x c hc;z.lt,λp hp=>aD (I.pin p hp).1}
def Inv.BD(I:Inv X pins Z H s)(h:fK X.prog X.w X.K H d kvs):(d==sysModules)=false/\∃o es ep,s.heap.get? d=some o/\es.size<=10000000/\Kv o es ep (kvs.map λp=>(V.ref p.2.1,p.2.2)):=by
 obtain⟨lo,xs,rel,hl,o,es,ep,ga,hx,hdt,he,_⟩:=I.qt h;have ents:∀{l:List (NK×Addr×V)}{xs:List (NK×Addr×Value)},Paired (λ(p:NK×Addr×V)(q:NK×Addr×Value)=>p.1=q.1/\p.2.1=q.2.1/\RelV p.2.2 q.2.2) l xs->Paired (λ(p:V×V)(e:DictEntry)=>RelV p.1 e.key/\RelV p.2 e.val) (l.map λp=>(V.ref p.2.1,p.2.2)) (xs.map (entryOfKey (jN X.prog X.w))):=λr=>by
  induction r with
  |nil=>exact .nil
  |@cons p q ps qs h _ ih=>exact .cons {by show Value.ref q.2.1=Value.ref p.2.1;rw[h.2.1],h.2.2} ih
 exact{lo,o,es,ep,ga,by rw[vO he,<-rel.length];exact hl,hx,hdt,he▸ents rel}
inductive RP(P:Program)(w:World)(K:Frag)(Q:VK)(x:V)(H1:Hp):Prop
 |mk d kvs (_:x=.ref d) (_:fK P w K H1 d kvs) (_:∀p,H1 p=none->Q (.ref p) (upd H1 p (.ext (nO p d))))
end
def V9(P:Program)(w:World)(K:Frag)(td:TE):TE:=λZ H Q=>td Z H λx H1=>RP P w K Q x H1
section
variable{X:Cx}
def Gh(hl:PE X l tl)(qo:attributeBase l "items" X.env (eval l X.env)=eval l X.env:=by rfl)(qi:(apos.endLine==dU.line)=true:=by rfl):
  PE X (.Call (.Attribute l "items" apos) [] [] dU) (V9 X.prog X.w X.K tl):=by
 intro pins s Z H R I h;refine j6 qo qi (cX (hl pins s Z H _ I h) λv s1 x H1 I1 r1 q1=>?_);obtain⟨d,kvs,e,hd,q⟩:=q1;subst e;cases r1;obtain⟨lo,o,es,ep,ga,_,m⟩:=I1.BD hd;have ty:s1.TypeIs (.ref d) "dict":={o,ga,m.1.1};refine{"dict","dict.items",dZ,j9,vC,ty,λb q=>?_,eM rfl (mz ?_)}
 ·cases q;exact{o,ga,m.1.2.1}
 ·refine ba j9 ty vf ?_ (uf _);refine ae (ae (gF ty (af ?_)));unfold Builtin.Dict.showsAll;rw[lo];refine ae (af (ae (bV (af {_,rfl,?_}))));exact{.ref s1.heap.objs.size,_,I1.laid (λb o e=>ah _ e) (ao _) (P5 {_,aB _ rfl,rfl,rfl}),rfl,q _ (I1.bw.fresh (ao _))}
abbrev Rz(H:Hp):Aam->Aak->Prop:=Paired λ(y:V)(p:V×V)=>∃a,y=.ref a/\H a=some (.tup [p.1,p.2])
theorem Gk:∀{as:Aah}{ps:Aak},as.length=ps.length->(∀(j:Nat) a p,as[j]?=some a->ps[j]?=some p->H a=some (.tup [p.1,p.2]))->Rz H (as.map V.ref) ps
 |[],[],_,_=>.nil
 |[],_::_,e,_=>by simp at e
 |_::_,[],e,_=>by simp at e
 |a::as,p::ps,e,h=>.cons {a,rfl,h 0 a p rfl rfl} (Gk (by simpa using e) λj b q e1 e2=>h (j+1) b q (by simpa using e1) (by simpa using e2))
theorem Uk:∀as:Aah,Vals (as.map V.ref) (as.map Value.ref)
 |[]=>.nil
 |_::as=>.cons rfl (Uk as)
def EU(hA:X.A.handled=none):gA X (.type "list") (λxs H Q=>∃(r d:Addr)(kvs:List (NK×Addr×V)),xs=[.ref r]/\H r=some (.ext (nO r d))/\fK X.prog X.w X.K H d kvs/\
  ∀l ys H',(∀b u,H b=some u->H' b=some u)->H l=none->H' l=some (.lst ys)->Rz H' ys (kvs.map λp=>(.ref p.2.1,p.2.2))->Q (.ref l) H'):=by
 intro pins s Z H xs us Q I r h;obtain⟨v,d,kvs,rfl,hv,hd,q⟩:=h;obtain⟨u,rfl,ru⟩:=jY r;cases ru;obtain⟨iv,_⟩:=(show cI X.prog X.w H s.heap v (.ext (nO v d))from I.bw v _ hv);obtain⟨lo,o,es,ep,ga,hz,m⟩:=I.BD hd;have hl:(kvs.map λp=>(V.ref p.2.1,p.2.2)).length=es.size:=by rw[a9 m.2.2,aZ]
 have hs:es.size<=sizeLine:=by rw[bU];lia
 refine W3 hA iv ga m.2.1 hs λh' tk acc c as kp gl la T ea=>?_;have low:=I.low;have z1:s.heap.objs.size<=s.heap.objs.size+1:=iM _;obtain⟨H',I2,k1,k2,k3⟩:=Inv.Ru {low.1,low.2.1,low.2.2.1,low.2.2.2} as (kvs.map λp=>(V.ref p.2.1,p.2.2)) H (I.kept (t':=tk) kp) (by rw[la,hl]) (T.up.imp λh=>aG h)
  (λa ha=>{aL z1 (T.ab a ha),I.bw.fresh (aL z1 (T.ab a ha))}) (λj a p e1 e2=>by obtain⟨hj,e3⟩:=T.tp j a e1;obtain⟨e,he,r1,r2⟩:=Paired.at' m.2.2 e2;rw[bK,bq hj]at he;cases he;exact⟨_,_,r1,r2,e3⟩)
 have na:s.heap.objs.size∉as:=λz=>absurd (T.ab _ z) (Nat.not_succ_le_self _);have hn:=I.bw.fresh (ao _);have I3:=I2.EX (o:=.lst (as.map V.ref)) (by rw[k2 _ na];exact hn) {by rw[ak,la];exact hs,as.map Value.ref,c,Uk as,ea▸gl} low.1 (bx low.2.1) (λx c h=>aG (low.2.2.1 x c h)) (λp hp=>aG (low.2.2.2 p hp));refine{.ref s.heap.objs.size,_,I3,rfl,q _ (as.map V.ref) _ (λb u e=>?_) hn ar (Gk (by rw[la,hl]) λj a p e1 e2=>?_)}
 ·rw[aH (bc e hn)];exact k1 b u e
 ·rw[aH (λz=>na (by rw[<-z];exact aE e1))];exact k3 j a p e1 e2
variable{P:Program}{w:World}{d:Addr}{o:Obj}{es:Array DictEntry}{ep:Nat}
def We(lo:(d==sysModules)=false)(hx:o.ExactDict)(hd:o.data=.dict es ep):PySem.W.KdlSrc P w "dict" d d es.size (λi v=>∃hi:i<es.size,v=es[i].key) (λh=>h.get? d=some o) where
 type:=λ_ g=>{o,g,hx.1}
 there:=λ_ g=>{aD g,aD g}
 keep:=λ_ _ g k=>k d (.inl rfl) _ g
 notList:=by decide
 notTuple:=by decide
 hint:=λ_ _ _ _ g q=>PySem.W.kdl_hint_dict {o,g,hx.1} q
 iter:=λA s hh g=>{_,λi h=>h.IsKeyIter s.heap.objs.size d i es.size ep/\h.get? d=some o,λ_ _ q=>LA lo g hx hd q,{
  sub:=λb hb=>by simp at hb;simp[hb]
  frame:=λi h h' st k=>by obtain⟨⟨v,e,c⟩,g'⟩:=st;exact{{v,k _ (by simp) _ e,c},k d (by simp) _ g'}
  item:=λi s' Q E hi st q=>OU st.1 st.2 hd hi λh' ZQ sb=>q _ h' s'.toks ⟨hi,rfl⟩ {ZQ,sb.extBut _ _ (aG (aD g)) st.2} λb x hb e=>sb.extBut b x (λz=>hb (by simp[z])) e
  done:=λs' Q E st q=>Gd hh st.1 st.2 hd (ao _) λh' kp=>q h' s'.toks λb x hb e=>kp b x (λz=>hb (by simp[z])) e
  self:=λ_ _ _ _ st q=>xV st.1 q},{{_,aB _ rfl,rfl,rfl},ah _ g}}
def Ke(hA:X.A.handled=none):gA X (.builtin "sorted") (λxs H Q=>∃(a:Addr)(kvs:List (NK×Addr×V))(rows:R1),xs=[.ref a]/\fK X.prog X.w X.K H a kvs/\kvs.map (·.1)=rows.map fD/\(2<=rows.length->∀r∈rows,r≠[])/\rows.length<64/\SortedTo X.K H (kvs.map λp=>.ref p.2.1) rows Q):=by
 intro pins s Z H xs us Q I r h;obtain⟨a,kvs,rows,rfl,ha,hk,jw,su,q⟩:=h;obtain⟨u,rfl,rx⟩:=jY r;cases rx;obtain⟨lo,o,es,ep,ga,hz,m⟩:=I.BD ha;have hl:(kvs.map λp=>(V.ref p.2.1,p.2.2)).length=es.size:=by rw[a9 m.2.2,aZ]
 rw[ak]at hl;have hlr:kvs.length=rows.length:=by have:=cc List.length hk;rw[ak,ak]at this;exact this
 refine fI rQ pZ qr (qx _) ?_;unfold Builtin.«sorted»;refine ae (m:=checkCount "sorted" 1 1 _) (af ?_);refine ae (zB (A:=X.A.in1) (We lo m.1 m.2.1) (by simpa using hA) ga (by rw[bU];lia) λh' tk acc kp it=>?_);have ea:acc.toList=(kvs.map λp=>p.2.1).map Value.ref:=by
  refine tK λj=>?_;rw[bK,bW,aI];by_cases hj:j<es.size
  ·have JI:j<acc.size:=by rw[it.1];exact hj
   obtain⟨_,e1⟩:=it.2 j _ (bq JI);have ou:kvs[j]?=some (kvs[j]'∅):=aq ∅;obtain⟨e,he,r1,_⟩:=Paired.at' m.2.2 (i:=j) (x:=(V.ref (kvs[j]'∅).2.1,(kvs[j]'∅).2.2)) (by rw[aI,ou];rfl);rw[bK,bq hj]at he;cases he;rw[bq JI,e1,ou,eC];exact cc some r1
  ·rw[iN (by rw[it.1];lia),fM ∅];rfl
 rw[ea];have e2:(kvs.map λp=>V.ref p.2.1)=(kvs.map λp=>p.2.1).map V.ref:=by rw[bW];rfl
 rw[e2]at q;refine yc (s:=s) (I.kept (t':=tk) kp) (by rw[ak,hlr]) (λi z b e3 e4=>?_) jw su q;rw[aI]at e4;obtain⟨p,e5,rfl⟩:=bb.mp e4;have e6:(kvs.map (·.1))[i]?=some (fD z):=by rw[hk,aI,e3];rfl
 rw[aI,e5]at e6;have:=(ha.2 p (aE e5)).1;rw[show p.1=fD z from bM e6]at this;exact Ej this
end
def Wb(P:Program)(w:World)(K:Frag)(Hx:List (TE×TE)):TE:=λZ H Q=>∀p,H p=none->HI Hx Z (upd H p (.dK [])) λps H2=>∃b k v,ps=[(.ref b,v)]/\hV K H2 k b/\H2 p=some (.dK [])/\Q (.ref p) (upd H2 p (.ext (DN P w p [(k,b,v)])))
def Pa(hu:X.A.units+101<cLine)(h:MF X pos keys values Hx)(mw:keys.all (·.isSome)=true)(hl:keys.length=values.length)(h0:keys≠[])
  (h15:keys.length<=15):PE X (.Dict keys values pos) (Wb X.prog X.w X.K Hx):=by
 intro pins s Z H Q I q;have I1:=I.laid (t':=s.toks) (λ_ _ q=>ah _ q) (ao _) (J3 s.heap I.big);refine wpAny_Dict_any mw hl h0 h15 (iB (h pins _ Z _ _ I1 (q _ (I.bw.fresh (ao s.heap.objs.size)))) λws s2 acQ=>?_);obtain⟨ps,H2,I2,rel,b,k,v,e,hk,hp,q2⟩:=acQ;subst e;cases rel with
 |@cons _ x _ _ r1 t=>
  cases t;obtain⟨kx,vx⟩:=x;obtain⟨r1,r2⟩:=r1;obtain rfl:kx=Value.ref b:=r1;unfold storeAll;obtain⟨lo,xs,rl,ip,dd⟩:=I2.qt ({.inr ⟨rfl,hp⟩,λ_ hp=>by cases hp});have lx:xs.length<=sizeLine:=by rw[<-rl.length];exact aR _
  refine ae (ae (wpAny_dictSet_heap (show X.A.units+100<cLine by lia) (I2.AE hk) dd λh' qP hs=>af ?_));obtain⟨o,es,ep,g,g2,g3,g4,_,g5⟩:=qP;have I3:∀tk,Inv X pins Z (upd H2 s.heap.objs.size (.ext (DN X.prog X.w s.heap.objs.size [(k,b,v)]))) {s2 with heap:=h',toks:=tk}:=λtk=>
   rB I2 (hp▸True.intro) hs ⟨o,g⟩ (N8 {lo,_,C1 rl r2,by show 1<=10000000;decide,o,es,ep,g,g2,g3,g4,g5})
  exact af {.ref s.heap.objs.size,_,I3 _,rfl,q2}
section
variable{P:Program}{w:World}{A:Around}{E:Aac}{v:Shared}{es:Array DictEntry}{ep:Nat}{o:Obj}
structure Zi(h:Heap)(z ti to i1 i2 d l:Addr)(f:Value)(k n ep:Nat):Prop where
 self:IsZip h z ti to f
 ins:IsPair h ti (.ref i1) (.ref i2)
 outs:∃a b,IsPair h to a b
 w1:RI h i1 d k n ep
 w2:h.IsListIter i2 l k
def Zi.ne(g:Zi h z ti to i1 i2 d l f k n ep):(ti≠z/\to≠z/\i1≠z/\i2≠z)/\(ti≠i1/\ti≠i2/\to≠i1/\to≠i2)/\i1≠i2:=by
 obtain⟨gs,gi,⟨a,b,go⟩,⟨_,_,_,_,q1,_⟩,⟨o2,q2,c2,_⟩⟩:=g;exact{{cK gi gs rfl rfl (by decide),cK go gs rfl rfl (by decide),cK q1 gs rfl rfl (by decide),cK q2 gs c2 rfl (by decide)},
  {cK gi q1 rfl rfl (by decide),cK gi q2 rfl c2 (by decide),cK go q1 rfl rfl (by decide),cK go q2 rfl c2 (by decide)},cK q1 q2 rfl c2 (by decide)}
def VY{Q:Aac}(IX:ti≠to)(g:Zi v.heap z ti to i1 i2 d l .none k es.size ep)
  (gd:v.heap.get? d=some o) (hx:o.ExactDict) (si:o.data=.dict es ep) (t2:v.heap.IsList l ys) (hk:k<es.size) (ey:ys[k]?=some y)
  (q:∀h',Zi h' z ti to i1 i2 d l (rawInt (v.heap.objs.size+1)) (k+1) es.size ep->h'.get? v.heap.objs.size=some {cls:=.type "tuple",data:=.seq #[es[k].key,es[k].val]}->IsPair h' (v.heap.objs.size+1) (.ref v.heap.objs.size) y->(∀c o,c≠z->c≠to->c≠i1->c≠i2->v.heap.get? c=some o->h'.get? c=some o)->Q (.ref (v.heap.objs.size+1)) {v with heap:=h'}):
  wpAny (model P w) A (Builtin.«zip.__next__» {[.ref z],[]}) (λfin s'=>∃u,fin=.done (.ret u)/\Q u s') E v:=by
 obtain⟨⟨a1,a2,a3,a4⟩,⟨a5,a6,a7,a8⟩,LR⟩:=g.ne;obtain⟨gs,gi,⟨a,b,go⟩,g1,g2⟩:=g;obtain⟨o2,q2,c2,_⟩:=id g2;obtain⟨ol,ql,cl,_⟩:=id t2;have c5:l≠i1:=by obtain⟨_,_,_,_,e1,_⟩:=id g1;exact cK ql e1 cl rfl (by decide)
 show wpAny _ _ (field (.ref z) 2>>=_) _ _ _;refine ae (bH gs rfl rfl ?_);refine ae (bH gs rfl rfl ?_);refine ae (bQ gi rfl ?_);refine ae ?_;refine ae (bH gs rfl rfl (af ?_));refine ae (gz ?_);refine ae (bH gs rfl rfl ?_);refine ae (b6 gs (by simp) λp1 k1 r1=>?_)
 replace k1:IsZip p1 z ti to .ellipsis:=k1
 have z1:=r1.1;refine ae ?_;refine ae (ae (lM ?_));refine ae (OY (g1.j7 λo e=>r1.extBut _ _ a3 e) (r1.extBut _ _ (cK gd gs hx.1 rfl (by decide)) gd) si hk λp2 k2 tq r2 Ub=>af ?_);have Ub:p2.objs.size=v.heap.objs.size+1:=z1▸Ub;have tq:p2.get? v.heap.objs.size=some {cls:=.type "tuple",data:=.seq #[es[k].key,es[k].val]}:=z1▸tq;rw[show({v with heap:=p1}:Shared).heap.objs.size=v.heap.objs.size from z1];have o2:=r2 _ _ a7 (r1.extBut _ _ a2 go);refine ae (bQ o2 rfl ?_);refine ae (yq o2 λp3 o3 r3=>?_)
 replace o3:IsPair p3 to (.ref v.heap.objs.size) b:=o3
 refine ae (l9 (af ?_));refine ae (ae (lM ?_));have w3:p3.IsListIter i2 l k:=by obtain⟨o',e',r'⟩:=g2;exact{o',r3.extBut _ _ a8.symm (r2 _ _ LR.symm (r1.extBut _ _ a4 e')),r'}
 have t3:p3.IsList l ys:=by obtain⟨o',e',r'⟩:=t2;exact{o',r3.extBut _ _ (cK ql go cl rfl (by decide)) (r2 _ _ c5 (r1.extBut _ _ (cK ql gs cl rfl (by decide)) e')),r'}
 refine ae (wpAny_nextOf_list_item w3 t3 ey λp4 k4 r4=>af ?_);have o4:=r4.extBut _ _ a8 o3;refine ae (bQ o4 rfl ?_);refine ae (yq o4 λp5 o5 r5=>?_)
 replace o5:IsPair p5 to (.ref v.heap.objs.size) y:=o5
 refine ae (l9 (af (af ?_)));refine ae (bQ o5 rfl ?_);refine ae (kL ?_);have sz:p5.objs.size=v.heap.objs.size+1:=by rw[r5.1,r4.1,r3.1,Ub]
 have z5:=r5.extBut _ _ a2.symm (r4.extBut _ _ a4.symm (r3.extBut _ _ a2.symm (r2 _ _ a3.symm k1)));have st:∀c o,c≠z->c≠to->c≠i1->c≠i2->v.heap.get? c=some o->p5.get? c=some o:=λc o m1 m2 m3 m4 e=>
  r5.extBut _ _ m2 (r4.extBut _ _ m4 (r3.extBut _ _ m2 (r2 _ _ m3 (r1.extBut _ _ m1 e))))
 have j2:p5.IsListIter i2 l (k+1):=by obtain⟨o',e',r'⟩:=k4;exact{o',r5.extBut _ _ a8.symm e',r'}
 have nto:=bx (aD go);have ni2:=bx (aD q2);have lz:=aD z5;refine ae ?_;have z6:IsZip (p5.push {cls:=.type "tuple",data:=.seq #[.ref v.heap.objs.size,y]}) z ti to .ellipsis:=ah _ z5;refine ae (b6 z6 (by simp) λp7 z7 r7=>?_)
 replace z7:IsZip p7 z ti to (rawInt p5.objs.size):=z7
 refine b6 z7 (by simp) λp8 z8 r8=>?_
 replace z8:IsZip p8 z ti to (rawInt p5.objs.size):=z8
 have up:∀c o,c≠z->p5.get? c=some o->p8.get? c=some o:=λc o m e=>r8.extBut _ _ m (r7.extBut _ _ m (ah _ e));have n8:=r8.extBut _ _ (bx lz) (r7.extBut _ _ (bx lz) (aB _ rfl));rw[sz]at z8 n8;refine af {_,rfl,?_};rw[sz];obtain⟨ob,jb,rb⟩:=j2;exact q p8 {z8,up _ _ a1 (st _ _ a1 IX a5 a6 gi),{_,_,up _ _ a2 o5},(k2.j7 λo e=>r5.extBut _ _ a7.symm (r4.extBut _ _ LR (r3.extBut _ _ a7.symm e))).j7 λo e=>up _ _ a3 e,{ob,up _ _ a4 jb,rb}} (up _ _ (bx (aD gs)) (r5.extBut _ _ nto (r4.extBut _ _ ni2 (r3.extBut _ _ nto tq)))) n8 λc o m1 m2 m3 m4 e=>up c o m1 (st c o m1 m2 m3 m4 e)
def XH(hh:A.handled=none)(g:Zi v.heap z ti to i1 i2 d l .none k es.size ep)(gd:v.heap.get? d=some o)(hx:o.ExactDict)(si:o.data=.dict es ep)(hk:es.size<=k)
  (q:∀h' e,(∀c o,c≠z->c≠to->c≠i1->c≠i2->v.heap.get? c=some o->h'.get? c=some o)->(∃o,h'.get? e=some o/\o.cls=.type "StopIteration")->E (.ref e) {v with heap:=h'}):
  wpAny (model P w) A (Builtin.«zip.__next__» {[.ref z],[]}) Q E v:=by
 obtain⟨⟨a1,a2,a3,a4⟩,⟨a5,a6,a7,a8⟩,LR⟩:=g.ne;obtain⟨gs,gi,⟨a,b,go⟩,g1,g2⟩:=g;show wpAny _ _ (field (.ref z) 2>>=_) _ _ _;refine ae (bH gs rfl rfl ?_);refine ae (bH gs rfl rfl ?_);refine ae (bQ gi rfl ?_);refine ae ?_;refine ae (bH gs rfl rfl (af ?_));refine ae (gz ?_);refine ae (bH gs rfl rfl ?_);refine ae (b6 gs (by simp) λp1 k1 r1=>?_)
 replace k1:IsZip p1 z ti to .ellipsis:=k1
 refine ae ?_;refine ae (ae (lM ?_));refine ae (OX hh (g1.j7 λo e=>r1.extBut _ _ a3 e) (r1.extBut _ _ (cK gd gs hx.1 rfl (by decide)) gd) si hk λp2 e r2 he=>?_);obtain⟨oe,ge,ce⟩:=he;have z2:=r2 _ _ a3.symm k1;exact b6 z2 (by simp) λp3 _ r3=>q p3 e (λc o m1 _ m3 _ e=>r3.extBut _ _ m1 (r2 _ _ m3 (r1.extBut _ _ m1 e))) {oe,r3.extBut _ _ (cK ge z2 ce rfl (by decide)) ge,ce}
def VX(IX:ti≠to)(g:Zi v.heap z ti to i1 i2 d l .none k es.size ep)
  (gd:v.heap.get? d=some o) (hx:o.ExactDict) (si:o.data=.dict es ep) (t2:v.heap.IsList l ys) (hk:k<es.size) (ey:ys[k]?=some y)
  (q:∀h',Zi h' z ti to i1 i2 d l (rawInt (v.heap.objs.size+1)) (k+1) es.size ep->h'.get? v.heap.objs.size=some {cls:=.type "tuple",data:=.seq #[es[k].key,es[k].val]}->IsPair h' (v.heap.objs.size+1) (.ref v.heap.objs.size) y->(∀c o,c≠z->c≠to->c≠i1->c≠i2->v.heap.get? c=some o->h'.get? c=some o)->Q (some (.ref (v.heap.objs.size+1))) {v with heap:=h'}):
  wpAny (model P w) A (pyNext (.ref z)) Q E v:=by
 have ty:v.TypeIs (.ref z) "zip":={_,g.self,rfl};exact ae (dv (wpAny_callSpecial?_slot ty eG (ba eG ty jW (VY IX g gd hx si t2 hk ey λh' b1 b2 b3 b4=>af (q h' b1 b2 b3 b4)) (jz _))))
def VW(hh:A.handled=none)(g:Zi v.heap z ti to i1 i2 d l .none k es.size ep)(gd:v.heap.get? d=some o)(hx:o.ExactDict)(si:o.data=.dict es ep)(hk:es.size<=k)
  (q:∀h',(∀c o,c≠z->c≠to->c≠i1->c≠i2->v.heap.get? c=some o->h'.get? c=some o)->Q none {v with heap:=h'}):
  wpAny (model P w) A (pyNext (.ref z)) Q E v:=by
 have ty:v.TypeIs (.ref z) "zip":={_,g.self,rfl};refine ae (dv (wpAny_callSpecial?_slot ty eG (ba eG ty jW (XH (show A.in1.handled=none from hh) g gd hx si hk λh' e hk he=>?_) (jz _))));obtain⟨o,ho,hc⟩:=he;exact ae (fg ⟨o,ho,hc⟩ iF (af (q _ hk)))
abbrev Ov(h:Heap)(d:Addr)(n ep:Nat):Heap:=h.push {cls:=.type "dict_itemiterator",data:=.fields #[.none,.bool false,.ref d,.int 0 0,.int n 0,.int ep 0,.none,.none]}
abbrev Uj(h:Heap)(d l:Addr)(n ep:Nat):Heap:=(Ov h d n ep).push {cls:=.type "list_iterator",data:=.fields #[.ref l,.int 0 0]}
abbrev Ui(h:Heap)(d l:Addr)(n ep:Nat):Heap:=(Uj h d l n ep).push {cls:=.type "tuple",data:=.seq #[.ref h.objs.size,.ref (Ov h d n ep).objs.size]}
abbrev Uh(h:Heap)(d l:Addr)(n ep:Nat):Heap:=(Ui h d l n ep).push {cls:=.type "tuple",data:=.seq #[.none,.none]}
abbrev Lc(h:Heap)(d l:Addr)(n ep:Nat):Heap:=(Uh h d l n ep).push {cls:=.type "zip",data:=.fields #[.none,.bool false,.bool false,.ref (Uj h d l n ep).objs.size,.ref (Ui h d l n ep).objs.size]}
def XS(r d l:Addr)(ys:Aaj)(o:Obj)(es:Array DictEntry)(ep:Nat)(si:o.data=.dict es ep):
  Meets (Builtin.«zip.__new__» {[.type "zip",.ref r,.ref l],[]}) (λ_ R s=>s.heap.IsItemsView r d/\s.heap.get? d=some o/\s.heap.IsList l ys/\R (.ok (.ret (.ref (Uh s.heap d l es.size ep).objs.size))) {s with heap:=Lc s.heap d l es.size ep}):=
 .of_wp λprog w A R s h=>by
  obtain⟨hp,g,dr,tk,os⟩:=s;obtain⟨hv,gd,hl,h⟩:=h;have S5:=sub_zip;have hL:Heap.IsList (Shared.heap {Ov hp d es.size ep,g,dr,tk,os}) l ys:=by obtain⟨o,e,r⟩:=hl;exact{o,ah _ e,r}
  wp_walk using Ig hv gd si,oB hL
  exact⟨_,rfl,h⟩
def VZ(hv:v.heap.IsItemsView r d)(gd:v.heap.get? d=some o)(si:o.data=.dict es ep)(hl:v.heap.IsList l ys)
  (q:∀h' n,n=v.heap.objs.size->Zi h' (n+4) (n+2) (n+3) n (n+1) d l .none 0 es.size ep->(∀c o,v.heap.get? c=some o->h'.get? c=some o)->Q (.ref (n+4)) {v with heap:=h'}):
  wpAny (model P w) A (call (.type "zip") [.ref r,.ref l]) Q E v:=by
 refine callType_new F.called_zip (by decide) (F.typeCall_zip_2 _ _) (F.newCall_zip_2 _ _) (λobj=>yW obj _ _) F.entry_zip_new (XS r d l ys o es ep si) {hv,gd,hl,?_};have e1:(Ov v.heap d es.size ep).objs.size=v.heap.objs.size+1:=cy ..;have e2:(Uj v.heap d l es.size ep).objs.size=v.heap.objs.size+2:=by rw[cy,e1]
 have e3:(Ui v.heap d l es.size ep).objs.size=v.heap.objs.size+3:=by rw[cy,e2]
 have e4:(Uh v.heap d l es.size ep).objs.size=v.heap.objs.size+4:=by rw[cy,e3]
 have g5:(Lc v.heap d l es.size ep).get? (Uh v.heap d l es.size ep).objs.size=some _:=aB _ rfl;have g4:(Lc v.heap d l es.size ep).get? (Ui v.heap d l es.size ep).objs.size=some _:=ah _ (aB _ rfl);have g3:(Lc v.heap d l es.size ep).get? (Uj v.heap d l es.size ep).objs.size=some _:=ah _ (ah _ (aB _ rfl));have g2:(Lc v.heap d l es.size ep).get? (Ov v.heap d es.size ep).objs.size=some _:=ah _ (ah _ (ah _ (aB _ rfl)));have g1:(Lc v.heap d l es.size ep).get? v.heap.objs.size=some _:=ah _ (ah _ (ah _ (ah _ (aB _ rfl))));rw[e2,e3,e4]at g5;rw[e1,e2]at g3;rw[e3]at g4;rw[e1]at g2;rw[e4];exact{⟨_,g5,rfl⟩,q _ _ rfl {g5,g3,⟨_,_,g4⟩,{_,_,_,_,g1,.inl rfl},⟨_,g2,rfl,rfl⟩} λc o x=>ah _ (ah _ (ah _ (ah _ (ah _ x))))}
end
def ItZ(K:Frag)(d l:Addr)(o:Obj)(u:HO)(kvs:Aak):It:=
 {λi H=>H d=some (.fA o u)/\i<kvs.length/\∃ys y,br K H l ys/\ys[i]?=some y,
  λi H x H'=>∃p q kv y,x=.ref p/\H q=none/\upd H q (.tup [kv.1,kv.2]) p=none/\H'=upd (upd H q (.tup [kv.1,kv.2])) p (.tup [.ref q,y])/\kvs[i]?=some kv/\∀ys,br K H l ys->ys[i]?=some y,
  λi H=>H d=some (.fA o u)/\kvs.length<=i}
def V6{K:Frag}(m:Kv o es ep kvs)(IX:ti≠to):
  Turn P w K (.Tuple elts kk ps) (ItZ K d l o u kvs) (gQ z ti to i1 i2) z (λi h=>Zi h z ti to i1 i2 d l .none i es.size ep) where
 mem:=ay
 obj:=λi h st c hc=>by
  obtain⟨gs,gi,⟨u,v,go⟩,⟨_,_,_,_,q1,_⟩,⟨o2,q2,c2,d2⟩⟩:=st;rcases(by simpa[gQ]using hc)with rfl|rfl|rfl|rfl|rfl
  ·exact{_,gs,λv z=>by cases z}
  ·exact{_,gi,λv z=>by cases z}
  ·exact{_,go,λv z=>by cases z}
  ·exact{_,q1,λv z=>by cases z}
  ·exact{_,q2,λv z=>by rw[d2]at z;cases z}
 keep:=λi h h' st k=>by obtain⟨gs,gi,⟨u,v,go⟩,w1,⟨o2,q2,r2⟩⟩:=st;exact{k z (by simp[gQ]) _ gs,k ti (by simp[gQ]) _ gi,{u,v,k to (by simp[gQ]) _ go},w1.j7 λo e=>k i1 (by simp[gQ]) _ e,{o2,k i2 (by simp[gQ]) _ q2,r2}}
 item:=by
  intro X hP hw hK hc i pins s Z H E I hf st hg;subst hP hw hK;obtain⟨hd,hi,ys,y,hb,hy⟩:=hg;obtain⟨Cq,Ih,Ai,sf⟩:=I.list hb;obtain⟨u2,AH,D7⟩:=Ih.get hy;have hl:kvs.length=es.size:=by rw[a9 m.2.2,aZ]
  obtain⟨kv,ou⟩:∃kv,kvs[i]?=some kv:={_,aq hi};have Qw:i<es.size:=by lia
  obtain⟨e,he,r⟩:=Paired.at' m.2.2 ou;have ee:es[i]=e:=by rw[bK,bq Qw]at he;exact bM he
  refine VX IX st ((I.bw d _ hd).1) m.1 m.2.1 Ai.isList Qw (by simpa using AH) λh1 g1 tq pr kp=>{_,rfl,?_};refine tN g1.self λh2 z2 sb=>?_;have pV:=sb;have al:∀c∈gQ z ti to i1 i2,c<s.heap.objs.size:=λc hc=>by
   obtain⟨gs,gi,⟨u,v,go⟩,⟨_,_,_,_,q1,_⟩,⟨o2,q2,r2⟩⟩:=id st;rcases(by simpa[gQ]using hc)with rfl|rfl|rfl|rfl|rfl
   ·exact aD gs
   ·exact aD gi
   ·exact aD go
   ·exact aD q1
   ·exact aD q2
  have lz:=al z ay;have uR:∀c o,c∉gQ z ti to i1 i2->s.heap.get? c=some o->h2.get? c=some o:=λc o hc e=>
   pV.extBut c o (λt=>hc (by simp[gQ,t])) (kp c o (λt=>hc (by simp[gQ,t])) (λt=>hc (by simp[gQ,t])) (λt=>hc (by simp[gQ,t])) (λt=>hc (by simp[gQ,t])) e)
  have t2:=pV.extBut _ _ (bx lz) tq;have p2:=pV.extBut _ _ (bx (dD lz)) pr;have I2:=I.Lh (t':=s.toks) uR hf (ao _) {⟨_,t2,rfl,_,rfl⟩,_,t2,rfl} (.cons (ee▸r.1) (.cons (ee▸r.2) .nil)) (by show 2<=sizeLine;decide);have low:=I.low;have GG:upd H s.heap.objs.size (.tup [kv.1,kv.2]) (s.heap.objs.size+1)=none:=by rw[aH (bx (dw _))];exact(I.bw.fresh (iM _))
  have I3:=I2.EX (o:=.tup [.ref s.heap.objs.size,y]) GG {by show 2<=sizeLine;decide,[.ref s.heap.objs.size,u2],.cons rfl (.cons D7 .nil),{_,p2,rfl,0,rfl},_,p2,rfl} (oG low.1) (bx (dD low.2.1)) (λx c h=>aG (dD (low.2.2.1 x c h))) (λq hq=>aG (dD (low.2.2.2 q hq)));obtain⟨⟨n1,n2,n3,n4⟩,_,_⟩:=g1.ne;obtain⟨gs,gi,⟨u,v,go⟩,w1,⟨o2,q2,r2⟩⟩:=g1;refine{.ref (s.heap.objs.size+1),_,I3,rfl,{_,_,kv,y,rfl,I.bw.fresh (ao _),GG,rfl,ou,λzs hz=>by rw[I.De hz hb];exact hy},{z2,pV.extBut _ _ n1 gi,{u,v,pV.extBut _ _ n2 go},w1.j7 λo e=>pV.extBut _ _ n3 e,{o2,pV.extBut _ _ n4 q2,r2}},λc hc=>?_};rw[aH (aG (dD (al c hc))),aH (aG (al c hc))];exact(hf c hc).1
 done:=by
  intro X hP hw hK hc i pins s Z H E I hf st hg;obtain⟨hd,hi⟩:=hg;have hl:kvs.length=es.size:=by rw[a9 m.2.2,aZ]
  exact VW (I.ok.hd hc) st ((I.bw d _ hd).1) m.1 m.2.1 ∅ λh1 kp=>{rfl,I.Li (λc o hc e=>kp c o (λt=>hc (by simp[gQ,t])) (λt=>hc (by simp[gQ,t])) (λt=>hc (by simp[gQ,t])) (λt=>hc (by simp[gQ,t])) e) hf}
 self:=λ_ _ _ _ _ st h=>lB st.self h
inductive ZW(P:Program)(w:World)(K:Frag)(R:It->Hp->Prop)(vs:Aam)(H1:Hp):Prop
 |mk r d u l kvs ys (_:vs=[.ref r,.ref l]) (_:H1 r=some (.ext (nO r d))) (_:H1 d=some u) (_:fK P w K H1 d kvs) (_:br K H1 l ys) (_:∀o,R (ItZ K d l o u (kvs.map λp=>(.ref p.2.1,p.2.2))) (upd H1 d (.fA o u)))
def abI(P:Program)(w:World)(K:Frag)(ta:TA):TI:=λZ H R=>ta Z H λvs H1=>ZW P w K R vs H1
def WD(hg:Gl X "zip")(hm:X.mg "zip"=none)(ha:PA X [a,b] ta)(hs:starEach [a,b] X.env=[(false,eval a X.env),(false,eval b X.env)]:=by rfl)(kR:starEach [b] X.env=[(false,eval b X.env)]:=by rfl):
  PI X (.Tuple elts kk ps) (.Call (.Name "zip" p) [a,b] [] pos) (abI X.prog X.w X.K ta):=by
 intro pins s Z H R I h;refine E3 (qd I hg hm boot_zip (dP (pR (ha pos pins s Z H _ I h) λus s1 vs H1 I1 r1 q1=>?_) (by rw[hs,kR]) (by rw[kR];rfl)));obtain⟨r,d,u,l,kvs,ys,e,hr,hd,hv,hb,q⟩:=q1;subst e;obtain⟨u1,u2,rfl,Ij,D7⟩:=tP r1;cases Ij;cases D7;obtain⟨iv,_⟩:=(show cI X.prog X.w H1 s1.heap r (.ext (nO r d))from I1.bw r _ hr);obtain⟨lo,o,es,ep,ga,hz,m⟩:=I1.BD hv;obtain⟨Cq,Ih,Ai,sf⟩:=I1.list hb;have I2:Inv X pins Z (upd H1 d (.fA o u)) s1:=by
  rcases hv.1 with e|⟨_,e⟩
  ·rw[hd]at e;cases e;exact I1.Mq hd ga
  ·rw[hd]at e;cases e;exact I1.freeze hd ga
 refine VZ iv ga m.2.1 Ai.isList λh' n en g kp=>?_;subst en;refine lB g.self ?_;refine{_,_,_,_,_,rfl,(I2.kept (t':=s1.toks) kp),V6 m (λt=>absurd t (aG (dw _))),g,λc hc=>?_,q o}
 ·have zk:c=s1.heap.objs.size+4\/c=s1.heap.objs.size+2\/c=s1.heap.objs.size+3\/c=s1.heap.objs.size\/c=s1.heap.objs.size+1:=by simpa[gQ]using hc
  have lc:s1.heap.objs.size<=c:=by rcases zk with e|e|e|e|e<;>rw[e]<;>first|exact ao _|exact dM _ _
  exact I2.uZ lc (I2.bw.fresh lc)
def Tz{K:Frag}{g:TG}{tb:TS}{D:Ends}(Pv:Nat->St->Hp->Prop)(le:kvs.length=ys.length)(h0:Pv 0 Z H)(hl:∀i Z H,i<=kvs.length->Pv i Z H->H d=some (.fA o u)/\br K H l ys)
  (hs:∀i kv y p q Z H,kvs[i]?=some kv->ys[i]?=some y->Pv i Z H->H q=none->upd H q (.tup [kv.1,kv.2]) p=none->g (.ref p) Z (upd (upd H q (.tup [kv.1,kv.2])) p (.tup [.ref q,y])) λσ2 H2=>tb {D with nx:=Pv (i+1),ct:=Pv (i+1),bk:=D.nx} σ2 H2) (hd:∀Z H,Pv kvs.length Z H->D.nx Z H):uo (ItZ K d l o u kvs) g tb D Z H:=by
 refine AU Pv h0 (λi Z H hi p=>?_) λZ H p=>{{(hl _ Z H (ao _) p).1,ao _},hd Z H p};obtain⟨q1,q2⟩:=hl i Z H (bI hi) p;refine{{q1,hi,ys,ys[i]'∅,q2,aq _},?_};rintro x H' ⟨a,b,kv,v,rfl,hb,ha,rfl,y1,y2⟩;exact hs i kv v a b Z H y1 (y2 ys q2) p hb ha
section
variable{X:Cx}{P:Program}{w:World}{K:Frag}
def WI(he:PE X e ta)(hb:attributeBase e f X.env (eval e X.env)=eval e X.env)(h:X.K=K:=by rfl):PE X (.Attribute e f pos) (RQ K ta f):=h▸lU he hb
def Nb(hu:X.A.units+101<cLine)(ho:PE X o td)(he:PE X e ty)(hf:PE X f tz)(m:M2 X o "get" apos e f dU)(h1:X.prog=P:=by rfl)(h2:X.w=w:=by rfl)(h3:X.K=K:=by rfl):
  PE X (.Call (.Attribute o "get" apos) [e,f] [] dU) (Lo P w K td ty tz):=by subst h1 h2 h3;exact Gi hu ho he hf m
end
end L2
namespace L2
def ab3{T p:V->Hp->Prop}{G:Prop}(k:(∀v H,p v H->T v H)->G)(h:∀v H,p v H->T v H):G:=k h
open PySem PySem.Spec PyProof.Rows
section
variable{K:Frag}{a d:Addr}{o:Obj}{u:HO}{kvs:Aak}{xs:Aam}{lo:Int}{n:Nat}{g:TG}{tb:TS}{D:Ends}{Z:St}{H:Hp}
def JV(Pv:Nat->St->Hp->Prop)(h0:Pv 0 Z H)(hl:∀i Z H,i<=xs.length->Pv i Z H->bf K H a xs)
  (hs:∀i x Z H(D':Ends),xs[i]?=some x->Pv i Z H->(∀σ' H',Pv (i+1) σ' H'->D'.nx σ' H')->(∀v H',D.rt v H'->D'.rt v H')->g x Z H λσ2 H2=>tb D' σ2 H2) (hd:∀Z H,Pv xs.length Z H->D.nx Z H):=
 xJ (K:=K) (a:=a) (xs:=xs) (g:=g) (tb:=tb) (D:=D) (Z:=Z) (H:=H) Pv h0 hl (λi x Z H hx hp=>hs i x Z H _ hx hp (λ_ _ h=>h) λ_ _ h=>h) hd
def ni(Pv:Nat->St->Hp->Prop)(h0:Pv 0 Z H)(hl:∀i Z H,i<=xs.length->Pv i Z H->br K H a xs)
  (hs:∀i x Z H(D':Ends),xs[i]?=some x->Pv i Z H->(∀σ' H',Pv (i+1) σ' H'->D'.nx σ' H')->(∀v H',D.rt v H'->D'.rt v H')->g x Z H λσ2 H2=>tb D' σ2 H2) (hd:∀Z H,Pv xs.length Z H->D.nx Z H):=
 Dl (K:=K) (a:=a) (xs:=xs) (g:=g) (tb:=tb) (D:=D) (Z:=Z) (H:=H) Pv h0 hl (λi x Z H hx hp=>hs i x Z H _ hx hp (λ_ _ h=>h) λ_ _ h=>h) hd
def EH(Pv:Nat->St->Hp->Prop)(h0:Pv 0 Z H)
  (hs:∀i Z H(D':Ends),i<n->Pv i Z H->(∀σ' H',Pv (i+1) σ' H'->D'.nx σ' H')->(∀v H',D.rt v H'->D'.rt v H')->g (.int (lo+i)) Z H λσ2 H2=>tb D' σ2 H2) (hd:∀Z H,Pv n Z H->D.nx Z H):=
 v9 (lo:=lo) (n:=n) (g:=g) (tb:=tb) (D:=D) (Z:=Z) (H:=H) Pv h0 (λi Z H hx hp=>hs i Z H _ hx hp (λ_ _ h=>h) λ_ _ h=>h) hd
noncomputable def QR{l:Addr}{ys:Aam}(Pv:Nat->St->Hp->Prop)(le:kvs.length=ys.length)(h0:Pv 0 Z H)(hl:∀i Z H,i<=kvs.length->Pv i Z H->H d=some (.fA o u)/\br K H l ys)
  (hs:∀i kv y p q Z H(D':Ends),kvs[i]?=some kv->ys[i]?=some y->Pv i Z H->H q=none->upd H q (.tup [kv.1,kv.2]) p=none->(∀σ' H',Pv (i+1) σ' H'->D'.nx σ' H')->g (.ref p) Z (upd (upd H q (.tup [kv.1,kv.2])) p (.tup [.ref q,y])) λσ2 H2=>tb D' σ2 H2) (hd:∀Z H,Pv kvs.length Z H->D.nx Z H):=
 Tz (K:=K) (d:=d) (l:=l) (o:=o) (u:=u) (kvs:=kvs) (ys:=ys) (g:=g) (tb:=tb) (D:=D) (Z:=Z) (H:=H) Pv le h0 hl (λi kv y p q Z H a b c e f=>hs i kv y p q Z H _ a b c e f λ_ _ h=>h) hd
end
end L2
namespace qE
open PySem PySem.Spec PyProof.Rows L2 f6 cH
seal L2.PE L2.PT L2.PW L2.PA L2.PS L2.nK L2.PI L2.PO L2.MF L2.PG L2.Kk
def top(i:Nat):Stmt:=PySem.Challenge.pw_askviews_k60_candidates.main.body.getD i (.Pass {0,0,0,0})
abbrev yh:Stmt:=top 3
abbrev uD:Stmt:=top 4
abbrev sO:Stmt:=top 6
abbrev zZ:Stmt:=top 8
abbrev wz:Stmt:=top 9
abbrev pW:Stmt:=top 10
abbrev Ad:Stmt:=top 12
abbrev wC:Stmt:=top 13
abbrev qV:Stmt:=top 14
abbrev yf:Stmt:=top 16
abbrev wA:Stmt:=top 17
abbrev Fg:Stmt:=top 18
abbrev yi:Stmt:=top 19
abbrev qU:Stmt:=top 20
abbrev uE:Stmt:=top 22
abbrev wB:Stmt:=top 24
abbrev Ff:Stmt:=top 25
abbrev CV:Stmt:=top 26
abbrev yg:Stmt:=top 27
abbrev CY:Stmt:=top 28
abbrev uB:Stmt:=top 29
abbrev uC:Stmt:=top 30
abbrev CU:Stmt:=top 31
abbrev Aa:Stmt:=top 32
abbrev Fe:Stmt:=top 33
abbrev CW:Stmt:=top 34
abbrev Ac:Stmt:=top 35
abbrev qX:Stmt:=top 36
abbrev Ab:Stmt:=top 37
abbrev M4:Stmt:=top 38
abbrev uA:Stmt:=inClass (top 15) 0
abbrev qW:Stmt:=inClass (top 15) 1
abbrev CS:Stmt:=inClass (top 15) 2
abbrev m8:Stmt:=inClass (top 15) 3
abbrev oC:Stmt:=inClass (top 15) 4
def CG(K:Frag)(H:Hp)(a:Addr)(xs:Aam):Prop:=
 (∃o,H a=some (.fA o (.lst xs)))\/∃(o:Obj)(aP:Aaj)(n:Nat),K.lookup a=some o/\o.cls=.type "list"/\o.dict=none/\o.data=.seq aP n/\aP.size<=sizeLine/\Vals xs aP.toList
def CG.sq{K:Frag}(h:CG K H a xs):br K H a xs:=by
 rcases h with⟨o,h⟩|h
 ·exact .inl (.inr ⟨o,h⟩)
 ·exact .inr h
def fG(_K:Frag)(f:Addr)(H:Hp):Prop:=∃x p q:Int,H f=some (.lst [.int x,.int p,.int q])
def Ext(f:Addr)(H H':Hp):Prop:=∀b o,b≠f->H b=some o->H' b=some o
def Ext.refl(f:Addr)(H:Hp):Ext f H H:=λ_ _ _ h=>h
def Ext.trans(a:Ext f H H1)(b:Ext f H1 H2):Ext f H H2:=λc o n h=>b c o n (a c o n h)
def Ext.new(a:Ext f H H1)(h:H1 p=none)(o:HO):Ext f H (upd H1 p o):=λb u n q=>by rw[aH (bc (a b u n q) h)];exact a b u n q
def Ext.own(a:Ext f H H1)(h:H p=none)(o:HO):Ext f H (upd H1 p o):=λb u n q=>by rw[aH (bc q h)];exact a b u n q
def Ext.feed(a:Ext f H H1)(o:HO):Ext f H (upd H1 f o):=λb u n q=>by rw[aH n];exact a b u n q
def Ext.none(a:Ext f H H1)(n:p≠f)(h:H1 p=Option.none):H p=Option.none:=by
 cases q:H p with
 |none=>rfl
 |some o=>
  rw[a p o n q]at h;cases h
def fG.new{K:Frag}(h:fG K f H)(hp:H p=none)(o:HO):fG K f (upd H p o):=by obtain⟨x,y,z,hf⟩:=h;exact{x,y,z,by rw[aH (bc hf hp)];exact hf}
def fG.lst{K:Frag}(h:fG K f H)(hp:H p=some (.lst xs))(n:p≠f)(o:HO):fG K f (upd H p o):=by obtain⟨x,y,z,hf⟩:=h;exact{x,y,z,by rw[aH n.symm];exact hf}
def fG.qL{K:Frag}(h:fG K f H)(hp:H p=none):p≠f:=by obtain⟨x,y,z,hf⟩:=h;exact(bc hf hp).symm
def fG.same{K:Frag}{f:Addr}{H H':Hp}(h:fG K f H)(sm:aQ H H'):fG K f H':=by obtain⟨x,y,z,hf⟩:=h;exact{x,y,z,sm _ _ hf}
inductive zQ(K:Frag)(vs:Aam)(H:Hp)(Q:VK)(_x3:XK):Prop
 |mk (f:Addr) (many:Int) (_:vs=[.ref f,.int many]) (_:fG K f H) (_:0<many) (_:many<1073741824) (_:∀(i:Int)(H':Hp),0<=i->i<many->fG K f H'->Ext f H H'->Q (.int i) H')
inductive MU(K:Frag)(vs:Aam)(H:Hp)(Q:VK)(_x3:XK):Prop
 |mk (a:Addr) (ns:List Int) (k:Int) (_:vs=[.ref a,.int k]) (_:CG K H a (ns.map V.int)) (_:ns.length<=63) (_:0<=k) (_:∀(r:Addr)(H':Hp),fG K r H'->aQ H H'->H r=none->Q (.ref r) H')
inductive OJ(K:Frag)(vs:Aam)(H:Hp)(Q:VK)(_x3:XK):Prop
 |mk (a:Addr) (ns:List Int) (k:Int) (_:vs=[.ref a,.int k]) (_:CG K H a (ns.map V.int)) (_:ns.length<=63) (_:0<=k) (_:∀i:Int,Q (.int i) H)
section
variable{P:Program}{w:World}{K:Frag}{mg:Aab}{base:Heap}
structure Txt(K:Frag)(mg:Aab):Prop where
 jd:mg "len"=none
 pK:mg "range"=none
 hX:mg "tuple"=none
 rY:mg "list"=none
 fu:mg "isinstance"=none
 UN:mg "all"=none
 Hk:mg "str"=none
 Jc:mg "bool"=none
 abB:mg "int"=none
 Jb:mg "dict"=none
 Cf:mg "enumerate"=none
 Hj:mg "zip"=none
 aby:mg "sum"=none
 rn:mg "sorted"=none
 Nn:mg "set"=none
 abA:mg "max"=none
 abz:mg "min"=none
 Xf:∃t,mg "SIGNS"=some (.str "abcdefghijklmnopqrstuvwxyz0123456789" t)
 JT:∃t,mg "MOST_SIGNS"=some (.int 8 t)
def XZ(r:gx k A):A.units+96<cLine:=by have:=r.un;lia
def int_at{ns:List Int}{i:Int}(h0:0<=i)(h1:i<(ns.length:Int)):∃v,wc (ns.map V.int) i=some (.int v):=by
 obtain⟨v,hv⟩:∃v,ns[i.toNat]?=some v:={_,aq ∅};refine{v,?_};have e:i=((i.toNat:Nat):Int):=by lia
 rw[e];exact iG (by rw[aI,hv];rfl)
def uz:cv ["_law_script","_law_k","_law_seed"] ["_law_script","_law_k"] (defScope wB):=iO (by decide+kernel)
def zU(h:∀R:L2.St->Hp->Prop,(∀σ' H',u D σ' H'->R σ' H')->t {D with nx:=R} Z H):E9 t u D Z H:=h (u D) λ_ _ x=>x
def CQ(h:∀T,T=u->E9 t T D Z H):E9 t u D Z H:=h u rfl
def m5{T t u:TS}{D:Ends}{Z:L2.St}{H:Hp}(e:T=E9 t u)(h:∀R,R=u->E9 t R D Z H):T D Z H:=e▸h u rfl
def Fd{T u:TS}{D:Ends}{Z:L2.St}{H:Hp}(e:T=u)(h:u D Z H):T D Z H:=e▸h
def WQ{f:Addr}{fd:FuncData}(F:eX K "_law_cell_at" "_law_cell_at" wB f fd)(T:Txt K mg):cU P w K mg base fm 1 f fd ["_law_script","_law_k"] (OJ K):=by
 refine F.ok uz (λ_ _ _ _ h=>by cases h;subst_vars;rfl) (λc6 A outer s H vs Q E hr h=>?_);obtain⟨a,ns,kk,rfl,hS,hn,hk,k⟩:=h;refine{_,(aK (fh (c7 UG (pv 1) (bP fk rfl T.jd cx (b5 (pv 0))) (dG _)) (aT (b8 (cB fY (pv 0) (pv 1) (λ_ _=>rfl)))) dh) (aK (d8 2 uz aS) (aK (fh (c7 Ef (bP fk rfl T.jd cx (b5 (pv 0))) aS (dG _)) (aT (d8 2 uz (cB fY (pv 0) (dB oR (pv 1) (bP fk rfl T.jd cx (b5 (pv 0)))) (λ_ _=>rfl)))) dh) (aT (b8 (dB oR (dB iC (dB iC (dB Ao (dB oR (pv 2) aS) aS) (dB Ao (pv 1) aS)) aS) aS)))))),?_}
 have nl:(ns.map V.int).length=ns.length:=ak _;refine{_,rfl,_,rfl,_,_,rfl,.inl {_,hS.sq,rfl},_,_,rfl,rfl,_,rfl,?_};refine eZ (λc=>?_) (λc=>?_)
 ·have c:kk<((ns.map V.int).length:Int):=aW c;obtain⟨v,ev⟩:=int_at (ns:=ns) hk ∅;exact{_,rfl,_,rfl,_,_,_,_,rfl,rfl,hS.sq,ev,k v}
 ·dsimp only;refine zU λR0 hR0=>hR0 _ _ ?_;refine zU λR1 hR1=>hR1 _ _ ?_;refine zU λR hR=>?_;have fin:∀sd:Int,R [some (.ref a),some (.int kk),some (.int sd)] H:=λsd=>hR _ _ (by
   refine{_,rfl,_,_,rfl,rfl,(by show(0:Int)<1000000007;decide),_,_,rfl,rfl,.inr {by decide,by decide},_,rfl,_,_,rfl,rfl,.inr {by decide,by decide},_,_,rfl,rfl,_,_,rfl,rfl,_,_,rfl,rfl,(by show(0:Int)<2147483647;decide),k _})
  refine{_,rfl,_,_,rfl,.inl {_,hS.sq,rfl},_,_,rfl,rfl,_,rfl,?_};refine eZ (λc1=>?_) (λc1=>fin 0);have c1:(0:Int)<((ns.map V.int).length:Int):=aW c1;have c4:=wm kk (show((ns.map V.int).length:Int)≠0 by lia);have c5:=sI kk c1;obtain⟨v,ev⟩:=int_at (ns:=ns) c4 ∅;exact{_,rfl,_,rfl,_,rfl,_,_,rfl,.inl {_,hS.sq,rfl},_,_,rfl,rfl,c1,_,_,_,_,rfl,rfl,hS.sq,ev,fin v}
structure Dce(P:Program)(w:World)(K:Frag)(mg:Aab)(base:Heap):Prop where
 PN:cR P w K mg base 1 "_law_cell_at" ["_law_script","_law_k"] (OJ K)
def Ib:cv ["_law_script","_law_k","_law_cell"] ["_law_script","_law_k"] (defScope Ff):=iO (by decide+kernel)
def Y2{f:Addr}{fd:FuncData}(F:eX K "_law_box" "_law_box" Ff f fd)(T:Txt K mg)(D:Dce P w K mg base):cU P w K mg base fm 2 f fd ["_law_script","_law_k"] (MU K):=by
 refine F.ok Ib (λ_ _ _ _ h=>by cases h;subst_vars;rfl) (λc6 A outer s H vs Q E hr h=>?_);obtain⟨a,ns,kk,rfl,hS,hn,hk,k⟩:=h;refine{_,(aK (d8 2 Ib (cl D.PN hr (cD (pv 0) (pv 1)))) (aT (b8 (fq (uI (bP (Ro rfl) rfl T.abA (by decide+kernel) (cD aS (dB C9 (pv 2) (dB YX aS aS)))) (dB oR (pv 2) aS) aS))))),?_}
 refine{_,rfl,_,rfl,a,ns,kk,rfl,hS,hn,hk,λc=>?_};refine{_,rfl,_,_,rfl,rfl,{by decide,by decide,by decide},_,_,rfl,rfl,{by decide,by decide+kernel},_,_,rfl,_,rfl,_,_,rfl,rfl,(by show(0:Int)<2147483629;decide),(by show 3<=sizeLine;decide),λp hp=>?_};exact k p _ ⟨_,_,_,ar⟩ (λb u q=>by rw[aH (bc q hp)];exact q) hp
def zW:cv ["_law_box_here","_law_many","_law_found","_law_mixed"] ["_law_box_here","_law_many"] (defScope CV):=iO (by decide+kernel)
def WO(F:eX K "_law_take" "_law_take" CV f fd)(T:Txt K mg):cU P w K mg base fm 1 f fd ["_law_box_here","_law_many"] (zQ K):=by
 refine F.ok zW (λ_ _ _ _ h=>by cases h;subst_vars;rfl) (λc6 A outer s H vs Q E hr h=>?_);obtain⟨fe,many,rfl,⟨x,p,q,hf⟩,hm,Qt,k⟩:=h;refine{_,(aK (fh (c7 Ef (cB fY (pv 0) aS (λ_ _=>rfl)) aS (dG _)) (aK (d8 2 zW (dB oR (cB fY (pv 0) aS (λ_ _=>rfl)) (pv 1))) (aK (uF (dB C9 (cB fY (pv 0) aS (λ_ _=>rfl)) (pv 1)) (IA (pv 0) aS set_list)) (aT (b8 (pv 2))))) dh) (aK (uF (dB iC (cB fY (pv 0) aS (λ_ _=>rfl)) aS) (IA (pv 0) aS set_list)) (aK (d8 3 zW (dB oR (dB iC (dB iC (dB Ao (cB fY (pv 0) aS (λ_ _=>rfl)) aS) (dB Ao (cB fY (pv 0) aS (λ_ _=>rfl)) aS)) aS) aS)) (aT (b8 (dB oR (dB C9 (dB oR (dB iC (dB Ao (pv 3) aS) (cB fY (pv 0) aS (λ_ _=>rfl))) aS) aS) (pv 1))))))),?_}
 refine{_,rfl,fe,_,_,_,rfl,rfl,br.of hf,rfl,_,_,rfl,rfl,_,rfl,?_};refine eZ (λc=>?_) (λc=>?_)
 ·refine{_,rfl,fe,_,_,_,rfl,rfl,br.of hf,rfl,_,rfl,_,_,rfl,rfl,hm,?_};have l2:many.natAbs.log2<9000:=by
   by_cases hz:many.natAbs=0
   ·rw[hz];decide
   ·rw[Nat.log2_lt hz];exact fB (show many.natAbs<2^30 by lia) (Nat.pow_lt_pow_right (by decide) (by decide))
  refine{_,rfl,fe,_,_,_,rfl,rfl,br.of hf,rfl,_,rfl,_,_,rfl,rfl,⟨hm,l2⟩,_,rfl,fe,_,_,_,rfl,rfl,hf,rfl,?_};exact{_,rfl,k _ _ (wm _ ∅) (sI _ hm) ⟨_,_,_,ar⟩ ((Ext.refl fe H).feed _)}
 ·refine{_,rfl,fe,_,_,_,rfl,rfl,br.of hf,rfl,_,_,rfl,rfl,_,rfl,fe,_,_,_,rfl,rfl,hf,rfl,?_};have zi:upd H fe (.lst [.int x,.int p,.int (q+1)]) fe=some (.lst [.int x,.int p,.int (q+1)]):=ar;refine{_,rfl,fe,_,_,_,rfl,rfl,br.of zi,rfl,_,_,rfl,rfl,.inr {by decide,by decide},_,rfl,fe,_,_,_,rfl,rfl,br.of zi,rfl,_,_,rfl,rfl,.inr {by decide,by decide},_,_,rfl,rfl,_,_,rfl,rfl,_,_,rfl,rfl,(by show(0:Int)<2147483629;decide),?_};refine{_,rfl,_,_,rfl,rfl,.inr {by decide,by decide},_,rfl,fe,_,_,_,rfl,rfl,br.of zi,rfl,_,_,rfl,rfl,_,_,rfl,rfl,(by show(0:Int)<2147483647;decide),_,_,rfl,rfl,{by decide,by decide+kernel},_,rfl,_,_,rfl,rfl,hm,?_};exact k _ _ (wm _ ∅) (sI _ hm) ⟨_,_,_,zi⟩ ((Ext.refl fe H).feed _)
structure Dr(P:Program)(w:World)(K:Frag)(mg:Aab)(base:Heap):Prop where
 fS:cR P w K mg base 1 "_law_take" ["_law_box_here","_law_many"] (zQ K)
def nV(hg:Gl X x)(hm:X.mg x=none)(hv:bootBuiltins x=some (.type n))(hn:x≠"__name__":=by decide)(hd:(x==("__debug__":Str))=false:=by decide):PE X (.Name x pos) (tC (.ty n)):=WK hg hm hv rfl hn hd
def SIGNS:Str:="abcdefghijklmnopqrstuvwxyz0123456789"
def sgn(c:Nat):Bool:=!(Builtin.Str.occurrences SIGNS ⟨#[c]⟩ 0 SIGNS.length 1).isEmpty
def isVal(s:Str):Bool:=decide ((1:Int)<=(s.length:Int))&&(decide ((s.length:Int)<=8)&&(s.cps.toList.map sgn).all id)
def isUnk(s:Str):Bool:=Txt.startswith s "?"&&isVal (Txt.slice s (some 1) none)
inductive Uu(vs:Aam)(H:Hp)(Q:VK)(_x3:XK):Prop
 |mk (z:Str) (_:vs=[.str z]) (_:z.length<=1000) (_:∀H',aQ H H'->Q (.bl (isVal z)) H')
inductive Uv(vs:Aam)(H:Hp)(Q:VK)(_x3:XK):Prop
 |mk (z:Str) (_:vs=[.str z]) (_:z.length<=1000) (_:∀H',aQ H H'->Q (.bl (isUnk z)) H')
def aC(h:H p=none)(o:HO):aQ H (upd H p o):=λb u q=>by rw[aH (bc q h)];exact q
def Jm(t:Value):kitOne K t t=some true:=by unfold kitOne;rw[aA (beq_self_eq_true t)]
def KC:cv ["thing"] ["thing"] (defScope yh):=iO (by decide+kernel)
def KJ(F:eX K "is_value" "is_value" yh f fd)(T:Txt K mg):cU P w K mg base fm 1 f fd ["thing"] Uu:=by
 refine F.ok KC (λ_ _ _ _ h=>by cases h;subst_vars;rfl) (λc6 A outer s H vs Q E hr h=>?_);obtain⟨z,rfl,hz,k⟩:=h;refine{_,(aK (fh (D9 (oP (bP jH rfl T.fu (by decide+kernel) (cD (pv 0) (nV (n:="str") rfl T.Hk (by decide+kernel)))))) (aT (b8 yo)) dh) (aT (b8 (uH (Sq Ni Ni aS (bP fk rfl T.jd cx (b5 (pv 0))) (Sm rfl T.JT)) (Al (bP (xN rfl) rfl T.UN boot_all (b5 (kg rfl (dO (fs:=[]) (fr:=[])) (YU (pv 0)) (λ_ _ _ _=>(rg Pe (pv 0) (Sl rfl T.Xf) (by with_unfolding_all rfl))))))))))),?_}
 refine{_,rfl,_,_,_,true,rfl,oF.str z,Jm _,_,rfl,?_};refine uS ?_;refine{_,rfl,_,_,rfl,{(bI (bN hz)),rfl},_,_,rfl,rfl,_,rfl,?_};refine eZ (λc1=>?_) (λc1=>?_)
 ·refine{_,_,rfl,rfl,_,rfl,?_};refine eZ (λc2=>?_) (λc2=>?_)
  ·refine{_,rfl,_,rfl,λi m ys H2=>H2=H/\i<=z.cps.size/\m=z.cps.size -i/\ys=((z.cps.toList.take i).map sgn).map V.bl,{_,rfl,aR _,rfl,rfl},?_};rintro i m ys H2 ⟨rfl,hi,rfl,rfl⟩;have hl:∀j,(((z.cps.toList.take j).map sgn).map V.bl).length<=1000:=λj=>by
    rw[ak,ak,aU];have:z.cps.toList.length=z.length:=by simp[Str.length]
    lia
   by_cases cw:i<z.cps.size
   ·refine .inr {cw,bN (hl i),?_};rintro v H3 ⟨rfl,c,hc,rfl⟩;refine{_,rfl,_,_,rfl,rfl,_,Nat.sub_lt_sub_left cw (dw i),rfl,cw,rfl,?_}
    ·have zk:z.cps.toList[i]?=some c:=by simpa using hc
     rw[bg,zk,aN,aN];rfl
   ·have e:i=z.cps.size:=by lia
    refine .inl {e,bI (bN (hl i)),λl oS=>?_};refine{_,(z.cps.toList.take i).map sgn,rfl,br.of ar,?_};have ev:isVal z=((z.cps.toList.take i).map sgn).all id:=by unfold isVal;rw[c1,c2,(eI (by rw[e];simp)),jt,jt]
    rw[<-ev];exact k _ (aC oS _)
  ·have ev:isVal z=false:=by unfold isVal;rw[ig.mpr c2,oj,rL]
   have q:=k H (aQ.refl H);rw[ev]at q;exact q
 ·have ev:isVal z=false:=by unfold isVal;rw[ig.mpr c1,oj]
  have q:=k H (aQ.refl H);rw[ev]at q;exact{_,rfl,uS q}
structure Dv(P:Program)(w:World)(K:Frag)(mg:Aab)(base:Heap):Prop where
 is_value:cR P w K mg base 1 "is_value" ["thing"] Uu
def G8:cv ["thing"] ["thing"] (defScope uD):=iO (by decide+kernel)
def slice_le(z:Str):(Txt.slice z (some 1) none).length<=z.length:=qy z _ _
def G9(F:eX K "is_unknown" "is_unknown" uD f fd)(T:Txt K mg)(D:Dv P w K mg base):cU P w K mg base fm 2 f fd ["thing"] Uv:=by
 refine F.ok G8 (λ_ _ _ _ h=>by cases h;subst_vars;rfl) (λc6 A outer s H vs Q E hr h=>?_);obtain⟨z,rfl,hz,k⟩:=h;refine{_,(aT (b8 (uH (bP jH rfl T.fu (by decide+kernel) (cD (pv 0) (nV (n:="str") rfl T.Hk (by decide+kernel)))) (uH (lG PySem.F.plainAttrs_str PySem.F.slot_str_startswith PySem.F.type_str_startswith Hb (pv 0) (b5 dj)) (Al (cl D.is_value hr (b5 (uG Yx (pv 0) (ui aS) Bx)))))))),?_};refine{_,rfl,_,_,_,true,rfl,oF.str z,Jm _,_,rfl,?_};refine wG ?_;refine{_,rfl,rfl,_,_,rfl,rfl,_,rfl,?_};refine eZ (λc1=>?_) (λc1=>?_)
 ·refine{_,rfl,_,rfl,_,rfl,(bI (bN hz)),_,rfl,aL (slice_le z) hz,λH' sm=>?_};have ev:isUnk z=isVal (Txt.slice z (some 1) none):=by unfold isUnk;rw[c1,jt]
  rw[<-ev];exact k H' sm
 ·have ev:isUnk z=false:=by unfold isUnk;rw[ig.mpr c1,oj]
  have q:=k H (aQ.refl H);rw[ev]at q;exact q
def step(acc:Aaf)(t:Str):Aaf:=if isUnk t=true then(if t∈acc then acc else acc++[t])else acc
def eP(fl:Aaf):Aaf:=fl.foldl step []
def SN(acc:Aaf)(t:Str):(step acc t).length<=acc.length+1:=by
 unfold step;split
 ·split
  ·lia
  ·rw[aM];exact ao _
 ·lia
theorem Ji:∀(fl acc:Aaf),(fl.foldl step acc).length<=acc.length+fl.length
 |[],acc=>by simp
 |t::r,acc=>by have h1:=Ji r (step acc t);have h2:=SN acc t;rw[mR,bu];lia
def xr(fl:Aaf):(eP fl).length<=fl.length:=by have:=Ji fl [];simpa[eP]using this
def Hw(fl:Aaf)(t:Str):eP (fl++[t])=step (eP fl) t:=by unfold eP;rw[BX];rfl
def qe(acc:Aaf):List (Key×V):=acc.map λt=>(Sum.inr t,V.bl true)
def any_keys(acc:Aaf)(t:Str):((qe acc).any λkv=>decide (kv.1=(Sum.inr t:Key)))=decide (t∈acc):=by
 unfold qe;rw[Bq,fJ,pC];constructor
 ·rintro⟨x,hx,e⟩;have e':=aW e;injection e' with e';exact aX (e'▸hx)
 ·intro h;exact{t,aW h,aX rfl}
def Sb(acc:Aaf)(t:Str):putK (qe acc) (Sum.inr t:Key) (V.bl true)=qe (if t∈acc then acc else acc++[t]):=by
 unfold putK;rw[any_keys];by_cases h:t∈acc
 ·rw[aX h,aA rfl,aA h];unfold qe;rw[bW];refine bC λx _=>?_;show(if(Sum.inr x:Key)=Sum.inr t then((Sum.inr x:Key),V.bl true)else(Sum.inr x,V.bl true))=_;split<;>rfl
 ·rw[bB h,ax bA,ax h];unfold qe;rw[aN];rfl
def PY(acc:Aaf):((qe acc).map λkv=>kV kv.1)=acc.map V.str:=by unfold qe;rw[bW];rfl
def cE(H H':Hp):Prop:=∀b xs,H b=some (.tup xs)->H' b=some (.tup xs)
def cE.trans(a:cE H H1)(b:cE H1 H2):cE H H2:=λc xs h=>b c xs (a c xs h)
def cE.of{H H':Hp}(a:aQ H H'):cE H H':=λc xs h=>a c _ h
def cE.refl(H:Hp):cE H H:=λ_ _ h=>h
def cE.new(a:cE H H1)(h:H1 p=none)(o:HO):cE H (upd H1 p o):=λb xs q=>by rw[aH (bc (a b xs q) h)];exact a b xs q
def cE.lst(a:cE H H1)(h:H1 p=some (.lst ys))(o:HO):cE H (upd H1 p o):=λb xs q=>by rw[aH (Nm (a b xs q) h λz=>by cases z)];exact a b xs q
def cE.ext(hf:H f=some (.lst ys))(a:Ext f H H1):cE H H1:=λb xs q=>a b _ (Nm q hf λz=>by cases z) q
def fG.jM{K:Frag}(h:fG K f H)(a:Ext f H H1):cE H H1:=by obtain⟨_,_,_,hf⟩:=h;exact cE.ext hf a
def jX(H:Hp)(v:V)(a:Str×Aaf):Prop:=∃(p t:Addr),v=.ref p/\H p=some (.tup [.str a.1,.ref t])/\H t=some (.tup (a.2.map V.str))
abbrev bR(H:Hp):Aam->R0->Prop:=Paired (jX H)
def jX.keep(a:cE H H')(h:jX H v b):jX H' v b:=by obtain⟨p,t,e,h1,h2⟩:=h;exact{p,t,e,a _ _ h1,a _ _ h2}
def bR.keep(a:cE H H')(h:bR H vs ats):bR H' vs ats:=Paired.imp' (λ_ _ q=>q.keep a) h
def wg(H:Hp)(v:V)(hz:Aaf)(ats:R0):Prop:=∃(q h a:Addr)(vs:Aam),v=.ref q/\H q=some (.tup [.ref h,.ref a])/\H h=some (.tup (hz.map V.str))/\H a=some (.tup vs)/\bR H vs ats
def wg.keep{H H':Hp}{v:V}{hz:Aaf}{ats:R0}(t:cE H H')(x:wg H v hz ats):wg H' v hz ats:=by obtain⟨q,h,a,vs,e,h1,h2,h3,h4⟩:=x;exact{q,h,a,vs,e,t _ _ h1,t _ _ h2,t _ _ h3,bR.keep t h4}
def Paired.Hg(h:Paired F aad aac)(q:F a b):Paired F (aad++[a]) (aac++[b]):=h.snoc q
theorem Paired.at:∀{aad:List α}{aac:List β}{i:Nat}{x:α},Paired F aad aac->aad[i]?=some x->∃y,aac[i]?=some y/\F x y
 |_,_,_,_,.nil,e=>by simp at e
 |_,_,0,_,.cons r _,e=>by simp at e;subst e;exact⟨_,rfl,r⟩
 |_,_,i+1,x,.cons _ t,e=>by obtain⟨y,h1,h2⟩:=Paired.at (i:=i) (x:=x) t (by simpa using e);exact{y,by simpa using h1,h2}
def cZ(ats:R0):Aaf:=(ats.map (·.2)).flatten
def N4(l:R0)(a:Str×Aaf):cZ (l++[a])=cZ l++a.2:=by unfold cZ;simp
def EI{ats:R0}(h:ats[i]?=some a):cZ (ats.take (i+1))=cZ (ats.take i)++a.2:=by rw[bg,h];exact N4 _ _
def pq{zs:Aaf}(h0:0<=i)(h1:i<(zs.length:Int)):∃z,z∈zs/\wc (zs.map V.str) i=some (.str z):=by
 obtain⟨z,hz⟩:∃z,zs[i.toNat]?=some z:={_,aq ∅};refine{z,aE hz,?_};have e:i=((i.toNat:Nat):Int):=by lia
 rw[e];exact iG (by rw[aI,hz];rfl)
theorem Bz:∀l:R0,(∀a∈l,a.2.length<=4)->(cZ l).length<=4*l.length
 |[],_=>ao _
 |a::r,q=>by have h1:=Bz r λts j4=>q ts (az _ j4);have h2:=q a ay;show(a.2++cZ r).length<=_;rw[aM,bu];lia
def sv{ats:R0}{z:Str}:z∈cZ ats↔∃a∈ats,z∈a.2:=by
 unfold cZ;rw[vq];constructor
 ·rintro⟨l,h1,h2⟩;obtain⟨a,ha,rfl⟩:=aJ.mp h1;exact⟨a,ha,h2⟩
 ·rintro⟨a,ha,h⟩;exact{a.2,bT ha,h}
noncomputable def iA:Aaf:=["?x","?y","?z","?x1","?w","a","b","x","zz"]
noncomputable def uL:Aaf:=["r","s","rs","t"]
def IL(c d:Nat):decide ((⟨#[c]⟩:Str)=⟨#[d]⟩)=(c==d):=by
 by_cases h:c=d
 ·subst h;simp
 ·have:¬((⟨#[c]⟩:Str)=⟨#[d]⟩):=λe=>h (by injection e with e;simpa using e);rw[bB this];exact(du.mpr h).symm
def M6:("?":Str)=⟨#[63]⟩:=by decide+kernel
def CL{z:Str}{c:Nat}(h:z.cps.toList[0]?=some c):Txt.startswith z "?"=decide ((⟨#[c]⟩:Str)="?"):=by rw[M6,IL];rw[fJ,nY];unfold Txt.startswith;rw[bF,iQ,BR,h];exact{λe=>bM e,λe=>by rw[e]}
def Ky{z:Str}(h:z.cps.toList[0]?=none):Txt.startswith z "?"=false:=by rw[M6];refine ig.mpr λe=>?_;unfold Txt.startswith at e;rw[bF,iQ,BR,h]at e;cases e
def TB{z:Str}(h:z≠""):∃c,z.cps.toList[0]?=some c:=by
 cases e:z.cps.toList with
 |cons c r=>exact⟨c,rfl⟩
 |nil=>
  exact absurd (PyProof.Rows.ext_toList (e.trans rfl)) h
def KR{α:Type}{g:α->Bool}{l:List α}{i:Nat}{x:α}(h:l[i]?=some x):(l.take (i+1)).filter g=(l.take i).filter g++(if g x=true then[x]else[]):=by rw[bg,h,gN];show _++[x].filter g=_;rw[iI,List.filter_nil]
def Ja(h:q none H):Lm Z H q:=h
def OR:sgn 63=false:=by decide+kernel
def V3{z:Str}(h:isVal z=true):isUnk z=false:=by
 unfold isVal at h;rw[bF,bF]at h;have h1:=aW h.1;unfold isUnk;cases e:z.cps.toList with
 |nil=>
  have:z.length=0:=by show z.cps.size=0;rw[<-aZ,e];rfl
  lia
 |cons c r=>
  have hc:=cQ.mp h.2.2 _ (bT (e▸ay));have nc:c≠63:=λz=>by rw[z,OR]at hc;cases hc
  rw[CL (by rw[e];rfl),M6,IL,du.mpr nc,oj]
def Fv(z:Str)(l:Aaf):Jr (.str z) (l.map V.str)=decide (z∈l):=by
 unfold Jr;rw[Bq,fJ,pC];constructor
 ·rintro⟨y,hy,e⟩;rw[iq e]at hy;exact aX hy
 ·intro h;exact{z,aW h,by show(z==z)=true;simp}
def aaM(l:Aaf):(l.map V.str).all rR=true:=by rw[Br];exact cQ.mpr λ_ _=>rfl
def rq(z:Str):Bool:=isVal z||isUnk z
def X8{z:Str}(h:rq z=true):Txt.startswith z "?"=isUnk z:=by
 have h':(isVal z||isUnk z)=true:=h;cases e:isVal z with
 |true=>
  rw[V3 e];cases e1:z.cps.toList with
  |nil=>exact Ky (by rw[e1];rfl)
  |cons c r=>
   unfold isVal at e;rw[bF,bF]at e;have hc:=cQ.mp e.2.2 _ (bT (e1▸ay));have nc:c≠63:=λz=>by rw[z,OR]at hc;cases hc
   rw[CL (by rw[e1];rfl),M6,IL,du.mpr nc]
 |false=>
  rw[e,Bool.false_or]at h';rw[h'];unfold isUnk at h';rw[bF]at h';exact h'.1
def HD{z:Str}(h:rq z=true):∃c,z.cps.toList[0]?=some c:=by
 refine TB λe=>?_;rw[e]at h;have:rq ""=false:=by decide+kernel
 cases h
def HE{z:Str}(h:rq z=true){c:Nat}(hc:z.cps.toList[0]?=some c):decide (V.str ⟨#[c]⟩=V.str "?")=isUnk z:=by rw[<-X8 h,CL hc,fJ];simp
def J5(xs:Aam)(j:Nat):mx xs none (some (j:Int))=xs.take j:=by
 unfold mx;rw[HT.RZ,HT.Fh,List.drop_zero,Bj];by_cases h:j<=xs.length
 ·rw[mO h]
 ·rw[Nat.min_eq_right ∅,bh,eI ∅]
def Be(z:Str):Prop:=rq z=true/\z.length<=100/\PyData.strOk z=true
def Kn(z:Str):Prop:=isVal z=true/\z.length<=100/\PyData.strOk z=true
def X7:(iA.all λz=>rq z&&decide (z.length<=100)&&PyData.strOk z)=true:=by decide+kernel
def Za:(uL.all λz=>isVal z&&decide (z.length<=100)&&PyData.strOk z)=true:=by decide+kernel
def CK{z:Str}(h:z∈iA):Be z:=by have:=cQ.mp X7 z h;rw[bF,bF]at this;exact{this.1.1,aW this.1.2,this.2}
def Zc{z:Str}(h:z∈uL):Kn z:=by have:=cQ.mp Za z h;rw[bF,bF]at this;exact{this.1.1,aW this.1.2,this.2}
def jj{zs:Aaf}{i:Nat}(h:(zs.map V.str)[i]?=some y):∃z,zs[i]?=some z/\y=V.str z:=by
 rw[aI]at h;cases e:zs[i]? with
 |none=>rw[e]at h;cases h
 |some z=>rw[e]at h;exact{z,rfl,(bM h).symm}
def dk(H H':Hp):Prop:=∀b xs,Rd H b (.tup xs)->Rd H' b (.tup xs)
def dk.refl(H:Hp):dk H H:=λ_ _ h=>h
def dk.trans(a:dk H H1)(b:dk H1 H2):dk H H2:=λx xs h=>b x xs (a x xs h)
def dk.same(s:aQ H H'):dk H H':=λb xs h=>by
 rcases h with h|⟨o,h⟩
 ·exact .inl (s _ _ h)
 ·exact .inr {o,s _ _ h}
def jC(H:Hp)(a:Addr):Prop:=∀xs,¬Rd H a (.tup xs)
def dk.upd(h:jC H a):dk H (upd H a o):=λb xs q=>by
 have hb:b≠a:=λe=>h xs (e▸q);rcases q with q|⟨o',q⟩
 ·exact .inl (by rw[aH hb];exact q)
 ·exact .inr {o',by rw[aH hb];exact q}
def Pq(h:H a=some (.ext φ)):jC H a:=λxs q=>by rcases q with q|⟨o,q⟩<;>rw[h]at q<;>cases q
def yw(h:H a=some (.dK l)):jC H a:=λxs q=>by rcases q with q|⟨o,q⟩<;>rw[h]at q<;>cases q
def As(h:H a=some (.ins C dx l)):jC H a:=λxs q=>by rcases q with q|⟨o,q⟩<;>rw[h]at q<;>cases q
def kM(q:bf K H a xs)(t:dk H H'):bf K H' a xs:=by
 rcases q with q|q
 ·exact .inl (t _ _ q)
 ·exact .inr q
mutual
theorem Nl(t:dk H H'):∀(k:NK)(v:V),NV K H k v->NV K H' k v
 | .cb,v,h=>by rw[NV]at h⊢;exact h
 | .key k,v,h=>by rw[NV]at h⊢;exact h
 | .tup ks,v,h=>by rw[NV]at h⊢;obtain⟨a,xs,e,hq,hs⟩:=h;exact{a,xs,e,kM hq t,Pm t ks xs hs}
theorem Pm(t:dk H H'):∀(ks:List NK)(vs:Aam),oZ K H ks vs->oZ K H' ks vs
 |[],vs,h=>by rw[oZ]at h⊢;exact h
 |k::ks,vs,h=>by rw[oZ]at h⊢;obtain⟨x,r,e,h1,h2⟩:=h;exact{x,r,e,Nl t k x h1,Pm t ks r h2}
end
def xw{H H':Hp}{k:NK}{a:Addr}(h:hV K H k a)(t:dk H H'):hV K H' k a:={Nl t _ _ h.1,h.2}
def _root_.L2.fK.tp{H H':Hp}{d:Addr}{kvs:List (NK×Addr×V)}(h:fK P w K H d kvs)(t:dk H H')(e:H' d=H d):fK P w K H' d kvs:={e▸h.1,λp hp=>xw (h.2 p hp) t}
def _root_.L2.fK.some{H:Hp}{d:Addr}{kvs:List (NK×Addr×V)}(h:fK P w K H d kvs):∃u,H d=some u:=by rcases h.1 with h|⟨_,h⟩<;>exact⟨_,h⟩
def _root_.L2.fK.p9{H:Hp}{d:Addr}{kvs:List (NK×Addr×V)}(h:fK P w K H d kvs):jC H d:=by
 rcases h.1 with h|⟨_,h⟩
 ·exact Pq h
 ·exact yw h
def _root_.L2.fK.put{H:Hp}{d b:Addr}{kvs:List (NK×Addr×V)}{k:NK}{v:V}(h:fK P w K H d kvs)(hk:hV K H k b):fK P w K (upd H d (.ext (DN P w d (putN kvs k b v)))) d (putN kvs k b v):=by
 have t:dk H (upd H d (.ext (DN P w d (putN kvs k b v)))):=dk.upd h.p9;refine{.inl ar,λp hp=>?_};rcases Jd hp with⟨q,hq,e1,e2⟩|⟨e1,e2⟩
 ·rw[e1,e2];exact xw (h.2 q hq) t
 ·rw[e1,e2];exact xw hk t
def BF{H:Hp}{p:Addr}(h:H p=Option.some (.dK [])):fK P w K H p []:={.inr ⟨rfl,h⟩,λ_ hp=>by cases hp}
def kf(h:eW K H ys rs)(t:dk H H'):eW K H' ys rs:=h.keep λa xs q=>kM q t
def fH{H H':Hp}{a:Addr}{xs:Aam}(q:bf K H a xs)(s:aQ H H'):bf K H' a xs:=by
 rcases q with(q|⟨o,q⟩)|q
 ·exact .inl (.inl (s _ _ q))
 ·exact .inl (.inr {o,s _ _ q})
 ·exact .inr q
def OF{H H':Hp}{a:Addr}{xs:Aam}(q:br K H a xs)(s:aQ H H'):br K H' a xs:=by
 rcases q with(q|⟨o,q⟩)|q
 ·exact .inl (.inl (s _ _ q))
 ·exact .inl (.inr {o,s _ _ q})
 ·exact .inr q
theorem nW{α β:Type}{R:α->β->Prop}:∀{xs zs:List α}{ys ws:List β},Paired R xs ys->Paired R zs ws->Paired R (xs++zs) (ys++ws)
 |_,_,_,_,.nil,h=>h
 |_,_,_,_,.cons a r,h=>.cons a (nW r h)
def Kx(K:Frag)(H:Hp)(v:V)(a:cH.Atom):Prop:=∃b c,v=.ref b/\bf K H b [.str a.1,.ref c]/\bf K H c (a.2.map V.str)
abbrev ju(K:Frag)(H:Hp):Aam->List cH.Atom->Prop:=Paired (Kx K H)
def Kx.same{H H':Hp}{v:V}{a:cH.Atom}(h:Kx K H v a)(s:aQ H H'):Kx K H' v a:=by obtain⟨b,c,e,h1,h2⟩:=h;exact{b,c,e,fH h1 s,fH h2 s}
def ju.same{H H':Hp}{ys:Aam}{as:List cH.Atom}(h:ju K H ys as)(s:aQ H H'):ju K H' ys as:=by
 induction h with
 |nil=>exact .nil
 |cons h _ ih=>exact .cons (h.same s) ih
structure En where
 nm:Str
 ad:Addr
 ys:Aam
 rows:R1
def kQ(e:En):Key×V:=(Sum.inr e.nm,.ref e.ad)
def ki(r:Aaf):Prop:=1<=r.length/\r.length<=4/\∀z∈r,z∈iA
end
def T9(K:Frag)(H:Hp)(e:En):Prop:=H e.ad=some (.lst e.ys)/\eW K H e.ys e.rows/\(∀r∈e.rows,ki r)/\e.rows.length<=5
def adZ(K:Frag)(H:Hp)(d:Addr)(es:List En):Prop:=H d=some (.dK (es.map kQ))/\(es.map (·.nm)).Nodup/\es.length<=5/\∀e∈es,T9 K H e
section
def Zb(es:List En):(es.map kQ).map (·.1)=(es.map (·.nm)).map (Sum.inr:Str->Key):=by rw[bW,bW];rfl
theorem E7:∀{es:List En},(es.map (·.nm)).Nodup->∀{e:En},e∈es->d7 (es.map kQ) (Sum.inr e.nm)=some (.ref e.ad)
 |[],_,e,h=>by cases h
 |a::r,nd,e,h=>by
  rw[bo,cP]at nd;rcases aF.mp h with rfl|h
  ·exact gE rfl
  ·have ne:¬(kQ a).1=Sum.inr e.nm:=λq=>nd.1 (by
    have:a.nm=e.nm:=by injection q
    rw[this];exact bT h)
   rw[bo,f9 ne];exact E7 nd.2 h
theorem CH:∀{es:List En}{z:Str},z∉es.map (·.nm)->d7 (es.map kQ) (Sum.inr z:Key)=none
 |[],_,_=>rfl
 |a::r,z,h=>by rw[bo,aF]at h;rw[bo,f9 (λq=>h (.inl (by injection q with q;exact q.symm)))];exact CH λq=>h (.inr q)
def fN(es:List En)(z:Str):R1:=match es.find? (λe=>decide (e.nm=z))with
 |some e=>e.rows
 |none=>[]
theorem qY:∀{es:List En},(es.map (·.nm)).Nodup->∀{e:En},e∈es->fN es e.nm=e.rows
 |[],_,e,h=>by cases h
 |a::r,nd,e,h=>by
  rw[bo,cP]at nd;unfold fN;rcases aF.mp h with rfl|h
  ·rw[eJ (p:=λx:En=>decide (x.nm=e.nm)) (aX rfl)]
  ·have ne:¬decide (a.nm=e.nm)=true:=λq=>nd.1 (by
    rw[aW q];exact bT h)
   rw[eK (p:=λx:En=>decide (x.nm=e.nm)) ne];exact qY nd.2 h
variable{P:Program}{w:World}{K:Frag}{mg:Aab}{base:Heap}
structure j8(K:Frag)(H:Hp)(p:Addr)(fs:List En):Prop where
 at_:H p=some (.dK (fs.map kQ))
 nm:(fs.map (·.nm)).Nodup
 en:∀e∈fs,H e.ad=some (.lst e.ys)/\eW K H e.ys e.rows/\e.rows.length<=5/\∀r∈e.rows,ki r
def jF(h:eW K H ys rows)(s:aQ H H'):eW K H' ys rows:=h.keep λa xs q=>by
 rcases q with(q|⟨o,q⟩)|q
 ·exact .inl (.inl (s _ _ q))
 ·exact .inl (.inr {o,s _ _ q})
 ·exact .inr q
def jo(q:bf K H a xs)(s:aQ H H'):bf K H' a xs:=by
 rcases q with(q|⟨o,q⟩)|q
 ·exact .inl (.inl (s _ _ q))
 ·exact .inl (.inr {o,s _ _ q})
 ·exact .inr q
def j8.same(x:j8 K H p fs)(s:aQ H H'):j8 K H' p fs:={s _ _ x.at_,x.nm,λe he=>by obtain⟨h1,h2,h3⟩:=x.en e he;exact{s _ _ h1,jF h2 s,h3}}
def Tt(x:j8 K H p fs)(h0:H l0=some (.lst []))(z:Str):∃q ys,(d7 (fs.map kQ) (Sum.inr z:Key)).getD (.ref l0)=.ref q/\H q=some (.lst ys)/\eW K H ys (fN fs z)/\(fN fs z).length<=5/\∀r∈fN fs z,ki r:=by
 cases q:fs.find? (λe=>decide (e.nm=z))with
 |none=>
  have n:z∉fs.map (·.nm):=λh=>by obtain⟨e,he,rfl⟩:=aJ.mp h;have:=nN.mp q e he;exact this (aX rfl)
  have er:fN fs z=[]:=by unfold fN;rw[q]
  rw[er,CH n];exact{l0,[],rfl,h0,.nil,aR _,λr h=>by cases h}
 |some e=>
  have he:=jD q;have e1:e.nm=z:=aW (List.find?_some (p:=λe:En=>decide (e.nm=z)) q);subst e1;rw[E7 x.nm he,qY x.nm he];obtain⟨h1,h2,h3,h4⟩:=x.en e he;exact{e.ad,e.ys,rfl,h1,h2,h3,h4}
inductive CN(K:Frag)(vs:Aam)(H:Hp)(Q:VK)(_x3:XK):Prop
 |mk (d:Addr) (fs:List En) (z:Str) (_:vs=[.ref d,.str z]) (_:j8 K H d fs) (_:∀(l:Addr)(zs:Aam)(H':Hp),aQ H H'->H l=none->H' l=some (.lst zs)->eW K H' zs (iz (fN fs z))->Q (.ref l) H')
def MZ:cv ["tables","name"] ["tables","name"] (defScope zZ):=iO (by decide+kernel)
def Nj(F:eX K "rows_of" "rows_of" zZ f fd)(T:Txt K mg):cU P w K mg base fm 1 f fd ["tables","name"] (CN K):=by
 refine F.ok MZ (λ_ _ _ _ h=>by cases h;subst_vars;rfl) (λc6 A outer s H vs Q E hr h=>?_);obtain⟨d,fs,z,rfl,hT,k⟩:=h;refine{_,(aT (b8 (bP (FH hr.hd) rfl T.rn (by decide+kernel) (b5 (da (Rl hr.hd hr.units) rfl T.Nn (by decide+kernel) (b5 (C8 (qh hr) (pv 0) (pv 1) (fq gZ) abD))))))),?_};refine{_,rfl,d,rfl,.inl {_,.inl hT.at_},_,rfl,(by show 0<=sizeLine;decide),λl0 jO=>?_};have F7:aQ H (upd H l0 (.lst [])):=aC jO _;have h0:upd H l0 (.lst []) l0=some (.lst []):=ar;generalize (upd H l0 (.lst []))=H0 at F7 h0⊢;obtain⟨q,ys,eq,hq,hR,hlr,hg⟩:=Tt (hT.same F7) h0 z;refine{_,oK.k (k:=Sum.inr z) (F7 _ _ hT.at_),?_};rw[eq];refine{q,ys,fN fs z,rfl,br.of hq,hR,by lia,λa us ha0 nu mu lu Eo=>?_};have OP:aQ H0 (upd H0 a (.ext (yQ P w a us))):=aC ha0 _;refine{a,us,ys,rfl,ar,λx hx=>{jo (Eo x hx).1 OP,(Eo x hx).2},λ_ x hx=>?_,by lia,λl zs hl Me _=>?_}
 ·have:=hg x.1 ((mu x.1).mp (bT hx));intro q;have:=this.1;rw[q]at this;cases this
 ·replace hl:upd H0 a (.ext (yQ P w a us)) l=none:=hl
  have B7:aQ (upd H0 a (.ext (yQ P w a us))) (upd (upd H0 a (.ext (yQ P w a us))) l (.lst zs)):=aC hl _;rw[RH nu mu]at Me;refine k l zs _ (F7.trans (OP.trans B7)) ?_ ar (jF Me B7);cases q:H l with
  |none=>rfl
  |some o=>
   rw[OP _ _ (F7 _ _ q)]at hl;cases hl
structure Ds(P:Program)(w:World)(K:Frag)(mg:Aab)(base:Heap):Prop where
 rows_of:cR P w K mg base 1 "rows_of" ["tables","name"] (CN K)
def Found(K:Frag)(H H':Hp)(p:Addr)(es fs:List En):Prop:=H' p=some (.dK (fs.map kQ))/\H p=none/\fs.map (·.nm)=(jA (es.map (·.nm))).filter (λz=>!(fN es z).isEmpty)/\(fs.map (·.ad)).Nodup/\
 ∀e∈fs,H e.ad=none/\e.ad≠p/\H' e.ad=some (.lst e.ys)/\eW K H' e.ys e.rows/\e.rows=iz (fN es e.nm)
inductive HP(K:Frag)(vs:Aam)(H:Hp)(Q:VK)(_x3:XK):Prop
 |mk (d:Addr) (es:List En) (_:vs=[.ref d]) (_:j8 K H d es) (_:es.length<=5) (_:∀(p:Addr)(fs:List En)(H':Hp),aQ H H'->Found K H H' p es fs->Q (.ref p) H')
def lE:cv ["tables","told","name","rows"] ["tables"] (defScope pW):=iO (by decide+kernel)
def B6(rows:R1):(iz rows).isEmpty=rows.isEmpty:=by
 cases rows with
 |nil=>
  cases h:iz []with
  |nil=>rfl
  |cons b r=>
   have:b∈iz []:=h▸ay;cases(ku b []).mp this
 |cons a r=>
  have:a∈iz (a::r):=(ku a _).mpr ay;cases h:iz (a::r)with
  |nil=>rw[h]at this;cases this
  |cons _ _=>rfl
def Dc{f:Addr}{fd:FuncData}(F:eX K "sorted_tables" "sorted_tables" pW f fd)(T:Txt K mg)(D:Ds P w K mg base):cU P w K mg base fm 2 f fd ["tables"] (HP K):=by
 refine F.ok lE (λ_ _ _ _ h=>by cases h;subst_vars;rfl) (λc6 A outer s H vs Q E hr h=>?_);obtain⟨d,es,rfl,hT,hl,k⟩:=h;have hu:=qh hr;refine{_,(aK (d8 1 lE kD) (aK (fR bO rfl (fX (bP (Kf hr.hd) rfl T.rn (by decide+kernel) (b5 (pv 0)))) (iZ 2 lE) (aK (d8 3 lE (cl D.rows_of hr (cD (pv 0) (pv 2)))) (aT (fh (Iq (pv 3) (λ_=>rfl)) (aT (xl hu (pv 1) (pv 2) (pv 3) rfl)) dh)))) (aT (b8 (pv 1))))),?_}
 have hd:=hT.at_;have hn:=hT.nm;intro p hp;have F7:aQ H (upd H p (.dK [])):=aC hp _;have zf:upd H p (.dK []) p=some (.dK []):=ar;refine{_,rfl,d,es.map kQ,es.map (·.nm),rfl,F7 _ _ hd,Zb es,by rw[ak];lia,λl jO=>?_};have ndp:d≠p:=bc hd hp;have Zd:p≠l:=bc zf jO;have OP:aQ H (upd (upd H p (.dK [])) l (.lst ((jA (es.map (·.nm))).map V.str))):=F7.trans (aC jO _);have Mg:H l=none:=by rw[aH Zd.symm]at jO;exact jO
 have ps:=tR (es.map (·.nm));have nds:(jA (es.map (·.nm))).Nodup:=ps.nodup_iff.mpr hn;refine{l,rfl,{_,br.of ar},Dl (K:=K) (a:=l) (xs:=(jA (es.map (·.nm))).map V.str)
  (λi Z H2=>∃(x2 x3:Aan)(fs:List En),Z=[some (.ref d),some (.ref p),x2,x3]/\aQ H H2/\H2 l=some (.lst ((jA (es.map (·.nm))).map V.str))/\H2 p=some (.dK (fs.map kQ))/\fs.map (·.nm)=((jA (es.map (·.nm))).take i).filter (λz=>!(fN es z).isEmpty)/\(fs.map (·.ad)).Nodup/\
   ∀e∈fs,H e.ad=none/\e.ad≠p/\H2 e.ad=some (.lst e.ys)/\eW K H2 e.ys e.rows/\e.rows=iz (fN es e.nm)) ?_ ?_ ?_ ?_}
 ·refine{none,none,[],rfl,OP,ar,?_,rfl,jL,λe h=>by cases h};rw[aH Zd];exact zf
 ·rintro i Z H2 hi ⟨x2,x3,fs,rfl,B7,ip,_⟩;exact br.of ip
 ·rintro i x Z H2 hx ⟨x2,x3,fs,rfl,B7,ip,lW,xF,UM,Cv⟩;obtain⟨z,hz,rfl⟩:=bb.mp (by rw[<-aI];exact hx);have zm:z∈es.map (·.nm):=ps.mem_iff.mp (aE hz);obtain⟨e,he,rfl⟩:=aJ.mp zm;have er:=qY hn he;refine{_,rfl,_,rfl,d,es,e.nm,rfl,hT.same B7,λl3 zs H3 kX tu aax hr3=>?_};rw[er]at hr3;have kS:=kX _ _ lW;have keep:∀e∈fs,H e.ad=none/\e.ad≠p/\H3 e.ad=some (.lst e.ys)/\eW K H3 e.ys e.rows/\e.rows=iz (fN es e.nm):=λe' h'=>by obtain⟨q1,q2,q3,q4,q5⟩:=Cv e' h';exact{q1,q2,kX _ _ q3,jF q4 kX,q5}
  have ft:=KR (g:=λz=>!(fN es z).isEmpty) hz;have lz:zs.isEmpty=(fN es e.nm).isEmpty:=by rw[er,<-B6];have:=hr3.length;cases zs<;>cases h:iz e.rows<;>simp_all
  refine{_,rfl,!zs.isEmpty,.inl {zs,br.of aax,rfl},?_};rw[lz];refine eZ (λc=>?_) (λc=>?_)
  ·have l3n:H l3=none:=by
    cases q:H l3 with
    |none=>rfl
    |some o=>
     rw[B7 _ _ q]at tu;cases tu
   have n3p:l3≠p:=λq=>by rw[q,lW]at tu;cases tu
   have n3l:l≠l3:=bc ip tu;have nm:e.nm∉fs.map (·.nm):=λq=>by
    rw[xF]at q;have:=(bS.mp q).1;obtain⟨j,hj⟩:=dQ.mp this;rw[List.getElem?_take]at hj;split at hj
    next lt=>
     have li:i<(jA (es.map (·.nm))).length:=(aw.mp hz).1;have:=(List.getElem?_inj li nds).mp (hz.trans hj.symm);lia
    next=>cases hj
   have ek:putK (fs.map kQ) (Sum.inr e.nm) (V.ref l3)=(fs++[En.mk e.nm l3 zs (iz e.rows)]).map kQ:=by rw[yl _ (CH nm),aN];rfl
   have lfs:fs.length<=1000:=by
    have h1:fs.length=(fs.map (·.nm)).length:=(ak _).symm;rw[xF]at h1;have h2:=cM (λz=>!(fN es z).isEmpty) ((jA (es.map (·.nm))).take i);have h3:((jA (es.map (·.nm))).take i).length<=(jA (es.map (·.nm))).length:=by rw[aU];exact Nat.min_le_right _ _
    have h4:(jA (es.map (·.nm))).length=es.length:=by rw[ps.length_eq,ak]
    lia
   refine{_,rfl,_,rfl,_,rfl,p,_,rfl,.inl {_,Sum.inr e.nm,kS,rfl,by rw[ak];exact bN lfs,rfl},?_};rw[ek];have OO:aQ H (upd H3 p (.dK ((fs++[En.mk e.nm l3 zs (iz e.rows)]).map kQ))):=λb u q=>by rw[aH (bc q hp)];exact kX _ _ (B7 _ _ q)
   have tk:∀{ys:Aam}{rows:R1},eW K H3 ys rows->eW K (upd H3 p (.dK ((fs++[En.mk e.nm l3 zs (iz e.rows)]).map kQ))) ys rows:=λh=>kf h (dk.upd (yw kS));refine{_,_,fs++[En.mk e.nm l3 zs (iz e.rows)],rfl,OO,?_,ar,?_,?_,λe' h'=>?_}
   ·rw[aH Zd.symm];exact kX _ _ ip
   ·rw[aN,xF,ft,aA c];rfl
   ·rw[aN];refine fE.mpr {UM,by simp,λa ha b hb=>?_};rw[iT,au]at hb;obtain⟨e',h',rfl⟩:=aJ.mp ha;rw[hb];intro q;have:=(Cv e' h').2.2.1;rw[q]at this;rw[this]at tu;cases tu
   ·rcases aY.mp h' with h'|h'
    ·obtain⟨q1,q2,q3,q4,q5⟩:=keep e' h';exact{q1,q2,by rw[aH q2];exact q3,tk q4,q5}
    ·rw[au.mp h'];exact{l3n,n3p,by rw[aH n3p];exact aax,tk hr3,by rw[er]}
  ·refine{_,_,fs,rfl,B7.trans kX,kX _ _ ip,kS,?_,UM,keep};rw[ft,ax c,cJ];exact xF
 ·rintro Z H2 ⟨x2,x3,fs,rfl,B7,ip,lW,xF,UM,Cv⟩;rw[ak,bh]at xF;exact{_,rfl,k p fs H2 B7 ⟨lW,hp,xF,UM,Cv⟩}
structure Ds2(P:Program)(w:World)(K:Frag)(mg:Aab)(base:Heap):Prop extends Ds P w K mg base where
 sorted_tables:cR P w K mg base 2 "sorted_tables" ["tables"] (HP K)
def dF(rws:R0)(z:Str):R1:=(rws.filter λa=>decide (a.1=z)).map (·.2)
structure Under(K:Frag)(H0 H:Hp)(d:Addr)(es:List En)(rws:R0):Prop where
 tb:adZ K H d es
 d0:H0 d=none
 ad:(es.map (·.ad)).Nodup
 own:∀e∈es,H0 e.ad=none/\e.ad≠d
 rows:∀e∈es,e.rows=dF rws e.nm
 all:∀a∈rws,a.1∈es.map (·.nm)
 ne:∀e∈es,e.rows≠[]
 le:es.length<=rws.length
structure Told(K:Frag)(H H':Hp)(p:Addr)(rws:R0)(fs:List En):Prop where
 at_:H' p=some (.dK (fs.map kQ))
 p0:H p=none
 nm:(fs.map (·.nm)).Nodup
 ad:(fs.map (·.ad)).Nodup
 en:∀e∈fs,H e.ad=none/\e.ad≠p/\H' e.ad=some (.lst e.ys)/\eW K H' e.ys e.rows/\e.rows=iz (dF rws e.nm)/\e.rows≠[]
 all:∀a∈rws,a.1∈fs.map (·.nm)
 sub:∀e∈fs,∃a∈rws,a.1=e.nm
 len:fs.length<=5
inductive HN(K:Frag)(vs:Aam)(H:Hp)(Q:VK)(_x3:XK):Prop
 |mk (l:Addr) (ys:Aam) (rws:R0) (_:vs=[.ref l]) (_:bf K H l ys) (_:ju K H ys rws) (_:rws.length<=5) (_:(∀a∈rws,ki a.2)) (_:∀p fs H',aQ H H'->Told K H H' p rws fs->Q (.ref p) H')
def pS:cv ["atoms","tables","name","row"] ["atoms"] (defScope wz):=iO (by decide+kernel)
def yj{rws:R0}{z:Str}:(dF rws z).length<=rws.length:=by unfold dF;rw[ak];exact cM _ _
def wD{rws:R0}{a:Str×Aaf}{z:Str}:dF (rws++[a]) z=dF rws z++if a.1=z then[a.2]else[]:=by
 unfold dF;rw[gN,aN,iI,List.filter_nil];by_cases h:a.1=z
 ·rw[aA (aX h),aA h];rfl
 ·rw[ax (λq=>h (aW q)),ax h];rfl
def iK{rws:R0}{z:Str}{r:Aaf}:r∈dF rws z↔(z,r)∈rws:=by
 unfold dF;rw[aJ];constructor
 ·rintro⟨a,ha,rfl⟩;obtain⟨h1,h2⟩:=bS.mp ha;rw[<-aW h2];exact h1
 ·intro h;exact{_,bS.mpr {h,aX rfl},rfl}
def kr(h:H a=some (.lst l)):jC H a:=λxs q=>by rcases q with q|⟨o,q⟩<;>rw[h]at q<;>cases q
theorem Hs:∀{es:List En}{z:Str}{v:V},d7 (es.map kQ) (Sum.inr z:Key)=some v->∃e∈es,e.nm=z/\v=.ref e.ad
 |[],_,_,h=>by cases h
 |e::r,z,v,h=>by
  by_cases c:e.nm=z
  ·rw[bo,gE (show(kQ e).1=Sum.inr z by rw[<-c];rfl)]at h;exact{e,ay,c,(bM h).symm}
  ·rw[bo,f9 (λq=>c (by injection q))]at h;obtain⟨e',h1,h2⟩:=Hs h;exact{e',az _ h1,h2}
theorem Fu{α β:Type}{f:α->β}:∀{l:List α},(l.map f).Nodup->∀{x y:α},x∈l->y∈l->f x=f y->x=y
 |[],_,x,_,h,_,_=>by cases h
 |a::l,nd,x,y,hx,hy,e=>by
  rw[bo,cP]at nd;rcases aF.mp hx with h1|h1
  ·rcases aF.mp hy with h2|h2
   ·rw[h1,h2]
   ·exact absurd (by rw[<-h1,e];exact bT h2) nd.1
  ·rcases aF.mp hy with h2|h2
   ·exact absurd (by rw[<-h2,<-e];exact bT h1) nd.1
   ·exact Fu nd.2 h1 h2 e
def aa0{es:List En}(nd:(es.map (·.ad)).Nodup){x y:En}(hx:x∈es)(hy:y∈es)(e:x.ad=y.ad):x=y:=Fu nd hx hy e
def aaR{es:List En}(nd:(es.map (·.nm)).Nodup){x y:En}(hx:x∈es)(hy:y∈es)(e:x.nm=y.nm):x=y:=Fu nd hx hy e
def IP{f:Addr}{fd:FuncData}(F:eX K "tables_of" "tables_of" wz f fd)(T:Txt K mg)(D:Ds2 P w K mg base):cU P w K mg base fm 3 f fd ["atoms"] (HN K):=by
 refine F.ok pS (λ_ _ _ _ h=>by cases h;subst_vars;rfl) (λc6 A outer s H vs Q E hr h=>?_);obtain⟨l,ys,rws,rfl,hl,ng,lr,gr,k⟩:=h;have hu:=qh hr;refine{_,(aK (d8 1 pS kD) (aK (fR bO rfl (oQ (pv 0)) (ko rfl (cT (iZ 2 pS) (cT (iZ 3 pS) iY))) (aT (iW (lG b9 dJ dH k7 (lG dZ iH rG Py (pv 1) (cD (pv 2) (fq gZ))) (b5 (pv 3)))))) (aT (b8 (cl D.sorted_tables hr (b5 (pv 1))))))),?_}
 have UP:ys.length=rws.length:=a9 ng
 refineλd hd=>?_
 have s1:aQ H (upd H d (.dK [])):=aC hd _;have hd1:upd H d (.dK []) d=some (.dK []):=ar;generalize (upd H d (.dK []))=H1 at s1 hd1⊢;refine{_,rfl,l,rfl,{_,fH hl s1},xJ (K:=K) (a:=l) (xs:=ys) (λi Z H2=>∃(x2 x3:Aan)(es:List En),Z=[some (.ref l),some (.ref d),x2,x3]/\i<=rws.length/\aQ H H2/\Under K H H2 d es (rws.take i))
  {_,_,[],rfl,aR _,s1,{hd1,jL,aR _,λe h=>by cases h},hd,jL,λe h=>(by cases h),λe h=>(by cases h),λa h=>(by simp at h),λe h=>(by cases h),aR _} ?_ ?_ ?_}
 ·rintro i Z H2 hi ⟨_,_,_,rfl,_,s2,_⟩;exact fH hl s2
 ·rintro i x Z H2 hx ⟨_,_,es,rfl,hi,s2,un⟩;obtain⟨a,ha,U4⟩:=Paired.at' ng hx;have cw:i<rws.length:=(aw.mp ha).1;obtain⟨ab,ac,rfl,QL,hac⟩:=U4.same s2;refine{ab,_,rfl,QL,rfl,_,_,rfl,_,_,rfl,rfl,?_};obtain⟨QD,Ve,hlE,Vc⟩:=id un.tb;have ga:=gr a (aE ha);have e1:rws.take (i+1)=rws.take i++[a]:=by rw[bg,ha];rfl
  have ltk:(rws.take i).length<=5:=by rw[aU];lia
  have UQ:(rws.take i).length=i:=by rw[aU];lia
  refine{_,rfl,.inr (.inr (.inl {rfl,.inl ⟨_,QD⟩})),_,rfl,(by show 0<=sizeLine;decide),λl0 jO=>?_};have s3:aQ H2 (upd H2 l0 (.lst [])):=aC jO _;have tu:upd H2 l0 (.lst []) l0=some (.lst []):=ar;generalize (upd H2 l0 (.lst []))=H3 at s3 tu⊢;have pG:=s2.trans s3;have l00:H l0=none:=by
   cases q:H l0 with
   |none=>rfl
   |some u=>rw[s2 _ _ q]at jO;cases jO
  have VE:l0≠d:=λq=>by rw[q,QD]at jO;cases jO
  have lek:(es.map kQ).length<sizeLine:=by rw[ak,bU];lia
  refine{d,Sum.inr a.1,.ref l0,es.map kQ,rfl,rfl,s3 _ _ QD,lek,λv hv=>?_,λhv=>?_}
  ·obtain⟨e,he,hen,rfl⟩:=Hs hv;obtain⟨hea,heR,heg,Vl⟩:=Vc e he;have Tp:=s3 _ _ hea;have lye:e.ys.length=e.rows.length:=a9 heR;refine{.inl {rfl,_,br.of Tp},_,rfl,e.ad,e.ys,_,rfl,rfl,Tp,by rw[bU];lia,?_}
   let up:En->En:=λe'=>if e'.nm=a.1 then{e'.nm,e'.ad,e'.ys++[.ref ac],e'.rows++[a.2]}else e'
   have u1:∀e',(up e').nm=e'.nm:=λe'=>by show(if _ then _ else _:En).nm=_;split<;>rfl
   have u2:∀e',(up e').ad=e'.ad:=λe'=>by show(if _ then _ else _:En).ad=_;split<;>rfl
   have m1:(es.map up).map (·.nm)=es.map (·.nm):=by rw[bW];exact bC λe' _=>u1 e'
   have m2:(es.map up).map (·.ad)=es.map (·.ad):=by rw[bW];exact bC λe' _=>u2 e'
   have m3:(es.map up).map kQ=es.map kQ:=by rw[bW];refine bC λe' _=>?_;show((Sum.inr (up e').nm:Key),V.ref (up e').ad)=_;rw[u1,u2];rfl
   have ne:∀e'∈es,e'.nm≠a.1->e'.ad≠e.ad:=λe' h' n q=>n (by rw[aa0 un.ad h' he q];exact hen);have t4:dk H3 (upd H3 e.ad (.lst (e.ys++[.ref ac]))):=dk.upd (kr Tp);refine{_,_,es.map up,rfl,cw,λb u q=>?_,{?_,?_,?_,λe' h'=>?_},un.d0,by rw[m2];exact un.ad,λe' h'=>?_,λe' h'=>?_,λb hb=>?_,λe' h'=>?_,?_}
   ·rw[aH (bc q (un.own e he).1)];exact pG _ _ q
   ·rw[m3,aH (bY (un.own e he).2)];exact s3 _ _ QD
   ·rw[m1];exact Ve
   ·rw[ak];exact hlE
   ·obtain⟨e0,h0,rfl⟩:=aJ.mp h';obtain⟨q1,q2,q3,q4⟩:=Vc e0 h0;by_cases c:e0.nm=a.1
    ·have:e0=e:=aaR Ve h0 he (c.trans hen.symm);subst this;show T9 K _ (if e0.nm=a.1 then _ else _);rw[aA c];refine{ar,nW (kf heR ((dk.same s3).trans t4)) (.cons {ac,rfl,kM hac ((dk.same s3).trans t4)} .nil),λr hr=>?_,?_}
     ·rcases aY.mp hr with hr|hr
      ·exact heg r hr
      ·rw[au.mp hr];exact ga
     ·have:=yj (rws:=rws.take i++[a]) (z:=e0.nm);rw[wD,aA c.symm,<-un.rows e0 h0,aM,aM,UQ]at this;show(e0.rows++[a.2]).length<=5;rw[aM];simp only[cV]at this⊢;lia
    ·show T9 K _ (if e0.nm=a.1 then _ else _);rw[ax c];exact{by rw[aH (ne e0 h0 c)];exact s3 _ _ q1,kf q2 ((dk.same s3).trans t4),q3,q4}
   ·obtain⟨e0,h0,rfl⟩:=aJ.mp h';rw[u2];exact un.own e0 h0
   ·obtain⟨e0,h0,rfl⟩:=aJ.mp h';rw[u1,e1,wD,<-un.rows e0 h0];show(if e0.nm=a.1 then _ else _:En).rows=_;by_cases c:e0.nm=a.1
    ·rw[aA c,aA c.symm]
    ·rw[ax c,ax (λq=>c q.symm),cJ]
   ·rw[m1];rw[e1]at hb;rcases aY.mp hb with hb|hb
    ·exact un.all b hb
    ·rw[au.mp hb,<-hen];exact bT he
   ·obtain⟨e0,h0,rfl⟩:=aJ.mp h';show(if e0.nm=a.1 then _ else _:En).rows≠[];by_cases c:e0.nm=a.1
    ·rw[aA c];simp
    ·rw[ax c];exact un.ne e0 h0
   ·have:=un.le;rw[UQ]at this;rw[ak,e1,aM,UQ];lia
  ·have nn:a.1∉es.map (·.nm):=λq=>by obtain⟨e,he,q⟩:=aJ.mp q;rw[<-q,E7 Ve he]at hv;cases hv
   rw[yl _ hv];have t4:dk H3 (upd H3 d (.dK (es.map kQ++[(Sum.inr a.1,.ref l0)]))):=dk.upd (yw (s3 _ _ QD));have mI:upd H3 d (.dK (es.map kQ++[(Sum.inr a.1,.ref l0)])) l0=some (.lst []):=by rw[aH VE];exact tu
   have QE:upd H3 d (.dK (es.map kQ++[(Sum.inr a.1,.ref l0)])) d=some (.dK (es.map kQ++[(Sum.inr a.1,.ref l0)])):=ar;have o4:∀b u,b≠d->H3 b=some u->upd H3 d (.dK (es.map kQ++[(Sum.inr a.1,.ref l0)])) b=some u:=λb u n q=>by rw[aH n];exact q
   generalize (upd H3 d (.dK (es.map kQ++[(Sum.inr a.1,.ref l0)])))=H4 at t4 mI QE o4⊢;refine{.inl {rfl,_,br.of mI},_,rfl,l0,[],_,rfl,rfl,mI,by decide,?_};have t5:dk H4 (upd H4 l0 (.lst ([]++[.ref ac]))):=dk.upd (kr mI);have t35:=(dk.same s3).trans (t4.trans t5);have nl:∀e'∈es,e'.ad≠l0:=λe' h' q=>by have:=(Vc e' h').1;rw[q,jO]at this;cases this
   refine{_,_,es++[{a.1,l0,[.ref ac],[a.2]}],rfl,cw,λb u q=>?_,{?_,?_,?_,λe' h'=>?_},un.d0,?_,λe' h'=>?_,λe' h'=>?_,λb hb=>?_,λe' h'=>?_,?_}
   ·rw[aH (bc q l00)];exact o4 _ _ (bc q un.d0) (pG _ _ q)
   ·rw[aH (bY VE),aN];exact QE
   ·rw[aN];exact fE.mpr {Ve,by simp,λx hx y hy q=>nn (by rw[iT,au]at hy;rw[<-show y=a.1 from hy,<-q];exact hx)}
   ·have:=un.le;rw[aM,cV];lia
   ·rcases aY.mp h' with h'|h'
    ·obtain⟨q1,q2,q3,q4⟩:=Vc e' h';exact{by rw[aH (nl e' h')];exact o4 _ _ (un.own e' h').2 (s3 _ _ q1),kf q2 t35,q3,q4}
    ·rw[au.mp h'];refine{ar,.cons {ac,rfl,kM hac t35} .nil,λr hr=>?_,by show 1<=5;decide};rw[au.mp hr];exact ga
   ·rw[aN];exact fE.mpr {un.ad,by simp,λx hx y hy q=>by rw[iT,au]at hy;obtain⟨e',h',rfl⟩:=aJ.mp hx;exact nl e' h' (q.trans hy)}
   ·rcases aY.mp h' with h'|h'
    ·exact un.own e' h'
    ·rw[au.mp h'];exact⟨l00,VE⟩
   ·rw[e1,wD];rcases aY.mp h' with h'|h'
    ·rw[ax (λq=>nn (by rw[q];exact bT h')),cJ];exact un.rows e' h'
    ·rw[au.mp h'];show[a.2]=dF (rws.take i) a.1++if a.1=a.1 then[a.2]else[];rw[aA rfl];have:dF (rws.take i) a.1=[]:=by
      cases q:dF (rws.take i) a.1 with
      |nil=>rfl
      |cons r t=>
       have hr:r∈dF (rws.take i) a.1:=by rw[q];exact ay
       exact absurd (un.all _ (iK.mp hr)) nn
     rw[this,mQ]
   ·rw[aN];rw[e1]at hb;rcases aY.mp hb with hb|hb
    ·exact hJ _ (un.all b hb)
    ·rw[au.mp hb];exact bZ _ ay
   ·rcases aY.mp h' with h'|h'
    ·exact un.ne e' h'
    ·rw[au.mp h'];simp
   ·have:=un.le;rw[e1,aM,aM,cV,cV];lia
 ·rintro Z H2 ⟨_,_,es,rfl,_,s2,un⟩;rw[UP,bh]at un;have uln:=un.le;refine{_,rfl,d,es,rfl,{un.tb.1,un.tb.2.1,λe he=>let⟨q1,q2,q3,q4⟩:=un.tb.2.2.2 e he;⟨q1,q2,q4,q3⟩},by lia,λp fs H3 s3 fo=>?_};obtain⟨f1,f2,f3,f4,f5⟩:=fo;have hn:=un.tb.2.1;have ps:=tR (es.map (·.nm));have ne:∀z∈es.map (·.nm),(fN es z).isEmpty=false:=λz hz=>by
   obtain⟨e,he,rfl⟩:=aJ.mp hz;rw[qY hn he];have:=un.ne e he;cases q:e.rows with
   |nil=>exact absurd q this
   |cons _ _=>rfl
  have adM:(jA (es.map (·.nm))).filter (λz=>!(fN es z).isEmpty)=jA (es.map (·.nm)):=List.filter_eq_self.mpr λz hz=>by rw[ne z (ps.mem_iff.mp hz)];rfl
  rw[adM]at f3;have z0:∀b,H2 b=none->H b=none:=λb q=>by
   cases e:H b with
   |none=>rfl
   |some u=>rw[s2 _ _ e]at q;cases q
  refine k p fs H3 (s2.trans s3) {f1,z0 p f2,by rw[f3];exact ps.nodup_iff.mpr hn,f4,λe he=>?_,λa ha=>?_,λe he=>?_,?_}
  ·obtain⟨g1,g2,g3,g4,g5⟩:=f5 e he;have hm:e.nm∈es.map (·.nm):=by rw[<-ps.mem_iff,<-f3];exact bT he
   obtain⟨e',Mm,q⟩:=aJ.mp hm;have er:fN es e.nm=dF rws e.nm:=by rw[<-q,qY hn Mm,un.rows e' Mm]
   refine{z0 _ g1,g2,g3,g4,by rw[g5,er],λq2=>?_};have h1:=ne e.nm hm;rw[<-B6,<-g5,q2]at h1;cases h1
  ·rw[f3,ps.mem_iff];exact un.all a ha
  ·have hm:e.nm∈es.map (·.nm):=by rw[<-ps.mem_iff,<-f3];exact bT he
   obtain⟨e',Mm,q⟩:=aJ.mp hm;have:=un.ne e' Mm;rw[un.rows e' Mm]at this;cases q2:dF rws e'.nm with
   |nil=>exact absurd q2 this
   |cons r t=>
    have hr:r∈dF rws e'.nm:=by rw[q2];exact ay
    exact{_,iK.mp hr,q}
  ·have h1:fs.length=(fs.map (·.nm)).length:=(ak _).symm;rw[f3,ps.length_eq,ak]at h1;have:=un.le;lia
def GoodG(ats:R0):Prop:=∀a∈ats,a.2.length<=4/\∀z∈a.2,z.length<=1000
inductive OG(vs:Aam)(H:Hp)(Q:VK)(_x3:XK):Prop
 |mk (v:V) (hz:Aaf) (ats:R0) (_:vs=[v]) (_:wg H v hz ats) (_:GoodG ats) (_:ats.length<=100) (_:∀(r:Addr)(H':Hp),aQ H H'->H r=none->H' r=some (.lst ((eP (cZ ats)).map V.str))->Q (.ref r) H')
def PD(h:z∈acc):z∈step acc t:=by
 unfold step;split
 ·split
  ·exact h
  ·exact hJ _ h
 ·exact h
def PB(h:isUnk z=true):z∈step acc z:=by
 unfold step;rw[aA h];split
 ·assumption
 ·exact bZ _ (au.mpr rfl)
theorem Gs:∀{fl acc:Aaf},z∈acc\/(isUnk z=true/\z∈fl)->z∈fl.foldl step acc
 |[],acc,h=>by
  rcases h with h|⟨_,h⟩
  ·exact h
  ·cases h
 |t::r,acc,h=>by
  rw[mR];refine Gs ?_;rcases h with h|⟨hu,h⟩
  ·exact .inl (PD h)
  ·rcases aF.mp h with e|h
   ·subst e;exact .inl (PB hu)
   ·exact .inr ⟨hu,h⟩
def WY(hu:isUnk z=true)(h:z∈fl):z∈eP fl:=Gs (.inr ⟨hu,h⟩)
def GL(acc:Aaf):(acc.map V.str).all rR=true:=by rw[Br];exact cQ.mpr λ_ _=>rfl
theorem ug:∀{fl acc:Aaf},z∈fl.foldl step acc->z∈acc\/z∈fl
 |[],acc,h=>.inl h
 |t::r,acc,h=>by
  rw[mR]at h;rcases ug h with h|h
  ·unfold step at h;split at h
   ·split at h
    ·exact .inl h
    ·rcases aY.mp h with h|h
     ·exact .inl h
     ·exact .inr (aF.mpr (.inl (au.mp h)))
   ·exact .inl h
  ·exact .inr (az _ h)
end
structure Dv2(P:Program)(w:World)(K:Frag)(mg:Aab)(base:Heap):Prop extends Dv P w K mg base where
 is_unknown:cR P w K mg base 2 "is_unknown" ["thing"] Uv
section
variable{P:Program}{w:World}{K:Frag}{mg:Aab}{base:Heap}
def nU:cv ["question","found","atom","term"] ["question"] (defScope sO):=iO (by decide+kernel)
def Fp(F:eX K "unknowns_of" "unknowns_of" sO f fd)(T:Txt K mg)(D:Dv2 P w K mg base):cU P w K mg base fm 3 f fd ["question"] OG:=by
 refine F.ok nU (λ_ _ _ _ h=>by cases h;subst_vars;rfl) (λc6 A outer s H vs Q E hr h=>?_);obtain⟨v,hz0,ats,rfl,⟨q,hd,aa,ir,rfl,hq,GI,xH,ix⟩,good,hlen,k⟩:=h;refine{_,(aK (d8 1 nU kD) (aK (fR bO rfl (oQ (cB eU (pv 0) aS (λ_ _=>rfl))) (iZ 2 nU) (aT (fR bO rfl (oQ (cB eU (pv 2) aS (λ_ _=>rfl))) (iZ 3 nU) (aT (fh (oP (cl D.is_unknown hr (b5 (pv 3)))) (aT (xl (qh hr) (pv 1) (pv 3) yo rfl)) dh))))) (aT (b8 (da (FI rfl) rfl T.rY (by decide+kernel) (b5 (pv 1))))))),?_}
 intro d gH;refine{_,rfl,_,_,_,_,rfl,rfl,bf.of (aC gH _ _ _ hq),rfl,aa,rfl,{ir,bf.of (aC gH _ _ _ xH)},xJ
  (λi Z H2=>∃(x2 x3:Aan),Z=[some (.ref q),some (.ref d),x2,x3]/\aQ H H2/\H2 d=some (.dK (qe (eP (cZ (ats.take i)))))) {none,none,rfl,aC gH _,ar} (λi Z H2 _ hq=>by(obtain⟨_,_,_,sm,_⟩:=hq;exact bf.of (sm _ _ xH))) ?_ ?_}
 ·rintro i x Z H2 hx ⟨x2,x3,rfl,sm,hd2⟩;obtain⟨ta,ht,p,t,rfl,hp,sZ⟩:=Paired.at ix hx;have g:=good ta (aE ht);have hi:=(aw.mp ht).1;have lf:=Bz (ats.take i) λa ha=>(good a (eE ha)).1;have UQ:(ats.take i).length<=i:=by rw[aU];lia
  refine{_,rfl,_,_,_,_,rfl,rfl,bf.of (sm _ _ hp),rfl,t,rfl,{_,bf.of (sm _ _ sZ)},xJ
   (λj Z H3=>∃(x3:Aan),Z=[some (.ref q),some (.ref d),some (.ref p),x3]/\aQ H H3/\H3 d=some (.dK (qe (eP (cZ (ats.take i)++ta.2.take j))))) {x3,rfl,sm,by rw[rJ,cJ];exact hd2} (λj Z H3 _ hq=>by(obtain⟨_,_,Yv,_⟩:=hq;exact bf.of (Yv _ _ sZ))) ?_ ?_}
  ·rintro j y Z H3 hy ⟨x3,rfl,kX,v8⟩;obtain⟨z,hz,rfl⟩:=jj hy;have Qe:=g.2 z (aE hz);refine{_,rfl,z,rfl,by lia,λH4 OO=>{_,rfl,?_}};have QE:=OO _ _ v8;have en:eP (cZ (ats.take i)++ta.2.take (j+1))=step (eP (cZ (ats.take i)++ta.2.take j)) z:=by rw[bg,hz,<-Hw,jx];rfl
   have lu:=xr (cZ (ats.take i)++ta.2.take j);rw[aM,aU]at lu;refine eZ (λc1=>?_) (λc1=>?_)
   ·refine{_,rfl,_,rfl,d,_,rfl,yY.k (k:=Sum.inr z) QE (by unfold qe;rw[ak];exact bN ∅),?_};refine{_,rfl,λb u e=>?_,?_}
    ·rw[aH (bc e gH)];exact OO _ _ (kX _ _ e)
    ·rw[ar,Sb,en];unfold step;rw[aA c1]
   ·refine{_,rfl,kX.trans OO,?_};rw[en];unfold step;rw[ax c1];exact QE
  ·rintro Z H3 ⟨x3,rfl,kX,v8⟩;refine{_,_,rfl,kX,?_};rw[ak,bh]at v8;rw[EI ht];exact v8
 ·rintro Z H2 ⟨x2,x3,rfl,sm,hd2⟩;rw[(a9 ix),bh]at hd2;refine{_,rfl,d,_,rfl,hd2,λl hl=>?_};refine k l _ (sm.trans (aC hl _)) (sm.free hl) ?_;rw[ar,PY]
def placesK(us:Aaf):List (Key×V):=us.zipIdx.map λx=>(Sum.inr x.1,V.int (x.2:Int))
end
inductive HS(K:Frag)(vs:Aam)(H:Hp)(Q:VK)(_x3:XK):Prop
 |mk (l:Addr) (us:Aaf) (_:vs=[.ref l]) (_:br K H l (us.map V.str)) (_:us.Nodup) (_:us.length<=100) (_:∀(r:Addr)(H':Hp),aQ H H'->H r=none->H' r=some (.dK (placesK us))->Q (.ref r) H')
def DR(nd:us.Nodup):d7 (placesK us) (Sum.inr t:Key)=if t∈us then some (V.int (us.idxOf t:Int))else none:=by
 have gen:∀(us:Aaf)(n:Nat),d7 ((us.zipIdx n).map λx=>((Sum.inr x.1:Key),V.int (x.2:Int))) (Sum.inr t)=if t∈us then some (V.int ((us.idxOf t+n:Nat):Int))else none:=by
  intro us
  induction us with
  |nil=>intro n;rfl
  |cons u us ih=>
   intro n;rw[List.zipIdx_cons,bo];by_cases e:u=t
   ·subst e;rw[gE rfl,aA ay,List.idxOf_cons_self,vi]
   ·rw[f9 (λz=>e (Sum.inr.inj z)),ih (n+1)];by_cases m:t∈us
    ·rw[aA m,aA (az _ m),List.idxOf_cons,show(u==t)=false from beq_false_of_ne e,cond_false,Nat.add_right_comm,sU]
    ·rw[ax m,ax λz=>(aF.mp z).elim (λz=>e z.symm) m]
 have:=gen us 0;exact this
def KH{us:Aaf}(nd:us.Nodup)(h:us[i]?=some u):putK (placesK (us.take i)) (Sum.inr u:Key) (V.int (i:Int))=placesK (us.take (i+1)):=by
 obtain⟨hi,e⟩:=aw.mp h;have nm:u∉us.take i:=λz=>by obtain⟨j,hj,ej⟩:=jE.mp z;rw[aU]at hj;rw[List.getElem_take]at ej;exact mP.mp nd j i ∅ hi ∅ (by rw[ej,e])
 rw[yl _ (by rw[DR (nd.sublist (BW _ _)),ax nm])];unfold placesK;rw[bg,h,dE,List.zipIdx_append,aN,aU,mO ∅];simp
section
variable{P:Program}{w:World}{K:Frag}{mg:Aab}{base:Heap}
def iD(q:br K H a xs)(s:aQ H H'):br K H' a xs:=by
 rcases q with(q|⟨o,q⟩)|q
 ·exact .inl (.inl (s _ _ q))
 ·exact .inl (.inr {o,s _ _ q})
 ·exact .inr q
def pT:cv ["unknowns","places","place","unknown"] ["unknowns"] (defScope wA):=iO (by decide+kernel)
def IQ(F:eX K "places_of" "places_of" wA f fd)(T:Txt K mg):cU P w K mg base fm 1 f fd ["unknowns"] (HS K):=by
 refine F.ok pT (λ_ _ _ _ h=>by cases h;subst_vars;rfl) (λc6 A outer s H vs Q E hr h=>?_);obtain⟨l,us,rfl,hl,nd,lu,k⟩:=h;refine{_,(aK (d8 1 pT kD) (aK (fR bO rfl (LK rfl T.Cf (b5 (pv 0))) (ko rfl (cT (iZ 2 pT) (cT (iZ 3 pT) iY))) (aT (xl (qh hr) (pv 1) (pv 3) (pv 2) rfl))) (aT (b8 (pv 1))))),?_}
 intro d gH;refine{_,rfl,l,rfl,{_,iD hl (aC gH _)},JW
  (λi Z H2=>∃(x2 x3:Aan),Z=[some (.ref l),some (.ref d),x2,x3]/\aQ H H2/\H2 d=some (.dK (placesK (us.take i)))) {none,none,rfl,aC gH _,ar} (λi Z H2 _ ⟨_,_,_,sm,_⟩=>iD hl sm) ?_ ?_}
 ·rintro i x p Z H2 hx ⟨x2,x3,rfl,sm,hd2⟩ hp;obtain⟨z,hz,rfl⟩:=jj hx;have kX:aQ H2 (upd H2 p (.tup [.int i,.str z])):=aC hp _;refine{p,_,rfl,bf.of ar,rfl,_,_,rfl,_,_,rfl,rfl,?_};refine{_,rfl,_,rfl,_,rfl,d,_,rfl,yY.k (k:=Sum.inr z) (kX _ _ hd2) (by unfold placesK;rw[ak,List.length_zipIdx,aU];exact bN ∅),?_};refine{_,_,rfl,λb u e=>?_,?_}
  ·rw[aH (bc e gH)];exact kX _ _ (sm _ _ e)
  ·rw[ar,KH nd hz]
 ·rintro Z H2 ⟨x2,x3,rfl,sm,hd2⟩;rw[ak,bh]at hd2;exact{_,rfl,k d H2 sm gH hd2}
inductive Lv(K:Frag)(vs:Aam)(H:Hp)(Q:VK)(_x3:XK):Prop
 |mk (t d g:Addr) (ts us kE:Aaf) (_:vs=[.ref t,.ref d,.ref g]) (_:(br K H t (ts.map V.str)\/bf K H t (ts.map V.str))) (_:H d=some (.dK (placesK us))) (_:us.Nodup) (_:bf K H g (kE.map V.str)) (_:kE.length=us.length) (_:ts.length<=100) (_:us.length<=100) (_:∀(r:Addr)(H':Hp),aQ H H'->H r=none->H' r=some (.tup ((AskP.image us kE ts).map V.str))->Q (.ref r) H')
def RY:cv ["terms","places","given"] ["terms","places","given"] (defScope Fg):=iO (by decide+kernel)
def SA(F:eX K "image" "image" Fg f fd)(T:Txt K mg):cU P w K mg base fm 1 f fd ["terms","places","given"] (Lv K):=by
 refine F.ok RY (λ_ _ _ _ h=>by cases h;subst_vars;rfl) (λc6 A outer s H vs Q E hr h=>?_);obtain⟨t,d,g,ts,us,kE,rfl,ht,hd,nd,hg,lv,lt,lu,k⟩:=h;have hu:=qh hr;rcases ht with ht|ht;refine{_,(aT (b8 (da d6 rfl T.hX (by decide+kernel) (b5 (kg rfl (dO (fs:=["places","given"]) (fr:=[1,2])) (fX (pv 0)) (λ_ _ _ _=>(C7 (Ea (Ed hu (pv 0) (pv 1))) (cB (uj) (pv 2) (Fn hu (pv 1) (pv 0) (λ_ _=>rfl)) (λ_ _=>rfl)) (pv 0)))))))),?_};rotate_left;refine{_,(aT (b8 (da d6 rfl T.hX (by decide+kernel) (b5 (kg rfl (dO (fs:=["places","given"]) (fr:=[1,2])) (oQ (pv 0)) (λ_ _ _ _=>(C7 (Ea (Ed hu (pv 0) (pv 1))) (cB (uj) (pv 2) (Fn hu (pv 1) (pv 0) (λ_ _=>rfl)) (λ_ _=>rfl)) (pv 0)))))))),?_};all_goals
  refine{_,rfl,t,rfl,⟨_,ht⟩,?_}
  first
   |refine jG (xs:=ts.map V.str) (λi ys H2=>H2=H/\i<=ts.length/\ys=((ts.take i).map (AskP.xA us kE)).map V.str) (by rw[ak];exact bN ∅) ⟨rfl,aR _,rfl⟩ ?_ ?_ ?_
   |refine yJ (xs:=ts.map V.str) (λi ys H2=>H2=H/\i<=ts.length/\ys=((ts.take i).map (AskP.xA us kE)).map V.str) (by rw[ak];exact bN ∅) ⟨rfl,aR _,rfl⟩ ?_ ?_ ?_
  ·rintro i ys H2 hi ⟨rfl,_,rfl⟩;refine{ht,?_};rw[ak,ak,aU];lia
  ·rintro i x ys H2 N hc ⟨rfl,hi,rfl⟩ hN;obtain⟨z,hz,rfl⟩:=jj hc;have cw:=(aw.mp hz).1;refine{_,rfl,_,rfl,d,_,rfl,oK.k (k:=Sum.inr z) hd,_,rfl,?_};have ap:((ts.take i).map (AskP.xA us kE)).map V.str++[V.str (AskP.xA us kE z)]=((ts.take (i+1)).map (AskP.xA us kE)).map V.str:=by rw[bg,hz,aN,aN];rfl
   have ev:=DR (t:=z) nd;by_cases m:z∈us
   ·rw[aA m]at ev;have li:=dR m;have dg:=oK.k (k:=Sum.inr z) hd;rw[ev]at dg;refine eZ (λ_=>?_) (λc=>absurd (by rw[ev];rfl) c);refine{_,rfl,_,rfl,_,rfl,d,_,rfl,dg,g,_,_,V.str (AskP.xA us kE z),rfl,rfl,hg,?_,hN _ _ ⟨rfl,cw,ap⟩};refine iG ?_;rw[aI,aq ∅];unfold AskP.xA;rw[aA m,cS,aq ∅];rfl
   ·rw[ax m]at ev;refine eZ (λc=>by rw[ev]at c;cases c) (λ_=>?_);refine{_,rfl,hN _ _ {rfl,cw,?_}};rw[<-ap];unfold AskP.xA;rw[ax m]
  ·rintro ys H2 ⟨rfl,_,rfl⟩ l oS;rw[ak,bh];exact{l,_,rfl,.inl {br.of ar,λp hp=>k p _ ((aC oS _).trans (aC hp _)) ((aC oS _).free hp) ar}}
end
inductive F3(K:Frag)(vs:Aam)(H:Hp)(Q:VK)(_x3:XK):Prop
 |mk (r t:Addr) (rs ts:Aaf) (_:vs=[.ref r,.ref t]) (_:bf K H r (rs.map V.str)) (_:H t=some (.tup (ts.map V.str))) (_:rs.length<=100) (_:ts.length<=100) (_:∀H',aQ H H'->Q (.bl (AskP.mH rs ts)) H')
section
variable{P:Program}{w:World}{K:Frag}{mg:Aab}{base:Heap}
def KD:cv ["row","terms"] ["row","terms"] (defScope yi):=iO (by decide+kernel)
def KL(F:eX K "is_image" "is_image" yi f fd)(T:Txt K mg):cU P w K mg base fm 1 f fd ["row","terms"] (F3 K):=by
 refine F.ok KD (λ_ _ _ _ h=>by cases h;subst_vars;rfl) (λc6 A outer s H vs Q E hr h=>?_);obtain⟨r,t,rs,ts,rfl,Et,Ma,lr,lt,k⟩:=h;have U8:bf K H t (ts.map V.str):=bf.of Ma;refine{_,(aK (fh (c7 yt (bP fk rfl T.jd cx (b5 (pv 0))) (bP fk rfl T.jd cx (b5 (pv 1))) (dG _)) (aT (b8 yo)) dh) (aT (b8 (bP (xN rfl) rfl T.UN boot_all (b5 (So rfl (Oe (more:=["value"]) (fs:=["row","terms"]) (fr:=[0,1])) (WC rfl T.Hj (cD (pv 1) (pv 0))) (λ_ _ _ _=>(WE (n:=2) rfl (cT (IB (i:=0)) (cT (IB (i:=1)) iY)))) (λ_ _ _ _=>(rg tV (cB (uj) (pv 2) (IE nE nB nA yx (pv 3) (b5 (pv 0))) (λ_ _=>rfl)) (pv 1) (dG _))))))))),?_}
 refine{_,rfl,_,_,rfl,.inr ⟨_,Et,rfl⟩,_,rfl,_,_,rfl,.inr ⟨_,U8,rfl⟩,rfl,?_};rw[ak,ak];refine{_,rfl,eZ (λc=>?_) (λc=>?_)}
 ·have ne:rs.length≠ts.length:=λe=>by rw[e]at c;simp at c
  have e:AskP.mH rs ts=false:=by unfold AskP.mH;rw[bB ne];rfl
  rw[e]at k;exact k H (λ_ _ x=>x)
 have le:rs.length=ts.length:=by
  by_cases e:rs.length=ts.length
  ·exact e
  ·have z:¬(V.int (rs.length:Int)=V.int (ts.length:Int)):=λz=>e (by injection z with z;lia);exact absurd (by rw[bB z];rfl) c
 refine{_,rfl,_,rfl,t,r,rfl,⟨_,U8⟩,⟨_,Et⟩,Of (xs:=ts.map V.str) (zs:=rs.map V.str)
  (λi ys H2=>aQ H H2/\i<=ts.length/\ys=(((ts.zip rs).take i).map λx=>decide (rs[ts.idxOf x.1]?=some x.2)).map V.bl) (by rw[ak];exact bN ∅) (by rw[ak,ak,le]) {λ_ _ x=>x,aR _,rfl} ?_ ?_ ?_}
 ·rintro i ys H2 hi ⟨sm,_,rfl⟩;refine{{jo U8 sm,jo Et sm},?_};rw[ak,ak,aU];lia
 ·rintro i x y p ys H2 N hx hy ⟨sm,hi,rfl⟩ hp hN;obtain⟨z,hz,rfl⟩:=jj hx;obtain⟨v,hv,rfl⟩:=jj hy;have li:=dR (aE hz);have Vi:=(aw.mp hz).1;have kX:aQ H (upd H2 p (.tup [V.str z,V.str v])):=sm.trans (aC hp _);have e2:∀n,n<ts.idxOf z->ts[n]?≠some z:=λn hn q=>by obtain⟨ln,en⟩:=aw.mp q;have:=wZ hn;rw[en]at this;simp at this
  obtain⟨u,AH⟩:∃u,rs[ts.idxOf z]?=some u:={_,aq ∅};refine{_,rfl,_,rfl,.inr (.inl {rfl,.inl {_,kX _ _ Ma}}),_,rfl,t,ts,z,ts.idxOf z,rfl,rfl,jo U8 kX,(by rw[aq li,kB]),e2,r,_,_,V.str u,rfl,rfl,jo Et kX,iG (by rw[aI,AH];rfl),_,rfl,rfl,?_};refine hN _ _ {kX,by lia,?_};have e3:(ts.zip rs)[i]?=some (z,v):=by rw[List.getElem?_zip_eq_some];exact⟨hz,hv⟩
  rw[bg,e3,dE,aN,aN];congr 1;show[V.bl (decide (V.str u=V.str v))]=[V.bl (decide (rs[ts.idxOf z]?=some v))];rw[AH];congr 2;by_cases q:u=v
  ·subst q;simp
  ·rw[bB (λz=>q (V.str.inj z)),bB (λz=>q (bM z))]
 ·rintro ys H2 ⟨sm,_,rfl⟩ l hl;have lz:(ts.zip rs).length=ts.length:=by rw[qD];lia
  rw[ak,<-lz,bh];refine{l,_,rfl,br.of ar,?_};have e:AskP.mH rs ts=(((ts.zip rs).map λx=>decide (rs[ts.idxOf x.1]?=some x.2)).all id):=by unfold AskP.mH;rw[aX le,jt,Br];rfl
  rw[e]at k;exact k _ (sm.trans (aC hl _))
def sD(zs:Aaf):Prop:=∀z∈zs,PyData.strOk z=true
abbrev Cm:=List (Aaf×Int)
def sy(m:Cm):List (NK×V):=m.map λx=>(fD x.1,V.int x.2)
abbrev Cn(kvs:List (NK×Addr×V)):List (NK×V):=kvs.map λp=>(p.1,p.2.2)
def cnt(m:Cm)(r:Aaf):Int:=((m.find? λx=>decide (x.1=r)).map (·.2)).getD 0
theorem E5:∀{m:Cm}{kvs:List (NK×Addr×V)},Cn kvs=sy m->valN kvs (fD r)=(m.find? λx=>decide (x.1=r)).map λx=>V.int x.2
 |[],[],_=>rfl
 |[],_::_,e=>by cases e
 |_::_,[],e=>by cases e
 |x::m,p::kvs,e=>by
  injection e with e1 e2;have e3:=cc Prod.fst e1;have e4:=cc Prod.snd e1;dsimp only at e3 e4;by_cases c:x.1=r
  ·rw[lC (by rw[e3,c]),eJ (by exact aX c),e4];rfl
  ·rw[lD (λz=>c (rh (by rw[<-e3,z]))),E5 e2,eK (by simpa using c)]
def Xs(e:Cn kvs=sy m):(valN kvs (fD r)).getD (V.int 0)=V.int (cnt m r):=by rw[E5 e];unfold cnt;cases m.find? (λx=>decide (x.1=r))<;>rfl
def aaY(nd:(m.map (·.1)).Nodup)(h:x∈m)(e:x.1=r):cnt m r=x.2:=by
 unfold cnt
 induction m with
 |nil=>cases h
 |cons y m ih=>
  rw[bo,cP]at nd;by_cases c:y.1=r
  ·rw[eJ (by exact aX c)];rcases aF.mp h with rfl|h
   ·rfl
   ·exact absurd (aJ.mpr {x,h,by rw[e,c]}) nd.1
  ·rw[eK (by simpa using c)];rcases aF.mp h with rfl|h
   ·exact absurd e c
   ·exact ih nd.2 h
def Ww(nd:(m.map (·.1)).Nodup)(e:Cn kvs=sy m):Cn (putN kvs (fD r) b (.int (cnt m r+c)))=sy (AskP.sS m r c):=by
 have hv:=E5 (r:=r) e;have mem:r∈m.map (·.1)↔(m.find? λx=>decide (x.1=r)).isSome=true:=by rw[BZ,aJ];exact{λ⟨x,h1,h2⟩=>{x,h1,aX h2},λ⟨x,h1,h2⟩=>{x,h1,aW h2}}
 unfold putN AskP.sS;by_cases q:r∈m.map (·.1)
 ·rw[aA q,aA (by rw[hv,hZ];exact mem.mp q)];have gen:∀(kvs:List (NK×Addr×V))(m':Cm),(∀x∈m',x∈m)->Cn kvs=sy m'->Cn (kvs.map λp=>if p.1=fD r then(p.1,p.2.1,V.int (cnt m r+c))else p)=sy (m'.map λx=>if x.1=r then(x.1,x.2+c)else x):=by
   intro kvs
   induction kvs with
   |nil=>intro m' _ e;cases m' with
    |nil=>rfl
    |cons _ _=>cases e
   |cons p kvs ih=>intro m' hm e;cases m' with
    |nil=>cases e
    |cons x m'=>
     injection e with e1 e2;have e3:=cc Prod.fst e1;have e4:=cc Prod.snd e1;dsimp only at e3 e4;show(_::_:List (NK×V))=_::_;congr 1
     ·dsimp only;by_cases z:x.1=r
      ·rw[aA z,aA (by rw[e3,z])];rw[e3,aaY nd (hm x ay) z]
      ·rw[ax z,ax (λq=>z (rh (by rw[<-e3,q])))];exact e1
     ·exact ih m' (λx hx=>hm x (az _ hx)) e2
  exact gen kvs m (λ_ h=>h) e
 ·rw[ax q,ax (by rw[hv,hZ];exactλz=>q (mem.mpr z))];have z:(m.find? λx=>decide (x.1=r))=none:=by
   cases h:m.find? λx=>decide (x.1=r)with
   |none=>rfl
   |some _=>rw[h]at mem;exact absurd (mem.mpr rfl) q
  have z2:cnt m r=0:=by unfold cnt;rw[z];rfl
  unfold sy Cn at*;rw[z2,qF,aN,aN,e];rfl
def RowC(P:Program)(w:World)(K:Frag)(H:Hp)(d:Addr)(m:Cm):Prop:=∃kvs,fK P w K H d kvs/\Cn kvs=sy m
def RowC.same(h:RowC P w K H d m)(s:aQ H H'):RowC P w K H' d m:=by obtain⟨kvs,h1,h2⟩:=h;obtain⟨u,hu⟩:=h1.some;exact{kvs,h1.tp (dk.same s) (by rw[hu,s _ _ hu]),h2}
def Om(P:Program)(w:World)(K:Frag)(H:Hp)(d:Addr)(m:Cm):Prop:=∃kvs,fK P w K H d kvs/\Cn kvs=sy m/\∀p∈kvs,∃xs,H p.2.1=some (.tup xs)
def Om.c(h:Om P w K H d m):RowC P w K H d m:=let⟨kvs,h1,h2,_⟩:=h;⟨kvs,h1,h2⟩
def wj(K:Frag)(H:Hp)(v:V)(x:Aaf×Int):Prop:=∃p g,v=.ref p/\bf K H p [.ref g,.int x.2]/\bf K H g (x.1.map V.str)
def IH(h:wj K H v x)(t:dk H H'):wj K H' v x:=by obtain⟨p,g,e,h1,h2⟩:=h;exact{p,g,e,kM h1 t,kM h2 t}
def F6(h1:sD vs)(h2:sD ts):sD (AskP.image us vs ts):=λz hz=>by
 obtain⟨t,ht,rfl⟩:=aJ.mp hz;unfold AskP.xA;split
 ·rw[cS];cases q:vs[us.idxOf t]? with
  |none=>exact h2 t ht
  |some v=>exact h1 v (aE q)
 ·exact h2 t ht
inductive yb(P:Program)(w:World)(K:Frag)(vs:Aam)(H:Hp)(Q:VK)(_x3:XK):Prop
 |mk (l u t:Addr) (ys:Aam) (m:Cm) (us ts:Aaf) (_:vs=[.ref l,.ref u,.ref t]) (_:br K H l ys) (_:Paired (wj K H) ys m) (_:br K H u (us.map V.str)) (_:us.Nodup) (_:us.length<=100) (_:(br K H t (ts.map V.str)\/bf K H t (ts.map V.str))) (_:ts.length<=100) (_:sD ts) (_:(∀x∈m,x.1.length=us.length/\sD x.1)) (_:m.length<=9000000) (_:∀(d:Addr)(H':Hp),aQ H H'->H d=none->Om P w K H' d (AskP.narrowed m us ts)->Q (.ref d) H')
structure Dn(P:Program)(w:World)(K:Frag)(mg:Aab)(base:Heap):Prop where
 places_of:cR P w K mg base 1 "places_of" ["unknowns"] (HS K)
 image:cR P w K mg base 1 "image" ["terms","places","given"] (Lv K)
def mf:cv ["counted_maps","unknowns","terms","places","counts","given","count","row"] ["counted_maps","unknowns","terms"] (defScope yf):=iO (by decide+kernel)
def KI(F:eX K "narrowed" "narrowed" yf f fd)(T:Txt K mg)(D:Dn P w K mg base):cU P w K mg base fm 3 f fd ["counted_maps","unknowns","terms"] (yb P w K):=by
 refine F.ok mf (λ_ _ _ _ h=>by cases h;subst_vars;rfl) (λc6 A outer s H vs Q E hr h=>?_);obtain⟨l,u,t,ys,m,us,ts,rfl,hl,ng,U6,nd,lu,ht,lt,st,gm,lm,k⟩:=h;have hN:=yB hr;refine{_,(aK (d8 3 mf (cl D.places_of hr (b5 (pv 1)))) (aK (d8 4 mf kD) (aK (fR bO rfl (fX (pv 0)) (ko rfl (cT (iZ 5 mf) (cT (iZ 6 mf) iY))) (aK (d8 7 mf (cl D.image hr (uI (pv 2) (pv 3) (pv 5)))) (aT (C4 hN (pv 4) (pv 7) (dB iC (Gi hN (pv 4) (pv 7) aS ⟨rfl,rfl,rfl,rfl⟩) (pv 6)) rfl)))) (aT (b8 (pv 4)))))),?_}
 refine{_,rfl,u,us,rfl,U6,nd,lu,λpd H1 s1 S8 aat=>?_};intro d gH;have s2:aQ H1 (upd H1 d (.dK [])):=aC gH _;have hd2:upd H1 d (.dK []) d=some (.dK []):=ar;have oo:=s1.trans s2;have adq:=s2 _ _ aat;have hdn:=s1.free gH;refine{_,rfl,l,rfl,{_,iD hl oo},ni
  (λi Z H3=>∃(x1 x2 x3:Aan),Z=[some (.ref l),some (.ref u),some (.ref t),some (.ref pd),some (.ref d),x1,x2,x3]/\aQ H H3/\H3 pd=some (.dK (placesK us))/\i<=m.length/\∃kvs,fK P w K H3 d kvs/\Cn kvs=sy (AskP.narrowed (m.take i) us ts)/\kvs.length<=i/\∀p∈kvs,∃xs,H3 p.2.1=some (.tup xs))
  {none,none,none,rfl,oo,adq,aR _,[],BF hd2,rfl,ao _,λp hp=>(by cases hp)} (λi Z H3 _ ⟨_,_,_,_,sm,_⟩=>iD hl sm) ?_ ?_}
 ·rintro i x Z H3 D1 hx ⟨x1,x2,x3,rfl,s3,aas,_,kvs,ha,ek,lk,g7⟩ Gm _;obtain⟨y,hy,hp⟩:=Paired.at' ng hx;obtain⟨p,g,rfl,hp,hg⟩:=IH hp (dk.same s3);have cw:=(aw.mp hy).1;obtain⟨g1,g2⟩:=gm y (aE hy);refine{p,_,rfl,hp,rfl,_,_,rfl,_,_,rfl,rfl,?_};refine{_,rfl,_,rfl,_,rfl,t,pd,g,ts,us,y.1,rfl,ht.imp (λz=>iD z s3) (λz=>jo z s3),aas,nd,hg,g1,lt,lu,λr H4 s4 Va Jz=>?_};have QM:fK P w K H4 d kvs:=by obtain⟨u,hu⟩:=ha.some;exact ha.tp (dk.same s4) (by rw[hu,s4 _ _ hu])
  have hk:hV K H4 (fD (AskP.image us y.1 ts)) r:=yz (bf.of Jz) (F6 g2 st);refine{_,rfl,d,kvs,rfl,QM,_,rfl,r,kvs,_,rfl,QM,hk,?_};rw[Xs ek];refine{_,rfl,_,_,rfl,rfl,_,rfl,_,rfl,d,r,kvs,_,rfl,rfl,QM,hk,by lia,?_};refine Gm _ _ {_,_,_,rfl,λb o e=>?_,?_,cw,_,QM.put hk,?_,aL rf ∅,λp hp=>?_}
  ·rw[aH (bc e hdn)];exact s4 _ _ (s3 _ _ e)
  ·rw[aH (bc aat gH)];exact s4 _ _ aas
  ·rw[Ww AskP.rm ek,bg,hy];unfold AskP.narrowed;rw[dE,BX];rfl
  ·have ne:∀{b:Addr}{xs:Aam},H4 b=some (.tup xs)->b≠d:=λ{b xs} e z=>QM.p9 xs (.inl (z▸e));rcases Jd hp with⟨c,hc,_,e2⟩|⟨_,e2⟩
   ·obtain⟨xs,e⟩:=g7 c hc;exact{xs,by rw[e2,aH (ne (s4 _ _ e))];exact s4 _ _ e}
   ·exact{_,by rw[e2,aH (ne Jz)];exact Jz}
 ·rintro Z H3 ⟨x1,x2,x3,rfl,s3,_,_,kvs,ha,ek,_,g7⟩;rw[(a9 ng),bh]at ek;exact{_,rfl,k d H3 s3 hdn ⟨kvs,ha,ek,g7⟩}
def vX{ts:Aaf}(m:z∈ts):ts[ts.idxOf z]?=some z/\∀n,n<ts.idxOf z->ts[n]?≠some z:=by refine{by rw[aq (dR m),kB],λn hn q=>?_};obtain⟨ln,en⟩:=aw.mp q;have:=wZ hn;rw[en]at this;simp at this
def Kh{z:Str}(m:z∈ts)(le:rs.length=ts.length):rs[ts.idxOf z]?=some (AskP.atT rs ts z):=by have li:=dR m;unfold AskP.atT;rw[cS,aq ∅];rfl
structure og(P:Program)(w:World)(K:Frag)(H0 H:Hp)(d:Addr)(kvs:List (NK×Addr×V))(f:Aaf->R1):Prop where
 at_:fK P w K H d kvs
 no:∀zs,valN kvs (fD zs)=none->f zs=[]
 vals:∀zs v,valN kvs (fD zs)=some v->∃l ys,v=.ref l/\H0 l=none/\H l=some (.lst ys)/\eW K H ys (f zs)
 inj:∀zs B2 l,valN kvs (fD zs)=some (.ref l)->valN kvs (fD B2)=some (.ref l)->zs=B2
def og.same(x:og P w K H0 H d kvs f)(s:aQ H H'):og P w K H0 H' d kvs f:=by obtain⟨u,hu⟩:=x.at_.some;refine{x.at_.tp (dk.same s) (by rw[hu,s _ _ hu]),x.no,λzs v h=>?_,x.inj};obtain⟨l,ys,h1,h2,h3,h4⟩:=x.vals zs v h;exact{l,ys,h1,h2,s _ _ h3,jF h4 s}
def og.Zh(x:og P w K H0 H d kvs f)(hk:hV K H (fD key) b)(hn:valN kvs (fD key)=none)(h0:H0 l0=none)(hl:H l0=some (.lst []))(hd:H0 d=none)
  (fr:∀zs,valN kvs (fD zs)≠some (.ref l0)):og P w K H0 (upd H d (.ext (DN P w d (putN kvs (fD key) b (.ref l0))))) d (putN kvs (fD key) b (.ref l0)) f:=by
 have ne:∀{l:Addr}{ys:Aam},H l=some (.lst ys)->l≠d:=λ{l ys} h e=>by rw[e]at h;rcases x.at_.1 with q|⟨_,q⟩<;>rw[h]at q<;>cases q
 refine{x.at_.put hk,λzs h=>?_,λzs v h=>?_,λzs B2 l h h'=>?_}
 ·rw[mY]at h;split at h
  ·cases h
  ·exact x.no zs h
 ·rw[mY]at h;split at h
  ·next c=>
   cases h;refine{l0,[],rfl,h0,by rw[aH (ne hl)];exact hl,?_};rw[x.no zs (c▸hn)];exact .nil
  ·obtain⟨l,ys,h1,h2,h3,h4⟩:=x.vals zs v h;exact{l,ys,h1,h2,by rw[aH (ne h3)];exact h3,kf h4 (dk.upd x.at_.p9)}
 ·rw[mY]at h h';split at h
  ·next c=>
   cases h;split at h'
   ·next c'=>exact rh (c.trans c'.symm)
   ·exact absurd h' (fr B2)
  ·split at h'
   ·cases h';exact absurd h (fr zs)
   ·exact x.inj zs B2 l h h'
def og.push(x:og P w K H0 H d kvs f)(hv:valN kvs (fD key)=some (.ref l))(hl:H l=some (.lst ys))(hp:bf K H p (row.map V.str)):
  og P w K H0 (upd H l (.lst (ys++[.ref p]))) d kvs (λzs=>if zs=key then f zs++[row]else f zs):=by
 have t:dk H (upd H l (.lst (ys++[.ref p]))):=dk.upd (kr hl);have dl:d≠l:=λe=>by rw[<-e]at hl;rcases x.at_.1 with q|⟨_,q⟩<;>rw[hl]at q<;>cases q
 refine{x.at_.tp t (aH dl),λzs h=>?_,λzs v h=>?_,x.inj}
 ·have c:¬zs=key:=λc=>by rw[c,hv]at h;cases h
  rw[ax c];exact x.no zs h
 ·obtain⟨l',lL,rfl,h2,h3,h4⟩:=x.vals zs v h;by_cases c:zs=key
  ·have e:l'=l:=by rw[c,hv]at h;cases h;rfl
   subst e;rw[hl]at h3;cases h3;refine{l',_,rfl,h2,ar,?_};rw[aA c];exact(kf h4 t).snoc {p,rfl,kM hp t}
  ·have e:l'≠l:=λe=>c (x.inj zs key l (by rw[h,e]) hv);refine{l',lL,rfl,h2,aH e▸h3,?_};rw[ax c];exact kf h4 t
def g9(P:Program)(w:World)(K:Frag)(H:Hp)(av:Aah)(d:Addr)(f:Aaf->R1):Prop:=d∉av/\∃kvs,fK P w K H d kvs/\∀zs,(valN kvs (fD zs)=none/\f zs=[])\/∃l ys,valN kvs (fD zs)=some (.ref l)/\l∉av/\H l=some (.lst ys)/\eW K H ys (f zs)
def g9.fr(x:g9 P w K H av d f)(s:∀b u,b∉av->H b=some u->H' b=some u)(t:dk H H'):g9 P w K H' av d f:=by obtain⟨h0,kvs,h1,h2⟩:=x;obtain⟨u,hu⟩:=h1.some;exact{h0,kvs,h1.tp t (by rw[hu,s _ _ h0 hu]),λzs=>(h2 zs).imp id λ⟨l,ys,a,n,b,c⟩=>{l,ys,a,n,s _ _ n b,kf c t}}
def g9.same(x:g9 P w K H av d f)(s:aQ H H'):g9 P w K H' av d f:=x.fr (λb u _ e=>s _ _ e) (dk.same s)
def g9.more(x:g9 P w K H av d f)(h:H e=none):g9 P w K H (e::av) d f:=by
 obtain⟨h0,kvs,h1,h2⟩:=x;obtain⟨u,hu⟩:=h1.some;have nm:∀{b:Addr}{u:HO},H b=some u->b∉av->b∉e::av:=λ{b u} hb n z=>by
  rcases aF.mp z with z|z
  ·rw[z,h]at hb;cases hb
  ·exact n z
 exact{nm hu h0,kvs,h1,λzs=>(h2 zs).imp id λ⟨l,ys,a,n,b,c⟩=>{l,ys,a,nm b n,b,c}}
def g9.less(x:g9 P w K H av d f)(h:∀b∈av',b∈av):g9 P w K H av' d f:=by obtain⟨h0,kvs,h1,h2⟩:=x;exact{λz=>h0 (h _ z),kvs,h1,λzs=>(h2 zs).imp id λ⟨l,ys,a,n,b,c⟩=>{l,ys,a,λz=>n (h _ z),b,c}}
def og.view(x:og P w K H0 H d kvs f)(h0:H0 d=none)(ha:∀b∈av,H0 b≠none):g9 P w K H av d f:={λz=>ha _ z h0,kvs,x.at_,λzs=>by
 cases e:valN kvs (fD zs)with
 |none=>exact .inl {rfl,x.no zs e}
 |some v=>
  obtain⟨l,ys,rfl,h2,h3,h4⟩:=x.vals zs v e;exact .inr {l,ys,rfl,λz=>ha _ z h2,h3,h4}}
inductive F2(P:Program)(w:World)(K:Frag)(vs:Aam)(H:Hp)(Q:VK)(_x3:XK):Prop
 |mk (l t a b:Addr) (ys:Aam) (rows:R1) (ts known fresh:Aaf) (_:vs=[.ref l,.ref t,.ref a,.ref b]) (_:br K H l ys) (_:eW K H ys rows) (_:H t=some (.tup (ts.map V.str))) (_:br K H a (known.map V.str)) (_:br K H b (fresh.map V.str)) (_:rows.length<=100) (_:(∀r∈rows,r.length<=100/\sD r)) (_:ts.length<=100) (_:known.length<=100) (_:fresh.length<=100) (_:(∀z∈known,z∈ts)) (_:(∀z∈fresh,z∈ts)) (_:∀(d:Addr)(H':Hp),aQ H H'->H d=none->(∀av:Aah,(∀b∈av,H b≠none)->g9 P w K H' av d (AskP.tails rows ts known fresh))->Q (.ref d) H')
structure Dt6(P:Program)(w:World)(K:Frag)(mg:Aab)(base:Heap):Prop where
 is_image:cR P w K mg base 1 "is_image" ["row","terms"] (F3 K)
def OM{rs ts ks:Aaf}(h:sD rs)(le:rs.length=ts.length)(hk:∀z∈ks,z∈ts):sD (ks.map (AskP.atT rs ts)):=λz hz=>by obtain⟨t,ht,rfl⟩:=aJ.mp hz;exact h _ (aE (Kh (hk t ht) le))
def MM{rows:R1}{ts known fresh r:Aaf}(h:rows[i]?=some r)(im:AskP.mH r ts=true):AskP.tails (rows.take (i+1)) ts known fresh=λzs=>if zs=known.map (AskP.atT r ts)then AskP.tails (rows.take i) ts known fresh zs++[fresh.map (AskP.atT r ts)]else AskP.tails (rows.take i) ts known fresh zs:=by
 funext zs;unfold AskP.tails;rw[bg,h,dE,gN,aN];by_cases c:zs=known.map (AskP.atT r ts)
 ·rw[aA c,List.filter_cons_of_pos (by rw[im,c];simp)];rfl
 ·rw[ax c,vH (by rw[im,jt];exactλq=>c (aW q).symm)];simp
def MO{rows:R1}{ts known fresh r:Aaf}(h:rows[i]?=some r)(im:AskP.mH r ts=false):AskP.tails (rows.take (i+1)) ts known fresh=AskP.tails (rows.take i) ts known fresh:=by funext zs;unfold AskP.tails;rw[bg,h,dE,gN,aN,vH (by rw[im];simp)];simp
def mF:cv ["rows","terms","known","fresh","tails","row","key"] ["rows","terms","known","fresh"] (defScope qU):=iO (by decide+kernel)
def Eg(F:eX K "tails_by_key" "tails_by_key" qU f fd)(T:Txt K mg)(D:Dt6 P w K mg base):cU P w K mg base fm 3 f fd ["rows","terms","known","fresh"] (F2 P w K):=by
 refine F.ok mF (λ_ _ _ _ h=>by cases h;subst_vars;rfl) (λc6 A outer s H vs Q E hr h=>?_);obtain⟨l,t,a,b,ys,rows,ts,known,fresh,rfl,hl,ng,ht,ha,hb,lr,gr,lt,lk,lf,kt,ft,k⟩:=h;refine{_,(aK (d8 4 mF kD) (aK (fR bO rfl (fX (pv 0)) (mh (i:=5) mF.nd rfl (Or.inr rfl)) (aT (fh (oP (cl D.is_image hr (cD (pv 5) (pv 1)))) (aK (d8 6 mF (da d6 rfl T.hX (by decide+kernel) (b5 (kg rfl (dO (fs:=["row","terms"]) (fr:=[5,1])) (fX (pv 2)) (λ_ _ _ _=>(cB (uj) (pv 1) (IE nE nB nA yx (pv 2) (b5 (pv 0))) (λ_ _=>rfl))))))) (aT (iW (lG b9 dJ dH k7 (Na (yB hr) (pv 4) (pv 6) (fq gZ) ⟨rfl,rfl,rfl,rfl⟩) (b5 (da d6 rfl T.hX (by decide+kernel) (b5 (kg rfl (dO (fs:=["row","terms"]) (fr:=[5,1])) (fX (pv 3)) (λ_ _ _ _=>(cB (uj) (pv 1) (IE nE nB nA yx (pv 2) (b5 (pv 0))) (λ_ _=>rfl))))))))))) dh))) (aT (b8 (pv 4))))),?_}
 intro d gH;have s1:aQ H (upd H d (.dK [])):=aC gH _;refine{_,rfl,l,rfl,{_,iD hl s1},ni
  (λi Z H2=>∃(x1 x2:Aan),Z=[some (.ref l),some (.ref t),some (.ref a),some (.ref b),some (.ref d),x1,x2]/\aQ H H2/\i<=rows.length/\∃kvs,og P w K H H2 d kvs (AskP.tails (rows.take i) ts known fresh)/\kvs.length<=i)
  {none,none,rfl,s1,aR _,[],{BF ar,λzs _=>rfl,λzs v h=>(by cases h),λzs B2 l h=>(by cases h)},ao _} (λi Z H2 _ ⟨_,_,_,sm,_⟩=>iD hl sm) ?_ ?_}
 ·rintro i x Z H2 D1 hx ⟨x1,x2,rfl,s2,_,kvs,tI,lkv⟩ Gm _;obtain⟨r,Et,ra,rfl,hra⟩:=Paired.at' (jF ng s2) hx;have cw:=(aw.mp Et).1;obtain⟨g1,g2⟩:=gr r (aE Et);refine{_,rfl,_,rfl,ra,t,r,ts,rfl,hra,s2 _ _ ht,g1,lt,λH3 s3=>{_,rfl,?_}};refine eZ (λc=>?_) (λc=>?_)
  ·have le:r.length=ts.length:=by unfold AskP.mH at c;rw[bF]at c;exact aW c.1
   have Lz:=s2.trans s3;have S7:=jo hra s3;refine{_,rfl,a,rfl,{_,iD ha Lz},jG (xs:=known.map V.str) (λj zs H4=>H4=H3/\j<=known.length/\zs=((known.take j).map (AskP.atT r ts)).map V.str) (by rw[ak];exact bN ∅) {rfl,aR _,rfl} ?_ ?_ ?_}
   ·rintro j zs H4 hj ⟨rfl,_,rfl⟩;refine{iD ha Lz,?_};rw[ak,ak,aU];lia
   ·rintro j x zs H4 N hc ⟨rfl,hj,rfl⟩ uV;obtain⟨z,hz,rfl⟩:=jj hc;have oU:=(aw.mp hz).1;have m:=kt z (aE hz);refine{_,rfl,_,rfl,.inr (.inl {rfl,.inl {_,Lz _ _ ht}}),_,rfl,t,ts,z,ts.idxOf z,rfl,rfl,bf.of (Lz _ _ ht),(vX m).1,(vX m).2,ra,_,_,V.str (AskP.atT r ts z),rfl,rfl,S7,iG (by rw[aI,Kh m le];rfl),uV _ _ {rfl,oU,?_}};rw[bg,hz,aN,aN];rfl
   rintro zs H4 ⟨rfl,_,rfl⟩ q hq;rw[ak,bh];refine{q,_,rfl,.inl {br.of ar,λkp Mh=>?_}};have s5:aQ H4 (upd (upd H4 q (.lst ((known.map (AskP.atT r ts)).map V.str))) kp (.tup ((known.map (AskP.atT r ts)).map V.str))):=(aC hq _).trans (aC Mh _);have aaA:upd (upd H4 q (.lst ((known.map (AskP.atT r ts)).map V.str))) kp (.tup ((known.map (AskP.atT r ts)).map V.str)) kp=some (.tup ((known.map (AskP.atT r ts)).map V.str)):=ar;generalize (upd (upd H4 q (.lst ((known.map (AskP.atT r ts)).map V.str))) kp (.tup ((known.map (AskP.atT r ts)).map V.str)))=H5 at s5 aaA⊢;have Yn:=(tI.same s3).same s5;refine{_,rfl,d,kvs,rfl,Yn.at_,_,rfl,(by show 0<=sizeLine;decide),λl0 jO=>?_};have s6:aQ H5 (upd H5 l0 (.lst [])):=aC jO _;have ot:upd H5 l0 (.lst []) l0=some (.lst []):=ar;have xh:=Lz.trans (s5.trans s6);have fr6:∀zs,valN kvs (fD zs)≠some (.ref l0):=λzs h=>by obtain⟨l',_,e,_,h3,_⟩:=Yn.vals zs _ h;cases e;rw[jO]at h3;cases h3
   have Ln:=Yn.same s6;generalize (upd H5 l0 (.lst []))=H6 at s6 ot xh Ln⊢;have Mi:hV K H6 (fD (known.map (AskP.atT r ts))) kp:=yz (bf.of (s6 _ _ aaA)) (OM g2 le kt);revert H6;refine ab3 (p:=λv H7=>∃PQ,og P w K H H7 d PQ (AskP.tails (rows.take i) ts known fresh)/\PQ.length<=i+1/\aQ H H7/\bf K H7 ra (r.map V.str)/\valN PQ (fD (known.map (AskP.atT r ts)))=some v) (λR H6 s6 ot xh Ln Mi=>{kp,kvs,_,rfl,Ln.at_,Mi,by lia,λv hv=>R v H6 {kvs,Ln,by lia,xh,jo S7 (s5.trans s6),hv},λhv=>R (.ref l0) _ {_,Ln.Zh Mi hv ((Lz.trans s5).free jO) ot gH fr6,aL rf ∅,λb o e=>by rw[aH (bc e gH)];exact xh _ _ e,kM (jo S7 (s5.trans s6)) (dk.upd Ln.at_.p9),by rw[mY,aA rfl]}}) λv H7 hp=>?_
   obtain⟨PQ,I7,lk7,Gb,adn,hv7⟩:=hp;obtain⟨ll,UP,e7,h07,qO,hr7⟩:=I7.vals _ _ hv7;cases e7;have lly:UP.length<=100:=by rw[hr7.length];unfold AskP.tails;rw[ak];refine aL (cM _ _) ?_;rw[aU];lia
   refine{.inl {rfl,_,br.of qO},?_};refine{_,rfl,b,rfl,{_,iD hb Gb},jG (xs:=fresh.map V.str) (λj zs H8=>H8=H7/\j<=fresh.length/\zs=((fresh.take j).map (AskP.atT r ts)).map V.str) (by rw[ak];exact bN ∅) {rfl,aR _,rfl} ?_ ?_ ?_}
   ·rintro j zs H8 hj ⟨rfl,_,rfl⟩;refine{iD hb Gb,?_};rw[ak,ak,aU];lia
   ·rintro j x zs H8 N hc ⟨rfl,hj,rfl⟩ uV;obtain⟨z,hz,rfl⟩:=jj hc;have oU:=(aw.mp hz).1;have m:=ft z (aE hz);refine{_,rfl,_,rfl,.inr (.inl {rfl,.inl {_,Gb _ _ ht}}),_,rfl,t,ts,z,ts.idxOf z,rfl,rfl,bf.of (Gb _ _ ht),(vX m).1,(vX m).2,ra,_,_,V.str (AskP.atT r ts z),rfl,rfl,adn,iG (by rw[aI,Kh m le];rfl),uV _ _ {rfl,oU,?_}};rw[bg,hz,aN,aN];rfl
   rintro zs H8 ⟨rfl,_,rfl⟩ q2 Mf;rw[ak,bh];refine{q2,_,rfl,.inl {br.of ar,λtp uT=>?_}};have s8:=(aC Mf (.lst ((fresh.map (AskP.atT r ts)).map V.str))).trans (aC uT (.tup ((fresh.map (AskP.atT r ts)).map V.str)));have I9:=(I7.same s8).push hv7 (s8 _ _ qO) (bf.of ar);refine{_,UP,_,rfl,rfl,s8 _ _ qO,bN ∅,?_};refine Gm _ _ {_,_,rfl,λb o e=>?_,cw,PQ,?_,lk7}
   ·rw[aH (bc e h07)];exact s8 _ _ (Gb _ _ e)
   ·rw[MM Et c];exact I9
  ·refine Gm _ _ {_,_,rfl,s2.trans s3,cw,kvs,?_,by lia};rw[MO Et (by simpa using c)];exact tI.same s3
 ·rintro Z H2 ⟨x1,x2,rfl,s2,_,kvs,tI,_⟩;rw[ng.length,bh]at tI;exact{_,rfl,k d H2 s2 gH λav ha=>tI.view gH ha}
theorem vJ:∀{more kvs:List (Key×V)},(d7 (kP kvs more) k).isSome=true↔(d7 kvs k).isSome=true\/k∈more.map (·.1)
 |[],kvs=>{.inl,λh=>h.elim id λz=>by cases z}
 |x::more,kvs=>by
  show(d7 (kP (putK kvs x.1 x.2) more) k).isSome=true↔_;rw[vJ,RF,bo,aF];by_cases c:k=x.1
  ·rw[aA c];exact{λ_=>.inr (.inl c),λ_=>.inl rfl}
  ·rw[ax c];exact{λh=>h.imp id .inr,λh=>h.imp id λz=>z.resolve_left c}
def Jn{zs:Aaf}:(Sum.inr z:Key)∈((zs.map (Sum.inr:Str->Key)).zip (zs.map V.str)).map (·.1)↔z∈zs:=by rw[List.map_fst_zip (by simp),aJ];exact{λ⟨y,h,e⟩=>by cases e;exact h,λh=>⟨z,h,rfl⟩}
def L3{zs:Aaf}:(zs.map (Sum.inr:Str->Key)).map kV=zs.map V.str:=by rw[bW];rfl
def aa7(H:Hp)(d:Addr)(p:Str->Prop):Prop:=∃kvs,H d=some (.dK kvs)/\∀z,(d7 kvs (Sum.inr z:Key)).isSome=true↔p z
def rT(h:jX H v a)(s:aQ H H'):jX H' v a:=by obtain⟨p,t,e,h1,h2⟩:=h;exact{p,t,e,s _ _ h1,s _ _ h2}
def Ba(h:bR H vs as)(s:aQ H H'):bR H' vs as:=by
 induction h with
 |nil=>exact .nil
 |cons h _ ih=>exact .cons (rT h s) ih
inductive HV(K:Frag)(vs:Aam)(H:Hp)(Q:VK)(_x3:XK):Prop
 |mk (h l:Addr) (hz:Aaf) (ys:Aam) (ats:R0) (_:vs=[.ref h,.ref l]) (_:bf K H h (hz.map V.str)) (_:br K H l ys) (_:bR H ys ats) (_:hz.length<=100) (_:ats.length<=100) (_:(∀a∈ats,a.2.length<=100)) (_:∀(d:Addr)(H':Hp),aQ H H'->H d=none->aa7 H' d (λz=>z∈hz\/∃a∈ats,z∈a.2)->Q (.ref d) H')
def mG:cv ["head","atoms","needed","name","terms"] ["head","atoms"] (defScope qV):=iO (by decide+kernel)
def Eh(F:eX K "needed_terms" "needed_terms" qV f fd)(T:Txt K mg):cU P w K mg base fm 1 f fd ["head","atoms"] (HV K):=by
 refine F.ok mG (λ_ _ _ _ h=>by cases h;subst_vars;rfl) (λc6 A outer s H vs Q E hr h=>?_);obtain⟨h,l,hz,ys,ats,rfl,hh,hl,ng,lh,la,lt,k⟩:=h;refine{_,(aK (d8 2 mG (IC rfl T.Jb rfl T.Hj hr.hd (cD (pv 0) (pv 0)))) (aK (fR bO rfl (fX (pv 1)) (ko rfl (cT (iZ 3 mG) (cT (iZ 4 mG) iY))) (aT (iW (lG dZ ve PySem.F.type_dict_update Px (pv 2) (b5 (IC rfl T.Jb rfl T.Hj hr.hd (cD (pv 4) (pv 4)))))))) (aT (b8 (pv 2))))),?_}
 refine{_,rfl,_,rfl,h,h,hz.map Sum.inr,hz.map V.str,rfl,L3▸hh,hh,by rw[ak,ak],λd gH=>?_};have s1:=aC gH (.dK (kP [] ((hz.map (Sum.inr:Str->Key)).zip (hz.map V.str))));refine{_,rfl,l,rfl,{_,iD hl s1},ni
  (λi Z H2=>∃(x1 x2:Aan),Z=[some (.ref h),some (.ref l),some (.ref d),x1,x2]/\aQ H H2/\i<=ats.length/\∃kvs,H2 d=some (.dK kvs)/\kvs.length<=100+100*i/\∀z,(d7 kvs (Sum.inr z:Key)).isSome=true↔(z∈hz\/∃a∈ats.take i,z∈a.2))
  {none,none,rfl,s1,aR _,_,ar,?_,?_} (λi Z H2 _ ⟨_,_,_,sm,_⟩=>iD hl sm) ?_ ?_}
 ·refine aL (lV _ _) ?_;rw[qD,ak,ak,gk];lia
 ·intro z;rw[vJ,Jn];exact{λh=>h.elim (λz=>by cases z) .inl,λh=>h.elim .inr λ⟨a,ha,_⟩=>by cases ha}
 ·rintro i x Z H2 D1 hx ⟨x1,x2,rfl,s2,_,kvs,hd2,lk,hv⟩ Gm _;obtain⟨a,ha,p,t,rfl,hp,ht⟩:=Paired.at ng hx;have cw:=(aw.mp ha).1;have l1:=lt a (aE ha);refine{p,_,rfl,bf.of (s2 _ _ hp),rfl,_,_,rfl,_,_,rfl,rfl,?_};have Ql:bf K H2 t (a.2.map V.str):=bf.of (s2 _ _ ht);refine{_,rfl,.inr (.inr (.inl {rfl,.inl ⟨_,hd2⟩})),_,rfl,_,rfl,t,t,a.2.map Sum.inr,a.2.map V.str,rfl,L3▸Ql,Ql,by rw[ak,ak],λe JM=>?_};have s3:=aC JM (.dK (kP [] ((a.2.map (Sum.inr:Str->Key)).zip (a.2.map V.str))));have lm:(kP [] ((a.2.map (Sum.inr:Str->Key)).zip (a.2.map V.str))).length<=100:=by refine aL (lV _ _) ?_;rw[qD,ak,ak,gk];lia
  refine{d,e,kvs,_,rfl,rfl,bc hd2 JM,s3 _ _ hd2,ar,bI (cL (Nat.add_le_add lk lm) (cL (show 100+100*i+100<=20000 by lia) (by decide))),?_};refine Gm _ _ {_,_,rfl,λb o q=>?_,cw,_,ar,?_,λz=>?_}
  ·rw[aH (bc q gH)];exact s3 _ _ (s2 _ _ q)
  ·refine aL (lV _ _) ?_;lia
  ·rw[vJ,hv,bg,ha,dE];have e1:(Sum.inr z:Key)∈(kP [] ((a.2.map (Sum.inr:Str->Key)).zip (a.2.map V.str))).map (·.1)↔z∈a.2:=by
    rw[<-Jn];have:=vJ (k:=(Sum.inr z:Key)) (more:=(a.2.map (Sum.inr:Str->Key)).zip (a.2.map V.str)) (kvs:=[]);refine Iff.trans {λh=>?_,λh=>?_} (this.trans {λh=>h.elim (λz=>by cases z) id,.inr})
    ·cases q:d7 (kP [] ((a.2.map (Sum.inr:Str->Key)).zip (a.2.map V.str))) (Sum.inr z:Key)with
     |none=>exact absurd h (RG q)
     |some _=>rfl
    ·obtain⟨v,q⟩:=jP.mp h;exact V4 q
   rw[e1];constructor
   ·rintro((h|⟨b,hb,h⟩)|h)
    ·exact .inl h
    ·exact .inr {b,hJ _ hb,h}
    ·exact .inr {a,bZ _ ay,h}
   ·rintro(h|⟨b,hb,h⟩)
    ·exact .inl (.inl h)
    ·rcases aY.mp hb with hb|hb
     ·exact .inl (.inr ⟨b,hb,h⟩)
     ·cases au.mp hb;exact .inr h
 ·rintro Z H2 ⟨x1,x2,rfl,s2,_,kvs,hd2,_,hv⟩;rw[(a9 ng),bh]at hv;exact{_,rfl,k d H2 s2 gH ⟨kvs,hd2,hv⟩}
variable{C:Addr}
structure DK(K:Frag)(C:Addr):Prop where
 c:Bv K C
 tables:oX K C "tables"
 kept:oX K C "kept"
 maps:oX K C "maps"
 tails:oX K C "tails"
def gL(kept ts:Aaf):Aaf:=(eP ts).filter λt=>decide (t∉kept)
def j3(kept ts:Aaf):Aaf:=ts.filter λt=>decide (t∉gL kept ts)
def uM(a:Str×Aaf)(known:Aaf):NK:=.tup [.tup [.key (.inr a.1),fD a.2],fD known]
def WV(h:uM a k=uM a' k'):a=a'/\k=k':=by unfold uM at h;simp only[NK.tup.injEq,List.cons.injEq,NK.key.injEq,Sum.inr.injEq,and_true]at h;obtain⟨⟨h1,h2⟩,h3⟩:=h;exact{DJ h1 (rh h2),rh h3}
def SS(hq:bf K H q [.ref p,.ref u])(hp:bf K H p [.str a.1,.ref t])(ht:bf K H t (a.2.map V.str))(hu:bf K H u (known.map V.str))(s1:PyData.strOk a.1=true)(s2:sD a.2)(s3:sD known):hV K H (uM a known) q:=by
 refine{?_,o8.good (n:=3) ?_ (by decide)}
 ·unfold uM;refine{q,_,rfl,hq,?_};refine{_,_,rfl,?_,?_}
  ·rw[NV];refine{p,_,rfl,hp,?_};refine{_,_,rfl,?_,?_}
   ·rw[NV];rfl
   ·rw[oZ];refine{_,_,rfl,Aq ht,?_};rw[oZ]
  ·rw[oZ];refine{_,_,rfl,Aq hu,?_};rw[oZ]
 ·have up:∀{n m:Nat}{k:NK},o8 n k->n<=m->o8 m k:=λg l=>{g.1,aL g.2.1 l,aL g.2.2 l};refine uW λk hk=>?_;rcases aF.mp hk with rfl|hk
  ·refine uW λk hk=>?_;rcases aF.mp hk with rfl|hk
   ·exact Dk s1
   ·cases au.mp hk;exact uX s2
  ·cases au.mp hk;exact up (uX s3) (by decide)
abbrev Ul(fs:List En)(a:Str×Aaf)(known:Aaf):Aaf->R1:=AskP.tails (iz (fN fs a.1)) a.2 known ((eP a.2).filter λt=>decide (t∉known))
structure jn(P:Program)(w:World)(K:Frag)(H:Hp)(td:Addr)(av:Aah)(fs:List En)(kvs:List (NK×Addr×V)):Prop where
 at_:fK P w K H td kvs
 all:∀a known v,valN kvs (uM a known)=some v->∃d,v=.ref d/\g9 P w K H av d (Ul fs a known)
def Ou(P:Program)(w:World)(K:Frag)(H:Hp)(td:Addr)(av:Aah)(fs:List En)(n:Nat):Prop:=∃kvs,jn P w K H td av fs kvs/\kvs.length<=n
def SB(d:Addr)(H H':Hp):Prop:=∀b u,b≠d->H b=some u->H' b=some u
def SB.tp(s:SB d H H')(h:jC H d):dk H H':=λb xs q=>by
 have hb:b≠d:=λe=>h xs (e▸q);rcases q with q|⟨o,q⟩
 ·exact .inl (s _ _ hb q)
 ·exact .inr {o,s _ _ hb q}
def SB.same(s:aQ H H'):SB d H H':=λb u _ e=>s _ _ e
def SB.trans(a:SB d H H1)(b:SB d H1 H2):SB d H H2:=λx u n e=>b x u n (a x u n e)
def jn.fr(x:jn P w K H td av fs kvs)(s:∀b u,b∉av->H b=some u->H' b=some u)(t:dk H H')(e:H' td=H td):jn P w K H' td av fs kvs:=
 {x.at_.tp t e,λa known v h=>by obtain⟨d,e1,e3⟩:=x.all a known v h;exact{d,e1,e3.fr s t}}
def jn.same(x:jn P w K H td av fs kvs)(s:aQ H H'):jn P w K H' td av fs kvs:=by obtain⟨u,hu⟩:=x.at_.some;exact x.fr (λb u _ e=>s _ _ e) (dk.same s) (by rw[hu,s _ _ hu])
def Ou.same(x:Ou P w K H td av fs n)(s:aQ H H'):Ou P w K H' td av fs n:=by obtain⟨kvs,h1,h2⟩:=x;exact{kvs,h1.same s,h2}
def _root_.L2.fK.tX(h:fK P w K H d kvs)(l:Aam):H d≠some (.lst l):=λe=>by rcases h.1 with q|⟨_,q⟩<;>rw[e]at q<;>cases q
def jn.add(x:jn P w K H td av fs kvs)(ht:td∈av)(hk:hV K H (uM a known) q)(hd:g9 P w K H av d (Ul fs a known)):
  jn P w K (upd H td (.ext (DN P w td (putN kvs (uM a known) q (.ref d))))) td av fs (putN kvs (uM a known) q (.ref d)):=by
 have s:∀b u,b∉av->H b=some u->upd H td (.ext (DN P w td (putN kvs (uM a known) q (.ref d)))) b=some u:=λb u n e=>by rw[aH (λz=>n (by rw[z];exact ht))];exact e
 have t:dk H (upd H td (.ext (DN P w td (putN kvs (uM a known) q (.ref d))))):=dk.upd x.at_.p9;refine{x.at_.put hk,λa' ZH v h=>?_};rw[mY]at h;split at h
 ·next c=>
  cases h;obtain⟨rfl,rfl⟩:=WV c;exact{d,rfl,hd.fr s t}
 ·obtain⟨d',e1,e3⟩:=x.all a' ZH v h;exact{d',e1,e3.fr s t}
structure iy(P:Program)(w:World)(K:Frag)(C:Addr)(H:Hp)(me dx tb kl md td:Addr)(ex:Aah)(fs:List En)(kept:Aaf)(maps:Cm)(n:Nat):Prop where
 ins:H me=some (.ins C dx [("tables",.ref tb),("kept",.ref kl),("maps",.ref md),("tails",.ref td)])
 tab:j8 K H tb fs
 xv:H kl=some (.lst (kept.map V.str))
 vS:RowC P w K H md maps
 zN:Ou P w K H td (td::md::ex) fs n
 nm:md≠td
 nt:tb≠td
 ke:kl∉ex
def iy.same(x:iy P w K C H self dx tb kl md td ex fs kept maps n)(s:aQ H H'):iy P w K C H' self dx tb kl md td ex fs kept maps n:=
 {s _ _ x.ins,x.tab.same s,s _ _ x.xv,x.vS.same s,x.zN.same s,x.nm,x.nt,x.ke}
def FinA(a:Str×Aaf):Prop:=a.2.length<=4/\PyData.strOk a.1=true/\sD a.2/\∀z∈a.2,z.length<=1000
def abZ(a:Str×Aaf):cZ [a]=a.2:=by show a.2++[]=a.2;exact cJ _
inductive CP(P:Program)(w:World)(K:Frag)(C:Addr)(vs:Aam)(H:Hp)(Q:VK)(_x3:XK):Prop
 |mk (self at_ dx tb kl md td:Addr) (ex:Aah) (fs:List En) (kept:Aaf) (maps:Cm) (n:Nat) (a:Str×Aaf) (_:vs=[.ref self,.ref at_]) (_:iy P w K C H self dx tb kl md td ex fs kept maps n) (_:jX H (.ref at_) a) (_:FinA a) (_:∀(l:Addr)(H':Hp),aQ H H'->H l=none->H' l=some (.lst ((gL kept a.2).map V.str))->Q (.ref l) H')
structure Df6(P:Program)(w:World)(K:Frag)(mg:Aab)(base:Heap):Prop where
 unknowns_of:cR P w K mg base 3 "unknowns_of" ["question"] OG
def Df(l:Aaf):(eP l).length<=l.length:=xr l
def zw:cv ["self","atom"] ["self","atom"] (defScope m8):=iO (by decide+kernel)
def SD(F:eX K "fresh_unknowns" "Asking.fresh_unknowns" m8 f fd)(T:Txt K mg)(O:DK K C)(D:Df6 P w K mg base):cU P w K mg base fm 4 f fd ["self","atom"] (CP P w K C):=by
 refine F.ok zw (λ_ _ _ _ h=>by cases h;subst_vars;rfl) (λc6 A outer s H vs Q E hr h=>?_);obtain⟨self,at_,dx,tb,kl,md,td,ex,fs,kept,maps,n,a,rfl,st,ha,fa,k⟩:=h;refine{_,(aT (b8 (vR rfl (dO (fs:=["self"]) (fr:=[0])) (fX (cl D.unknowns_of hr (b5 (dX (cD (dX gZ) (dX (b5 (pv 1)))))))) (λ_ _ _ _=>(c7 (za) (pv 0) (WI (pv 1) rfl) (by with_unfolding_all rfl))) (λ_ _ _ _=>(pv 0))))),?_};refine{by show 0<=sizeLine;decide,λe he=>?_};have s1:=aC he (.tup ([]:Aam));have he1:upd H e (.tup []) e=some (.tup []):=ar;generalize (upd H e (.tup []))=H1 at s1 he1⊢;refine{_,rfl,by show 1<=sizeLine;decide,λt ht=>?_};have s2:=aC ht (.tup [V.ref at_]);have Ql:upd H1 t (.tup [V.ref at_]) t=some (.tup [V.ref at_]):=ar;generalize (upd H1 t (.tup [V.ref at_]))=H2 at s2 Ql⊢;refine{by show 2<=sizeLine;decide,λq hq=>?_};have s3:=aC hq (.tup [V.ref e,V.ref t]);have hq3:upd H2 q (.tup [V.ref e,V.ref t]) q=some (.tup [V.ref e,V.ref t]):=ar;have pG:=s1.trans (s2.trans s3);refine{.ref q,[],[a],rfl,{q,e,t,[.ref at_],rfl,hq3,s3 _ _ (s2 _ _ he1),s3 _ _ Ql,.cons (rT ha pG) .nil},λb hb=>?_,by show 1<=100;decide,λr H4 s4 Va Jz=>?_}
 ·cases au.mp hb;exact{fa.1,fa.2.2.2}
 rw[abZ]at Jz;have lR:=pG.trans s4;have lu:=Df a.2;have l4:=fa.1;refine{r,rfl,{_,br.of Jz},jG (xs:=(eP a.2).map V.str) (λi ys H5=>H5=H4/\i<=(eP a.2).length/\ys=(((eP a.2).take i).filter λt=>decide (t∉kept)).map V.str) (by rw[ak];exact bN ∅) {rfl,aR _,rfl} ?_ ?_ ?_}
 ·rintro i ys H5 hi ⟨rfl,_,rfl⟩;refine{br.of Jz,?_};rw[ak];exact aL (cM _ _) (by rw[aU];lia)
 ·rintro i x ys H5 N hx ⟨rfl,hi,rfl⟩ hN;obtain⟨z,hz,rfl⟩:=jj hx;have cw:=(aw.mp hz).1;refine{_,rfl,_,rfl,self,C,dx,_,_,rfl,lR _ _ st.ins,O.c,O.kept,rfl,kl,_,rfl,.inl (br.of (lR _ _ st.xv)),rfl,GL _,_,rfl,?_};rw[Fv];have en:((eP a.2).take (i+1)).filter (λt=>decide (t∉kept))=((eP a.2).take i).filter (λt=>decide (t∉kept))++if z∈kept then[]else[z]:=by rw[bg,hz,dE,gN];congr 1;by_cases c:z∈kept<;>simp[c]
  by_cases c:z∈kept
  ·refine eZ (λq=>by simp[c]at q) (λ_=>hN _ _ {rfl,cw,?_});rw[en,aA c,cJ]
  ·refine eZ (λ_=>{_,rfl,hN _ _ {rfl,cw,?_}}) (λq=>absurd (by simp[c]) q);rw[en,ax c,aN];rfl
 ·rintro ys H5 ⟨rfl,_,rfl⟩ l hl;rw[ak,bh];exact k l _ (lR.trans (aC hl _)) (lR.free hl) ar
def Vy(kept ts:Aaf):(eP ts).filter (λt=>decide (t∉j3 kept ts))=gL kept ts:=by
 refine List.filter_congr λt ht=>?_;have:t∈j3 kept ts↔t∈kept:=by unfold j3 gL;rw[bS,kH,bS,kH];exact{λh=>mT λc=>h.2 ⟨ht,c⟩,λh=>{((ug ht).resolve_left λz=>by cases z),λz=>z.2 h}}
 simp only[this]
theorem GP:∀l:R1,(yH l).length<=l.length
 |[]=>ao _
 |a::r=>by have:=GP r;unfold yH;split<;>(simp only[bu];lia)
def DT(l:R1):(iz l).length<=l.length:=by unfold iz;rw[(cW _).length_eq];exact GP l
def zP(h:z∈iA):PyData.strOk z=true:=(CK h).2.2
def j8.good(x:j8 K H p fs)(z:Str):(fN fs z).length<=5/\∀r∈fN fs z,ki r:=by
 unfold fN;cases q:fs.find? (λe=>decide (e.nm=z))with
 |none=>exact{aR _,λr h=>by cases h}
 |some e=>
  obtain⟨_,_,h3,h4⟩:=x.en e (jD q);exact⟨h3,h4⟩
abbrev dbT(fs:List En)(z:Str):R1:=iz (fN fs z)
def vM(fs:List En)(kept:Aaf)(a:Str×Aaf)(v:Aaf):R1:=AskP.tails (dbT fs a.1) a.2 (j3 kept a.2) (gL kept a.2) (AskP.image kept v (j3 kept a.2))
def Lk(x:j8 K H p fs)(kept:Aaf)(a:Str×Aaf)(v:Aaf):(vM fs kept a v).length<=5:=by unfold vM AskP.tails;rw[ak];exact aL (cM _ _) (aL (DT _) (x.good a.1).1)
abbrev BG(K:Frag)(H:Hp)(av:Aah)(fs:List En)(kept:Aaf)(a:Str×Aaf):Aam->Cm->Prop:=Paired λ(y:V)(x:Aaf×Int)=>∃t zs,y=.ref t/\t∉av/\H t=some (.lst zs)/\eW K H zs (vM fs kept a x.1)
def HB(h:BG K H av fs kept a ys m)(s:∀b u,b∉av->H b=some u->H' b=some u)(t:dk H H'):BG K H' av fs kept a ys m:=by
 induction h with
 |nil=>exact .nil
 |cons h _ ih=>
  obtain⟨t',zs,e,n,h1,h2⟩:=h;exact .cons {t',zs,e,n,s _ _ n h1,kf h2 t} ih
def Hz(h:BG K H av fs kept a ys m)(s:aQ H H'):BG K H' av fs kept a ys m:=HB h (λb u _ e=>s _ _ e) (dk.same s)
structure E2(kept:Aaf)(maps:Cm):Prop where
 nd:kept.Nodup
 ON:sD kept
 len:kept.length<=100
 row:∀x∈maps,x.1.length=kept.length/\sD x.1
 gj:maps.length<=500000
inductive MT(P:Program)(w:World)(K:Frag)(C:Addr)(vs:Aam)(H:Hp)(Q:VK)(_x3:XK):Prop
 |mk (self at_ dx tb kl md td:Addr) (ex:Aah) (fs:List En) (kept:Aaf) (maps:Cm) (n:Nat) (a:Str×Aaf) (_:vs=[.ref self,.ref at_]) (_:iy P w K C H self dx tb kl md td ex fs kept maps n) (_:jX H (.ref at_) a) (_:FinA a) (_:E2 kept maps) (_:n<=1000000) (_:(∀b∈ex,∃u,H b=some u)) (_:∀(l:Addr)(ys:Aam)(H':Hp),SB td H H'->H l=none->H' l=some (.lst ys)->iy P w K C H' self dx tb kl md td ex fs kept maps (n+1)->BG K H' (td::md::ex) fs kept a ys maps->Q (.ref l) H')
structure Dm6(P:Program)(w:World)(K:Frag)(mg:Aab)(base:Heap)(C:Addr):Prop extends Dn P w K mg base where
 iE:qC P w K mg base C 4 "fresh_unknowns" ["self","atom"] (CP P w K C)
 rows_of:cR P w K mg base 1 "rows_of" ["tables","name"] (CN K)
 tails_by_key:cR P w K mg base 3 "tails_by_key" ["rows","terms","known","fresh"] (F2 P w K)
def j8.sb(x:j8 K H p fs)(s:SB td H H')(nt:jC H td)(nl:∀l,H td≠some (.lst l))(ne:p≠td):j8 K H' p fs:={s _ _ ne x.at_,x.nm,λe he=>by obtain⟨h1,h2,h3⟩:=x.en e he;exact{s _ _ (λz=>nl _ (z▸h1)) h1,kf h2 (s.tp nt),h3}}
def RowC.sb(x:RowC P w K H d m)(s:SB td H H')(nt:jC H td)(ne:d≠td):RowC P w K H' d m:=by obtain⟨kvs,h1,h2⟩:=x;obtain⟨u,hu⟩:=h1.some;exact{kvs,h1.tp (s.tp nt) (by rw[hu,s _ _ ne hu]),h2}
def _root_.L2.fK.Ei(h:fK P w K H d kvs):H d≠some (.ins C dx l):=λe=>by rcases h.1 with q|⟨_,q⟩<;>rw[e]at q<;>cases q
def iy.sb(x:iy P w K C H self dx tb kl md td ex fs kept maps n)(s:SB td H H')(ck:jn P w K H' td (td::md::ex) fs kvs)(l:kvs.length<=m):iy P w K C H' self dx tb kl md td ex fs kept maps m:=by obtain⟨_,c0,_⟩:=x.zN;exact{s _ _ (λz=>c0.at_.Ei (by rw[<-z];exact x.ins)) x.ins,x.tab.sb s c0.at_.p9 c0.at_.tX x.nt,s _ _ (λz=>c0.at_.tX _ (by rw[<-z];exact x.xv)) x.xv,x.vS.sb s c0.at_.p9 x.nm,⟨kvs,ck,l⟩,x.nm,x.nt,x.ke}
def gG:cv ["self","atom","fresh","known","key","tails","places"] ["self","atom"] (defScope oC):=iO (by decide+kernel)
def Sx(F:eX K "tails_of_maps" "Asking.tails_of_maps" oC f fd)(T:Txt K mg)(O:DK K C)(D:Dm6 P w K mg base C):cU P w K mg base fm 5 f fd ["self","atom"] (MT P w K C):=by
 refine F.ok gG (λ_ _ _ _ h=>by cases h;subst_vars;rfl) (λc6 A outer s H vs Q E hr h=>?_);obtain⟨self,at_,dx,tb,kl,md,td,ex,fs,kept,maps,n,a,rfl,st,ha,fa,mo,hn,hex,k⟩:=h;have hN:=yB hr;refine{_,(aK (pX (i:=2) gG.nd rfl (Or.inr rfl) (LU O.c D.iE hr (pv 0) (b5 (pv 1)) ∅)) (aK (pX (i:=3) gG.nd rfl (Or.inr rfl) (vR rfl (dO (fs:=["fresh"]) (fr:=[2])) (oQ (cB eU (pv 1) aS (λ_ _=>rfl))) (λ_ _ _ _=>(c7 (za) (pv 0) (pv 1) (by with_unfolding_all rfl))) (λ_ _ _ _=>(pv 0)))) (aK (d8 4 gG (dX (cD (pv 1) (da d6 rfl T.hX (by decide+kernel) (b5 (pv 3)))))) (aK (fh (c7 (Pd hN) (pv 4) (lU (pv 0) rfl) (by with_unfolding_all rfl)) (aT (C4 hN (lU (pv 0) rfl) (pv 4) (cl D.tails_by_key hr (jc (cl D.rows_of hr (cD (lU (pv 0) rfl) (cB eU (pv 1) aS (λ_ _=>rfl)))) (uI (cB eU (pv 1) aS (λ_ _=>rfl)) (pv 3) (pv 2)))) rfl)) dh) (aK (pX (i:=5) gG.nd rfl (Or.inr rfl) (Sn hN (lU (pv 0) rfl) (pv 4) (λ_ _=>rfl))) (aK (pX (i:=6) gG.nd rfl (Or.inr rfl) (cl D.places_of hr (b5 (lU (pv 0) rfl)))) (aT (b8 (Sj (kg rfl (dO (fs:=["tails","known","places"]) (fr:=[5,3,6])) (Si (lU (pv 0) rfl)) (λ_ _ _ _=>(Nb hN (pv 1) (cl D.image hr (uI (pv 2) (pv 3) (pv 0))) (fq gZ) ⟨rfl,rfl,rfl,rfl⟩)))))))))))),?_}
 refine CQ λR eR=>?_;refine{_,rfl,self,dx,_,rfl,st.ins,rfl,_,rfl,self,at_,dx,tb,kl,md,td,ex,fs,kept,maps,n,a,rfl,st,ha,fa,λfr H1 s1 hf0 zi=>?_};obtain⟨_,t,e,hp,ht⟩:=id ha;cases e;have l4:=fa.1;refine m5 eR λR eR=>?_;refine{_,rfl,_,_,_,_,rfl,rfl,bf.of (s1 _ _ hp),rfl,t,rfl,{_,bf.of (s1 _ _ ht)},yJ (xs:=a.2.map V.str) (λi ys H2=>H2=H1/\i<=a.2.length/\ys=((a.2.take i).filter λt=>decide (t∉gL kept a.2)).map V.str) (by rw[ak];exact bN ∅) {rfl,aR _,rfl} ?_ ?_ ?_}
 ·rintro i ys H2 hi ⟨rfl,_,rfl⟩;refine{bf.of (s1 _ _ ht),?_};rw[ak];exact aL (cM _ _) (by rw[aU];lia)
 ·rintro i x ys H2 N hx ⟨rfl,hi,rfl⟩ uV;obtain⟨z,hz,rfl⟩:=jj hx;have cw:=(aw.mp hz).1;refine{_,rfl,_,rfl,fr,_,rfl,.inl (br.of zi),rfl,GL _,_,rfl,?_};rw[Fv];have en:(a.2.take (i+1)).filter (λt=>decide (t∉gL kept a.2))=(a.2.take i).filter (λt=>decide (t∉gL kept a.2))++if z∈gL kept a.2 then[]else[z]:=by rw[bg,hz,dE,gN];congr 1;by_cases c:z∈gL kept a.2<;>simp[c]
  by_cases c:z∈gL kept a.2
  ·refine eZ (λq=>by simp[c]at q) (λ_=>uV _ _ {rfl,cw,?_});rw[en,aA c,cJ]
  ·refine eZ (λ_=>{_,rfl,uV _ _ {rfl,cw,?_}}) (λq=>absurd (by simp[c]) q);rw[en,ax c,aN];rfl
 rintro ys H2 ⟨rfl,_,rfl⟩ kn adA;rw[ak,bh];have s2:=aC adA (.lst ((j3 kept a.2).map V.str));have Tf:upd H2 kn (.lst ((j3 kept a.2).map V.str)) kn=some (.lst ((j3 kept a.2).map V.str)):=ar;have oo:=s1.trans s2;have xF:=s2 _ _ zi;generalize hH:(upd H2 kn (.lst _))=H3;have hH':upd H2 kn (.lst ((j3 kept a.2).map V.str))=H3:=hH;rw[hH']at s2 Tf oo xF;refine m5 eR λR eR=>?_;refine{_,rfl,_,rfl,kn,_,rfl,.inl {br.of Tf,λtk L9=>?_}};have s4:=aC L9 (.tup ((j3 kept a.2).map V.str));have aao:upd H3 tk (.tup ((j3 kept a.2).map V.str)) tk=some (.tup ((j3 kept a.2).map V.str)):=ar;have lR:=oo.trans s4;have Mj:=s4 _ _ xF;have aaD:=s4 _ _ Tf;generalize (upd H3 tk (.tup ((j3 kept a.2).map V.str)))=H4 at s4 aao lR Mj aaD⊢;refine{by show 2<=sizeLine;decide,λky hky=>?_};have s5:=aC hky (.tup [V.ref at_,V.ref tk]);have aaz:upd H4 ky (.tup [V.ref at_,V.ref tk]) ky=some (.tup [V.ref at_,V.ref tk]):=ar;have qK:=lR.trans s5;have hf5:=s5 _ _ Mj;have NS:=s5 _ _ aaD;have aan:=s5 _ _ aao;generalize (upd H4 ky (.tup [V.ref at_,V.ref tk]))=H5 at s5 aaz qK hf5 NS aan⊢;have om:=st.same qK;have sk:sD (j3 kept a.2):=λz hz=>fa.2.2.1 z (bS.mp hz).1;have lkn:(j3 kept a.2).length<=4:=aL (cM _ _) l4;have key:∀{H':Hp},dk H5 H'->hV K H' (uM a (j3 kept a.2)) ky:=λtp=>xw (SS (bf.of aaz) (bf.of (qK _ _ hp)) (bf.of (qK _ _ ht)) (bf.of aan) fa.2.1 fa.2.2.1 sk) tp;obtain⟨kvs,ck,lk⟩:=id om.zN;refine m5 eR λR eR=>?_;refine zU λNX hNX=>?_;have go:∀(H6:Hp)(PR:List (NK×Addr×V))(d:Addr),SB td H5 H6->jn P w K H6 td (td::md::ex) fs PR->PR.length<=n+1->valN PR (uM a (j3 kept a.2))=some (.ref d)->NX [some (.ref self),some (.ref at_),some (.ref fr),some (.ref kn),some (.ref ky),none,none] H6:=λH6 PR d lQ Rk lk6 hv6=>by
  refine hNX _ _ ?_;have lN:=om.sb lQ Rk lk6;have aaC:=lQ _ _ (λz=>ck.at_.tX _ (z▸NS)) NS;obtain⟨d',e',tv6⟩:=Rk.all _ _ _ hv6;cases e';have et:Ul fs a (j3 kept a.2)=AskP.tails (dbT fs a.1) a.2 (j3 kept a.2) (gL kept a.2):=by show AskP.tails _ _ _ ((eP a.2).filter λt=>decide (t∉j3 kept a.2))=_;rw[Vy]
  rw[et]at tv6;refine m5 eR λR eR=>?_;refine{_,rfl,self,C,dx,_,_,rfl,lN.ins,O.c,O.tails,rfl,_,rfl,td,ky,PR,_,.ref d,rfl,rfl,Rk.at_,key (lQ.tp ck.at_.p9),hv6,?_};refine m5 (T:=R) eR λR eR=>?_;refine{_,rfl,self,C,dx,_,_,rfl,lN.ins,O.c,O.kept,rfl,kl,kept,rfl,br.of lN.xv,mo.nd,mo.len,λpd H7 s7 S8 adp=>?_};have xc:=lN.same s7;obtain⟨qM,GH,em⟩:=xc.vS;obtain⟨um,Jt⟩:=GH.some;have Zg:∀u v,H7 md≠some (.fA u v):=λu v e=>by rcases GH.1 with q|⟨_,q⟩<;>rw[e]at q<;>cases q
  have Gn:=GH.p9;refine Fd eR ?_;refine{md,Zg,?_};refine{_,rfl,self,C,dx,_,_,rfl,xc.ins,O.c,O.maps,rfl,md,um,qM,rfl,Jt,GH,λo=>?_};have D4:SB md H7 (upd H7 md (.fA o um)):=λb u n e=>aH n▸e;have Hy:=D4.tp Gn;have X2:=(tv6.same s7).fr (λb u n e=>D4 b u (λz=>n (z▸az _ ay)) e) Hy;have aaB:=D4 _ _ (λz=>GH.tX _ (z▸s7 _ _ aaC)) (s7 _ _ aaC);have pdm:pd≠md:=λz=>by obtain⟨_,h1,_⟩:=lN.vS;obtain⟨_,h2⟩:=h1.some;rw[z,h2]at S8;cases S8
  have aar:=D4 _ _ pdm adp;have v3:upd H7 md (.fA o um) md=some (.fA o um):=ar;have avf:∀b∈td::md::ex,∃u,upd H7 md (.fA o um) b=some u:=λb hb=>by
   by_cases z:b=md
   ·exact{_,by rw[z];exact v3}
   ·have go7:∀{u:HO},H7 b=some u->∃u,upd H7 md (.fA o um) b=some u:=λ{u} e=>{u,aH z▸e};by_cases z2:b=td
    ·obtain⟨_,h⟩:=Rk.at_.some;exact go7 (s7 _ _ (z2▸h))
    ·have JO:b∈ex:=by
      rcases aF.mp hb with h|h
      ·exact absurd h z2
      ·exact(aF.mp h).resolve_left z
     obtain⟨_,h⟩:=hex b JO;exact go7 (s7 _ _ (lQ _ _ z2 (qK _ _ h)))
  have PL:qM.length=maps.length:=by have:=cc List.length em;unfold sy at this;rw[ak,ak]at this;exact this
  have gv:∀(i:Nat)(q:NK×Addr×V),qM[i]?=some q->∃x,maps[i]?=some x/\bf K H7 q.2.1 (x.1.map V.str):=λi q hq=>by
   have e1:(sy maps)[i]?=some (q.1,q.2.2):=by rw[<-em,aI,hq];rfl
   unfold sy at e1;rw[aI]at e1;obtain⟨x,e2,e3⟩:=bb.mp e1;have:=(GH.2 q (aE hq)).1;rw[<-(cc Prod.fst e3)]at this;exact{x,e2,Ej this}
  generalize Vu:upd H7 md (.fA o um)=Hf at X2 aaB aar v3 Hy avf⊢;refine Od (λi ys H8=>aQ Hf H8/\i<=maps.length/\BG K H8 (td::md::ex) fs kept a ys (maps.take i)) (by rw[ak,PL];exact cL mo.gj (by decide)) {λ_ _ x=>x,aR _,.nil} ?_ ?_ ?_
  ·rintro i ys H8 hi ⟨s8,Vi,tl⟩;refine{s8 _ _ v3,?_};rw[a9 tl,aU];lia
  ·rintro i kv ys H8 N ou ⟨s8,Vi,tl⟩ uV;rw[aI]at ou;obtain⟨q,hq,rfl⟩:=bb.mp ou;obtain⟨x,hx,hg⟩:=gv i q hq;have cw:=(aw.mp hx).1;obtain⟨g1,g2⟩:=mo.row x (aE hx);obtain⟨_,kvt,Cs,mw⟩:=X2.same s8;refine{_,rfl,d,kvt,rfl,Cs,_,rfl,_,rfl,_,rfl,kn,pd,q.2.1,j3 kept a.2,kept,x.1,rfl,.inl (br.of (s8 _ _ aaB)),s8 _ _ aar,mo.nd,jo (kM hg Hy) s8,g1,by lia,mo.len,λr H9 s9 Va hr9=>?_};refine{by show 0<=sizeLine;decide,λl0 jO=>?_};have kF:=s9.trans (aC jO (.lst ([]:Aam)));have JH:upd H9 l0 (.lst []) l0=some (.lst []):=ar;have ado:=(aC jO (.lst ([]:Aam))) _ _ hr9;obtain⟨_,acG,adk,aaJ⟩:=X2.same (s8.trans kF);refine{r,acG,fD (AskP.image kept x.1 (j3 kept a.2)),rfl,adk,yz (bf.of ado) (F6 g2 sk),uV _ _ {s8.trans kF,cw,?_}};rw[bg,hx];refine(Hz tl kF).snoc ?_;rcases aaJ (AskP.image kept x.1 (j3 kept a.2))with⟨h1,h2⟩|⟨l,zs,h1,h4,h2,h3⟩
   ·refine{l0,[],by rw[h1];rfl,λz=>?_,JH,?_}
    ·obtain⟨u,e⟩:=avf l0 z;rw[s9 _ _ (s8 _ _ e)]at jO;cases jO
    unfold vM;rw[h2];exact .nil
   ·exact{l,zs,by rw[h1];rfl,h4,h2,h3}
  ·rintro ys H8 ⟨s8,_,tl⟩ l hl;rw[ak,PL,bh]at tl;have s9:=s8.trans (aC hl (.lst ys));have AK:upd H8 l (.lst ys) l=some (.lst ys):=ar;have tl9:=Hz tl (aC hl (.lst ys));have lmd:l≠md:=λz=>by rw[z,s8 _ _ v3]at hl;cases hl
   have h7l:H7 l=none:=by
    cases e:H7 l with
    |none=>rfl
    |some u=>
     have:Hf l=some u:=by rw[<-Vu,aH lmd];exact e
     rw[s8 _ _ this]at hl;cases hl
   generalize (upd H8 l (.lst ys))=H9 at s9 AK tl9⊢;refine{o,um,s9 _ _ v3,?_};have sF:aQ H7 (upd H9 md um):=λb u e=>by
    by_cases z:b=md
    ·rw[z,Jt]at e;cases e;rw[z,ar]
    ·rw[aH z];exact s9 _ _ (by rw[<-Vu,aH z];exact e)
   have nt9:jC H9 md:=λxs q=>by rcases q with q|⟨o',q⟩<;>rw[(s9 _ _ v3)]at q<;>cases q;exact Gn xs (.inl Jt)
   have sb9:SB md H9 (upd H9 md um):=λb u n e=>aH n▸e;have Vw:=s7.free h7l;have h0l:H l=none:=by
    cases e:H l with
    |none=>rfl
    |some u=>
     by_cases z:l=td
     ·obtain⟨_,h⟩:=Rk.at_.some;rw[z,h]at Vw;cases Vw
     ·rw[lQ _ _ z (qK _ _ e)]at Vw;cases Vw
   exact k l ys _ (((SB.same qK).trans lQ).trans (SB.same (s7.trans sF))) h0l (aH lmd▸AK) (xc.same sF) (HB tl9 (λb u n e=>sb9 b u (λz=>n (by rw[z];exact az _ ay)) e) (sb9.tp nt9))
 refine{_,rfl,_,rfl,self,C,dx,_,_,rfl,om.ins,O.c,O.tails,rfl,td,ky,kvs,_,rfl,rfl,ck.at_,key (dk.refl _),_,rfl,?_};refine eZ (λc=>?_) (λc=>?_)
 ·have hv:valN kvs (uM a (j3 kept a.2))=none:=by simpa using c
  refine{_,rfl,self,C,dx,_,_,rfl,om.ins,O.c,O.tables,rfl,_,rfl,_,_,_,_,rfl,rfl,bf.of (qK _ _ hp),rfl,tb,fs,a.1,rfl,om.tab,λrl rys H6 s6 aee adm Mc=>?_};have lN:=om.same s6;have xh:=qK.trans s6;refine{_,rfl,_,_,_,_,rfl,rfl,bf.of (xh _ _ hp),rfl,_,rfl,_,rfl,rl,t,kn,fr,rys,dbT fs a.1,a.2,j3 kept a.2,gL kept a.2,rfl,br.of adm,Mc,xh _ _ ht,br.of (s6 _ _ NS),br.of (s6 _ _ hf5),aL (DT _) (aL (om.tab.good a.1).1 (by decide)),λr hr=>?_,by lia,by lia,?_,λz hz=>(bS.mp hz).1,λz hz=>(ug (bS.mp hz).1).resolve_left (λh=>by cases h),λd H7 s7 gH tv=>?_}
  ·obtain⟨_,h2,h3⟩:=(om.tab.good a.1).2 r ((ku _ _).mp hr);exact{by lia,λz hz=>zP (h3 z hz)}
  ·have:=Df a.2;exact aL (cM _ _) ∅
  have B9:=s6.trans s7;have ck7:=ck.same B9;have av:∀b∈td::md::ex,H6 b≠none:=λb hb=>by
   rcases aF.mp hb with rfl|hb
   ·obtain⟨_,h⟩:=ck.at_.some;rw[s6 _ _ h];simp
   ·rcases aF.mp hb with rfl|hb
    ·obtain⟨_,h1,_⟩:=lN.vS;obtain⟨_,h⟩:=h1.some;rw[h];simp
    ·obtain⟨_,h⟩:=hex b hb;rw[xh _ _ h];simp
  refine{_,rfl,self,C,dx,_,_,rfl,(lN.same s7).ins,O.c,O.tails,rfl,_,rfl,td,ky,kvs,_,rfl,rfl,ck7.at_,key (dk.same B9),by lia,?_};have tv2:g9 P w K H7 (td::md::ex) d (Ul fs a (j3 kept a.2)):=by show g9 P w K H7 (td::md::ex) d (AskP.tails _ _ _ ((eP a.2).filter λt=>decide (t∉j3 kept a.2)));rw[Vy];exact tv _ av
  exact go _ _ d ((SB.same B9).trans λb u n e=>by rw[aH n];exact e) (ck7.add ay (key (dk.same B9)) tv2) (aL rf ∅) (by rw[mY,aA rfl])
 ·obtain⟨v,hv⟩:=Option.ne_none_iff_exists'.mp (show ¬valN kvs (uM a (j3 kept a.2))=none by simpa using c);obtain⟨d,rfl,_⟩:=ck.all _ _ _ hv;exact go H5 kvs d (λ_ _ _ e=>e) ck ∅ hv
def iy.mono(x:iy P w K C H self dx tb kl md td ex fs kept maps n)(l:n<=m):iy P w K C H self dx tb kl md td ex fs kept maps m:=
 {x.ins,x.tab,x.xv,x.vS,let⟨kvs,h1,h2⟩:=x.zN;{kvs,h1,aL h2 l},x.nm,x.nt,x.ke}
def Bb(h:jX H v a)(s:SB td H H')(nt:jC H td):jX H' v a:=by obtain⟨p,t,e,h1,h2⟩:=h;exact{p,t,e,s _ _ (λz=>nt _ (.inl (z▸h1))) h1,s _ _ (λz=>nt _ (.inl (z▸h2))) h2}
def EV(h:bR H vs as)(s:SB td H H')(nt:jC H td):bR H' vs as:=by
 induction h with
 |nil=>exact .nil
 |cons h _ ih=>exact .cons (Bb h s nt) ih
def iy.LP(x:iy P w K C H self dx tb kl md td ex fs kept maps n):jC H td/\∀l,H td≠some (.lst l):=by obtain⟨_,c0,_⟩:=x.zN;exact{c0.at_.p9,c0.at_.tX}
inductive OK(P:Program)(w:World)(K:Frag)(C:Addr)(vs:Aam)(H:Hp)(Q:VK)(_x3:XK):Prop
 |mk (self l dx tb kl md td:Addr) (ex:Aah) (fs:List En) (kept:Aaf) (maps:Cm) (n:Nat) (ys:Aam) (ats:R0) (_:vs=[.ref self,.ref l]) (_:iy P w K C H self dx tb kl md td ex fs kept maps n) (_:H l=some (.lst ys)) (_:bR H ys ats) (_:(∀a∈ats,FinA a)) (_:0<ats.length) (_:ats.length<=100) (_:E2 kept maps) (_:n+100<=1000000) (_:(∀b∈ex,b≠td/\∃u,H b=some u)) (_:∀(i:Nat)(H':Hp),i<ats.length->SB td H H'->iy P w K C H' self dx tb kl md td ex fs kept maps (n+100)->Q (.int i) H')
structure Db6(P:Program)(w:World)(K:Frag)(mg:Aab)(base:Heap)(C:Addr):Prop where
 je:qC P w K mg base C 5 "tails_of_maps" ["self","atom"] (MT P w K C)
def gX:cv ["self","atoms","best","fewest","place","atom","count"] ["self","atoms"] (defScope qW):=iO (by decide+kernel)
def WR(F:eX K "best_place" "Asking.best_place" qW f fd)(T:Txt K mg)(O:DK K C)(D:Db6 P w K mg base C):cU P w K mg base fm 6 f fd ["self","atoms"] (OK P w K C):=by
 refine F.ok gX (λ_ _ _ _ h=>by cases h;subst_vars;rfl) (λc6 A outer s H vs Q E hr h=>?_);obtain⟨self,l,dx,tb,kl,md,td,ex,fs,kept,maps,n,ys,ats,rfl,st,hl,ng,fa,l0,l1,mo,hn,hex,k⟩:=h;refine{_,(aK (uF (dX (cD aS rW)) (ko rfl (cT (iZ 2 gX) (cT (iZ 3 gX) iY)))) (aK (fR bO rfl (LK rfl T.Cf (b5 (pv 1))) (ko rfl (cT (iZ 4 gX) (cT (iZ 5 gX) iY))) (aK (d8 6 gX (bP (T5 rfl) rfl T.aby (by decide+kernel) (b5 (kg rfl (dO (fs:=[]) (fr:=[])) (fX (LU O.c D.je hr (pv 0) (b5 (pv 5)) ∅)) (λ_ _ _ _=>(bP (Rq) rfl T.jd cx (b5 (pv 0)))))))) (aK (fh (PW.pt (Hi (c7 IK (pv 3) rW (dG _)) (D8 (c7 UG (pv 6) (pv 3) (dG _))))) (aT (YR (i:=2) (j:=3) rfl gX.nd rfl rfl (by decide) rfl rfl (cD (pv 4) (pv 6)) rfl)) dh) (aT (fh (c7 Ni (pv 6) (bP Rp rfl T.jd cx (b5 (lU (pv 0) rfl))) (dG _)) (aT (b8 (pv 4))) dh))))) (aT (b8 (pv 2))))),?_}
 have ly:=a9 ng;obtain⟨Y5,Ze⟩:=st.LP;refine{by show 2<=sizeLine;decide,λp hp=>{p,_,rfl,bf.of ar,rfl,_,_,rfl,_,_,rfl,rfl,?_}};have s1:=aC hp (.tup [V.int 0,V.cb]);refine{_,rfl,l,rfl,{_,br.of (s1 _ _ hl)},JW
  (λi Z H2=>∃(b:Nat)(fw:V)(x4 x5 x6:Aan),Z=[some (.ref self),some (.ref l),some (.int b),some fw,x4,x5,x6]/\SB td H H2/\iy P w K C H2 self dx tb kl md td ex fs kept maps (n+i)/\b<ats.length/\(fw=.cb\/∃c,fw=.int c))
  {0,.cb,none,none,none,rfl,SB.same s1,st.same s1,l0,.inl rfl} (λi Z H2 _ ⟨_,_,_,_,_,_,sb,_⟩=>br.of ((λsb=>sb _ _ (λz=>Ze _ (by rw[<-z];exact hl)) hl) sb)) ?_ ?_}
 ·rintro i x q Z H2 hx ⟨b,fw,x4,x5,x6,rfl,D5,pF,hb,Vj⟩ hq;obtain⟨a,ha,U4⟩:=Paired.at ng hx;have cw:=(aw.mp ha).1;have s3:=aC hq (.tup [V.int i,x]);refine{q,_,rfl,bf.of ar,rfl,_,_,rfl,_,_,rfl,rfl,?_};have Ic:=D5.trans (SB.same s3);have ux:=pF.same s3;obtain⟨ap,at_,rfl,_⟩:=id U4;refine{_,rfl,self,dx,_,rfl,ux.ins,rfl,_,rfl,self,ap,dx,tb,kl,md,td,ex,fs,kept,maps,n+i,a,rfl,ux,Bb U4 Ic Y5,fa a (aE ha),mo,by lia,λb hb=>{_,Ic _ _ (hex b hb).1 (hex b hb).2.choose_spec},λtl tys H4 sb4 S4 AI vN j4=>?_};have Jf:=a9 j4;refine{tl,rfl,{_,br.of AI},jG (λj zs H5=>H5=H4/\j<=maps.length/\zs=((maps.take j).map λx=>((vM fs kept a x.1).length:Int)).map V.int) (by rw[Jf];exact cL mo.gj (by decide)) {rfl,aR _,rfl} ?_ ?_ ?_}
  ·rintro j zs H5 hj ⟨rfl,_,rfl⟩;refine{br.of AI,?_};rw[ak,ak,aU];lia
  ·rintro j x zs H5 N hx5 ⟨rfl,hj,rfl⟩ uV;obtain⟨y,hy,t,zz,rfl,_,ht,Mc⟩:=Paired.at' j4 hx5;have oU:=(aw.mp hy).1;refine{_,rfl,_,_,rfl,.inl {_,br.of ht,rfl},uV _ _ {rfl,oU,?_}};rw[bg,hy,aN,aN,Mc.length];rfl
  rintro zs H5 ⟨rfl,_,rfl⟩ sl hsl;rw[Jf,bh];refine{sl,_,rfl,br.of ar,?_};have s6:=aC hsl (.lst ((maps.map λx=>((vM fs kept a x.1).length:Int)).map V.int));have lN:=vN.same s6;have lQ:=Ic.trans (sb4.trans (SB.same s6));generalize (upd H5 sl (.lst ((maps.map λx=>((vM fs kept a x.1).length:Int)).map V.int)))=H6 at s6 lN lQ⊢;generalize (maps.map λx=>((vM fs kept a x.1).length:Int)).sum=cn;dsimp only[uc];refine zU λNX hNX=>?_;have go:∀(b:Nat)(fw:V)(H7:Hp),b<ats.length->(fw=.cb\/∃c,fw=.int c)->SB td H H7->iy P w K C H7 self dx tb kl md td ex fs kept maps (n+i+1)->NX [some (.ref self),some (.ref l),some (.int b),some fw,some (.int i),some (.ref ap),some (.int cn)] H7:=λb fw H7 hb Vj zY xc=>by refine hNX _ _ ?_;obtain⟨qM,GH,em⟩:=xc.vS;refine{_,rfl,_,rfl,self,C,dx,_,_,rfl,xc.ins,O.c,O.maps,rfl,md,qM,rfl,GH,_,_,rfl,rfl,_,rfl,?_};refine eZ (λc=>{_,rfl,k i H7 cw zY (xc.mono ∅)}) (λc=>⟨b,fw,_,_,_,rfl,zY,xc,hb,Vj⟩)
  rcases Vj with rfl|⟨c,rfl⟩
  ·exact{_,rfl,rfl,_,rfl,wG (wG {_,rfl,_,rfl,_,_,rfl,go i _ H6 cw (.inr ⟨_,rfl⟩) lQ lN})}
  ·refine{_,rfl,rfl,_,rfl,uS {_,rfl,_,rfl,_,_,rfl,rfl,_,rfl,eZ (λc=>?_) (λc=>?_)}}
   ·exact{_,rfl,_,rfl,_,_,rfl,go i _ H6 cw (.inr ⟨_,rfl⟩) lQ lN}
   ·exact go b _ H6 hb (.inr ⟨_,rfl⟩) lQ lN
 ·rintro Z H2 ⟨b,fw,x4,x5,x6,rfl,D5,pF,hb,Vj⟩;exact{_,rfl,k b H2 hb D5 (pF.mono ∅)}
def Sr(h:X.K=K:=by rfl):kz X (binaryOp .Add) (UD K):=h▸WN
abbrev Cj(fs:List En)(kept:Aaf)(a:Str×Aaf)(maps:Cm):Cm:=AskP.longer maps (dbT fs a.1) a.2 kept (j3 kept a.2) (gL kept a.2)
def SM{maps:Cm}(h:maps[i]?=some x):Cj fs kept a (maps.take (i+1))=Cj fs kept a (maps.take i)++(vM fs kept a x.1).map λt=>(x.1++t,x.2):=by unfold Cj AskP.longer;rw[bg,h,dE,List.flatMap_append,BY,List.flatMap_nil,cJ];rfl
def W4(h:y∈Cj fs kept a maps):∃x∈maps,∃t∈vM fs kept a x.1,y=(x.1++t,x.2):=by obtain⟨x,hx,h⟩:=pz.mp h;obtain⟨t,ht,rfl⟩:=aJ.mp h;exact⟨x,hx,t,ht,rfl⟩
def Lj(tb:j8 K H p fs)(h:t∈vM fs kept a v):t.length=(gL kept a.2).length/\sD t:=by
 obtain⟨r,hr,rfl⟩:=aJ.mp h;obtain⟨h1,h2⟩:=bS.mp hr;rw[bF]at h2;have le:r.length=a.2.length:=by have:=h2.1;unfold AskP.mH at this;rw[bF]at this;exact aW this.1
 obtain⟨_,_,h3⟩:=(tb.good a.1).2 r ((ku _ _).mp h1);exact{ak _,OM (λz hz=>zP (h3 z hz)) le λz hz=>(ug (bS.mp hz).1).resolve_left λh=>by cases h}
theorem By(tb:j8 K H p fs):∀{maps:Cm},(Cj fs kept a maps).length<=5*maps.length
 |[]=>ao _
 |x::maps=>by have h1:=By tb (kept:=kept) (a:=a) (maps:=maps);have h2:=Lk tb kept a x.1;unfold Cj AskP.longer at h1⊢;unfold vM at h2;rw[BY,aM,ak,bu];lia
def DS(ts:Aaf):(eP ts).Nodup:=by
 have gen:∀(l acc:Aaf),acc.Nodup->(l.foldl step acc).Nodup:=by
  intro l
  induction l with
  |nil=>intro acc h;exact h
  |cons t l ih=>
   intro acc h;refine ih _ ?_;unfold step;split
   ·split
    ·exact h
    ·next c=>exact fE.mpr {h,ka _ _,λa ha b hb=>by rw[au.mp hb];exactλz=>c (z▸ha)}
   ·exact h
 exact gen ts [] .nil
def K2(ts:Aaf)(nd:kept.Nodup):(kept++gL kept ts).Nodup:=
 fE.mpr {nd,(DS ts).sublist (qS),λx hx y hy e=>by have:=(bS.mp hy).2;rw[kH]at this;exact this (e▸hx)}
def m9(h:Paired (wj K H) zs m)(t:dk H H'):Paired (wj K H') zs m:=by
 induction h with
 |nil=>exact .nil
 |cons h _ ih=>exact .cons (IH h t) ih
theorem IF:∀{aad m₁:List α}{aac m₂:List β},Paired F aad aac->Paired F m₁ m₂->Paired F (aad++m₁) (aac++m₂)
 |_,_,_,_,.nil,h=>h
 |_,_,_,_,.cons q t,h=>.cons q (IF t h)
def g9.Ei(x:g9 P w K H av d f)(h:H me=some (.ins C dx l0)):g9 P w K H (me::av) d f:=by
 obtain⟨h0,kvs,h1,h2⟩:=x;refine{λz=>?_,kvs,h1,λzs=>(h2 zs).imp id λ⟨l,ys,a,n,b,c⟩=>{l,ys,a,λz=>?_,b,c}}
 ·rcases aF.mp z with z|z
  ·exact h1.Ei (by rw[z];exact h)
  ·exact h0 z
 ·rcases aF.mp z with z|z
  ·rw[z,h]at b;cases b
  ·exact n z
def jn.to(x:jn P w K H td av fs kvs)(t:dk H H')(e:H' td=H td)(h:∀d f,g9 P w K H av d f->g9 P w K H' av' d f):jn P w K H' td av' fs kvs:=
 {x.at_.tp t e,λa known v q=>by obtain⟨d,e1,e3⟩:=x.all a known v q;exact{d,e1,h _ _ e3}}
inductive OH(P:Program)(w:World)(K:Frag)(C:Addr)(vs:Aam)(H:Hp)(Q:VK)(_x3:XK):Prop
 |mk (self at_ nd dx tb kl md td:Addr) (ex:Aah) (fs:List En) (kept:Aaf) (maps:Cm) (n:Nat) (a:Str×Aaf) (need:Str->Bool) (_:vs=[.ref self,.ref at_,.ref nd]) (_:iy P w K C H self dx tb kl md td ex fs kept maps n) (_:jX H (.ref at_) a) (_:FinA a) (_:E2 kept maps) (_:kept.length<=90) (_:n<=900000) (_:aa7 H nd (λz=>need z=true)) (_:nd≠td) (_:(∀b∈ex,b≠td/\∃u,H b=some u)) (_:∀(qN zd:Addr)(H':Hp),(∀b u,b≠td->b≠self->H b=some u->H' b=some u)->iy P w K C H' self dx tb qN zd td ex fs ((kept++gL kept a.2).filter need) (AskP.narrowed (Cj fs kept a maps) (kept++gL kept a.2) ((kept++gL kept a.2).filter need)) (n+1)->Q .cb H')
structure Dk6(P:Program)(w:World)(K:Frag)(mg:Aab)(base:Heap)(C:Addr):Prop where
 iE:qC P w K mg base C 4 "fresh_unknowns" ["self","atom"] (CP P w K C)
 je:qC P w K mg base C 5 "tails_of_maps" ["self","atom"] (MT P w K C)
 narrowed:cR P w K mg base 3 "narrowed" ["counted_maps","unknowns","terms"] (yb P w K)
def m6:cv ["self","atom","needed","bound","longer","counted_map","tails","given","count"] ["self","atom","needed"] (defScope CS):=iO (by decide+kernel)
def Sw{f:Addr}{fd:FuncData}(F:eX K "take" "Asking.take" CS f fd)(T:Txt K mg)(O:DK K C)(D:Dk6 P w K mg base C):cU P w K mg base fm 6 f fd ["self","atom","needed"] (OH P w K C):=by
 refine F.ok m6 (λ_ _ _ _ h=>by cases h;subst_vars;rfl) (λc6 A outer s H vs Q E hr h=>?_);obtain⟨self,at_,nd,dx,tb,kl,md,td,ex,fs,kept,maps,n,a,need,rfl,st,ha,fa,mo,lk,hn,hnd,Zj,hex,k⟩:=h;have hu:=qh hr;have hN:=yB hr;have cC:=O.c;refine{_,(aK (d8 3 m6 (dB Pg (lU (pv 0) rfl) (LU cC D.iE hr (pv 0) (b5 (pv 1)) ∅))) (aK (d8 4 m6 (fq gZ)) (aK (Sf (fR bO rfl (WD rfl T.Hj (cD (Gh (lU (pv 0) rfl)) (LU cC D.je hr (pv 0) (b5 (pv 1)) ∅))) (ko rfl (cT (iZ 5 m6) (cT (iZ 6 m6) iY))) (aK (uF (pv 5) (ko rfl (cT (mh (i:=7) m6.nd rfl (Or.inr rfl)) (cT (mh (i:=8) m6.nd rfl (Or.inr rfl)) iY)))) (aT (iW (lG b9 vc vb Gr (pv 4) (b5 (kg rfl (dO (fs:=["given","count"]) (fr:=[7,8])) (fX (pv 6)) (λ_ _ _ _=>(dX (cD (dB (Sr (K:=K)) (pv 1) (pv 0)) (pv 2)))))))))))) (aK (xk (pv 0) (vR rfl (dO (fs:=["needed"]) (fr:=[2])) (fX (pv 3)) (λ_ _ _ _=>(Ea (Ed hu (pv 0) (pv 1)))) (λ_ _ _ _=>(pv 0))) rfl) (aT (xk (pv 0) (cl D.narrowed hr (uI (pv 4) (pv 3) (lU (pv 0) rfl))) rfl)))))),?_}
 refine CQ λR eR=>?_;refine{_,rfl,self,C,dx,_,_,rfl,st.ins,O.c,O.kept,rfl,_,rfl,self,dx,_,rfl,st.ins,rfl,_,rfl,self,at_,dx,tb,kl,md,td,ex,fs,kept,maps,n,a,rfl,st,ha,fa,λfr H1 s1 hf0 zi=>?_};have lu:(gL kept a.2).length<=4:=aL (cM _ _) (aL (Df a.2) fa.1);have lb:(kept++gL kept a.2).length<=100:=by rw[aM];lia
 refine{kl,fr,_,_,rfl,rfl,s1 _ _ st.xv,zi,?_,λbd hbd=>?_}
 ·rw[ak,ak,<-aM];exact bI (bN ∅)
 have s2:=aC hbd (.lst (kept.map V.str++(gL kept a.2).map V.str));have JO:upd H1 bd (.lst (kept.map V.str++(gL kept a.2).map V.str)) bd=some (.lst ((kept++gL kept a.2).map V.str)):=by rw[ar,aN]
 have oo:=s1.trans s2;generalize (upd H1 bd (.lst (kept.map V.str++(gL kept a.2).map V.str)))=H2 at s2 JO oo⊢;refine m5 (T:=R) eR λR eR=>?_;refine{by show 0<=sizeLine;decide,λlg Qv=>?_};have s3:=aC Qv (.lst ([]:Aam));have tu:upd H2 lg (.lst ([]:Aam)) lg=some (.lst []):=ar;have pG:=oo.trans s3;have lg0:H lg=none:=oo.free Qv;have blg:bd≠lg:=bc JO Qv;have hb3:=s3 _ _ JO;have pF:=st.same oo;have ux:iy P w K C (upd H2 lg (.lst ([]:Aam))) self dx tb kl md td (lg::ex) fs kept maps n:=by
  obtain⟨kvs,ck,l⟩:=pF.zN;have c3:jn P w K H2 td (td::md::lg::ex) fs kvs:={ck.at_,λa known v h=>by
   obtain⟨d,e,tv⟩:=ck.all a known v h;exact{d,e,(tv.more Qv).less λb hb=>by simp only[aF]at hb⊢;rcases hb with h|h|h|h<;>simp[h]}}
  have x:=pF.same s3;exact{x.ins,x.tab,x.xv,x.vS,{kvs,c3.same s3,l},x.nm,x.nt,λz=>(aF.mp z).elim (bc pF.xv Qv) pF.ke}
 generalize (upd H2 lg (.lst ([]:Aam)))=H3 at s3 tu pG hb3 ux⊢;obtain⟨nt3,nl3⟩:=ux.LP;obtain⟨acH,hm3,_⟩:=id ux.vS;have Zg:∀u v,H3 md≠some (.fA u v):=λu v e=>by rcases hm3.1 with q|⟨_,q⟩<;>rw[e]at q<;>cases q
 refine m5 (T:=R) eR λR eR=>?_;refine{md,Zg,?_};refine{_,rfl,self,C,dx,_,_,rfl,ux.ins,O.c,O.maps,rfl,md,acH,rfl,hm3,λvw Qh=>?_};have s4:=aC Qh (.ext (nO vw md));have hv4:upd H3 vw (.ext (nO vw md)) vw=some (.ext (nO vw md)):=ar;have vN:=ux.same s4;have lR:=pG.trans s4;have vtd:vw≠td:=λz=>by obtain⟨_,c,_⟩:=ux.zN;obtain⟨_,h⟩:=c.at_.some;rw[z,h]at Qh;cases Qh
 have mI:=s4 _ _ tu;have hb4:=s4 _ _ hb3;generalize (upd H3 vw (.ext (nO vw md)))=H4 at s4 hv4 vN lR mI hb4⊢;obtain⟨nt4,UK⟩:=vN.LP;refine{_,rfl,self,dx,_,rfl,vN.ins,rfl,_,rfl,self,at_,dx,tb,kl,md,td,lg::ex,fs,kept,maps,n,a,rfl,vN,rT ha lR,fa,mo,by lia,λb hb=>(aF.mp hb).elim (λz=>{.lst [],by rw[z];exact mI}) λz=>{_,lR _ _ (hex b z).2.choose_spec},λtl tys H5 Ga S4 Dh om j4=>?_};obtain⟨qM,v5,em⟩:=id om.vS;obtain⟨um,Jt⟩:=v5.some;have v7:H5 lg=some (.lst []):=Ga _ _ (λz=>UK _ (by rw[<-z];exact mI)) mI;have hb5:=Ga _ _ (λz=>UK _ (by rw[<-z];exact hb4)) hb4;have tlg:tl≠lg:=λz=>by rw[z,mI]at S4;cases S4
 refine{vw,md,um,tl,qM,tys,rfl,Ga _ _ vtd hv4,Jt,v5,br.of Dh,λo=>?_};have Jf:tys.length=maps.length:=a9 j4;have PL:qM.length=maps.length:=by have:=cc List.length em;unfold sy at this;rw[ak,ak]at this;exact this
 have Gn:=v5.p9;have D4:SB md H5 (upd H5 md (.fA o um)):=λb u n e=>by rw[aH n];exact e
 have Hy:=D4.tp Gn;have nlm:∀{b:Addr}{l:Aam},H5 b=some (.lst l)->b≠md:=λ{b l} e z=>v5.tX l (by rw[<-z];exact e);have Ct:=D4 _ _ (nlm v7) v7;have aak:=D4 _ _ (nlm Dh) Dh;have aai:=HB j4 (λb u n e=>D4 b u (λz=>n (by rw[z];exact az _ ay)) e) Hy;have v3:upd H5 md (.fA o um) md=some (.fA o um):=ar;have gv:∀(i:Nat)(q:NK×Addr×V),qM[i]?=some q->∃x,maps[i]?=some x/\q.2.2=.int x.2/\bf K (upd H5 md (.fA o um)) q.2.1 (x.1.map V.str):=λi q hq=>by
  have e1:(sy maps)[i]?=some (q.1,q.2.2):=by rw[<-em,aI,hq];rfl
  unfold sy at e1;rw[aI]at e1;obtain⟨x,e2,e3⟩:=bb.mp e1;have e4:fD x.1=q.1:=cc Prod.fst e3;have e5:V.int x.2=q.2.2:=cc Prod.snd e3;have:=(v5.2 q (aE hq)).1;rw[<-e4]at this;exact{x,e2,e5.symm,kM (Ej this) Hy}
 generalize Vu:upd H5 md (.fA o um)=Hf at Ct aak aai v3 gv Hy⊢;have pJ:jC Hf lg:=kr Ct;refine QR (K:=K) (d:=md) (l:=tl) (o:=o) (u:=um) (kvs:=qM.map λp=>(V.ref p.2.1,p.2.2)) (ys:=tys)
  (λi Z H6=>∃x5 x6 x7 x8:Aan,Z=[some (.ref self),some (.ref at_),some (.ref nd),some (.ref bd),some (.ref lg),x5,x6,x7,x8]/\i<=maps.length/\SB lg Hf H6/\∃zs,H6 lg=some (.lst zs)/\Paired (wj K H6) zs (Cj fs kept a (maps.take i))) (by rw[ak,PL,Jf])
  {none,none,none,none,rfl,aR _,λ_ _ _ e=>e,[],Ct,.nil} (λi Z H6 _ ⟨_,_,_,_,_,_,sb,_⟩=>{sb _ _ (λz=>by rw[z,Ct]at v3;cases v3) v3,br.of (sb _ _ tlg aak)}) ?_ ?_
 ·rintro i kv y p q Z H6 D1 ou hy ⟨x5,x6,x7,x8,rfl,hi,lQ,zs,ot,Qd⟩ hq hp Gm;rw[aI]at ou;obtain⟨c,hc,rfl⟩:=bb.mp ou;obtain⟨x,hx,ex,hg⟩:=gv i c hc;have cw:i<maps.length:=(aw.mp hx).1;obtain⟨x',GA,t,zz,rfl,nt',ht,Mc⟩:=Paired.at' aai hy;rw[hx]at GA;cases GA;have ab9:t≠lg:=λz=>nt' (by rw[z];simp);dsimp only at hp hq⊢;rw[ex]at hp⊢;have s7:=(aC hq (.tup [V.ref c.2.1,V.int x.2])).trans (aC hp (.tup [V.ref q,V.ref t]));have hq7:upd (upd H6 q (.tup [V.ref c.2.1,V.int x.2])) p (.tup [V.ref q,V.ref t]) q=some (.tup [V.ref c.2.1,V.int x.2]):=(aC hp _) _ _ ar;refine{p,_,rfl,bf.of ar,rfl,_,_,rfl,_,_,rfl,rfl,?_};have zY:=lQ.trans (SB.same s7);have qO:=s7 _ _ ot;have U3:=m9 Qd (dk.same s7);generalize (upd (upd H6 q (.tup [V.ref c.2.1,V.int x.2])) p (.tup [V.ref q,V.ref t]))=H7 at s7 hq7 zY qO U3⊢;have tp7:=zY.tp pJ;have hg7:=kM hg tp7;have Jy:=zY _ _ ab9 ht;have hr7:=kf Mc tp7;have lzz:zz.length=(vM fs kept a x.1).length:=Mc.length;have l7:=Lk st.tab kept a x.1;refine{_,rfl,q,_,rfl,bf.of hq7,rfl,_,_,rfl,_,_,rfl,rfl,?_};refine{_,rfl,.inl {rfl,_,br.of qO},_,rfl,t,rfl,{_,br.of Jy},jG (K:=K) (a:=t) (xs:=zz) (λj ws H8=>aQ H7 H8/\j<=zz.length/\Paired (wj K H8) ws (((vM fs kept a x.1).take j).map λt=>(x.1++t,x.2))) (bN ∅) {λ_ _ e=>e,aR _,.nil} ?_ ?_ ?_}
  ·rintro j ws H8 hj ⟨s8,Vh,hw⟩;refine{br.of (s8 _ _ Jy),?_};rw[a9 hw,ak,aU];lia
  ·rintro j v ws H8 N hv ⟨s8,hj,hw⟩ uV;obtain⟨u,sg,ua,rfl,hua⟩:=Paired.at' (jF hr7 s8) hv;have oU:j<zz.length:=(aw.mp hv).1;refine pH ?_;have hg8:=jo hg7 s8;have fin:∀(r:Addr)(H9:Hp),aQ H8 H9->bf K H9 r ((x.1++u).map V.str)->∀w9,H9 w9=none->N (ws++[.ref w9]) (upd H9 w9 (.tup [V.ref r,V.int x.2])):=λr H9 s9 hr9 w9 GB=>by have kF:=s9.trans (aC GB (.tup [V.ref r,V.int x.2]));refine uV _ _ {s8.trans kF,oU,?_};rw[bg,sg,dE,aN];exact(m9 hw (dk.same kF)).snoc {w9,r,rfl,bf.of ar,jo hr9 (aC GB _)}
   refine{_,rfl,_,rfl,c.2.1,ua,_,_,rfl,rfl,hg8,hua,?_,λe=>?_,λ_ e=>?_,λ_ _ r Va=>?_}
   ·rw[ak,ak];have h1:=(mo.row x (aE hx)).1;have h2:=(Lj st.tab (aE sg)).1;exact bI (bN ∅)
   ·have e':x.1=[]:=qR.mp e;exact{_,rfl,by show 2<=sizeLine;decide,λw9 GB=>fin ua H8 (λ_ _ e=>e) (by rw[e'];exact hua) w9 GB}
   ·have e':u=[]:=qR.mp e;exact{_,rfl,by show 2<=sizeLine;decide,λw9 GB=>fin c.2.1 H8 (λ_ _ e=>e) (by rw[e',cJ];exact hg8) w9 GB}
   ·exact{_,rfl,by show 2<=sizeLine;decide,λw9 GB=>fin r _ (aC Va _) (by rw[aN];exact bf.of ar) w9 GB}
  rintro ws H8 ⟨s8,_,hw⟩ cl zj;rw[lzz,bh]at hw;have s9:=s8.trans (aC zj (.lst ws));have lws:ws.length<=5:=by rw[a9 hw,ak];exact l7
  have lzs:zs.length<=5*maps.length:=by rw[a9 Qd];refine aL (By st.tab) ?_;rw[aU];lia
  have lm:=mo.gj;refine{lg,cl,zs,ws,rfl,rfl,s9 _ _ qO,ar,bI (cL (show zs.length+ws.length<=4000000 by lia) (by decide)),?_};have t10:dk (upd H8 cl (.lst ws)) (upd (upd H8 cl (.lst ws)) lg (.lst (zs++ws))):=dk.upd (kr (s9 _ _ qO));refine Gm _ _ {_,_,_,_,rfl,cw,λb u n e=>?_,_,ar,?_}
  ·rw[aH n];exact s9 _ _ (zY _ _ n e)
  ·rw[SM hx];exact IF (m9 U3 ((dk.same s9).trans t10)) (m9 hw ((dk.same (aC zj (.lst ws))).trans t10))
 ·rintro Z H6 ⟨x5,x6,x7,x8,rfl,_,lQ,zs,ot,Qd⟩;rw[ak,PL,bh]at Qd;have mlg:md≠lg:=λz=>by rw[z,Ct]at v3;cases v3
  have hm6:=lQ _ _ mlg v3;refine{o,um,hm6,?_};have K5:SB lg H5 (upd H6 md um):=λb u n e=>by
   by_cases z:b=md
   ·rw[z,Jt]at e;cases e;rw[z,ar]
   ·rw[aH z];exact lQ _ _ n (by rw[<-Vu,aH z];exact e)
  have nt6:jC H6 md:=λxs q=>by rcases q with q|⟨o',q⟩<;>rw[hm6]at q<;>cases q;exact Gn xs (.inl Jt)
  have AK:upd H6 md um lg=some (.lst zs):=by rw[aH (bY mlg)];exact ot
  have Qe:=m9 Qd (dk.upd (o:=um) nt6);have RL:=K5.tp (kr v7);generalize (upd H6 md um)=H9 at K5 AK Qe RL⊢;have hb9:=K5 _ _ blg hb5;have K0:SB td H H9:=λb u n e=>K5 _ _ (λz=>by rw[z,lg0]at e;cases e) (Ga _ _ n (lR _ _ e));obtain⟨Y5,Ze⟩:=st.LP;have aca:=st.tab.sb K0 Y5 Ze st.nt;obtain⟨kvd,NR,aaw⟩:=hnd;have adu:=K0 _ _ Zj NR;have ZT:=K5 _ _ (λz=>by have q:=om.ins;rw[z,v7]at q;cases q) om.ins;obtain⟨UW,c5,lc⟩:=om.zN;have ab8:td≠lg:=λz=>c5.at_.tX _ (by rw[z];exact v7);have c9:jn P w K H9 td (self::td::md::lg::ex) fs UW:=by refine c5.to RL ?_ λd f tv=>(tv.fr (λb u n e=>K5 _ _ (λz=>n (by rw[z];simp)) e) RL).Ei ZT;obtain⟨u,h⟩:=c5.at_.some;rw[h,K5 _ _ ab8 h]
  have lbd:((kept++gL kept a.2).map V.str).length=(kept++gL kept a.2).length:=ak _;refine m5 (T:=R) eR λR eR=>?_;refine{_,rfl,bd,rfl,{_,br.of hb9},jG (K:=K) (a:=bd) (xs:=(kept++gL kept a.2).map V.str) (λj ws Bt=>Bt=H9/\j<=(kept++gL kept a.2).length/\ws=(((kept++gL kept a.2).take j).filter need).map V.str) (by rw[lbd];exact bN ∅) {rfl,aR _,rfl} ?_ ?_ ?_}
  ·rintro j ws Bt hj ⟨rfl,_,rfl⟩;refine{br.of hb9,?_};rw[ak];exact aL (cM _ _) (by rw[aU];lia)
  ·rintro j v ws Bt N hv ⟨rfl,hj,rfl⟩ uV;obtain⟨z,hz,rfl⟩:=jj hv;have oU:j<(kept++gL kept a.2).length:=(aw.mp hz).1;refine{_,rfl,_,rfl,nd,_,rfl,oK.k (k:=Sum.inr z) adu,_,rfl,?_};have en:((kept++gL kept a.2).take (j+1)).filter need=((kept++gL kept a.2).take j).filter need++if need z=true then[z]else[]:=by rw[bg,hz,dE,gN];congr 1;cases c:need z<;>simp[c]
   refine eZ (λc=>{_,rfl,uV _ _ {rfl,oU,?_}}) (λc=>uV _ _ {rfl,oU,?_})
   ·rw[en,aA ((aaw z).mp c),aN];rfl
   ·rw[en,ax (λq=>c ((aaw z).mpr q)),cJ]
  rintro ws Bt ⟨rfl,_,rfl⟩ qN Tg;rw[lbd,bh];generalize Mh:(kept++gL kept a.2).filter need=kp;have kF:=aC Tg (.lst (kp.map V.str));have Th:upd Bt qN (.lst (kp.map V.str)) qN=some (.lst (kp.map V.str)):=ar;have vV:=kF _ _ ZT;have MQ:=aca.same kF;have VG:=c9.same kF;have JH:=kF _ _ AK;have Tq:=kF _ _ hb9;have NB:=m9 Qe (dk.same kF);have VL:SB td H (upd Bt qN (.lst (kp.map V.str))):=K0.trans (SB.same kF);generalize (upd Bt qN (.lst (kp.map V.str)))=zr at kF Th vV MQ VG JH Tq NB VL⊢;refine{_,rfl,self,C,dx,_,rfl,vV,O.c,O.kept,by show 4<1000;decide,?_};have Zl:∀{b:Addr}{u:HO},zr b=some u->(∀l,u≠ .ins C dx l)->b≠self:=λ{b u} e n z=>by rw[z,vV]at e;cases e;exact n _ rfl
  have ntS:jC zr self:=As vV;have nlS:∀l,zr self≠some (.lst l):=λl e=>by rw[vV]at e;cases e
  have KS:SB self zr (upd zr self (.ins C dx (c8 "kept" (.ref qN) [("tables",.ref tb),("kept",.ref kl),("maps",.ref md),("tails",.ref td)]))):=λb u n e=>by rw[aH n];exact e
  have Nz:upd zr self (.ins C dx (c8 "kept" (.ref qN) [("tables",.ref tb),("kept",.ref kl),("maps",.ref md),("tails",.ref td)])) self=some (.ins C dx [("tables",.ref tb),("kept",.ref qN),("maps",.ref md),("tails",.ref td)]):=by rw[ar];rfl
  generalize (upd zr self (.ins C dx (c8 "kept" (.ref qN) [("tables",.ref tb),("kept",.ref kl),("maps",.ref md),("tails",.ref td)])))=MI at KS Nz⊢;have tpS:=KS.tp ntS;have nL:∀{b:Addr}{l:Aam},zr b=some (.lst l)->b≠self:=λ{b l} e z=>nlS l (by rw[<-z];exact e);have HG:tb≠self:=λz=>by rw[<-z,MQ.at_]at vV;cases vV
  have abf:=MQ.sb KS ntS nlS HG;have tds:td≠self:=λz=>VG.at_.Ei (by rw[z];exact vV);have VF:jn P w K MI td (self::td::md::lg::ex) fs UW:=by refine VG.fr (λb u n e=>KS _ _ (λz=>n (by rw[z];simp)) e) tpS ?_;obtain⟨u,h⟩:=VG.at_.some;rw[h,KS _ _ tds h]
  have aaF:=KS _ _ (nL Th) Th;have adz:=KS _ _ (nL JH) JH;have adH:=KS _ _ (nL Tq) Tq;have SW:=m9 NB tpS;have lkp:kp.length<=100:=by rw[<-Mh];exact aL (cM _ _) lb
  have skb:sD (kept++gL kept a.2):=λz hz=>by
   rcases aY.mp hz with hz|hz
   ·exact mo.ON z hz
   ·exact fa.2.2.1 z ((ug (bS.mp hz).1).resolve_left λh=>by cases h)
  have skp:sD kp:=λz hz=>by rw[<-Mh]at hz;exact skb z (bS.mp hz).1
  have lm:=mo.gj;refine Fd (T:=R) eR ?_;refine{_,rfl,_,rfl,_,rfl,self,C,dx,_,_,rfl,Nz,O.c,O.kept,rfl,lg,bd,qN,zs,Cj fs kept a maps,kept++gL kept a.2,kp,rfl,br.of adz,SW,br.of adH,K2 a.2 mo.nd,lb,.inl (br.of aaF),lkp,skp,λy hy=>?_,aL (By st.tab) ∅,λzd G4 Ca JF rc=>?_}
  ·obtain⟨x,hx,t,ht,rfl⟩:=W4 hy;obtain⟨g1,g2⟩:=mo.row x hx;obtain⟨g3,g4⟩:=Lj st.tab ht;refine{by rw[aM,aM,g1,g3],λz hz=>?_};rcases aY.mp hz with hz|hz
   ·exact g2 z hz
   ·exact g4 z hz
  have NA:=Ca _ _ Nz;refine{_,rfl,self,C,dx,_,rfl,NA,O.c,O.maps,by show 4<1000;decide,?_};have KF:SB self G4 (upd G4 self (.ins C dx (c8 "maps" (.ref zd) [("tables",.ref tb),("kept",.ref qN),("maps",.ref md),("tails",.ref td)]))):=λb u n e=>by rw[aH n];exact e
  have ZS:upd G4 self (.ins C dx (c8 "maps" (.ref zd) [("tables",.ref tb),("kept",.ref qN),("maps",.ref md),("tails",.ref td)])) self=some (.ins C dx [("tables",.ref tb),("kept",.ref qN),("maps",.ref zd),("tails",.ref td)]):=by rw[ar];rfl
  generalize (upd G4 self (.ins C dx (c8 "maps" (.ref zd) [("tables",.ref tb),("kept",.ref qN),("maps",.ref md),("tails",.ref td)])))=HF at KF ZS⊢;have Y4:jC G4 self:=As NA;have nlF:∀l,G4 self≠some (.lst l):=λl e=>by rw[NA]at e;cases e
  have tpF:=KF.tp Y4;have m2s:zd≠self:=λz=>by rw[z,Nz]at JF;cases JF
  have m2t:zd≠td:=λz=>by obtain⟨u,h⟩:=VF.at_.some;rw[z,h]at JF;cases JF
  have aaE:=Ca _ _ aaF;have cF:jn P w K HF td (td::zd::ex) fs UW:=by
   have Q2:G4 td=MI td:=by obtain⟨u,h⟩:=VF.at_.some;rw[h,Ca _ _ h]
   have eF:HF td=G4 td:=by obtain⟨u,h⟩:=VF.at_.some;rw[Q2,h,KF _ _ tds (by rw[Q2];exact h)]
   refine VF.to ((dk.same Ca).trans tpF) (by rw[eF,Q2]) λd f tv=>(((tv.more JF).same Ca).fr (λb u n e=>KF _ _ (λz=>n (by rw[z];simp)) e) tpF).less λb hb=>?_;simp only[aF]at hb⊢;rcases hb with h|h|h<;>simp[h]
  refine k qN zd HF (λb u n1 n2 e=>?_) {ZS,(abf.same Ca).sb KF Y4 nlF HG,?_,?_,⟨UW,cF,lc⟩,m2t,st.nt,λz=>?_}
  ·exact KF _ _ n2 (Ca _ _ (KS _ _ n2 (VL _ _ n1 e)))
  ·rw[Mh];exact KF _ _ (λz=>nlF _ (by rw[<-z];exact aaE)) aaE
  ·rw[Mh];exact rc.c.sb KF Y4 m2s
  ·obtain⟨n,u,e⟩:=hex _ z;rw[K0 _ _ n e]at Tg;cases Tg
inductive HU(P:Program)(w:World)(K:Frag)(C:Addr)(vs:Aam)(H:Hp)(Q:VK)(_x3:XK):Prop
 |mk (self tb dx:Addr) (fs:List En) (_:vs=[.ref self,.ref tb]) (_:H self=some (.ins C dx [])) (_:j8 K H tb fs) (_:∀(kl md td:Addr)(H':Hp),SB self H H'->H td=none->iy P w K C H' self dx tb kl md td [] fs [] [([],1)] 0->Q .cb H')
def G7:cv ["self","tables"] ["self","tables"] (defScope uA):=iO (by decide+kernel)
def Sz(F:eX K "__init__" "Asking.__init__" uA f fd)(T:Txt K mg)(O:DK K C):cU P w K mg base fm 1 f fd ["self","tables"] (HU P w K C):=by
 refine F.ok G7 (λ_ _ _ _ h=>by cases h;subst_vars;rfl) (λc6 A outer s H vs Q E hr h=>?_);obtain⟨self,tb,dx,fs,rfl,hs,tab,k⟩:=h;refine{_,(aK (xk (pv 0) (pv 1) rfl) (aK (xk (pv 0) (fq gZ) rfl) (aK (xk (pv 0) (Pa (yB hr) (Sg (dX gZ) aS WA) rfl rfl (by simp) (by show 1<=15;decide)) rfl) (aT (xk (pv 0) kD rfl))))),?_}
 have Cd:∀{H:Hp}{l:List (Str×V)},H self=some (.ins C dx l)->jC H self/\(∀q,H self≠some (.lst q)):=λe=>{As e,λq e'=>by rw[e]at e';cases e'};have up:∀{H:Hp}{o:HO},SB self H (upd H self o):=λb u n e=>aH n▸e;have HG:tb≠self:=λz=>by rw[<-z,tab.at_]at hs;cases hs
 refine{_,rfl,_,rfl,self,C,dx,[],rfl,hs,O.c,O.tables,by decide,?_};have Yb:=tab.sb (up (o:=.ins C dx (c8 "tables" (.ref tb) []))) (Cd hs).1 (Cd hs).2 HG;have sb1:SB self H (upd H self (.ins C dx (c8 "tables" (.ref tb) []))):=up;have Es:upd H self (.ins C dx (c8 "tables" (.ref tb) [])) self=some (.ins C dx [("tables",.ref tb)]):=ar;generalize (upd H self (.ins C dx (c8 "tables" (.ref tb) [])))=H1 at Yb sb1 Es⊢;refine{by show 0<=sizeLine;decide,λkl hkl=>?_};have s2:=aC hkl (.lst ([]:Aam));have Ez:upd H1 kl (.lst ([]:Aam)) kl=some (.lst []):=ar;have MP:=Yb.same s2;have D5:=sb1.trans (SB.same s2);have kR:=s2 _ _ Es;generalize (upd H1 kl (.lst ([]:Aam)))=H2 at s2 Ez MP D5 kR⊢;refine{_,rfl,self,C,dx,_,rfl,kR,O.c,O.kept,by show 1<1000;decide,?_};have RN:=MP.sb (up (o:=.ins C dx (c8 "kept" (.ref kl) [("tables",.ref tb)]))) (Cd kR).1 (Cd kR).2 HG;have Ic:=D5.trans (up (o:=.ins C dx (c8 "kept" (.ref kl) [("tables",.ref tb)])));have ZI:kl≠self:=λz=>by rw[<-z,Ez]at kR;cases kR
 have hk3:=(up (o:=.ins C dx (c8 "kept" (.ref kl) [("tables",.ref tb)]))) _ _ ZI Ez;have Mb:upd H2 self (.ins C dx (c8 "kept" (.ref kl) [("tables",.ref tb)])) self=some (.ins C dx [("tables",.ref tb),("kept",.ref kl)]):=by rw[ar];rfl
 generalize (upd H2 self (.ins C dx (c8 "kept" (.ref kl) [("tables",.ref tb)])))=H3 at RN Ic hk3 Mb⊢;intro md hmd;have s4:=aC hmd (.dK []);have JG:upd H3 md (.dK []) md=some (.dK []):=ar;generalize (upd H3 md (.dK []))=H4 at s4 JG⊢;refine{by show 0<=sizeLine;decide,λe he=>?_};have s5:=aC he (.tup ([]:Aam));have he5:upd H4 e (.tup ([]:Aam)) e=some (.tup []):=ar;generalize (upd H4 e (.tup ([]:Aam)))=H5 at s5 he5⊢;have key:hV K H5 (fD []) e:=yz (bf.of he5) λz hz=>by cases hz
 have v5:=s5 _ _ JG;refine{e,fD [],.int 1,rfl,key,v5,?_};have UA:=s4.trans s5;have um:SB md H5 (upd H5 md (.ext (DN P w md [(fD [],e,.int 1)]))):=λb u n q=>aH n▸q;have Gn:=yw v5;have nm:∀{b:Addr}{u:HO},H3 b=some u->b≠md:=λe z=>by rw[z,hmd]at e;cases e
 have X9:=(RN.same UA).sb um Gn (λl q=>by rw[v5]at q;cases q) (nm RN.at_);have Mi:=um _ _ (nm hk3) (UA _ _ hk3);have Qo:=um _ _ (nm Mb) (UA _ _ Mb);have rc6:RowC P w K (upd H5 md (.ext (DN P w md [(fD [],e,.int 1)]))) md [([],1)]:={[(fD [],e,.int 1)],{.inl ar,λp hp=>by cases au.mp hp;exact xw key (um.tp Gn)},rfl}
 have lQ:SB self H (upd H5 md (.ext (DN P w md [(fD [],e,.int 1)]))):=λb u n q=>um _ _ (nm (Ic _ _ n q)) (UA _ _ (Ic _ _ n q));generalize hH6:(upd H5 md (.ext (DN _ _ md _)))=H6;have e6:(upd H5 md (.ext (DN P w md [(fD [],e,.int 1)])))=H6:=hH6;rw[e6]at X9 Mi Qo rc6 lQ;refine{_,rfl,self,C,dx,_,rfl,Qo,O.c,O.maps,by show 2<1000;decide,?_};have ms:=bY (nm Mb);have RM:=X9.sb (up (o:=.ins C dx (c8 "maps" (.ref md) [("tables",.ref tb),("kept",.ref kl)]))) (Cd Qo).1 (Cd Qo).2 HG;have zY:=lQ.trans (up (o:=.ins C dx (c8 "maps" (.ref md) [("tables",.ref tb),("kept",.ref kl)])));have hk7:=(up (o:=.ins C dx (c8 "maps" (.ref md) [("tables",.ref tb),("kept",.ref kl)]))) _ _ ZI Mi;have YK:=rc6.sb (up (o:=.ins C dx (c8 "maps" (.ref md) [("tables",.ref tb),("kept",.ref kl)]))) (Cd Qo).1 ms;have U9:upd H6 self (.ins C dx (c8 "maps" (.ref md) [("tables",.ref tb),("kept",.ref kl)])) self=some (.ins C dx [("tables",.ref tb),("kept",.ref kl),("maps",.ref md)]):=by rw[ar];rfl
 generalize (upd H6 self (.ins C dx (c8 "maps" (.ref md) [("tables",.ref tb),("kept",.ref kl)])))=H7 at RM zY hk7 YK U9⊢;intro td GD;have s8:=aC GD (.dK []);have Cs:upd H7 td (.dK []) td=some (.dK []):=ar;have Qn:=s8 _ _ U9;have nt:∀{b:Addr}{u:HO},H7 b=some u->b≠td:=λe z=>by rw[z,GD]at e;cases e
 have h0:H td=none:=by
  cases q:H td with
  |none=>rfl
  |some u=>rw[zY _ _ (λz=>by rw[z,U9]at GD;cases GD) q]at GD;cases GD
 generalize (upd H7 td (.dK []))=H8 at s8 Cs Qn⊢;refine{_,rfl,self,C,dx,_,rfl,Qn,O.c,O.tails,by show 3<1000;decide,?_};have us:=up (H:=H8) (o:=.ins C dx (c8 "tails" (.ref td) [("tables",.ref tb),("kept",.ref kl),("maps",.ref md)]));have mt:md≠td:=by obtain⟨_,h,_⟩:=YK;obtain⟨_,h⟩:=h.some;exact nt h
 refine k kl md td _ (zY.trans ((SB.same s8).trans us)) h0 {by rw[ar];rfl,(RM.same s8).sb us (Cd Qn).1 (Cd Qn).2 HG,us _ _ ZI (s8 _ _ hk7),(YK.same s8).sb us (Cd Qn).1 ms,{[],{BF (us _ _ (bY (nt U9)) Cs),λa known v h=>by cases h},ao _},mt,nt RM.at_,λz=>by cases z}
def LO(he:PE X e ta)(hb:attributeBase e f X.env (eval e X.env)=eval e X.env:=by rfl):PE X (.Attribute e f pos) (RQ X.K ta f):=lU he hb
def Kq(P:Program)(w:World)(K:Frag)(mg:Aab)(base:Heap)(C:Addr)(k:Nat)(x:Str)(ps:Aaf)(sp:Sp):Prop:=∃f fd,Mk K C f/\cU P w K mg base fm k f fd ps sp/\mg x=some (.ref C)/\Binds K fd ps []
def mkO(D:Kq X.prog X.w X.K X.mg X.base C k x ps sp)(hr:gx j X.A)(ha:PA X (e::es) t)(hk:k+1<=j)(hg:Gl X x:=by rfl)
  (AM:(x==("__debug__":Str))=false:=by decide) (he:starEach (e::es) X.env=(false,eval e X.env)::starEach es X.env:=by rfl) (nh:(backTo pos (starEach es X.env)).any (·.1)=false:=by rfl):
  PE X (.Call (.Name x p) (e::es) [] pos) (Us C sp [] E0 t):=by
 obtain⟨f,fd,M,F,m,b⟩:=D;exact WH M F (hr.mono hk) hg m b .nil Nc ha AM he nh
def Good(ats:R0):Prop:=∀a∈ats,a.2.length<=4/\(∀z∈a.2,Be z)/\1<=a.2.length/\Kn a.1
def Ks(hz:Aaf)(ats:R0):Prop:=hz.length<=4/\∀z∈hz,Be z/\(isUnk z=true->z∈cZ ats)
def Bw(h:Be z):PyData.strOk z=true/\z.length<=1000:={h.2.2,aL h.2.1 (by decide)}
def WX(h:Kn z):PyData.strOk z=true:=h.2.2
def Xg(g:Good ats):∀a∈ats,FinA a:=λa ha=>by obtain⟨h1,h2,_,h4⟩:=g a ha;exact{h1,WX h4,λz hz=>(Bw (h2 z hz)).1,λz hz=>(Bw (h2 z hz)).2}
def CI:z∈eP ts↔isUnk z=true/\z∈ts:=by
 constructor
 ·intro h;have gen:∀(l acc:Aaf),(∀t∈acc,isUnk t=true)->∀t∈l.foldl step acc,isUnk t=true:=by
   intro l
   induction l with
   |nil=>intro acc h t ht;exact h t ht
   |cons x l ih=>
    intro acc h t ht;refine ih _ (λy hy=>?_) t ht;unfold step at hy;split at hy
    ·next c=>
     split at hy
     ·exact h y hy
     ·rcases aY.mp hy with hy|hy
      ·exact h y hy
      ·rw[au.mp hy];exact c
    ·exact h y hy
  exact{gen ts [] (λt ht=>by cases ht) z h,(ug h).resolve_left λh=>by cases h}
 ·exactλ⟨h1,h2⟩=>WY h1 h2
structure AskJ(fs:List En)(ats:R0)(hz:Aaf)(S lf:R0)(kept:Aaf)(maps:Cm):Prop extends AskP.AskI isUnk (dbT fs) ats hz S lf kept maps where
 fw:maps.length<=5^S.length
 ls:S.length+lf.length=ats.length
def PF(tab:j8 K H tb fs)(g:Good ats)(la:ats.length<=4)(h:AskJ fs ats hz S lf kept maps):E2 kept maps/\kept.length<=16:=by
 have hk:∀t∈kept,isUnk t=true/\t∈cZ ats/\Be t:=λt ht=>by obtain⟨u,⟨b,hb,U7⟩,_⟩:=(h.kt t).mp ht;have hb:=(h.at_ b).mpr (.inl hb);exact{u,sv.mpr ⟨b,hb,U7⟩,(g b hb).2.1 t U7}
 have l6:kept.length<=16:=aL (jf (m:=cZ ats) h.nd λt ht=>(hk t ht).2.1) (aL (Bz ats λa ha=>(g a ha).1) ∅);have hv:∀a∈ats,∀r∈dbT fs a.1,∀x∈r,x∈iA:=λa _ r hr x hx=>((tab.good a.1).2 r ((ku _ _).mp hr)).2.2 x hx;refine{{h.nd,λt ht=>(Bw (hk t ht).2.2).1,by lia,λx hx=>{h.len hx,λz hz=>zP (h.vals hv hx z hz)},aL h.fw (aL (fZ (n:=5) (j:=4) (by decide) (by have:=h.ls;lia)) (by decide))},l6}
structure XC(fs:List En)(hz:Aaf)(ats:R0)(m:Cm):Prop where
 nd:(m.map (·.1)).Nodup
 iff:∀row,row∈m.map (·.1)↔∃g,AskP.mM isUnk (dbT fs) ats g/\row=hz.map g
 gj:m.length<=900
inductive HW(P:Program)(w:World)(K:Frag)(vs:Aam)(H:Hp)(Q:VK)(_x3:XK):Prop
 |mk (v:V) (tb:Addr) (fs:List En) (hz:Aaf) (ats:R0) (_:vs=[v,.ref tb]) (_:wg H v hz ats) (_:Good ats) (_:Ks hz ats) (_:ats.length<=4) (_:j8 K H tb fs) (_:∀(d:Addr)(m:Cm)(H':Hp),aQ H H'->Om P w K H' d m->XC fs hz ats m->Q (.ref d) H')
structure Dc6(P:Program)(w:World)(K:Frag)(mg:Aab)(base:Heap)(C:Addr):Prop where
 SU:Kq P w K mg base C 1 "Asking" ["self","tables"] (HU P w K C)
 uQ:qC P w K mg base C 6 "best_place" ["self","atoms"] (OK P w K C)
 Je:qC P w K mg base C 6 "take" ["self","atom","needed"] (OH P w K C)
 needed_terms:cR P w K mg base 1 "needed_terms" ["head","atoms"] (HV K)
 narrowed:cR P w K mg base 3 "narrowed" ["counted_maps","unknowns","terms"] (yb P w K)
theorem Am:∀{aad:List α}{aac:List β}(i:Nat),Paired F aad aac->Paired F (aad.eraseIdx i) (aac.eraseIdx i)
 |_,_,_,.nil=>.nil
 |_,_,0,.cons _ t=>t
 |_,_,i+1,.cons q t=>.cons q (Am i t)
def KU{α:Type}{l:List α}{a:α}(h:l[i]?=some a):l=l.take i++a::l.drop (i+1)/\l.eraseIdx i=l.take i++l.drop (i+1):=by obtain⟨hi,e⟩:=aw.mp h;refine{?_,pP _ _};rw[<-e,<-mS hi,pO]
def iy.exL(x:iy P w K C H self dx tb kl md td ex fs kept maps n)(s:SB ll H H')(m:ll∈ex)(hl:H ll=some (.lst ys))(tab:j8 K H' tb fs):iy P w K C H' self dx tb kl md td ex fs kept maps n:=by
 have nt:=kr hl;obtain⟨kvs,c,l⟩:=x.zN;obtain⟨qM,hm,em⟩:=id x.vS;refine{s _ _ (λz=>?_) x.ins,tab,s _ _ (λz=>x.ke (z▸m)) x.xv,x.vS.sb s nt (λz=>hm.tX _ (z▸hl)),{kvs,c.fr (λb u n e=>s _ _ (λz=>n (by rw[z];exact az _ (az _ m))) e) (s.tp nt) ?_,l},x.nm,x.nt,x.ke}
 ·have q:=x.ins;rw[z,hl]at q;cases q
 ·obtain⟨u,h⟩:=c.at_.some;rw[h,s _ _ (λz=>c.at_.tX _ (by rw[z];exact hl)) h]
def kN:cv ["question","tables","head","atoms","asking","left","atom"] ["question","tables"] (defScope wC):=iO (by decide+kernel)
def IT(F:eX K "counts_of" "counts_of" wC f fd)(T:Txt K mg)(O:DK K C)(D:Dc6 P w K mg base C):cU P w K mg base fm 7 f fd ["question","tables"] (HW P w K):=by
 refine F.ok kN (λ_ _ _ _ h=>by cases h;subst_vars;rfl) (λc6 A outer s H vs Q E hr h=>?_);obtain⟨v,tb,fs,hz,ats,rfl,⟨q,hd,aa,ir,rfl,hq,GI,xH,ix⟩,good,bw,la,tab,k⟩:=h;have hu:=qh hr;have hN:=yB hr;have cC:=O.c;refine{_,(aK (uF (pv 0) (ko rfl (cT (iZ 2 kN) (cT (iZ 3 kN) iY)))) (aK (d8 4 kN (mkO D.SU hr (b5 (pv 1)) ∅)) (aK (d8 5 kN (da u0 rfl T.rY (by decide+kernel) (b5 (pv 3)))) (aK (Se bO (Iq (pv 5) (λ_=>rfl)) (aK (d8 6 kN (lG b9 PySem.F.slot_list_pop PySem.F.type_list_pop SH (pv 5) (b5 (LU cC D.uQ hr (pv 4) (b5 (pv 5)) ∅)))) (aT (iW (LU cC D.Je hr (pv 4) (cD (pv 6) (cl D.needed_terms hr (cD (pv 2) (pv 5)))) ∅))))) (aT (b8 (cl D.narrowed hr (uI (da (EU hr.hd) rfl T.rY (by decide+kernel) (b5 (Gh (LO (pv 4))))) (LO (pv 4)) (pv 2))))))))),?_}
 refine CQ λR eR=>?_;refine{_,rfl,q,_,rfl,bf.of hq,rfl,_,_,rfl,_,_,rfl,rfl,?_};refine m5 (T:=R) eR λR eR=>?_;refine{_,rfl,λx dx hx hdx ne=>?_};have s1:aQ H (upd (upd H dx (.own x)) x (.ins C dx [])):=λb u h=>by rw[aH (bc h hx),aH (bc h hdx)];exact h
 have hx1:upd (upd H dx (.own x)) x (.ins C dx []) x=some (.ins C dx []):=ar;generalize (upd (upd H dx (.own x)) x (.ins C dx []))=H1 at s1 hx1⊢;refine{x,tb,dx,fs,rfl,hx1,tab.same s1,λkl md td H2 D5 GD pF=>{rfl,?_}};have h0t:H td=none:=s1.free GD;have oo:aQ H H2:=λb u e=>D5 _ _ (bc e hx) (s1 _ _ e);refine m5 (T:=R) eR λR eR=>?_;refine{_,rfl,aa,ir,rfl,.inr (bf.of (oo _ _ xH)),λll Mg=>?_};have s3:=aC Mg (.lst ir);have tu:upd H2 ll (.lst ir) ll=some (.lst ir):=ar;have pG:=oo.trans s3;have h0l:H ll=none:=oo.free Mg;have ux:iy P w K C (upd H2 ll (.lst ir)) x dx tb kl md td [ll] fs [] [([],1)] 0:=by
  obtain⟨kvs,ck,l⟩:=pF.zN;have c3:jn P w K H2 td (td::md::[ll]) fs kvs:={ck.at_,λa known v h=>by
   obtain⟨d,e,tv⟩:=ck.all a known v h;exact{d,e,(tv.more Mg).less λb hb=>by simp only[aF,vo,or_false]at hb⊢;rcases hb with h|h|h<;>simp[h]}}
  have y:=pF.same s3;exact{y.ins,y.tab,y.xv,y.vS,{kvs,c3.same s3,l},y.nm,y.nt,λz=>bc pF.xv Mg (au.mp z)}
 generalize (upd H2 ll (.lst ir))=H3 at s3 tu pG ux⊢;clear s3 pF D5 oo Mg;have fin:=Xg good;refine m5 (T:=R) eR λR eR=>?_;refine{λm Z H4=>∃(kl md n:Nat)(ys:Aam)(lf S:R0)(kept:Aaf)(maps:Cm)(x6:Aan),m=lf.length/\Z=[some (.ref q),some (.ref tb),some (.ref hd),some (.ref aa),some (.ref x),some (.ref ll),x6]/\aQ H H4/\iy P w K C H4 x dx tb kl md td [ll] fs kept maps n/\H4 ll=some (.lst ys)/\bR H4 ys lf/\AskJ fs ats hz S lf kept maps/\n+101*lf.length<=808,
  {ats.length,kl,md,0,ir,ats,[],[],[([],1)],none,rfl,rfl,pG,ux,tu,Ba ix pG,{AskP.AskI.start,ao _,vi _},by lia},?_}
 rintro m Z H4 ⟨kl,md,n,ys,lf,S,kept,maps,x6,rfl,rfl,s4,vN,mI,ng,aj,hn⟩;have ly:ys.length=lf.length:=a9 ng;obtain⟨mo,l6⟩:=PF vN.tab good la aj;obtain⟨nt4,UK⟩:=vN.LP;have Zz:∀b∈lf,b∈ats:=λb hb=>(aj.at_ b).mpr (.inr hb);have lla:lf.length<=8:=by lia
 refine{_,rfl,_,.inl {_,br.of mI,rfl},?_};cases Ct:lf with
 |cons a0 lr=>
  have jw:0<lf.length:=by rw[Ct];exact qA _
  have Z3:(!ys.isEmpty)=true:=by
   cases ys with
   |nil=>rw[<-ly]at jw;exact absurd jw (dy _)
   |cons _ _=>rfl
  rw[Z3];rw[<-Ct];have UR:ll≠td:=λz=>UK _ (by rw[<-z];exact mI);refine wG {_,λσ' H' h=>h,?_};refine{_,rfl,.inl {rfl,_,br.of mI},_,rfl,x,dx,_,rfl,vN.ins,rfl,_,rfl,x,ll,dx,tb,kl,md,td,[ll],fs,kept,maps,n,ys,lf,rfl,vN,mI,ng,λb hb=>fin b (Zz b hb),jw,by lia,mo,by lia,λb hb=>{by rw[au.mp hb];exact UR,.lst ys,by rw[au.mp hb];exact mI},λi H5 hi Ga om=>?_};have v7:=Ga _ _ UR mI;have Z2:=EV ng Ga nt4;have s5:aQ H H5:=λb u e=>Ga _ _ (bc e h0t) (s4 _ _ e);obtain⟨a,ha⟩:∃a,lf[i]?=some a:={_,aq hi};obtain⟨y,hy⟩:∃y,ys[i]?=some y:={_,aq ∅};obtain⟨a',ha',hya⟩:=Paired.at Z2 hy;rw[ha]at ha';cases ha';obtain⟨ap,at_,rfl,_⟩:=id hya;have fa:=fin a (Zz a (aE ha));refine{ll,ys,i,i,.ref ap,rfl,rfl,v7,by lia,by lia,PySem.StrLaws.seqIndex_nonneg ∅ ∅,hy,?_};have lQ:SB ll H5 (upd H5 ll (.lst (ys.eraseIdx i))):=λb u n e=>by rw[aH n];exact e
  have pJ:jC H5 ll:=kr v7;have ot:upd H5 ll (.lst (ys.eraseIdx i)) ll=some (.lst (ys.eraseIdx i)):=ar;have s6:aQ H (upd H5 ll (.lst (ys.eraseIdx i))):=λb u e=>lQ _ _ (bc e h0l) (s5 _ _ e);have SX:=EV (Am i Z2) lQ pJ;have Z4:=Bb hya lQ pJ;have lN:iy P w K C (upd H5 ll (.lst (ys.eraseIdx i))) x dx tb kl md td [ll] fs kept maps (n+100):=om.exL lQ ay v7 (tab.same s6);generalize (upd H5 ll (.lst (ys.eraseIdx i)))=H6 at lQ ot s6 SX Z4 lN⊢;obtain⟨e1,e2⟩:=KU ha;have lfe:∀b∈lf.eraseIdx i,b∈lf:=λb hb=>List.mem_of_mem_eraseIdx hb;have Zx:(lf.eraseIdx i).length=lf.length -1:=lZ hi;refine{_,rfl,x,dx,_,rfl,lN.ins,rfl,_,rfl,_,rfl,_,rfl,hd,ll,hz,ys.eraseIdx i,lf.eraseIdx i,rfl,bf.of (s6 _ _ GI),br.of ot,SX,?_,by lia,λb hb=>?_,λnd H7 s7 NR hnd=>?_}
  ·have:=bw.1;lia
  ·have:=(fin b (Zz b (lfe b hb))).1;lia
  have xc:=lN.same s7;have Zj:nd≠td:=λz=>by obtain⟨_,c,_⟩:=lN.zN;obtain⟨_,h⟩:=c.at_.some;rw[z,h]at NR;cases NR
  refine{x,ap,nd,dx,tb,kl,md,td,[ll],fs,kept,maps,n+100,a,λz=>decide (z∈hz\/∃b∈lf.eraseIdx i,z∈b.2),rfl,xc,rT Z4 s7,fa,mo,by lia,by lia,?_,Zj,λb hb=>{by rw[au.mp hb];exact UR,.lst (ys.eraseIdx i),by rw[au.mp hb];exact s7 _ _ ot},λqN zd H8 Vz st8=>?_}
  ·obtain⟨kvs,h1,h2⟩:=hnd;exact{kvs,h1,λz=>(h2 z).trans iQ.symm}
  have Zl:∀{l:Aam}{b:Addr},H7 b=some (.lst l)->b≠x:=λ{l b} e z=>by have:=xc.ins;rw[<-z,e]at this;cases this
  have qO:=s7 _ _ ot;have Vg:=Vz _ _ UR (Zl qO) qO;have ade:bR H8 (ys.eraseIdx i) (lf.eraseIdx i):=by
   have h7:=Ba SX s7;obtain⟨nt7,_⟩:=xc.LP;generalize ys.eraseIdx i=ye at h7⊢;generalize lf.eraseIdx i=le at h7⊢;clear Vg qO
   induction h7 with
   |nil=>exact .nil
   |cons h _ ih=>
    obtain⟨p,t,e,h1,h2⟩:=h;have nx:∀{b:Addr}{l:Aam},H7 b=some (.tup l)->b≠td/\b≠x:=λ{b l} e=>{λz=>nt7 _ (.inl (by rw[<-z];exact e)),λz=>by have:=xc.ins;rw[<-z,e]at this;cases this}
    exact .cons {p,t,e,Vz _ _ (nx h1).1 (nx h1).2 h1,Vz _ _ (nx h2).1 (nx h2).2 h2} ih
  have s8:aQ H H8:=λb u e=>Vz _ _ (bc e h0t) (bc e hx) (s7 _ _ (s6 _ _ e));have aj8:AskJ fs ats hz (a::S) (lf.eraseIdx i) ((kept++gL kept a.2).filter λz=>decide (z∈hz\/∃b∈lf.eraseIdx i,z∈b.2)) (AskP.narrowed (Cj fs kept a maps) (kept++gL kept a.2) ((kept++gL kept a.2).filter λz=>decide (z∈hz\/∃b∈lf.eraseIdx i,z∈b.2))):=by
   rw[e1]at aj;have:=aj.step (known:=j3 kept a.2) (fresh:=gL kept a.2) (need:=λz=>decide (z∈hz\/∃b∈lf.eraseIdx i,z∈b.2)) (λt=>?_) ((DS a.2).sublist qS) rfl (λt=>?_)
   ·rw[<-e2]at this;refine{this,aL AskP.Au (aL (By (K:=K) tab) ?_),by have:=aj.ls;rw[Zx,bu];rw[<-e1]at this;lia};rw[bu,iS,Bl];exact Nat.mul_le_mul_right _ aj.fw
   ·unfold gL;rw[bS,iQ,CI];exact{λh=>{h.1.2,h.1.1,h.2},λh=>{{h.2.1,h.1},h.2.2}}
   ·rw[iQ,e2]
  exact{_,by rw[Zx];lia,qN,zd,n+100+1,ys.eraseIdx i,lf.eraseIdx i,a::S,_,_,_,rfl,rfl,s8,st8,Vg,ade,aj8,by rw[Zx];lia}
 |nil=>
  have Z3:ys=[]:=ff.mp (by rw[ly,Ct];rfl);rw[Z3];refine uS ?_;rw[Ct]at aj;obtain⟨qM,JG,em⟩:=id vN.vS;refine Fd (T:=R) eR ?_;refine{_,rfl,x,C,dx,_,_,rfl,vN.ins,O.c,O.maps,rfl,md,qM,rfl,JG,λvw Qh=>?_};have s5:=aC Qh (.ext (nO vw md));have Qi:upd H4 vw (.ext (nO vw md)) vw=some (.ext (nO vw md)):=ar;have om:=vN.same s5;have v5:fK P w K (upd H4 vw (.ext (nO vw md))) md qM:=by obtain⟨u,h⟩:=JG.some;exact JG.tp (dk.same s5) (by rw[h,s5 _ _ h])
  generalize (upd H4 vw (.ext (nO vw md)))=H5 at s5 Qi om v5⊢;refine{vw,md,qM,rfl,Qi,v5,λl zs H6 s6 jO ot hps=>?_};have s6:aQ H5 H6:=s6;have lN:=om.same s6;have xh:=s4.trans (s5.trans s6);have pc:Paired (wj K H6) zs maps:=by
   have hk:∀p∈qM,NV K H6 p.1 (.ref p.2.1):=λp hp=>Nl (dk.same s6) _ _ (v5.2 p hp).1;clear ot v5 JG;generalize maps=mm at em
   induction qM generalizing zs mm with
   |nil=>
    cases mm with
    |nil=>cases hps;exact .nil
    |cons _ _=>cases em
   |cons p qM ih=>
    cases mm with
    |nil=>cases em
    |cons y mm=>
     injection em with em1 em2;cases hps with
     |cons h t=>
      obtain⟨b,rfl,hb⟩:=h;have e1:p.1=fD y.1:=cc Prod.fst em1;have e2:p.2.2=V.int y.2:=cc Prod.snd em1;have hn:=hk p ay;rw[e1]at hn;refine .cons {b,p.2.1,rfl,?_,Ej hn} (ih _ t (λq hq=>hk q (az _ hq)) _ em2);rw[<-e2];exact bf.of hb
  have lh:=bw.1;refine{_,rfl,x,C,dx,_,_,rfl,lN.ins,O.c,O.kept,rfl,_,rfl,l,kl,hd,zs,maps,kept,hz,rfl,br.of ot,pc,br.of lN.xv,mo.nd,mo.len,.inr (bf.of (xh _ _ GI)),by lia,λz il=>(Bw (bw.2 z il).1).1,mo.row,aL mo.gj (by decide),λd H7 s7 gH rc=>?_};refine k d _ H7 (xh.trans s7) rc {AskP.rm,aj.end_ λt ht u=>?_,?_}
  ·have:=(bw.2 t ht).2 u;unfold cZ at this;obtain⟨ts,j4,h⟩:=vq.mp this;obtain⟨b,hb,rfl⟩:=aJ.mp j4;exact⟨b,hb,h⟩
  ·exact aL AskP.Au (aL aj.fw (aL (fZ (n:=5) (j:=4) (by decide) (by have:=aj.ls;lia)) (by decide)))
inductive F4(K:Frag)(vs:Aam)(H:Hp)(Q:VK)(_x3:XK):Prop
 |mk (v:V) (tb:Addr) (fs:List En) (hz:Aaf) (ats:R0) (_:vs=[v,.ref tb]) (_:wg H v hz ats) (_:Good ats) (_:Ks hz ats) (_:ats.length<=4) (_:j8 K H tb fs) (_:(∀rows:R1,rows.Nodup->(∀row∈rows,∃g,AskP.mM isUnk (dbT fs) ats g/\row=hz.map g)->rows.length<64)) (_:∀(l:Addr)(zs:Aam)(rows:R1)(H':Hp),aQ H H'->H l=none->H' l=some (.lst zs)->eW K H' zs (dc rows)->rows.Nodup->(∀row,row∈rows↔∃g,AskP.mM isUnk (dbT fs) ats g/\row=hz.map g)->(∀z∈zs,∃a xs,z=.ref a/\H' a=some (.tup xs))->rows.length<=900->Q (.ref l) H')
structure Da6(P:Program)(w:World)(K:Frag)(mg:Aab)(base:Heap):Prop where
 counts_of:cR P w K mg base 7 "counts_of" ["question","tables"] (HW P w K)
def M3:cv ["question","tables"] ["question","tables"] (defScope Ad):=iO (by decide+kernel)
def Nk(F:eX K "answers" "answers" Ad f fd)(T:Txt K mg)(D:Da6 P w K mg base):cU P w K mg base fm 8 f fd ["question","tables"] (F4 K):=by
 refine F.ok M3 (λ_ _ _ _ h=>by cases h;subst_vars;rfl) (λc6 A outer s H vs Q E hr h=>?_);obtain⟨v,tb,fs,hz,ats,rfl,hq,good,bw,la,tab,fw,k⟩:=h;refine{_,(aT (b8 (bP (Ke hr.hd) rfl T.rn (by decide+kernel) (b5 (cl D.counts_of hr (cD (pv 0) (pv 1))))))),?_};refine{_,rfl,_,rfl,v,tb,fs,hz,ats,rfl,hq,good,bw,la,tab,λd m H1 s1 rc cm=>?_};obtain⟨kvs,ha,em,g7⟩:=rc;have e1:kvs.map (·.1)=(m.map (·.1)).map fD:=by have:=cc (List.map Prod.fst) em;unfold sy at this;rw[bW,bW]at this;rw[bW];exact this
 have lr:(m.map (·.1)).length<64:=fw _ cm.nd λr JA=>(cm.iff r).mp JA;refine{d,kvs,m.map (·.1),rfl,ha,e1,λh2 r JA=>?_,by lia,λl zs hl hr hm=>?_}
 ·intro er;obtain⟨g,_,eg⟩:=(cm.iff r).mp JA;rw[er]at eg;have ez:hz=[]:=qR.mp eg.symm;have all:∀y∈m.map (·.1),y∈([[]]:R1):=λy hy=>by obtain⟨g',_,e'⟩:=(cm.iff y).mp hy;rw[e',ez];exact ay
  have:=jf cm.nd all;rw[cV]at this;lia
 ·have s2:=aC hl (.lst zs);refine k l zs _ _ (s1.trans s2) (s1.free hl) ar (jF hr s2) cm.nd cm.iff (λz il=>?_) (by rw[ak];exact cm.gj);obtain⟨p,hp,rfl⟩:=aJ.mp (hm z il);obtain⟨xs,e⟩:=g7 p hp;exact{_,xs,rfl,s2 _ _ e}
abbrev View:=Str×Aaf×R0
def yU(bz:R0)(hz:Aaf)(ats:R0)(rows:R1):Prop:=rows.Nodup/\rows.Pairwise (λa b=>iL a b=true)/\∀r,r∈rows↔∃g,AskP.mM isUnk (dF bz) ats g/\r=hz.map g
def yU.one{bz:R0}{hz:Aaf}{ats:R0}{r1 r2:R1}(a:yU bz hz ats r1)(b:yU bz hz ats r2):r1=r2:=
 C6 ((lY a.1 b.1).mpr λr=>(a.2.2 r).trans (b.2.2 r).symm) a.2.1 b.2.1
def jV(bz:R0):List View->R0->Prop
 |[],cs=>cs=[]
 |x::xs,cs=>∃rows cs',yU bz x.2.1 x.2.2 rows/\cs=(rows.map λr=>(x.1,r))++cs'/\jV bz xs cs'
theorem jV.one{bz:R0}:∀{xs:List View}{c1 c2:R0},jV bz xs c1->jV bz xs c2->c1=c2
 |[],_,_,a,b=>(show _=_ from a).trans (show _=_ from b).symm
 |x::xs,_,_,⟨r1,d1,a1,e1,i1⟩,⟨r2,d2,a2,e2,i2⟩=>by rw[e1,e2,a1.one a2,i1.one i2]
theorem jV.snoc{bz:R0}{x:View}{rows:R1}(h:yU bz x.2.1 x.2.2 rows):∀{xs:List View}{cs:R0},jV bz xs cs->jV bz (xs++[x]) (cs++rows.map λr=>(x.1,r))
 |[],_,e=>by have e:_=_:=e;subst e;exact{rows,[],h,by rw[mQ,cJ],rfl}
 |y::xs,_,⟨r1,d1,a1,e1,i1⟩=>{r1,_,a1,by rw[e1,jx],jV.snoc h i1}
def yP(H:Hp)(v:V)(x:View):Prop:=∃p q,v=.ref p/\H p=some (.tup [.str x.1,q])/\wg H q x.2.1 x.2.2
structure EZ(bz:R0)(x:View):Prop where
 good:Good x.2.2
 bw:Ks x.2.1 x.2.2
 l4:x.2.2.length<=4
 gj:∀rows:R1,rows.Nodup->(∀row∈rows,∃g,AskP.mM isUnk (dF bz) x.2.2 g/\row=x.2.1.map g)->rows.length<64
def yP.keep{H H':Hp}(t:cE H H'){v:V}{x:View}(h:yP H v x):yP H' v x:=by obtain⟨p,q,e,h1,h2⟩:=h;exact{p,q,e,t _ _ h1,h2.keep t}
def OB{H H':Hp}{p:Addr}{rws:R0}{fs:List En}(t:Told K H H' p rws fs)(l5:rws.length<=5)(g:∀a∈rws,ki a.2):j8 K H' p fs:={t.at_,t.nm,λe he=>by
 obtain⟨_,_,h3,h4,h5,_⟩:=t.en e he;refine{h3,h4,?_,λr hr=>?_}
 ·rw[h5];exact aL (jf ((cW _).nodup_iff.mpr (tW _)) λr hr=>(ku r _).mp hr) (aL yj l5)
 ·rw[h5]at hr;exact g _ (iK.mp ((ku r _).mp hr))}
def CJ{H H':Hp}{p:Addr}{rws:R0}{fs:List En}(t:Told K H H' p rws fs){ats:R0}{g:Str->Str}:AskP.mM isUnk (dbT fs) ats g↔AskP.mM isUnk (dF rws) ats g:=by
 have e:∀z r,r∈dbT fs z↔r∈dF rws z:=λz r=>by
  have u:r∈dbT fs z↔r∈fN fs z:=ku _ _;rw[u];by_cases c:z∈fs.map (·.nm)
  ·obtain⟨e,he,rfl⟩:=aJ.mp c;obtain⟨_,_,_,_,h5,_⟩:=t.en e he;rw[qY t.nm he,h5];exact ku _ _
  ·have e1:fN fs z=[]:=by unfold fN;rw[nN.mpr λe he q=>c (by rw[<-aW q];exact bT he)]
   rw[e1];exact{λh=>(by cases h),λh=>absurd (t.all _ (iK.mp h)) c}
 exact mL λ_=>{λh a ha=>(e _ _).mp (h a ha),λh a ha=>(e _ _).mpr (h a ha)}
def Kx.tp{H H':Hp}{v:V}{a:cH.Atom}(h:Kx K H v a)(t:dk H H'):Kx K H' v a:=by obtain⟨b,c,e,h1,h2⟩:=h;exact{b,c,e,kM h1 t,kM h2 t}
def ju.tp{H H':Hp}{ys:Aam}{as:List cH.Atom}(h:ju K H ys as)(t:dk H H'):ju K H' ys as:=by
 induction h with
 |nil=>exact .nil
 |cons h _ ih=>exact .cons (h.tp t) ih
def Xy{H:Hp}{vs:Aam}{ats:R0}(h:bR H vs ats):ju K H vs ats:=by
 induction h with
 |nil=>exact .nil
 |cons h _ ih=>
  obtain⟨p,t,e,h1,h2⟩:=h;exact .cons {p,t,e,bf.of h1,bf.of h2} ih
inductive Fb(K:Frag)(vs:Aam)(H:Hp)(Q:VK)(_x3:XK):Prop
 |mk (vl:Addr) (v:V) (iJ:Aam) (xs:List View) (hz:Aaf) (bz:R0) (_:vs=[.ref vl,v]) (_:br K H vl iJ) (_:Paired (yP H) iJ xs) (_:(∀x∈xs,EZ bz x)) (_:xs.length<=100) (_:wg H v hz bz) (_:bz.length<=5) (_:(∀a∈bz,ki a.2)) (_:∀l zs cs H',aQ H H'->H l=none->H' l=some (.lst zs)->ju K H' zs cs->jV bz xs cs->zs.length<=64*xs.length->Q (.ref l) H')
structure Dca(P:Program)(w:World)(K:Frag)(mg:Aab)(base:Heap):Prop where
 tables_of:cR P w K mg base 3 "tables_of" ["atoms"] (HN K)
 answers:cR P w K mg base 8 "answers" ["question","tables"] (F4 K)
def lP:cv ["views","question","tables","found","name","view"] ["views","question"] (defScope uE):=iO (by decide+kernel)
def Ha{f:Addr}{fd:FuncData}(F:eX K "candidates" "candidates" uE f fd)(T:Txt K mg)(D:Dca P w K mg base):cU P w K mg base fm 9 f fd ["views","question"] (Fb K):=by
 refine F.ok lP (λ_ _ _ _ h=>by cases h;subst_vars;rfl) (λc6 A outer s H vs Q E hr h=>?_);obtain⟨vl,v,iJ,xs,hz,bz,rfl,Cr,AG,zL,lx,⟨q,hd,aa,ir,rfl,hq,GI,xH,ix⟩,l5,gr,k⟩:=h;have lv:iJ.length=xs.length:=a9 AG;refine{_,(aK (d8 2 lP (cl D.tables_of hr (b5 (cB eU (pv 1) aS (λ_ _=>rfl))))) (aK (d8 3 lP (fq gZ)) (aK (fR bO rfl (fX (pv 0)) (ko rfl (cT (mh (i:=4) lP.nd rfl (Or.inr rfl)) (cT (iZ 5 lP) iY))) (aT (iW (lG b9 vc vb Gr (pv 3) (b5 (kg rfl (dO (fs:=["name"]) (fr:=[4])) (fX (cl D.answers hr (cD (pv 5) (pv 2)))) (λ_ _ _ _=>(dX (cD (pv 1) (pv 0)))))))))) (aT (b8 (pv 3)))))),?_}
 refine{_,rfl,_,_,_,_,rfl,rfl,bf.of hq,rfl,aa,ir,bz,rfl,bf.of xH,Xy ix,l5,gr,λtb fs H1 s1 OC=>?_};have tab:=OB OC l5 gr;refine{(by show 0<=sizeLine;decide),λfl EC=>?_};have s2:aQ H1 (upd H1 fl (.lst [])):=aC EC _;have xF:upd H1 fl (.lst []) fl=some (.lst []):=ar;generalize upd H1 fl (.lst [])=H2 at s2 xF⊢;have oo:=s1.trans s2;have QS:H fl=none:=s1.free EC;have MP:=tab.same s2;refine{_,rfl,vl,rfl,{iJ,OF Cr oo},ni (K:=K) (a:=vl) (xs:=iJ) (λi Z H3=>∃(x4 x5:Aan)(zs:Aam)(cs:R0),Z=[some (.ref vl),some (.ref q),some (.ref tb),some (.ref fl),x4,x5]/\i<=xs.length/\aQ H H3/\j8 K H3 tb fs/\H3 fl=some (.lst zs)/\ju K H3 zs cs/\jV bz (xs.take i) cs/\zs.length<=64*i) {_,_,[],[],rfl,aR _,oo,MP,xF,.nil,rfl,ao _} (λi Z H3 _ ⟨_,_,_,_,_,_,s3,_⟩=>OF Cr s3) ?_ ?_}
 ·rintro i x Z H3 D1 hx ⟨x4,x5,zs,cs,rfl,hi,s3,Ll,ED,qm,ic,lz⟩ AQ _;obtain⟨y,hy,p,qv,rfl,hp,hqv⟩:=Paired.at AG hx;have cw:i<xs.length:=(aw.mp hy).1;have vk:=zL y (aE hy);refine{p,_,rfl,bf.of (s3 _ _ hp),rfl,_,_,rfl,_,_,rfl,rfl,?_};refine{_,rfl,.inl {rfl,_,br.of ED},_,rfl,_,rfl,qv,tb,fs,y.2.1,y.2.2,rfl,hqv.keep (cE.of s3),vk.good,vk.bw,vk.l4,Ll,λrows nd h=>vk.gj rows nd λr hr=>let⟨g,hg,e⟩:=h r hr;{g,(CJ OC).mp hg,e},λl ws rows H4 s4 jO mI hR nd iff _ _=>?_};have ia:yU bz y.2.1 y.2.2 (dc rows):={(cW _).nodup_iff.mpr nd,tS _,λr=>by rw[(cW _).mem_iff,iff r];exact exists_congr λg=>and_congr_left λ_=>CJ OC};have lr:rows.length<64:=vk.gj rows nd λr hr=>let⟨g,hg,e⟩:=(iff r).mp hr;{g,(CJ OC).mp hg,e}
  have lw:ws.length=(dc rows).length:=a9 hR;have ls:(dc rows).length=rows.length:=(cW rows).length_eq;generalize dc rows=rs at hR ia lw ls;refine{l,rfl,{_,br.of mI},jG (K:=K) (a:=l) (xs:=ws) (λj ys H5=>aQ H4 H5/\j<=rs.length/\ju K H5 ys ((rs.take j).map λr=>(y.1,r))) (bN ∅) {aQ.refl _,aR _,.nil} ?_ ?_ ?_}
  ·rintro j ys H5 hj ⟨s5,Vh,Js⟩;refine{br.of (s5 _ _ mI),?_};rw[a9 Js,ak,aU];lia
  ·rintro j z ys H5 N il ⟨s5,Vh,Js⟩ hN;obtain⟨r,JA,a,rfl,ha⟩:=Paired.at hR il;have Te:j<rs.length:=(aw.mp JA).1;refine pH {_,rfl,_,rfl,(by show 2<=sizeLine;decide),λpp Ew=>hN _ _ {s5.trans (aC Ew _),Te,?_}};rw[bg,JA,aN];exact nW (ju.same Js (aC Ew _)) (.cons {pp,a,rfl,bf.of ar,fH ha (s5.trans (aC Ew _))} .nil)
  rintro ys H5 ⟨s5,_,Js⟩ UU ady;rw[lw,bh]at Js;have ly:ys.length=rs.length:=by rw[a9 Js,ak]
  have s6:aQ H5 (upd H5 UU (.lst ys)):=aC ady _;have h6:upd H5 UU (.lst ys) UU=some (.lst ys):=ar;generalize upd H5 UU (.lst ys)=H6 at s6 h6⊢;have vP:=s4.trans (s5.trans s6);have hf6:=vP _ _ ED;refine{_,_,_,_,rfl,rfl,hf6,h6,bI (cL (show zs.length+ys.length<=100000 by lia) (by decide)),?_};have t7:dk H6 (upd H6 fl (.lst (zs++ys))):=dk.upd (kr hf6);have o7:∀b u,b≠fl->H6 b=some u->upd H6 fl (.lst (zs++ys)) b=some u:=λb u n e=>by rw[aH n];exact e
  refine AQ _ _ {_,_,zs++ys,cs++rs.map λr=>(y.1,r),rfl,cw,λb u e=>o7 b u (bc e QS) (vP _ _ (s3 _ _ e)),{o7 _ _ ?_ (vP _ _ Ll.at_),Ll.nm,λe he=>?_},ar,nW (ju.tp (ju.same qm vP) t7) (ju.tp (ju.same Js s6) t7),?_,?_}
  ·intro z;rw[z]at Ll;rw[Ll.at_]at ED;cases ED
  ·obtain⟨h1,h2,h3⟩:=Ll.en e he;refine{o7 _ _ (λz=>?_) (vP _ _ h1),kf (jF h2 vP) t7,h3};have:=(OC.en e he).2.2.1;rw[z,EC]at this;cases this
  ·rw[bg,hy];exact jV.snoc ia ic
  ·rw[aM];lia
 ·rintro Z H3 ⟨x4,x5,zs,cs,rfl,_,s3,_,ED,qm,ic,lz⟩;rw[lv,bh]at ic;exact{_,rfl,k fl zs cs H3 s3 QS ED qm ic ∅}
end
inductive Lx(K:Frag)(vs:Aam)(H:Hp)(Q:VK)(_x3:XK):Prop
 |mk (f pl:Addr) (us:Aaf) (_:vs=[.ref f,.ref pl]) (_:fG K f H) (_:pl≠f) (_:H pl=some (.lst (us.map V.str))) (_:1<=us.length) (_:us.length<=4) (_:(∀z∈us,z∈iA)) (_:∀(r:Addr)(a:Str×Aaf)(H':Hp),fG K f H'->Ext f H H'->jX H' (.ref r) a->a.1∈uL->1<=a.2.length->a.2.length<=3->(∀z∈a.2,z∈iA)->Q (.ref r) H')
section
variable{P:Program}{w:World}{K:Frag}{mg:Aab}{base:Heap}
structure Dtk(P:Program)(w:World)(K:Frag)(mg:Aab)(base:Heap):Prop where
 fS:cR P w K mg base 1 "_law_take" ["_law_box_here","_law_many"] (zQ K)
def Kl(H:Hp)(v:V):Prop:=∃(p:Addr)(z:Str)(n:Int),v=.ref p/\H p=some (.tup [.str z,.int n])/\z∈uL/\1<=n/\n<=3
def Kl.sm{H H':Hp}{v:V}(h:Kl H v)(s:aQ H H'):Kl H' v:=by obtain⟨p,z,n,e,h1,h2⟩:=h;exact{p,z,n,e,s _ _ h1,h2}
def xm{H:Hp}{p:Addr}{z:Str}{n:Int}(h:H p=none)(o:z∈uL/\1<=n/\n<=3):aQ H (upd H p (.tup [.str z,.int n]))/\Kl (upd H p (.tup [.str z,.int n])) (.ref p):={aC h _,p,z,n,rfl,ar,o}
def WB{vs:Aam}{i:Int}(h0:0<=i)(h1:i<(vs.length:Int)):∃v,v∈vs/\wc vs i=some v:=by obtain⟨v,hv⟩:∃v,vs[i.toNat]?=some v:={_,aq ∅};refine{v,aE hv,?_};rw[show i=((i.toNat:Nat):Int) by lia];exact iG hv
def m7:cv ["_law_box_here","_law_pool","_law_name","_law_many","_law_terms","_law_k","_law_term"] ["_law_box_here","_law_pool"] (defScope CY):=iO (by decide+kernel)
def SF{f:Addr}{fd:FuncData}(F:eX K "_law_atom" "_law_atom" CY f fd)(T:Txt K mg)(D:Dtk P w K mg base):cU P w K mg base fm 2 f fd ["_law_box_here","_law_pool"] (Lx K):=by
 refine F.ok m7 (λ_ _ _ _ h=>by cases h;subst_vars;rfl) (λc6 A outer s H vs Q E hr h=>?_);obtain⟨fe,pl,us,rfl,hF,Pn,nh,U6,AH,huu,k⟩:=h;have lu:(us.map V.str).length=us.length:=ak _;refine cut 1 (λZ H2=>∃(z:Str)(lg:Int),Z=[some (.ref fe),some (.ref pl),some (.str z),some (.int lg),none,none,none]/\z∈uL/\1<=lg/\lg<=3/\fG K fe H2/\Ext fe H H2)
  {_,(aK (d8 4 m7 (fq gZ)) (aK (fR bO rfl (kZ rfl T.pK (b5 (pv 3))) (iZ 5 m7) (aK (d8 6 m7 (cB fY (pv 1) (cl D.fS hr (cD (pv 0) (bP fk rfl T.jd cx (b5 (pv 1))))) (λ_ _=>rfl))) (aK (fh (c7 tV (cl D.fS hr (cD (pv 0) aS)) aS (dG _)) (aT (d8 6 m7 (cB fY (fq (uI dj dj dj)) (cl D.fS hr (cD (pv 0) aS)) (λ_ _=>rfl)))) dh) (aT (iW (lG b9 dJ dH k7 (pv 4) (b5 (pv 6)))))))) (aT (b8 (dX (cD (pv 2) (da d6 rfl T.hX (by decide+kernel) (b5 (pv 4))))))))),?_} (λt2 ht=>{_,(aK (uF (cB fY (fq (jc (dX (cD dj aS)) (jc (dX (cD dj aS)) (jc (dX (cD dj aS)) (uI (dX (cD dj aS)) (dX (cD dj aS)) (dX (cD dj aS))))))) (cl D.fS hr (cD (pv 0) aS)) (λ_ _=>rfl)) (ko rfl (cT (iZ 2 m7) (cT (iZ 3 m7) iY)))) ht),λtl=>?_})
 ·rintro Z H2 ⟨nm,lg,rfl,hnm,l0,l1,kT,ox⟩;refine{(by show 0<=sizeLine;decide),λt ht=>?_};have nt:=kT.qL ht;have Ma:H t=none:=ox.none nt ht;refine{_,rfl,lg,rfl,by lia,by lia,v9 (lo:=0) (n:=lg.toNat)
   (λj Z H3=>∃(y7 y8:Aan)(ts:Aaf),Z=[some (.ref fe),some (.ref pl),some (.str nm),some (.int lg),some (.ref t),y7,y8]/\fG K fe H3/\Ext fe H H3/\H3 t=some (.lst (ts.map V.str))/\ts.length=j/\∀z∈ts,z∈iA)
   {none,none,[],rfl,kT.new ht _,ox.new ht _,ar,rfl,λz h=>by cases h} ?_ ?_}
  ·rintro j Z H3 hj ⟨y7,y8,ts,rfl,lX,nj,AJ,cw,j4⟩;refine{_,rfl,_,rfl,_,rfl,_,_,rfl,.inl {_,br.of (nj _ _ Pn nh),rfl},fe,_,rfl,lX,by lia,by lia,λi4 H4 i0 i1 mJ jh=>?_};have aaO:=nj.trans jh;obtain⟨z,hz,ev⟩:=pq (zs:=us) i0 ∅;refine{_,_,_,_,rfl,rfl,br.of (aaO _ _ Pn nh),ev,?_};have ht4:=jh _ _ nt AJ;refine{_,rfl,fe,7,rfl,mJ,by decide,by decide,λi5 H5 j0 j1 xI xK=>{rfl,_,rfl,?_}};have aaN:=aaO.trans xK;have Qk:=xK _ _ nt ht4;refine eZ (λc=>?_) (λc=>?_)
   ·refine{(by show 3<=sizeLine;decide),λp hp=>?_};refine{_,rfl,fe,3,rfl,xI.new hp _,by decide,by decide,λi6 H6 k0 k1 sj qp=>?_};have np:=xI.qL hp;have adO:=(aaN.new hp (.lst ((["a","b","x"]:Aaf).map V.str))).trans qp;obtain⟨y,hy,ev6⟩:=pq (zs:=["a","b","x"]) k0 k1;have Qf:y∈iA:=(by decide+kernel:∀y∈(["a","b","x"]:Aaf),y∈iA) y hy;have Er:H6 t=some (.lst (ts.map V.str)):=qp _ _ nt (by rw[aH (bc Qk hp)];exact Qk);refine{_,_,_,_,rfl,rfl,br.of (qp _ _ np ar),ev6,?_};refine{_,rfl,.inl {rfl,_,br.of Er},_,rfl,_,_,_,rfl,rfl,Er,by rw[ak];exact bN ∅,?_};refine{_,_,ts++[y],rfl,sj.lst Er nt _,adO.own Ma _,by rw[ar,aN];rfl,by rw[aM,cw];rfl,λz' h=>?_};rcases aY.mp h with q|q
    ·exact j4 z' q
    ·rw[au.mp q];exact Qf
   ·refine{_,rfl,.inl {rfl,_,br.of Qk},_,rfl,_,_,_,rfl,rfl,Qk,by rw[ak];exact bN ∅,?_};refine{_,_,ts++[z],rfl,xI.lst Qk nt _,aaN.own Ma _,by rw[ar,aN];rfl,by rw[aM,cw];rfl,λz' h=>?_};rcases aY.mp h with q|q
    ·exact j4 z' q
    ·rw[au.mp q];exact huu z hz
  ·rintro Z H3 ⟨y7,y8,ts,rfl,lX,nj,AJ,cw,j4⟩;refine{_,rfl,_,rfl,t,_,rfl,.inl {br.of AJ,λtt sZ=>?_}};refine{(by show 2<=sizeLine;decide),λap uU=>?_};have hFa:=(lX.new sZ (.tup (ts.map V.str))).new uU (.tup [.str nm,.ref tt]);have nta:tt≠ap:=λe=>by rw[<-e,ar]at uU;cases uU
   exact k ap (nm,ts) _ hFa ((nj.new sZ _).new uU _) {ap,tt,rfl,ar,by rw[aH nta,ar]} hnm (by show 1<=ts.length;lia) (by show ts.length<=3;lia) j4
 ·refine{(by show 2<=sizeLine;decide),λp1 h1=>?_};obtain⟨s1,o1⟩:=xm h1 (z:="r") (n:=2) (by decide+kernel);generalize upd H p1 _=H1 at s1 o1⊢;refine{(by show 2<=sizeLine;decide),λp2 h2=>?_};obtain⟨s2,o2⟩:=xm h2 (z:="r") (n:=2) (by decide+kernel);generalize upd H1 p2 _=H2 at s2 o2⊢;refine{(by show 2<=sizeLine;decide),λp3 h3=>?_};obtain⟨s3,o3⟩:=xm h3 (z:="s") (n:=2) (by decide+kernel);generalize upd H2 p3 _=H3 at s3 o3⊢;refine{(by show 2<=sizeLine;decide),λp4 h4=>?_};obtain⟨s4,o4⟩:=xm h4 (z:="rs") (n:=1) (by decide+kernel);generalize upd H3 p4 _=H4 at s4 o4⊢;refine{(by show 2<=sizeLine;decide),λp5 h5=>?_};obtain⟨s5,o5⟩:=xm h5 (z:="t") (n:=3) (by decide+kernel);generalize upd H4 p5 _=H5 at s5 o5⊢;refine{(by show 2<=sizeLine;decide),λp6 h6=>?_};obtain⟨s6,o6⟩:=xm h6 (z:="r") (n:=1) (by decide+kernel);generalize upd H5 p6 _=H6 at s6 o6⊢;have adV:∀v∈[V.ref p1,.ref p2,.ref p3,.ref p4,.ref p5,.ref p6],Kl H6 v:=λv hv=>by
   simp only[aF,vo,or_false]at hv;rcases hv with rfl|rfl|rfl|rfl|rfl|rfl
   ·exact((((o1.sm s2).sm s3).sm s4).sm s5).sm s6
   ·exact(((o2.sm s3).sm s4).sm s5).sm s6
   ·exact((o3.sm s4).sm s5).sm s6
   ·exact(o4.sm s5).sm s6
   ·exact o5.sm s6
   ·exact o6
  have s16:aQ H H6:=((((s1.trans s2).trans s3).trans s4).trans s5).trans s6;clear s1 s2 s3 s4 s5 s6 o1 o2 o3 o4 o5 o6;refine{(by show 6<=sizeLine;decide),λl hl=>?_};have sj:=hF.same s16;refine{_,rfl,fe,6,rfl,sj.new hl _,by decide,by decide,λi7 H7 a0 a1 AO EK=>?_};have AV:Ext fe H6 H7:=((Ext.refl fe H6).new hl _).trans EK;obtain⟨v,hv,ev⟩:=WB (vs:=[V.ref p1,.ref p2,.ref p3,.ref p4,.ref p5,.ref p6]) a0 a1;obtain⟨p,z,n,rfl,hp,hz,hn⟩:=adV v hv;refine{_,_,_,_,rfl,rfl,br.of (EK _ _ (sj.qL hl) ar),ev,p,_,rfl,bf.of (sj.jM AV _ _ hp),rfl,_,_,rfl,_,_,rfl,rfl,?_};exact tl _ _ {z,n,rfl,hz,hn.1,hn.2,AO,λb o nb q=>AV b o nb (s16 b o q)}
def oM(ats:R0):Prop:=∀a∈ats,a.1∈uL/\1<=a.2.length/\a.2.length<=3/\∀z∈a.2,z∈iA
def oM.len{ats:R0}(g:oM ats)(n:Nat):(cZ (ats.take n)).length<=4*ats.length:=by
 have h1:=Bz (ats.take n) λa ha=>oG (g a (eE ha)).2.2.1;have h2:(ats.take n).length<=ats.length:=by rw[aU];lia
 lia
inductive HM(vs:Aam)(H:Hp)(Q:VK)(_x3:XK):Prop
 |mk (l:Addr) (ir:Aam) (ats:R0) (_:vs=[.ref l]) (_:H l=some (.lst ir)) (_:bR H ir ats) (_:oM ats) (_:ats.length<=8) (_:∀(r:Addr)(H':Hp),aQ H H'->H r=none->H' r=some (.lst ((eP (cZ ats)).map V.str))->Q (.ref r) H')
def pf:cv ["_law_atoms","_law_found","_law_atom_here","_law_term"] ["_law_atoms"] (defScope uB):=iO (by decide+kernel)
def IM{f:Addr}{fd:FuncData}(F:eX K "_law_unknowns" "_law_unknowns" uB f fd)(T:Txt K mg):cU P w K mg base fm 1 f fd ["_law_atoms"] HM:=by
 refine F.ok pf (λ_ _ _ _ h=>by cases h;subst_vars;rfl) (λc6 A outer s H vs Q E hr h=>?_);obtain⟨al,ir,ats,rfl,QK,ix,good,l8,k⟩:=h;have la:ir.length=ats.length:=a9 ix;refine{_,(aK (d8 1 pf (fq gZ)) (aK (fR bO rfl (fX (pv 0)) (iZ 2 pf) (aT (fR bO rfl (oQ (cB eU (pv 2) aS (λ_ _=>rfl))) (iZ 3 pf) (aT (fh (PW.pt (Ip (c7 tV (cB P4 (pv 3) aS (λ_ _=>rfl)) dj (dG _)) (Fl (c7 uJ (pv 3) (pv 1) (by with_unfolding_all rfl))))) (aT (iW (lG b9 dJ dH k7 (pv 1) (b5 (pv 3))))) dh))))) (aT (b8 (pv 1))))),?_}
 refine{(by show 0<=sizeLine;decide),λd gH=>?_};refine{_,rfl,al,rfl,{ir,br.of (aC gH _ _ _ QK)},Dl (K:=K) (a:=al) (xs:=ir)
  (λi Z H2=>∃(x2 x3:Aan),Z=[some (.ref al),some (.ref d),x2,x3]/\aQ H H2/\H2 d=some (.lst ((eP (cZ (ats.take i))).map V.str))) {none,none,rfl,aC gH _,ar} (λi Z H2 _ hq=>by(obtain⟨_,_,_,sm,_⟩:=hq;exact br.of (sm _ _ QK))) ?_ ?_}
 ·rintro i x Z H2 hx ⟨x2,x3,rfl,sm,hd2⟩;obtain⟨ta,ht,p,t,rfl,hp,sZ⟩:=Paired.at ix hx;have g:=good ta (aE ht);have l4':=g.2.2.1;have lf:=good.len i;refine{_,rfl,_,_,_,_,rfl,rfl,bf.of (sm _ _ hp),rfl,t,rfl,{_,bf.of (sm _ _ sZ)},xJ (K:=K) (a:=t) (xs:=ta.2.map V.str)
   (λj Z H3=>∃(x3:Aan),Z=[some (.ref al),some (.ref d),some (.ref p),x3]/\aQ H H3/\H3 d=some (.lst ((eP (cZ (ats.take i)++ta.2.take j)).map V.str))) {x3,rfl,sm,by rw[rJ,cJ];exact hd2} (λj Z H3 _ hq=>by(obtain⟨_,_,Yv,_⟩:=hq;exact bf.of (Yv _ _ sZ))) ?_ ?_}
  ·rintro j y Z H3 hy ⟨x3,rfl,kX,v8⟩;obtain⟨z,hz,rfl⟩:=jj hy;have hj:j<ta.2.length:=(aw.mp hz).1;have Z1:=CK (g.2.2.2 z (aE hz));have ad5:=Z1.2.1;obtain⟨c,QF⟩:=HD Z1.1;have ei:wc z.cps.toList 0=some c:=iG (j:=0) QF;have en:eP (cZ (ats.take i)++ta.2.take (j+1))=step (eP (cZ (ats.take i)++ta.2.take j)) z:=by rw[bg,hz,<-jx];exact Hw _ _
   have lu:=xr (cZ (ats.take i)++ta.2.take j);rw[aM,aU]at lu;rw[en];generalize eP (cZ (ats.take i)++ta.2.take j)=ws at v8 lu⊢;refine{_,rfl,_,_,_,rfl,rfl,bI (bN ∅),ei,rfl,_,rfl,?_};rw[HE Z1.1 QF];refine eZ (λc1=>?_) (λc1=>?_)
   ·refine{_,rfl,_,rfl,d,_,rfl,.inl (br.of v8),rfl,aaM _,_,rfl,?_};show if(!Jr (.str z) (ws.map V.str))=true then _ else _;rw[Fv];refine eZ (λc2=>?_) (λc2=>?_)
    ·have c2:z∉ws:=by simpa using c2
     refine{_,rfl,.inl {rfl,_,br.of v8},_,rfl,_,_,_,rfl,rfl,v8,by rw[ak];exact bN ∅,?_};refine{_,rfl,λb u e=>?_,?_}
     ·rw[aH (bc e gH)];exact kX _ _ e
     ·unfold step;rw[ar,aA c1,ax c2,aN];rfl
    ·have c2:z∈ws:=by simpa using c2
     refine{_,rfl,kX,?_};unfold step;rw[aA c1,aA c2];exact v8
   ·refine{_,rfl,kX,?_};unfold step;rw[ax c1];exact v8
  ·rintro Z H3 ⟨x3,rfl,kX,v8⟩;refine{_,_,rfl,kX,?_};rw[EI ht];rw[ak,bh]at v8;exact v8
 ·rintro Z H2 ⟨x2,x3,rfl,sm,hd2⟩;rw[la,bh]at hd2;exact{_,rfl,k d _ sm gH hd2}
end
inductive CO(K:Frag)(vs:Aam)(H:Hp)(Q:VK)(_x3:XK):Prop
 |mk (f:Addr) (most:Int) (_:vs=[.ref f,.int most]) (_:fG K f H) (_:1<=most) (_:most<=5) (_:∀(r:Addr)(hz:Aaf)(ats:R0)(H':Hp),fG K f H'->Ext f H H'->wg H' (.ref r) hz ats->1<=ats.length->(ats.length:Int)<=most->oM ats->Q (.ref r) H')
section
variable{P:Program}{w:World}{K:Frag}{mg:Aab}{base:Heap}
structure Dq6(P:Program)(w:World)(K:Frag)(mg:Aab)(base:Heap):Prop extends Dtk P w K mg base where
 ZE:cR P w K mg base 2 "_law_atom" ["_law_box_here","_law_pool"] (Lx K)
 t6:cR P w K mg base 1 "_law_unknowns" ["_law_atoms"] HM
def acJ{i:Int}(h0:0<=i)(h1:i<7):∃n:Int,wc [V.int 0,.int 1,.int 1,.int 2,.int 2,.int 3,.int 4] i=some (.int n)/\0<=n/\n<=4:=by
 have c:i=0\/i=1\/i=2\/i=3\/i=4\/i=5\/i=6:=by lia
 rcases c with rfl|rfl|rfl|rfl|rfl|rfl|rfl<;>exact{_,rfl,by decide,by decide}
noncomputable def iX:Aaf:=["?x","?y","?z","?x1"]
def ij:cv ["_law_box_here","_law_most","_law_pool","_law_atoms","_law_head","_law_unknowns_here","_law_k","_law_term"] ["_law_box_here","_law_most"] (defScope uC):=iO (by decide+kernel)
def Pk{f:Addr}{fd:FuncData}(F:eX K "_law_question" "_law_question" uC f fd)(T:Txt K mg)(D:Dq6 P w K mg base):cU P w K mg base fm 3 f fd ["_law_box_here","_law_most"] (CO K):=by
 refine F.ok ij (λ_ _ _ _ h=>by cases h;subst_vars;rfl) (λc6 A outer s H vs Q E hr h=>?_);obtain⟨fe,most,rfl,hF,hm1,Qt,k⟩:=h;refine cut 2 (λZ H2=>∃(pl al:Addr)(ys:Aam)(ats:R0),Z=[some (.ref fe),some (.int most),some (.ref pl),some (.ref al),none,none,none,none]/\al≠fe/\H2 al=some (.lst ys)/\bR H2 ys ats/\oM ats/\1<=ats.length/\(ats.length:Int)<=most/\fG K fe H2/\Ext fe H H2)
  {_,(aK (d8 4 ij (fq gZ)) (aK (d8 5 ij (cl D.t6 hr (b5 (pv 3)))) (aK (fR bO rfl (kZ rfl T.pK (b5 (cB fY (fq (jc aS (jc aS (jc aS (jc aS (uI aS aS aS)))))) (cl D.fS hr (cD (pv 0) aS)) (λ_ _=>rfl)))) (iZ 6 ij) (aK (d8 7 ij (cB fY (fq (cD dj dj)) (cl D.fS hr (cD (pv 0) aS)) (λ_ _=>rfl))) (aK (fh (PW.pt (Ip (c7 Ef (bP fk rfl T.jd cx (b5 (pv 5))) aS (dG _)) (Fl (c7 Ef (cl D.fS hr (cD (pv 0) aS)) aS (dG _))))) (aT (d8 7 ij (cB fY (pv 5) (cl D.fS hr (cD (pv 0) (bP fk rfl T.jd cx (b5 (pv 5))))) (λ_ _=>rfl)))) dh) (aT (iW (lG b9 dJ dH k7 (pv 4) (b5 (pv 7)))))))) (aT (b8 (dX (cD (da d6 rfl T.hX (by decide+kernel) (b5 (pv 4))) (da d6 rfl T.hX (by decide+kernel) (b5 (pv 3)))))))))),?_} (λt2 ht=>{_,(aK (pX (i:=2) ij.nd rfl (Or.inr rfl) (uG Fc (fq (jc dj (uI dj dj dj))) Bx (ui (dB iC aS (cl D.fS hr (cD (pv 0) aS)))))) (aK (yn (j:=3) ij.nd rfl rfl rfl (dO (fs:=["_law_box_here","_law_pool"]) (fr:=[0,2])) (kZ rfl T.pK (b5 (dB iC aS (cl D.fS hr (cD (pv 0) (pv 1)))))) (λ_ _ _ _=>(cl D.ZE hr (cD (pv 1) (pv 2))))) ht)),λtl=>?_})
 ·rintro Z H2 ⟨pl,al,ys,ats,rfl,nal,QK,ix,good,l1,l2,kT,ox⟩;refine{(by show 0<=sizeLine;decide),λt ht=>?_};have nt:=kT.qL ht;have Ma:H t=none:=ox.none nt ht;have s3:=aC ht (.lst []);refine{_,rfl,al,ys,ats,rfl,s3 _ _ QK,bR.keep (cE.of s3) ix,good,by lia,λul H3 s4 nul Ep=>?_};have lX:=(kT.same s3).same s4;have IW:ul≠fe:=(kT.same s3).qL nul;have nj:Ext fe H2 H3:=λb o _ h=>s4 _ _ (s3 _ _ h);have AJ:=s4 _ _ (ar (H:=H2) (a:=t) (o:=.lst []));have nut:ul≠t:=λe=>by rw[e,ar]at nul;cases nul
  have lus:(eP (cZ ats)).length<=20:=by have a:=xr (cZ ats);have b:=good.len ats.length;rw[bh]at b;lia
  generalize eP (cZ ats)=us at Ep lus;have lu:(us.map V.str).length=us.length:=ak _;refine{(by show 7<=sizeLine;decide),λp hp=>?_};have np:=lX.qL hp;refine{_,rfl,fe,7,rfl,lX.new hp _,by decide,by decide,λi5 H5 a0 a1 xI xK=>?_};obtain⟨n,ev,n0,n4⟩:=acJ a0 a1;have TF:Ext fe H3 H5:=((Ext.refl fe H3).new hp _).trans xK;refine{_,_,_,_,rfl,rfl,br.of (xK _ _ np ar),ev,_,rfl,by lia,by lia,v9 (lo:=0) (n:=n.toNat)
   (λj Z H6=>∃(x6 x7:Aan)(hs:Aaf),Z=[some (.ref fe),some (.int most),some (.ref pl),some (.ref al),some (.ref t),some (.ref ul),x6,x7]/\fG K fe H6/\Ext fe H2 H6/\H6 ul=some (.lst (us.map V.str))/\H6 t=some (.lst (hs.map V.str))/\hs.length=j)
   {none,none,[],rfl,xI,nj.trans TF,TF _ _ IW Ep,TF _ _ nt AJ,rfl} ?_ ?_}
  ·rintro j Z H6 hj ⟨x6,x7,hs,rfl,sj,qp,Z9,Er,hl⟩;refine{(by show 2<=sizeLine;decide),λq hq=>?_};have nq:=sj.qL hq;refine{_,rfl,fe,2,rfl,sj.new hq _,by decide,by decide,λi7 H7 b0 b1 AO EK=>?_};obtain⟨y,hy,ev7⟩:=pq (zs:=["a","zz"]) b0 b1;have AV:Ext fe H6 H7:=((Ext.refl fe H6).new hq _).trans EK;refine{_,_,_,_,rfl,rfl,br.of (EK _ _ nq ar),ev7,?_};have ND:=AV _ _ IW Z9;have Jy:=AV _ _ nt Er;have nx:∀(z:Str)(H8:Hp)(v6:V),fG K fe H8->Ext fe H2 H8->H8 ul=some (.lst (us.map V.str))->∃(x6 x7:Aan)(xB:Aaf),[some (V.ref fe),some (.int most),some (.ref pl),some (.ref al),some (.ref t),some (.ref ul),some v6,some (.str z)]=[some (V.ref fe),some (.int most),some (.ref pl),some (.ref al),some (.ref t),some (.ref ul),x6,x7]/\fG K fe (upd H8 t (.lst (hs.map V.str++[.str z])))/\Ext fe H2 (upd H8 t (.lst (hs.map V.str++[.str z])))/\upd H8 t (.lst (hs.map V.str++[.str z])) ul=some (.lst (us.map V.str))/\upd H8 t (.lst (hs.map V.str++[.str z])) t=some (.lst (xB.map V.str))/\xB.length=j+1:=λz H8 v6 Cy tw NC=>by obtain⟨x,y',z',hf⟩:=Cy;exact{_,_,hs++[z],rfl,{x,y',z',by rw[aH nt.symm];exact hf},tw.own ht _,by rw[aH nut];exact NC,by rw[ar,aN];rfl,by rw[aM,hl];rfl}
   have lh:(hs.map V.str).length<sizeLine:=by rw[ak];exact bN ∅
   refine{_,rfl,_,_,rfl,.inl {_,br.of ND,rfl},_,_,rfl,rfl,_,rfl,eZ (λcu=>?_) (λc=>?_)}
   ·refine{_,rfl,fe,6,rfl,AO,by decide,by decide,λi8 H8 c0 c1 Cy tw=>{_,_,rfl,rfl,_,rfl,eZ (λc=>?_) (λc=>?_)}}
    ·have NC:=tw _ _ IW ND;have u1:(0:Int)<((us.map V.str).length:Nat):=aW cu;refine{_,rfl,_,rfl,_,rfl,_,_,rfl,.inl {_,br.of NC,rfl},fe,_,rfl,Cy,by lia,by lia,λi9 H9 d0 d1 hF9 ex9=>?_};obtain⟨z,_,ev9⟩:=pq (zs:=us) d0 ∅;have Z8:=ex9 _ _ IW NC;have ht9:=ex9 _ _ nt (tw _ _ nt Jy);exact{_,_,_,_,rfl,rfl,br.of Z8,ev9,_,rfl,.inl {rfl,_,br.of ht9},_,rfl,_,_,_,rfl,rfl,ht9,lh,nx z H9 _ hF9 (((qp.trans AV).trans tw).trans ex9) Z8}
    ·have Cs:=tw _ _ nt Jy;exact{_,rfl,.inl {rfl,_,br.of Cs},_,rfl,_,_,_,rfl,rfl,Cs,lh,nx y H8 _ Cy ((qp.trans AV).trans tw) (tw _ _ IW ND)}
   ·exact{_,rfl,.inl {rfl,_,br.of Jy},_,rfl,_,_,_,rfl,rfl,Jy,lh,nx y H7 _ AO (qp.trans AV) ND}
  ·rintro Z H6 ⟨x6,x7,hs,rfl,sj,qp,Z9,Er,hl⟩;refine{_,rfl,t,_,rfl,.inl {br.of Er,λtp uT=>?_}};have s7:=aC uT (.tup (hs.map V.str));refine{_,rfl,al,_,rfl,.inl {br.of (s7 _ _ (qp _ _ nal QK)),λta tm=>?_}};have s8:=aC tm (.tup ys);refine{(by show 2<=sizeLine;decide),λqa Qp=>?_};have s9:=aC Qp (.tup [.ref tp,.ref ta]);have Ie:=(s7.trans s8).trans s9;exact k qa hs ats _ (sj.same Ie) (λb o n h=>Ie _ _ (qp b o n (ox b o n h))) {qa,tp,ta,ys,rfl,ar,s9 _ _ (s8 _ _ ar),s9 _ _ ar,bR.keep ((kT.jM qp).trans (cE.of Ie)) ix} l1 l2 good
 ·refine{(by show 4<=sizeLine;decide),λp hp=>Ja ?_};have np:=hF.qL hp;refine{_,rfl,fe,3,rfl,hF.new hp _,by decide,by decide,λi1 H1 a0 a1 Vv Ms=>{_,_,rfl,rfl,_,rfl,_,_,rfl,br.of (Ms _ _ np ar),λpl nh=>?_}};have ec:mx (iX.map V.str) none (some (2+i1))=(iX.take (2+i1).toNat).map V.str:=by rw[show 2+i1=(((2+i1).toNat:Nat):Int) by lia,J5,zp];rfl
  have Pn:=Vv.qL nh;have kT:=Vv.new nh (.lst (mx (iX.map V.str) none (some (2+i1))));have ox:Ext fe H (upd H1 pl (.lst (mx (iX.map V.str) none (some (2+i1))))):=(((Ext.refl fe H).new hp _).trans Ms).new nh _;have NO:upd H1 pl (.lst (mx (iX.map V.str) none (some (2+i1)))) pl=some (.lst ((iX.take (2+i1).toNat).map V.str)):=by rw[ar,ec]
  have lp:(iX.take (2+i1).toNat).length=min (2+i1).toNat 4:=aU;have Ew:∀z∈iX.take (2+i1).toNat,z∈iA:=λz hz=>(by decide+kernel:∀y∈iX,y∈iA) z (eE hz);have el:iX.map V.str=[V.str "?x",.str "?y",.str "?z",.str "?x1"]:=rfl;rw[el]at kT ox NO;generalize upd H1 pl (.lst (mx [V.str "?x",.str "?y",.str "?z",.str "?x1"] none (some (2+i1))))=H2 at kT ox NO⊢;generalize iX.take (2+i1).toNat=us at NO lp Ew;refine{_,rfl,_,rfl,fe,most,rfl,kT,by lia,by lia,λi3 H3 b0 b1 lX nj=>{_,_,rfl,rfl,_,rfl,by lia,by lia,λj m ys H4=>j<=(1+i3).toNat/\m=(1+i3).toNat -j/\fG K fe H4/\Ext fe H2 H4/\∃ats:R0,bR H4 ys ats/\ats.length=j/\oM ats,{_,aR _,rfl,lX,nj,[],.nil,rfl,λa h=>by cases h},?_}};rintro j m ys H4 ⟨hj,rfl,mJ,jh,ats,ix,hla,hg⟩;have ly:ys.length=j:=by rw[<-hla];exact a9 ix
  by_cases cw:j<(1+i3).toNat
  ·refine .inr {cw,by rw[ly];exact bN ∅,?_};rintro v H5 ⟨rfl,rfl⟩;refine pH ?_;refine{_,rfl,_,rfl,fe,pl,us,rfl,mJ,Pn,jh _ _ Pn NO,by lia,by lia,Ew,λr a H6 sj qp hA ha1 qj mI j4=>?_};refine{(1+i3).toNat -(j+1),by lia,cw,rfl,sj,jh.trans qp,ats++[a],Paired.Hg (bR.keep (mJ.jM qp) ix) hA,by rw[aM,hla];rfl,λb hb=>?_};rcases aY.mp hb with q|q
   ·exact hg b q
   ·rw[au.mp q];exact⟨ha1,qj,mI,j4⟩
  ·refine .inl {by show(1+i3).toNat<=j;lia,by rw[ly];exact bI (bN ∅),λl hl=>?_};exact tl _ _ {pl,l,ys,ats,rfl,mJ.qL hl,ar,bR.keep ((cE.refl H4).new hl _) ix,hg,by lia,by lia,mJ.new hl _,(ox.trans jh).new hl _}
def gD(g:List (Str×Str)):List (Key×V):=g.map λp=>(Sum.inr p.1,V.str p.2)
def Jh(g:List (Str×Str))(z:Str):Option Str:=(g.find? λp=>decide (p.1=z)).map (·.2)
def mv(g:List (Str×Str))(z:Str):Str:=(Jh g z).getD z
def C3(g:List (Str×Str))(u t:Str):List (Str×Str):=if(g.any λp=>decide (p.1=u))=true then g.map (λp=>if p.1=u then(p.1,t)else p)else g++[(u,t)]
theorem E6(z:Str):∀g:List (Str×Str),d7 (gD g) (Sum.inr z:Key)=(Jh g z).map V.str
 |[]=>rfl
 |p::r=>by
  unfold d7 Jh at*;show Option.map _ (List.find? _ ((Sum.inr p.1,V.str p.2)::gD r))=_;rw[hU,hU];by_cases h:p.1=z
  ·rw[aX h,aX (show(Sum.inr p.1:Key)=Sum.inr z from cc _ h)];rfl
  ·rw[bB h,bB (show ¬(Sum.inr p.1:Key)=Sum.inr z fromλe=>h (by injection e))];exact(E6 z r)
def aaZ(u:Str)(g:List (Str×Str)):((gD g).any λkv=>decide (kv.1=(Sum.inr u:Key)))=g.any λp=>decide (p.1=u):=by
 unfold gD;rw[Bq];congr 1;funext p;show decide ((Sum.inr p.1:Key)=Sum.inr u)=_;by_cases h:p.1=u
 ·rw[aX h,aX (show(Sum.inr p.1:Key)=Sum.inr u from cc _ h)]
 ·rw[bB h,bB (show ¬(Sum.inr p.1:Key)=Sum.inr u fromλe=>h (by injection e))]
def Wx(g:List (Str×Str))(u t:Str):putK (gD g) (Sum.inr u:Key) (V.str t)=gD (C3 g u t):=by
 unfold putK C3;rw[aaZ];by_cases c:(g.any λp=>decide (p.1=u))=true
 ·rw[aA c,aA c];unfold gD;rw[bW,bW];refine bC λp _=>?_;show(if(Sum.inr p.1:Key)=Sum.inr u then((Sum.inr p.1:Key),V.str t)else(Sum.inr p.1,V.str p.2))=(Sum.inr (if p.1=u then(p.1,t)else p).1,V.str (if p.1=u then(p.1,t)else p).2);by_cases h:p.1=u
  ·rw[aA (cc _ h),aA h]
  ·rw[ax (λe=>h (by injection e)),ax h]
 ·rw[ax c,ax c];unfold gD;rw[aN];rfl
def Sd(g:List (Str×Str))(u t:Str):(C3 g u t).length<=g.length+1:=by
 unfold C3;split
 ·rw[ak];lia
 ·rw[aM];exact ao _
def O5{g:List (Str×Str)}{u t:Str}{l:Aaf}(h:∀p∈g,p.2∈l)(ht:t∈l):∀p∈C3 g u t,p.2∈l:=λp hp=>by
 unfold C3 at hp;split at hp
 ·obtain⟨q,hq,rfl⟩:=aJ.mp hp;split
  ·exact ht
  ·exact h q hq
 ·rcases aY.mp hp with hp|hp
  ·exact h p hp
  ·rw[au.mp hp];exact ht
def W7{g:List (Str×Str)}{z:Str}{l:Aaf}(h:∀p∈g,p.2∈l)(hz:z∈l):mv g z∈l:=by
 unfold mv Jh;cases e:g.find? λp=>decide (p.1=z)with
 |none=>exact hz
 |some p=>exact h p (jD e)
inductive Ux(vs:Aam)(H:Hp)(Q:VK)(_x3:XK):Prop
 |mk (t d:Addr) (ts:Aaf) (g:List (Str×Str)) (_:vs=[.ref t,.ref d]) (_:H t=some (.tup (ts.map V.str))) (_:H d=some (.dK (gD g))) (_:ts.length<=100) (_:∀(r:Addr)(H':Hp),aQ H H'->H' r=some (.tup ((ts.map (mv g)).map V.str))->Q (.ref r) H')
def M0:cv ["_law_terms","_law_filled"] ["_law_terms","_law_filled"] (defScope Ac):=iO (by decide+kernel)
def Y0{f:Addr}{fd:FuncData}(F:eX K "_law_image" "_law_image" Ac f fd)(T:Txt K mg):cU P w K mg base fm 1 f fd ["_law_terms","_law_filled"] Ux:=by
 refine F.ok M0 (λ_ _ _ _ h=>by cases h;subst_vars;rfl) (λc6 A outer s H vs Q E hr h=>?_);obtain⟨t,d,ts,g,rfl,ht,hd,hl,k⟩:=h;have hu:=qh hr;refine{_,(aT (b8 (da d6 rfl T.hX (by decide+kernel) (b5 (kg rfl (dO (fs:=["_law_filled"]) (fr:=[1])) (oQ (pv 0)) (λ_ _ _ _=>(C8 hu (pv 1) (pv 0) (pv 0) UO))))))),?_};refine{_,rfl,t,rfl,{_,bf.of ht},yJ (K:=K) (a:=t) (xs:=ts.map V.str) (λi ys H2=>H2=H/\i<=ts.length/\ys=((ts.take i).map (mv g)).map V.str) (by rw[ak];exact bN ∅) {rfl,aR _,rfl} ?_ ?_ ?_}
 ·rintro i ys H2 hi ⟨rfl,_,rfl⟩;refine{bf.of ht,?_};rw[ak,ak,aU];lia
 ·rintro i x ys H2 N hc ⟨rfl,hi,rfl⟩ hN;obtain⟨z,hz,rfl⟩:=jj hc;have cw:i<ts.length:=(aw.mp hz).1;refine pH ?_;refine{_,rfl,d,rfl,.inl {_,.inl hd},_,rfl,_,rfl,_,oK.k (k:=Sum.inr z) hd,?_};have e:(d7 (gD g) (Sum.inr z:Key)).getD (.str z)=.str (mv g z):=by rw[E6];unfold mv;cases Jh g z<;>rfl
  rw[e];refine hN _ _ {rfl,cw,?_};rw[bg,hz,aN,aN];rfl
 ·rintro ys H2 ⟨rfl,_,rfl⟩ l oS;rw[ak,bh];refine{l,_,rfl,.inl {br.of ar,λp hp=>?_}};exact k p _ ((aC oS _).trans (aC hp _)) ar
def gK(g:fV):List (Key×V):=g.map λp=>(Sum.inr p.1,.str p.2)
def Hr(g:fV)(u:Str):d7 (gK g) (Sum.inr u:Key)=(cH.get g u).map V.str:=by
 unfold gK cH.get
 induction g with
 |nil=>rfl
 |cons p r ih=>
  by_cases c:p.1=u
  ·rw[bo,gE (cc Sum.inr c),eJ (p:=λp:Str×Str=>decide (p.1=u)) (aX c)];rfl
  ·rw[bo,f9 (λe=>c (by injection e)),eK (p:=λp:Str×Str=>decide (p.1=u)) (λd=>c (aW d))];exact ih
def YO{g:fV}{u v:Str}(n:cH.get g u=none):putK (gK g) (Sum.inr u) (.str v)=gK (g++[(u,v)]):=by rw[yl _ (by rw[Hr,n];rfl)];unfold gK;rw[aN];rfl
theorem BB:∀{ts as:Aaf}{g:fV},ts.length≠as.length->cH.fit isUnk g ts as=none
 |[],[],_,h=>absurd rfl h
 |[],_::_,_,_=>rfl
 |_::_,[],_,_=>rfl
 |t::ts,a::as,g,h=>by
  have h':ts.length≠as.length:=λe=>h (by rw[bu,bu,e]);unfold cH.fit;split
  ·split
   ·split
    ·exact BB h'
    ·rfl
   ·exact BB h'
  ·split
   ·exact BB h'
   ·rfl
def Sa{g:fV}{u v:Str}(nd:(keys g).Nodup)(h:cH.get g u=some v):putK (gK g) (Sum.inr u) (.str v)=gK g:=by
 unfold putK;rw[mX,aA (by rw[Hr,h];rfl)];unfold gK;rw[bW];refine bC λp hp=>?_;show(if(Sum.inr p.1:Key)=Sum.inr u then((Sum.inr p.1:Key),V.str v)else(Sum.inr p.1,V.str p.2))=(Sum.inr p.1,V.str p.2);by_cases c:p.1=u
 ·rw[aA (cc Sum.inr c)];have:=cH.get_mem nd hp;rw[c,h]at this;rw[bM this]
 ·rw[ax (λe=>c (by injection e))]
def c8(g:fV)(a b:Str×Aaf):Option fV:=if a.1=b.1 then cH.fit isUnk g a.2 b.2 else none
inductive Uw(K:Frag)(vs:Aam)(H:Hp)(Q:VK)(_x3:XK):Prop
 |mk (u v:V) (d:Addr) (g:fV) (a b:Str×Aaf) (_:vs=[u,v,.ref d]) (_:jX H u a) (_:jX H v b) (_:H d=some (.dK (gK g))) (_:g.length<=1000) (_:(keys g).Nodup) (_:a.2.length<=1000) (_:b.2.length<=1000) (_:(∀z∈a.2,rq z=true/\z.length<=100)) (_:(∀H',aQ H H'->c8 g a b=none->Q .cb H')) (_:∀p g' H',aQ H H'->H p=none->H' p=some (.dK (gK g'))->c8 g a b=some g'->Q (.ref p) H')
def yd:cv ["_law_atom_here","_law_goal","_law_filled","_law_more","_law_k","_law_term"] ["_law_atom_here","_law_goal","_law_filled"] (defScope Fe):=iO (by decide+kernel)
def YZ{f:Addr}{fd:FuncData}(F:eX K "_law_put" "_law_put" Fe f fd)(T:Txt K mg):cU P w K mg base fm 1 f fd ["_law_atom_here","_law_goal","_law_filled"] (Uw K):=by
 refine F.ok yd (λ_ _ _ _ h=>by cases h;subst_vars;rfl) (λc6 A outer s H vs Q E hr h=>?_);obtain⟨u,v,d,g,⟨na,ts⟩,⟨nb,as⟩,rfl,⟨ap,t,rfl,uU,ht⟩,⟨bp,a,rfl,Mo,ha⟩,hd,lg,nd,lt,la,hz,k1,k2⟩:=h;have hu:=qh hr;have ht:H t=some (.tup (ts.map V.str)):=ht;have ha:H a=some (.tup (as.map V.str)):=ha;have lt:ts.length<=1000:=lt;have la:as.length<=1000:=la;have Jf:(ts.map V.str).length=ts.length:=ak _;have las:(as.map V.str).length=as.length:=ak _;refine cut 1 (λZ H2=>Z=[some (.ref ap),some (.ref bp),some (.ref d),none,none,none]/\H2=H/\na=nb/\ts.length=as.length)
  {_,(aK (d8 3 yd (da Og rfl T.Jb (by decide+kernel) (b5 (pv 2)))) (aK (fR bO rfl (kZ rfl T.pK (b5 (bP fk rfl T.jd cx (b5 (cB eU (pv 0) aS (λ_ _=>rfl)))))) (iZ 4 yd) (aK (d8 5 yd (cB eU (cB eU (pv 0) aS (λ_ _=>rfl)) (pv 4) (λ_ _=>rfl))) (aT (fh (c7 yt (cB P4 (pv 5) aS (λ_ _=>rfl)) dj (dG _)) (aT (fh (c7 yt (pv 5) (cB eU (cB eU (pv 1) aS (λ_ _=>rfl)) (pv 4) (λ_ _=>rfl)) (dG _)) (aT (b8 rW)) dh)) (aT (fh (PW.pt (Ip (Ea (Ed hu (pv 5) (pv 3))) (Fl (c7 yt (Fn hu (pv 3) (pv 5) (λ_ _=>rfl)) (cB eU (cB eU (pv 1) aS (λ_ _=>rfl)) (pv 4) (λ_ _=>rfl)) (dG _))))) (aT (b8 rW)) (aT (xl hu (pv 3) (pv 5) (cB eU (cB eU (pv 1) aS (λ_ _=>rfl)) (pv 4) (λ_ _=>rfl)) rfl)))))))) (aT (b8 (pv 3))))),?_} (λt2 h2=>{_,(aK (fh (PW.pt (Hi (c7 yt (cB eU (pv 0) aS (λ_ _=>rfl)) (cB eU (pv 1) aS (λ_ _=>rfl)) (dG _)) (D8 (c7 yt (bP fk rfl T.jd cx (b5 (cB eU (pv 0) aS (λ_ _=>rfl)))) (bP fk rfl T.jd cx (b5 (cB eU (pv 1) aS (λ_ _=>rfl)))) (dG _))))) (aT (b8 rW)) dh) h2),λtl=>?_})
 ·rintro Z H2 ⟨rfl,rfl,en,le⟩;have ep:c8 g (na,ts) (nb,as)=cH.fit isUnk g ts as:=aA en;rw[ep]at k1 k2;refine{_,rfl,d,gK g,rfl,.inl hd,λp hp=>?_};have s1:aQ H2 (upd H2 p (.dK (gK g))):=aC hp _;have vZ:upd H2 p (.dK (gK g)) p=some (.dK (gK g)):=ar;generalize (upd H2 p (.dK (gK g)))=H1 at s1 vZ⊢;refine{_,rfl,_,_,_,_,rfl,rfl,bf.of (s1 _ _ uU),rfl,_,_,rfl,.inr {_,bf.of (s1 _ _ ht),rfl},_,rfl,by lia,by lia,v9 (lo:=0) (n:=((ts.map V.str).length:Int).toNat)
   (λi Z H3=>∃(x4 x5:Aan)(gi:fV),Z=[some (.ref ap),some (.ref bp),some (.ref d),some (.ref p),x4,x5]/\aQ H2 H3/\H3 p=some (.dK (gK gi))/\(keys gi).Nodup/\gi.length<=g.length+i/\cH.fit isUnk g ts as=cH.fit isUnk gi (ts.drop i) (as.drop i))
   {_,_,g,rfl,s1,vZ,nd,ao _,rfl} ?_ ?_}
  ·rintro i Z H3 hi ⟨x4,x5,gi,rfl,s2,lW,Gq,lg2,ef⟩;have li:i<ts.length:=by lia
   have Zy:i<as.length:=by lia
   obtain⟨z,U2⟩:∃z,ts[i]?=some z:={_,aq li};obtain⟨b,Vo⟩:∃z,as[i]?=some z:={_,aq Zy};have dz:ts.drop i=z::ts.drop (i+1):=by rw[mS li];rw[aq li]at U2;cases U2;rfl
   have db:as.drop i=b::as.drop (i+1):=by rw[mS Zy];rw[aq Zy]at Vo;cases Vo;rfl
   rw[dz,db]at ef;have evz:wc (ts.map V.str) (0+(i:Int))=some (.str z):=by rw[qF];exact iG (by rw[aI,U2];rfl)
   have VA:wc (as.map V.str) (0+(i:Int))=some (.str b):=by rw[qF];exact iG (by rw[aI,Vo];rfl)
   refine{_,rfl,_,_,_,_,rfl,rfl,bf.of (s2 _ _ uU),rfl,_,rfl,_,_,_,_,rfl,rfl,bf.of (s2 _ _ ht),evz,?_};obtain⟨zT,zl⟩:=hz z (aE U2);obtain⟨c,QF⟩:=HD zT;refine{_,rfl,_,_,_,rfl,rfl,bI (bN ∅),iG (j:=0) QF,rfl,_,rfl,?_};show if(!decide (V.str ⟨#[c]⟩=V.str "?"))=true then _ else _;rw[HE zT QF];have lgk:(gK gi).length=gi.length:=ak _;have small:(gK gi).length<sizeLine:=by rw[lgk];exact aV (show gi.length<3000 by lia) (by rw[bU];decide)
   refine eZ (λc1=>?_) (λc1=>?_)
   ·have c1:¬isUnk z=true:=by simpa using c1
    refine{_,rfl,_,rfl,_,_,_,_,rfl,rfl,bf.of (s2 _ _ Mo),rfl,_,rfl,_,_,_,_,rfl,rfl,bf.of (s2 _ _ ha),VA,rfl,_,rfl,?_};refine eZ (λc2=>?_) (λc2=>?_)
    ·refine k1 H3 s2 ?_;rw[ef];unfold cH.fit;rw[ax c1,ax (λe=>by rw[e]at c2;simp at c2)]
    ·have e2:z=b:=by have:¬¬(V.str z=V.str b):=λh=>c2 (by simpa using h);have:=oJ.mp this;injection this
     refine{_,_,gi,rfl,s2,lW,Gq,by lia,?_};rw[ef]
     conv=>lhs;unfold cH.fit
     rw[ax c1,aA e2]
   ·have c1:isUnk z=true:=by simpa using c1
    have dg:=oK.k (k:=Sum.inr z) lW;have ev:=Hr gi z;refine{_,rfl,_,rfl,p,_,rfl,dg,_,rfl,?_};have own:∀x:HO,aQ H2 (upd H3 p x):=λx b' u h=>by rw[aH (bc h hp)];exact s2 _ _ h
    cases hm:cH.get gi z with
    |some m=>
     rw[hm]at ev;rw[ev]at dg;refine eZ (λ_=>?_) (λc=>absurd (by rw[ev];rfl) c);refine{_,rfl,_,rfl,p,_,rfl,dg,_,rfl,_,_,_,_,rfl,rfl,bf.of (s2 _ _ Mo),rfl,_,rfl,_,_,_,_,rfl,rfl,bf.of (s2 _ _ ha),VA,rfl,_,rfl,?_};refine eZ (λc2=>?_) (λc2=>?_)
     ·refine k1 H3 s2 ?_;rw[ef];unfold cH.fit;rw[aA c1,hm];show(if m=b then _ else none)=none;rw[ax (λe=>by rw[e]at c2;simp at c2)]
     ·have e2:m=b:=by have:¬¬(V.str m=V.str b):=λh=>c2 (by simpa using h);have:=oJ.mp this;injection this
      refine{_,rfl,_,_,_,_,rfl,rfl,bf.of (s2 _ _ Mo),rfl,_,rfl,_,_,_,_,rfl,rfl,bf.of (s2 _ _ ha),VA,_,rfl,_,rfl,p,_,rfl,yY.k (k:=Sum.inr z) lW small,?_};rw[Sa Gq (by rw[hm,e2])];refine{_,_,gi,rfl,own _,ar,Gq,by lia,?_};rw[ef]
      conv=>lhs;unfold cH.fit
      rw[aA c1,hm];show(if m=b then _ else none)=_;rw[aA e2]
    |none=>
     rw[hm]at ev;refine eZ (λc=>absurd c (by rw[ev];simp)) (λ_=>?_);refine{_,rfl,_,_,_,_,rfl,rfl,bf.of (s2 _ _ Mo),rfl,_,rfl,_,_,_,_,rfl,rfl,bf.of (s2 _ _ ha),VA,_,rfl,_,rfl,p,_,rfl,yY.k (k:=Sum.inr z) lW small,?_};rw[YO hm];refine{_,_,gi++[(z,b)],rfl,own _,ar,Ar Gq hm,by rw[aM];show gi.length+1<=_;lia,?_};rw[ef]
     conv=>lhs;unfold cH.fit
     rw[aA c1,hm]
  ·rintro Z H3 ⟨x4,x5,gi,rfl,s2,lW,Gq,lg2,ef⟩;rw[w5 ∅,w5 ∅]at ef;exact{_,rfl,k2 p gi H3 s2 hp lW ef}
 ·refine{_,rfl,_,_,_,_,rfl,rfl,bf.of uU,rfl,_,rfl,_,_,_,_,rfl,rfl,bf.of Mo,rfl,rfl,_,rfl,?_};refine eZ (λc=>?_) (λc=>?_)
  ·refine k1 H (aQ.refl H) (ax λe=>?_);rw[show na=nb from e]at c;simp at c
  have en:na=nb:=by have:¬¬(V.str na=V.str nb):=λh=>c (by simpa using h);have:=oJ.mp this;injection this
  refine{_,rfl,_,_,_,_,rfl,rfl,bf.of uU,rfl,_,_,rfl,.inr {_,bf.of ht,rfl},_,rfl,_,_,_,_,rfl,rfl,bf.of Mo,rfl,_,_,rfl,.inr {_,bf.of ha,rfl},rfl,_,rfl,?_};refine eZ (λc=>?_) (λc=>?_)
  ·refine k1 H (aQ.refl H) ((aA en).trans (BB λe=>?_));have e:ts.length=as.length:=e;rw[Jf,las,e]at c;simp at c
  ·refine tl _ _ {rfl,rfl,en,?_};rw[Jf,las]at c;have:¬¬(V.int (ts.length:Int)=V.int (as.length:Int)):=λh=>c (by simpa using h);have:=oJ.mp this;injection this with this;lia
end
end qE
namespace L2
open PySem PySem.Spec PyProof.Rows PySem.W
section
variable{X:Cx}{pins:Aaa}{Z:St}{H:Hp}{s:Shared}
def TyS(K:Frag)(H:Hp)(x:V)(t:Value):Prop:=oF K H x t\/∃a xs,x=.ref a/\t=.type "tuple"/\bf K H a xs
def Ek{x:V}{u t:Value}(I:Inv X pins Z H s)(rx:RelV x u)(ty:TyS X.K H x t):∃G:Heap->Prop,KitX X.K u t G/\G s.heap/\u≠ .builtin "__main__.__loader__#opaque":=by
 rcases ty with ty|⟨a,xs,rfl,rfl,hq⟩;rotate_left
 ·cases(show u=Value.ref a from rx);obtain⟨aP,r',⟨o,h1,h2,_⟩,_⟩:=I.tuple hq;exact{_,kitx_tuple,⟨o,h1,h2⟩,λz=>nomatch z}
 cases ty with
 |cb=>cases(show u=Value.none from rx);exact{_,kitx_none,True.intro,λz=>nomatch z}
 |bl y=>cases(show u=Value.bool y from rx);exact{_,kitx_bool,True.intro,λz=>nomatch z}
 |int i=>obtain⟨t,q⟩:=(show∃t,u=Value.int i t from rx);cases q;exact{_,kitx_int,True.intro,λz=>nomatch z}
 |str y=>obtain⟨t,q⟩:=(show∃t,u=Value.str y t from rx);cases q;exact{_,kitx_str,True.intro,λz=>nomatch z}
 |GK y=>obtain⟨t,q⟩:=(show∃t,u=Value.float y t from rx);cases q;exact{_,kitx_float,True.intro,λz=>nomatch z}
 |@lst a xs ea=>
  cases(show u=Value.ref a from rx);obtain⟨_,_,n,_,h1⟩:=(show cI X.prog X.w H s.heap a (.lst xs)from I.bw a _ ea);exact{_,kitx_list,⟨_,h1,rfl⟩,λz=>nomatch z}
 |@fA a ob xs ea=>
  cases(show u=Value.ref a from rx);obtain⟨_,_,_,n,_,h1⟩:=(show cI X.prog X.w H s.heap a (.fA ob (.lst xs))from I.bw a _ ea);exact{_,kitx_list,⟨_,h1,rfl⟩,λz=>nomatch z}
 |@tup a xs ea=>
  cases(show u=Value.ref a from rx);obtain⟨_,_,_,p,_⟩:=(show cI X.prog X.w H s.heap a (.tup xs)from I.bw a _ ea);obtain⟨o,h1,h2,_⟩:=p;exact{_,kitx_tuple,⟨o,h1,h2⟩,λz=>nomatch z}
 |@dK a kvs ea=>
  cases(show u=Value.ref a from rx);obtain⟨_,_,vs,_,p⟩:=(show cI X.prog X.w H s.heap a (.dK kvs)from I.bw a _ ea);obtain⟨o,es,ep,h1,h2,_⟩:=p;exact{_,kitx_dict,{o,h1,h2.1},λz=>nomatch z}
 |@dT a kvs ea=>
  cases(show u=Value.ref a from rx);obtain⟨_,_,xs,_,o,es,ep,h1,h2,_⟩:=(show cI X.prog X.w H s.heap a (.dT kvs)from I.bw a _ ea);exact{_,kitx_dict,{o,h1,h2.1},λz=>nomatch z}
 |@ins a C dx fs ea cl ha hn L9 hm=>
  cases(show u=Value.ref a from rx);obtain⟨mA,O,_⟩:=xy I.bw ea;obtain⟨od,J,_⟩:=O.look;exact{_,kitx_own (cl.get _) cl.hd ha hn L9 hm,J,λz=>nomatch z}
theorem Hq:∀{ns:List String}{us:Aae},Vals (ns.map V.ty) us->us=ns.map Value.type
 |[],_,.nil=>rfl
 |c::r,_,.cons e h=>by rw[Hq h];have e:_=Value.type c:=e;rw[e];rfl
def Kg:gA X (.builtin "isinstance") (λxs H Q=>∃(x:V)(t:Value)(p:Addr)(ns:List String)(b:Bool),xs=[x,.ref p]/\TyS X.K H x t/\H p=some (.tup (ns.map V.ty))/\kitAny X.K t (ns.map Value.type)=some b/\Q (.bl b) H):=by intro pins s Z H xs us Q I r h;obtain⟨x,t,p,ns,b,rfl,ty,hp,hb,q⟩:=h;obtain⟨v,w',rfl,rv,lT⟩:=tP r;cases lT;obtain⟨G,kx,g,hx⟩:=Ek I rv ty;obtain⟨aP,r',⟨⟨c0,d0,da0,s0⟩,e1,e2,n,e3⟩,_⟩:=I.tuple (bf.of hp);have e2:c0=.type "tuple":=e2;have e3:da0=.seq aP.toArray n:=e3;subst e2 e3;rw[Hq r']at e1;exact kia_tup kx I.k9 g e1 hb hx λtk=>{.bl b,H,I.tok tk,rfl,q}
def u3:gA X (.builtin "isinstance") (λxs H Q=>∃(x:V)(t:Value)(n:String)(b:Bool),xs=[x,.ty n]/\TyS X.K H x t/\kitOne X.K t (.type n)=some b/\Q (.bl b) H):=by intro pins s Z H xs us Q I r h;obtain⟨x,t,n,b,rfl,ty,hb,q⟩:=h;obtain⟨v,w',rfl,rv,lT⟩:=tP r;cases lT;obtain⟨G,kx,g,hx⟩:=Ek I rv ty;exact kia_one kx I.k9 g hb hx λtk=>{.bl b,H,I.tok tk,rfl,q}
def R9(K:Frag):R2:=λx y H Q=>R8 K x y H Q\/R7 K x y H Q
def L4{K:Frag}(h:X.K=K:=by rfl):Kr X (R9 K):=by subst h;intro value slice pins s Z H x y v u Q I rx ry h hs;exact h.elim (λh=>fY value slice pins s Z H x y v u Q I rx ry h hs) λh=>eU value slice pins s Z H x y v u Q I rx ry h hs
end
end L2
namespace L2
open PySem PySem.Spec PyProof.Rows f6
section
variable{P:Program}{w:World}
def GS(n:Nat){v:Value}(hv:carriedByValue v=true):ofAClassStatement n v=pure false:=by
 cases v with
 |ref a=>simp[carriedByValue]at hv
 |_=>cases n<;>first|rfl|(unfold ofAClassStatement;rfl)
def IZ:carriedByValue .none=true:=rfl
mutual
theorem MB:∀(k:NK)(n:Nat)(A:Around)(E:Aac)(s:Shared)(v:Value)(Q:Bool->Shared->Prop),jm P w s.heap k v->NK.deep k<=n->Q false s->wpAny (model P w) A (ofAClassStatement n v) Q E s
 | .cb,n,A,E,s,v,Q,r,_,q=>by cases r;rw[GS n IZ];exact af q
 | .key k,n,A,E,s,v,Q,r,_,q=>by
  cases r with
  |key h=>
   rw[GS n ((bJ P w).byValue _ _ h)];exact af q
 | .tup ks,0,A,E,s,v,Q,r,hn,q=>by rw[NK.deep]at hn;exact absurd hn ∅
 | .tup ks,n+1,A,E,s,v,Q,r,hn,q=>by
  cases r with
  |@tup _ a o items m ho hc hd hi=>
   rw[NK.deep]at hn;have hT:s.TypeIs (.ref a) "tuple":=⟨o,ho,hc⟩;unfold ofAClassStatement;refine ae (gu hT ?_);dsimp only;rw[aA (by decide)];refine ae (af ?_);simp only[kj,bE,cN];refine ae (bQ ho hd ?_);refine ae ?_;show wpAny _ _ (forIn items _ _) _ _ s;rw[<-iU];refine fP _ (λrest r s'=>r.1=none/\s'=s/\∃left,jR P w s.heap left rest/\∀k∈left,k∈ks) _ ?_ ?_ _ _ {rfl,rfl,ks,hi,λ_ h=>h}
   ·rintro v rest r s' ⟨hr,rfl,left,hl,hm⟩;cases hl with
    |@cons k _ Jl _ h1 oS=>
     refine ae (GU ks k (hm k ay) n _ _ _ v _ h1 ∅ ?_);simp only[bE,cN];exact af {rfl,rfl,Jl,oS,λk' AL=>hm k' (az _ AL)}
   ·rintro⟨r1,r2⟩ s' ⟨hr,rfl,_⟩;simp only at hr;subst hr;exact af q
theorem GU:∀(ks:List NK)(k:NK),k∈ks->∀(n:Nat)(A:Around)(E:Aac)(s:Shared)(v:Value)(Q:Bool->Shared->Prop),jm P w s.heap k v->NK.jK ks<=n->Q false s->wpAny (model P w) A (ofAClassStatement n v) Q E s
 |[],k,h,n,A,E,s,v,Q,r,hn,q=>by cases h
 |k0::ks,k,h,n,A,E,s,v,Q,r,hn,q=>by
  rw[NK.jK]at hn;rcases aF.mp h with e|h
  ·rw[e]at r;exact MB k0 n A E s v Q r ∅ q
  ·exact GU ks k h n A E s v Q r ∅ q
end
mutual
theorem Vn:∀(k:NK)(n:Nat)(A:Around)(E:Aac)(s:Shared)(v:Value)(Q:Bool->Shared->Prop),jm P w s.heap k v->NK.deep k<=n->(∀c,Q c s)->wpAny (model P w) A (hashByValue n v) Q E s
 | .cb,n,A,E,s,v,Q,r,_,q=>by cases r;obtain⟨b,e⟩:=Tb.wI n IZ;rw[e];exact af (q b)
 | .key k,n,A,E,s,v,Q,r,_,q=>by
  cases r with
  |key h=>
   obtain⟨b,e⟩:=Tb.wI n ((bJ P w).byValue _ _ h);rw[e];exact af (q b)
 | .tup ks,0,A,E,s,v,Q,r,hn,q=>by rw[NK.deep]at hn;exact absurd hn ∅
 | .tup ks,n+1,A,E,s,v,Q,r,hn,q=>by
  cases r with
  |@tup _ a o items m ho hc hd hi=>
   rw[NK.deep]at hn;have hT:s.TypeIs (.ref a) "tuple":=⟨o,ho,hc⟩;unfold hashByValue;refine ae (gg hT jy.lookup ?_);dsimp only;refine ae (bQ ho hd ?_);refine ae ?_;show wpAny _ _ (forIn items _ _) _ _ s;rw[<-iU];refine fP _ (λrest r s'=>r.1=none/\s'=s/\∃left,jR P w s.heap left rest/\∀k∈left,k∈ks) _ ?_ ?_ _ _ {rfl,rfl,ks,hi,λ_ h=>h}
   ·rintro v rest r s' ⟨hr,rfl,left,hl,hm⟩;cases hl with
    |@cons k _ Jl _ h1 oS=>
     refine ae (Mn ks k (hm k ay) n _ _ _ v _ h1 ∅ λc=>?_);cases c with
     |false=>
      simp only[xS,jJ];exact af (af (q false))
     |true=>
      simp only[kj,bE,cN];exact af {rfl,rfl,Jl,oS,λk' AL=>hm k' (az _ AL)}
   ·rintro⟨r1,r2⟩ s' ⟨hr,rfl,_⟩;simp only at hr;subst hr;exact af (q true)
theorem Mn:∀(ks:List NK)(k:NK),k∈ks->∀(n:Nat)(A:Around)(E:Aac)(s:Shared)(v:Value)(Q:Bool->Shared->Prop),jm P w s.heap k v->NK.jK ks<=n->(∀c,Q c s)->wpAny (model P w) A (hashByValue n v) Q E s
 |[],k,h,n,A,E,s,v,Q,r,hn,q=>by cases h
 |k0::ks,k,h,n,A,E,s,v,Q,r,hn,q=>by
  rw[NK.jK]at hn;rcases aF.mp h with e|h
  ·rw[e]at r;exact Vn k0 n A E s v Q r ∅ q
  ·exact Mn ks k h n A E s v Q r ∅ q
end
def uN(P:Program)(w:World):Tb.SK P w NK where
 hash:=NK.hash P w
 draws:=NK.draws
 room:=λA=>A.units+100<cLine
 is:=Km P w
 keep:=λx k=>{Jo _ _ k _ x.1,x.2}
 cls:=λhk h=>MB _ 8 _ _ _ _ _ hk.1 (by have:=hk.2.2.2;lia) h
 quiet:=λhk h=>(jN P w).quiet hk h
 eq:=λhu hx hy h=>(jN P w).eqBool hu hx hy h
 hashes:=λhu hk h=>(jN P w).pyHash hu hk h
 QG:=λhk h=>Vn _ 8 _ _ _ _ _ hk.1 (by have:=hk.2.2.2;lia) h
end
end L2
namespace f6
open PySem PySem.W PyProof.Rows PySem.Calls
theorem jk.length:∀{zs:Aaf}{vs:Aae},jk zs vs->vs.length=zs.length
 |_,_,.nil=>rfl
 |_,_,.cons r=>by rw[bu,bu,r.length]
section
open PySem.SeqAt
open PySem.AutoSeq1 (wpAny_loadPart')
open PySem.MeetsSeq PySem.MeetsSeq2 PySem.MeetsSeq3
def X4{l b:Addr}{aP vU:Aaj}{n m:Nat}{dd de:Aai}{sl sm:Array (Aag)}{xs ys:Aaf}(hi:jk xs aP.toList)(hj:jk ys vU.toList):
  Meets (Builtin.«tuple.__lt__» {[.ref l,.ref b],[]})
   (λ_ R s=>s.heap.get? l=some {cls:=.type "tuple",dict:=dd,data:=.seq aP n,slots:=sl}/\s.heap.get? b=some {cls:=.type "tuple",dict:=de,data:=.seq vU m,slots:=sm}/\R (.ok (.ret (.bool (cY xs ys)))) s):=
 .of_wp λprog w A R s h=>by
  obtain⟨hp,g,d,tk,os⟩:=s;obtain⟨hl,hb,h⟩:=h;have f2:=AutoSeq1.sub_tuple_tuple;have z1:aP.size=xs.length:=by rw[<-hi.length];simp
  have z2:vU.size=ys.length:=by rw[<-hj.length];simp
  wp_walk using wpAny_loadPart' hl,wpAny_loadPart' hb,fP _ (λrest b s'=>b.1=none/\s'=⟨hp,g,d,tk,os⟩/\∃(vs ws:Aae)(x' y':Aaf),rest=vs.zip ws/\
   jk x' vs/\jk y' ws/\x'.length+vU.size=y'.length+aP.size/\R (.ok (.ret (.bool (cY x' y')))) ⟨hp,g,d,tk,os⟩) _
  case turn=>
   rintro⟨y,x⟩ rest b s' ⟨gJ,rfl,vs,ws,x',y',hz,Z7,U5,hlen,hR⟩;cases Z7 with
   |nil=>rw[List.zip_nil_left]at hz;cases hz
   |@cons a t _ _ adh=>
    cases U5 with
    |nil=>rw[List.zip_nil_right]at hz;cases hz
    |@cons c u _ _ adg=>
     injection hz with hyx abP;injection hyx with hy hx;subst hy hx;unfold cY at hR;simp only[bu]at hlen;refine ae ((Bf a t c u) prog w _ _ ?_);by_cases e:a=c
     ·rw[show(a==c)=true from nY.mpr e];rw[aA e]at hR
      wp_walk
      exact{rfl,rfl,_,_,_,_,abP,adh,adg,by lia,hR}
     ·rw[show(a==c)=false from du.mpr e];rw[ax e]at hR;have hri:∀(E:Aac)(Q:Aac),Q (.bool (Gu a c)) ⟨hp,g,d,tk,os⟩->wpAny (model prog w) A.in1 (richCompare .Lt (.str a t) (.str c u)) Q E ⟨hp,g,d,tk,os⟩:=λE Q h=>(zC h:wpAny (model prog w) A.in1 (compareOp .Lt (.str a t) (.str c u)) Q E _)
      wp_walk using hri
      exact{_,rfl,by simpa using hR}
  case fin=>
   rintro⟨b1,b2⟩ s' ⟨gJ,rfl,vs,ws,x',y',hz,Z7,U5,hlen,hR⟩;simp only at gJ;subst gJ;have hv:cY x' y'=decide (aP.size<vU.size):=by
    cases Z7 with
    |nil=>
     cases U5 with
     |nil=>
      exact(bB ∅).symm
     |cons hw=>
      simp only[gk,bu]at hlen;exact(aX ∅).symm
    |cons hv=>
     cases U5 with
     |nil=>
      simp only[gk,bu]at hlen;exact(bB ∅).symm
     |cons hw=>
      cases hz
   rw[hv]at hR
   wp_walk
   exact{_,rfl,by simpa[Builtin.Tuple.tupleCompareSizes]using hR}
  case h=>
   exact{rfl,rfl,aP.toList,vU.toList,xs,ys,rfl,hi,hj,by lia,h}
end
section
variable{prog:Program}{w:World}{A:Around}{E:Aac}{s:Shared}
def Zp{x y:Addr}{xs ys:Aaf}{Q:Aac}(hx:TupIs s.heap (.ref x) xs)(hy:TupIs s.heap (.ref y) ys)(hu:A.units<cLine)(h:Q (.bool (cY xs ys)) s):wpAny (model prog w) A (compareOp .Lt (.ref x) (.ref y)) Q E s:=by obtain⟨_,⟨c,dd,dt,sl⟩,aP,n,e,ho,hc,hd,hi⟩:=hx;obtain⟨_,⟨c2,de,dt2,sm⟩,vU,m,e2,xD,xG,hd2,hj⟩:=hy;cases e;cases e2;simp only at hc hd xG hd2;subst hc hd xG hd2;exact richCompare_meets_room (op:=.Lt) ⟨_,ho,rfl⟩ ⟨_,xD,rfl⟩ PySem.F.slot_tuple_lt PySem.F.entry_tuple_lt (PySem.F.args_tuple_lt_2 _ _) (X4 hi hj) {ho,xD,show Value.bool (cY xs ys)≠Value.notImplemented/\Q (.bool (cY xs ys)) s from{(λx=>nomatch x),h}} hu
theorem LZ{P:Program}{w:World}:∀{zs:Aaf}{us:Aae},jk zs us->ItemsAre (PySem.strKind P w) zs us
 |_,_,.nil=>.nil
 |_,_,.cons r=>.cons (DW _ _ _ _) (LZ r)
def TupIs.key{P:Program}{w:World}{h:Heap}{a:Addr}{zs:Aaf}(x:TupIs h (.ref a) zs):IsTupleKey (PySem.strKind P w) h zs a:=by obtain⟨_,o,aP,n,e,ho,hc,hd,hr⟩:=x;cases e;exact{o,aP,n,ho,hc,hd,LZ hr}
def hE(h:Heap)(v:Value)(r:Aaf):Prop:=∃a o aP n g t z zs,v=.ref a/\h.get? a=some o/\o.cls=.type "tuple"/\o.data=.seq aP n/\aP.toList=[.str z t,.ref g]/\r=z::zs/\TupIs h (.ref g) zs
def W0{x y:Value}{xs ys:Aaf}{C:Bool->Shared->Prop}(hu:A.units<cLine)(hx:hE s.heap x xs)(hy:hE s.heap y ys)(h:C (cY xs ys) s):wpAny (model prog w) A (keyLt' (tuples' true) x y) C E s:=by
 obtain⟨a,o,aP,n,g,t,z,zs,rfl,ho,hc,hd,el,rfl,hg⟩:=hx;obtain⟨b,p,vU,m,g',u,z',B2,rfl,hp,Vb,hpd,el2,rfl,Cu⟩:=hy;have z1:aP.size=2:=by rw[<-aZ,el];rfl
 have z2:vU.size=2:=by rw[<-aZ,el2];rfl
 refine kat_lt ho hd hp hpd ?_;rw[el,el2,z1,z2];unfold cY at h;refine kat_cons (eq_str ?_);by_cases e:z=z'
 ·rw[aX e];rw[aA e]at h;refine kat_yes (kat_cons (zK hu hg.key Cu.key ?_));by_cases e2:zs=B2
  ·subst e2;rw[aX rfl];refine kat_yes (kat_nil ?_);rw[qb]at h;exact h
  ·rw[bB e2];exact kat_no (kat_one _ _ (Zp hg Cu hu h))
 ·rw[bB e];rw[ax e]at h;exact kat_no (oneLt_str h)
def PV{vs:Aae}{rows:R1}{Q:SortKind->Shared->Prop}(hl:vs.length=rows.length)(h2:2<=vs.length)(ht:∀(i:Nat) v r,vs[i]?=some v->rows[i]?=some r->hE s.heap v r)(h:Q (tuples' true) s):wpAny (model prog w) A (keyKind' vs.toArray) Q E s:=by
 have key:∀(vs:Aae)(rows:R1),vs.length=rows.length->(∀(i:Nat) v r,vs[i]?=some v->rows[i]?=some r->hE s.heap v r)->∃fs,KatTups s.heap vs fs/\fs.length=vs.length/\∀f∈fs,∃z t,f=Value.str z t:=by
  intro vs
  induction vs with
  |nil=>intro rows hl _;exact{[],KatTups.nil,rfl,λf hf=>nomatch hf}
  |cons v vs ih=>
   intro rows hl ht;cases rows with
   |nil=>simp at hl
   |cons r rows=>
    obtain⟨fs,h1,h2,h3⟩:=ih rows (by simpa using hl) λi v' r' e1 e2=>ht (i+1) v' r' (by simpa using e1) (by simpa using e2);obtain⟨a,o,aP,n,g,t,z,zs,rfl,ho,hc,hd,el,er,hg⟩:=ht 0 v r rfl rfl;have e0:aP[0]?=some (.str z t):=by rw[<-bK,el];rfl
    refine{.str z t::fs,KatTups.cons ho hc hd e0 h1,by simp[h2],λf hf=>?_};rcases aF.mp hf with rfl|hf
    ·exact⟨z,t,rfl⟩
    ·exact h3 f hf
 obtain⟨fs,h1,h3,h4⟩:=key vs rows hl ht;refine kat_kind (T:=.type "str") h1 ∅ (λv hv=>?_) (by decide) ?_
 ·obtain⟨z,t,rfl⟩:=h4 v hv;exact Looks.of_pure rfl
 ·have e:((Value.type "str") !=Value.type "tuple")=true:=by decide
  rw[e];exact h
def hE.mono{h h':Heap}{v:Value}{r:Aaf}(x:hE h v r)(kp:∀b o,o.cls=.type "tuple"->h.get? b=some o->h'.get? b=some o):hE h' v r:=by obtain⟨a,o,aP,n,g,t,z,zs,e,ho,hc,hd,el,er,b,p,vU,m,e2,hp,Vb,r⟩:=x;exact{a,o,aP,n,g,t,z,zs,e,kp _ _ hc ho,hc,hd,el,er,b,p,vU,m,e2,kp _ _ Vb hp,Vb,r}
def hE.one{h:Heap}{v:Value}{x y:Aaf}(a:hE h v x)(b:hE h v y):x=y:=by obtain⟨a,o,aP,n,g,t,z,zs,rfl,h1,_,h2,h3,rfl,h4⟩:=a;obtain⟨b,p,vU,m,g',u,z',B2,e,q1,_,q2,q3,rfl,q4⟩:=b;cases e;rw[h1]at q1;cases q1;rw[h2]at q2;cases q2;rw[h3]at q3;injection q3 with e1 e2;injection e1 with e1 _;injection e2 with e2 _;cases e1;cases e2;rw[h4.one q4]
open Classical in
def Iy(h:Heap)(v:Value):Aaf:=if x:∃r,hE h v r then Classical.choose x else[]
def uh{h:Heap}{v:Value}{r:Aaf}(x:hE h v r):Iy h v=r:=by unfold Iy;rw[dif_pos ⟨r,x⟩];exact(xR (⟨r,x⟩:∃r,hE h v r)).one x
def MV{a:Addr}{n:Nat}{vs:Aae}{rows:R1}{P:PySem.Fin->Shared->Prop}(hu:A.units<cLine)(ho:s.heap.get? a=some (seqObj "list" vs.toArray n))(hl:vs.length=rows.length)(ht:∀(i:Nat) v r,vs[i]?=some v->rows[i]?=some r->hE s.heap v r)(su:vs.length<64)
  (k:∀(h':Heap)(tk c:Nat)(us:Aae),h'.get? a=some (seqObj "list" us.toArray c)->(∀b o,b≠a->s.heap.get? b=some o->h'.get? b=some o)->us.Perm vs->(∀(i:Nat) v r,us[i]?=some v->(dc rows)[i]?=some r->hE s.heap v r)->P (.done (.ret .none)) {s with heap:=h',toks:=tk}):
  wpAny (model prog w) A (Builtin.«list.sort» {[.ref a],[]}) P E s:=by
 by_cases c2:vs.length<2
 ·refine HX ho c2 λh' c g kp=>?_;have e:dc rows=rows:=by
   have:rows.length<2:=by lia
   match rows,this with
   |[],_=>exact(pk (.refl _) .nil).symm
   |[r],_=>exact(pk (.refl _) (by simp)).symm
   |_::_::_,q=>simp at q;lia
  rw[e]at k;exact k h' s.toks c vs g kp (.refl _) ht
 ·have k3:∀s',Tk {s with heap:=kS s.heap a vs} s'->∀b o,o.cls=.type "tuple"->s.heap.get? b=some o->s'.heap.get? b=some o:=λs' ⟨t,e⟩ b o hc hb=>by
   subst e;have nb:b≠a:=λz=>by rw[z,ho]at hb;cases hb;have zk:Value.type "list"=Value.type "tuple":=hc;injection zk with z;exact absurd z (by decide)
   exact ah _ (ah _ ((bG s.heap a _).extBut b o nb hb))
  have mr:∀v∈vs,∃r,r∈rows/\hE s.heap v r:=λv hv=>by obtain⟨i,hi,rfl⟩:=jE.mp hv;exact{_,jU (l:=rows) (n:=i) ∅,ht i _ _ (aq hi) (aq _)}
  refine Ly (κ:=tuples' true) (rk:=λv=>Im rows (Iy s.heap v)) ho ∅ ∅ (λs' tk=>?_) (λx hx y hy s' tk=>?_) λus h' tk c po so g kp=>?_
  ·exact PV hl ∅ (λi v r e1 e2=>(ht i v r e1 e2).mono (k3 s' tk)) ⟨rfl,tk⟩
  ·obtain⟨r,m1,t1⟩:=mr x hx;obtain⟨q,m2,t2⟩:=mr y hy;refine W0 hu (t1.mono (k3 s' tk)) (t2.mono (k3 s' tk)) {?_,tk};rw[uh t1,uh t2,Hh m1 m2]
  ·have er:us.map (Iy s.heap)=dc rows:=by
    have ev:vs.map (Iy s.heap)=rows:=by refine pB (by simpa using hl) λi h1 h2=>?_;rw[pA];exact uh (ht i _ _ (aq _) (aq h2))
    refine pk (by rw[<-ev];exact po.map _) (gc.mpr (so.imp_of_mem λ{x y} hx hy q=>?_));obtain⟨r,m1,t1⟩:=mr x (po.mem_iff.mp hx);obtain⟨p,m2,t2⟩:=mr y (po.mem_iff.mp hy);rw[uh t1,uh t2]at q⊢;have z:=Hh m2 m1;rw[bB (yS.mpr q)]at z;show(!cY _ _)=true;rw[<-z];rfl
   refine k h' tk c us g kp po λi v r e1 e2=>?_;rw[<-er,aI,e1]at e2;cases e2;obtain⟨r,m1,t1⟩:=mr v (po.mem_iff.mp (aE e1));rw[uh t1];exact t1
end
end f6
namespace L2
open PySem PySem.Spec PyProof.Rows f6
def Ce:Aaf->NK
 |[]=>.cb
 |z::zs=>.tup [.key (.inr z),fD zs]
theorem WW:∀{x y:Aaf},Ce x=Ce y->x=y
 |[],[],_=>rfl
 |[],_::_,h=>by cases h
 |_::_,[],h=>by cases h
 |z::zs,z'::B2,h=>by simp only[Ce,NK.tup.injEq,List.cons.injEq,NK.key.injEq,Sum.inr.injEq,and_true]at h;rw[h.1,rh h.2]
def IG(P:Program)(w:World):Tb.SK P w (Aaf) where
 hash:=λr=>NK.hash P w (Ce r)
 draws:=λr=>NK.draws (Ce r)
 room:=(uN P w).room
 is:=λh r a=>Km P w h (Ce r) a
 keep:=λx k=>(uN P w).keep x k
 cls:=λhk h=>(uN P w).cls hk h
 quiet:=λhk h=>(uN P w).quiet hk h
 eq:=λ{A E s x y a b Q} hu hx hy h=>(uN P w).eq hu hx hy (by
  rw[show decide (Ce x=Ce y)=decide (x=y)from decide_eq_decide.mpr {WW,λe=>by rw[e]}];exact h)
 hashes:=λhu hk h=>(uN P w).hashes hu hk h
 QG:=λhk h=>(uN P w).QG hk h
def lH(P:Program)(w:World)(a:Addr)(us:List (Aaf×Addr)):Heap->Prop:=λh=>∃o ep t,h.get? a=some o/\o.ExactSet/\o.data=.set (us.map (Tb.ent (IG P w))).toArray ep t/\t.fits us.length=true/\t.led=Tb.mq w/\Tb.my t.place
def RX{P:Program}{w:World}{H:Hp}{h:Heap}{a:Addr}{us:List (Aaf×Addr)}(x:lH P w a us h):cI P w H h a (.ext (lH P w a us)):=
 {x,let⟨o,_,_,q,_⟩:=x;⟨o,q⟩,λ_ _ ⟨o,ep,t,q,r⟩ k=>{o,ep,t,k _ q,r}}
def vh(K:Frag)(H:Hp)(v:V)(r:Aaf):Prop:=∃p g z zs,v=.ref p/\r=z::zs/\bf K H p [.str z,.ref g]/\bf K H g (zs.map V.str)
section
variable{X:Cx}{pins:Aaa}{Z:St}{H:Hp}{s:Shared}
def Inv.prB(I:Inv X pins Z H s){p:Addr}{r:Aaf}(h:vh X.K H (.ref p) r):hE s.heap (.ref p) r:=by obtain⟨_,g,z,zs,e,rfl,h1,h2⟩:=h;cases e;obtain⟨aP,rv,⟨o,e,c,n,d⟩,_⟩:=I.tuple h1;have t:=(I.row h2).1;obtain⟨_,_,rfl,ra,rb⟩:=tP rv;obtain⟨tk,rfl⟩:=(show∃t,_=Value.str z t from ra);cases(show _=Value.ref g from rb);exact{p,o,_,n,g,tk,z,zs,rfl,e,c,d,by simp,rfl,t}
def ZO{K:Frag}{p:Addr}{r:Aaf}(h:vh K H (.ref p) r)(hz:∀z∈r,PyData.strOk z=true):hV K H (Ce r) p:=by
 obtain⟨_,g,z,zs,e,rfl,h1,h2⟩:=h;cases e;refine{?_,(uW (n:=1) λk hk=>?_).good (by decide)}
 ·unfold Ce;rw[NV];refine{p,_,rfl,h1,?_};simp only[oZ];exact{_,_,rfl,by rw[NV];rfl,_,_,rfl,Aq h2,rfl}
 ·simp only[aF,vo,or_false]at hk;rcases hk with rfl|rfl
  ·exact Dk (hz z ay)
  ·exact uX λy hy=>hz y (az _ hy)
theorem Inv.YS(I:Inv X pins Z H s):∀{ys:Aam}{rows:R1}{us:Aae},Paired (vh X.K H) ys rows->Vals ys us->∃bs:Aah,us=bs.map Value.ref/\ys=bs.map V.ref/\bs.length=rows.length/\∀(i:Nat) z b,rows[i]?=some z->bs[i]?=some b->vh X.K H (.ref b) z
 |_,_,_,.nil,.nil=>{[],rfl,rfl,rfl,λi z b e=>by simp at e}
 |_,_,_,.cons (b:=zs) ⟨a,g,z,rr,e,h⟩ r,.cons (b:=u) ru q=>by
  obtain⟨bs,h1,h2,h3,h4⟩:=I.YS r q;subst e;cases(show u=Value.ref a from ru);refine{a::bs,by rw[h1];rfl,by rw[h2];rfl,by simp[h3],λi y b e1 e2=>?_};cases i with
  |zero=>cases e1;cases e2;exact⟨a,g,z,rr,rfl,h⟩
  |succ i=>exact h4 i y b (by simpa using e1) (by simpa using e2)
end
section
variable{X:Cx}
def GW(hA:X.A.handled=none)(hu:X.A.units+110<cLine):gA X (.type "set") (λxs H Q=>∃p ys rows,xs=[.ref p]/\(br X.K H p ys\/bf X.K H p ys)/\Paired (vh X.K H) ys rows/\rows.length<=1000/\(∀r∈rows,∀z∈r,PyData.strOk z=true)/\∀a us,H a=none->(us.map (·.1)).Nodup->(∀r,r∈us.map (·.1)↔r∈rows)->us.length<=rows.length->(∀x∈us,vh X.K H (.ref x.2) x.1/\∃j:Nat,ys[j]?=some (V.ref x.2)/\rows[j]?=some x.1)->Q (.ref a) (upd H a (.ext (lH X.prog X.w a us)))):=by
 intro pins s Z H xs us Q I r h;obtain⟨p,ys,rows,rfl,hq,hr,hz,bw,q⟩:=h;obtain⟨u,rfl,rx⟩:=jY r;cases rx;obtain⟨aP,r',pl⟩:∃aP:Aae,Vals ys aP/\(s.heap.IsList p aP.toArray\/s.heap.IsTuple p aP.toArray):=by
  rcases hq with hq|hq
  ·obtain⟨aP,r',pl,_⟩:=I.list hq;exact{aP,r',.inl pl.isList}
  ·obtain⟨aP,r',pl,_⟩:=I.tuple hq;exact{aP,r',.inr pl}
 obtain⟨bs,rfl,rfl,lb,hb⟩:=I.YS hr r';refine Tb.GV (knd:=IG X.prog X.w) (ks:=rows) (bs:=bs) hA (by show X.A.units+1+1+1+100<cLine;lia) pl (by simp) lb.symm (λi k b e1 e2=>?_) ∅ λh' tk o ep t xs S hl hH kp=>?_
 ·exact I.AE (ZO (hb i k b e1 e2) (bw k (aE e1)))
 ·refine{.ref s.heap.objs.size,_,I.laid (t':=tk) kp (ao _) (RX {o,ep,t,S.ob,S.ex,S.data,?_,hl,S.tab.rise}),rfl,q _ _ (I.bw.fresh (ao _)) S.nd (λr=>?_) ?_ λx hx=>?_}
  ·have:=S.fits;simpa using this
  ·rw[hH.mem,eI ∅]
  ·have:=hH.len;lia
  ·obtain⟨j,e1,e2⟩:=hH.EG x hx;exact{hb j x.1 x.2 e1 e2,j,by rw[aI,e2];rfl,e1}
def A4(hA:X.A.handled=none)(hu:X.A.units+96<cLine):gA X (.builtin "sorted") (λxs H Q=>∃(a:Addr)(us:List (Aaf×Addr)),xs=[.ref a]/\H a=some (.ext (lH X.prog X.w a us))/\(∀x∈us,vh X.K H (.ref x.2) x.1)/\us.length<64/\∀l zs,H l=none->Paired (λ(v:V)(r:Aaf)=>∃x∈us,v=.ref x.2/\x.1=r) zs (dc (us.map (·.1)))->Q (.ref l) (upd H l (.lst zs))):=by
 intro pins s Z H xs us Q I r h;obtain⟨a,y4,rfl,ha,hx,su,q⟩:=h;obtain⟨u,rfl,rx⟩:=jY r;cases rx;obtain⟨⟨o,ep,t,ho,hex,hd,hf,hl,NL⟩,_⟩:=(show cI X.prog X.w H s.heap a (.ext (lH X.prog X.w a y4))from I.bw a _ ha);refine fI rQ pZ qr (qx _) ?_;unfold Builtin.«sorted»;refine ae (m:=checkCount "sorted" 1 1 _) (af ?_);refine ae (Tb.CC (A:=X.A.in1) (by simpa using hA) {⟨o,ho,hex,hd⟩,by simpa using hf,λcf _=>{by rw[hl,Tb.mq,cf];rfl,NL}} (by simp;lia) λh' tk d vs pm kp=>?_);have e0:(y4.map (Tb.ent (IG X.prog X.w))).toArray.toList.map (·.2)=y4.map λx=>Value.ref x.2:=by simp[oH]
 rw[e0]at pm;obtain⟨kE,pv,rfl⟩:=Ak pm rfl;have lu:=pv.length_eq;have e1:(kE.map λx=>Value.ref x.2)=(kE.map (·.2)).map Value.ref:=by rw[bW];rfl
 rw[e1];have sc:dc (kE.map (·.1))=dc (y4.map (·.1)):=wu (pv.map _);have I1:=I.UY (t':=tk) (d':=d) kp;refine ae (o9 ?_ (by rw[ak,ak,bU];lia));generalize ({s with heap:=h',drawn:=d,toks:=tk}:Shared)=s1 at I1⊢;have hb:∀(i:Nat)(r:Aaf) b,(kE.map (·.1))[i]?=some r->(kE.map (·.2))[i]?=some b->vh X.K H (.ref b) r/\∃x∈y4,V.ref b=.ref x.2/\x.1=r:=λi r b e2 e3=>by rw[aI]at e2 e3;obtain⟨x,ex,rfl⟩:=bb.mp e2;rw[ex]at e3;cases e3;have hm:=pv.mem_iff.mp (aE ex);exact{hx x hm,x,hm,rfl,rfl}
 have lb:(kE.map (·.2)).length=(kE.map (·.1)).length:=by rw[ak,ak]
 have UT:(kE.map (·.1)).length<64:=by rw[ak];lia
 rw[<-sc]at q;generalize kE.map (·.1)=rows at hb lb UT q;generalize kE.map (·.2)=bs at hb lb⊢;have zg:(s1.heap.push (seqObj "list" (bs.map Value.ref).toArray 0)).get? s1.heap.objs.size=some (seqObj "list" (bs.map Value.ref).toArray 0):=aB _ rfl;have at1:∀(i:Nat)(v:Value)(r:Aaf),(bs.map Value.ref)[i]?=some v->rows[i]?=some r->hE s1.heap v r:=λi v r e1 e2=>by rw[aI]at e1;obtain⟨b,e3,rfl⟩:=bb.mp e1;exact I1.prB (hb i r b e2 e3).1
 refine ae (bL (ba xg ⟨_,zg,rfl⟩ wa (MV (s:={s1 with heap:=s1.heap.push (seqObj "list" (bs.map Value.ref).toArray 0)}) ?_ zg (by rw[ak];exact lb) (λi v r e1 e2=>(at1 i v r e1 e2).mono λb o _ e=>ah _ e) (by rw[ak];lia) λh' tk c us g kp pm qq=>{_,rfl,?_}) (xO _)))
 ·show X.A.units+1+1<cLine;lia
 obtain⟨cs,rfl,pc⟩:=LD pm;have lc:cs.length=rows.length:=by rw[pc.length_eq,lb]
 have lz:(cs.map V.ref).length<=sizeLine:=by rw[ak,bU];lia
 have uR:∀b o,s1.heap.get? b=some o->h'.get? b=some o:=λb o e=>kp b o (aG (aD e)) (ah _ e);have bj:∀b∈cs,∃r,vh X.K H (.ref b) r/\∃x∈y4,V.ref b=.ref x.2/\x.1=r:=λb gJ=>by
  obtain⟨j,hj⟩:=dQ.mp (pc.mem_iff.mp gJ);have oU:j<rows.length:=by have:=(aw.mp hj).1;lia
  exact{_,hb j _ b (aq oU) hj}
 refine af {_,rfl,?_};refine{.ref s1.heap.objs.size,_,I1.laid (t':=tk) uR (ao _) (show cI X.prog X.w _ _ _ (.lst (cs.map V.ref))from{lz,cs.map Value.ref,c,E4 cs,g}),rfl,q _ (cs.map V.ref) (I1.bw.fresh (ao _)) ?_}
 ·have key:∀(i:Nat) z b,(dc rows)[i]?=some z->cs[i]?=some b->∃x∈y4,V.ref b=.ref x.2/\x.1=z:=λi z b e1 e2=>by have t:=qq i (.ref b) z (by rw[aI,e2];rfl) e1;obtain⟨r,hr,GA⟩:=bj b (aE e2);have t2:hE (s1.heap.push (seqObj "list" (bs.map Value.ref).toArray 0)) (.ref b) r:=(I1.prB hr).mono λb o _ e=>ah _ e;rw[<-t2.one t];exact GA
  have lcs:cs.length=(dc rows).length:=by rw[lc,(cW rows).length_eq]
  clear qq pm pc lz lc g q bj;generalize dc rows=sr at key lcs
  induction cs generalizing sr with
  |nil=>
   cases sr with
   |nil=>exact .nil
   |cons _ _=>cases lcs
  |cons b cs ih=>
   cases sr with
   |nil=>cases lcs
   |cons z sr=>exact .cons (key 0 z b rfl rfl) (ih sr (λi z' b' e1 e2=>key (i+1) z' b' (by simpa using e1) (by simpa using e2)) (by simpa using lcs))
end
end L2
namespace L2
open PySem PySem.Spec PyProof.Rows
section
variable{P:Program}{w:World}{A:Around}{E:Aac}{s:Shared}{d it v:Addr}{o:Obj}{es:Array DictEntry}{ep i:Nat}
def Wl{Q:Aac}(hv:s.heap.IsValuesView v d)(ho:s.heap.get? d=some o)(hd:o.data=.dict es ep)
  (q:Q (.ref s.heap.objs.size) {s with heap:=s.heap.push {cls:=.type "dict_valueiterator",data:=.fields #[.ref d,.int 0 0,.int es.size 0,.int ep 0]}}):wpAny (model P w) A (pyIter (.ref v)) Q E s:=by
 obtain⟨ov,hov,hcv,hdv⟩:=id hv;refine kG hv.typeIs qI (ba qI hv.typeIs PySem.F.entry_dict_values_iter ?_ (PySem.F.args_dict_values_iter_1 _));unfold Builtin.«dict_values.__iter__» Builtin.Dict_items.dictOf Builtin.Dict_items.newIterator;refine ae (af (ae (ae (bH hov hdv (x:=.ref d) rfl (af ?_)))));refine ae (ae (dW ho hd (ae (gh ho hd ?_))));have own:Builtin.Dict_items.ownsTuple "dict_valueiterator"=false:=by decide
 simp only[own,bE,cN];refine bV (af {_,rfl,"dict_valueiterator",_,{_,aB _ rfl,rfl},eB.lookup,?_});simpa[rawInt]using q
def Wk{Q:Aag->Shared->Prop}(hit:s.heap.IsValIter it d i es.size ep)(ho:s.heap.get? d=some o)(hd:o.data=.dict es ep)(hi:i<es.size)
  (q:∀h',h'.IsValIter it d (i+1) es.size ep->Heap.SameBut it s.heap h'->Q (some es[i].val) {s with heap:=h'}):wpAny (model P w) A (pyNext (.ref it)) Q E s:=by
 obtain⟨oi,xC,ci,di⟩:=id hit;unfold pyNext;refine ae (dv (wpAny_callSpecial?_slot (name:=Str.ofString "__next__") hit.typeIs eB (ba eB hit.typeIs mU ?_ (mB _))));refine ae (af (ae (ae (ae (iu hit.typeIs (af ?_))))));refine ae (fW xC di ?_);have own:Builtin.Dict_items.ownsTuple "dict_valueiterator"=false:=by decide
 simp only[own,bE,cN];show wpAny _ _ (if(Value.ref d==Value.none)=true then _ else _) _ _ s;rw[ax (show ¬((Value.ref d==Value.none)=true)from bA)];refine ae (af (ae (dW ho hd ?_)));rw[ax (by simp)];refine ae (af (ae (gh ho hd ?_)));rw[ax (by simp)];refine af ?_;simp only[show ¬((i:Int)<0)from by lia,cN,cA,bq hi];refine ae (ae (iu hit.typeIs (af (ae (pE hit.typeIs ?_)))));show wpAny _ _ (setField (.ref it) 1 (rawInt ((i:Int)+1))>>=_) _ _ s;refine ae (d5 xC di (by simp) ?_);have Fx:(s.heap.update it (Obj.mapFields (·.setIfInBounds 1 (rawInt ((i:Int)+1))))).IsValIter it d (i+1) es.size ep:=
  {_,cj _ xC (pN (iR di _)),(tF ..).trans ci,by rw[iR di];simp[rawInt]}
 refine ae (bL (ae (pE (s:={s with heap:=s.heap.update it (Obj.mapFields (·.setIfInBounds 1 (rawInt ((i:Int)+1))))}) Fx.typeIs ?_)));refine ae (pE (s:={s with heap:=s.heap.update it (Obj.mapFields (·.setIfInBounds 1 (rawInt ((i:Int)+1))))}) Fx.typeIs ?_);show wpAny _ _ (pure es[i].val) _ _ _;exact af (af {_,rfl,af (q _ Fx (bG ..))})
def YG{Q:Aag->Shared->Prop}(hh:A.handled=none)(hit:s.heap.IsValIter it d i es.size ep)(ho:s.heap.get? d=some o)(hd:o.data=.dict es ep)(hi:es.size<=i)
  (q:∀h',(∀b x,b≠it->s.heap.get? b=some x->h'.get? b=some x)->Q none {s with heap:=h'}):wpAny (model P w) A (pyNext (.ref it)) Q E s:=by
 obtain⟨oi,xC,ci,di⟩:=id hit;unfold pyNext;refine ae (dv (wpAny_callSpecial?_slot (name:=Str.ofString "__next__") hit.typeIs eB (ba eB hit.typeIs mU ?_ (mB _))));refine ae (af (ae (ae (ae (iu hit.typeIs (af ?_))))));refine ae (fW xC di ?_);have own:Builtin.Dict_items.ownsTuple "dict_valueiterator"=false:=by decide
 simp only[own,bE,cN];show wpAny _ _ (if(Value.ref d==Value.none)=true then _ else _) _ _ s;rw[ax (show ¬((Value.ref d==Value.none)=true)from bA)];refine ae (af (ae (dW ho hd ?_)));rw[ax (by simp)];refine ae (af (ae (gh ho hd ?_)));rw[ax (by simp)];refine af ?_;simp only[show ¬((i:Int)<0)from by lia,cN,cA,iN hi];refine ae (ae (iu hit.typeIs (af ?_)));show wpAny _ _ (setField (.ref it) 0 .none>>=_) _ _ s;refine ae (d5 xC di (by simp) ?_);refine Tb.w6 (s:=s) (show A.in1.handled=none from hh) λh' e kp acP=>?_;obtain⟨oe,he,ce⟩:=acP;exact ae (fg (T:="StopIteration") (b:=true) ⟨oe,he,ce⟩ iF (af (q _ λb x nb g=>kp b x ((bD _ _ (bY nb)).trans g))))
def RV(hd:o.data=.dict es ep):PySem.W.KdlSrc P w "dict_values" v d es.size (λi u=>∃hi:i<es.size,u=es[i].val) (λh=>h.IsValuesView v d/\h.get? d=some o) where
 type:=λ_ g=>g.1.typeIs
 there:=λ_ {⟨_,q,_⟩,g}=>{aD q,aD g}
 keep:=λ_ _ {⟨ov,q,r⟩,g} k=>{{ov,k v (.inl rfl) _ q,r},k d (.inr rfl) _ g}
 notList:=by decide
 notTuple:=by decide
 hint:=λ_ _ _ _ g q=>PySem.W.kdl_hint_values g.1.typeIs q
 iter:=λA s hh g=>{_,λi h=>h.IsValIter s.heap.objs.size d i es.size ep/\h.get? d=some o,λ_ _ q=>Wl g.1 g.2 hd q,{
  sub:=λb hb=>by simp at hb;simp[hb]
  frame:=λi h h' st k=>by obtain⟨⟨v,e,c⟩,g'⟩:=st;exact{{v,k _ (by simp) _ e,c},k d (by simp) _ g'}
  item:=λi s' Q E hi st q=>Wk st.1 st.2 hd hi λh' ZQ sb=>q _ h' s'.toks ⟨hi,rfl⟩ {ZQ,sb.extBut _ _ (aG (aD g.2)) st.2} λb x hb e=>sb.extBut b x (λz=>hb (by simp[z])) e
  done:=λs' Q E st q=>YG hh st.1 st.2 hd (ao _) λh' kp=>q h' s'.toks λb x hb e=>kp b x (λz=>hb (by simp[z])) e
  self:=λ_ _ _ _ st q=>wpAny_pyIter_valiter st.1 q},{{_,aB _ rfl,rfl,rfl},ah _ g.2}}
end
def EY(r d:Addr):Heap->Prop:=λh=>h.IsValuesView r d
def XW{P:Program}{w:World}{H:Hp}{h:Heap}{r d:Addr}(x:EY r d h):cI P w H h r (.ext (EY r d)):=
 {x,let⟨o,q,_⟩:=x;⟨o,q⟩,λ_ _ ⟨o,q,z⟩ k=>{o,k _ q,z}}
inductive V8(P:Program)(w:World)(K:Frag)(Q:VK)(x:V)(H1:Hp):Prop
 |mk d kvs (_:x=.ref d) (_:fK P w K H1 d kvs) (_:∀p,H1 p=none->Q (.ref p) (upd H1 p (.ext (EY p d))))
def Ye(P:Program)(w:World)(K:Frag)(td:TE):TE:=λZ H Q=>td Z H λx H1=>V8 P w K Q x H1
section
variable{X:Cx}
def M9{apos dU:Pos}{l:Expr}{tl:TE}(hl:PE X l tl)(qo:attributeBase l "values" X.env (eval l X.env)=eval l X.env:=by rfl)(qi:(apos.endLine==dU.line)=true:=by rfl):
  PE X (.Call (.Attribute l "values" apos) [] [] dU) (Ye X.prog X.w X.K tl):=by
 intro pins s Z H R I h;refine j6 qo qi (cX (hl pins s Z H _ I h) λv s1 x H1 I1 r1 q1=>?_);obtain⟨d,kvs,e,hd,q⟩:=q1;subst e;cases r1;obtain⟨lo,o,es,ep,ga,_,m⟩:=I1.BD hd;have ty:s1.TypeIs (.ref d) "dict":={o,ga,m.1.1};refine{"dict","dict.values",dZ,vd,PySem.F.type_dict_values,ty,λb q=>?_,eM rfl (mz ?_)}
 ·cases q;exact{o,ga,m.1.2.1}
 ·refine ba vd ty PySem.F.entry_dict_values ?_ (PySem.F.args_dict_values_1 _);unfold Builtin.«dict.values»;refine ae (ae (gF ty (af (a:=d) ?_)));show wpAny _ _ (Builtin.Dict.showsAll d>>=_) _ _ s1;unfold Builtin.Dict.showsAll;rw[lo];refine ae (af (ae (bV (af {_,rfl,?_}))));exact{.ref s1.heap.objs.size,_,I1.laid (t':=s1.toks) (λb o e=>ah _ e) (ao _) (XW {_,aB _ rfl,rfl,rfl}),rfl,q _ (I1.bw.fresh (ao _))}
theorem JY:∀{ps:Aak}{l:List DictEntry}{us:Aae},Paired (λ(p:V×V)(e:DictEntry)=>RelV p.1 e.key/\RelV p.2 e.val) ps l->us=l.map (·.val)->Vals (ps.map (·.2)) us
 |_,_,_,.nil,e=>by rw[e];exact .nil
 |_,_,_,.cons h t,e=>by rw[e];exact .cons h.2 (JY t rfl)
def Dz(hA:X.A.handled=none):gA X (.type "list") (λxs H Q=>∃(r d:Addr)(kvs:List (NK×Addr×V)),xs=[.ref r]/\H r=some (.ext (EY r d))/\fK X.prog X.w X.K H d kvs/\∀l,H l=none->Q (.ref l) (upd H l (.lst (kvs.map (·.2.2))))):=by
 intro pins s Z H xs us Q I r h;obtain⟨v,d,kvs,rfl,hv,hd,q⟩:=h;obtain⟨u,rfl,ru⟩:=jY r;cases ru;obtain⟨iv,_⟩:=(show cI X.prog X.w H s.heap v (.ext (EY v d))from I.bw v _ hv);obtain⟨lo,o,es,ep,ga,hz,m⟩:=I.BD hd;have hl:(kvs.map λp=>(V.ref p.2.1,p.2.2)).length=es.size:=by rw[a9 m.2.2,aZ]
 have hs:es.size<=sizeLine:=by rw[bU];lia
 refine PySem.W.kdl_call (RV m.2.1) hA ⟨iv,ga⟩ hs λh' tk acc c kp gl JQ=>?_;have ea:acc.toList=es.toList.map (·.val):=by
  refine tK λj=>?_;by_cases hj:j<es.size
  ·have JI:j<acc.size:=by rw[JQ.1];exact hj
   obtain⟨hi,e⟩:=JQ.2 j acc[j] (bq JI);rw[bK,bq JI,e,aI,bK,bq hi];rfl
  ·rw[fM (by rw[aZ,JQ.1];lia),fM (by rw[ak,aZ];lia)]
 have e2:kvs.map (·.2.2)=(kvs.map λp=>(V.ref p.2.1,p.2.2)).map (·.2):=by rw[bW];rfl
 refine{.ref s.heap.objs.size,_,I.laid (t':=tk) kp (ao _) (o:=.lst (kvs.map (·.2.2))) {by rw[e2,ak,hl];exact hs,acc.toList,c,by rw[e2];exact JY m.2.2 ea,gl},rfl,q _ (I.bw.fresh (ao _))}
end
end L2
namespace qE
open PySem PySem.Spec PyProof.Rows L2 f6 cH
seal L2.PE L2.PT L2.PW L2.PA L2.PS L2.nK L2.PI L2.PO L2.MF L2.PG L2.Kk
def xT(K:Frag):Nat->Hp->V->V->Prop
 |0,_,u,v=>∃z,u=.str z/\v=.str z
 |n+1,H,u,v=>(∃z,u=.str z/\v=.str z)\/∃(a b:Addr)(xs ys:Aam),u=.ref a/\v=.ref b/\((bf K H a xs/\bf K H b ys)\/(H a=some (.lst xs)/\H b=some (.lst ys)))/\Paired (xT K n H) xs ys/\xs.length<=100000
inductive HQ(K:Frag)(n:Nat)(vs:Aam)(H:Hp)(Q:VK)(_x3:XK):Prop
 |mk (u v:V) (_:vs=[u,v]) (_:xT K n H u v) (_:∀H',aQ H H'->Q (.bl true) H')
def Yu:Sp:=λ_ _ _ _=>False
def abt(K:Frag):Nat->Sp
 |0=>Yu
 |n+1=>HQ K n
section
variable{P:Program}{w:World}{K:Frag}{mg:Aab}{base:Heap}
def xT.str{n:Nat}{H:Hp}(z:Str):xT K n H (.str z) (.str z):=by
 cases n with
 |zero=>exact⟨z,rfl,rfl⟩
 |succ n=>exact .inl ⟨z,rfl,rfl⟩
def Nf{α β:Type}{R S:α->β->Prop}{xs:List α}{ys:List β}(f:∀u v,R u v->S u v)(h:Paired R xs ys):Paired S xs ys:=by
 induction h with
 |nil=>exact .nil
 |cons h _ ih=>exact .cons (f _ _ h) ih
theorem xT.sm{H H':Hp}(s:aQ H H'):∀{n:Nat}{u v:V},xT K n H u v->xT K n H' u v
 |0,_,_,h=>h
 |n+1,_,_,.inl h=>.inl h
 |n+1,_,_,.inr ⟨a,b,xs,ys,e1,e2,hs,hp,l⟩=>.inr {a,b,xs,ys,e1,e2,hs.imp (λh=>{fH h.1 s,fH h.2 s}) (λh=>{s _ _ h.1,s _ _ h.2}),Nf (λ_ _ h=>xT.sm s h) hp,l}
structure Dsm(P:Program)(w:World)(K:Frag)(mg:Aab)(base:Heap)(n:Nat):Prop where
 xu:cR P w K mg base (n+1) "_law_same" ["_law_found","_law_due"] (abt K n)
def zX:cv ["_law_found","_law_due","_law_kind"] ["_law_found","_law_due"] (defScope yg):=iO (by decide+kernel)
def WT{f:Addr}{fd:FuncData}(F:eX K "_law_same" "_law_same" yg f fd):cU P w K mg base fm 1 f fd ["_law_found","_law_due"] Yu:=F.ok zX (λvs H Q E h=>False.elim h) (λc6 A outer s H vs Q E hr h=>False.elim h)
def yu{n:Nat}{f:Addr}{fd:FuncData}(F:eX K "_law_same" "_law_same" yg f fd)(T:Txt K mg)(D:Dsm P w K mg base n):cU P w K mg base fm (n+2) f fd ["_law_found","_law_due"] (HQ K n):=by
 refine F.ok zX (λ_ _ _ _ h=>by cases h;subst_vars;rfl) (λc6 A outer s H vs Q E hr h=>?_);obtain⟨u,v,rfl,ha,k⟩:=h;refine{_,(aK (fh (oP (bP Kg rfl T.fu (by decide+kernel) (cD (pv 1) (dX (cD (nV (n:="tuple") rfl T.hX (by decide+kernel)) (nV (n:="list") rfl T.rY (by decide+kernel))))))) (aK (d8 2 zX (C7 (oP (bP u3 rfl T.fu (by decide+kernel) (cD (pv 1) (nV (n:="tuple") rfl T.hX (by decide+kernel))))) (bP u3 rfl T.fu (by decide+kernel) (cD (pv 0) (nV (n:="tuple") rfl T.hX (by decide+kernel)))) (bP u3 rfl T.fu (by decide+kernel) (cD (pv 0) (nV (n:="list") rfl T.rY (by decide+kernel)))))) (aK (fh (PW.pt (Hi (D9 (oP (pv 2))) (D8 (c7 yt (bP fk rfl T.jd cx (b5 (pv 0))) (bP fk rfl T.jd cx (b5 (pv 1))) (dG _))))) (aT (b8 yo)) dh) (aT (b8 (rg uJ yo (kg rfl (dO (fs:=["_law_found","_law_due"]) (fr:=[0,1])) (kZ rfl T.pK (b5 (bP fk rfl T.jd cx (b5 (pv 1))))) (λ_ _ _ _=>(cl (hk:=ao (n+1)) D.xu hr (cD (cB (L4 (K:=K)) (pv 1) (pv 0) (λ_ _=>rfl)) (cB (L4 (K:=K)) (pv 2) (pv 0) (λ_ _=>rfl)))))) (by with_unfolding_all rfl)))))) dh) (aK (fh (c7 IK (pv 1) rW (dG _)) (aT (b8 (rg IK (pv 0) rW (dG _)))) dh) (aK (fh (oP (bP jH rfl T.fu (by decide+kernel) (cD (pv 1) (nV (n:="str") rfl T.Hk (by decide+kernel))))) (aT (b8 (uH (bP jH rfl T.fu (by decide+kernel) (cD (pv 0) (nV (n:="str") rfl T.Hk (by decide+kernel)))) (Al (rg tV (pv 0) (pv 1) (dG _)))))) dh) (aK (fh (oP (bP jH rfl T.fu (by decide+kernel) (cD (pv 1) (nV (n:="bool") rfl T.Jc (by decide+kernel))))) (aT (b8 (uH (bP jH rfl T.fu (by decide+kernel) (cD (pv 0) (nV (n:="bool") rfl T.Jc (by decide+kernel)))) (Al (rg tV (pv 0) (pv 1) (dG _)))))) dh) (aT (b8 (uH (bP jH rfl T.fu (by decide+kernel) (cD (pv 0) (nV (n:="int") rfl T.abB (by decide+kernel)))) (uH (YW (bP jH rfl T.fu (by decide+kernel) (cD (pv 0) (nV (n:="bool") rfl T.Jc (by decide+kernel))))) (Al (rg tV (pv 0) (pv 1) (dG _))))))))))),?_}
 have hc:(∃z,u=.str z/\v=.str z)\/∃m,n=m+1/\∃(a b:Addr)(xs ys:Aam),u=.ref a/\v=.ref b/\((bf K H a xs/\bf K H b ys)\/(H a=some (.lst xs)/\H b=some (.lst ys)))/\Paired (xT K m H) xs ys/\xs.length<=100000:=by
  cases n with
  |zero=>exact .inl ha
  |succ m=>exact ha.imp id λh=>⟨m,rfl,h⟩
 rcases hc with⟨z,rfl,rfl⟩|⟨m,rfl,a,b,xs,ys,rfl,rfl,hs,hp,lx⟩
 ·refine{_,rfl,(by show 2<=sizeLine;decide),λtp uT=>{_,_,tp,["tuple","list"],_,rfl,.inl (.str z),ar,rfl,_,rfl,uS ?_}};refine{_,rfl,rfl,_,rfl,uS ?_};refine{_,rfl,_,_,_,_,rfl,.str z,rfl,_,rfl,wG ?_};refine{_,rfl,_,_,_,_,rfl,.str z,rfl,_,rfl,wG ?_};exact{_,rfl,_,rfl,rfl,by rw[aX rfl];exact k _ (aC uT _)}
 have lxy:xs.length=ys.length:=a9 hp;have ixA:∀{H1:Hp}{i:Nat}{z:V}{Q:VK},aQ H H1->xs[i]?=some z->Q z H1->R9 K (.ref a) (.int (0+(i:Int))) H1 Q:=λs1 e q=>by
  rw[qF];rcases hs with⟨h1,_⟩|⟨h1,_⟩
  ·exact .inr {_,_,_,_,rfl,rfl,fH h1 s1,iG e,q}
  ·exact .inl {_,_,_,_,rfl,rfl,br.of (s1 _ _ h1),iG e,q}
 have ixB:∀{H1:Hp}{i:Nat}{z:V}{Q:VK},aQ H H1->ys[i]?=some z->Q z H1->R9 K (.ref b) (.int (0+(i:Int))) H1 Q:=λs1 e q=>by
  rw[qF];rcases hs with⟨_,h1⟩|⟨_,h1⟩
  ·exact .inr {_,_,_,_,rfl,rfl,fH h1 s1,iG e,q}
  ·exact .inl {_,_,_,_,rfl,rfl,br.of (s1 _ _ h1),iG e,q}
 have lnA:∀{H1:Hp},aQ H H1->Oq K (.ref a) H1 xs.length:=λs1=>by
  rcases hs with⟨h1,_⟩|⟨h1,_⟩
  ·exact .inr {_,fH h1 s1,rfl}
  ·exact .inl {_,br.of (s1 _ _ h1),rfl}
 have lnB:∀{H1:Hp},aQ H H1->Oq K (.ref b) H1 xs.length:=λs1=>by
  rw[lxy];rcases hs with⟨_,h1⟩|⟨_,h1⟩
  ·exact .inr {_,fH h1 s1,rfl}
  ·exact .inl {_,br.of (s1 _ _ h1),rfl}
 have xB:=hs;refine{_,rfl,(by show 2<=sizeLine;decide),λtp uT=>?_};have s1:aQ H (upd H tp (.tup [.ty "tuple",.ty "list"])):=aC uT _;have SY:upd H tp (.tup [.ty "tuple",.ty "list"]) tp=some (.tup [.ty "tuple",.ty "list"]):=ar;generalize upd H tp (.tup [.ty "tuple",.ty "list"])=H1 at s1 SY⊢;rcases xB with⟨h1,h2⟩|⟨h1,h2⟩;all_goals first
  |refine⟨_,.type "tuple",tp,["tuple","list"],_,rfl,.inr ⟨_,_,rfl,rfl,fH h2 s1⟩,SY,rfl,_,rfl,wG ⟨_,rfl,_,_,_,_,rfl,.inr ⟨_,_,rfl,rfl,fH h2 s1⟩,rfl,_,rfl,wG ⟨_,rfl,_,_,_,_,rfl,.inr ⟨_,_,rfl,rfl,fH h1 s1⟩,rfl,?_⟩⟩⟩
  |refine⟨_,.type "list",tp,["tuple","list"],_,rfl,.inl (.lst (s1 _ _ h2)),SY,rfl,_,rfl,wG ⟨_,rfl,_,_,_,_,rfl,.inl (.lst (s1 _ _ h2)),rfl,_,rfl,uS ⟨_,rfl,_,_,_,_,rfl,.inl (.lst (s1 _ _ h1)),rfl,?_⟩⟩⟩
 all_goals
  clear h1 h2;refine{_,rfl,_,rfl,uS {_,rfl,_,_,rfl,lnA s1,_,rfl,_,_,rfl,lnB s1,rfl,_,rfl,eZ (λc=>absurd c (by simp)) (λ_=>?_)}};refine{_,rfl,_,_,rfl,lnB s1,_,rfl,by lia,by lia,λj m' zs H4=>j<=xs.length/\m'=(xs.length:Int).toNat -j/\aQ H H4/\zs=List.replicate j (V.bl true),{_,aR _,rfl,s1,rfl},?_};rintro j m' zs H4 ⟨hj,rfl,s4,rfl⟩;have lz:(List.replicate j (V.bl true)).length=j:=gM;have big:xs.length<sizeLine:=cL lx (by rw[bU];decide);by_cases cw:j<xs.length
  ·refine .inr {by show j<(xs.length:Int).toNat;lia,by rw[lz];lia,?_};rintro v H5 ⟨rfl,rfl⟩;refine pH ?_;have e1:xs[j]?=some xs[j]:=aq cw;have e2:ys[j]?=some (ys[j]'∅):=aq ∅;have al:xT K m H xs[j] (ys[j]'∅):=by obtain⟨y,hy,h⟩:=Paired.at hp e1;rw[e2]at hy;cases hy;exact h
   refine{_,rfl,_,rfl,ixA s4 e1 {_,rfl,_,rfl,ixB s4 e2 (show HQ K m _ _ _ _ from{_,_,rfl,al.sm s4,λH6 s6=>?_})}};exact{(xs.length:Int).toNat -(j+1),by lia,cw,rfl,s4.trans s6,List.replicate_succ'.symm}
  ·refine .inl {by show(xs.length:Int).toNat<=j;lia,by rw[lz];lia,λl hl=>?_};have e0:Jr (.bl false) (List.replicate j (V.bl true))=false:=B1.mpr λy hy=>by rw[(Bn.mp hy).2];decide
   refine{l,_,rfl,.inl (br.of ar),rfl,cQ.mpr λy hy=>by rw[(Bn.mp hy).2];rfl,?_};show Q (.bl (!Jr (.bl false) (List.replicate j (V.bl true)))) _;rw[e0];exact k _ (s4.trans (aC hl _))
def O9{g g':fV}(h:(rowsOf g).Perm (rowsOf g')):g.Perm g':=by
 have inv:∀l:fV,(rowsOf l).map (λr=>(r.getD 0 "",r.getD 1 ""))=l:=λl=>by
  unfold rowsOf;rw[bW]
  conv=>rhs;rw[<-List.map_id l]
  exact bC λp _=>rfl
 rw[<-inv g,<-inv g'];exact h.map _
def LQ(rows:R1):NK:=.tup (rows.map fD)
def WU{xs ys:R1}(h:LQ xs=LQ ys):xs=ys:=by unfold LQ at h;injection h with h;exact(Bo (f:=fD) λa b e=>rh e).mp h
def rp(g:fV):NK:=LQ (f6.dc (rowsOf g))
def P2{g g':fV}(h:rp g=rp g'):g.Perm g':=
 O9 (((f6.cW _).symm.trans (by rw[WU h])).trans (f6.cW _))
def MG(bz as:R0)(g:fV):Prop:=(keys g).Nodup/\(∀u,u∈keys g↔u∈cH.zM isUnk as)/\(∀h,kC g h->Fits isUnk bz h as)/\∀p∈g,p.2∈iA
structure wW(bz as:R0)(gs:List fV):Prop where
 ok:∀g∈gs,MG bz as g
 all:∀h,Fits isUnk bz h as->∃g∈gs,kC g h
def wW.nil(bz:R0):wW bz [] [[]]:={λg hg=>by rw[au.mp hg];exact{jL,λu=>FT,λh _ a ha=>(by cases ha),λp hp=>(by cases hp)},λh _=>{[],au.mpr rfl,λp hp=>(by cases hp)}}
def O6{g g':fV}{a b:Str×Aaf}(h:c8 g a b=some g'):a.1=b.1/\cH.fit isUnk g a.2 b.2=some g':=by
 unfold c8 at h;by_cases c:a.1=b.1
 ·rw[aA c]at h;exact⟨c,h⟩
 ·rw[ax c]at h;cases h
def MG.put{bz as:R0}{g g':fV}{a b:Str×Aaf}(o:MG bz as g)(hb:b∈bz)(gb:ki b.2)(e:c8 g a b=some g'):MG bz (as++[a]) g':=by
 obtain⟨e1,e2⟩:=O6 e;obtain⟨nd,ks,fi,vs⟩:=o;obtain⟨f1,f2,f3,f4⟩:=cH.yC nd e2;refine{f1,λu=>?_,λh ag=>?_,λp hp=>?_}
 ·rw[f3,ks];simp only[cH.uO,aY,au];constructor
  ·rintro(⟨x,hx,r⟩|r)
   ·exact{x,.inl hx,r}
   ·exact{a,.inr rfl,r}
  ·rintro⟨x,hx|rfl,r⟩
   ·exact .inl ⟨x,hx,r⟩
   ·exact .inr r
 ·refine cH.Fits.app.mpr {fi h (ag.longer nd f2),λx hx=>?_};rw[au.mp hx,f4 h ag,e1];exact hb
 ·have ag:kC g' (cH.over g' λu=>u):=cH.Cc f1;rcases(f3 p.1).mp (bT hp)with q|⟨q1,q2⟩
  ·cases e3:cH.get g p.1 with
   |none=>exact absurd q (cH.get_none.mp e3)
   |some v=>
    have e4:=f2 _ _ e3;rw[cH.get_mem f1 (show(p.1,p.2)∈g' from hp)]at e4;cases e4;exact vs _ (cH.get_some e3)
  ·have e3:=f4 _ ag;have:cH.ap isUnk (cH.over g' λu=>u) p.1∈b.2:=by rw[<-e3];exact bT q1
   unfold cH.ap at this;rw[aA q2,ag p hp]at this;exact gb.2.2 _ this
def wW.step{bz as:R0}{gs QO:List fV}{a:Str×Aaf}(m:wW bz as gs)(gq:∀b∈bz,ki b.2)(sound:∀g'∈QO,∃g∈gs,∃b∈bz,c8 g a b=some g')(complete:∀g∈gs,∀b∈bz,∀g2,c8 g a b=some g2->∃g'∈QO,g'.Perm g2):wW bz (as++[a]) QO:=by
 refine{λg' Cu=>?_,λh hf=>?_}
 ·obtain⟨g,hg,b,hb,e⟩:=sound g' Cu;exact(m.ok g hg).put hb (gq b hb) e
 ·obtain⟨h1,h2⟩:=cH.Fits.app.mp hf;obtain⟨g,hg,ag⟩:=m.all h h1;obtain⟨nd,_⟩:=m.ok g hg;have hb:=h2 a (au.mpr rfl);obtain⟨g2,e,ag2⟩:=cH.EJ (ts:=a.2) (gw:=isUnk) nd ag;obtain⟨g',Cu,pm⟩:=complete g hg _ hb g2 (by unfold c8;rw[aA rfl];exact e);exact{g',Cu,λp hp=>ag2 p (pm.mem_iff.mp hp)}
theorem Hv:∀{as:R0},(∀a∈as,a.2.length<=4)->(cH.zM isUnk as).length<=4*as.length
 |[],_=>aR _
 |a::as,la=>by have h3:=la a ay;have h4:=cM isUnk a.2;have h5:=Hv (as:=as) λb hb=>la b (az _ hb);unfold cH.zM at h5⊢;rw[bo,List.flatten_cons,aM,bu];lia
def MG.len{bz as:R0}{g:fV}(o:MG bz as g)(la:∀a∈as,a.2.length<=4):g.length<=4*as.length:=by obtain⟨nd,ks,_⟩:=o;have h1:=jf nd λu hu=>(ks u).mp hu;have h2:=Hv la;unfold keys at h1;rw[ak]at h1;lia
def Fs(g:fV)(z:Str):Jh g z=cH.get g z:=rfl
def wW.ans{bz ats:R0}{gs:List fV}{hz:Aaf}(m:wW bz ats gs)(hh:∀z∈hz,isUnk z=true->z∈cZ ats)(r:Aaf):r∈(gs.map λg=>hz.map (mv g))↔∃g,AskP.mM isUnk (dF bz) ats g/\r=hz.map g:=by
 rw[aJ];constructor
 ·rintro⟨g,hg,rfl⟩;obtain⟨nd,ks,fi,_⟩:=m.ok g hg;refine{cH.ap isUnk (cH.over g λu=>u),{λt ht=>by unfold cH.ap;rw[ht];rfl,λa ha=>iK.mpr (fi _ (cH.Cc nd) a ha)},bC λz _=>?_};unfold mv cH.ap cH.over;rw[Fs];by_cases c:isUnk z=true
  ·rw[aA c]
  ·rw[ax c,cH.get_none.mpr λh=>c ?_]
   ·rfl
   ·obtain⟨_,_,_,q⟩:=cH.uO.mp ((ks z).mp h);exact q
 ·rintro⟨g0,⟨s1,s2⟩,rfl⟩;have ea:∀t,cH.ap isUnk g0 t=g0 t:=λt=>by
   unfold cH.ap;by_cases c:isUnk t=true
   ·rw[aA c]
   ·rw[ax c,s1 t (by simpa using c)]
  obtain⟨g,hg,ag⟩:=m.all g0 λa ha=>by rw[bC λt _=>ea t];exact iK.mp (s2 a ha)
  obtain⟨nd,ks,_⟩:=m.ok g hg;refine{g,hg,bC λz il=>?_};unfold mv;rw[Fs];by_cases c:isUnk z=true
  ·obtain⟨a,ha,L7⟩:=sv.mp (hh z il c);have hk:=(ks z).mpr (cH.uO.mpr ⟨a,ha,L7,c⟩);cases e:cH.get g z with
   |none=>exact absurd hk (cH.get_none.mp e)
   |some v=>exact(ag.get e).symm
  ·rw[cH.get_none.mpr λh=>c ?_]
   ·exact(s1 z (by simpa using c)).symm
   ·obtain⟨_,_,_,q⟩:=cH.uO.mp ((ks z).mp h);exact q
def BH(H:Hp)(v:V)(g:fV):Prop:=∃q,v=.ref q/\H q=some (.dK (gK g))
end
inductive OI(K:Frag)(vs:Aam)(H:Hp)(Q:VK)(_x3:XK):Prop
 |mk (ta gl d0:Addr) (ir AR:Aam) (ats goals:R0) (_:vs=[.ref ta,.ref gl,.ref d0]) (_:bf K H ta ir) (_:bR H ir ats) (_:H gl=some (.lst AR)) (_:bR H AR goals) (_:H d0=some (.dK [])) (_:ats.length<=4) (_:goals.length<=5) (_:Good ats) (_:(∀b∈goals,ki b.2)) (_:∀l vs gs H',aQ H H'->H l=none->H' l=some (.lst vs)->Paired (BH H') vs gs->wW goals ats gs->gs.length<=5^ats.length->Q (.ref l) H')
section
variable{P:Program}{w:World}{K:Frag}{mg:Aab}{base:Heap}
def BH.sm{H H':Hp}(s:aQ H H'){v:V}{g:fV}(h:BH H v g):BH H' v g:=by obtain⟨q,e,h⟩:=h;exact{q,e,s _ _ h}
def RE{kvs:List (NK×Addr×V)}{k:NK}{a:Addr}{v:V}{p:NK×Addr×V}(h:p∈putN kvs k a v):p∈kvs\/(p.1=k/\p.2.2=v):=by
 unfold putN at h;split at h
 ·obtain⟨q,hq,rfl⟩:=aJ.mp h;by_cases c:q.1=k
  ·rw[aA c];exact .inr ⟨c,rfl⟩
  ·rw[ax c];exact .inl hq
 ·rcases aY.mp h with h|h
  ·exact .inl h
  ·rw[au.mp h];exact .inr ⟨rfl,rfl⟩
theorem IV{H:Hp}:∀{zs:Aam}{rows:R1},Ho H zs rows->oZ K H (rows.map fD) zs
 |_,_,.nil=>by rw[jS,oZ]
 |_,_,.cons ⟨a,e,h⟩ r=>by rw[bo,oZ];exact{_,_,rfl,by rw[e];exact Aq (bf.of h),IV r}
def ZN{H:Hp}{t:Addr}{zs:Aam}{rows:R1}(ht:H t=some (.tup zs))(hr:Ho H zs rows)(ok:∀r∈rows,∀z∈r,PyData.strOk z=true):hV K H (LQ rows) t:=by
 refine{?_,(uW (n:=1) λk hk=>?_).good (by decide)}
 ·unfold LQ;rw[NV];exact{t,_,rfl,bf.of ht,IV hr}
 ·obtain⟨r,h,rfl⟩:=aJ.mp hk;exact uX (ok r h)
structure G3(P:Program)(w:World)(K:Frag)(H:Hp)(wd:Addr)(kvs:List (NK×Addr×V))(F:fV->Prop):Prop where
 at_:fK P w K H wd kvs
 vals:∀p∈kvs,∃g,BH H p.2.2 g/\p.1=rp g/\F g
def G3.sm{H H':Hp}{wd:Addr}{kvs:List (NK×Addr×V)}{F:fV->Prop}(x:G3 P w K H wd kvs F)(s:aQ H H'):G3 P w K H' wd kvs F:=⟨x.at_.tp (dk.same s) (by
 obtain⟨u,e⟩:=x.at_.some;rw[e,s _ _ e]),λp hp=>by obtain⟨g,h1,h2⟩:=x.vals p hp;exact{g,h1.sm s,h2}⟩
def G3.put{H:Hp}{wd t q:Addr}{kvs:List (NK×Addr×V)}{F:fV->Prop}{g:fV}(x:G3 P w K H wd kvs F)(hk:hV K H (rp g) t)(hq:H q=some (.dK (gK g)))(nq:q≠wd)(f:F g):G3 P w K (upd H wd (.ext (DN P w wd (putN kvs (rp g) t (.ref q))))) wd (putN kvs (rp g) t (.ref q)) F:={x.at_.put hk,λp hp=>by
 rcases RE hp with h|⟨h1,h2⟩
 ·obtain⟨g',⟨q',e,Eu⟩,h2⟩:=x.vals p h;refine{g',{q',e,?_},h2};rw[aH λz=>?_]
  ·exact Eu
  ·rcases x.at_.1 with c|⟨c,_⟩
   ·rw[z,c]at Eu;cases Eu
   ·rw[c]at h;cases h
 ·exact{g,{q,h2,by rw[aH nq];exact hq},h1,f}}
def yp{α β:Type}{R:α->β->Prop}{xs:List α}{ys:List β}(h:Paired R xs ys):(∀y∈ys,∃x∈xs,R x y)/\∀x∈xs,∃y∈ys,R x y:=by
 induction h with
 |nil=>exact{λy hy=>(by cases hy),λx hx=>(by cases hx)}
 |@cons x y xs ys h _ ih=>
  refine{λz hz=>?_,λz hz=>?_}
  ·rcases aF.mp hz with e|q
   ·exact{x,ay,by rw[e];exact h}
   ·obtain⟨u,hu,r⟩:=ih.1 z q;exact{u,az _ hu,r}
  ·rcases aF.mp hz with e|q
   ·exact{y,ay,by rw[e];exact h}
   ·obtain⟨u,hu,r⟩:=ih.2 z q;exact{u,az _ hu,r}
def Nd{α β γ:Type}{R:α->β->Prop}{S:γ->β->Prop}{f:α->γ}{xs:List α}{ys:List β}(h:Paired R xs ys)(k:∀x y,R x y->S (f x) y):Paired S (xs.map f) ys:=by
 induction h with
 |nil=>exact .nil
 |cons h _ ih=>exact .cons (k _ _ h) ih
theorem C5{α β:Type}{R:α->β->Prop}:∀{xs:List α},(∀x∈xs,∃y,R x y)->∃ys,Paired R xs ys
 |[],_=>{[],.nil}
 |x::xs,h=>by obtain⟨y,hy⟩:=h x ay;obtain⟨ys,ng⟩:=C5 λz hz=>h z (az _ hz);exact{y::ys,.cons hy ng}
structure Dmp(P:Program)(w:World)(K:Frag)(mg:Aab)(base:Heap):Prop where
 abG:cR P w K mg base 1 "_law_put" ["_law_atom_here","_law_goal","_law_filled"] (Uw K)
def kY:cv ["_law_atoms","_law_goals","_law_first","_law_maps_here","_law_atom_here","_law_wider","_law_filled","_law_goal","_law_more"] ["_law_atoms","_law_goals","_law_first"] (defScope CW):=iO (by decide+kernel)
def Sy{f:Addr}{fd:FuncData}(F:eX K "_law_maps" "_law_maps" CW f fd)(T:Txt K mg)(D:Dmp P w K mg base):cU P w K mg base fm 2 f fd ["_law_atoms","_law_goals","_law_first"] (OI K):=by
 refine F.ok kY (λ_ _ _ _ h=>by cases h;subst_vars;rfl) (λc6 A outer s H vs Q E hr h=>?_);have hN:=yB hr;obtain⟨ta,gl,d0,ir,AR,ats,goals,rfl,tm,ix,QA,Qz,gH,l4,l5,good,gq,k⟩:=h;refine{_,(aK (d8 3 kY (fq (b5 (pv 2)))) (aK (fR bO rfl (oQ (pv 0)) (iZ 4 kY) (aK (d8 5 kY kD) (aK (fR bO rfl (fX (pv 3)) (iZ 6 kY) (aT (fR bO rfl (fX (pv 1)) (iZ 7 kY) (aK (d8 8 kY (cl D.abG hr (uI (pv 4) (pv 7) (pv 6)))) (aT (fh (c7 WM (pv 8) rW (dG _)) (aT (C4 hN (pv 5) (da d6 rfl T.hX (by decide+kernel) (b5 (bP (Dy hr.hd) rfl T.rn (by decide+kernel) (b5 (Sk (pv 8)))))) (pv 8) rfl)) dh)))))) (aT (d8 3 kY (da (Dz hr.hd) rfl T.rY (by decide+kernel) (b5 (M9 (pv 5))))))))) (aT (b8 (pv 3))))),?_}
 have la:ir.length=ats.length:=a9 ix;have lgl:AR.length=goals.length:=a9 Qz;refine{_,rfl,(by show 1<=sizeLine;decide),λl0 jO=>?_};have s1:aQ H (upd H l0 (.lst [.ref d0])):=aC jO _;have qj:upd H l0 (.lst [.ref d0]) l0=some (.lst [.ref d0]):=ar;generalize upd H l0 (.lst [.ref d0])=H1 at s1 qj⊢;refine{_,rfl,ta,rfl,{_,fH tm s1},JV (K:=K) (a:=ta) (xs:=ir) (λi Z H2=>∃(l:Addr)(x4 x5 x6 x7 x8:Aan)(ms:Aam)(gs:List fV),Z=[some (.ref ta),some (.ref gl),some (.ref d0),some (.ref l),x4,x5,x6,x7,x8]/\i<=ats.length/\aQ H H2/\H l=none/\H2 l=some (.lst ms)/\Paired (BH H2) ms gs/\wW goals (ats.take i) gs/\gs.length<=5^i) {l0,_,_,_,_,_,[.ref d0],[[]],rfl,aR _,s1,jO,qj,.cons {d0,rfl,s1 _ _ gH} .nil,wW.nil _,ao _} (λi Z H2 _ ⟨_,_,_,_,_,_,_,_,_,_,s2,_⟩=>fH tm s2) ?_ ?_}
 ·rintro i x Z H2 D1 hx ⟨l,x4,x5,x6,x7,x8,ms,gs,rfl,hi,s2,l0',ip,JE,mi,US⟩ AQ _;obtain⟨a,Vq,ha⟩:=Paired.at ix hx;have ilt:i<ats.length:=(aw.mp Vq).1;have ga:=good a (aE Vq);have lgm:ms.length=gs.length:=a9 JE;have acF:gs.length<=625:=aL US (aL (fZ (by decide) (show i<=4 by lia)) (by decide));have ltk:(ats.take i).length<=4:=by rw[aU];lia
  refineλwd hwd=>?_
  have s3:aQ H2 (upd H2 wd (.dK [])):=aC hwd _;have hw3:upd H2 wd (.dK []) wd=some (.dK []):=ar;generalize upd H2 wd (.dK [])=H3 at s3 hw3⊢;refine{_,rfl,l,rfl,{_,br.of (s3 _ _ ip)},ni (K:=K) (a:=l) (xs:=ms) (λj Z H4=>∃(x6 x7 x8:Aan)(kvs:List (NK×Addr×V)),Z=[some (.ref ta),some (.ref gl),some (.ref d0),some (.ref l),some x,some (.ref wd),x6,x7,x8]/\j<=gs.length/\aQ H2 H4/\G3 P w K H4 wd kvs (λg=>∃g0∈gs,∃b∈goals,c8 g0 a b=some g)/\(∀g∈gs.take j,∀b∈goals,∀g2,c8 g a b=some g2->∃p∈kvs,p.1=rp g2)/\kvs.length<=5*j) {_,_,_,[],rfl,aR _,s3,{BF hw3,λp hp=>(by cases hp)},λg hg=>(by cases hg),ao _} (λj Z H4 _ hq=>by(obtain⟨_,_,_,_,_,_,s4,_⟩:=hq;exact br.of (s4 _ _ ip))) ?_ ?_}
  ·rintro j y Z H4 D2 hy ⟨x6,x7,x8,kvs,rfl,hj,s4,wi,cp,lk⟩ hD2 _;obtain⟨g0,hg0,q0,rfl,hq0⟩:=Paired.at JE hy;have jlt:j<gs.length:=(aw.mp hg0).1;have mg0:=aE hg0;have Y3:=mi.ok g0 mg0;have lg0:=Y3.len λa ha=>(good a (eE ha)).1;have D6:=s2.trans s4;refine{_,rfl,gl,rfl,{_,br.of (D6 _ _ QA)},ni (K:=K) (a:=gl) (xs:=AR) (λm Z H5=>∃(x7 x8:Aan)(kvs:List (NK×Addr×V)),Z=[some (.ref ta),some (.ref gl),some (.ref d0),some (.ref l),some x,some (.ref wd),some (.ref q0),x7,x8]/\m<=goals.length/\aQ H2 H5/\G3 P w K H5 wd kvs (λg=>∃g0∈gs,∃b∈goals,c8 g0 a b=some g)/\(∀g∈gs.take j,∀b∈goals,∀g2,c8 g a b=some g2->∃p∈kvs,p.1=rp g2)/\(∀b∈goals.take m,∀g2,c8 g0 a b=some g2->∃p∈kvs,p.1=rp g2)/\kvs.length<=5*j+m) {_,_,kvs,rfl,aR _,s4,wi,cp,λb hb=>(by cases hb),lk} (λm Z H5 _ ⟨_,_,_,_,_,s5,_⟩=>br.of ((s2.trans s5) _ _ QA)) ?_ ?_}
   ·rintro m v Z H5 D3 hv ⟨x7,x8,kvs,rfl,hm,s5,wi,cp,cq,lk⟩ hD3 _;obtain⟨b,hb,JO⟩:=Paired.at Qz hv;have mlt:m<goals.length:=(aw.mp hb).1;have gb:=gq b (aE hb);have s25:=s2.trans s5;have tk1:goals.take (m+1)=goals.take m++[b]:=by rw[bg,hb];rfl
    refine{_,rfl,_,rfl,_,rfl,x,v,q0,g0,a,b,rfl,ha.keep (cE.of s25),JO.keep (cE.of s25),s5 _ _ hq0,by lia,Y3.1,by have:=ga.1;lia,by have:=gb.2.1;lia,λz hz=>{(ga.2.1 z hz).1,(ga.2.1 z hz).2.1},λH6 s6 no=>?_,λq g' H6 s6 q0' hq6 yes=>?_}
    ·refine{_,rfl,rfl,_,rfl,uS ?_};refine hD3 _ _ {_,_,kvs,rfl,mlt,s5.trans s6,wi.sm s6,cp,λb' gJ g2 e=>?_,by lia};rw[tk1]at gJ;rcases aY.mp gJ with h|h
     ·exact cq b' h g2 e
     ·rw[au.mp h,no]at e;cases e
    ·refine{_,rfl,rfl,_,rfl,wG ?_};have UI:=Y3.put (aE hb) gb yes;have tk2:ats.take (i+1)=ats.take i++[a]:=by rw[bg,Vq];rfl
     rw[<-tk2]at UI;have lg':=UI.len λa ha=>(good a (eE ha)).1;have aea:(ats.take (i+1)).length<=4:=by rw[aU];lia
     have ON:∀r∈f6.dc (rowsOf g'),∀z∈r,PyData.strOk z=true:=λr hr z hz=>by
      obtain⟨p,hp,rfl⟩:=aJ.mp ((f6.cW _).mem_iff.mp hr);rcases aF.mp hz with e|hz
      ·obtain⟨c,hc,hzc,_⟩:=cH.uO.mp ((UI.2.1 p.1).mp (bT hp));rw[e];exact((good c (eE hc)).2.1 _ hzc).2.2
      ·rw[au.mp hz];exact(CK (UI.2.2.2 p hp)).2.2
     have nq:q≠wd:=λz=>by obtain⟨u,e⟩:=wi.at_.some;rw[<-z,q0']at e;cases e
     refine{_,rfl,_,rfl,_,rfl,q,gK g',rfl,hq6,λiv hiv=>?_};have s7:aQ H6 (upd H6 iv (.ext (nO iv q))):=aC hiv _;have aaG:upd H6 iv (.ext (nO iv q)) iv=some (.ext (nO iv q)):=ar;generalize (upd H6 iv (.ext (nO iv q)))=H7 at s7 aaG⊢;refine{iv,q,g',rfl,aaG,s7 _ _ hq6,by lia,λl8 zs H8 k8 Vg qO abO=>?_};have s8:aQ H7 H8:=k8;have s9:aQ H8 (upd H8 l8 (.lst zs)):=aC Vg _;have AK:upd H8 l8 (.lst zs) l8=some (.lst zs):=ar;generalize (upd H8 l8 (.lst zs))=H9 at s9 AK⊢;refine{l8,_,rfl,.inl {br.of AK,λtt sZ=>?_}};have sA:aQ H9 (upd H9 tt (.tup zs)):=aC sZ _;have htA:upd H9 tt (.tup zs) tt=some (.tup zs):=ar;generalize (upd H9 tt (.tup zs))=HA at sA htA⊢;have YD:=s7.trans (s8.trans (s9.trans sA));have hk:hV K HA (rp g') tt:=ZN htA (Paired.imp' (λ_ _ ⟨a,e,h⟩=>{a,e,sA _ _ (s9 _ _ h)}) abO) ON;have wi2:=wi.sm (s6.trans YD);refine{wd,tt,kvs,rp g',rfl,rfl,wi2.at_,hk,by lia,hD3 _ _ {_,_,putN kvs (rp g') tt (.ref q),rfl,mlt,λc u e=>?_,wi2.put hk (YD _ _ hq6) nq {g0,mg0,b,aE hb,yes},λg hg b' gJ g2 e=>Az.mpr (.inr (cp g hg b' gJ g2 e)),λb' gJ g2 e=>?_,?_}}
     ·rw[aH (bc e hwd)];exact YD _ _ (s6 _ _ (s5 _ _ e))
     ·rw[tk1]at gJ;rcases aY.mp gJ with h|h
      ·exact Az.mpr (.inr (cq b' h g2 e))
      ·rw[au.mp h,yes]at e;cases e;exact Az.mpr (.inl rfl)
     ·have:=rf (kvs:=kvs) (k:=rp g') (b:=tt) (v:=.ref q);lia
   ·rintro Z H5 ⟨x7,x8,kvs,rfl,_,s5,wi,cp,cq,lk⟩;rw[lgl,bh]at cq;refine hD2 _ _ {_,_,_,kvs,rfl,jlt,s5,wi,λg hg b hb g2 e=>?_,by lia};rw[bg,hg0]at hg;rcases aY.mp hg with h|h
    ·exact cp g h b hb g2 e
    ·rw[au.mp h]at e;exact cq b hb g2 e
  ·rintro Z H4 ⟨x6,x7,x8,kvs,rfl,_,s4,wi,cp,lk⟩;rw[lgm,bh]at cp;rw[lgm]at lk;refine{_,rfl,wd,kvs,rfl,wi.at_,λvv hvv=>?_};have s5:aQ H4 (upd H4 vv (.ext (EY vv wd))):=aC hvv _;have Qi:upd H4 vv (.ext (EY vv wd)) vv=some (.ext (EY vv wd)):=ar;generalize (upd H4 vv (.ext (EY vv wd)))=H5 at s5 Qi⊢;have wi5:=wi.sm s5;refine{vv,wd,kvs,rfl,Qi,wi5.at_,λl2 aay=>?_};obtain⟨QO,Tj⟩:=C5 wi5.vals;have pm:=yp Tj;have s6:aQ H5 (upd H5 l2 (.lst (kvs.map (·.2.2)))):=aC aay _;have vP:=s2.trans (s4.trans s5);refine AQ _ _ {l2,_,_,_,_,_,kvs.map (·.2.2),QO,rfl,ilt,vP.trans s6,vP.free aay,ar,Nd Tj λp g h=>h.1.sm s6,?_,?_}
   ·rw[bg,Vq];refine mi.step gq (λg' Cu=>?_) λg hg b hb g2 e=>?_
    ·obtain⟨p,_,_,_,h⟩:=pm.1 g' Cu;exact h
    ·obtain⟨p,hp,ep⟩:=cp g hg b hb g2 e;obtain⟨g',Cu,_,e2,_⟩:=pm.2 p hp;exact{g',Cu,P2 (e2.symm.trans ep)}
   ·rw[<-a9 Tj,iS];lia
 ·rintro Z H2 ⟨l,x4,x5,x6,x7,x8,ms,gs,rfl,hi,s2,l0',ip,JE,mi,US⟩;rw[la,bh]at mi;rw[la]at US;exact{_,rfl,k l ms gs H2 s2 l0' ip JE mi US}
def DG(a:Str×Aaf):Aaf:=a.1::a.2
def Lg(r:Aaf):Str×Aaf:=(r.headD "",r.tail)
def le_tail{z:Str}{r q:Aaf}(h:f6.iL (z::r) (z::q)=true):f6.iL r q=true:=by have e:f6.cY (z::q) (z::r)=f6.cY q r:=aA rfl;unfold f6.iL at h⊢;rw[e]at h;exact h
end
inductive Lw(K:Frag)(vs:Aam)(H:Hp)(Q:VK)(_x3:XK):Prop
 |mk (vl:Addr) (v:V) (iJ:Aam) (xs:List View) (hz:Aaf) (bz:R0) (_:vs=[.ref vl,v]) (_:H vl=some (.lst iJ)) (_:Paired (yP H) iJ xs) (_:(∀x∈xs,EZ bz x/\PyData.strOk x.1=true)) (_:xs.length<=100) (_:wg H v hz bz) (_:bz.length<=5) (_:(∀a∈bz,ki a.2/\PyData.strOk a.1=true)) (_:∀l zs cs H',aQ H H'->H l=none->H' l=some (.lst zs)->ju K H' zs cs->jV bz xs cs->zs.length<=64*xs.length->Q (.ref l) H')
section
variable{P:Program}{w:World}{K:Frag}{mg:Aab}{base:Heap}
def X0{k:Nat}{A:Around}(r:gx k A):A.units+110<cLine:=by have:=r.un;lia
structure Dcl(P:Program)(w:World)(K:Frag)(mg:Aab)(base:Heap):Prop where
 ZD:cR P w K mg base 2 "_law_maps" ["_law_atoms","_law_goals","_law_first"] (OI K)
 Xc:cR P w K mg base 1 "_law_image" ["_law_terms","_law_filled"] Ux
def YT{H:Hp}{v:V}{a:Str×Aaf}(h:jX H v a):vh K H v (DG a):=by obtain⟨p,t,e,h1,h2⟩:=h;exact{p,t,a.1,a.2,e,rfl,bf.of h1,bf.of h2}
def Wz{H:Hp}{vs:Aam}{ats:R0}(h:bR H vs ats):Paired (vh K H) vs (ats.map DG):=by
 induction h with
 |nil=>exact .nil
 |cons h _ ih=>exact .cons (YT h) ih
def Rr{H:Hp}{ir:Aam}{bz:R0}{us:List (Aaf×Addr)}(ix:bR H ir bz)(at_:∀x∈us,∃j:Nat,ir[j]?=some (V.ref x.2)/\(bz.map DG)[j]?=some x.1){vs:Aam}{rows:R1}(h:Paired (λ(v:V)(r:Aaf)=>∃x∈us,v=.ref x.2/\x.1=r) vs rows):bR H vs (rows.map Lg):=by
 induction h with
 |nil=>exact .nil
 |cons h _ ih=>
  obtain⟨x,hx,rfl,rfl⟩:=h;obtain⟨j,e1,e2⟩:=at_ x hx;obtain⟨a,ha,h⟩:=Paired.at ix e1;rw[aI,ha]at e2;have e2:DG a=x.1:=bM e2;refine .cons ?_ ih;rw[<-e2];exact h
def Xx{H:Hp}{us:List (Aaf×Addr)}(at_:∀x∈us,vh K H (.ref x.2) x.1){vs:Aam}{rows:R1}(h:Paired (λ(v:V)(r:Aaf)=>∃x∈us,v=.ref x.2/\x.1=r) vs rows):ju K H vs (rows.map Lg):=by
 induction h with
 |nil=>exact .nil
 |cons h _ ih=>
  obtain⟨x,hx,rfl,rfl⟩:=h;obtain⟨p,g,z,zs,e,e2,h1,h2⟩:=at_ x hx;refine .cons ?_ ih;rw[e2];exact⟨p,g,e,h1,h2⟩
def F5{bz goals ats:R0}(e:∀b,b∈goals↔b∈bz){g:Str->Str}:AskP.mM isUnk (dF goals) ats g↔AskP.mM isUnk (dF bz) ats g:=
 mL λ_=>{λh a ha=>iK.mpr ((e _).mp (iK.mp (h a ha))),λh a ha=>iK.mpr ((e _).mpr (iK.mp (h a ha)))}
def P8{bz:R0}{hz:Aaf}{ats:R0}{z:Str}{us:R1}(nd:us.Nodup)(mem:∀r,r∈us↔∃g,AskP.mM isUnk (dF bz) ats g/\r=z::hz.map g):yU bz hz ats ((f6.dc us).map List.tail)/\(f6.dc us).map Lg=((f6.dc us).map List.tail).map λr=>(z,r):=by
 have hd:∀r∈f6.dc us,r=z::r.tail:=λr hr=>by obtain⟨g,_,e⟩:=(mem r).mp ((f6.cW _).mem_iff.mp hr);rw[e];rfl
 have Gq:(f6.dc us).Nodup:=(f6.cW _).nodup_iff.mpr nd;have n1:((f6.dc us).map List.tail).Nodup:=gc.mpr (Gq.imp_of_mem λ{a b} ha hb n e=>n (by rw[hd a ha,hd b hb,e]));have n2:((f6.dc us).map List.tail).Pairwise λa b=>f6.iL a b=true:=gc.mpr ((f6.tS us).imp_of_mem λ{a b} ha hb h=>le_tail (z:=z) (by rw[<-hd a ha,<-hd b hb];exact h));refine{{n1,n2,λr=>?_},?_}
 ·rw[aJ];constructor
  ·rintro⟨a,ha,rfl⟩;obtain⟨g,h,e⟩:=(mem a).mp ((f6.cW _).mem_iff.mp ha);exact{g,h,by rw[e];rfl}
  ·rintro⟨g,h,rfl⟩;exact{z::hz.map g,(f6.cW _).mem_iff.mpr ((mem _).mpr ⟨g,h,rfl⟩),rfl}
 ·rw[bW];refine bC λr hr=>?_;rw[hd r hr];rfl
def gY:cv ["_law_views_here","_law_question_here","_law_found","_law_goals","_law_name","_law_asked","_law_some"] ["_law_views_here","_law_question_here"] (defScope qX):=iO (by decide+kernel)
def SE{f:Addr}{fd:FuncData}(F:eX K "_law_candidates" "_law_candidates" qX f fd)(T:Txt K mg)(D:Dcl P w K mg base):cU P w K mg base fm 3 f fd ["_law_views_here","_law_question_here"] (Lw K):=by
 refine F.ok gY (λ_ _ _ _ h=>by cases h;subst_vars;rfl) (λc6 A outer s H vs Q E hr h=>?_);obtain⟨vl,v,iJ,xs,hz,bz,rfl,Cr,AG,zL,lx,⟨q,hd,aa,ir,rfl,hq,GI,xH,ix⟩,l5,gr,k⟩:=h;have lv:iJ.length=xs.length:=a9 AG;refine{_,(aK (d8 2 gY (fq gZ)) (aK (d8 3 gY (bP (A4 hr.hd (XZ hr)) rfl T.rn (by decide+kernel) (b5 (da (GW hr.hd (X0 hr)) rfl T.Nn (by decide+kernel) (b5 (cB eU (pv 1) aS (λ_ _=>rfl))))))) (aK (fR bO rfl (fX (pv 0)) (ko rfl (cT (mh (i:=4) gY.nd rfl (Or.inr rfl)) (cT (mh (i:=5) gY.nd rfl (Or.inr rfl)) iY))) (aK (yn (j:=6) gY.nd rfl rfl rfl (dO (fs:=["_law_name","_law_asked"]) (fr:=[4,5])) (fX (cl D.ZD hr (uI (cB eU (pv 5) aS (λ_ _=>rfl)) (pv 3) kD))) (λ_ _ _ _=>(dX (cD (pv 1) (cl D.Xc hr (cD (cB (uj (K:=K)) (pv 2) aS (λ_ _=>rfl)) (pv 0))))))) (aT (d8 2 gY (dB Pg (pv 2) (bP (A4 hr.hd (XZ hr)) rfl T.rn (by decide+kernel) (b5 (da (GW hr.hd (X0 hr)) rfl T.Nn (by decide+kernel) (b5 (pv 6)))))))))) (aT (b8 (pv 2)))))),?_}
 dsimp only[FD,Cx.Po,Cx.uu];refine{(by show 0<=sizeLine;decide),λfl EC=>?_};have s1:aQ H (upd H fl (.lst [])):=aC EC _;have zi:upd H fl (.lst []) fl=some (.lst []):=ar;generalize upd H fl (.lst [])=H1 at s1 zi⊢;have Vp:=bR.keep (cE.of s1) ix;have lq:(bz.map DG).length=bz.length:=ak _;refine{_,rfl,_,_,_,_,rfl,rfl,bf.of (s1 _ _ hq),rfl,aa,ir,bz.map DG,rfl,.inr (bf.of (s1 _ _ xH)),Wz Vp,by lia,λr hr z il=>?_,λsa us hsa nd mem le at_=>?_}
 ·obtain⟨a,ha,rfl⟩:=aJ.mp hr;rcases aF.mp il with e|h
  ·rw[e];exact(gr a ha).2
  ·exact(CK ((gr a ha).1.2.2 _ h)).2.2
 have s2:aQ H1 (upd H1 sa (.ext (lH P w sa us))):=aC hsa _;have kR:upd H1 sa (.ext (lH P w sa us)) sa=some (.ext (lH P w sa us)):=ar;refine{sa,us,rfl,kR,λx hx=>?_,by lia,λgl AR QA Qz=>?_}
 ·obtain⟨p,g,z,zs,e1,e2,h1,h2⟩:=(at_ x hx).1;exact{p,g,z,zs,e1,e2,fH h1 s2,fH h2 s2}
 have s3:=aC QA (.lst AR);have aaH:upd (upd H1 sa (.ext (lH P w sa us))) gl (.lst AR) gl=some (.lst AR):=ar;have NU:=bR.keep (cE.of (s2.trans s3)) Vp;have pG:=s1.trans (s2.trans s3);have ED:=s3 _ _ (s2 _ _ zi);have hga:=Rr NU (λx hx=>(at_ x hx).2) Qz;generalize upd (upd H1 sa (.ext (lH P w sa us))) gl (.lst AR)=H3 at s3 aaH NU pG ED hga⊢;have ge:∀b,b∈(f6.dc (us.map (·.1))).map Lg↔b∈bz:=λb=>by
  rw[aJ];constructor
  ·rintro⟨r,hr,rfl⟩;obtain⟨a,ha,rfl⟩:=aJ.mp ((mem r).mp ((f6.cW _).mem_iff.mp hr));exact ha
  ·intro hb;exact{DG b,(f6.cW _).mem_iff.mpr ((mem _).mpr (bT hb)),rfl}
 have lgo:((f6.dc (us.map (·.1))).map Lg).length<=5:=by rw[ak,(f6.cW _).length_eq,ak];lia
 generalize (f6.dc (us.map (·.1))).map Lg=goals at hga ge lgo;clear kR s2 Qz at_ mem nd le QA hsa NU;refine{_,rfl,vl,rfl,{iJ,br.of (pG _ _ Cr)},ni (K:=K) (a:=vl) (xs:=iJ) (λi Z H4=>∃(fa:Addr)(x4 x5 x6:Aan)(zs:Aam)(cs:R0),Z=[some (.ref vl),some (.ref q),some (.ref fa),some (.ref gl),x4,x5,x6]/\i<=xs.length/\aQ H3 H4/\H fa=none/\H4 fa=some (.lst zs)/\ju K H4 zs cs/\jV bz (xs.take i) cs/\zs.length<=64*i) {fl,_,_,_,[],[],rfl,aR _,aQ.refl _,EC,ED,.nil,rfl,ao _} (λi Z H4 _ ⟨_,_,_,_,_,_,_,_,s4,_⟩=>br.of (s4 _ _ (pG _ _ Cr))) ?_ ?_}
 ·rintro i x Z H4 D1 hx ⟨fa,x4,x5,x6,zs,cs,rfl,hi,s4,fa0,Mj,qm,ic,lz⟩ AQ _;obtain⟨y,hy,p,qv,rfl,hp,q2,hd2,aa2,adT,rfl,Mf,adB,adJ,abU⟩:=Paired.at AG hx;have cw:i<xs.length:=(aw.mp hy).1;obtain⟨vk,ON⟩:=zL y (aE hy);have lR:=pG.trans s4;refine{p,_,rfl,bf.of (lR _ _ hp),rfl,_,_,rfl,_,_,rfl,rfl,?_};refine{_,rfl,_,_,_,_,rfl,rfl,bf.of (lR _ _ Mf),rfl,_,rfl,λd gH=>?_};have s5:aQ H4 (upd H4 d (.dK [])):=aC gH _;have hd5:upd H4 d (.dK []) d=some (.dK []):=ar;generalize upd H4 d (.dK [])=H5 at s5 hd5⊢;have qK:=lR.trans s5;refine{aa2,gl,d,adT,AR,y.2.2,goals,rfl,bf.of (qK _ _ adJ),bR.keep (cE.of qK) abU,s5 _ _ (s4 _ _ aaH),bR.keep (cE.of (s4.trans s5)) hga,hd5,vk.l4,lgo,vk.good,λb hb=>(gr b ((ge b).mp hb)).1,λl ms gs H6 s6 l0 ot JE mi lg=>?_};have acF:gs.length<=625:=aL lg (aL (fZ (by decide) vk.l4) (by decide));have lm:ms.length=gs.length:=a9 JE;have xh:=qK.trans s6;refine{l,rfl,{_,br.of ot},jG (K:=K) (a:=l) (xs:=ms) (λj ys H7=>aQ H6 H7/\j<=gs.length/\Paired (vh K H7) ys ((gs.take j).map λg=>y.1::y.2.1.map (mv g))) (bN ∅) {aQ.refl _,aR _,.nil} ?_ ?_ ?_}
  ·rintro j ys H7 hj ⟨s7,Vh,L8⟩;refine{br.of (s7 _ _ ot),?_};rw[a9 L8,ak,aU];lia
  ·rintro j z ys H7 N il ⟨s7,Vh,L8⟩ hN;obtain⟨g,hg,dq,rfl,hdq⟩:=Paired.at JE il;have Te:j<gs.length:=(aw.mp hg).1;have Gb:=xh.trans s7;refine pH {_,rfl,_,rfl,_,_,_,_,rfl,rfl,bf.of (Gb _ _ Mf),rfl,_,rfl,hd2,dq,y.2.1,g,rfl,Gb _ _ adB,s7 _ _ hdq,by have:=vk.bw.1;lia,λr H8 s8 hr8=>{(by show 2<=sizeLine;decide),λpp Ew=>hN _ _ {s7.trans (s8.trans (aC Ew _)),Te,?_}}};have s9:aQ H8 (upd H8 pp (.tup [.str y.1,.ref r])):=aC Ew _;rw[bg,hg,aN];exact nW (Paired.imp' (λ_ _ ⟨p,g,z,zs,e1,e2,h1,h2⟩=>{p,g,z,zs,e1,e2,fH h1 (s8.trans s9),fH h2 (s8.trans s9)}) L8) (.cons {pp,r,_,_,rfl,rfl,bf.of ar,bf.of (s9 _ _ hr8)} .nil)
  rintro ys H7 ⟨s7,_,L8⟩ l7 qO;rw[lm,bh]at L8;have s8:aQ H7 (upd H7 l7 (.lst ys)):=aC qO _;have h8:upd H7 l7 (.lst ys) l7=some (.lst ys):=ar;generalize upd H7 l7 (.lst ys)=H8 at s8 h8⊢;have s48:=s5.trans (s6.trans (s7.trans s8));have hy8:Paired (vh K H8) ys (gs.map λg=>y.1::y.2.1.map (mv g)):=Paired.imp' (λ_ _ ⟨p,g,z,zs,e1,e2,h1,h2⟩=>{p,g,z,zs,e1,e2,fH h1 s8,fH h2 s8}) L8;refine{_,rfl,_,rfl,l7,ys,_,rfl,.inl (br.of h8),hy8,by rw[ak];lia,λr hr z il=>?_,λsb ub hsb nd mem le at_=>?_}
  ·obtain⟨g,hg,rfl⟩:=aJ.mp hr;rcases aF.mp il with e|h
   ·rw[e];exact ON
   ·obtain⟨t,ht,rfl⟩:=aJ.mp h;unfold mv;rw[Fs];cases e:cH.get g t with
    |none=>exact(vk.bw.2 t ht).1.2.2
    |some u=>exact(CK ((mi.ok g hg).2.2.2 _ (cH.get_some e))).2.2
  have iff:∀r,r∈ub.map (·.1)↔∃g,AskP.mM isUnk (dF bz) y.2.2 g/\r=y.1::y.2.1.map g:=λr=>by
   rw[mem];have an:=mi.ans (hz:=y.2.1) λz il=>(vk.bw.2 z il).2;constructor
   ·intro h;obtain⟨g,hg,rfl⟩:=aJ.mp h;obtain⟨g0,h1,h2⟩:=(an _).mp (aJ.mpr ⟨g,hg,rfl⟩);exact{g0,(F5 ge).mp h1,by rw[h2]}
   ·rintro⟨g0,h1,rfl⟩;obtain⟨g,hg,e⟩:=aJ.mp ((an _).mpr {g0,(F5 ge).mpr h1,rfl});exact aJ.mpr {g,hg,by rw[e]}
  obtain⟨ia,ie⟩:=P8 nd iff;have UT:ub.length<64:=by have:=vk.gj _ ia.1 λr hr=>(ia.2.2 r).mp hr;rw[ak,(f6.cW _).length_eq,ak]at this;exact this
  have s9:aQ H8 (upd H8 sb (.ext (lH P w sb ub))):=aC hsb _;have hs9:upd H8 sb (.ext (lH P w sb ub)) sb=some (.ext (lH P w sb ub)):=ar;have at9:∀x∈ub,vh K (upd H8 sb (.ext (lH P w sb ub))) (.ref x.2) x.1:=λx hx=>by obtain⟨p,g,z,zs,e1,e2,h1,h2⟩:=(at_ x hx).1;exact{p,g,z,zs,e1,e2,fH h1 s9,fH h2 s9}
  generalize upd H8 sb (.ext (lH P w sb ub))=H9 at s9 hs9 at9⊢;refine{sb,ub,rfl,hs9,at9,UT,λlA zA hlA hzA=>?_};have hcA:=Xx at9 hzA;rw[ie]at hcA;have lzA:zA.length<64:=by rw[a9 hzA,(f6.cW _).length_eq,ak];exact UT
  generalize (f6.dc (ub.map (·.1))).map List.tail=rs at ia hcA;have sA:aQ H9 (upd H9 lA (.lst zA)):=aC hlA _;have hA:upd H9 lA (.lst zA) lA=some (.lst zA):=ar;generalize upd H9 lA (.lst zA)=HA at sA hA⊢;have Uz:=s48.trans (s9.trans sA);refine{fa,lA,zs,zA,rfl,rfl,Uz _ _ Mj,hA,bI (cL (show zs.length+zA.length<=100000 by lia) (by decide)),λfb hfb=>?_};have sB:aQ HA (upd HA fb (.lst (zs++zA))):=aC hfb _;refine AQ _ _ {fb,_,_,_,zs++zA,cs++rs.map λr=>(y.1,r),rfl,cw,s4.trans (Uz.trans sB),(lR.trans Uz).free hfb,ar,nW (ju.same qm (Uz.trans sB)) (ju.same hcA (sA.trans sB)),?_,?_}
  ·rw[bg,hy];exact jV.snoc ia ic
  ·rw[aM];lia
 ·rintro Z H4 ⟨fa,x4,x5,x6,zs,cs,rfl,_,s4,fa0,Mj,qm,ic,lz⟩;rw[lv,bh]at ic;exact{_,rfl,k fa zs cs H4 (pG.trans s4) fa0 Mj qm ic ∅}
def Kt(ats:R0):Prop:=∃l r,ats=l++r/\(∀a∈l,∀z∈a.2,isUnk z=false)/\r.length<=2
def vQ(db:Str->R1):R0->List (R1)
 |[]=>[[]]
 |a::r=>(db a.1).flatMap λx=>(vQ db r).map (x::·)
theorem Gg{db:Str->R1}(h:∀z,(db z).length<=5):∀r:R0,(vQ db r).length<=5^r.length
 |[]=>ao _
 |a::r=>by
  have ih:=Gg h r;have h5:=h a.1;unfold vQ;rw[List.length_flatMap,bu,iS];generalize db a.1=l at h5;have:∀l:R1,(l.map λx=>((vQ db r).map (x::·)).length).sum=l.length*(vQ db r).length:=λl=>by
   induction l with
   |nil=>simp
   |cons x l ih=>rw[bo,List.sum_cons,ih,ak,bu,wV];lia
  rw[this]
  calc l.length*(vQ db r).length<=5*5^r.length:=Nat.mul_le_mul h5 ih
   _=5^r.length*5:=Bl _ _
theorem Gf{db:Str->R1}{g:Str->Str}:∀{r:R0},(∀a∈r,a.2.map g∈db a.1)->r.map (λa=>a.2.map g)∈vQ db r
 |[],_=>au.mpr rfl
 |a::r,h=>pz.mpr {a.2.map g,h a ay,aJ.mpr {_,Gf λb hb=>h b (az _ hb),rfl}}
def TC{bz ats:R0}{hz:Aaf}(f:Kt ats)(l5:bz.length<=5)(hh:∀z∈hz,isUnk z=true->z∈cZ ats)(rows:R1)(nd:rows.Nodup)(h:∀row∈rows,∃g,AskP.mM isUnk (dF bz) ats g/\row=hz.map g):rows.length<64:=by
 obtain⟨l,r,rfl,no,l2⟩:=f;obtain⟨cs,qm⟩:=C5 (R:=λrow c=>∃g,AskP.mM isUnk (dF bz) (l++r) g/\row=hz.map g/\c=r.map λa=>a.2.map g) λrow hr=>by obtain⟨g,h1,h2⟩:=h row hr;exact⟨_,g,h1,h2,rfl⟩
 have inj:∀{row M5:Aaf}{c:R1},(∃g,AskP.mM isUnk (dF bz) (l++r) g/\row=hz.map g/\c=r.map λa=>a.2.map g)->(∃g,AskP.mM isUnk (dF bz) (l++r) g/\M5=hz.map g/\c=r.map λa=>a.2.map g)->row=M5:=by
  rintro row M5 c ⟨g,s1,rfl,e1⟩ ⟨g',s2,rfl,e2⟩;refine bC λz il=>?_;by_cases cu:isUnk z=true
  ·obtain⟨a,ha,L7⟩:=sv.mp (hh z il cu);rcases aY.mp ha with ha|ha
   ·rw[no a ha z L7]at cu;cases cu
   ·have e3:a.2.map g=a.2.map g':=tJ.mp (e1.symm.trans e2) a ha;exact tJ.mp e3 z L7
  ·have cu:isUnk z=false:=by simpa using cu
   rw[s1.1 z cu,s2.1 z cu]
 have cnd:cs.Nodup:=by
  clear h
  induction qm with
  |nil=>exact .nil
  |@cons row c rows cs h1 hp ih=>
   obtain⟨n1,n2⟩:=cP.mp nd;refine cP.mpr {λhc=>n1 ?_,ih n2};obtain⟨M5,hr,h2⟩:=(yp hp).1 c hc;rw[inj h1 h2];exact hr
 have h1:=jf cnd (m:=vQ (dF bz) r) λc hc=>by obtain⟨row,_,g,hs,_,rfl⟩:=(yp qm).1 c hc;exact Gf λa ha=>hs.2 a (bZ _ ha)
 have h2:=Gg (db:=dF bz) (λz=>aL yj l5) r;have h3:5^r.length<=25:=fZ (by decide) l2;have h4:rows.length=cs.length:=a9 qm;lia
def XX{bz ats:R0}{hz:Aaf}{z:Str}(l5:bz.length<=5)(a6:oM ats)(l3:ats.length<=3)(lh:hz.length<=4)(hh:∀z∈hz,z∈eP (cZ ats))(f:Kt ats):EZ bz (z,hz,ats):=by
 have hu:∀z∈hz,isUnk z=true/\z∈cZ ats:=λz h=>CI.mp (hh z h);refine{λa ha=>?_,{lh,λz h=>{?_,λ_=>(hu z h).2}},oG l3,TC f l5 λz h _=>(hu z h).2}
 ·obtain⟨h1,h2,h3,h4⟩:=a6 a ha;exact{by lia,λz hz=>CK (h4 z hz),h2,Zc h1}
 ·obtain⟨a,ha,L7⟩:=sv.mp (hu z h).2;exact CK ((a6 a ha).2.2.2 z L7)
def wAt:Str×Aaf:=("rs",["?w"])
end
inductive Lu(K:Frag)(vs:Aam)(H:Hp)(Q:VK)(_x3:XK):Prop
 |mk (f:Addr) (v:V) (hz:Aaf) (bz:R0) (_:vs=[.ref f,v]) (_:fG K f H) (_:wg H v hz bz) (_:1<=bz.length) (_:bz.length<=5) (_:oM bz) (_:∀(r:Addr)(il:Aaf)(ats:R0)(H':Hp),fG K f H'->Ext f H H'->wg H' (.ref r) il ats->oM ats->ats.length<=3->il.length<=4->(∀z∈il,z∈eP (cZ ats))->Kt ats->Q (.ref r) H')
section
variable{P:Program}{w:World}{K:Frag}{mg:Aab}{base:Heap}
def Yy{a:Addr}{lo hi:Option Int}{H:Hp}{Q:VK}{xs:Aam}(ha:H a=some (.tup xs))(k:∀p H',aQ H H'->H' p=some (.tup (mx xs lo hi))->Q (.ref p) H'):YL K (.ref a) lo hi H Q:=
 {a,xs,rfl,bf.of ha,λ⟨e1,e2⟩=>k a H (aQ.refl _) (by unfold mx;rw[e1,e2,List.drop_zero,Bj,bh];exact ha),λ_ p hp=>k p _ (aC hp _) ar}
def Ng{α β:Type}{R:α->β->Prop}{xs:List α}{ys:List β}(h:Paired R xs ys):∀a b:Nat,Paired R ((xs.drop a).take b) ((ys.drop a).take b):=by
 induction h with
 |nil=>intro a b;rw[List.drop_nil,List.take_nil,List.drop_nil,List.take_nil];exact .nil
 |@cons x y xs ys h hp ih=>
  intro a b;cases a with
  |succ a=>exact ih a b
  |zero=>
   cases b with
   |zero=>rw[rJ,rJ];exact .nil
   |succ b=>exact .cons h (ih 0 b)
structure Dvw(P:Program)(w:World)(K:Frag)(mg:Aab)(base:Heap):Prop where
 fS:cR P w K mg base 1 "_law_take" ["_law_box_here","_law_many"] (zQ K)
 yy:cR P w K mg base 3 "_law_question" ["_law_box_here","_law_most"] (CO K)
 t6:cR P w K mg base 1 "_law_unknowns" ["_law_atoms"] HM
def fQ:cv ["_law_box_here","_law_question_here","_law_start","_law_atoms","_law_names","_law_turn","_law_renamed","_law_k","_law_told","_law_name","_law_terms","_law_more","_law_unknowns_here","_law_head"] ["_law_box_here","_law_question_here"] (defScope CU):=iO (by decide+kernel)
def Sv{f:Addr}{fd:FuncData}(F:eX K "_law_view" "_law_view" CU f fd)(T:Txt K mg)(D:Dvw P w K mg base):cU P w K mg base fm 4 f fd ["_law_box_here","_law_question_here"] (Lu K):=by
 refine F.ok fQ (λ_ _ _ _ h=>by cases h;subst_vars;rfl) (λc6 A outer s H vs Q E hr h=>?_);have hu:=qh hr;obtain⟨fe,v,hz,bz,rfl,hF,⟨q,hd,aa,ir,rfl,hq,GI,xH,ix⟩,l1,l5,a6,k⟩:=h;have la:ir.length=bz.length:=a9 ix;refine cut 3 (λZ H2=>∃(x2:V)(ta:Addr)(jv:Aam)(ats:R0),Z=[some (.ref fe),some (.ref q),some x2,some (.ref ta),none,none,none,none,none,none,none,none,none,none]/\H2 ta=some (.tup jv)/\bR H2 jv ats/\oM ats/\1<=ats.length/\ats.length<=2/\fG K fe H2/\Ext fe H H2)
  (TU 6 (λZ H2=>∃(x2 x3 x4 x5 x6:V)(x7 x9 y3 y0:Aan)(tl:Addr)(jv:Aam)(ats:R0),Z=[some (.ref fe),some (.ref q),some x2,some x3,some x4,some x5,some x6,x7,some (.ref tl),x9,y3,y0,none,none]/\tl≠fe/\H tl=none/\H2 tl=some (.lst jv)/\bR H2 jv ats/\oM ats/\1<=ats.length/\ats.length<=2/\fG K fe H2/\Ext fe H H2)
   (TU 1 (λZ H2=>∃(x2 x3 x4 x5 x6:V)(x7 x9 y3 y0:Aan)(tl:Addr)(jv:Aam)(ats:R0),Z=[some (.ref fe),some (.ref q),some x2,some x3,some x4,some x5,some x6,x7,some (.ref tl),x9,y3,y0,none,none]/\tl≠fe/\H2 tl=some (.lst jv)/\bR H2 jv ats/\oM ats/\ats.length<=3/\Kt ats/\fG K fe H2/\Ext fe H H2)
    (TU 3 (λZ H2=>∃(x2 x3 x4 x5 x6:V)(x7 x9 y3 y0:Aan)(x12:V)(tl hl:Addr)(jv:Aam)(ats:R0)(hs:Aaf),Z=[some (.ref fe),some (.ref q),some x2,some x3,some x4,some x5,some x6,x7,some (.ref tl),x9,y3,y0,some x12,some (.ref hl)]/\tl≠fe/\H2 tl=some (.lst jv)/\bR H2 jv ats/\oM ats/\ats.length<=3/\Kt ats/\hl≠fe/\hl≠tl/\H hl=none/\H2 hl=some (.lst (hs.map V.str))/\hs.length<=4/\(∀z∈hs,z∈eP (cZ ats))/\fG K fe H2/\Ext fe H H2)
     {_,(aK (fh (c7 tV (cl D.fS hr (cD (pv 0) aS)) aS (dG _)) (aT (iW (Pb b9 PySem.F.slot_list_reverse PySem.F.type_list_reverse Np (pv 13)))) dh) (aT (b8 (dX (cD (da d6 rfl T.hX (by decide+kernel) (b5 (pv 13))) (da d6 rfl T.hX (by decide+kernel) (b5 (pv 8)))))))),?_} (λt2 ht=>{_,(aK (d8 12 fQ (cl D.t6 hr (b5 (pv 8)))) (aK (d8 13 fQ (uG Fc (vR rfl (dO (fs:=["_law_box_here"]) (fr:=[0])) (fX (pv 12)) (λ_ _ _ _=>(c7 Ef (cl D.fS hr (cD (pv 1) aS)) aS (dG _))) (λ_ _ _ _=>(pv 0))) Bx (ui aS))) (aK (fh (c7 (Pf hr.Ox) (pv 13) (fq gZ) (dG _)) (aT (d8 13 fQ (uG Fc (pv 12) Bx (ui aS)))) dh) ht))),λtl=>?_}))
    (λt2 ht=>{_,(aK (fh (c7 (Pf hr.Ox) (cl D.t6 hr (b5 (pv 8))) (fq gZ) (dG _)) (aT (iW (lG b9 dJ dH k7 (pv 8) (b5 (dX (cD dj (dX (b5 dj)))))))) dh) ht),λtl=>?_}))
   (λt2 ht=>{_,(aK (d8 4 fQ (fq (jc dj (uI dj dj dj)))) (aK (d8 5 fQ (cl D.fS hr (cD (pv 0) aS))) (aK (pX (i:=6) fQ.nd rfl (Or.inr rfl) kD) (aK (fR bO rfl (kZ rfl T.pK (b5 aS)) (iZ 7 fQ) (aT (xl hu (pv 6) (cB fY (pv 4) (pv 7) (λ_ _=>rfl)) (cB fY (pv 4) (dB oR (dB iC (pv 7) (pv 5)) aS) (λ_ _=>rfl)) rfl))) (aK (d8 8 fQ (fq gZ)) (aK (fR bO rfl (oQ (pv 3)) (ko rfl (cT (iZ 9 fQ) (cT (iZ 10 fQ) iY))) (aK (yn (j:=11) fQ.nd rfl rfl rfl (dO (fs:=["_law_renamed"]) (fr:=[6])) (oQ (pv 10)) (λ_ _ _ _=>(C8 hu (pv 1) (pv 0) (pv 0) UO))) (aK (fh (c7 tV (cl D.fS hr (cD (pv 0) aS)) aS (dG _)) (aT (uF dj (IA (pv 11) (cl D.fS hr (cD (pv 0) (bP fk rfl T.jd cx (b5 (pv 11))))) set_list))) dh) (aT (iW (lG b9 dJ dH k7 (pv 8) (b5 (dX (cD (pv 9) (da d6 rfl T.hX (by decide+kernel) (b5 (pv 11)))))))))))) ht)))))),λtl=>?_}))
  (λt2 ht=>{_,(aK (d8 2 fQ (cl D.fS hr (cD (pv 0) (bP fk rfl T.jd cx (b5 (cB eU (pv 1) aS (λ_ _=>rfl))))))) (aK (d8 3 fQ (uG Wf (cB eU (pv 1) aS (λ_ _=>rfl)) (ui (pv 2)) (ui (dB iC (dB iC (pv 2) aS) (cl D.fS hr (cD (pv 0) aS)))))) (aK (fh (c7 tV (cl D.fS hr (cD (pv 0) aS)) aS (dG _)) (aT (d8 3 fQ (cB eU (cl D.yy hr (cD (pv 0) aS)) aS (λ_ _=>rfl)))) dh) ht))),λtl=>?_})
 ·rintro Z H2 ⟨x2,x3,x4,x5,x6,x7,x9,y3,y0,x12,tl,hl,jv,ats,hs,rfl,pJ,GC,j4,g6,l3,gj,Pu,Zf,jO,EA,lh,hh,kT,ox⟩;refine{_,rfl,fe,2,rfl,kT,by decide,by decide,λi3 H3 a0 a1 lX nj=>?_};have fin:∀(xB:Aaf)(H4:Hp),fG K fe H4->Ext fe H H4->bR H4 jv ats->xB.length<=4->(∀z∈xB,z∈eP (cZ ats))->∀tp,H4 tp=none->∀ta,upd H4 tp (.tup (xB.map V.str)) ta=none->∀qa,upd (upd H4 tp (.tup (xB.map V.str))) ta (.tup jv) qa=none->Q (.ref qa) (upd (upd (upd H4 tp (.tup (xB.map V.str))) ta (.tup jv)) qa (.tup [.ref tp,.ref ta])):=λxB H4 mJ jh NG lh4 hh4 tp uT ta tm qa Qp=>by have s7:=aC uT (.tup (xB.map V.str));have s8:=aC tm (.tup jv);have s9:=aC Qp (.tup [.ref tp,.ref ta]);have Ie:=(s7.trans s8).trans s9;exact k qa xB ats _ (mJ.same Ie) (λb o n h=>Ie _ _ (jh b o n h)) {qa,tp,ta,jv,rfl,ar,s9 _ _ (s8 _ _ ar),s9 _ _ ar,bR.keep (cE.of Ie) NG} g6 l3 lh4 hh4 gj
  have AJ:=kT.jM nj;have JL:=nj _ _ Pu EA;have NH:=nj _ _ pJ GC;refine{rfl,_,rfl,eZ (λ_=>?_) (λ_=>?_)}
  ·refine{_,rfl,.inl {rfl,_,br.of JL},hl,_,rfl,rfl,JL,?_};have e4:upd H3 hl (.lst (hs.map V.str).reverse) hl=some (.lst (hs.reverse.map V.str)):=by rw[ar,List.map_reverse]
   have AI:upd H3 hl (.lst (hs.map V.str).reverse) tl=some (.lst jv):=by rw[aH Zf.symm];exact NH
   exact{_,rfl,hl,_,rfl,.inl {br.of e4,λtp uT=>{_,rfl,tl,_,rfl,.inl {br.of (aC uT _ _ _ AI),λta tm=>{(by show 2<=sizeLine;decide),fin hs.reverse _ (lX.lst JL Pu _) ((ox.trans nj).own jO _) (bR.keep (AJ.lst JL _) j4) (by rw[zF];exact lh) (λz il=>hh z (vp.mp il)) tp uT ta tm}}}}}
  ·exact{_,rfl,hl,_,rfl,.inl {br.of JL,λtp uT=>{_,rfl,tl,_,rfl,.inl {br.of (aC uT _ _ _ NH),λta tm=>{(by show 2<=sizeLine;decide),fin hs _ lX (ox.trans nj) (bR.keep AJ j4) lh hh tp uT ta tm}}}}}
 ·rintro Z H2 ⟨x2,x3,x4,x5,x6,x7,x9,y3,y0,mE,jv,ats,rfl,pJ,GC,j4,g6,l3,gj,kT,ox⟩;refine{_,rfl,mE,jv,ats,rfl,GC,j4,g6,by lia,λul H3 s3 ul0 Ep=>?_};have lu:(eP (cZ ats)).length<=12:=by have h1:=xr (cZ ats);have h2:=g6.len ats.length;rw[bh]at h2;lia
  have nul:=kT.qL ul0;have lX:=kT.same s3;have nj:Ext fe H H3:=λb o n h=>s3 _ _ (ox b o n h);have Ju:=bR.keep (cE.of s3) j4;have NH:=s3 _ _ GC;clear kT ox j4 GC;generalize Eo:eP (cZ ats)=us at Ep lu;refine{_,rfl,ul,rfl,{_,br.of Ep},jG (K:=K) (a:=ul) (xs:=us.map V.str) (λj ys H4=>fG K fe H4/\Ext fe H3 H4/\∃hs:Aaf,ys=hs.map V.str/\(∀z∈hs,z∈us)/\hs.length<=j) (by rw[ak];exact bN ∅) {lX,Ext.refl _ _,[],rfl,λz h=>(by cases h),ao _} ?_ ?_ ?_}
  ·rintro j ys H4 hj ⟨mJ,jh,hs,rfl,_,lj⟩;exact{br.of (jh _ _ nul Ep),by rw[ak];exact lj}
  ·rintro j z ys H4 N il ⟨mJ,jh,hs,rfl,sub,lj⟩ hN;obtain⟨z,sf,rfl⟩:=jj il;refine{_,rfl,fe,4,rfl,mJ,by decide,by decide,λi5 H5 a0 a1 xI xK=>{_,_,rfl,rfl,_,rfl,eZ (λ_=>{_,rfl,hN _ _ {xI,jh.trans xK,hs++[z],by rw[aN];rfl,λy hy=>?_,by rw[aM];exact vj lj}}) (λ_=>hN _ _ {xI,jh.trans xK,hs,rfl,sub,oG lj})}};rcases aY.mp hy with h|h
   ·exact sub y h
   ·rw[au.mp h];exact aE sf
  rintro ys H4 ⟨mJ,jh,hs,rfl,sub,lj⟩ l4 mI;have s5:aQ H4 (upd H4 l4 (.lst (hs.map V.str))):=aC mI _;have v7:upd H4 l4 (.lst (hs.map V.str)) l4=some (.lst (hs.map V.str)):=ar;generalize upd H4 l4 (.lst (hs.map V.str))=H5 at s5 v7⊢;refine Ja {_,rfl,_,_,rfl,br.of v7,λhl EA=>?_};rw[show mx (hs.map V.str) none (some 4)=(hs.take 4).map V.str by rw[show(4:Int)=((4:Nat):Int)from rfl,J5,zp]];have s6:aQ H5 (upd H5 hl (.lst ((hs.take 4).map V.str))):=aC EA _;have ot:upd H5 hl (.lst ((hs.take 4).map V.str)) hl=some (.lst ((hs.take 4).map V.str)):=ar;have xK:Ext fe H H5:=λb o n h=>s5 _ _ (nj.trans jh b o n h);have Dh:=s5 _ _ (jh _ _ pJ NH);have xI:=mJ.same s5;have Pu:=xI.qL EA;have jO:=xK.none Pu EA;have Zf:=(bc Dh EA).symm;generalize upd H5 hl (.lst ((hs.take 4).map V.str))=H6 at s6 ot⊢;have Er:cE H3 H6:=(lX.jM jh).trans (cE.of (s5.trans s6));refine{_,rfl,(by show 0<=sizeLine;decide),λe0 JM=>?_};have s7:aQ H6 (upd H6 e0 (.lst [])):=aC JM _;have h7:upd H6 e0 (.lst []) e0=some (.lst []):=ar;generalize upd H6 e0 (.lst [])=H7 at s7 h7⊢;have B9:=s6.trans s7;have EK:Ext fe H H7:=λb o n h=>B9 _ _ (xK b o n h);have AO:=xI.same B9;have aaj:=bR.keep (Er.trans (cE.of s7)) Ju;refine{hl,e0,_,rfl,rfl,br.of (s7 _ _ ot),br.of h7,_,rfl,eZ (λ_=>?_) (λ_=>?_)}
  ·refine{_,rfl,Ja {_,rfl,_,_,rfl,br.of (B9 _ _ (s5 _ _ (jh _ _ nul Ep))),λh8 Qy=>?_}};rw[show mx (us.map V.str) none (some 1)=(us.take 1).map V.str by rw[show(1:Int)=((1:Nat):Int)from rfl,J5,zp]];have s8:aQ H7 (upd H7 h8 (.lst ((us.take 1).map V.str))):=aC Qy _;have Jx:=B9 _ _ Dh;exact tl _ _ {_,_,_,_,_,_,_,_,_,_,mE,h8,jv,ats,us.take 1,rfl,pJ,s8 _ _ Jx,bR.keep (cE.of s8) aaj,g6,l3,gj,AO.qL Qy,(bc Jx Qy).symm,EK.none (AO.qL Qy) Qy,ar,by rw[aU];lia,λz h=>by rw[Eo];exact eE h,AO.same s8,λb o n h=>s8 _ _ (EK b o n h)}
  ·exact tl _ _ {_,_,_,_,_,_,_,_,_,_,mE,hl,jv,ats,hs.take 4,rfl,pJ,B9 _ _ Dh,aaj,g6,l3,gj,Pu,Zf,jO,s7 _ _ ot,by rw[aU];lia,λz h=>by rw[Eo];exact sub z (eE h),AO,EK}
 ·rintro Z H2 ⟨x2,x3,x4,x5,x6,x7,x9,y3,y0,mE,jv,ats,rfl,pJ,Um,GC,j4,g6,l1',l2,kT,ox⟩;refine{_,rfl,mE,jv,ats,rfl,GC,j4,g6,by lia,λul H3 s3 ul0 Ep=>{(by show 0<=sizeLine;decide),λe0 JM=>?_}};have s4:aQ H3 (upd H3 e0 (.lst [])):=aC JM _;have h4:upd H3 e0 (.lst []) e0=some (.lst []):=ar;generalize upd H3 e0 (.lst [])=H4 at s4 h4⊢;have D6:=s3.trans s4;have mJ:=kT.same D6;have jh:Ext fe H H4:=λb o n h=>D6 _ _ (ox b o n h);have NG:=bR.keep (cE.of D6) j4;have AI:=D6 _ _ GC;have lt:jv.length=ats.length:=a9 j4;refine{ul,e0,_,rfl,rfl,br.of (s4 _ _ Ep),br.of h4,_,rfl,eZ (λc=>?_) (λc=>?_)}
  ·refine{_,rfl,.inl {rfl,_,br.of AI},(by show 1<=sizeLine;decide),λp1 h1=>?_};have s5:aQ H4 (upd H4 p1 (.tup [.str "?w"])):=aC h1 _;have h5:upd H4 p1 (.tup [.str "?w"]) p1=some (.tup [.str "?w"]):=ar;generalize upd H4 p1 (.tup [.str "?w"])=H5 at s5 h5⊢;refine{(by show 2<=sizeLine;decide),λp2 h2=>?_};have s6:aQ H5 (upd H5 p2 (.tup [.str "rs",.ref p1])):=aC h2 _;have h6:upd H5 p2 (.tup [.str "rs",.ref p1]) p2=some (.tup [.str "rs",.ref p1]):=ar;generalize upd H5 p2 (.tup [.str "rs",.ref p1])=H6 at s6 h6⊢;have vP:=s5.trans s6;have S3:=vP _ _ AI;have sj:=mJ.same vP;have qp:Ext fe H H6:=λb o n h=>vP _ _ (jh b o n h);have t7:cE H6 (upd H6 mE (.lst (jv++[.ref p2]))):=(cE.refl H6).lst S3 _;have e0':eP (cZ ats)=[]:=by
    cases e:eP (cZ ats)with
    |nil=>rfl
    |cons z r=>rw[e]at c;cases c
   refine{_,_,_,rfl,rfl,S3,bN ∅,tl _ _ {_,_,_,_,_,_,_,_,_,mE,jv++[.ref p2],ats++[wAt],rfl,pJ,ar,Paired.Hg (bR.keep ((cE.of vP).trans t7) NG) {p2,p1,rfl,t7 _ _ h6,t7 _ _ (s6 _ _ h5)},λa ha=>?_,by rw[aM];exact vj l2,{ats,[wAt],rfl,λa ha z il=>?_,by decide},sj.lst S3 pJ _,qp.own Um _}}
   ·rcases aY.mp ha with h|h
    ·exact g6 a h
    ·rw[au.mp h];exact{by decide+kernel,by decide,by decide,λz il=>by rw[au.mp il];decide+kernel}
   ·cases e:isUnk z with
    |false=>rfl
    |true=>
     have:z∈eP (cZ ats):=CI.mpr {e,sv.mpr ⟨a,ha,il⟩};rw[e0']at this;cases this
  ·exact tl _ _ {_,_,_,_,_,_,_,_,_,mE,jv,ats,rfl,pJ,AI,NG,g6,by lia,{[],ats,rfl,λa ha=>(by cases ha),l2},mJ,jh}
 ·rintro Z H2 ⟨x2,ta,jv,ats,rfl,tm,j4,g6,l1',l2,kT,ox⟩;refine{(by show 4<=sizeLine;decide),λnp Vd=>?_};have nnp:=kT.qL Vd;have s3:aQ H2 (upd H2 np (.lst (iX.map V.str))):=aC Vd _;have aau:upd H2 np (.lst (iX.map V.str)) np=some (.lst (iX.map V.str)):=ar;have el:iX.map V.str=[V.str "?x",.str "?y",.str "?z",.str "?x1"]:=rfl;rw[<-el];generalize upd H2 np (.lst (iX.map V.str))=H3 at s3 aau⊢;have lX:=kT.same s3;have nj:Ext fe H H3:=λb o n h=>s3 _ _ (ox b o n h);refine{_,rfl,fe,4,rfl,lX,by decide,by decide,λtn H4 a0 a1 mJ jh=>λrd Md=>?_};have Y6:=mJ.qL Md;have aaP:=nj.trans jh;have rd0:=aaP.none Y6 Md;have NQ:=jh _ _ nnp aau;have aeb:=lX.jM jh _ _ (s3 _ _ tm);have adj:=(cE.of s3).trans (lX.jM jh);have nrn:np≠rd:=bc NQ Md;have s5:aQ H4 (upd H4 rd (.dK [])):=aC Md _;have aaq:upd H4 rd (.dK []) rd=some (.dK []):=ar;generalize upd H4 rd (.dK [])=H5 at s5 aaq⊢;refine{4,rfl,by decide,by decide,EH (lo:=0) (n:=4) (λj Z H6=>∃(x7:Aan)(g:fV),Z=[some (.ref fe),some (.ref q),some x2,some (.ref ta),some (.ref np),some (.int tn),some (.ref rd),x7,none,none,none,none,none,none]/\aQ H4 H6/\H6 rd=some (.dK (gD g))/\g.length<=j/\∀p∈g,p.2∈iA) {_,[],rfl,s5,aaq,ao _,λp hp=>(by cases hp)} ?_ ?_}
  ·rintro j Z H6 D1 hj ⟨x7,g,rfl,s6,NM,lg,vg⟩ AQ _;have NP:=s6 _ _ NQ;have l4:(iX.length:Int)=4:=rfl;obtain⟨y,hy,ev⟩:=pq (zs:=iX) (i:=(0+(j:Int)+tn) % 4) ∅ ∅;obtain⟨z,_,ev2⟩:=pq (zs:=iX) (i:=0+(j:Int)) ∅ ∅;refine{_,rfl,_,rfl,_,rfl,_,_,rfl,rfl,_,_,rfl,rfl,by decide,_,_,_,_,rfl,rfl,br.of NP,ev,_,rfl,_,rfl,_,rfl,_,_,_,_,rfl,rfl,br.of NP,ev2,rd,_,rfl,yY.k (k:=Sum.inr z) NM (by unfold gD;rw[ak];exact bN ∅),?_};rw[Wx];have lp:=Sd g z y;exact AQ _ _ {_,C3 g z y,rfl,λb u e=>by rw[aH (bc e Md)];exact s6 _ _ e,ar,by lia,O5 vg ((by decide+kernel:∀y∈iX,y∈iA) y hy)}
  ·rintro Z H6 ⟨x7,g,rfl,s6,NM,lg,vg⟩;refine{(by show 0<=sizeLine;decide),λmE NI=>?_};have sj:=mJ.same s6;have pJ:=sj.qL NI;have qp:Ext fe H H6:=λb o n h=>s6 _ _ (aaP b o n h);have Um:=qp.none pJ NI;have nrt:rd≠mE:=bc NM NI;have s7:aQ H6 (upd H6 mE (.lst [])):=aC NI _;have Jx:upd H6 mE (.lst []) mE=some (.lst []):=ar;generalize upd H6 mE (.lst [])=H7 at s7 Jx⊢;have aap:cE H2 H7:=adj.trans (cE.of (s6.trans s7));have ltv:jv.length=ats.length:=a9 j4;refine{_,rfl,ta,rfl,{_,bf.of (aap _ _ tm)},JV (K:=K) (a:=ta) (xs:=jv) (λi Z H8=>∃(x9 y3 y0:Aan)(sN:Aam)(DH:R0),Z=[some (.ref fe),some (.ref q),some x2,some (.ref ta),some (.ref np),some (.int tn),some (.ref rd),x7,some (.ref mE),x9,y3,y0,none,none]/\cE H2 H8/\H8 rd=some (.dK (gD g))/\H8 mE=some (.lst sN)/\bR H8 sN DH/\DH.length=i/\oM DH/\fG K fe H8/\Ext fe H H8) {_,_,_,[],[],rfl,aap,s7 _ _ NM,Jx,.nil,rfl,λa ha=>(by cases ha),sj.same s7,λb o n h=>s7 _ _ (qp b o n h)} (λi Z H8 _ hq=>by(obtain⟨_,_,_,_,_,_,t8,_⟩:=hq;exact bf.of (t8 _ _ tm))) ?_ ?_}
   ·rintro i x Z H8 D1 hx ⟨x9,y3,y0,sN,DH,rfl,t8,Fw,Jw,NF,li,g8,Cy,tw⟩ AQ _;obtain⟨a,ha,p,t,rfl,hp,ht'⟩:=Paired.at j4 hx;obtain⟨an,al1,al3,att⟩:=g6 a (aE ha);have cw:i<ats.length:=(aw.mp ha).1;have lt':sN.length=i:=by rw[<-li];exact a9 NF
    have Cs:=t8 _ _ ht';refine{p,_,rfl,bf.of (t8 _ _ hp),rfl,_,_,rfl,_,_,rfl,rfl,?_};refine{_,rfl,t,rfl,{_,bf.of Cs},yJ (K:=K) (a:=t) (xs:=a.2.map V.str) (λi ys H9=>H9=H8/\i<=a.2.length/\ys=((a.2.take i).map (mv g)).map V.str) (by rw[ak];exact bN ∅) {rfl,aR _,rfl} ?_ ?_ ?_}
    ·rintro i ys H9 hi ⟨rfl,_,rfl⟩;refine{bf.of Cs,?_};rw[ak,ak,aU];lia
    ·rintro i x ys H9 N hc ⟨rfl,hi,rfl⟩ hN;obtain⟨z,il,rfl⟩:=jj hc;have cw:i<a.2.length:=(aw.mp il).1;refine pH ?_;refine{_,rfl,rd,rfl,.inl {_,.inl Fw},_,rfl,_,rfl,_,oK.k (k:=Sum.inr z) Fw,?_};have e:(d7 (gD g) (Sum.inr z:Key)).getD (.str z)=.str (mv g z):=by rw[E6];unfold mv;cases Jh g z<;>rfl
     rw[e];refine hN _ _ {rfl,cw,?_};rw[bg,il,aN,aN];rfl
    rintro ys H9 ⟨rfl,_,rfl⟩ ml Qr;rw[ak,bh];have Zw:(a.2.map (mv g)).length=a.2.length:=ak _;have XY:∀z∈a.2.map (mv g),z∈iA:=λz il=>by obtain⟨y,hy,rfl⟩:=aJ.mp il;exact W7 vg (att y hy)
    generalize a.2.map (mv g)=ms at Zw XY;have kF:aQ H9 (upd H9 ml (.lst (ms.map V.str))):=aC Qr _;have Hn:upd H9 ml (.lst (ms.map V.str)) ml=some (.lst (ms.map V.str)):=ar;have Pt:=Cy.qL Qr;have ml0:=tw.none Pt Qr;have nmt:ml≠mE:=(bc Jw Qr).symm;have nmr:ml≠rd:=(bc Fw Qr).symm;generalize upd H9 ml (.lst (ms.map V.str))=Bt at kF Hn⊢;have Ts:=Cy.same kF;have fin:∀(zc:Aaf)(HA:Hp),zc.length=a.2.length->(∀z∈zc,z∈iA)->fG K fe HA->Ext fe H HA->cE H9 HA->HA rd=some (.dK (gD g))->HA mE=some (.lst sN)->∀tt,HA tt=none->∀ap,upd HA tt (.tup (zc.map V.str)) ap=none->upd (upd HA tt (.tup (zc.map V.str))) ap (.tup [.str a.1,.ref tt]) mE=some (.lst sN)/\D1.nx [some (.ref fe),some (.ref q),some x2,some (.ref ta),some (.ref np),some (.int tn),some (.ref rd),x7,some (.ref mE),some (.str a.1),some (.ref t),some (.ref ml),none,none] (upd (upd (upd HA tt (.tup (zc.map V.str))) ap (.tup [.str a.1,.ref tt])) mE (.lst (sN++[.ref ap]))):=λzc HA lm vm hFA exA tA hrA adi tt sZ ap uU=>by
     have sB:=aC sZ (.tup (zc.map V.str));have sC:=aC uU (.tup [.str a.1,.ref tt]);have OT:=sB.trans sC;have Jv:=OT _ _ adi;have tD:cE (upd (upd HA tt (.tup (zc.map V.str))) ap (.tup [.str a.1,.ref tt])) (upd (upd (upd HA tt (.tup (zc.map V.str))) ap (.tup [.str a.1,.ref tt])) mE (.lst (sN++[.ref ap]))):=(cE.refl _).lst Jv _;have t9D:=(tA.trans (cE.of OT)).trans tD;refine{Jv,AQ _ _ {_,_,_,sN++[.ref ap],DH++[(a.1,zc)],rfl,t8.trans t9D,?_,ar,Paired.Hg (bR.keep t9D NF) {ap,tt,rfl,tD _ _ ar,tD _ _ (sC _ _ ar)},by rw[aM,li];rfl,λb hb=>?_,(hFA.same OT).lst Jv pJ _,(show Ext fe H _ fromλb o n h=>OT _ _ (exA b o n h)).own Um _}}
     ·rw[aH nrt];exact OT _ _ hrA
     ·rcases aY.mp hb with h|h
      ·exact g8 b h
      ·rw[au.mp h];exact{an,by show 1<=zc.length;lia,by show zc.length<=3;lia,vm}
    refine{_,rfl,fe,6,rfl,Ts,by decide,by decide,λi11 zr b0 b1 aaK Dq=>{rfl,_,rfl,eZ (λ_=>?_) (λ_=>?_)}}
    ·refine{_,rfl,_,rfl,_,rfl,_,_,rfl,.inl {_,br.of (Dq _ _ Pt Hn),rfl},fe,_,rfl,aaK,by rw[ak];lia,by rw[ak];lia,λi12 MI c0 c1 adK N6=>?_};rw[ak]at c1;have QV:=Dq.trans N6;have Td:=QV _ _ Pt Hn;have Jv:=QV _ _ pJ (kF _ _ Jw);have Q2:upd MI ml (.lst ((ms.map V.str).set i12.toNat (.str "?w"))) ml=some (.lst ((ms.set i12.toNat "?w").map V.str)):=by rw[ar,List.map_set]
     have aam:upd MI ml (.lst ((ms.map V.str).set i12.toNat (.str "?w"))) mE=some (.lst sN):=by rw[aH nmt.symm];exact Jv
     refine{ml,_,_,i12.toNat,rfl,rfl,Td,by unfold Gx;rw[aA c0,aA (by rw[ak];exact c1)],?_};refine{_,rfl,.inl {rfl,_,br.of aam},_,rfl,_,rfl,ml,_,rfl,.inl {br.of Q2,λtt sZ=>{(by show 2<=sizeLine;decide),λap uU=>?_}}};obtain⟨h1,h2⟩:=fin (ms.set i12.toNat "?w") (upd MI ml (.lst ((ms.map V.str).set i12.toNat (.str "?w")))) (by rw[List.length_set];exact Zw) (λz il=>(List.mem_or_eq_of_mem_set il).elim (XY z) λe=>by rw[e];decide+kernel) (adK.lst Td Pt _) (((show Ext fe H Bt fromλb o n h=>kF _ _ (tw b o n h)).trans QV).own ml0 _) (((cE.of kF).trans (Ts.jM QV)).lst Td _) (by rw[aH nmr.symm];exact QV _ _ Y6 (kF _ _ Fw)) aam tt sZ ap uU;exact{_,_,_,rfl,rfl,h1,bN ∅,h2}
    ·have aal:=Dq _ _ pJ (kF _ _ Jw);refine{_,rfl,.inl {rfl,_,br.of aal},_,rfl,_,rfl,ml,_,rfl,.inl {br.of (Dq _ _ Pt Hn),λtt sZ=>{(by show 2<=sizeLine;decide),λap uU=>?_}}};obtain⟨h1,h2⟩:=fin ms zr Zw XY aaK ((show Ext fe H Bt fromλb o n h=>kF _ _ (tw b o n h)).trans Dq) ((cE.of kF).trans (Ts.jM Dq)) (Dq _ _ Y6 (kF _ _ Fw)) aal tt sZ ap uU;exact{_,_,_,rfl,rfl,h1,bN ∅,h2}
   ·rintro Z H8 ⟨x9,y3,y0,sN,DH,rfl,t8,Fw,Jw,NF,li,g8,Cy,tw⟩;exact tl _ _ {_,_,_,_,_,_,_,_,_,mE,sN,DH,rfl,pJ,Um,Jw,NF,g8,by lia,by lia,Cy,tw}
 ·refine{_,rfl,_,rfl,_,_,_,_,rfl,rfl,bf.of hq,rfl,_,_,rfl,.inr {_,bf.of xH,rfl},fe,_,rfl,hF,by lia,by lia,λi0 H1 a0 a1 Vv Ms=>?_};have t1:=hF.jM Ms;refine{_,rfl,_,_,_,_,rfl,rfl,bf.of (t1 _ _ hq),rfl,_,rfl,_,rfl,_,rfl,_,_,rfl,rfl,_,rfl,fe,2,rfl,Vv,by decide,by decide,λi2 H2 b0 b1 kT ox=>{_,_,rfl,rfl,_,rfl,Yy ((hF.jM (Ms.trans ox)) _ _ xH) λpt H3 s3 hpt=>?_}};have N6:=Ms.trans ox;have lX:=kT.same s3;have nj:Ext fe H H3:=λb o n h=>s3 _ _ (N6 b o n h);obtain⟨n0,rfl⟩:∃n:Nat,i0=n:={i0.toNat,by lia};obtain⟨n2,rfl⟩:∃n:Nat,i2=n:={i2.toNat,by lia};have ec:mx ir (some (n0:Int)) (some ((n0:Int)+1+(n2:Int)))=(ir.drop n0).take (1+n2):=by
   rw[show(n0:Int)+1+(n2:Int)=((n0+1+n2:Nat):Int) by lia];unfold mx;rw[HT.Fh,HT.Fh,mO (show n0<=ir.length by lia)];by_cases c:n0+1+n2<=ir.length
   ·rw[mO c,show n0+1+n2 -n0=1+n2 by lia]
   ·rw[Nat.min_eq_right ∅,eI (by rw[jT];lia),eI (by rw[jT];lia)]
  rw[ec]at hpt;have Ju:bR H3 ((ir.drop n0).take (1+n2)) ((bz.drop n0).take (1+n2)):=bR.keep ((hF.jM N6).trans (cE.of s3)) (Ng ix n0 (1+n2));have ZF:1<=((bz.drop n0).take (1+n2)).length/\((bz.drop n0).take (1+n2)).length<=2:=by rw[aU,jT];lia
  have g3:oM ((bz.drop n0).take (1+n2)):=λa ha=>a6 a (List.mem_of_mem_drop (eE ha));generalize (ir.drop n0).take (1+n2)=jv at hpt Ju;generalize (bz.drop n0).take (1+n2)=ats at Ju ZF g3;refine{_,rfl,fe,4,rfl,lX,by decide,by decide,λi4 H4 c0 c1 mJ jh=>{rfl,_,rfl,eZ (λ_=>?_) (λ_=>?_)}}
  ·refine{_,rfl,fe,2,rfl,mJ,by decide,by decide,λr hz5 adU H5 xI xK acO m1 m2 g5=>?_};obtain⟨q5,hd5,aa5,adS,e5,hq5,aei,adI,abT⟩:=acO;cases e5;exact{_,_,_,_,rfl,rfl,bf.of hq5,rfl,tl _ _ {_,aa5,adS,adU,rfl,adI,abT,g5,m1,by lia,xI,(nj.trans jh).trans xK}}
  ·have t4:=lX.jM jh;exact tl _ _ {_,pt,jv,ats,rfl,t4 _ _ hpt,bR.keep t4 Ju,g3,ZF.1,ZF.2,mJ,nj.trans jh}
def Dm{f:Addr}{H H1 H2:Hp}(s:aQ H H1)(n:H f=none)(e:Ext f H1 H2):aQ H H2:=λb o h=>e b o (bc h n) (s _ _ h)
end
inductive HL(K:Frag)(vs:Aam)(H:Hp)(Q:VK)(_x3:XK):Prop
 |mk (a:Addr) (ns:List Int) (first:Int) (v:V) (hz:Aaf) (bz:R0) (_:vs=[.ref a,.int first,v]) (_:CG K H a (ns.map V.int)) (_:ns.length<=63) (_:0<=first) (_:wg H v hz bz) (_:1<=bz.length) (_:bz.length<=5) (_:oM bz) (_:∀(l:Addr)(iJ:Aam)(xs:List View)(H':Hp),aQ H H'->H l=none->H' l=some (.lst iJ)->Paired (yP H') iJ xs->(∀x∈xs,EZ bz x/\PyData.strOk x.1=true)->xs.length<=4->Q (.ref l) H')
noncomputable def rU:Aaf:=["v","vv","r","w1"]
section
variable{P:Program}{w:World}{K:Frag}{mg:Aab}{base:Heap}
def CG.same{H H':Hp}{a:Addr}{xs:Aam}(h:CG K H a xs)(s:aQ H H'):CG K H' a xs:=by
 rcases h with⟨ob,h⟩|h
 ·exact .inl {ob,s _ _ h}
 ·exact .inr h
structure Dvs(P:Program)(w:World)(K:Frag)(mg:Aab)(base:Heap):Prop where
 fS:cR P w K mg base 1 "_law_take" ["_law_box_here","_law_many"] (zQ K)
 Hl:cR P w K mg base 2 "_law_box" ["_law_script","_law_k"] (MU K)
 ZC:cR P w K mg base 4 "_law_view" ["_law_box_here","_law_question_here"] (Lu K)
def pU:cv ["_law_script","_law_first","_law_question_here","_law_names","_law_box_here","_law_many","_law_turn"] ["_law_script","_law_first","_law_question_here"] (defScope Aa):=iO (by decide+kernel)
def Ph{f:Addr}{fd:FuncData}(F:eX K "_law_views" "_law_views" Aa f fd)(T:Txt K mg)(D:Dvs P w K mg base):cU P w K mg base fm 5 f fd ["_law_script","_law_first","_law_question_here"] (HL K):=by
 refine F.ok pU (λ_ _ _ _ h=>by cases h;subst_vars;rfl) (λc6 A outer s H vs Q E hr h=>?_);obtain⟨a,ns,first,v,hz,bz,rfl,ha,ln,f0,hq,l1,l5,a6,k⟩:=h;refine{_,(aK (pX (i:=3) pU.nd rfl (Or.inr rfl) (fq (jc dj (uI dj dj dj)))) (aK (d8 4 pU (cl D.Hl hr (cD (pv 0) (pv 1)))) (aK (d8 5 pU (dB iC aS (cl D.fS hr (cD (pv 4) aS)))) (aK (pX (i:=6) pU.nd rfl (Or.inr rfl) (cl D.fS hr (cD (pv 4) aS))) (aT (b8 (kg rfl (dO (fs:=["_law_names","_law_turn","_law_script","_law_first","_law_question_here"]) (fr:=[3,6,0,1,2])) (kZ rfl T.pK (b5 (pv 5))) (λ_ _ _ _=>(dX (cD (cB (SV (K:=K)) (pv 1) (dB oR (dB iC (pv 0) (pv 2)) aS) (λ_ _=>rfl)) (cl D.ZC hr (cD (cl D.Hl hr (cD (pv 3) (dB iC (dB iC (pv 4) aS) (pv 0)))) (pv 5))))))))))))),?_}
 refine{(by show 4<=sizeLine;decide),λnp Vd=>?_};have s1:aQ H (upd H np (.lst (rU.map V.str))):=aC Vd _;have aav:upd H np (.lst (rU.map V.str)) np=some (.lst (rU.map V.str)):=ar;have el:rU.map V.str=[V.str "v",.str "vv",.str "r",.str "w1"]:=rfl;rw[<-el];generalize upd H np (.lst (rU.map V.str))=H1 at s1 aav⊢;refine{_,rfl,_,rfl,a,ns,first,rfl,ha.same s1,ln,f0,λfe H2 kT s2 fe0=>?_};refine{_,rfl,fe,4,rfl,kT,by decide,by decide,λi3 H3 a0 a1 lX nj=>{_,_,rfl,rfl,?_}};refine{_,rfl,fe,4,rfl,lX,by decide,by decide,λtn H4 b0 b1 mJ jh=>?_};have s14:aQ H1 H4:=Dm s2 fe0 (nj.trans jh);have lR:=s1.trans s14;have NQ:=s14 _ _ aav;refine{_,rfl,_,rfl,by lia,by lia,λj m ys H5=>j<=(1+i3).toNat/\m=(1+i3).toNat -j/\aQ H4 H5/\∃xs:List View,Paired (yP H5) ys xs/\xs.length=j/\∀x∈xs,EZ bz x/\PyData.strOk x.1=true,{_,aR _,rfl,aQ.refl _,[],.nil,rfl,λx hx=>(by cases hx)},?_};rintro j m ys H5 ⟨hj,rfl,s5,xs,Qg,lx,vk⟩;have ly:ys.length=j:=by rw[<-lx];exact a9 Qg
 have qK:=lR.trans s5;by_cases cw:j<(1+i3).toNat
 ·refine .inr {cw,by rw[ly];exact bN ∅,?_};rintro u H6 ⟨rfl,rfl⟩;refine pH ?_;have l4:(rU.length:Int)=4:=rfl;obtain⟨nm,hnm,ev⟩:=pq (zs:=rU) (i:=(0+(j:Int)+tn) % 4) ∅ ∅;have nok:PyData.strOk nm=true:=(by decide+kernel:∀y∈rU,PyData.strOk y=true) nm hnm;have NP:=s5 _ _ NQ;refine{_,rfl,_,rfl,_,rfl,_,_,rfl,rfl,_,_,rfl,rfl,by decide,_,_,_,_,rfl,rfl,br.of NP,ev,_,rfl,_,rfl,_,_,rfl,rfl,_,rfl,_,_,rfl,rfl,a,ns,first+1+(0+(j:Int)),rfl,ha.same qK,ln,by lia,λfb H7 AO s7 fb0=>{_,rfl,fb,v,hz,bz,rfl,AO,hq.keep (cE.of (qK.trans s7)),l1,l5,a6,λr il ats H8 Cy tw Qp g6 l3 lh hh gj=>{(by show 2<=sizeLine;decide),λp hp=>?_}}};have s8:aQ H6 H8:=Dm s7 fb0 tw;have s9:aQ H8 (upd H8 p (.tup [.str nm,.ref r])):=aC hp _;refine{(1+i3).toNat -(j+1),by lia,cw,rfl,s5.trans (s8.trans s9),xs++[(nm,il,ats)],Paired.Hg (Paired.imp' (λ_ _ h=>h.keep (cE.of (s8.trans s9))) Qg) {p,.ref r,rfl,ar,Qp.keep (cE.of s9)},by rw[aM,lx];rfl,λx hx=>?_};rcases aY.mp hx with h|h
  ·exact vk x h
  ·rw[au.mp h];exact{XX l5 g6 l3 lh hh gj,nok}
 ·refine .inl {by show(1+i3).toNat<=j;lia,by rw[ly];exact bI (bN ∅),λl hl=>?_};have s6:=aC hl (.lst ys);exact k l ys xs _ (qK.trans s6) (qK.free hl) ar (Paired.imp' (λ_ _ h=>h.keep (cE.of s6)) Qg) vk ∅
def dA(a:Str×Aaf):PyData:=.tuple [.str a.1,.tuple (a.2.map PyData.str)]
def dV(x:View):PyData:=.tuple [.str x.1,.tuple [.tuple (x.2.1.map PyData.str),.tuple (x.2.2.map dA)]]
theorem J0{H:Hp}:∀{vs:Aam}{ats:R0},bR H vs ats->kJ K H (ats.map dA) vs
 |_,_,.nil=>by rw[jS,kJ]
 |_,_,.cons ⟨p,t,e,hp,ht⟩ r=>by rw[bo,kJ];refine{_,_,rfl,?_,J0 r};simp only[dA,Dt,kJ];exact{p,_,e,bf.of hp,_,_,rfl,rfl,_,_,rfl,{t,_,rfl,bf.of ht,yD _},rfl}
theorem JZ{H:Hp}:∀{vs:Aam}{xs:List View},Paired (yP H) vs xs->kJ K H (xs.map dV) vs
 |_,_,.nil=>by rw[jS,kJ]
 |_,_,.cons ⟨p,q,e,hp,q2,hd,aa,ir,e2,Mf,GI,xH,ix⟩ t=>by rw[bo,kJ];refine{_,_,rfl,?_,JZ t};subst e2;simp only[dV,Dt,kJ];exact{p,_,e,bf.of hp,_,_,rfl,rfl,_,_,rfl,{q2,_,rfl,bf.of Mf,_,_,rfl,{hd,_,rfl,bf.of GI,yD _},_,_,rfl,{aa,_,rfl,bf.of xH,J0 ix},rfl},rfl}
theorem LX:∀{ats:R0},Good ats->PyData.canLayAll0 (ats.map dA)=true/\PyData.depthAll (ats.map dA)<=10
 |[],_=>{rfl,by simp[PyData.depthAll]}
 |a::r,g=>by obtain⟨h1,h2⟩:=LX (ats:=r) λb hb=>g b (az _ hb);obtain⟨_,g2,_,g4⟩:=g a ay;have h3:=Dg a.2 λz hz=>(g2 z hz).2.2;have h4:=yG a.2;refine{by simp[dA,PyData.canLayAll0,PyData.canLay0,h1,h3,g4.2.2],?_};simp only[dA,bo,PyData.depthAll,PyData.depth];lia
theorem LW{bz:R0}:∀{xs:List View},(∀x∈xs,EZ bz x/\PyData.strOk x.1=true)->PyData.canLayAll0 (xs.map dV)=true/\PyData.depthAll (xs.map dV)<=20
 |[],_=>{rfl,by simp[PyData.depthAll]}
 |x::r,g=>by obtain⟨h1,h2⟩:=LW (xs:=r) λb hb=>g b (az _ hb);obtain⟨vk,ok⟩:=g x ay;obtain⟨h5,h6⟩:=LX vk.good;have h3:=Dg x.2.1 λz hz=>(vk.bw.2 z hz).1.2.2;have h4:=yG x.2.1;refine{by simp[dV,PyData.canLayAll0,PyData.canLay0,h1,h3,h5,ok],?_};simp only[dV,bo,PyData.depthAll,PyData.depth];lia
def Ia{bz:R0}{xs:List View}(g:∀x∈xs,EZ bz x/\PyData.strOk x.1=true):SeqAt.shaped (.list (xs.map dV))=true/\PyData.eqv (.list (xs.map dV)) (.list (xs.map dV))=true:=by
 obtain⟨h1,h2⟩:=LW g;have h3:(PyData.list (xs.map dV)).canLay0=true:=by simp[PyData.canLay0,h1]
 refine{?_,PySem.SeqAt.eqv_refl _ h3};unfold SeqAt.shaped;rw[h3,jt];refine aX ?_;simp only[PyData.depth];lia
theorem Kj{H:Hp}:∀zs:Aaf,Paired (xT K 0 H) (zs.map V.str) (zs.map V.str)
 |[]=>.nil
 |z::r=>.cons ⟨z,rfl,rfl⟩ (Kj r)
theorem FR{H:Hp}:∀{us vs:Aam}{cs:R0},ju K H us cs->ju K H vs cs->(∀a∈cs,a.2.length<=4)->Paired (xT K 2 H) us vs
 |_,_,[],h1,h2,_=>by cases h1;cases h2;exact .nil
 |_,_,a::cs,h1,h2,l=>by
  cases h1 with
  |cons x1 t1=>
   cases h2 with
   |cons x2 t2=>
    obtain⟨b1,c1,rfl,p1,q1⟩:=x1;obtain⟨b2,c2,rfl,p2,q2⟩:=x2;have l4:=l a ay;exact .cons (.inr {b1,b2,_,_,rfl,rfl,.inl ⟨p1,p2⟩,.cons (xT.str a.1) (.cons (.inr {c1,c2,_,_,rfl,rfl,.inl ⟨q1,q2⟩,Kj _,by rw[ak];lia}) .nil),(by show 2<=100000;decide)}) (FR t1 t2 λb hb=>l b (az _ hb))
theorem Kd{bz:R0}:∀{xs:List View}{cs:R0},jV bz xs cs->(∀x∈xs,EZ bz x)->∀a∈cs,a.2.length<=4
 |[],_,h,_,a,ha=>by rw[show _=_ from h]at ha;cases ha
 |x::xs,_,⟨rows,cs',i,e,h⟩,vk,a,ha=>by
  rw[e]at ha;rcases aY.mp ha with q|q
  ·obtain⟨r,hr,rfl⟩:=aJ.mp q;obtain⟨g,_,e2⟩:=(i.2.2 r).mp hr;show r.length<=4;rw[e2,ak];exact(vk x ay).bw.1
  ·exact Kd h (λy hy=>vk y (az _ hy)) a q
inductive HR(K:Frag)(vs:Aam)(H:Hp)(Q:VK)(_x3:XK):Prop
 |mk (vl:Addr) (v:V) (iJ:Aam) (xs:List View) (hz:Aaf) (bz:R0) (_:vs=[.ref vl,v]) (_:H vl=some (.lst iJ)) (_:Paired (yP H) iJ xs) (_:(∀x∈xs,EZ bz x/\PyData.strOk x.1=true)) (_:xs.length<=4) (_:wg H v hz bz) (_:bz.length<=5) (_:(∀a∈bz,ki a.2/\PyData.strOk a.1=true)) (_:∀H',aQ H H'->Q (.bl true) H')
structure Drt(P:Program)(w:World)(K:Frag)(mg:Aab)(base:Heap):Prop where
 Jj:cR P w K mg base 3 "_law_candidates" ["_law_views_here","_law_question_here"] (Lw K)
 candidates:cR P w K mg base 9 "candidates" ["views","question"] (Fb K)
 xu:cR P w K mg base 5 "_law_same" ["_law_found","_law_due"] (HQ K 3)
def tT:cv ["_law_views_here","_law_question_here","_law_due","_law_handed","_law_found"] ["_law_views_here","_law_question_here"] (defScope Ab):=iO (by decide+kernel)
def Pj{f:Addr}{fd:FuncData}(F:eX K "_law_right" "_law_right" Ab f fd)(T:Txt K mg)(D:Drt P w K mg base):cU P w K mg base fm 10 f fd ["_law_views_here","_law_question_here"] (HR K):=by
 refine F.ok tT (λ_ _ _ _ h=>by cases h;subst_vars;rfl) (λc6 A outer s H vs Q E hr h=>?_);obtain⟨vl,v,iJ,xs,hz,bz,rfl,Cr,AG,zL,lx,hq,l5,gr,k⟩:=h;have lv:iJ.length=xs.length:=a9 AG;refine{_,(aK (d8 2 tT (cl D.Jj hr (cD (pv 0) (pv 1)))) (aK (d8 3 tT (da u0 rfl T.rY (by decide+kernel) (b5 (pv 0)))) (aK (d8 4 tT (cl D.candidates hr (cD (pv 3) (pv 1)))) (aK (fh (PW.pt (Hi (D9 (oP (cl D.xu hr (cD (pv 4) (pv 2))))) (D8 (c7 (YY (cL (zD (by decide) _) (XZ hr))) (pv 3) (pv 0) (dG _))))) (aT (b8 yo)) dh) (aK (iW (lG b9 dJ dH k7 (pv 4) (b5 (dX (cD dj (dX (b5 dj))))))) (aK (iW (Pb b9 PySem.F.slot_list_clear PySem.F.type_list_clear SI (pv 3))) (aT (b8 (cl D.xu hr (cD (cl D.candidates hr (cD (da u0 rfl T.rY (by decide+kernel) (b5 (pv 0))) (pv 1))) (pv 2))))))))))),?_}
 refine{_,rfl,_,rfl,vl,v,iJ,xs,hz,bz,rfl,Cr,AG,zL,by lia,hq,l5,gr,λdl dz cs H1 s1 VE hdl hdc ZU ld=>?_};have cl:=Kd ZU λx hx=>(zL x hx).1;refine{_,rfl,vl,_,rfl,.inl (br.of (s1 _ _ Cr)),λhl EA=>?_};have s2:aQ H1 (upd H1 hl (.lst iJ)):=aC EA _;have ip:upd H1 hl (.lst iJ) hl=some (.lst iJ):=ar;generalize upd H1 hl (.lst iJ)=H2 at s2 ip⊢;have oo:=s1.trans s2;refine{_,rfl,_,rfl,hl,v,iJ,xs,hz,bz,rfl,br.of ip,Paired.imp' (λ_ _ h=>h.keep (cE.of oo)) AG,λx hx=>(zL x hx).1,by lia,hq.keep (cE.of oo),l5,λa ha=>(gr a ha).1,λfl fz cs2 H3 s3 QS EC hfc ic2 lf=>?_};obtain rfl:=ic2.one ZU;have pG:=oo.trans s3;have Ca:=s2.trans s3;refine{_,rfl,_,rfl,_,_,rfl,.inr {fl,dl,fz,dz,rfl,rfl,.inr {EC,Ca _ _ hdl},FR hfc (ju.same hdc Ca) cl,by lia},λH4 s4=>?_};obtain⟨sh,ev⟩:=Ia zL;have lR:=pG.trans s4;have D6:=s3.trans s4;have d4:=JZ (K:=K) (Paired.imp' (λ_ _ h=>h.keep (cE.of lR)) AG);refine{_,rfl,uS {_,rfl,_,rfl,.list (xs.map dV),.list (xs.map dV),(by rw[Dt];exact{hl,iJ,rfl,br.of (D6 _ _ ip),d4}),(by rw[Dt];exact{vl,iJ,rfl,br.of (lR _ _ Cr),d4}),sh,sh,_,rfl,eZ (λc=>absurd c (by rw[ev];decide)) (λ_=>?_)}};have aaI:=s4 _ _ EC;refine{_,rfl,.inl {rfl,_,br.of aaI},(by show 1<=sizeLine;decide),λp1 h1=>?_};have s5:aQ H4 (upd H4 p1 (.tup [.str "?x"])):=aC h1 _;generalize upd H4 p1 (.tup [.str "?x"])=H5 at s5⊢;refine{(by show 2<=sizeLine;decide),λp2 h2=>?_};have s6:aQ H5 (upd H5 p2 (.tup [.str "v",.ref p1])):=aC h2 _;generalize upd H5 p2 (.tup [.str "v",.ref p1])=H6 at s6⊢;have s26:=D6.trans (s5.trans s6);have adC:=s6 _ _ (s5 _ _ aaI);have nfh:hl≠fl:=bc ip QS;refine{_,_,_,rfl,rfl,adC,bN ∅,?_};have s7:aQ H2 (upd H6 fl (.lst (fz++[.ref p2]))):=λb u e=>by rw[aH (bc e QS)];exact s26 _ _ e
 generalize upd H6 fl (.lst (fz++[.ref p2]))=H7 at s7⊢;have qO:=s7 _ _ ip;refine{_,rfl,.inl {rfl,_,br.of qO},hl,_,rfl,rfl,qO,?_};have s8:aQ H1 (upd H7 hl (.lst [])):=λb u e=>by rw[aH (bc e EA)];exact s7 _ _ (s2 _ _ e)
 generalize upd H7 hl (.lst [])=H8 at s8⊢;have s08:=s1.trans s8;refine{_,rfl,vl,_,rfl,.inl (br.of (s08 _ _ Cr)),λh9 hh9=>?_};have s9:aQ H8 (upd H8 h9 (.lst iJ)):=aC hh9 _;have AK:upd H8 h9 (.lst iJ) h9=some (.lst iJ):=ar;generalize upd H8 h9 (.lst iJ)=H9 at s9 AK⊢;have s09:=s08.trans s9;refine{_,rfl,h9,v,iJ,xs,hz,bz,rfl,br.of AK,Paired.imp' (λ_ _ h=>h.keep (cE.of s09)) AG,λx hx=>(zL x hx).1,by lia,hq.keep (cE.of s09),l5,λa ha=>(gr a ha).1,λfl3 fz3 cs3 Bt kF _ adD adF ic3 lf3=>?_};obtain rfl:=ic3.one ZU;have YE:=s8.trans (s9.trans kF);exact{_,rfl,_,_,rfl,.inr {fl3,dl,fz3,dz,rfl,rfl,.inr {adD,YE _ _ hdl},FR adF (ju.same hdc YE) cl,by lia},λzr s11=>k zr (s1.trans (YE.trans s11))}
end
inductive He(K:Frag)(vs:Aam)(H:Hp)(Q:VK)(_x3:XK):Prop
 |mk (a:Addr) (ns:List Int) (_:vs=[.ref a]) (_:CG K H a (ns.map V.int)) (_:ns.length<=63) (_:∀H',Q (.bl true) H')
section
variable{P:Program}{w:World}{K:Frag}{mg:Aab}{base:Heap}
structure Dlw(P:Program)(w:World)(K:Frag)(mg:Aab)(base:Heap):Prop where
 Hl:cR P w K mg base 2 "_law_box" ["_law_script","_law_k"] (MU K)
 yy:cR P w K mg base 3 "_law_question" ["_law_box_here","_law_most"] (CO K)
 Xa:cR P w K mg base 5 "_law_views" ["_law_script","_law_first","_law_question_here"] (HL K)
 Xb:cR P w K mg base 10 "_law_right" ["_law_views_here","_law_question_here"] (HR K)
 candidates:cR P w K mg base 9 "candidates" ["views","question"] (Fb K)
 xu:cR P w K mg base 5 "_law_same" ["_law_found","_law_due"] (HQ K 3)
def D0:cv ["_law_script","_law_k","_law_question_here","_law_views_here"] ["_law_script"] (defScope M4):=iO (by decide+kernel)
def Y1(F:eX K "law" "law" M4 f fd)(T:Txt K mg)(D:Dlw P w K mg base):cU P w K mg base fm 11 f fd ["_law_script"] (He K):=by
 refine F.ok D0 (λ_ _ _ _ h=>by cases h;subst_vars;rfl) (λc6 A outer s H vs Q E hr h=>?_);obtain⟨a,ns,rfl,ha,ln,k⟩:=h;refine{_,(aK (fR bO rfl (kZ rfl T.pK (b5 (dB iC aS (bP (Rn rfl) rfl T.abz (by decide+kernel) (cD aS (bP fk rfl T.jd cx (b5 (pv 0)))))))) (iZ 1 D0) (aK (d8 2 D0 (cl D.yy hr (cD (cl D.Hl hr (cD (pv 0) (pv 1))) aS))) (aK (d8 3 D0 (cl D.Xa hr (uI (pv 0) (dB iC (pv 1) aS) (pv 2)))) (aT (fh (D9 (oP (cl D.Xb hr (cD (pv 3) (pv 2))))) (aT (b8 yo)) dh))))) (aT (b8 (cl D.xu hr (cD (cl D.candidates hr (cD (fq gZ) (dX (cD (dX (b5 dj)) (dX (b5 (dX (cD dj (dX (b5 dj)))))))))) (fq gZ)))))),?_}
 have nl:(ns.map V.int).length=ns.length:=ak _;refine{_,rfl,_,_,rfl,.inl {_,ha.sq,rfl},_,_,rfl,_,_,rfl,rfl,?_};have hm:0<=(if(((ns.map V.int).length:Nat):Int)<20 then(((ns.map V.int).length:Nat):Int)else 20)/\(if(((ns.map V.int).length:Nat):Int)<20 then(((ns.map V.int).length:Nat):Int)else 20)<=20:=by split<;>lia
 generalize (if(((ns.map V.int).length:Nat):Int)<20 then(((ns.map V.int).length:Nat):Int)else 20)=m at hm⊢;refine{_,rfl,by lia,by lia,EH (lo:=0) (n:=(1+m).toNat) (λj Z H2=>∃x1 x2 x3:Aan,Z=[some (.ref a),x1,x2,x3]/\aQ H H2) {_,_,_,rfl,aQ.refl _} ?_ ?_}
 ·rintro j Z H2 D1 hj ⟨x1,x2,x3,rfl,s2⟩ AQ _;refine{_,rfl,_,rfl,a,ns,0+(j:Int),rfl,ha.same s2,ln,by lia,λfb H3 lX s3 fb0=>{fb,5,rfl,lX,by decide,by decide,λr hz bz H4 mJ jh hq l1 l5 g6=>?_}};have s4:aQ H2 H4:=Dm s3 fb0 jh;have lR:=s2.trans s4;refine{_,rfl,_,rfl,_,_,rfl,rfl,_,rfl,a,ns,0+(j:Int)+21,.ref r,hz,bz,rfl,ha.same lR,ln,by lia,hq,l1,by lia,g6,λl iJ xs H5 s5 l0 v7 Qg zL lx=>?_};refine{_,rfl,_,rfl,l,.ref r,iJ,xs,hz,bz,rfl,v7,Qg,zL,lx,hq.keep (cE.of s5),by lia,λb hb=>?_,λH6 s6=>{_,rfl,uS (AQ _ _ {_,_,_,rfl,lR.trans (s5.trans s6)})}};obtain⟨g1,g2,g3,g4⟩:=g6 b hb;exact{{g2,by lia,g4},(Zc g1).2.2}
 ·rintro Z H2 ⟨x1,x2,x3,rfl,s2⟩;refine{(by show 0<=sizeLine;decide),λe0 JM=>{(by show 1<=sizeLine;decide),λp1 h1=>{(by show 1<=sizeLine;decide),λp2 h2=>{(by show 2<=sizeLine;decide),λp3 h3=>{(by show 1<=sizeLine;decide),λp4 h4=>{(by show 2<=sizeLine;decide),λp5 h5=>?_}}}}}};have s1:=aC h1 (.tup [.str "?x"]);have s2':=aC h2 (.tup [.str "?x"]);have s3:=aC h3 (.tup [.str "r",.ref p2]);have s4:=aC h4 (.tup [.ref p3]);have s5:=aC h5 (.tup [.ref p1,.ref p4]);refine{e0,.ref p5,[],[],["?x"],[("r",["?x"])],rfl,br.of (s5 _ _ (s4 _ _ (s3 _ _ (s2' _ _ (s1 _ _ ar))))),.nil,λx hx=>(by cases hx),by decide,{p5,p1,p4,_,rfl,ar,s5 _ _ (s4 _ _ (s3 _ _ (s2' _ _ ar))),s5 _ _ ar,.cons {p3,p2,rfl,s5 _ _ (s4 _ _ ar),s5 _ _ (s4 _ _ (s3 _ _ ar))} .nil},by decide,λb hb=>?_,λl zs cs H3 _ _ hl qm ic _=>{(by show 0<=sizeLine;decide),λe2 Cv=>?_}}
  ·rw[au.mp hb];exact{by decide,by decide,λz hz=>by rw[au.mp hz];decide+kernel}
  ·have ic:cs=[]:=ic;rw[ic]at qm;cases qm;exact{_,_,rfl,.inr {l,e2,[],[],rfl,rfl,.inr {aC Cv _ _ _ hl,ar},.nil,aR _},λH4 _=>k H4}
end
end qE
namespace Hd
open PySem PySem.W PyProof.Rows PySem.W.Fast
abbrev pos0:Pos:={0,0,0,0}
abbrev tb:=tw14364793385576792824
abbrev an0:Aag:=some (.ref 6)
def env0(p:Program):Env:={scope:=p.main.scope,locals:=mainNs,globals:=mainNs,cells:=[],code:=.ref 13,frame:=some 14}
def cd0(p:Program):Code:=.body (behindTheImports p) (env0 p)
abbrev B0:List Frame:=[topFrame pos0]
def S0(w:World)(os:OsState):Shared:={boot_heap w.params,Array.mk [],boot_drawn,boot_toks,os}
def mkT(l:List Obj):Nat->Nat->Nat->BT
 |0,_,_=>.nil
 |f+1,a,b=>match l[b]? with
  |some o=>.node o (mkT l f (2*a) (a+b)) (mkT l f (2*a) (2*a+b))
  |none=>.nil
def toT(s:Shared):SharedT:={mkT s.heap.objs.toList 6 1 0,s.heap.objs.size,s.heap.life,s.gens,s.drawn,s.toks,s.os}
def pre(p:Program)(w:World)(os:OsState):SharedT:=match tw15667345088766844465 tb p w 11 an0 12 (S0 w os) (topStub p)with
 |some r=>toT r.1
 |none=>toT (S0 w os)
def body(p:Program)(n:Nat)(w:World)(os:OsState):Option (Flow×SharedT×Code×Pos):=
 tw10110043849684766642 tb p w 11 an0 1 n (pre p w os) (piecesOf (behindTheImports p) (env0 p) (cd0 p) pos0 B0)
def aft(p:Program)(n:Nat)(w:World)(os:OsState):SharedT:=match body p n w os with
 |some r=>r.2.1
 |none=>toT (S0 w os)
def posL(p:Program)(n:Nat)(w:World)(os:OsState):Pos:=match body p n w os with
 |some r=>r.2.2.2
 |none=>pos0
def fin(p:Program)(n:Nat)(w:World)(os:OsState):Shared:=match tw14082659384304107361 tb p w 11 an0 2 (aft p n w os).abs {doneF .next,cd0 p,posL p n w os,B0}with
 |some s=>s
 |none=>S0 w os
structure Ok(p:Program)(n:Nat):Prop where
 pre:∀w os,tw15667345088766844465 tb p w 11 an0 12 (S0 w os) (topStub p)=some ((Hd.pre p w os).abs,{tw11892475500146522536 tb (cd0 p),cd0 p,pos0,B0})
 block:∀w os,tw14374325043358763698 tb p w 11 an0 1 1 (Hd.pre p w os).abs (blockOf (behindTheImports p) (env0 p) (cd0 p) pos0 B0)=some (.next,(Hd.pre p w os).abs,cd0 p,pos0)
 body:∀w os,Hd.body p n w os=some (.next,aft p n w os,cd0 p,posL p n w os)
 fin:∀w os,tw14082659384304107361 tb p w 11 an0 2 (aft p n w os).abs {doneF .next,cd0 p,posL p n w os,B0}=some (Hd.fin p n w os)
def run(o:Ok p n)(w:World)(os:OsState):topRun treeTable p w 11 an0 (12+(1+(n+2))) (S0 w os) (topStub p)=some (fin p n w os):=by have h1:=o.pre w os;have h2:=o.block w os;have h3:=o.body w os;have h4:=o.fin w os;unfold Hd.body at h3;unfold tb at h1 h2 h3 h4;rw[<-te15667345088766844465,<-te14364793385576792824,<-te11892475500146522536]at h1;rw[<-te14374325043358763698,<-te14364793385576792824]at h2;rw[<-te10110043849684766642,<-te14364793385576792824]at h3;rw[<-te14082659384304107361,<-te14364793385576792824]at h4;have k:topRun treeTable p w 11 an0 (n+2) (Hd.pre p w os).abs (restOf (behindTheImports p++[]) (env0 p) (cd0 p) pos0 B0)=some (fin p n w os):=piece_app (segRun_of h3) (piece_nil h4);rw[cJ]at k;exact go_top h1 (piece_block h2 k)
def left(o:Ok p n)(hN:Nat.ble (12+(1+(n+2))) N=true)(he:opening p=plainProg p.main.scope.names)(h6:Nat.ble 600 N=true)(hf:∀s,fenceModules? p s=some s)
  (l1:∀w os,(staticsOk (importedModules p.main.body) (boot_heap w.params) (fin p n w os).heap&&namesBound p (fin p n w os).heap&&gensDone (fin p n w os)&&laidKept (boot_heap w.params) (fin p n w os).heap)=true)
  (l2:∀w os,openSeen q loose (importedModules p.main.body) Xt g0 (fin p n w os)=openGood q loose) (l3:∀w os,Yf (fin p n w os)=Ya w):LeftO p q loose Xt Yf Ya N g0:=λw=>by
 obtain⟨s,e,e'⟩:=bb.mp (boot_open he h6 hf w);obtain⟨os,rfl⟩:∃os,s=S0 w os:=by obtain⟨h,g,d,t,os⟩:=s;simp only[Prod.mk.injEq]at e';obtain⟨rfl,rfl,rfl,rfl⟩:=e';exact⟨os,rfl⟩
 have r:=topRun_mono (N -(12+(1+(n+2)))) _ _ _ _ (run o w os);rw[show 12+(1+(n+2))+(N -(12+(1+(n+2))))=N by have:=Nat.le_of_ble_eq_true hN;lia]at r;have z1:((S0 w os).heap.isNs mainGlobals&&(S0 w os).gens.size==0)=true:=by kernel_rfl
 have z2:(S0 w os).heap.objs.size=11:=by kernel_rfl
 have z3:(S0 w os).heap.nsMap mainGlobals "__annotations__"=an0:=by kernel_rfl
 have t:topFrom treeTable p w N (S0 w os)=some (fin p n w os):=by unfold topFrom;rw[z1,z2,z3,r];have q:=l1 w os;show(match _ with|true=>_|false=>_)=_;rw[show(staticsOk (importedModules p.main.body) (S0 w os).heap (fin p n w os).heap&&namesBound p (fin p n w os).heap&&gensDone (fin p n w os)&&laidKept (S0 w os).heap (fin p n w os).heap)=true from q]
 unfold openEnds;rw[e];show(topFrom treeTable p w N _).map _=_;rw[t];exact cc some (DJ (l2 w os) (l3 w os))
end Hd
namespace qE
open PySem PySem.Spec PyProof.Rows L2
abbrev tO(vs:Aae):Obj:={.type "tuple",none,.seq vs.toArray 0,#[]}
abbrev cO(vs:Aae):Obj:={.type "code",none,.fields vs.toArray,#[]}
abbrev kO(P:Params)(x:Str)(t:Tok)(v:Value):DictEntry:={PyData.keyHash P x,.str x t,v}
abbrev fO(s:Stmt)(n q:Str)(pm cd:Value):Obj:={.type "function",none,.func (fnOf n q (defArgs s) (defBody s) (defScope s) .none .none .none pm none cd .none),#[]}
abbrev cF(x q:Str)(a b c:Tok)(l n:Int)(r r1:Addr)(v1 v2:Value)(r2:Addr)(i:Int)(d:Tok):Obj:=cO [.str x a,.str q b,.str "/claim/cut.py" c,.int l 0,.int n 0,.int 0 0,.int 0 0,.int 3 0,.ref r,.bool true,.int 181 0,.ref r1,.none,v1,v2,.ref r2,.int i 0,.int l 0,.str "/claim/cut.py" d]
abbrev cG(x:Str)(a b c:Tok)(l n:Int)(r r1:Addr)(v1 v2:Value)(r2:Addr)(i:Int)(d:Tok):Obj:=cF x x a b c l n r r1 v1 v2 r2 i d
abbrev fF(s:Stmt)(x:Str)(m:Value)(r:Addr):Obj:=fO s x x m (.ref r)
abbrev mO0:Value:=Value.str "askviews.terms" 187
abbrev mO1:Value:=Value.str "askviews.questions" 206
abbrev mO2:Value:=Value.str "askviews.tables" 218
abbrev mO3:Value:=Value.str "askviews.answers" 248
abbrev mO4:Value:=Value.str "askviews.rewriting" 380
abbrev mO5:Value:=Value.str "law_askviews_k60_candidates" 388
noncomputable def KF(P:Params):Frag:=
 (nat_lit 2,{.none,none,.dict #[] 0,#[]})::
 (nat_lit 3,{(.type "dict"),none,.dict #[kO P "__name__" 165 (.str "law_askviews_k60_candidates" 388),kO P "__doc__" 166 .none,kO P "__package__" 167 .none,kO P "__loader__" 168 (.builtin "__main__.__loader__#opaque"),kO P "__spec__" 169 .none,kO P "__annotations__" 170 (.ref 6),kO P "__builtins__" 171 (.ref 4),kO P "__file__" 173 (.str "/claim/cut.py" 172),kO P "__cached__" 174 .none,kO P "SIGNS" 190 (.str "abcdefghijklmnopqrstuvwxyz0123456789" 189),kO P "MOST_SIGNS" 192 (.int 8 191),kO P "is_value" 198 (.ref 19),kO P "is_unknown" 205 (.ref 26),kO P "unknowns_of" 217 (.ref 33),kO P "rows_of" 227 (.ref 40),kO P "tables_of" 237 (.ref 47),kO P "sorted_tables" 247 (.ref 54),kO P "answers" 257 (.ref 61),kO P "counts_of" 270 (.ref 68),kO P "needed_terms" 281 (.ref 75),kO P "Asking" 337 (.ref 112),kO P "narrowed" 351 (.ref 123),kO P "places_of" 361 (.ref 130),kO P "image" 367 (.ref 135),kO P "is_image" 373 (.ref 140),kO P "tails_by_key" 379 (.ref 145),kO P "candidates" 387 (.ref 150),kO P "_law_cell_at" 398 (.ref 157),kO P "_law_box" 407 (.ref 164),kO P "_law_take" 417 (.ref 171),kO P "_law_same" 423 (.ref 176),kO P "_law_atom" 436 (.ref 183),kO P "_law_unknowns" 446 (.ref 190),kO P "_law_question" 452 (.ref 195),kO P "_law_view" 458 (.ref 200),kO P "_law_views" 464 (.ref 205),kO P "_law_put" 476 (.ref 212),kO P "_law_maps" 491 (.ref 219),kO P "_law_image" 497 (.ref 224),kO P "_law_candidates" 503 (.ref 229),kO P "_law_right" 514 (.ref 236),kO P "law" 524 (.ref 243)] 42,#[]})::
 (nat_lit 15,tO [])::
 (nat_lit 18,cG "is_value" 193 194 195 4 1 15 16 .none .none 17 196 197)::
 (nat_lit 19,fF (top 3) "is_value" mO0 18)::
 (nat_lit 20,tO [])::
 (nat_lit 22,tO [(.str "thing" 202)])::
 (nat_lit 23,tO [])::
 (nat_lit 25,cG "is_unknown" 199 200 201 8 1 20 21 (.ref 22) (.ref 23) 24 203 204)::
 (nat_lit 26,fF (top 4) "is_unknown" mO0 25)::
 (nat_lit 27,tO [])::
 (nat_lit 29,tO [(.str "question" 211),(.str "found" 212),(.str "atom" 213),(.str "term" 214)])::
 (nat_lit 30,tO [])::
 (nat_lit 32,cG "unknowns_of" 208 209 210 11 1 27 28 (.ref 29) (.ref 30) 31 215 216)::
 (nat_lit 33,fF (top 6) "unknowns_of" mO1 32)::
 (nat_lit 34,tO [])::
 (nat_lit 36,tO [(.str "tables" 223),(.str "name" 224)])::
 (nat_lit 37,tO [])::
 (nat_lit 39,cG "rows_of" 220 221 222 19 2 34 35 (.ref 36) (.ref 37) 38 225 226)::
 (nat_lit 40,fF (top 8) "rows_of" mO2 39)::
 (nat_lit 41,tO [])::
 (nat_lit 43,tO [(.str "atoms" 231),(.str "tables" 232),(.str "name" 233),(.str "row" 234)])::
 (nat_lit 44,tO [])::
 (nat_lit 46,cG "tables_of" 228 229 230 21 1 41 42 (.ref 43) (.ref 44) 45 235 236)::
 (nat_lit 47,fF (top 9) "tables_of" mO2 46)::
 (nat_lit 48,tO [])::
 (nat_lit 50,tO [(.str "tables" 241),(.str "told" 242),(.str "name" 243),(.str "rows" 244)])::
 (nat_lit 51,tO [])::
 (nat_lit 53,cG "sorted_tables" 238 239 240 26 1 48 49 (.ref 50) (.ref 51) 52 245 246)::
 (nat_lit 54,fF (top 10) "sorted_tables" mO2 53)::
 (nat_lit 55,tO [])::
 (nat_lit 57,tO [(.str "question" 253),(.str "tables" 254)])::
 (nat_lit 58,tO [])::
 (nat_lit 60,cG "answers" 250 251 252 34 2 55 56 (.ref 57) (.ref 58) 59 255 256)::
 (nat_lit 61,fF (top 12) "answers" mO3 60)::
 (nat_lit 62,tO [])::
 (nat_lit 64,tO [(.str "question" 261),(.str "tables" 262),(.str "head" 263),(.str "atoms" 264),(.str "asking" 265),(.str "left" 266),(.str "atom" 267)])::
 (nat_lit 65,tO [])::
 (nat_lit 67,cG "counts_of" 258 259 260 36 2 62 63 (.ref 64) (.ref 65) 66 268 269)::
 (nat_lit 68,fF (top 13) "counts_of" mO3 67)::
 (nat_lit 69,tO [])::
 (nat_lit 71,tO [(.str "head" 274),(.str "atoms" 275),(.str "needed" 276),(.str "name" 277),(.str "terms" 278)])::
 (nat_lit 72,tO [])::
 (nat_lit 74,cG "needed_terms" 271 272 273 44 2 69 70 (.ref 71) (.ref 72) 73 279 280)::
 (nat_lit 75,fF (top 14) "needed_terms" mO3 74)::
 (nat_lit 83,tO [])::
 (nat_lit 85,tO [(.str "self" 297),(.str "tables" 298)])::
 (nat_lit 86,tO [])::
 (nat_lit 88,cF "__init__" "Asking.__init__" 294 295 296 51 2 83 84 (.ref 85) (.ref 86) 87 299 300)::
 (nat_lit 89,fO (inClass (top 15) 0) "__init__" "Asking.__init__" mO3 (.ref 88))::
 (nat_lit 90,tO [])::
 (nat_lit 93,cF "best_place" "Asking.best_place" 302 303 304 57 2 90 91 .none .none 92 305 306)::
 (nat_lit 94,fO (inClass (top 15) 1) "best_place" "Asking.best_place" mO3 (.ref 93))::
 (nat_lit 95,tO [])::
 (nat_lit 98,cF "take" "Asking.take" 308 309 310 67 3 95 96 .none .none 97 311 312)::
 (nat_lit 99,fO (inClass (top 15) 2) "take" "Asking.take" mO3 (.ref 98))::
 (nat_lit 100,tO [])::
 (nat_lit 103,cF "fresh_unknowns" "Asking.fresh_unknowns" 314 315 316 76 2 100 101 .none .none 102 317 318)::
 (nat_lit 104,fO (inClass (top 15) 3) "fresh_unknowns" "Asking.fresh_unknowns" mO3 (.ref 103))::
 (nat_lit 105,tO [])::
 (nat_lit 108,cF "tails_of_maps" "Asking.tails_of_maps" 320 321 322 79 2 105 106 .none .none 107 323 324)::
 (nat_lit 109,fO (inClass (top 15) 4) "tails_of_maps" "Asking.tails_of_maps" mO3 (.ref 108))::
 (nat_lit 110,tO [(.str "kept" 326),(.str "maps" 327),(.str "tables" 328),(.str "tails" 329)])::
 (nat_lit 111,{(.type "dict"),none,.dict #[kO P "__module__" 289 (.str "askviews.answers" 248),kO P "__firstlineno__" 293 (.int 49 292),kO P "__init__" 301 (.ref 89),kO P "best_place" 307 (.ref 94),kO P "take" 313 (.ref 99),kO P "fresh_unknowns" 319 (.ref 104),kO P "tails_of_maps" 325 (.ref 109),kO P "__static_attributes__" 330 (.ref 110),kO P "__dict__" 332 (.ref 113),kO P "__weakref__" 334 (.ref 114),kO P "__doc__" 335 .none] 4,#[]})::
 (nat_lit 112,{(.type "type"),none,.cls {"Asking",[(.type "object")],[(.ref 112),(.type "object")],111,"Asking",true,[],[],false,none,false},#[none,none,some (.str "Asking" 282),some (.str "Asking" 290),some (.builtin "object.__new__"),some (.bool true)]})::
 (nat_lit 113,{(.type "getset_descriptor"),none,.fields #[(.str "__dict__" 331),(.ref 112),(.builtin "function.__dict__"),(.builtin "function.__dict__#set")],#[]})::
 (nat_lit 114,{(.type "getset_descriptor"),none,.fields #[(.str "__weakref__" 333),(.ref 112),(.builtin "ExceptionGroup.__weakref__"),.none],#[]})::
 (nat_lit 117,tO [])::
 (nat_lit 119,tO [(.str "counted_maps" 341),(.str "unknowns" 342),(.str "terms" 343),(.str "places" 344),(.str "counts" 345),(.str "given" 346),(.str "count" 347),(.str "row" 348)])::
 (nat_lit 120,tO [])::
 (nat_lit 122,cG "narrowed" 338 339 340 88 3 117 118 (.ref 119) (.ref 120) 121 349 350)::
 (nat_lit 123,fF (top 16) "narrowed" mO3 122)::
 (nat_lit 124,tO [])::
 (nat_lit 126,tO [(.str "unknowns" 355),(.str "places" 356),(.str "place" 357),(.str "unknown" 358)])::
 (nat_lit 127,tO [])::
 (nat_lit 129,cG "places_of" 352 353 354 95 1 124 125 (.ref 126) (.ref 127) 128 359 360)::
 (nat_lit 130,fF (top 17) "places_of" mO3 129)::
 (nat_lit 131,tO [])::
 (nat_lit 134,cG "image" 362 363 364 100 3 131 132 .none .none 133 365 366)::
 (nat_lit 135,fF (top 18) "image" mO3 134)::
 (nat_lit 136,tO [])::
 (nat_lit 139,cG "is_image" 368 369 370 102 2 136 137 .none .none 138 371 372)::
 (nat_lit 140,fF (top 19) "is_image" mO3 139)::
 (nat_lit 141,tO [])::
 (nat_lit 144,cG "tails_by_key" 374 375 376 106 4 141 142 .none .none 143 377 378)::
 (nat_lit 145,fF (top 20) "tails_by_key" mO3 144)::
 (nat_lit 146,tO [])::
 (nat_lit 149,cG "candidates" 382 383 384 114 2 146 147 .none .none 148 385 386)::
 (nat_lit 150,fF (top 22) "candidates" mO4 149)::
 (nat_lit 151,tO [])::
 (nat_lit 153,tO [(.str "_law_script" 393),(.str "_law_k" 394),(.str "_law_seed" 395)])::
 (nat_lit 154,tO [])::
 (nat_lit 156,cG "_law_cell_at" 390 391 392 121 2 151 152 (.ref 153) (.ref 154) 155 396 397)::
 (nat_lit 157,fF (top 24) "_law_cell_at" mO5 156)::
 (nat_lit 158,tO [])::
 (nat_lit 160,tO [(.str "_law_script" 402),(.str "_law_k" 403),(.str "_law_cell" 404)])::
 (nat_lit 161,tO [])::
 (nat_lit 163,cG "_law_box" 399 400 401 128 2 158 159 (.ref 160) (.ref 161) 162 405 406)::
 (nat_lit 164,fF (top 25) "_law_box" mO5 163)::
 (nat_lit 165,tO [])::
 (nat_lit 167,tO [(.str "_law_box_here" 411),(.str "_law_many" 412),(.str "_law_found" 413),(.str "_law_mixed" 414)])::
 (nat_lit 168,tO [])::
 (nat_lit 170,cG "_law_take" 408 409 410 131 2 165 166 (.ref 167) (.ref 168) 169 415 416)::
 (nat_lit 171,fF (top 26) "_law_take" mO5 170)::
 (nat_lit 172,tO [])::
 (nat_lit 175,cG "_law_same" 418 419 420 139 2 172 173 .none .none 174 421 422)::
 (nat_lit 176,fF (top 27) "_law_same" mO5 175)::
 (nat_lit 177,tO [])::
 (nat_lit 179,tO [(.str "_law_box_here" 427),(.str "_law_pool" 428),(.str "_law_name" 429),(.str "_law_many" 430),(.str "_law_terms" 431),(.str "_law_k" 432),(.str "_law_term" 433)])::
 (nat_lit 180,tO [])::
 (nat_lit 182,cG "_law_atom" 424 425 426 152 2 177 178 (.ref 179) (.ref 180) 181 434 435)::
 (nat_lit 183,fF (top 28) "_law_atom" mO5 182)::
 (nat_lit 184,tO [])::
 (nat_lit 186,tO [(.str "_law_atoms" 440),(.str "_law_found" 441),(.str "_law_atom_here" 442),(.str "_law_term" 443)])::
 (nat_lit 187,tO [])::
 (nat_lit 189,cG "_law_unknowns" 437 438 439 161 1 184 185 (.ref 186) (.ref 187) 188 444 445)::
 (nat_lit 190,fF (top 29) "_law_unknowns" mO5 189)::
 (nat_lit 191,tO [])::
 (nat_lit 194,cG "_law_question" 447 448 449 168 2 191 192 .none .none 193 450 451)::
 (nat_lit 195,fF (top 30) "_law_question" mO5 194)::
 (nat_lit 196,tO [])::
 (nat_lit 199,cG "_law_view" 453 454 455 179 2 196 197 .none .none 198 456 457)::
 (nat_lit 200,fF (top 31) "_law_view" mO5 199)::
 (nat_lit 201,tO [])::
 (nat_lit 204,cG "_law_views" 459 460 461 204 3 201 202 .none .none 203 462 463)::
 (nat_lit 205,fF (top 32) "_law_views" mO5 204)::
 (nat_lit 206,tO [])::
 (nat_lit 208,tO [(.str "_law_atom_here" 468),(.str "_law_goal" 469),(.str "_law_filled" 470),(.str "_law_more" 471),(.str "_law_k" 472),(.str "_law_term" 473)])::
 (nat_lit 209,tO [])::
 (nat_lit 211,cG "_law_put" 465 466 467 210 3 206 207 (.ref 208) (.ref 209) 210 474 475)::
 (nat_lit 212,fF (top 33) "_law_put" mO5 211)::
 (nat_lit 213,tO [])::
 (nat_lit 215,tO [(.str "_law_atoms" 480),(.str "_law_goals" 481),(.str "_law_first" 482),(.str "_law_maps_here" 483),(.str "_law_atom_here" 484),(.str "_law_wider" 485),(.str "_law_filled" 486),(.str "_law_goal" 487),(.str "_law_more" 488)])::
 (nat_lit 216,tO [])::
 (nat_lit 218,cG "_law_maps" 477 478 479 224 3 213 214 (.ref 215) (.ref 216) 217 489 490)::
 (nat_lit 219,fF (top 34) "_law_maps" mO5 218)::
 (nat_lit 220,tO [])::
 (nat_lit 223,cG "_law_image" 492 493 494 235 2 220 221 .none .none 222 495 496)::
 (nat_lit 224,fF (top 35) "_law_image" mO5 223)::
 (nat_lit 225,tO [])::
 (nat_lit 228,cG "_law_candidates" 498 499 500 237 2 225 226 .none .none 227 501 502)::
 (nat_lit 229,fF (top 36) "_law_candidates" mO5 228)::
 (nat_lit 230,tO [])::
 (nat_lit 232,tO [(.str "_law_views_here" 507),(.str "_law_question_here" 508),(.str "_law_due" 509),(.str "_law_handed" 510),(.str "_law_found" 511)])::
 (nat_lit 233,tO [])::
 (nat_lit 235,cG "_law_right" 504 505 506 244 2 230 231 (.ref 232) (.ref 233) 234 512 513)::
 (nat_lit 236,fF (top 37) "_law_right" mO5 235)::
 (nat_lit 237,tO [])::
 (nat_lit 239,tO [(.str "_law_script" 518),(.str "_law_k" 519),(.str "_law_question_here" 520),(.str "_law_views_here" 521)])::
 (nat_lit 240,tO [])::
 (nat_lit 242,cG "law" 515 516 517 253 1 237 238 (.ref 239) (.ref 240) 241 522 523)::
 (nat_lit 243,fF (top 38) "law" mO5 242)::[]
noncomputable def asF:Aah:=[2,3,15,18,19,20,22,23,25,26,27,29,30,32,33,34,36,37,39,40,41,43,44,46,47,48,50,51,53,54,55,57,58,60,61,62,64,65,67,68,69,71,72,74,75,83,85,86,88,89,90,93,94,95,98,99,100,103,104,105,108,109,110,111,112,113,114,117,119,120,122,123,124,126,127,129,130,131,134,135,136,139,140,141,144,145,146,149,150,151,153,154,156,157,158,160,161,163,164,165,167,168,170,171,172,175,176,177,179,180,182,183,184,186,187,189,190,191,194,195,196,199,200,201,204,205,206,208,209,211,212,213,215,216,218,219,220,223,224,225,228,229,230,232,233,235,236,237,239,240,242,243]
def HF:PySem.W.Hook:=PySem.W.kHook KF asF λ_=>by kernel_rfl
noncomputable def qf(p:Program):Program:={p with main:={p.main with body:=[1,2,3,4,6,8,9,10,12,13,14,15,16,17,18,19,20,22,24,25,26,27,28,29,30,31,32,33,34,35,36,37,38].filterMap λi=>p.main.body[i]?}}
abbrev XF(p:Program)(s:Shared):Bool:=PySem.W.xlAt (qf p) [] s&&PySem.W.recOk [] s
abbrev LF(p:Program):Prop:=PySem.W.LeftO p (qf p) [] (XF p) (PySem.W.Hook.obs HF) (PySem.W.Hook.val HF) 2752
abbrev pL:Program:=PySem.Challenge.pw_askviews_k60_candidates
def okL:Hd.Ok pL 1314:={λw os=>by kernel_rfl,λw os=>by kernel_rfl,λw os=>by kernel_rfl,λw os=>by kernel_rfl}
def l1L(w:World)(os:OsState):(PySem.W.staticsOk (importedModules pL.main.body) (PySem.W.boot_heap w.params) (Hd.fin pL 1314 w os).heap&&PySem.W.namesBound pL (Hd.fin pL 1314 w os).heap&&PySem.W.gensDone (Hd.fin pL 1314 w os)&&PySem.W.laidKept (PySem.W.boot_heap w.params) (Hd.fin pL 1314 w os).heap)=true:=by kernel_rfl
def l2L(w:World)(os:OsState):PySem.W.Fast.tw4187177175401517315 (qf pL) [] (importedModules pL.main.body) (XF pL) true (Hd.fin pL 1314 w os)=PySem.W.openGood (qf pL) []:=by kernel_rfl
def l3L(w:World)(os:OsState):asF.map (Hd.fin pL 1314 w os).heap.get?=(KF w.params).map λp=>some p.2:=by kernel_rfl
def headL:LF pL:=Hd.left (n:=1314) okL (by kernel_rfl) (by kernel_rfl) (by kernel_rfl) (λs=>by kernel_rfl) l1L (λw os=>by rw[PySem.W.Fast.te4187177175401517315];exact l2L w os) l3L
def head:LF PySem.Challenge.pw_askviews_k60_candidates:=headL
def Yz{K:Frag}(hO:Oo H)(h:br K H a xs):CG K H a xs:=by
 rcases h with(h|h)|h
 ·rcases hO a with e|⟨o,ys,e⟩
  ·rw[e]at h;cases h
  ·rw[e]at h;cases h
 ·exact .inl h
 ·exact .inr h
def FN(K:Frag)(x:Str)(st:Stmt):Prop:=∃f fd,nsIn K mainGlobals x=some (some (.ref f))/\eX K x x st f fd
def abY{K:Frag}{x:Str}{st:Stmt}{f:Addr}{oc:Value}{od an:Aai}{An:Array (Aag)}{kV doc pm c6 ct:Value}(a:nsIn K mainGlobals x=some (some (.ref f)))(l:K.lookup f=some {oc,od,.func (fnOf x x (defArgs st) (defBody st) (defScope st) .none kV doc pm an c6 ct),An})(c:codeIn K c6 x=true)(k:keepIn K (.ref f)=true):FN K x st:={f,_,a,QQ l c k}
section
variable{K:Frag}{h base:Heap}{x q p p2 r s:Str}{st:Stmt}{mg:Aab}{f C:Addr}{fd:FuncData}{P:Program}{w:World}{k:Nat}{sp:Sp}{ps:Aaf}
def N9(b:FN K x st)(hb:∀f fd,eX K x x st f fd->Binds K fd ps [])(X:K.In h)(G:h.Ns mainGlobals mg)(ok:∀f fd,eX K x x st f fd->cU P w K mg base fm k f fd ps sp):cR P w K mg base k x ps sp:=
 have⟨f,fd,a,F⟩:=b
 {f,fd,ok f fd F,ph X G a,F.kp,hb f fd F}
abbrev Bd1(x q:Str)(st:Stmt)(p:Str):Prop:=(λ(a kV doc pm c6 ct:Value)(an:Aai)=>bindArgs (fnOf x q (defArgs st) (defBody st) (defScope st) .none kV doc pm an c6 ct) {[a],[]})=λa _ _ _ _ _ _=>pure [(p,a)]
def bd1(F:eX K x q st f fd)(h:Bd1 x q st p):Binds K fd [p] []:=F.binds λk1 k2 k3 k4 k5 k6 us hl=>by rcases us with _|⟨a,_|⟨e,us⟩⟩<;>first|exact cz (cz (cz (cz (cz (cz (cz h a) k1) k2) k3) k5) k6) k4|cases hl
def d1(P:Program)(w:World)(base:Heap)(X:K.In h)(G:h.Ns mainGlobals mg)(b:FN K x st)(ok:∀f fd,eX K x x st f fd->cU P w K mg base fm k f fd [p] sp)(h:Bd1 x x st p:=by rfl):cR P w K mg base k x [p] sp:=N9 b (λ_ _ F=>bd1 F h) X G ok
abbrev Bd2(x q:Str)(st:Stmt)(p p2:Str):Prop:=(λ(a b kV doc pm c6 ct:Value)(an:Aai)=>bindArgs (fnOf x q (defArgs st) (defBody st) (defScope st) .none kV doc pm an c6 ct) {[a,b],[]})=λa b _ _ _ _ _ _=>pure [(p,a),(p2,b)]
def bd2(F:eX K x q st f fd)(h:Bd2 x q st p p2):Binds K fd [p,p2] []:=F.binds λk1 k2 k3 k4 k5 k6 us hl=>by rcases us with _|⟨a,_|⟨b,_|⟨e,us⟩⟩⟩<;>first|exact cz (cz (cz (cz (cz (cz (cz (cz h a) b) k1) k2) k3) k5) k6) k4|cases hl
def d2(P:Program)(w:World)(base:Heap)(X:K.In h)(G:h.Ns mainGlobals mg)(b:FN K x st)(ok:∀f fd,eX K x x st f fd->cU P w K mg base fm k f fd [p,p2] sp)(h:Bd2 x x st p p2:=by rfl):cR P w K mg base k x [p,p2] sp:=N9 b (λ_ _ F=>bd2 F h) X G ok
abbrev Bd3(x q:Str)(st:Stmt)(p p2 r:Str):Prop:=(λ(a b c kV doc pm c6 ct:Value)(an:Aai)=>bindArgs (fnOf x q (defArgs st) (defBody st) (defScope st) .none kV doc pm an c6 ct) {[a,b,c],[]})=λa b c _ _ _ _ _ _=>pure [(p,a),(p2,b),(r,c)]
def bd3(F:eX K x q st f fd)(h:Bd3 x q st p p2 r):Binds K fd [p,p2,r] []:=F.binds λk1 k2 k3 k4 k5 k6 us hl=>by rcases us with _|⟨a,_|⟨b,_|⟨c,_|⟨e,us⟩⟩⟩⟩<;>first|exact cz (cz (cz (cz (cz (cz (cz (cz (cz h a) b) c) k1) k2) k3) k5) k6) k4|cases hl
def d3(P:Program)(w:World)(base:Heap)(X:K.In h)(G:h.Ns mainGlobals mg)(b:FN K x st)(ok:∀f fd,eX K x x st f fd->cU P w K mg base fm k f fd [p,p2,r] sp)(h:Bd3 x x st p p2 r:=by rfl):cR P w K mg base k x [p,p2,r] sp:=N9 b (λ_ _ F=>bd3 F h) X G ok
abbrev Bd4(x q:Str)(st:Stmt)(p p2 r s:Str):Prop:=(λ(a b c d kV doc pm c6 ct:Value)(an:Aai)=>bindArgs (fnOf x q (defArgs st) (defBody st) (defScope st) .none kV doc pm an c6 ct) {[a,b,c,d],[]})=λa b c d _ _ _ _ _ _=>pure [(p,a),(p2,b),(r,c),(s,d)]
def bd4(F:eX K x q st f fd)(h:Bd4 x q st p p2 r s):Binds K fd [p,p2,r,s] []:=F.binds λk1 k2 k3 k4 k5 k6 us hl=>by rcases us with _|⟨a,_|⟨b,_|⟨c,_|⟨d,_|⟨e,us⟩⟩⟩⟩⟩<;>first|exact cz (cz (cz (cz (cz (cz (cz (cz (cz (cz h a) b) c) d) k1) k2) k3) k5) k6) k4|cases hl
def d4(P:Program)(w:World)(base:Heap)(X:K.In h)(G:h.Ns mainGlobals mg)(b:FN K x st)(ok:∀f fd,eX K x x st f fd->cU P w K mg base fm k f fd [p,p2,r,s] sp)(h:Bd4 x x st p p2 r s:=by rfl):cR P w K mg base k x [p,p2,r,s] sp:=N9 b (λ_ _ F=>bd4 F h) X G ok
def MN(K:Frag)(C:Addr)(x q:Str)(st:Stmt):Prop:=∃f fd,findIn K (.ref C) x=some (some (.ref f))/\isFn K (.ref f)=true/\eX K x q st f fd
def abC{K:Frag}{x q:Str}{st:Stmt}{f C:Addr}{oc:Value}{od an:Aai}{An:Array (Aag)}{kV doc pm c6 ct:Value}(a:findIn K (.ref C) x=some (some (.ref f)))(i:isFn K (.ref f)=true)(l:K.lookup f=some {oc,od,.func (fnOf x q (defArgs st) (defBody st) (defScope st) .none kV doc pm an c6 ct),An})(c:codeIn K c6 q=true)(k:keepIn K (.ref f)=true):MN K C x q st:={f,_,a,i,QQ l c k}
def m2(P:Program)(w:World)(base:Heap)(mg:Aab)(b:MN K C x q st)(ok:∀f fd,eX K x q st f fd->cU P w K mg base fm k f fd [p,p2] sp)(h:Bd2 x q st p p2:=by rfl):qC P w K mg base C k x [p,p2] sp:=
 have⟨f,fd,a,i,F⟩:=b
 {f,fd,ok f fd F,{a,i,F.kp},bd2 F h}
def m3(P:Program)(w:World)(base:Heap)(mg:Aab)(b:MN K C x q st)(ok:∀f fd,eX K x q st f fd->cU P w K mg base fm k f fd [p,p2,r] sp)(h:Bd3 x q st p p2 r:=by rfl):qC P w K mg base C k x [p,p2,r] sp:=
 have⟨f,fd,a,i,F⟩:=b
 {f,fd,ok f fd F,{a,i,F.kp},bd3 F h}
end
def all_mk{l:PySem.W.OpenLaw}{w:World}{K:Frag}{h:Heap}{mg:Aab}{fa C0:Addr}{t0 t1:Tok}(X:K.In h)(G:h.Ns mainGlobals mg)(hfa:mg "law"=some (.ref fa))
  (yM:FN K "is_value" yh)
  (u7:FN K "is_unknown" uD)
  (sR:FN K "unknowns_of" sO)
  (A5:FN K "rows_of" zZ)
  (wJ:FN K "tables_of" wz)
  (qw:FN K "sorted_tables" pW)
  (A9:FN K "answers" Ad)
  (wM:FN K "counts_of" wC)
  (rD:FN K "needed_terms" qV)
  (yL:FN K "narrowed" yf)
  (wK:FN K "places_of" wA)
  (FL:FN K "image" Fg)
  (yN:FN K "is_image" yi)
  (rC:FN K "tails_by_key" qU)
  (u9:FN K "candidates" uE)
  (wL:FN K "_law_cell_at" wB)
  (FK:FN K "_law_box" Ff)
  (DD:FN K "_law_take" CV)
  (pw:FN K "_law_same" yg)
  (DF:FN K "_law_atom" CY)
  (u5:FN K "_law_unknowns" uB)
  (u6:FN K "_law_question" uC)
  (DC:FN K "_law_view" CU)
  (A6:FN K "_law_views" Aa)
  (FJ:FN K "_law_put" Fe)
  (DE:FN K "_law_maps" CW)
  (A8:FN K "_law_image" Ac)
  (rF:FN K "_law_candidates" qX)
  (A7:FN K "_law_right" Ab)
  (Oh:FN K "law" M4)
  (cA0:nsIn K mainGlobals "Asking"=some (some (.ref C0)))
  (TY:plainGet K C0 Str.empty=true)
  (T3:hasDictIn K C0=true)
  (TX:PySem.W.plainOver K C0=true)
  (TV:findIn K (.ref C0) "__setattr__"=some (some (.builtin "object.__setattr__")))
  (T1:PySem.W.makesIn K C0=true)
  (T2:keepIn K (.ref C0)=true)
  (A3:findIn K (.ref C0) "tables"=some none)
  (FF:findIn K (.ref C0) "kept"=some none)
  (FE:findIn K (.ref C0) "maps"=some none)
  (Dw:findIn K (.ref C0) "tails"=some none)
  (u4:MN K C0 "__init__" "Asking.__init__" uA)
  (rE:MN K C0 "best_place" "Asking.best_place" qW)
  (DB:MN K C0 "take" "Asking.take" CS)
  (ny:MN K C0 "fresh_unknowns" "Asking.fresh_unknowns" m8)
  (oE:MN K C0 "tails_of_maps" "Asking.tails_of_maps" oC)
  (z0:nsIn K mainGlobals "len"=some none)
  (z1:nsIn K mainGlobals "range"=some none)
  (z2:nsIn K mainGlobals "tuple"=some none)
  (z3:nsIn K mainGlobals "list"=some none)
  (z4:nsIn K mainGlobals "isinstance"=some none)
  (z5:nsIn K mainGlobals "all"=some none)
  (z6:nsIn K mainGlobals "str"=some none)
  (z7:nsIn K mainGlobals "bool"=some none)
  (z8:nsIn K mainGlobals "int"=some none)
  (z9:nsIn K mainGlobals "dict"=some none)
  (XR:nsIn K mainGlobals "enumerate"=some none)
  (XQ:nsIn K mainGlobals "zip"=some none)
  (XO:nsIn K mainGlobals "sum"=some none)
  (XN:nsIn K mainGlobals "sorted"=some none)
  (XM:nsIn K mainGlobals "set"=some none)
  (XJ:nsIn K mainGlobals "max"=some none)
  (XI:nsIn K mainGlobals "min"=some none)
  (Zo:nsIn K mainGlobals "SIGNS"=some (some (.str "abcdefghijklmnopqrstuvwxyz0123456789" t0)))
  (Zn:nsIn K mainGlobals "MOST_SIGNS"=some (some (.int 8 t1)))
  :∃fd:FuncData,(∀(s:Shared)(v:Value),BindsTo s fd {[v],[]} [("_law_script",v)])/\∀base:Heap,K.In base->base.Ns mainGlobals mg->cU l.prog w K mg base fm 11 fa fd ["_law_script"] (He K):=by
 obtain⟨f,fd,a,F⟩:=Oh;have e:=hfa.symm.trans (ph X G a);cases e;have T:Txt K mg:={b7 X G z0,b7 X G z1,b7 X G z2,b7 X G z3,b7 X G z4,b7 X G z5,b7 X G z6,b7 X G z7,b7 X G z8,b7 X G z9,b7 X G XR,b7 X G XQ,b7 X G XO,b7 X G XN,b7 X G XM,b7 X G XJ,b7 X G XI,{_,ph X G Zo},{_,ph X G Zn}};refine{fd,?_,λbase _ _=>?_}
 ·obtain⟨_,_,_,_,_,_,_,_,_,rfl,_,_⟩:=F.ex
  exactλs v=>.of_eq rfl
 have ES:=d1 l.prog w base X G yM λ_ _ F=>KJ F T;have J4:=d1 l.prog w base X G u7 λ_ _ F=>G9 F T ⟨ES⟩;have Hc:=d1 l.prog w base X G sR λ_ _ F=>Fp F T {⟨ES⟩,J4};have AY:=d2 l.prog w base X G A5 λ_ _ F=>Nj F T;have CA:=d1 l.prog w base X G wK λ_ _ F=>IQ F T;have Mz:=d3 l.prog w base X G FL λ_ _ F=>SA F T;have Oa:=d2 l.prog w base X G yN λ_ _ F=>KL F T;have Fz:=d4 l.prog w base X G rC λ_ _ F=>Eg F T ⟨Oa⟩;have ER:=d3 l.prog w base X G yL λ_ _ F=>KI F T ⟨CA,Mz⟩;have FA:=d2 l.prog w base X G rD λ_ _ F=>Eh F T;have O:DK K C0:={⟨TY,T3,TX,TV⟩,A3,FF,FE,Dw};have iE:=m2 l.prog w base mg ny λ_ _ F=>SD F T O ⟨Hc⟩;have je:=m2 l.prog w base mg oE λ_ _ F=>Sx F T O {⟨CA,Mz⟩,iE,AY,Fz};have uQ:=m2 l.prog w base mg rE λ_ _ F=>WR F T O ⟨je⟩;have Je:=m3 l.prog w base mg DB λ_ _ F=>Sw F T O ⟨iE,je,ER⟩;obtain⟨fi,fdi,ai,ii,Fi⟩:=u4;have k_A:Kq l.prog w K mg base C0 1 "Asking" ["self","tables"] (HU l.prog w K C0):={_,_,⟨T1,ai,ii,T2⟩,Sz Fi T O,ph X G cA0,bd2 Fi rfl};have K1:=d2 l.prog w base X G wM λ_ _ F=>IT F T O ⟨k_A,uQ,Je,FA,ER⟩;have Rh:=d2 l.prog w base X G A9 λ_ _ F=>Nk F T ⟨K1⟩;have EO:=d1 l.prog w base X G qw λ_ _ F=>Dc F T ⟨AY⟩;have KY:=d1 l.prog w base X G wJ λ_ _ F=>IP F T {⟨AY⟩,EO};have A1:=d2 l.prog w base X G u9 λ_ _ F=>Ha F T ⟨KY,Rh⟩;have KZ:=d2 l.prog w base X G wL λ_ _ F=>WQ F T;have My:=d2 l.prog w base X G FK λ_ _ F=>Y2 F T ⟨KZ⟩;have yI:=d2 l.prog w base X G DD λ_ _ F=>WO F T;have TQ:=d2 l.prog w base X G DF λ_ _ F=>SF F T ⟨yI⟩;have AZ:=d1 l.prog w base X G u5 λ_ _ F=>IM F T;have A0:=d2 l.prog w base X G u6 λ_ _ F=>Pk F T {⟨yI⟩,TQ,AZ};have Rf:=d2 l.prog w base X G A8 λ_ _ F=>Y0 F T;have Xp:=d3 l.prog w base X G FJ λ_ _ F=>YZ F T;have TN:=d3 l.prog w base X G DE λ_ _ F=>Sy F T ⟨Xp⟩;have FC:=d2 l.prog w base X G rF λ_ _ F=>SE F T ⟨TN,Rf⟩;have TM:=d2 l.prog w base X G DC λ_ _ F=>Sv F T ⟨yI,A0,AZ⟩;have Q7:=d3 l.prog w base X G A6 λ_ _ F=>Ph F T ⟨yI,My,TM⟩;have Q8:=d2 l.prog w base X G pw λ_ _ F=>WT F;have Rb:=d2 l.prog w base X G pw λ_ _ F=>yu (n:=0) F T ⟨Q8⟩;have Ra:=d2 l.prog w base X G pw λ_ _ F=>yu (n:=1) F T ⟨Rb⟩;have Q9:=d2 l.prog w base X G pw λ_ _ F=>yu (n:=2) F T ⟨Ra⟩;have GQ:=d2 l.prog w base X G pw λ_ _ F=>yu (n:=3) F T ⟨Q9⟩;have Rc:=d2 l.prog w base X G A7 λ_ _ F=>Pj F T ⟨FC,A1,GQ⟩;exact Y1 F T ⟨My,A0,Q7,Rc,A1,GQ⟩
def walk{l:PySem.W.OpenLaw}{K:Params->Frag}(hn:l.most=some 63)(QC:d.params.defaults=[])
  (hY:∀(w:World)(h:Heap),YP w h->(K w.params).In h)
  (F:∀(w:World)(mg:Aab)(fa:Addr)(h:Heap),(K w.params).In h->h.Ns mainGlobals mg->mg d.name=some (.ref fa)->
   ∃fd:FuncData,(∀(s:Shared)(u:Value),BindsTo s fd {[u],[]} [("_law_script",u)])/\∀base:Heap,(K w.params).In base->base.Ns mainGlobals mg->cU l.prog w (K w.params) mg base fm 11 fa fd ["_law_script"] (He (K w.params))):
  PySem.W.WalkO q loose XP YP l.row.toRowW d [] (λf vs=>PySem.call f vs):=
 L2.V2 (n:=63) (k:=11) (x:="_law_script") (CX:=λ_=>fm) (sp:=λw=>He (K w.params)) hn (by decide) QC {rfl,by decide,by decide} hY F (λ_ H a ns hl hO hS=>{a,ns,rfl,Yz hO hS,hl,λ_=>rfl}) λ_ _ _ _ _ z=>z
end qE
open PySem PySem.W PyProof.Rows
set_option maxHeartbeats 0 in
theorem PySem.Challenge.cw_askviews_k60_candidates_holds : PySem.Challenge.rw_askviews_k60_candidates.Holds := by
 w_on;refine holds_law (by rw[PySem.W.Fast.te9446332074065402090];kernel_rfl) λad9=>?_
 refine holds_open (q:=qE.qf PySem.Challenge.pw_askviews_k60_candidates) (loose:=[]) (Xt:=qE.XF PySem.Challenge.pw_askviews_k60_candidates) (XP:=XL (qE.qf PySem.Challenge.pw_askviews_k60_candidates) []) (Yf:=Hook.obs qE.HF) (Ya:=Hook.val qE.HF) (YP:=Hook.says qE.HF) (N:=2752) qE.head (Hook.of qE.HF) (Hook.keeps qE.HF)
  (λs e=>xl_of s (qH.mp e).1) XL.keeps (by rfl) (by rfl) (by rfl) (λs e=>recFacts_of (qH.mp e).2) (by rfl) (by first|assumption|decide+kernel) (by decide+kernel) {rfl,rfl,rfl,rfl,rfl,by decide+kernel} ?hw ?hc
 case hw=>w_witness2
 case hc=>
 unfold qE.HF
 k_fill
 refine qE.walk (l:=PySem.Challenge.rw_askviews_k60_candidates) rfl rfl (λw h Y=>PySem.W.kIn_of Y) ?F
 case F=>
  intro w mg fa h KX G Qs
  refine' qE.all_mk KX G Qs ?yM ?u7 ?sR ?A5 ?wJ ?qw ?A9 ?wM ?rD ?yL ?wK ?FL ?yN ?rC ?u9 ?wL ?FK ?DD ?pw ?DF ?u5 ?u6 ?DC ?A6 ?FJ ?DE ?A8 ?rF ?A7 ?Oh ?cA0 ?TY ?T3 ?TX ?TV ?T1 ?T2 ?A3 ?FF ?FE ?Dw ?u4 ?rE ?DB ?ny ?oE ?z0 ?z1 ?z2 ?z3 ?z4 ?z5 ?z6 ?z7 ?z8 ?z9 ?XR ?XQ ?XO ?XN ?XM ?XJ ?XI ?Zo ?Zn
  case yM|u7|sR|A5|wJ|qw|A9|wM|rD|yL|wK|FL|yN|rC|u9|wL|FK|DD|pw|DF|u5|u6|DC|A6|FJ|DE|A8|rF|A7|Oh=>refine' qE.abY ?a ?l ?c ?k;case a|l|c|k=>k_is
  case cA0|TY|T3|TX|TV|T1|T2|A3|FF|FE|Dw=>k_is
  case u4|rE|DB|ny|oE=>refine' qE.abC ?a ?i ?l ?c ?k;case a|i|l|c|k=>k_is
  case z0|z1|z2|z3|z4|z5|z6|z7|z8|z9|XR|XQ|XO|XN|XM|XJ|XI|Zo|Zn=>k_is
